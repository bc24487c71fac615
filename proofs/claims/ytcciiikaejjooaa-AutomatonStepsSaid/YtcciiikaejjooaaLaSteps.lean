/- The law AutomatonSteps, walked. -/
import Derived.Test.YtcciiikaejjooaaaPre
import Derived.Deep.RegionHeld3
import Derived.Deep.CutRange
namespace Go.Proofs.Ytcciiikaejjooaa
open Go.RowKit Go.Sort
attribute [local go_sem ↓] exec_load_graph'
attribute [local go_sem] blkOf_ptr

set_option maxHeartbeats 8000000 in
set_option maxRecDepth 100000 in
theorem lawSteps (x : Int) (gv : Nat → Value) (q ev : Int) (W : World) (S0 : (Lit.int .u8 x).wf = true) (S1 : GrC #[gv 0, gv 1, gv 2, gv 3, gv 4, gv 5, gv 6, gv 7, gv 8, gv 9, gv 10, gv 11, gv 12, gv 13, gv 14, gv 15, gv 16, gv 17, gv 18, gv 19, gv 20, gv 21, gv 22, gv 23, gv 24, gv 25, gv 26]) :
    Calls Try.prog 6 #[.int .u8 x, .agg #[gv 0, gv 1, gv 2, gv 3, gv 4, gv 5, gv 6, gv 7, gv 8, gv 9, gv 10, gv 11, gv 12, gv 13, gv 14, gv 15, gv 16, gv 17, gv 18, gv 19, gv 20, gv 21, gv 22, gv 23, gv 24, gv 25, gv 26], .agg #[.int .i64 q, .int .i64 ev]] W fun e W' => e = .returned (.bool true) ∧ Below W.heap.size W W' := by
  have HL0 := Lib.hid (by have h := (LW.first W [gv 0, gv 1, gv 2, gv 3, gv 4, gv 5, gv 6, gv 7, gv 8, gv 9, gv 10, gv 11, gv 12, gv 13, gv 14, gv 15, gv 16, gv 17, gv 18, gv 19, gv 20, gv 21, gv 22, gv 23, gv 24, gv 25, gv 26] 50).new [.int .i64 q, .int .i64 ev] 51; rw [World.size_alloc] at h; exact h)
  have HK := Lib.hid known_any
  have HS0 := Lib.hid S0
  have HS1 := Lib.hid S1
  clear S0 S1
  go_enter Try.func6, Try.ntmps6
  go_wp2_with fail
  refine (lw_call (HK.out _) HL0.out).mono ?_
  rintro e w1 ⟨rfl, hl⟩
  have HL1 := Lib.hid hl
  clear hl
  have hr := HL1.out.bx.grid 1 rfl
  have hz := HL1.out.bx.lt 1 rfl
  go_wp2_with fail
  go_cut [7] from 16 to 20 (fun v wx => PreR W [(W.heap.size + 1, [.int .i64 q, .int .i64 ev]), (W.heap.size, [gv 0, gv 1, gv 2, gv 3, gv 4, gv 5, gv 6, gv 7, gv 8, gv 9, gv 10, gv 11, gv 12, gv 13, gv 14, gv 15, gv 16, gv 17, gv 18, gv 19, gv 20, gv 21, gv 22, gv 23, gv 24, gv 25, gv 26])] v wx)
  case first =>
    go_region_held3 (fun w' => GridOk w' W.heap.size ∧ ∀ i : Nat, i < 27 → w'.cell? ⟨W.heap.size, i, none⟩ = some (gv i)) (first | with_reducible exact grid_two (hr) | with_reducible exact grid_two (grid_drew hr) | with_reducible exact grid_two (grid_alloc hr hz _ _) | with_reducible exact grid_two (grid_drew (grid_alloc hr hz _ _)) | with_reducible exact grid_two (grid_set4 hr (by omega) _ _ _ _) | with_reducible exact grid_two (grid_set4 (grid_alloc hr hz _ _) (by omega) _ _ _ _))
      (first
      | (go_simp; go_at_call 33; refine (events_any x _ HS0.out).mono ?_; rintro e w2 ⟨al, hev, A0, c0, rfl, hrd, hb2, hc0, hc02⟩
         have HB2 := Lib.hid hb2
         have HEV := Lib.hid hev
         have HRD := Lib.hid hrd
         have hz2 := hb2.size
         have hr : ∀ i : Nat, i < 27 → w2.cell? ⟨W.heap.size, i, none⟩ = some (gv i) := by first | with_reducible exact grid_below' hb2 hr hz | with_reducible exact grid_below' hb2 (grid_drew hr) (lt_drew hz) | with_reducible exact grid_below' hb2 (grid_alloc hr hz _ _) (lt_alloc hz _ _) | with_reducible exact grid_below' hb2 (grid_drew (grid_alloc hr hz _ _)) (lt_drew (lt_alloc hz _ _))
         have hz : W.heap.size < w2.heap.size := by (try simp at hz2); omega
         try (have hq : Row w2 w1.heap.size 25 [.slice none 0 0, .int .i64 0, .slice none 0 0, .slice none 0 0] := Row.below (row_drew (Row.new w1 [.slice none 0 0, .int .i64 0, .slice none 0 0, .slice none 0 0] 25)) hb2 (by simp); have hq0 := Lib.hid hq)
         clear hb2 hev hrd)
      | (go_simp; go_at_call 32; refine (make_any A0 al.length c0 w2.heap.size al #[gv 0, gv 1, gv 2, gv 3, gv 4, gv 5, gv 6, gv 7, gv 8, gv 9, gv 10, gv 11, gv 12, gv 13, gv 14, gv 15, gv 16, gv 17, gv 18, gv 19, gv 20, gv 21, gv 22, gv 23, gv 24, gv 25, gv 26] _ (by first | exact HRD.out | exact HRD.out.below ((Below.refl _ w2).alloc (Nat.le_refl _) _) (Nat.le_refl _)) (by simp) rfl hc0 HEV.out HS1.out).mono ?_; rintro e w3 ⟨a, v3, hok, rfl, ⟨A, n, c, s, M, m, d, E, k, g, rfl, hau, hfr⟩, hb3⟩
         have HB3 := Lib.hid hb3
         have HOK := Lib.hid hok
         have HAU := Lib.hid (show AuF a (.agg #[.slice A n c, .int .i64 s, .slice M m d, .slice E k g]) w3 _ from ⟨A, n, c, s, M, m, d, E, k, g, rfl, hau, hfr⟩)
         have hz3 := hb3.size
         have hr : ∀ i : Nat, i < 27 → w3.cell? ⟨W.heap.size, i, none⟩ = some (gv i) := by first | with_reducible exact grid_below' hb3 hr hz | with_reducible exact grid_below' hb3 (grid_drew hr) (lt_drew hz) | with_reducible exact grid_below' hb3 (grid_alloc hr hz _ _) (lt_alloc hz _ _) | with_reducible exact grid_below' hb3 (grid_drew (grid_alloc hr hz _ _)) (lt_drew (lt_alloc hz _ _))
         have hz : W.heap.size < w3.heap.size := by (try simp at hz3); omega
         try (have hq : Row w3 w1.heap.size 25 [.slice none 0 0, .int .i64 0, .slice none 0 0, .slice none 0 0] := hq0.out.below hb3 hq0.out.lt; have hq1 := Lib.hid hq; have y0 := hq.cell 0 rfl; have y1 := hq.cell 1 rfl; have y2 := hq.cell 2 rfl; have y3 := hq.cell 3 rfl; have g0 := hq.frozen 0; have g1 := hq.frozen 1; have g2 := hq.frozen 2; have g3 := hq.frozen 3; clear hq)
         try (have hq : Row w3 w2.heap.size 25 [.slice none 0 0, .int .i64 0, .slice none 0 0, .slice none 0 0] := Row.below (Row.new w2 [.slice none 0 0, .int .i64 0, .slice none 0 0, .slice none 0 0] 25) hb3 (by simp); have hq1 := Lib.hid hq; have y0 := hq.cell 0 rfl; have y1 := hq.cell 1 rfl; have y2 := hq.cell 2 rfl; have y3 := hq.cell 3 rfl; have g0 := hq.frozen 0; have g1 := hq.frozen 1; have g2 := hq.frozen 2; have g3 := hq.frozen 3; clear hq)
         clear hb3 hok hau hfr))
    all_goals
      go_wp2_with fail
      go_meet
      case rel => first | exact pre_1 HL1.out HB2.out HB3.out HEV.out HOK.out HAU.out | exact pre_2 HL1.out HB2.out HB3.out hq1.out HEV.out HOK.out HAU.out | exact pre_3 HL1.out HB2.out HB3.out hq1.out HEV.out HOK.out HAU.out
  case rest =>
    obtain ⟨bc, al, a, A, n, c, s, M, m, d, E, k, g, rfl, HL4, HEV, HOK, HAU⟩ := hcut
    have HB0 := Lib.hid HL4.out.bel
    have HL5 := Lib.hid (show LW wc ((bc, [.slice A n c, .int .i64 s, .slice M m d, .slice E k g]) :: [(W.heap.size + 1, [.int .i64 q, .int .i64 ev]), (W.heap.size, [gv 0, gv 1, gv 2, gv 3, gv 4, gv 5, gv 6, gv 7, gv 8, gv 9, gv 10, gv 11, gv 12, gv 13, gv 14, gv 15, gv 16, gv 17, gv 18, gv 19, gv 20, gv 21, gv 22, gv 23, gv 24, gv 25, gv 26])]) wc from ⟨Below.refl _ _, HL4.out.bx⟩)
    have HC := Lib.hid HOK.out.r.chk
    have HRW := Lib.hid HOK.out.r.toRightW
    have HST := Lib.hid HAU.out.st
    have HAL := Lib.hid HAU.out.hn
    have hbn := HAU.out.bn
    clear hr hz
    have p0_0 := HL5.out.bx.at 0 rfl 0 rfl
    have p0_1 := HL5.out.bx.at 0 rfl 1 rfl
    have p0_2 := HL5.out.bx.at 0 rfl 2 rfl
    have p0_3 := HL5.out.bx.at 0 rfl 3 rfl
    have p1_0 := HL5.out.bx.at 1 rfl 0 rfl
    have p1_1 := HL5.out.bx.at 1 rfl 1 rfl
    by_cases hq0 : q < 0
    · have hqo := Lib.hid (show inSt a.st q = false by rw [HST.out]; simp [inSt]; omega)
      go_wp2_with fail
      refine (k_step (stepR_out HC.out hqo.out) HAU.out HL5.out).mono ?_
      rintro e w6 ⟨rfl, hl⟩
      clear p0_0 p0_1 p0_2 p0_3 p1_0 p1_1
      have HL6 := Lib.hid hl.lw
      have HAU := Lib.hid (hl.aut HAU.out)
      clear hl
      have p0_0 := HL6.out.bx.at 0 rfl 0 rfl
      have p0_1 := HL6.out.bx.at 0 rfl 1 rfl
      have p0_2 := HL6.out.bx.at 0 rfl 2 rfl
      have p0_3 := HL6.out.bx.at 0 rfl 3 rfl
      have p1_0 := HL6.out.bx.at 1 rfl 0 rfl
      have p1_1 := HL6.out.bx.at 1 rfl 1 rfl
      go_wp2_with fail
      refine (k_en (enR_out HC.out hqo.out) HAU.out HL6.out).mono ?_
      rintro e w7 ⟨A1, n1, c1, rfl, hn1, hrd1, hl⟩
      clear p0_0 p0_1 p0_2 p0_3 p1_0 p1_1
      have HL7 := Lib.hid hl.lw
      have HAU := Lib.hid (hl.aut HAU.out)
      obtain rfl : n1 = 0 := hn1.symm
      clear hrd1 hn1
      clear hl
      have p0_0 := HL7.out.bx.at 0 rfl 0 rfl
      have p0_1 := HL7.out.bx.at 0 rfl 1 rfl
      have p0_2 := HL7.out.bx.at 0 rfl 2 rfl
      have p0_3 := HL7.out.bx.at 0 rfl 3 rfl
      have p1_0 := HL7.out.bx.at 1 rfl 0 rfl
      have p1_1 := HL7.out.bx.at 1 rfl 1 rfl
      go_wp2_with fail
      go_ret
      exact ⟨rfl, HB0.out.trans (HL7.out.bel.mono HB0.out.size)⟩
    · by_cases hq1 : s ≤ q
      · have hqo := Lib.hid (show inSt a.st q = false by rw [HST.out]; simp [inSt]; omega)
        go_wp2_with fail
        refine (k_step (stepR_out HC.out hqo.out) HAU.out HL5.out).mono ?_
        rintro e w6 ⟨rfl, hl⟩
        clear p0_0 p0_1 p0_2 p0_3 p1_0 p1_1
        have HL6 := Lib.hid hl.lw
        have HAU := Lib.hid (hl.aut HAU.out)
        clear hl
        have p0_0 := HL6.out.bx.at 0 rfl 0 rfl
        have p0_1 := HL6.out.bx.at 0 rfl 1 rfl
        have p0_2 := HL6.out.bx.at 0 rfl 2 rfl
        have p0_3 := HL6.out.bx.at 0 rfl 3 rfl
        have p1_0 := HL6.out.bx.at 1 rfl 0 rfl
        have p1_1 := HL6.out.bx.at 1 rfl 1 rfl
        go_wp2_with fail
        refine (k_en (enR_out HC.out hqo.out) HAU.out HL6.out).mono ?_
        rintro e w7 ⟨A1, n1, c1, rfl, hn1, hrd1, hl⟩
        clear p0_0 p0_1 p0_2 p0_3 p1_0 p1_1
        have HL7 := Lib.hid hl.lw
        have HAU := Lib.hid (hl.aut HAU.out)
        obtain rfl : n1 = 0 := hn1.symm
        clear hrd1 hn1
        clear hl
        have p0_0 := HL7.out.bx.at 0 rfl 0 rfl
        have p0_1 := HL7.out.bx.at 0 rfl 1 rfl
        have p0_2 := HL7.out.bx.at 0 rfl 2 rfl
        have p0_3 := HL7.out.bx.at 0 rfl 3 rfl
        have p1_0 := HL7.out.bx.at 1 rfl 0 rfl
        have p1_1 := HL7.out.bx.at 1 rfl 1 rfl
        go_wp2_with fail
        go_ret
        exact ⟨rfl, HB0.out.trans (HL7.out.bel.mono HB0.out.size)⟩
      · have hqi := Lib.hid (show inSt a.st q = true by rw [HST.out]; simp [inSt]; omega)
        have hE := Lib.hid (enR_in HRW.out HC.out hqi.out)
        have hlen := succ_en_len HRW.out q
        have q1 : ¬ q < 0 := hq0
        have q2 : q < s := by omega
        by_cases hev : ev ∈ a.al
        · have hH := Lib.hid (show decide (ev ∈ a.al) = true by simpa using hev)
          have hS := Lib.hid (stepR_in HC.out hqi.out hev)
          clear hev
          cases hso : stepO a q ev with
          | none =>
            have hI := Lib.hid (stepI_neg hso)
            have hS2 := Lib.hid (show stepR a q ev = (0, false, 0) by rw [hS.out, hso]; rfl)
            clear hso
            go_wp2_with fail
            refine (k_step (hS2.out) HAU.out HL5.out).mono ?_
            rintro e w6 ⟨rfl, hl⟩
            clear p0_0 p0_1 p0_2 p0_3 p1_0 p1_1
            have HL6 := Lib.hid hl.lw
            have HAU := Lib.hid (hl.aut HAU.out)
            clear hl
            have p0_0 := HL6.out.bx.at 0 rfl 0 rfl
            have p0_1 := HL6.out.bx.at 0 rfl 1 rfl
            have p0_2 := HL6.out.bx.at 0 rfl 2 rfl
            have p0_3 := HL6.out.bx.at 0 rfl 3 rfl
            have p1_0 := HL6.out.bx.at 1 rfl 0 rfl
            have p1_1 := HL6.out.bx.at 1 rfl 1 rfl
            go_wp2_with fail
            refine (k_en hE.out HAU.out HL6.out).mono ?_
            rintro e w7 ⟨A1, n1, c1, rfl, hn1, hrd1, hl⟩
            clear p0_0 p0_1 p0_2 p0_3 p1_0 p1_1
            have HL7 := Lib.hid hl.lw
            have HAU := Lib.hid (hl.aut HAU.out)
            have HN1 := Lib.hid hn1
            have HR1 := Lib.hid hrd1
            have hb1 : n1 ≤ 32 := by omega
            clear hn1 hrd1
            clear hl
            have p0_0 := HL7.out.bx.at 0 rfl 0 rfl
            have p0_1 := HL7.out.bx.at 0 rfl 1 rfl
            have p0_2 := HL7.out.bx.at 0 rfl 2 rfl
            have p0_3 := HL7.out.bx.at 0 rfl 3 rfl
            have p1_0 := HL7.out.bx.at 1 rfl 0 rfl
            have p1_1 := HL7.out.bx.at 1 rfl 1 rfl
            go_wp2_with fail
            refine (k_ren HRW.out HAU.out HL7.out).mono ?_
            rintro e w8 ⟨A2, n2, c2, rfl, hn2, hrd2, hl⟩
            clear p0_0 p0_1 p0_2 p0_3 p1_0 p1_1
            have HL8 := Lib.hid hl.lw
            have HAU := Lib.hid (hl.aut HAU.out)
            have HR1 := Lib.hid (hl.ints HR1.out)
            have HN2 := Lib.hid hn2
            have HR2 := Lib.hid hrd2
            have hb2 : n2 ≤ 32 := by omega
            clear hn2 hrd2
            clear hl
            have p0_0 := HL8.out.bx.at 0 rfl 0 rfl
            have p0_1 := HL8.out.bx.at 0 rfl 1 rfl
            have p0_2 := HL8.out.bx.at 0 rfl 2 rfl
            have p0_3 := HL8.out.bx.at 0 rfl 3 rfl
            have p1_0 := HL8.out.bx.at 1 rfl 0 rfl
            have p1_1 := HL8.out.bx.at 1 rfl 1 rfl
            go_wp2_with fail
            refine (k_same (decide_eq_true rfl) HR1.out HR2.out HN1.out HN2.out (by omega) (by omega) HL8.out).mono ?_
            rintro e w9 ⟨rfl, hl⟩
            clear p0_0 p0_1 p0_2 p0_3 p1_0 p1_1
            have HL9 := Lib.hid hl.lw
            have HAU := Lib.hid (hl.aut HAU.out)
            have HR1 := Lib.hid (hl.ints HR1.out)
            have HR2 := Lib.hid (hl.ints HR2.out)
            clear hl
            have p0_0 := HL9.out.bx.at 0 rfl 0 rfl
            have p0_1 := HL9.out.bx.at 0 rfl 1 rfl
            have p0_2 := HL9.out.bx.at 0 rfl 2 rfl
            have p0_3 := HL9.out.bx.at 0 rfl 3 rfl
            have p1_0 := HL9.out.bx.at 1 rfl 0 rfl
            have p1_1 := HL9.out.bx.at 1 rfl 1 rfl
            go_wp2_with fail
            refine (k_has hH.out HAU.out.al HAL.out (by omega) HL9.out).mono ?_
            rintro e w10 ⟨rfl, hl⟩
            clear p0_0 p0_1 p0_2 p0_3 p1_0 p1_1
            have HL10 := Lib.hid hl.lw
            have HAU := Lib.hid (hl.aut HAU.out)
            have HR1 := Lib.hid (hl.ints HR1.out)
            have HR2 := Lib.hid (hl.ints HR2.out)
            clear hl
            have p0_0 := HL10.out.bx.at 0 rfl 0 rfl
            have p0_1 := HL10.out.bx.at 0 rfl 1 rfl
            have p0_2 := HL10.out.bx.at 0 rfl 2 rfl
            have p0_3 := HL10.out.bx.at 0 rfl 3 rfl
            have p1_0 := HL10.out.bx.at 1 rfl 0 rfl
            have p1_1 := HL10.out.bx.at 1 rfl 1 rfl
            go_wp2_with fail
            refine (k_rstep hI.out HAU.out HL10.out).mono ?_
            rintro e w11 ⟨rfl, hl⟩
            clear p0_0 p0_1 p0_2 p0_3 p1_0 p1_1
            have HL11 := Lib.hid hl.lw
            have HAU := Lib.hid (hl.aut HAU.out)
            have HR1 := Lib.hid (hl.ints HR1.out)
            have HR2 := Lib.hid (hl.ints HR2.out)
            clear hl
            have p0_0 := HL11.out.bx.at 0 rfl 0 rfl
            have p0_1 := HL11.out.bx.at 0 rfl 1 rfl
            have p0_2 := HL11.out.bx.at 0 rfl 2 rfl
            have p0_3 := HL11.out.bx.at 0 rfl 3 rfl
            have p1_0 := HL11.out.bx.at 1 rfl 0 rfl
            have p1_1 := HL11.out.bx.at 1 rfl 1 rfl
            go_wp2_with fail
            go_ret
            exact ⟨rfl, HB0.out.trans (HL11.out.bel.mono HB0.out.size)⟩
          | some t =>
            have hI := Lib.hid (stepI_pos hso)
            have hS2 := Lib.hid (show stepR a q ev = (t, true, 0) by rw [hS.out, hso]; rfl)
            have ht := (step_range HRW.out hso).1
            clear hso
            go_wp2_with fail
            refine (k_step (hS2.out) HAU.out HL5.out).mono ?_
            rintro e w6 ⟨rfl, hl⟩
            clear p0_0 p0_1 p0_2 p0_3 p1_0 p1_1
            have HL6 := Lib.hid hl.lw
            have HAU := Lib.hid (hl.aut HAU.out)
            clear hl
            have p0_0 := HL6.out.bx.at 0 rfl 0 rfl
            have p0_1 := HL6.out.bx.at 0 rfl 1 rfl
            have p0_2 := HL6.out.bx.at 0 rfl 2 rfl
            have p0_3 := HL6.out.bx.at 0 rfl 3 rfl
            have p1_0 := HL6.out.bx.at 1 rfl 0 rfl
            have p1_1 := HL6.out.bx.at 1 rfl 1 rfl
            go_wp2_with fail
            refine (k_en hE.out HAU.out HL6.out).mono ?_
            rintro e w7 ⟨A1, n1, c1, rfl, hn1, hrd1, hl⟩
            clear p0_0 p0_1 p0_2 p0_3 p1_0 p1_1
            have HL7 := Lib.hid hl.lw
            have HAU := Lib.hid (hl.aut HAU.out)
            have HN1 := Lib.hid hn1
            have HR1 := Lib.hid hrd1
            have hb1 : n1 ≤ 32 := by omega
            clear hn1 hrd1
            clear hl
            have p0_0 := HL7.out.bx.at 0 rfl 0 rfl
            have p0_1 := HL7.out.bx.at 0 rfl 1 rfl
            have p0_2 := HL7.out.bx.at 0 rfl 2 rfl
            have p0_3 := HL7.out.bx.at 0 rfl 3 rfl
            have p1_0 := HL7.out.bx.at 1 rfl 0 rfl
            have p1_1 := HL7.out.bx.at 1 rfl 1 rfl
            go_wp2_with fail
            refine (k_ren HRW.out HAU.out HL7.out).mono ?_
            rintro e w8 ⟨A2, n2, c2, rfl, hn2, hrd2, hl⟩
            clear p0_0 p0_1 p0_2 p0_3 p1_0 p1_1
            have HL8 := Lib.hid hl.lw
            have HAU := Lib.hid (hl.aut HAU.out)
            have HR1 := Lib.hid (hl.ints HR1.out)
            have HN2 := Lib.hid hn2
            have HR2 := Lib.hid hrd2
            have hb2 : n2 ≤ 32 := by omega
            clear hn2 hrd2
            clear hl
            have p0_0 := HL8.out.bx.at 0 rfl 0 rfl
            have p0_1 := HL8.out.bx.at 0 rfl 1 rfl
            have p0_2 := HL8.out.bx.at 0 rfl 2 rfl
            have p0_3 := HL8.out.bx.at 0 rfl 3 rfl
            have p1_0 := HL8.out.bx.at 1 rfl 0 rfl
            have p1_1 := HL8.out.bx.at 1 rfl 1 rfl
            go_wp2_with fail
            refine (k_same (decide_eq_true rfl) HR1.out HR2.out HN1.out HN2.out (by omega) (by omega) HL8.out).mono ?_
            rintro e w9 ⟨rfl, hl⟩
            clear p0_0 p0_1 p0_2 p0_3 p1_0 p1_1
            have HL9 := Lib.hid hl.lw
            have HAU := Lib.hid (hl.aut HAU.out)
            have HR1 := Lib.hid (hl.ints HR1.out)
            have HR2 := Lib.hid (hl.ints HR2.out)
            clear hl
            have p0_0 := HL9.out.bx.at 0 rfl 0 rfl
            have p0_1 := HL9.out.bx.at 0 rfl 1 rfl
            have p0_2 := HL9.out.bx.at 0 rfl 2 rfl
            have p0_3 := HL9.out.bx.at 0 rfl 3 rfl
            have p1_0 := HL9.out.bx.at 1 rfl 0 rfl
            have p1_1 := HL9.out.bx.at 1 rfl 1 rfl
            go_wp2_with fail
            refine (k_has hH.out HAU.out.al HAL.out (by omega) HL9.out).mono ?_
            rintro e w10 ⟨rfl, hl⟩
            clear p0_0 p0_1 p0_2 p0_3 p1_0 p1_1
            have HL10 := Lib.hid hl.lw
            have HAU := Lib.hid (hl.aut HAU.out)
            have HR1 := Lib.hid (hl.ints HR1.out)
            have HR2 := Lib.hid (hl.ints HR2.out)
            clear hl
            have p0_0 := HL10.out.bx.at 0 rfl 0 rfl
            have p0_1 := HL10.out.bx.at 0 rfl 1 rfl
            have p0_2 := HL10.out.bx.at 0 rfl 2 rfl
            have p0_3 := HL10.out.bx.at 0 rfl 3 rfl
            have p1_0 := HL10.out.bx.at 1 rfl 0 rfl
            have p1_1 := HL10.out.bx.at 1 rfl 1 rfl
            go_wp2_with fail
            refine (k_rstep hI.out HAU.out HL10.out).mono ?_
            rintro e w11 ⟨rfl, hl⟩
            clear p0_0 p0_1 p0_2 p0_3 p1_0 p1_1
            have HL11 := Lib.hid hl.lw
            have HAU := Lib.hid (hl.aut HAU.out)
            have HR1 := Lib.hid (hl.ints HR1.out)
            have HR2 := Lib.hid (hl.ints HR2.out)
            clear hl
            have p0_0 := HL11.out.bx.at 0 rfl 0 rfl
            have p0_1 := HL11.out.bx.at 0 rfl 1 rfl
            have p0_2 := HL11.out.bx.at 0 rfl 2 rfl
            have p0_3 := HL11.out.bx.at 0 rfl 3 rfl
            have p1_0 := HL11.out.bx.at 1 rfl 0 rfl
            have p1_1 := HL11.out.bx.at 1 rfl 1 rfl
            go_wp2_with fail
            go_ret
            exact ⟨rfl, HB0.out.trans (HL11.out.bel.mono HB0.out.size)⟩
        · have hH := Lib.hid (show decide (ev ∈ a.al) = false by simpa using hev)
          have hS2 := Lib.hid (stepR_un HC.out hqi.out hev)
          clear hev
          go_wp2_with fail
          refine (k_step (hS2.out) HAU.out HL5.out).mono ?_
          rintro e w6 ⟨rfl, hl⟩
          clear p0_0 p0_1 p0_2 p0_3 p1_0 p1_1
          have HL6 := Lib.hid hl.lw
          have HAU := Lib.hid (hl.aut HAU.out)
          clear hl
          have p0_0 := HL6.out.bx.at 0 rfl 0 rfl
          have p0_1 := HL6.out.bx.at 0 rfl 1 rfl
          have p0_2 := HL6.out.bx.at 0 rfl 2 rfl
          have p0_3 := HL6.out.bx.at 0 rfl 3 rfl
          have p1_0 := HL6.out.bx.at 1 rfl 0 rfl
          have p1_1 := HL6.out.bx.at 1 rfl 1 rfl
          go_wp2_with fail
          refine (k_en hE.out HAU.out HL6.out).mono ?_
          rintro e w7 ⟨A1, n1, c1, rfl, hn1, hrd1, hl⟩
          clear p0_0 p0_1 p0_2 p0_3 p1_0 p1_1
          have HL7 := Lib.hid hl.lw
          have HAU := Lib.hid (hl.aut HAU.out)
          have HN1 := Lib.hid hn1
          have HR1 := Lib.hid hrd1
          have hb1 : n1 ≤ 32 := by omega
          clear hn1 hrd1
          clear hl
          have p0_0 := HL7.out.bx.at 0 rfl 0 rfl
          have p0_1 := HL7.out.bx.at 0 rfl 1 rfl
          have p0_2 := HL7.out.bx.at 0 rfl 2 rfl
          have p0_3 := HL7.out.bx.at 0 rfl 3 rfl
          have p1_0 := HL7.out.bx.at 1 rfl 0 rfl
          have p1_1 := HL7.out.bx.at 1 rfl 1 rfl
          go_wp2_with fail
          refine (k_ren HRW.out HAU.out HL7.out).mono ?_
          rintro e w8 ⟨A2, n2, c2, rfl, hn2, hrd2, hl⟩
          clear p0_0 p0_1 p0_2 p0_3 p1_0 p1_1
          have HL8 := Lib.hid hl.lw
          have HAU := Lib.hid (hl.aut HAU.out)
          have HR1 := Lib.hid (hl.ints HR1.out)
          have HN2 := Lib.hid hn2
          have HR2 := Lib.hid hrd2
          have hb2 : n2 ≤ 32 := by omega
          clear hn2 hrd2
          clear hl
          have p0_0 := HL8.out.bx.at 0 rfl 0 rfl
          have p0_1 := HL8.out.bx.at 0 rfl 1 rfl
          have p0_2 := HL8.out.bx.at 0 rfl 2 rfl
          have p0_3 := HL8.out.bx.at 0 rfl 3 rfl
          have p1_0 := HL8.out.bx.at 1 rfl 0 rfl
          have p1_1 := HL8.out.bx.at 1 rfl 1 rfl
          go_wp2_with fail
          refine (k_same (decide_eq_true rfl) HR1.out HR2.out HN1.out HN2.out (by omega) (by omega) HL8.out).mono ?_
          rintro e w9 ⟨rfl, hl⟩
          clear p0_0 p0_1 p0_2 p0_3 p1_0 p1_1
          have HL9 := Lib.hid hl.lw
          have HAU := Lib.hid (hl.aut HAU.out)
          have HR1 := Lib.hid (hl.ints HR1.out)
          have HR2 := Lib.hid (hl.ints HR2.out)
          clear hl
          have p0_0 := HL9.out.bx.at 0 rfl 0 rfl
          have p0_1 := HL9.out.bx.at 0 rfl 1 rfl
          have p0_2 := HL9.out.bx.at 0 rfl 2 rfl
          have p0_3 := HL9.out.bx.at 0 rfl 3 rfl
          have p1_0 := HL9.out.bx.at 1 rfl 0 rfl
          have p1_1 := HL9.out.bx.at 1 rfl 1 rfl
          go_wp2_with fail
          refine (k_has hH.out HAU.out.al HAL.out (by omega) HL9.out).mono ?_
          rintro e w10 ⟨rfl, hl⟩
          clear p0_0 p0_1 p0_2 p0_3 p1_0 p1_1
          have HL10 := Lib.hid hl.lw
          have HAU := Lib.hid (hl.aut HAU.out)
          have HR1 := Lib.hid (hl.ints HR1.out)
          have HR2 := Lib.hid (hl.ints HR2.out)
          clear hl
          have p0_0 := HL10.out.bx.at 0 rfl 0 rfl
          have p0_1 := HL10.out.bx.at 0 rfl 1 rfl
          have p0_2 := HL10.out.bx.at 0 rfl 2 rfl
          have p0_3 := HL10.out.bx.at 0 rfl 3 rfl
          have p1_0 := HL10.out.bx.at 1 rfl 0 rfl
          have p1_1 := HL10.out.bx.at 1 rfl 1 rfl
          go_wp2_with fail
          go_ret
          exact ⟨rfl, HB0.out.trans (HL10.out.bel.mono HB0.out.size)⟩
end Go.Proofs.Ytcciiikaejjooaa
