/- The law AutomatonRuns, walked. -/
import Derived.Test.YtcciiikaejjooaaaPre
import Derived.Deep.RegionHeld3
import Derived.Deep.CutRange
namespace Go.Proofs.Ytcciiikaejjooaa
open Go.RowKit Go.Sort
attribute [local go_sem ↓] exec_load_graph'
attribute [local go_sem] blkOf_ptr

set_option maxHeartbeats 8000000 in
set_option maxRecDepth 100000 in
theorem lawRuns (x : Int) (gv : Nat → Value) (Aw : Option Addr) (l lc : Nat) (ws : List Int) (W : World) (S0 : (Lit.int .u8 x).wf = true) (S1 : GrC #[gv 0, gv 1, gv 2, gv 3, gv 4, gv 5, gv 6, gv 7, gv 8, gv 9, gv 10, gv 11, gv 12, gv 13, gv 14, gv 15, gv 16, gv 17, gv 18, gv 19, gv 20, gv 21, gv 22, gv 23, gv 24, gv 25, gv 26]) (S2 : RdI W W.heap.size Aw ws) (S3 : ws.length = l) (S4 : ∀ z ∈ ws, (Lit.int .i64 z).wf = true) :
    Calls Try.prog 7 #[.int .u8 x, .agg #[gv 0, gv 1, gv 2, gv 3, gv 4, gv 5, gv 6, gv 7, gv 8, gv 9, gv 10, gv 11, gv 12, gv 13, gv 14, gv 15, gv 16, gv 17, gv 18, gv 19, gv 20, gv 21, gv 22, gv 23, gv 24, gv 25, gv 26], .slice Aw l lc] W fun e W' => e = .returned (.bool true) ∧ Below W.heap.size W W' := by
  have HL0 := Lib.hid (LW.first W [gv 0, gv 1, gv 2, gv 3, gv 4, gv 5, gv 6, gv 7, gv 8, gv 9, gv 10, gv 11, gv 12, gv 13, gv 14, gv 15, gv 16, gv 17, gv 18, gv 19, gv 20, gv 21, gv 22, gv 23, gv 24, gv 25, gv 26] 50)
  have HK := Lib.hid known_any
  have HS0 := Lib.hid S0
  have HS1 := Lib.hid S1
  have HWD := Lib.hid S2
  have HWL := Lib.hid S3
  clear S0 S1 S2 S3 S4
  by_cases h10 : 10 < l
  · go_enter Try.func7, Try.ntmps7
    go_wp2_with fail
    refine (lw_call (HK.out _) HL0.out).mono ?_
    rintro e w1 ⟨rfl, hl⟩
    have HL1 := Lib.hid hl
    clear hl
    go_wp2_with fail
    refine (lw_call (HK.out _) HL1.out).mono ?_
    rintro e w2 ⟨rfl, hl⟩
    have HL2 := Lib.hid hl
    clear hl
    go_wp2_with fail
    go_ret
    exact ⟨rfl, HL2.out.bel⟩
  have hl10 : l ≤ 10 := by omega
  go_enter Try.func7, Try.ntmps7
  go_wp2_with fail
  refine (lw_call (HK.out _) HL0.out).mono ?_
  rintro e w1 ⟨rfl, hl⟩
  have HL1 := Lib.hid hl
  clear hl
  have hr := HL1.out.bx.grid 0 rfl
  have hz := HL1.out.bx.lt 0 rfl
  go_wp2_with fail
  go_cut [7] from 28 to 32 (fun v wx => PreR W [(W.heap.size, [gv 0, gv 1, gv 2, gv 3, gv 4, gv 5, gv 6, gv 7, gv 8, gv 9, gv 10, gv 11, gv 12, gv 13, gv 14, gv 15, gv 16, gv 17, gv 18, gv 19, gv 20, gv 21, gv 22, gv 23, gv 24, gv 25, gv 26])] v wx)
  case first =>
    go_region_held3 (fun w' => GridOk w' W.heap.size ∧ ∀ i : Nat, i < 27 → w'.cell? ⟨W.heap.size, i, none⟩ = some (gv i)) (first | with_reducible exact grid_two (hr) | with_reducible exact grid_two (grid_drew hr) | with_reducible exact grid_two (grid_alloc hr hz _ _) | with_reducible exact grid_two (grid_drew (grid_alloc hr hz _ _)) | with_reducible exact grid_two (grid_set4 hr (by omega) _ _ _ _) | with_reducible exact grid_two (grid_set4 (grid_alloc hr hz _ _) (by omega) _ _ _ _))
      (first
      | (go_simp; go_at_call 33; refine (events_any x _ HS0.out).mono ?_; rintro e w2 ⟨al, hev, A0, c0, rfl, hrd, hb2, hc0, hc02⟩
         have HB2 := Lib.hid hb2
         have HEV := Lib.hid hev
         have HRD := Lib.hid hrd
         have hz2 := hb2.size
         have hr : ∀ i : Nat, i < 27 → w2.cell? ⟨W.heap.size, i, none⟩ = some (gv i) := by first | with_reducible exact grid_below' hb2 hr hz | with_reducible exact grid_below' hb2 (grid_drew hr) (lt_drew hz) | with_reducible exact grid_below' hb2 (grid_alloc hr hz _ _) (lt_alloc hz _ _) | with_reducible exact grid_below' hb2 (grid_drew (grid_alloc hr hz _ _)) (lt_drew (lt_alloc hz _ _))
         have hz : W.heap.size < w2.heap.size := by (try simp at hz2); omega
         try (have hq : Row w2 w1.heap.size 25 [.slice none 0 0, .int .i64 0, .slice none 0 0, .slice none 0 0] := Row.below (row_drew (Row.new w1 [.slice none 0 0, .int .i64 0, .slice none 0 0, .slice none 0 0] 25)) hb2 (by simp); have hq0 := Lib.hid hq)
         clear hb2 hev hrd)
      | (go_simp; go_at_call 32; refine (make_any A0 al.length c0 w2.heap.size al #[gv 0, gv 1, gv 2, gv 3, gv 4, gv 5, gv 6, gv 7, gv 8, gv 9, gv 10, gv 11, gv 12, gv 13, gv 14, gv 15, gv 16, gv 17, gv 18, gv 19, gv 20, gv 21, gv 22, gv 23, gv 24, gv 25, gv 26] _ (by first | exact HRD.out | exact HRD.out.below ((Below.refl _ w2).alloc (Nat.le_refl _) _) (Nat.le_refl _)) (by simp) rfl hc0 HEV.out HS1.out).mono ?_; rintro e w3 ⟨a, v3, hok, rfl, ⟨A, n, c, s, M, m, d, E, k, g, rfl, hau, hfr⟩, hb3⟩
         have HB3 := Lib.hid hb3
         have HOK := Lib.hid hok
         have HAU := Lib.hid (show AuF a (.agg #[.slice A n c, .int .i64 s, .slice M m d, .slice E k g]) w3 _ from ⟨A, n, c, s, M, m, d, E, k, g, rfl, hau, hfr⟩)
         have hz3 := hb3.size
         have hr : ∀ i : Nat, i < 27 → w3.cell? ⟨W.heap.size, i, none⟩ = some (gv i) := by first | with_reducible exact grid_below' hb3 hr hz | with_reducible exact grid_below' hb3 (grid_drew hr) (lt_drew hz) | with_reducible exact grid_below' hb3 (grid_alloc hr hz _ _) (lt_alloc hz _ _) | with_reducible exact grid_below' hb3 (grid_drew (grid_alloc hr hz _ _)) (lt_drew (lt_alloc hz _ _))
         have hz : W.heap.size < w3.heap.size := by (try simp at hz3); omega
         try (have hq : Row w3 w1.heap.size 25 [.slice none 0 0, .int .i64 0, .slice none 0 0, .slice none 0 0] := hq0.out.below hb3 hq0.out.lt; have hq1 := Lib.hid hq; have y0 := hq.cell 0 rfl; have y1 := hq.cell 1 rfl; have y2 := hq.cell 2 rfl; have y3 := hq.cell 3 rfl; have g0 := hq.frozen 0; have g1 := hq.frozen 1; have g2 := hq.frozen 2; have g3 := hq.frozen 3; clear hq)
         try (have hq : Row w3 w2.heap.size 25 [.slice none 0 0, .int .i64 0, .slice none 0 0, .slice none 0 0] := Row.below (Row.new w2 [.slice none 0 0, .int .i64 0, .slice none 0 0, .slice none 0 0] 25) hb3 (by simp); have hq1 := Lib.hid hq; have y0 := hq.cell 0 rfl; have y1 := hq.cell 1 rfl; have y2 := hq.cell 2 rfl; have y3 := hq.cell 3 rfl; have g0 := hq.frozen 0; have g1 := hq.frozen 1; have g2 := hq.frozen 2; have g3 := hq.frozen 3; clear hq)
         clear hb3 hok hau hfr))
    all_goals
      go_wp2_with fail
      go_meet
      case rel => first | exact pre_1 HL1.out HB2.out HB3.out HEV.out HOK.out HAU.out | exact pre_2 HL1.out HB2.out HB3.out hq1.out HEV.out HOK.out HAU.out | exact pre_3 HL1.out HB2.out HB3.out hq1.out HEV.out HOK.out HAU.out
  case rest =>
    obtain ⟨bc, al, a, A, n, c, s, M, m, d, E, k, g, rfl, HL4, HEV, HOK, HAU⟩ := hcut
    have HB0 := Lib.hid HL4.out.bel
    have HWc := Lib.hid (HL4.out.ints HWD.out)
    have HL5 := Lib.hid (show LW wc ((bc, [.slice A n c, .int .i64 s, .slice M m d, .slice E k g]) :: [(W.heap.size, [gv 0, gv 1, gv 2, gv 3, gv 4, gv 5, gv 6, gv 7, gv 8, gv 9, gv 10, gv 11, gv 12, gv 13, gv 14, gv 15, gv 16, gv 17, gv 18, gv 19, gv 20, gv 21, gv 22, gv 23, gv 24, gv 25, gv 26])]) wc from ⟨Below.refl _ _, HL4.out.bx⟩)
    have HC := Lib.hid HOK.out.r.chk
    have HRW := Lib.hid HOK.out.r.toRightW
    have HST := Lib.hid HAU.out.st
    have HAL := Lib.hid HAU.out.hn
    have hbn := HAU.out.bn
    have hs0 : 0 ≤ s := by rw [← HST.out]; exact HRW.out.st0
    have hs5 : s ≤ 5 := by rw [← HST.out]; exact HOK.out.st
    obtain ⟨gB, hgB⟩ : ∃ b, genB a ws = b := ⟨_, rfl⟩
    obtain ⟨aB, haB⟩ : ∃ b, accB a ws = b := ⟨_, rfl⟩
    have HGB := Lib.hid hgB
    have HAB := Lib.hid haB
    have e1 : (gB != gB) = false := by simp
    have e2 : (aB != aB) = false := by simp
    clear hr hz hgB haB
    have p0_0 := HL5.out.bx.at 0 rfl 0 rfl
    have p0_1 := HL5.out.bx.at 0 rfl 1 rfl
    have p0_2 := HL5.out.bx.at 0 rfl 2 rfl
    have p0_3 := HL5.out.bx.at 0 rfl 3 rfl
    go_wp2_with fail
    refine (k_gen HC.out HGB.out HAU.out HWc.out HWL.out (by omega) HL5.out).mono ?_
    rintro e w6 ⟨rfl, hl⟩
    clear p0_0 p0_1 p0_2 p0_3
    have HL6 := Lib.hid hl.lw
    have HAU := Lib.hid (hl.aut HAU.out)
    have HWc := Lib.hid (hl.ints HWc.out)
    clear hl
    have p0_0 := HL6.out.bx.at 0 rfl 0 rfl
    have p0_1 := HL6.out.bx.at 0 rfl 1 rfl
    have p0_2 := HL6.out.bx.at 0 rfl 2 rfl
    have p0_3 := HL6.out.bx.at 0 rfl 3 rfl
    go_wp2_with fail
    refine (k_acc HC.out HAB.out HAU.out HWc.out HWL.out (by omega) HL6.out).mono ?_
    rintro e w7 ⟨rfl, hl⟩
    clear p0_0 p0_1 p0_2 p0_3
    have HL7 := Lib.hid hl.lw
    have HAU := Lib.hid (hl.aut HAU.out)
    have HWc := Lib.hid (hl.ints HWc.out)
    clear hl
    have p0_0 := HL7.out.bx.at 0 rfl 0 rfl
    have p0_1 := HL7.out.bx.at 0 rfl 1 rfl
    have p0_2 := HL7.out.bx.at 0 rfl 2 rfl
    have p0_3 := HL7.out.bx.at 0 rfl 3 rfl
    go_wp2_with fail
    refine (k_rgen HRW.out HGB.out HAU.out HWc.out HWL.out (by omega) HL7.out).mono ?_
    rintro e w8 ⟨rfl, hl⟩
    clear p0_0 p0_1 p0_2 p0_3
    have HL8 := Lib.hid hl.lw
    have HAU := Lib.hid (hl.aut HAU.out)
    have HWc := Lib.hid (hl.ints HWc.out)
    clear hl
    have p0_0 := HL8.out.bx.at 0 rfl 0 rfl
    have p0_1 := HL8.out.bx.at 0 rfl 1 rfl
    have p0_2 := HL8.out.bx.at 0 rfl 2 rfl
    have p0_3 := HL8.out.bx.at 0 rfl 3 rfl
    go_wp2_with fail
    refine (k_racc HRW.out HAB.out HAU.out HWc.out HWL.out (by omega) HL8.out).mono ?_
    rintro e w9 ⟨rfl, hl⟩
    clear p0_0 p0_1 p0_2 p0_3
    have HL9 := Lib.hid hl.lw
    have HAU := Lib.hid (hl.aut HAU.out)
    have HWc := Lib.hid (hl.ints HWc.out)
    clear hl
    have p0_0 := HL9.out.bx.at 0 rfl 0 rfl
    have p0_1 := HL9.out.bx.at 0 rfl 1 rfl
    have p0_2 := HL9.out.bx.at 0 rfl 2 rfl
    have p0_3 := HL9.out.bx.at 0 rfl 3 rfl
    have HAUr := Lib.hid HAU.out
    have HWr := Lib.hid HWc.out
    clear e1 e2
    clear p0_0 p0_1 p0_2 p0_3
    go_wp2_with fail
    go_loopw [12] (fun i wr => ∃ f : Int, -1 ≤ f ∧ f ≤ s + 1 ∧ i = .int .i64 f ∧ Hid (LW w9 ((bc, [.slice A n c, .int .i64 s, .slice M m d, .slice E k g]) :: [(W.heap.size, [gv 0, gv 1, gv 2, gv 3, gv 4, gv 5, gv 6, gv 7, gv 8, gv 9, gv 10, gv 11, gv 12, gv 13, gv 14, gv 15, gv 16, gv 17, gv 18, gv 19, gv 20, gv 21, gv 22, gv 23, gv 24, gv 25, gv 26])]) wr)) (fun i _ => (s + 1 - intOf i).toNat)
    case atStart => exact ⟨-1, by omega, by omega, rfl, Lib.hid (show LW w9 ((bc, [.slice A n c, .int .i64 s, .slice M m d, .slice E k g]) :: [(W.heap.size, [gv 0, gv 1, gv 2, gv 3, gv 4, gv 5, gv 6, gv 7, gv 8, gv 9, gv 10, gv 11, gv 12, gv 13, gv 14, gv 15, gv 16, gv 17, gv 18, gv 19, gv 20, gv 21, gv 22, gv 23, gv 24, gv 25, gv 26])]) w9 from ⟨Below.refl _ _, HL9.out.bx⟩)⟩
    case round =>
      obtain ⟨f, hf0, hf1, rfl, HL20⟩ := hrel
      have HBw := Lib.hid (HB0.out.trans (HL9.out.bel.mono HB0.out.size))
      have HAU := Lib.hid (HL20.out.aut A n c s M m d E k g HAU.out)
      have HWc := Lib.hid (HL20.out.ints HWc.out)
      by_cases hfs : f ≤ s
      · have hle : ¬ s < f := by omega
        by_cases hq0 : f < 0
        · have hqo := Lib.hid (show inSt a.st f = false by rw [HST.out]; simp [inSt]; omega)
          have p0_0 := HL20.out.bx.at 0 rfl 0 rfl
          have p0_1 := HL20.out.bx.at 0 rfl 1 rfl
          have p0_2 := HL20.out.bx.at 0 rfl 2 rfl
          have p0_3 := HL20.out.bx.at 0 rfl 3 rfl
          go_wp2_with fail
          refine (k_run (runR_out HC.out hqo.out) HAU.out HWc.out HWL.out (by omega) HL20.out).mono ?_
          rintro e w21 ⟨rfl, hl⟩
          clear p0_0 p0_1 p0_2 p0_3
          have HL21 := Lib.hid hl.lw
          have HAU := Lib.hid (hl.aut HAU.out)
          have HWc := Lib.hid (hl.ints HWc.out)
          clear hl
          have p0_0 := HL21.out.bx.at 0 rfl 0 rfl
          have p0_1 := HL21.out.bx.at 0 rfl 1 rfl
          have p0_2 := HL21.out.bx.at 0 rfl 2 rfl
          have p0_3 := HL21.out.bx.at 0 rfl 3 rfl
          by_cases hl0 : 0 < l
          · have hl1 : (0 : Int) < (l : Int) := by omega
            go_wp2_with fail
            go_loopw [16, 17] (fun wv i wr => i = .int .i64 0 ∧ wv = .int .i64 2 ∧ Hid (LW w9 ((bc, [.slice A n c, .int .i64 s, .slice M m d, .slice E k g]) :: [(W.heap.size, [gv 0, gv 1, gv 2, gv 3, gv 4, gv 5, gv 6, gv 7, gv 8, gv 9, gv 10, gv 11, gv 12, gv 13, gv 14, gv 15, gv 16, gv 17, gv 18, gv 19, gv 20, gv 21, gv 22, gv 23, gv 24, gv 25, gv 26])]) wr)) (fun _ _ _ => 0)
            case atStart => exact ⟨rfl, rfl, HL21⟩
            case round =>
              obtain ⟨rfl, rfl, HL40⟩ := hrel
              have p0_0 := HL40.out.bx.at 0 rfl 0 rfl
              have p0_1 := HL40.out.bx.at 0 rfl 1 rfl
              have p0_2 := HL40.out.bx.at 0 rfl 2 rfl
              have p0_3 := HL40.out.bx.at 0 rfl 3 rfl
              go_wp2_with fail
              go_roundw
              case rel => exact ⟨f + 1, by omega, by omega, rfl, HL40⟩
              case measure => simp [intOf]; omega
          · have hl1 : (l : Int) ≤ 0 := by omega
            go_wp2_with fail
            go_loopw [16, 17] (fun wv i wr => i = .int .i64 0 ∧ wv = .int .i64 2 ∧ Hid (LW w9 ((bc, [.slice A n c, .int .i64 s, .slice M m d, .slice E k g]) :: [(W.heap.size, [gv 0, gv 1, gv 2, gv 3, gv 4, gv 5, gv 6, gv 7, gv 8, gv 9, gv 10, gv 11, gv 12, gv 13, gv 14, gv 15, gv 16, gv 17, gv 18, gv 19, gv 20, gv 21, gv 22, gv 23, gv 24, gv 25, gv 26])]) wr)) (fun _ _ _ => 0)
            case atStart => exact ⟨rfl, rfl, HL21⟩
            case round =>
              obtain ⟨rfl, rfl, HL40⟩ := hrel
              have p0_0 := HL40.out.bx.at 0 rfl 0 rfl
              have p0_1 := HL40.out.bx.at 0 rfl 1 rfl
              have p0_2 := HL40.out.bx.at 0 rfl 2 rfl
              have p0_3 := HL40.out.bx.at 0 rfl 3 rfl
              go_wp2_with fail
              go_roundw
              case rel => exact ⟨f + 1, by omega, by omega, rfl, HL40⟩
              case measure => simp [intOf]; omega
        · by_cases hq1 : s ≤ f
          · have hqo := Lib.hid (show inSt a.st f = false by rw [HST.out]; simp [inSt]; omega)
            have p0_0 := HL20.out.bx.at 0 rfl 0 rfl
            have p0_1 := HL20.out.bx.at 0 rfl 1 rfl
            have p0_2 := HL20.out.bx.at 0 rfl 2 rfl
            have p0_3 := HL20.out.bx.at 0 rfl 3 rfl
            go_wp2_with fail
            refine (k_run (runR_out HC.out hqo.out) HAU.out HWc.out HWL.out (by omega) HL20.out).mono ?_
            rintro e w21 ⟨rfl, hl⟩
            clear p0_0 p0_1 p0_2 p0_3
            have HL21 := Lib.hid hl.lw
            have HAU := Lib.hid (hl.aut HAU.out)
            have HWc := Lib.hid (hl.ints HWc.out)
            clear hl
            have p0_0 := HL21.out.bx.at 0 rfl 0 rfl
            have p0_1 := HL21.out.bx.at 0 rfl 1 rfl
            have p0_2 := HL21.out.bx.at 0 rfl 2 rfl
            have p0_3 := HL21.out.bx.at 0 rfl 3 rfl
            by_cases hl0 : 0 < l
            · have hl1 : (0 : Int) < (l : Int) := by omega
              go_wp2_with fail
              go_loopw [16, 17] (fun wv i wr => i = .int .i64 0 ∧ wv = .int .i64 2 ∧ Hid (LW w9 ((bc, [.slice A n c, .int .i64 s, .slice M m d, .slice E k g]) :: [(W.heap.size, [gv 0, gv 1, gv 2, gv 3, gv 4, gv 5, gv 6, gv 7, gv 8, gv 9, gv 10, gv 11, gv 12, gv 13, gv 14, gv 15, gv 16, gv 17, gv 18, gv 19, gv 20, gv 21, gv 22, gv 23, gv 24, gv 25, gv 26])]) wr)) (fun _ _ _ => 0)
              case atStart => exact ⟨rfl, rfl, HL21⟩
              case round =>
                obtain ⟨rfl, rfl, HL40⟩ := hrel
                have p0_0 := HL40.out.bx.at 0 rfl 0 rfl
                have p0_1 := HL40.out.bx.at 0 rfl 1 rfl
                have p0_2 := HL40.out.bx.at 0 rfl 2 rfl
                have p0_3 := HL40.out.bx.at 0 rfl 3 rfl
                go_wp2_with fail
                go_roundw
                case rel => exact ⟨f + 1, by omega, by omega, rfl, HL40⟩
                case measure => simp [intOf]; omega
            · have hl1 : (l : Int) ≤ 0 := by omega
              go_wp2_with fail
              go_loopw [16, 17] (fun wv i wr => i = .int .i64 0 ∧ wv = .int .i64 2 ∧ Hid (LW w9 ((bc, [.slice A n c, .int .i64 s, .slice M m d, .slice E k g]) :: [(W.heap.size, [gv 0, gv 1, gv 2, gv 3, gv 4, gv 5, gv 6, gv 7, gv 8, gv 9, gv 10, gv 11, gv 12, gv 13, gv 14, gv 15, gv 16, gv 17, gv 18, gv 19, gv 20, gv 21, gv 22, gv 23, gv 24, gv 25, gv 26])]) wr)) (fun _ _ _ => 0)
              case atStart => exact ⟨rfl, rfl, HL21⟩
              case round =>
                obtain ⟨rfl, rfl, HL40⟩ := hrel
                have p0_0 := HL40.out.bx.at 0 rfl 0 rfl
                have p0_1 := HL40.out.bx.at 0 rfl 1 rfl
                have p0_2 := HL40.out.bx.at 0 rfl 2 rfl
                have p0_3 := HL40.out.bx.at 0 rfl 3 rfl
                go_wp2_with fail
                go_roundw
                case rel => exact ⟨f + 1, by omega, by omega, rfl, HL40⟩
                case measure => simp [intOf]; omega
          · have hqi := Lib.hid (show inSt a.st f = true by rw [HST.out]; simp [inSt]; omega)
            have hq2 : f < s := by omega
            have hq3 : 0 ≤ f := by omega
            cases hib : inB a.al ws
            · have HIB := Lib.hid hib
              clear hib
              have HWi := Lib.hid (show RdI w9 w9.heap.size Aw ws from HWr.out)
              have p0_0 := HL20.out.bx.at 0 rfl 0 rfl
              have p0_1 := HL20.out.bx.at 0 rfl 1 rfl
              have p0_2 := HL20.out.bx.at 0 rfl 2 rfl
              have p0_3 := HL20.out.bx.at 0 rfl 3 rfl
              go_wp2_with fail
              refine (k_run (runR_un HC.out hqi.out HIB.out) HAU.out HWc.out HWL.out (by omega) HL20.out).mono ?_
              rintro e w21 ⟨rfl, hl⟩
              clear p0_0 p0_1 p0_2 p0_3
              have HL21 := Lib.hid hl.lw
              have HAU := Lib.hid (hl.aut HAU.out)
              have HWc := Lib.hid (hl.ints HWc.out)
              clear hl
              have p0_0 := HL21.out.bx.at 0 rfl 0 rfl
              have p0_1 := HL21.out.bx.at 0 rfl 1 rfl
              have p0_2 := HL21.out.bx.at 0 rfl 2 rfl
              have p0_3 := HL21.out.bx.at 0 rfl 3 rfl
              go_wp2_with fail
              go_loopw [16, 17] (fun wv i wr => ∃ (t : Nat) (v : Int), t ≤ l ∧ i = .int .i64 t ∧ wv = .int .i64 v ∧ Hid ((v = 0 ∧ inB a.al (ws.take t) = true) ∨ v = 9) ∧ Hid (LW w9 ((bc, [.slice A n c, .int .i64 s, .slice M m d, .slice E k g]) :: [(W.heap.size, [gv 0, gv 1, gv 2, gv 3, gv 4, gv 5, gv 6, gv 7, gv 8, gv 9, gv 10, gv 11, gv 12, gv 13, gv 14, gv 15, gv 16, gv 17, gv 18, gv 19, gv 20, gv 21, gv 22, gv 23, gv 24, gv 25, gv 26])]) wr)) (fun _ i _ => l - (intOf i).toNat)
              case atStart => exact ⟨0, 0, Nat.zero_le _, rfl, rfl, Lib.hid (.inl ⟨rfl, rfl⟩), HL21⟩
              case round =>
                obtain ⟨t, v, htl0, rfl, rfl, hv, HL40⟩ := hrel
                rcases hv.out with ⟨rfl, hti⟩ | rfl
                · have HTI := Lib.hid hti
                  clear hv hti
                  have p0_0 := HL40.out.bx.at 0 rfl 0 rfl
                  have p0_1 := HL40.out.bx.at 0 rfl 1 rfl
                  have p0_2 := HL40.out.bx.at 0 rfl 2 rfl
                  have p0_3 := HL40.out.bx.at 0 rfl 3 rfl
                  by_cases htl : t < l
                  · obtain ⟨b1, o1, rfl, hb1, hc1⟩ := HWi.out (by rw [HWL.out]; omega)
                    have hz1 : t < ws.length := by rw [HWL.out]; exact htl
                    obtain ⟨ev, hev⟩ : ∃ ev, ev = ws.getD t 0 := ⟨_, rfl⟩
                    have CE := Lib.hid (fun W' (hW : Below w9.heap.size w9 W') => by
                      have := (hW.cell (p := ⟨b1, o1 + t, none⟩) hb1).trans (hc1 t hz1)
                      rw [← hev] at this; exact this)
                    have ce := CE.out wr HL40.out.bel
                    have z1 : (t : Int) < (l : Int) := by omega
                    have z2 : (0 : Int) ≤ (t : Int) := by omega
                    have HAUi := Lib.hid (HL40.out.aut A n c s M m d E k g HAUr.out)
                    have HAUd := Lib.hid (HL40.out.drew.aut A n c s M m d E k g HAUr.out)
                    clear hc1
                    cases hme : decide (ev ∈ a.al)
                    · have hH := Lib.hid hme
                      clear hev hme
                      go_wp2_with fail
                      go_region_held3 (fun w' => w'.cell? ⟨bc, 0, none⟩ = some (.slice A n c) ∧ w'.cell? ⟨b1, o1 + t, none⟩ = some (.int .i64 ev)) (first | with_reducible exact ⟨p0_0, ce⟩ | go_keep)
                        (first | (go_simp; go_at_call 36; (first | with_reducible refine (k_has hH.out HAUi.out.al HAL.out (by omega) HL40.out).mono ?_ | with_reducible refine (k_has hH.out HAUd.out.al HAL.out (by omega) HL40.out.drew).mono ?_); rintro e w41 ⟨rfl, hl⟩
                                  have HL41 := Lib.hid hl.lw
                                  have HL41d := Lib.hid hl.lw.drew
                                  have p0_0 := hl.lw.bx.at 0 rfl 0 rfl
                                  have ce := CE.out _ hl.lw.bel
                                  clear hl))
                      all_goals
                        go_wp2_with fail
                        go_roundw
                        case rel => exact ⟨t + 1, 9, by omega, by go_num, rfl, Lib.hid (.inr rfl), by first | exact HL41 | exact HL41d⟩
                        case measure => simp [intOf]; omega
                    · have hH := Lib.hid hme
                      have HTI2 := Lib.hid (show inB a.al (ws.take (t + 1)) = true from in_next hz1 HTI.out (by rw [← hev]; exact hme))
                      clear hev hme
                      go_wp2_with fail
                      go_region_held3 (fun w' => w'.cell? ⟨bc, 0, none⟩ = some (.slice A n c) ∧ w'.cell? ⟨b1, o1 + t, none⟩ = some (.int .i64 ev)) (first | with_reducible exact ⟨p0_0, ce⟩ | go_keep)
                        (first | (go_simp; go_at_call 36; (first | with_reducible refine (k_has hH.out HAUi.out.al HAL.out (by omega) HL40.out).mono ?_ | with_reducible refine (k_has hH.out HAUd.out.al HAL.out (by omega) HL40.out.drew).mono ?_); rintro e w41 ⟨rfl, hl⟩
                                  have HL41 := Lib.hid hl.lw
                                  have HL41d := Lib.hid hl.lw.drew
                                  have p0_0 := hl.lw.bx.at 0 rfl 0 rfl
                                  have ce := CE.out _ hl.lw.bel
                                  clear hl))
                      all_goals
                        go_wp2_with fail
                        go_roundw
                        case rel => exact ⟨t + 1, 0, by omega, by go_num, rfl, Lib.hid (.inl ⟨rfl, HTI2.out⟩), by first | exact HL41 | exact HL41d⟩
                        case measure => simp [intOf]; omega
                  · exact absurd HTI.out (by rw [List.take_of_length_le (by rw [HWL.out]; omega), HIB.out]; simp)
                · clear hv
                  have p0_0 := HL40.out.bx.at 0 rfl 0 rfl
                  have p0_1 := HL40.out.bx.at 0 rfl 1 rfl
                  have p0_2 := HL40.out.bx.at 0 rfl 2 rfl
                  have p0_3 := HL40.out.bx.at 0 rfl 3 rfl
                  by_cases htl : t < l
                  · have z1 : (t : Int) < (l : Int) := by omega
                    go_wp2_with fail
                    go_roundw
                    case rel => exact ⟨f + 1, by omega, by omega, rfl, HL40⟩
                    case measure => simp [intOf]; omega
                  · have z1 : (l : Int) ≤ (t : Int) := by omega
                    go_wp2_with fail
                    go_roundw
                    case rel => exact ⟨f + 1, by omega, by omega, rfl, HL40⟩
                    case measure => simp [intOf]; omega
            · have HIB := Lib.hid hib
              clear hib
              have HWi := Lib.hid (show RdI w9 w9.heap.size Aw ws from HWr.out)
              have p0_0 := HL20.out.bx.at 0 rfl 0 rfl
              have p0_1 := HL20.out.bx.at 0 rfl 1 rfl
              have p0_2 := HL20.out.bx.at 0 rfl 2 rfl
              have p0_3 := HL20.out.bx.at 0 rfl 3 rfl
              obtain ⟨rx, hrx⟩ : ∃ x, (runE a f ws).1 = x := ⟨_, rfl⟩
              obtain ⟨ry, hry⟩ : ∃ y : Int, ((runE a f ws).2 : Int) = y := ⟨_, rfl⟩
              have HRX := Lib.hid hrx
              have HRY := Lib.hid hry
              have HRR := Lib.hid (show runR a f ws = (rx, ry, 0) by rw [runR_in HC.out hqi.out HIB.out, hrx, hry])
              have e3 : (rx != rx) = false := by simp
              have e4 : (ry != ry) = false := by simp
              clear hrx hry
              go_wp2_with fail
              refine (k_run HRR.out HAU.out HWc.out HWL.out (by omega) HL20.out).mono ?_
              rintro e w21 ⟨rfl, hl⟩
              clear p0_0 p0_1 p0_2 p0_3
              have HL21 := Lib.hid hl.lw
              have HAU := Lib.hid (hl.aut HAU.out)
              have HWc := Lib.hid (hl.ints HWc.out)
              clear hl
              have p0_0 := HL21.out.bx.at 0 rfl 0 rfl
              have p0_1 := HL21.out.bx.at 0 rfl 1 rfl
              have p0_2 := HL21.out.bx.at 0 rfl 2 rfl
              have p0_3 := HL21.out.bx.at 0 rfl 3 rfl
              go_wp2_with fail
              go_loopw [16, 17] (fun wv i wr => ∃ t : Nat, t ≤ l ∧ i = .int .i64 t ∧ wv = .int .i64 0 ∧ Hid (LW w9 ((bc, [.slice A n c, .int .i64 s, .slice M m d, .slice E k g]) :: [(W.heap.size, [gv 0, gv 1, gv 2, gv 3, gv 4, gv 5, gv 6, gv 7, gv 8, gv 9, gv 10, gv 11, gv 12, gv 13, gv 14, gv 15, gv 16, gv 17, gv 18, gv 19, gv 20, gv 21, gv 22, gv 23, gv 24, gv 25, gv 26])]) wr)) (fun _ i _ => l - (intOf i).toNat)
              case atStart => exact ⟨0, Nat.zero_le _, rfl, rfl, HL21⟩
              case round =>
                obtain ⟨t, htl0, rfl, rfl, HL40⟩ := hrel
                have p0_0 := HL40.out.bx.at 0 rfl 0 rfl
                have p0_1 := HL40.out.bx.at 0 rfl 1 rfl
                have p0_2 := HL40.out.bx.at 0 rfl 2 rfl
                have p0_3 := HL40.out.bx.at 0 rfl 3 rfl
                by_cases htl : t < l
                · obtain ⟨b1, o1, rfl, hb1, hc1⟩ := HWi.out (by rw [HWL.out]; omega)
                  have hz1 : t < ws.length := by rw [HWL.out]; exact htl
                  obtain ⟨ev, hev⟩ : ∃ ev, ev = ws.getD t 0 := ⟨_, rfl⟩
                  have CE := Lib.hid (fun W' (hW : Below w9.heap.size w9 W') => by
                    have := (hW.cell (p := ⟨b1, o1 + t, none⟩) hb1).trans (hc1 t hz1)
                    rw [← hev] at this; exact this)
                  have ce := CE.out wr HL40.out.bel
                  have z1 : (t : Int) < (l : Int) := by omega
                  have z2 : (0 : Int) ≤ (t : Int) := by omega
                  have HAUi := Lib.hid (HL40.out.aut A n c s M m d E k g HAUr.out)
                  have HAUd := Lib.hid (HL40.out.drew.aut A n c s M m d E k g HAUr.out)
                  clear hc1
                  have hH := Lib.hid (show decide (ev ∈ a.al) = true by rw [hev]; exact in_at HIB.out hz1)
                  clear hev
                  go_wp2_with fail
                  go_region_held3 (fun w' => w'.cell? ⟨bc, 0, none⟩ = some (.slice A n c) ∧ w'.cell? ⟨b1, o1 + t, none⟩ = some (.int .i64 ev)) (first | with_reducible exact ⟨p0_0, ce⟩ | go_keep)
                    (first | (go_simp; go_at_call 36; (first | with_reducible refine (k_has hH.out HAUi.out.al HAL.out (by omega) HL40.out).mono ?_ | with_reducible refine (k_has hH.out HAUd.out.al HAL.out (by omega) HL40.out.drew).mono ?_); rintro e w41 ⟨rfl, hl⟩
                              have HL41 := Lib.hid hl.lw
                              have HL41d := Lib.hid hl.lw.drew
                              have p0_0 := hl.lw.bx.at 0 rfl 0 rfl
                              have ce := CE.out _ hl.lw.bel
                              clear hl))
                  all_goals
                    go_wp2_with fail
                    go_roundw
                    case rel => exact ⟨t + 1, by omega, by go_num, rfl, by first | exact HL41 | exact HL41d⟩
                    case measure => simp [intOf]; omega
                · have z1 : (l : Int) ≤ (t : Int) := by omega
                  have HAU := Lib.hid (HL40.out.aut A n c s M m d E k g HAUr.out)
                  have HWc := Lib.hid (HL40.out.ints HWi.out)
                  go_wp2_with fail
                  refine (k_rrun HRX.out HRY.out HRW.out HAU.out HWc.out HWL.out (by omega) HL40.out).mono ?_
                  rintro e w41 ⟨rfl, hl⟩
                  clear p0_0 p0_1 p0_2 p0_3
                  have HL41 := Lib.hid hl.lw
                  have HAU := Lib.hid (hl.aut HAU.out)
                  have HWc := Lib.hid (hl.ints HWc.out)
                  clear hl
                  have p0_0 := HL41.out.bx.at 0 rfl 0 rfl
                  have p0_1 := HL41.out.bx.at 0 rfl 1 rfl
                  have p0_2 := HL41.out.bx.at 0 rfl 2 rfl
                  have p0_3 := HL41.out.bx.at 0 rfl 3 rfl
                  go_wp2_with fail
                  go_roundw
                  case rel => exact ⟨f + 1, by omega, by omega, rfl, HL41⟩
                  case measure => simp [intOf]; omega
      · have hle : s < f := by omega
        have p0_0 := HL20.out.bx.at 0 rfl 0 rfl
        have p0_1 := HL20.out.bx.at 0 rfl 1 rfl
        have p0_2 := HL20.out.bx.at 0 rfl 2 rfl
        have p0_3 := HL20.out.bx.at 0 rfl 3 rfl
        go_wp2_with fail
        go_ret
        exact ⟨rfl, HBw.out.trans (HL20.out.bel.mono HBw.out.size)⟩
end Go.Proofs.Ytcciiikaejjooaa
