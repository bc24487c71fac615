/- The law AutomatonCompletes, walked. -/
import Derived.Test.YtcciiikaejjooaaaByt
import Derived.Deep.RegionHeld3
import Derived.Deep.CutRange
namespace Go.Proofs.Ytcciiikaejjooaa
open Go.RowKit Go.Sort
attribute [local go_sem ↓] exec_load_graph'
attribute [local go_sem] blkOf_ptr

set_option maxHeartbeats 8000000 in
set_option maxRecDepth 100000 in
theorem lawCompletes (x : Int) (gv : Nat → Value) (Aw : Option Addr) (l lc : Nat) (ws : List Int) (W : World) (S0 : (Lit.int .u8 x).wf = true) (S1 : GrC #[gv 0, gv 1, gv 2, gv 3, gv 4, gv 5, gv 6, gv 7, gv 8, gv 9, gv 10, gv 11, gv 12, gv 13, gv 14, gv 15, gv 16, gv 17, gv 18, gv 19, gv 20, gv 21, gv 22, gv 23, gv 24, gv 25, gv 26]) (S2 : RdB W W.heap.size Aw ws) (S3 : ws.length = l) (S4 : ∀ z ∈ ws, (Lit.int .u8 z).wf = true) :
    Calls Try.prog 11 #[.int .u8 x, .agg #[gv 0, gv 1, gv 2, gv 3, gv 4, gv 5, gv 6, gv 7, gv 8, gv 9, gv 10, gv 11, gv 12, gv 13, gv 14, gv 15, gv 16, gv 17, gv 18, gv 19, gv 20, gv 21, gv 22, gv 23, gv 24, gv 25, gv 26], .slice Aw l lc] W fun e W' => e = .returned (.bool true) ∧ Below W.heap.size W W' := by
  have HL0 := Lib.hid (LW.first W [gv 0, gv 1, gv 2, gv 3, gv 4, gv 5, gv 6, gv 7, gv 8, gv 9, gv 10, gv 11, gv 12, gv 13, gv 14, gv 15, gv 16, gv 17, gv 18, gv 19, gv 20, gv 21, gv 22, gv 23, gv 24, gv 25, gv 26] 50)
  have HK := Lib.hid known_any
  have HS0 := Lib.hid S0
  have HS1 := Lib.hid S1
  have HWD := Lib.hid S2
  have HWL := Lib.hid S3
  have HWF := Lib.hid S4
  obtain ⟨iI, iI0, iI1, iI2, iI3⟩ := info_parts info_int
  clear S0 S1 S2 S3 S4
  by_cases h10 : 8 < l
  · go_enter Try.func11, Try.ntmps11
    go_wp2_with fail
    refine (lw_call (HK.out _) HL0.out).mono ?_
    rintro e w1 ⟨rfl, hl⟩
    have HL1 := Lib.hid hl
    clear hl
    go_wp2_with fail
    refine (lw_call (HK.out _) HL1.out).mono ?_
    rintro e w2 ⟨rfl, hl⟩
    have HL2 := Lib.hid hl
    clear hl
    go_wp2_with fail
    go_ret
    exact ⟨rfl, HL2.out.bel⟩
  have hl10 : l ≤ 8 := by omega
  go_enter Try.func11, Try.ntmps11
  go_wp2_with fail
  refine (lw_call (HK.out _) HL0.out).mono ?_
  rintro e w1 ⟨rfl, hl⟩
  have HL1 := Lib.hid hl
  clear hl
  have hr := HL1.out.bx.grid 0 rfl
  have hz := HL1.out.bx.lt 0 rfl
  go_wp2_with fail
  go_cut [7] from 32 to 36 (fun v wx => PreR W [(W.heap.size, [gv 0, gv 1, gv 2, gv 3, gv 4, gv 5, gv 6, gv 7, gv 8, gv 9, gv 10, gv 11, gv 12, gv 13, gv 14, gv 15, gv 16, gv 17, gv 18, gv 19, gv 20, gv 21, gv 22, gv 23, gv 24, gv 25, gv 26])] v wx)
  case first =>
    go_region_held3 (fun w' => GridOk w' W.heap.size ∧ ∀ i : Nat, i < 27 → w'.cell? ⟨W.heap.size, i, none⟩ = some (gv i)) (first | with_reducible exact grid_two (hr) | with_reducible exact grid_two (grid_drew hr) | with_reducible exact grid_two (grid_alloc hr hz _ _) | with_reducible exact grid_two (grid_drew (grid_alloc hr hz _ _)) | with_reducible exact grid_two (grid_set4 hr (by omega) _ _ _ _) | with_reducible exact grid_two (grid_set4 (grid_alloc hr hz _ _) (by omega) _ _ _ _))
      (first
      | (go_simp; go_at_call 33; refine (events_any x _ HS0.out).mono ?_; rintro e w2 ⟨al, hev, A0, c0, rfl, hrd, hb2, hc0, hc02⟩
         have HB2 := Lib.hid hb2
         have HEV := Lib.hid hev
         have HRD := Lib.hid hrd
         have hz2 := hb2.size
         have hr : ∀ i : Nat, i < 27 → w2.cell? ⟨W.heap.size, i, none⟩ = some (gv i) := by first | with_reducible exact grid_below' hb2 hr hz | with_reducible exact grid_below' hb2 (grid_drew hr) (lt_drew hz) | with_reducible exact grid_below' hb2 (grid_alloc hr hz _ _) (lt_alloc hz _ _) | with_reducible exact grid_below' hb2 (grid_drew (grid_alloc hr hz _ _)) (lt_drew (lt_alloc hz _ _))
         have hz : W.heap.size < w2.heap.size := by (try simp at hz2); omega
         try (have hq : Row w2 w1.heap.size 25 [.slice none 0 0, .int .i64 0, .slice none 0 0, .slice none 0 0] := Row.below (row_drew (Row.new w1 [.slice none 0 0, .int .i64 0, .slice none 0 0, .slice none 0 0] 25)) hb2 (by simp); have hq0 := Lib.hid hq)
         clear hb2 hev hrd)
      | (go_simp; go_at_call 32; refine (make_any A0 al.length c0 w2.heap.size al #[gv 0, gv 1, gv 2, gv 3, gv 4, gv 5, gv 6, gv 7, gv 8, gv 9, gv 10, gv 11, gv 12, gv 13, gv 14, gv 15, gv 16, gv 17, gv 18, gv 19, gv 20, gv 21, gv 22, gv 23, gv 24, gv 25, gv 26] _ (by first | exact HRD.out | exact HRD.out.below ((Below.refl _ w2).alloc (Nat.le_refl _) _) (Nat.le_refl _)) (by simp) rfl hc0 HEV.out HS1.out).mono ?_; rintro e w3 ⟨a, v3, hok, rfl, ⟨A, n, c, s, M, m, d, E, k, g, rfl, hau, hfr⟩, hb3⟩
         have HB3 := Lib.hid hb3
         have HOK := Lib.hid hok
         have HAU := Lib.hid (show AuF a (.agg #[.slice A n c, .int .i64 s, .slice M m d, .slice E k g]) w3 _ from ⟨A, n, c, s, M, m, d, E, k, g, rfl, hau, hfr⟩)
         have hz3 := hb3.size
         have hr : ∀ i : Nat, i < 27 → w3.cell? ⟨W.heap.size, i, none⟩ = some (gv i) := by first | with_reducible exact grid_below' hb3 hr hz | with_reducible exact grid_below' hb3 (grid_drew hr) (lt_drew hz) | with_reducible exact grid_below' hb3 (grid_alloc hr hz _ _) (lt_alloc hz _ _) | with_reducible exact grid_below' hb3 (grid_drew (grid_alloc hr hz _ _)) (lt_drew (lt_alloc hz _ _))
         have hz : W.heap.size < w3.heap.size := by (try simp at hz3); omega
         try (have hq : Row w3 w1.heap.size 25 [.slice none 0 0, .int .i64 0, .slice none 0 0, .slice none 0 0] := hq0.out.below hb3 hq0.out.lt; have hq1 := Lib.hid hq; have y0 := hq.cell 0 rfl; have y1 := hq.cell 1 rfl; have y2 := hq.cell 2 rfl; have y3 := hq.cell 3 rfl; have g0 := hq.frozen 0; have g1 := hq.frozen 1; have g2 := hq.frozen 2; have g3 := hq.frozen 3; clear hq)
         try (have hq : Row w3 w2.heap.size 25 [.slice none 0 0, .int .i64 0, .slice none 0 0, .slice none 0 0] := Row.below (Row.new w2 [.slice none 0 0, .int .i64 0, .slice none 0 0, .slice none 0 0] 25) hb3 (by simp); have hq1 := Lib.hid hq; have y0 := hq.cell 0 rfl; have y1 := hq.cell 1 rfl; have y2 := hq.cell 2 rfl; have y3 := hq.cell 3 rfl; have g0 := hq.frozen 0; have g1 := hq.frozen 1; have g2 := hq.frozen 2; have g3 := hq.frozen 3; clear hq)
         clear hb3 hok hau hfr))
    all_goals
      go_wp2_with fail
      go_meet
      case rel => first | exact pre_1 HL1.out HB2.out HB3.out HEV.out HOK.out HAU.out | exact pre_2 HL1.out HB2.out HB3.out hq1.out HEV.out HOK.out HAU.out | exact pre_3 HL1.out HB2.out HB3.out hq1.out HEV.out HOK.out HAU.out
  case rest =>
    obtain ⟨bc, al, a, A, n, c, s, M, m, d, E, k, g, rfl, HL4, HEV, HOK, HAU⟩ := hcut
    have HB0 := Lib.hid HL4.out.bel
    have HL5 := Lib.hid (show LW wc ((bc, [.slice A n c, .int .i64 s, .slice M m d, .slice E k g]) :: [(W.heap.size, [gv 0, gv 1, gv 2, gv 3, gv 4, gv 5, gv 6, gv 7, gv 8, gv 9, gv 10, gv 11, gv 12, gv 13, gv 14, gv 15, gv 16, gv 17, gv 18, gv 19, gv 20, gv 21, gv 22, gv 23, gv 24, gv 25, gv 26])]) wc from ⟨Below.refl _ _, HL4.out.bx⟩)
    have HC := Lib.hid HOK.out.r.chk
    have HRW := Lib.hid HOK.out.r.toRightW
    have HST := Lib.hid HAU.out.st
    have HS5 := Lib.hid HOK.out.st
    have HAL := Lib.hid HAU.out.hn
    have hbn : n ≤ 5 := by have h1 := Ev5.len (n := 5) HEV.out; rw [← HOK.out.al, HAL.out] at h1; exact h1
    have hs0 : 0 ≤ s := by rw [← HST.out]; exact HRW.out.st0
    have hs5 : s ≤ 5 := by rw [← HST.out]; exact HOK.out.st
    have HAU0 := Lib.hid HAU.out
    have hb8 : decide ((8 : Int) < (l : Int)) = false := by simp; omega
    clear hr hz
    have p0_0 := HL5.out.bx.at 0 rfl 0 rfl
    have p0_1 := HL5.out.bx.at 0 rfl 1 rfl
    have p0_2 := HL5.out.bx.at 0 rfl 2 rfl
    have p0_3 := HL5.out.bx.at 0 rfl 3 rfl
    go_wp2_with fail
    refine (k_cmp HC.out HS5.out HAU.out HL5.out).mono ?_
    rintro e w6 ⟨A2, n2, c2, s2, M2, m2, d2, E2, k2, g2, rfl, hau2, hl⟩
    clear p0_0 p0_1 p0_2 p0_3
    have HL6 := Lib.hid hl.lw
    have HAU := Lib.hid (hl.aut HAU.out)
    have HAU2 := Lib.hid hau2
    clear hau2
    clear hl
    have p0_0 := HL6.out.bx.at 0 rfl 0 rfl
    have p0_1 := HL6.out.bx.at 0 rfl 1 rfl
    have p0_2 := HL6.out.bx.at 0 rfl 2 rfl
    have p0_3 := HL6.out.bx.at 0 rfl 3 rfl
    have HKa := Below.alloc (Below.refl w6.heap.size w6) (Nat.le_refl _) (.cells #[.slice A2 n2 c2, .int .i64 s2, .slice M2 m2 d2, .slice E2 k2 g2] 25)
    have HL6n := Lib.hid (HL6.out.new [.slice A2 n2 c2, .int .i64 s2, .slice M2 m2 d2, .slice E2 k2 g2] 25)
    have HAU := Lib.hid ((HAU.out.below HKa (Nat.le_refl _)).more HKa.size)
    have HAU2 := Lib.hid ((HAU2.out.below HKa (Nat.le_refl _)).more HKa.size)
    clear HKa
    clear p0_0 p0_1 p0_2 p0_3
    have p0_0 := HL6n.out.bx.at 0 rfl 0 rfl
    have p0_1 := HL6n.out.bx.at 0 rfl 1 rfl
    have p0_2 := HL6n.out.bx.at 0 rfl 2 rfl
    have p0_3 := HL6n.out.bx.at 0 rfl 3 rfl
    have p1_0 := HL6n.out.bx.at 1 rfl 0 rfl
    have p1_1 := HL6n.out.bx.at 1 rfl 1 rfl
    have p1_2 := HL6n.out.bx.at 1 rfl 2 rfl
    have p1_3 := HL6n.out.bx.at 1 rfl 3 rfl
    go_wp2_with fail
    refine (k_cls HC.out HAU.out HL6n.out).mono ?_
    rintro e w7 ⟨A3, n3, c3, s3, M3, m3, d3, E3, k3, g3, rfl, hau3, hl⟩
    clear p0_0 p0_1 p0_2 p0_3 p1_0 p1_1 p1_2 p1_3
    have HL7 := Lib.hid hl.lw
    have HAU := Lib.hid (hl.aut HAU.out)
    have HAU2 := Lib.hid (hl.aut HAU2.out)
    have HAU3 := Lib.hid hau3
    clear hau3
    clear hl
    have p0_0 := HL7.out.bx.at 0 rfl 0 rfl
    have p0_1 := HL7.out.bx.at 0 rfl 1 rfl
    have p0_2 := HL7.out.bx.at 0 rfl 2 rfl
    have p0_3 := HL7.out.bx.at 0 rfl 3 rfl
    have p1_0 := HL7.out.bx.at 1 rfl 0 rfl
    have p1_1 := HL7.out.bx.at 1 rfl 1 rfl
    have p1_2 := HL7.out.bx.at 1 rfl 2 rfl
    have p1_3 := HL7.out.bx.at 1 rfl 3 rfl
    have HKa := Below.alloc (Below.refl w7.heap.size w7) (Nat.le_refl _) (.cells #[.slice A3 n3 c3, .int .i64 s3, .slice M3 m3 d3, .slice E3 k3 g3] 25)
    have HL7n := Lib.hid (HL7.out.new [.slice A3 n3 c3, .int .i64 s3, .slice M3 m3 d3, .slice E3 k3 g3] 25)
    have HAU := Lib.hid ((HAU.out.below HKa (Nat.le_refl _)).more HKa.size)
    have HAU2 := Lib.hid ((HAU2.out.below HKa (Nat.le_refl _)).more HKa.size)
    have HAU3 := Lib.hid ((HAU3.out.below HKa (Nat.le_refl _)).more HKa.size)
    clear HKa
    clear p0_0 p0_1 p0_2 p0_3 p1_0 p1_1 p1_2 p1_3
    have p0_0 := HL7n.out.bx.at 0 rfl 0 rfl
    have p0_1 := HL7n.out.bx.at 0 rfl 1 rfl
    have p0_2 := HL7n.out.bx.at 0 rfl 2 rfl
    have p0_3 := HL7n.out.bx.at 0 rfl 3 rfl
    have p1_0 := HL7n.out.bx.at 1 rfl 0 rfl
    have p1_1 := HL7n.out.bx.at 1 rfl 1 rfl
    have p1_2 := HL7n.out.bx.at 1 rfl 2 rfl
    have p1_3 := HL7n.out.bx.at 1 rfl 3 rfl
    have p2_0 := HL7n.out.bx.at 2 rfl 0 rfl
    have p2_1 := HL7n.out.bx.at 2 rfl 1 rfl
    have p2_2 := HL7n.out.bx.at 2 rfl 2 rfl
    have p2_3 := HL7n.out.bx.at 2 rfl 3 rfl
    have HL7d := Lib.hid HL7n.out.drew
    have HAUd := Lib.hid HAU.out.dr
    have HAU2d := Lib.hid HAU2.out.dr
    have HAU3d := Lib.hid HAU3.out.dr
    have HRc := Lib.hid (fun (w' : World) (h : LW wc ((w7.heap.size, [.slice A3 n3 c3, .int .i64 s3, .slice M3 m3 d3, .slice E3 k3 g3]) :: (w6.heap.size, [.slice A2 n2 c2, .int .i64 s2, .slice M2 m2 d2, .slice E2 k2 g2]) :: ((bc, [.slice A n c, .int .i64 s, .slice M m d, .slice E k g]) :: [(W.heap.size, [gv 0, gv 1, gv 2, gv 3, gv 4, gv 5, gv 6, gv 7, gv 8, gv 9, gv 10, gv 11, gv 12, gv 13, gv 14, gv 15, gv 16, gv 17, gv 18, gv 19, gv 20, gv 21, gv 22, gv 23, gv 24, gv 25, gv 26])])) w') (ha : AuR w' w'.heap.size A n c s M m d E k g a) => k_rcmp HRW.out hs0 hs5 ha h)
    have HRl := Lib.hid (fun (w' : World) (h : LW wc ((w7.heap.size, [.slice A3 n3 c3, .int .i64 s3, .slice M3 m3 d3, .slice E3 k3 g3]) :: (w6.heap.size, [.slice A2 n2 c2, .int .i64 s2, .slice M2 m2 d2, .slice E2 k2 g2]) :: ((bc, [.slice A n c, .int .i64 s, .slice M m d, .slice E k g]) :: [(W.heap.size, [gv 0, gv 1, gv 2, gv 3, gv 4, gv 5, gv 6, gv 7, gv 8, gv 9, gv 10, gv 11, gv 12, gv 13, gv 14, gv 15, gv 16, gv 17, gv 18, gv 19, gv 20, gv 21, gv 22, gv 23, gv 24, gv 25, gv 26])])) w') (ha : AuR w' w'.heap.size A n c s M m d E k g a) => k_rcls HRW.out hs5 ha h)
    go_wp2_with fail
    go_region_held3 (fun w' => w'.cell? ⟨w7.heap.size, 0, none⟩ = some (.slice A3 n3 c3) ∧ w'.cell? ⟨w7.heap.size, 1, none⟩ = some (.int .i64 s3) ∧ w'.cell? ⟨w7.heap.size, 2, none⟩ = some (.slice M3 m3 d3) ∧ w'.cell? ⟨w7.heap.size, 3, none⟩ = some (.slice E3 k3 g3) ∧ w'.cell? ⟨w6.heap.size, 0, none⟩ = some (.slice A2 n2 c2) ∧ w'.cell? ⟨w6.heap.size, 1, none⟩ = some (.int .i64 s2) ∧ w'.cell? ⟨w6.heap.size, 2, none⟩ = some (.slice M2 m2 d2) ∧ w'.cell? ⟨w6.heap.size, 3, none⟩ = some (.slice E2 k2 g2) ∧ w'.cell? ⟨bc, 0, none⟩ = some (.slice A n c) ∧ w'.cell? ⟨bc, 1, none⟩ = some (.int .i64 s) ∧ w'.cell? ⟨bc, 2, none⟩ = some (.slice M m d) ∧ w'.cell? ⟨bc, 3, none⟩ = some (.slice E k g)) (first | with_reducible exact ⟨p0_0, p0_1, p0_2, p0_3, p1_0, p1_1, p1_2, p1_3, p2_0, p2_1, p2_2, p2_3⟩ | go_keep)
      (first
       | (go_simp; go_at_call 44; refine (HRc.out _ HL7d.out HAUd.out).mono ?_; rintro e w8 ⟨A4, n4, c4, s4, M4, m4, d4, E4, k4, g4, rfl, hau4, hl⟩
          have HL8 := Lib.hid hl.lw
          have HAU4 := Lib.hid hau4
          have HAUb := Lib.hid (by exact hl.aut HAUd.out : AuR w8 w8.heap.size A n c s M m d E k g a)
          have HAU2b := Lib.hid (by exact hl.aut HAU2d.out : AuR w8 w8.heap.size A2 n2 c2 s2 M2 m2 d2 E2 k2 g2 (canA (compA a)))
          have HAU3b := Lib.hid (by exact hl.aut HAU3d.out : AuR w8 w8.heap.size A3 n3 c3 s3 M3 m3 d3 E3 k3 g3 (clsA a))
          have p0_0 := hl.lw.bx.at 0 rfl 0 rfl; have p0_1 := hl.lw.bx.at 0 rfl 1 rfl; have p0_2 := hl.lw.bx.at 0 rfl 2 rfl; have p0_3 := hl.lw.bx.at 0 rfl 3 rfl; have p1_0 := hl.lw.bx.at 1 rfl 0 rfl; have p1_1 := hl.lw.bx.at 1 rfl 1 rfl; have p1_2 := hl.lw.bx.at 1 rfl 2 rfl; have p1_3 := hl.lw.bx.at 1 rfl 3 rfl; have p2_0 := hl.lw.bx.at 2 rfl 0 rfl; have p2_1 := hl.lw.bx.at 2 rfl 1 rfl; have p2_2 := hl.lw.bx.at 2 rfl 2 rfl; have p2_3 := hl.lw.bx.at 2 rfl 3 rfl
          clear hl hau4)
       | (go_simp; go_at_call 30; with_reducible refine (k_rsame A4 n4 c4 s4 M4 m4 d4 E4 k4 g4 (decide_eq_true rfl) HAU2b.out HAU4.out HL8.out).mono ?_; rintro e w9 ⟨rfl, hl⟩
          have HL9 := Lib.hid hl.lw
          have HAU9 := Lib.hid (hl.aut HAUb.out)
          have HAU29 := Lib.hid (hl.aut HAU2b.out)
          have HAU39 := Lib.hid (hl.aut HAU3b.out)
          have p0_0 := hl.lw.bx.at 0 rfl 0 rfl; have p0_1 := hl.lw.bx.at 0 rfl 1 rfl; have p0_2 := hl.lw.bx.at 0 rfl 2 rfl; have p0_3 := hl.lw.bx.at 0 rfl 3 rfl; have p1_0 := hl.lw.bx.at 1 rfl 0 rfl; have p1_1 := hl.lw.bx.at 1 rfl 1 rfl; have p1_2 := hl.lw.bx.at 1 rfl 2 rfl; have p1_3 := hl.lw.bx.at 1 rfl 3 rfl; have p2_0 := hl.lw.bx.at 2 rfl 0 rfl; have p2_1 := hl.lw.bx.at 2 rfl 1 rfl; have p2_2 := hl.lw.bx.at 2 rfl 2 rfl; have p2_3 := hl.lw.bx.at 2 rfl 3 rfl
          clear hl)
       | (go_simp; go_at_call 45; with_reducible refine (HRl.out _ HL9.out HAU9.out).mono ?_; rintro e w10 ⟨A5, n5, c5, s5, M5, m5, d5, E5, k5, g5, rfl, hau5, hl⟩
          have HL10 := Lib.hid hl.lw
          have HAU5 := Lib.hid hau5
          have HAUx := Lib.hid (hl.aut HAU9.out)
          have HAU2x := Lib.hid (hl.aut HAU29.out)
          have HAU3x := Lib.hid (hl.aut HAU39.out)
          have p0_0 := hl.lw.bx.at 0 rfl 0 rfl; have p0_1 := hl.lw.bx.at 0 rfl 1 rfl; have p0_2 := hl.lw.bx.at 0 rfl 2 rfl; have p0_3 := hl.lw.bx.at 0 rfl 3 rfl; have p1_0 := hl.lw.bx.at 1 rfl 0 rfl; have p1_1 := hl.lw.bx.at 1 rfl 1 rfl; have p1_2 := hl.lw.bx.at 1 rfl 2 rfl; have p1_3 := hl.lw.bx.at 1 rfl 3 rfl; have p2_0 := hl.lw.bx.at 2 rfl 0 rfl; have p2_1 := hl.lw.bx.at 2 rfl 1 rfl; have p2_2 := hl.lw.bx.at 2 rfl 2 rfl; have p2_3 := hl.lw.bx.at 2 rfl 3 rfl
          clear hl hau5)
       | (go_simp; go_at_call 30; with_reducible refine (k_rsame A5 n5 c5 s5 M5 m5 d5 E5 k5 g5 (decide_eq_true rfl) HAU3x.out HAU5.out HL10.out).mono ?_; rintro e w11 ⟨rfl, hl⟩
          have HL11 := Lib.hid hl.lw
          have HAU := Lib.hid (hl.aut HAUx.out)
          have HAU2 := Lib.hid (hl.aut HAU2x.out)
          have HAU3 := Lib.hid (hl.aut HAU3x.out)
          have p0_0 := hl.lw.bx.at 0 rfl 0 rfl; have p0_1 := hl.lw.bx.at 0 rfl 1 rfl; have p0_2 := hl.lw.bx.at 0 rfl 2 rfl; have p0_3 := hl.lw.bx.at 0 rfl 3 rfl; have p1_0 := hl.lw.bx.at 1 rfl 0 rfl; have p1_1 := hl.lw.bx.at 1 rfl 1 rfl; have p1_2 := hl.lw.bx.at 1 rfl 2 rfl; have p1_3 := hl.lw.bx.at 1 rfl 3 rfl; have p2_0 := hl.lw.bx.at 2 rfl 0 rfl; have p2_1 := hl.lw.bx.at 2 rfl 1 rfl; have p2_2 := hl.lw.bx.at 2 rfl 2 rfl; have p2_3 := hl.lw.bx.at 2 rfl 3 rfl
          clear hl))
    all_goals
      clear p0_0 p0_1 p0_2 p0_3 p1_0 p1_1 p1_2 p1_3 p2_0 p2_1 p2_2 p2_3
      have p2_0 := HL11.out.bx.at 2 rfl 0 rfl
      go_wp2_with fail
      go_loopw [12, 13] (fun vw i wr => ∃ (t : Nat) (K : List Int), t ≤ l ∧ i = .int .i64 t ∧ K.length ≤ t ∧ Hid (Below w11.heap.size w11 wr) ∧ Hid (Own wr w11.heap.size vw K) ∧ Hid (inB a.al K = true)) (fun _ i _ => l - (intOf i).toNat)
      case atStart => exact ⟨0, [], Nat.zero_le _, rfl, Nat.le_refl _, Lib.hid (Below.refl _ _), Lib.hid (World.ownsRow_nil _ _ _ _), Lib.hid rfl⟩
      case round =>
        obtain ⟨t, K, htl0, rfl, hKt, hbel, hown, hin⟩ := hrel
        have HLr := Lib.hid (HL11.out.call hbel.out)
        have p2_0 := HLr.out.bx.at 2 rfl 0 rfl
        have hbs := hbel.out.size
        have hbcl := HL11.out.bx.lt 2 rfl
        by_cases htl : t < l
        · have z1 : (t : Int) < (l : Int) := by omega
          have z0 : (0 : Int) ≤ (t : Int) := by omega
          by_cases hn0 : 0 < n
          · obtain ⟨bw, ow, rfl, hbw, hcw⟩ := HWD.out (by rw [HWL.out]; omega)
            have hz1 : t < ws.length := by rw [HWL.out]; exact htl
            obtain ⟨xb, hxb⟩ : ∃ xb, xb = ws.getD t 0 := ⟨_, rfl⟩
            have hxr := wf_u8 (HWF.out xb (by rw [hxb]; exact getD_mem hz1))
            have hx0 := hxr.1
            have hx1 := hxr.2
            have hBW := Lib.hid (HB0.out.trans ((HL11.out.bel.trans (hbel.out.mono HL11.out.bel.size)).mono HB0.out.size))
            have cw : wr.cell? ⟨bw, ow + t, none⟩ = some (.int .u8 xb) := by
              rw [hBW.out.cell (p := ⟨bw, ow + t, none⟩) hbw, hcw t hz1, hxb]
            have hn1 : (n : Int) ≠ 0 := by omega
            have hnz : ¬ n = 0 := by omega
            have hnb : ((n : Int) == 0) = false := by simp; omega
            obtain ⟨Q, hQ⟩ : ∃ Q : Nat, xb % (n : Int) = (Q : Int) := ⟨(xb % (n : Int)).toNat, by have := Int.emod_nonneg xb hn1; omega⟩
            have hQn : Q < n := by have := Int.emod_lt_of_pos xb (show (0 : Int) < (n : Int) by omega); omega
            have hQt : xb.tmod (n : Int) = (Q : Int) := by rw [Int.tmod_eq_emod_of_nonneg hx0]; exact hQ
            have hQw : IntKind.i64.wrap (Q : Int) = (Q : Int) := IntWalk.i64_in _ (by omega)
            have hxw : IntKind.i64.wrap xb = xb := IntWalk.i64_in _ (by omega)
            have HAr := Lib.hid ((HAU.out.below hbel.out (Nat.le_refl _)).more hbel.out.size)
            obtain ⟨bA, oA, rfl, hbA, hcA⟩ := HAU.out.al (by rw [HAL.out]; exact hn0)
            obtain ⟨ev, hev⟩ : ∃ ev, ev = a.al.getD Q 0 := ⟨_, rfl⟩
            have hQl : Q < a.al.length := by rw [HAL.out]; exact hQn
            have ca : wr.cell? ⟨bA, oA + Q, none⟩ = some (.int .i64 ev) := by
              rw [hbel.out.cell (p := ⟨bA, oA + Q, none⟩) hbA, hcA Q hQl, hev]
            have hin2 := Lib.hid (show inB a.al (K ++ [ev]) = true by
              have h := hin.out
              unfold inB at h ⊢
              rw [List.all_append, h, hev]
              have hm := getD_mem hQl
              simp only [List.all_cons, List.all_nil, Bool.and_true, Bool.true_and, decide_eq_true_eq]
              exact hm)
            have z2 : (Q : Int) < (n : Int) := by omega
            have z3 : (0 : Int) ≤ (Q : Int) := by omega
            have z4 : (0 : Int) < (n : Int) := by omega
            have hbwr : bw < wr.heap.size := by have := hBW.out.size; omega
            have hbw11 : bw < w11.heap.size := by have h1 := HB0.out.size; have h2 := HL11.out.bel.size; omega
            have hbAr : bA < wr.heap.size := by omega
            have hbcr : bc < wr.heap.size := by omega
            have ne : ∀ b, b < w11.heap.size → some b ≠ u12.ownBlock := fun b hb e => by have := (hown.out.lt b e.symm).1; omega
            have ne1 := ne bw hbw11
            have ne2 := ne bA hbA
            have ne3 := ne bc hbcl
            clear hxb hcw hcA hev hxr ne hQl
            go_wp2_with fail
            go_region_held3 (fun w' => w'.cell? ⟨bc, 0, none⟩ = some (.slice (some ⟨bA, oA, none⟩) n c) ∧ w'.cell? ⟨bw, ow + t, none⟩ = some (.int .u8 xb) ∧ w'.cell? ⟨bA, oA + Q, none⟩ = some (.int .i64 ev)) (first | with_reducible exact ⟨p2_0, cw, ca⟩ | go_keep | exact ⟨far2 hgrow hbcr ne3 p2_0, far2 hgrow hbwr ne1 cw, far2 hgrow hbAr ne2 ca⟩ | exact ⟨far1 hgrow hbcr ne3 p2_0, far1 hgrow hbwr ne1 cw, far1 hgrow hbAr ne2 ca⟩)
              ((refine step_append_lies _ (by rfl) _ _ _ (by rfl) w11.heap.size 3 iI (.int .i64 0) 1 8 Try.underlying22 iI0 iI1 iI2 iI3 rfl (by omega) u12 K.length (K.map (Value.int .i64)) (by rfl) (by first | exact (hown.out.alloc _).drew | exact hown.out.alloc _) ⟨wr.heap.size, 0, none⟩ 1 1 [.int .i64 ev] (by rfl) (by rfl) (World.news_of_block (cs := #[.int .i64 ev]) (t := 3) (fr := (0, 0)) (heap_alloc_new wr _)) (by simp [Value.oneCell']) (by omega) (by unfold maxLen; omega) (by omega) (by simp; omega) (wr.heap.size + 1) (by simp) ?_; intro gg cap w6 hown6 hgrow hat hlt1))
            have hO6 := Lib.hid (show Own w6 w11.heap.size (.slice (some ⟨gg, 0, none⟩) (K.length + 1) cap) (K ++ [ev]) by unfold Own; rw [List.length_append]; simpa using hown6)
            have hB6 := Lib.hid (show Below w11.heap.size w11 w6 by
              first
              | exact ((hbel.out.alloc hbs _).drew).grown hgrow (by simp; omega) (fun k hk => (hown.out.lt k hk).1)
              | exact (hbel.out.alloc hbs _).grown hgrow (by simp; omega) (fun k hk => (hown.out.lt k hk).1))
            clear hown6 hgrow hat
            go_wp2_with fail
            go_roundw
            case rel => exact ⟨t + 1, K ++ [ev], by omega, by go_num, by rw [List.length_append]; simp; omega, hB6, hO6, hin2⟩
            case measure => simp [intOf]; omega
          · have z4 : (n : Int) ≤ 0 := by omega
            clear p2_0
            obtain ⟨A9, c9, rfl, hk9, _, _⟩ := own_rdc hown.out
            obtain ⟨kl, hkl⟩ : ∃ kl, kl = K.length := ⟨_, rfl⟩
            rw [← hkl]
            have HKL := Lib.hid hkl.symm
            have HKr := Lib.hid hk9
            have hkb : kl ≤ 100000 := by rw [hkl]; omega
            have HL20 := Lib.hid (HL11.out.call hbel.out)
            have HAU := Lib.hid ((HAU.out.below hbel.out (Nat.le_refl _)).more hbel.out.size)
            have HAU2 := Lib.hid ((HAU2.out.below hbel.out (Nat.le_refl _)).more hbel.out.size)
            have HAU3 := Lib.hid ((HAU3.out.below hbel.out (Nat.le_refl _)).more hbel.out.size)
            obtain ⟨pv, hpv⟩ : ∃ b, accB a K = b := ⟨_, rfl⟩
            obtain ⟨qv, hqv⟩ : ∃ b, genB a K = b := ⟨_, rfl⟩
            have HPV := Lib.hid hpv
            have HQV := Lib.hid hqv
            have HG1 := Lib.hid (show genB (canA (compA a)) K = true by rw [gen_can (comp_right HRW.out), comp_gen HRW.out hin.out])
            have HG2 := Lib.hid (show accB (canA (compA a)) K = pv by rw [acc_can (comp_right HRW.out), comp_acc HRW.out hin.out, hpv])
            have HG3 := Lib.hid (show accB (clsA a) K = qv by rw [cls_acc HRW.out, hqv])
            have HC2 := Lib.hid (comp_chk HRW.out HS5.out)
            have HC3 := Lib.hid (cls_chk HRW.out HS5.out)
            have e5 : (pv == pv) = true := by simp
            have e6 : (qv == qv) = true := by simp
            clear hk9 hkl hpv hqv hbel hown hin
            have p0_0 := HL20.out.bx.at 0 rfl 0 rfl
            have p0_1 := HL20.out.bx.at 0 rfl 1 rfl
            have p0_2 := HL20.out.bx.at 0 rfl 2 rfl
            have p0_3 := HL20.out.bx.at 0 rfl 3 rfl
            have p1_0 := HL20.out.bx.at 1 rfl 0 rfl
            have p1_1 := HL20.out.bx.at 1 rfl 1 rfl
            have p1_2 := HL20.out.bx.at 1 rfl 2 rfl
            have p1_3 := HL20.out.bx.at 1 rfl 3 rfl
            have p2_0 := HL20.out.bx.at 2 rfl 0 rfl
            have p2_1 := HL20.out.bx.at 2 rfl 1 rfl
            have p2_2 := HL20.out.bx.at 2 rfl 2 rfl
            have p2_3 := HL20.out.bx.at 2 rfl 3 rfl
            go_wp2_with fail
            refine (k_gen HC2.out HG1.out HAU2.out HKr.out HKL.out hkb HL20.out).mono ?_
            rintro e w21 ⟨rfl, hl⟩
            clear p0_0 p0_1 p0_2 p0_3 p1_0 p1_1 p1_2 p1_3 p2_0 p2_1 p2_2 p2_3
            have HL21 := Lib.hid hl.lw
            have HAU := Lib.hid (hl.aut HAU.out)
            have HAU2 := Lib.hid (hl.aut HAU2.out)
            have HAU3 := Lib.hid (hl.aut HAU3.out)
            have HKr := Lib.hid (hl.ints HKr.out)
            clear hl
            have p0_0 := HL21.out.bx.at 0 rfl 0 rfl
            have p0_1 := HL21.out.bx.at 0 rfl 1 rfl
            have p0_2 := HL21.out.bx.at 0 rfl 2 rfl
            have p0_3 := HL21.out.bx.at 0 rfl 3 rfl
            have p1_0 := HL21.out.bx.at 1 rfl 0 rfl
            have p1_1 := HL21.out.bx.at 1 rfl 1 rfl
            have p1_2 := HL21.out.bx.at 1 rfl 2 rfl
            have p1_3 := HL21.out.bx.at 1 rfl 3 rfl
            have p2_0 := HL21.out.bx.at 2 rfl 0 rfl
            have p2_1 := HL21.out.bx.at 2 rfl 1 rfl
            have p2_2 := HL21.out.bx.at 2 rfl 2 rfl
            have p2_3 := HL21.out.bx.at 2 rfl 3 rfl
            go_wp2_with fail
            refine (k_acc HC2.out HG2.out HAU2.out HKr.out HKL.out hkb HL21.out).mono ?_
            rintro e w22 ⟨rfl, hl⟩
            clear p0_0 p0_1 p0_2 p0_3 p1_0 p1_1 p1_2 p1_3 p2_0 p2_1 p2_2 p2_3
            have HL22 := Lib.hid hl.lw
            have HAU := Lib.hid (hl.aut HAU.out)
            have HAU2 := Lib.hid (hl.aut HAU2.out)
            have HAU3 := Lib.hid (hl.aut HAU3.out)
            have HKr := Lib.hid (hl.ints HKr.out)
            clear hl
            have p0_0 := HL22.out.bx.at 0 rfl 0 rfl
            have p0_1 := HL22.out.bx.at 0 rfl 1 rfl
            have p0_2 := HL22.out.bx.at 0 rfl 2 rfl
            have p0_3 := HL22.out.bx.at 0 rfl 3 rfl
            have p1_0 := HL22.out.bx.at 1 rfl 0 rfl
            have p1_1 := HL22.out.bx.at 1 rfl 1 rfl
            have p1_2 := HL22.out.bx.at 1 rfl 2 rfl
            have p1_3 := HL22.out.bx.at 1 rfl 3 rfl
            have p2_0 := HL22.out.bx.at 2 rfl 0 rfl
            have p2_1 := HL22.out.bx.at 2 rfl 1 rfl
            have p2_2 := HL22.out.bx.at 2 rfl 2 rfl
            have p2_3 := HL22.out.bx.at 2 rfl 3 rfl
            go_wp2_with fail
            refine (k_acc HC3.out HG3.out HAU3.out HKr.out HKL.out hkb HL22.out).mono ?_
            rintro e w23 ⟨rfl, hl⟩
            clear p0_0 p0_1 p0_2 p0_3 p1_0 p1_1 p1_2 p1_3 p2_0 p2_1 p2_2 p2_3
            have HL23 := Lib.hid hl.lw
            have HAU := Lib.hid (hl.aut HAU.out)
            have HAU2 := Lib.hid (hl.aut HAU2.out)
            have HAU3 := Lib.hid (hl.aut HAU3.out)
            have HKr := Lib.hid (hl.ints HKr.out)
            clear hl
            have p0_0 := HL23.out.bx.at 0 rfl 0 rfl
            have p0_1 := HL23.out.bx.at 0 rfl 1 rfl
            have p0_2 := HL23.out.bx.at 0 rfl 2 rfl
            have p0_3 := HL23.out.bx.at 0 rfl 3 rfl
            have p1_0 := HL23.out.bx.at 1 rfl 0 rfl
            have p1_1 := HL23.out.bx.at 1 rfl 1 rfl
            have p1_2 := HL23.out.bx.at 1 rfl 2 rfl
            have p1_3 := HL23.out.bx.at 1 rfl 3 rfl
            have p2_0 := HL23.out.bx.at 2 rfl 0 rfl
            have p2_1 := HL23.out.bx.at 2 rfl 1 rfl
            have p2_2 := HL23.out.bx.at 2 rfl 2 rfl
            have p2_3 := HL23.out.bx.at 2 rfl 3 rfl
            go_wp2_with fail
            refine (k_acc HC.out HPV.out HAU.out HKr.out HKL.out hkb HL23.out).mono ?_
            rintro e w24 ⟨rfl, hl⟩
            clear p0_0 p0_1 p0_2 p0_3 p1_0 p1_1 p1_2 p1_3 p2_0 p2_1 p2_2 p2_3
            have HL24 := Lib.hid hl.lw
            have HAU := Lib.hid (hl.aut HAU.out)
            have HAU2 := Lib.hid (hl.aut HAU2.out)
            have HAU3 := Lib.hid (hl.aut HAU3.out)
            have HKr := Lib.hid (hl.ints HKr.out)
            clear hl
            have p0_0 := HL24.out.bx.at 0 rfl 0 rfl
            have p0_1 := HL24.out.bx.at 0 rfl 1 rfl
            have p0_2 := HL24.out.bx.at 0 rfl 2 rfl
            have p0_3 := HL24.out.bx.at 0 rfl 3 rfl
            have p1_0 := HL24.out.bx.at 1 rfl 0 rfl
            have p1_1 := HL24.out.bx.at 1 rfl 1 rfl
            have p1_2 := HL24.out.bx.at 1 rfl 2 rfl
            have p1_3 := HL24.out.bx.at 1 rfl 3 rfl
            have p2_0 := HL24.out.bx.at 2 rfl 0 rfl
            have p2_1 := HL24.out.bx.at 2 rfl 1 rfl
            have p2_2 := HL24.out.bx.at 2 rfl 2 rfl
            have p2_3 := HL24.out.bx.at 2 rfl 3 rfl
            go_wp2_with fail
            refine (k_gen HC.out HQV.out HAU.out HKr.out HKL.out hkb HL24.out).mono ?_
            rintro e w25 ⟨rfl, hl⟩
            clear p0_0 p0_1 p0_2 p0_3 p1_0 p1_1 p1_2 p1_3 p2_0 p2_1 p2_2 p2_3
            have HL25 := Lib.hid hl.lw
            have HAU := Lib.hid (hl.aut HAU.out)
            have HAU2 := Lib.hid (hl.aut HAU2.out)
            have HAU3 := Lib.hid (hl.aut HAU3.out)
            have HKr := Lib.hid (hl.ints HKr.out)
            clear hl
            have p0_0 := HL25.out.bx.at 0 rfl 0 rfl
            have p0_1 := HL25.out.bx.at 0 rfl 1 rfl
            have p0_2 := HL25.out.bx.at 0 rfl 2 rfl
            have p0_3 := HL25.out.bx.at 0 rfl 3 rfl
            have p1_0 := HL25.out.bx.at 1 rfl 0 rfl
            have p1_1 := HL25.out.bx.at 1 rfl 1 rfl
            have p1_2 := HL25.out.bx.at 1 rfl 2 rfl
            have p1_3 := HL25.out.bx.at 1 rfl 3 rfl
            have p2_0 := HL25.out.bx.at 2 rfl 0 rfl
            have p2_1 := HL25.out.bx.at 2 rfl 1 rfl
            have p2_2 := HL25.out.bx.at 2 rfl 2 rfl
            have p2_3 := HL25.out.bx.at 2 rfl 3 rfl
            go_wp2_with fail
            go_ret
            exact ⟨rfl, HB0.out.trans (HL25.out.bel.mono HB0.out.size)⟩
        · have z1 : (l : Int) ≤ (t : Int) := by omega
          clear p2_0
          obtain ⟨A9, c9, rfl, hk9, _, _⟩ := own_rdc hown.out
          obtain ⟨kl, hkl⟩ : ∃ kl, kl = K.length := ⟨_, rfl⟩
          rw [← hkl]
          have HKL := Lib.hid hkl.symm
          have HKr := Lib.hid hk9
          have hkb : kl ≤ 100000 := by rw [hkl]; omega
          have HL20 := Lib.hid (HL11.out.call hbel.out)
          have HAU := Lib.hid ((HAU.out.below hbel.out (Nat.le_refl _)).more hbel.out.size)
          have HAU2 := Lib.hid ((HAU2.out.below hbel.out (Nat.le_refl _)).more hbel.out.size)
          have HAU3 := Lib.hid ((HAU3.out.below hbel.out (Nat.le_refl _)).more hbel.out.size)
          obtain ⟨pv, hpv⟩ : ∃ b, accB a K = b := ⟨_, rfl⟩
          obtain ⟨qv, hqv⟩ : ∃ b, genB a K = b := ⟨_, rfl⟩
          have HPV := Lib.hid hpv
          have HQV := Lib.hid hqv
          have HG1 := Lib.hid (show genB (canA (compA a)) K = true by rw [gen_can (comp_right HRW.out), comp_gen HRW.out hin.out])
          have HG2 := Lib.hid (show accB (canA (compA a)) K = pv by rw [acc_can (comp_right HRW.out), comp_acc HRW.out hin.out, hpv])
          have HG3 := Lib.hid (show accB (clsA a) K = qv by rw [cls_acc HRW.out, hqv])
          have HC2 := Lib.hid (comp_chk HRW.out HS5.out)
          have HC3 := Lib.hid (cls_chk HRW.out HS5.out)
          have e5 : (pv == pv) = true := by simp
          have e6 : (qv == qv) = true := by simp
          clear hk9 hkl hpv hqv hbel hown hin
          have p0_0 := HL20.out.bx.at 0 rfl 0 rfl
          have p0_1 := HL20.out.bx.at 0 rfl 1 rfl
          have p0_2 := HL20.out.bx.at 0 rfl 2 rfl
          have p0_3 := HL20.out.bx.at 0 rfl 3 rfl
          have p1_0 := HL20.out.bx.at 1 rfl 0 rfl
          have p1_1 := HL20.out.bx.at 1 rfl 1 rfl
          have p1_2 := HL20.out.bx.at 1 rfl 2 rfl
          have p1_3 := HL20.out.bx.at 1 rfl 3 rfl
          have p2_0 := HL20.out.bx.at 2 rfl 0 rfl
          have p2_1 := HL20.out.bx.at 2 rfl 1 rfl
          have p2_2 := HL20.out.bx.at 2 rfl 2 rfl
          have p2_3 := HL20.out.bx.at 2 rfl 3 rfl
          go_wp2_with fail
          refine (k_gen HC2.out HG1.out HAU2.out HKr.out HKL.out hkb HL20.out).mono ?_
          rintro e w21 ⟨rfl, hl⟩
          clear p0_0 p0_1 p0_2 p0_3 p1_0 p1_1 p1_2 p1_3 p2_0 p2_1 p2_2 p2_3
          have HL21 := Lib.hid hl.lw
          have HAU := Lib.hid (hl.aut HAU.out)
          have HAU2 := Lib.hid (hl.aut HAU2.out)
          have HAU3 := Lib.hid (hl.aut HAU3.out)
          have HKr := Lib.hid (hl.ints HKr.out)
          clear hl
          have p0_0 := HL21.out.bx.at 0 rfl 0 rfl
          have p0_1 := HL21.out.bx.at 0 rfl 1 rfl
          have p0_2 := HL21.out.bx.at 0 rfl 2 rfl
          have p0_3 := HL21.out.bx.at 0 rfl 3 rfl
          have p1_0 := HL21.out.bx.at 1 rfl 0 rfl
          have p1_1 := HL21.out.bx.at 1 rfl 1 rfl
          have p1_2 := HL21.out.bx.at 1 rfl 2 rfl
          have p1_3 := HL21.out.bx.at 1 rfl 3 rfl
          have p2_0 := HL21.out.bx.at 2 rfl 0 rfl
          have p2_1 := HL21.out.bx.at 2 rfl 1 rfl
          have p2_2 := HL21.out.bx.at 2 rfl 2 rfl
          have p2_3 := HL21.out.bx.at 2 rfl 3 rfl
          go_wp2_with fail
          refine (k_acc HC2.out HG2.out HAU2.out HKr.out HKL.out hkb HL21.out).mono ?_
          rintro e w22 ⟨rfl, hl⟩
          clear p0_0 p0_1 p0_2 p0_3 p1_0 p1_1 p1_2 p1_3 p2_0 p2_1 p2_2 p2_3
          have HL22 := Lib.hid hl.lw
          have HAU := Lib.hid (hl.aut HAU.out)
          have HAU2 := Lib.hid (hl.aut HAU2.out)
          have HAU3 := Lib.hid (hl.aut HAU3.out)
          have HKr := Lib.hid (hl.ints HKr.out)
          clear hl
          have p0_0 := HL22.out.bx.at 0 rfl 0 rfl
          have p0_1 := HL22.out.bx.at 0 rfl 1 rfl
          have p0_2 := HL22.out.bx.at 0 rfl 2 rfl
          have p0_3 := HL22.out.bx.at 0 rfl 3 rfl
          have p1_0 := HL22.out.bx.at 1 rfl 0 rfl
          have p1_1 := HL22.out.bx.at 1 rfl 1 rfl
          have p1_2 := HL22.out.bx.at 1 rfl 2 rfl
          have p1_3 := HL22.out.bx.at 1 rfl 3 rfl
          have p2_0 := HL22.out.bx.at 2 rfl 0 rfl
          have p2_1 := HL22.out.bx.at 2 rfl 1 rfl
          have p2_2 := HL22.out.bx.at 2 rfl 2 rfl
          have p2_3 := HL22.out.bx.at 2 rfl 3 rfl
          go_wp2_with fail
          refine (k_acc HC3.out HG3.out HAU3.out HKr.out HKL.out hkb HL22.out).mono ?_
          rintro e w23 ⟨rfl, hl⟩
          clear p0_0 p0_1 p0_2 p0_3 p1_0 p1_1 p1_2 p1_3 p2_0 p2_1 p2_2 p2_3
          have HL23 := Lib.hid hl.lw
          have HAU := Lib.hid (hl.aut HAU.out)
          have HAU2 := Lib.hid (hl.aut HAU2.out)
          have HAU3 := Lib.hid (hl.aut HAU3.out)
          have HKr := Lib.hid (hl.ints HKr.out)
          clear hl
          have p0_0 := HL23.out.bx.at 0 rfl 0 rfl
          have p0_1 := HL23.out.bx.at 0 rfl 1 rfl
          have p0_2 := HL23.out.bx.at 0 rfl 2 rfl
          have p0_3 := HL23.out.bx.at 0 rfl 3 rfl
          have p1_0 := HL23.out.bx.at 1 rfl 0 rfl
          have p1_1 := HL23.out.bx.at 1 rfl 1 rfl
          have p1_2 := HL23.out.bx.at 1 rfl 2 rfl
          have p1_3 := HL23.out.bx.at 1 rfl 3 rfl
          have p2_0 := HL23.out.bx.at 2 rfl 0 rfl
          have p2_1 := HL23.out.bx.at 2 rfl 1 rfl
          have p2_2 := HL23.out.bx.at 2 rfl 2 rfl
          have p2_3 := HL23.out.bx.at 2 rfl 3 rfl
          go_wp2_with fail
          refine (k_acc HC.out HPV.out HAU.out HKr.out HKL.out hkb HL23.out).mono ?_
          rintro e w24 ⟨rfl, hl⟩
          clear p0_0 p0_1 p0_2 p0_3 p1_0 p1_1 p1_2 p1_3 p2_0 p2_1 p2_2 p2_3
          have HL24 := Lib.hid hl.lw
          have HAU := Lib.hid (hl.aut HAU.out)
          have HAU2 := Lib.hid (hl.aut HAU2.out)
          have HAU3 := Lib.hid (hl.aut HAU3.out)
          have HKr := Lib.hid (hl.ints HKr.out)
          clear hl
          have p0_0 := HL24.out.bx.at 0 rfl 0 rfl
          have p0_1 := HL24.out.bx.at 0 rfl 1 rfl
          have p0_2 := HL24.out.bx.at 0 rfl 2 rfl
          have p0_3 := HL24.out.bx.at 0 rfl 3 rfl
          have p1_0 := HL24.out.bx.at 1 rfl 0 rfl
          have p1_1 := HL24.out.bx.at 1 rfl 1 rfl
          have p1_2 := HL24.out.bx.at 1 rfl 2 rfl
          have p1_3 := HL24.out.bx.at 1 rfl 3 rfl
          have p2_0 := HL24.out.bx.at 2 rfl 0 rfl
          have p2_1 := HL24.out.bx.at 2 rfl 1 rfl
          have p2_2 := HL24.out.bx.at 2 rfl 2 rfl
          have p2_3 := HL24.out.bx.at 2 rfl 3 rfl
          go_wp2_with fail
          refine (k_gen HC.out HQV.out HAU.out HKr.out HKL.out hkb HL24.out).mono ?_
          rintro e w25 ⟨rfl, hl⟩
          clear p0_0 p0_1 p0_2 p0_3 p1_0 p1_1 p1_2 p1_3 p2_0 p2_1 p2_2 p2_3
          have HL25 := Lib.hid hl.lw
          have HAU := Lib.hid (hl.aut HAU.out)
          have HAU2 := Lib.hid (hl.aut HAU2.out)
          have HAU3 := Lib.hid (hl.aut HAU3.out)
          have HKr := Lib.hid (hl.ints HKr.out)
          clear hl
          have p0_0 := HL25.out.bx.at 0 rfl 0 rfl
          have p0_1 := HL25.out.bx.at 0 rfl 1 rfl
          have p0_2 := HL25.out.bx.at 0 rfl 2 rfl
          have p0_3 := HL25.out.bx.at 0 rfl 3 rfl
          have p1_0 := HL25.out.bx.at 1 rfl 0 rfl
          have p1_1 := HL25.out.bx.at 1 rfl 1 rfl
          have p1_2 := HL25.out.bx.at 1 rfl 2 rfl
          have p1_3 := HL25.out.bx.at 1 rfl 3 rfl
          have p2_0 := HL25.out.bx.at 2 rfl 0 rfl
          have p2_1 := HL25.out.bx.at 2 rfl 1 rfl
          have p2_2 := HL25.out.bx.at 2 rfl 2 rfl
          have p2_3 := HL25.out.bx.at 2 rfl 3 rfl
          go_wp2_with fail
          go_ret
          exact ⟨rfl, HB0.out.trans (HL25.out.bel.mono HB0.out.size)⟩
end Go.Proofs.Ytcciiikaejjooaa
