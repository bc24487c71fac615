/- The law ProjectionReaches, walked. -/
import Derived.Test.YtmghngehpgolgaaGreatZa16
import Derived.Test.YtmghngehpgolgaaGreatZa17
set_option linter.unusedVariables false
set_option linter.unusedSimpArgs false
set_option linter.unusedSectionVars false
namespace Go.Proofs.YtmghngehpgolgaaGreat
open Go.RowKit Go.Sort
attribute [local go_sem ↓] exec_load_graph'
attribute [local go_sem] blkOf_ptr

set_option maxHeartbeats 8000000 in
set_option maxRecDepth 100000 in
theorem lawPjReaches (x0 x1 : Int) (gv : Nat → Value) (xp : Int) (Ar : Option Addr) (nr cr : Nat) (raw : List Int) (ev : Int) (W : World) (S0 : (Lit.int .u8 x0).wf = true) (S1 : (Lit.int .u8 x1).wf = true) (SG : GrC #[gv 0, gv 1, gv 2, gv 3, gv 4, gv 5, gv 6, gv 7, gv 8, gv 9, gv 10, gv 11, gv 12, gv 13, gv 14, gv 15, gv 16, gv 17, gv 18, gv 19, gv 20, gv 21, gv 22, gv 23, gv 24, gv 25, gv 26]) (SX : (Lit.int .u8 xp).wf = true) (SR : RdI W W.heap.size Ar raw) (SL : raw.length = nr) (SC : nr ≤ cr ∧ cr ≤ 9223372036854775807) :
    Calls Tryz.prog 4 #[.agg #[.int .u8 x0, .int .u8 x1], .agg #[gv 0, gv 1, gv 2, gv 3, gv 4, gv 5, gv 6, gv 7, gv 8, gv 9, gv 10, gv 11, gv 12, gv 13, gv 14, gv 15, gv 16, gv 17, gv 18, gv 19, gv 20, gv 21, gv 22, gv 23, gv 24, gv 25, gv 26], .agg #[.int .u8 xp, .slice Ar nr cr, .int .i64 ev]] W fun e W' => e = .returned (.bool true) ∧ Below W.heap.size W W' := by
  have HL0 := Lib.hid (by
    have h := ((LW.first W [.int .u8 x0, .int .u8 x1] 45).new [gv 0, gv 1, gv 2, gv 3, gv 4, gv 5, gv 6, gv 7, gv 8, gv 9, gv 10, gv 11, gv 12, gv 13, gv 14, gv 15, gv 16, gv 17, gv 18, gv 19, gv 20, gv 21, gv 22, gv 23, gv 24, gv 25, gv 26] 26).new [.int .u8 xp, .slice Ar nr cr, .int .i64 ev] 47
    rw [World.size_alloc, World.size_alloc] at h; exact h)
  have HK := Lib.hid known7_any
  have HS0 := Lib.hid S0
  have HS1 := Lib.hid S1
  have HSG := Lib.hid SG
  have HSX := Lib.hid SX
  have HSR := Lib.hid SR
  have HSL := Lib.hid SL
  have HSC := Lib.hid SC
  clear S0 S1 SG SX SR SL SC
  by_cases h6 : 6 < nr
  · go_enter Tryz.func4, Tryz.ntmps4
    go_wp2_with fail
    refine (lw_call (HK.out _) HL0.out).mono ?_
    rintro e w1 ⟨rfl, hl⟩
    have HL1 := Lib.hid hl
    clear hl
    have q0 := HL1.out.bx.at 0 rfl 1 rfl
    go_wp2_with fail
    refine (lw_call (HK.out _) HL1.out).mono ?_
    rintro e w2 ⟨rfl, hl⟩
    have HL2 := Lib.hid hl
    clear hl
    go_wp2_with fail
    go_ret
    exact ⟨rfl, HL2.out.bel⟩
  have hn6 : nr ≤ 6 := by omega
  go_enter Tryz.func4, Tryz.ntmps4
  go_wp2_with fail
  refine (lw_call (HK.out _) HL0.out).mono ?_
  rintro e w1 ⟨rfl, hl⟩
  have HL1 := Lib.hid hl
  have HBO := Lib.hid hl.bel.size
  have q0 := hl.bx.at 0 rfl 1 rfl
  clear hl
  have hgs := gs2_of HL1.out 1 2 (gv := gv) (x0 := x0) (x1 := x1) rfl rfl
  go_wp2_with fail
  go_cut [7, 8] from 24 to 31 (fun v7 v8 wx => PreR2 W [(W.heap.size + 1 + 1, [.int .u8 xp, .slice Ar nr cr, .int .i64 ev]), (W.heap.size + 1, [gv 0, gv 1, gv 2, gv 3, gv 4, gv 5, gv 6, gv 7, gv 8, gv 9, gv 10, gv 11, gv 12, gv 13, gv 14, gv 15, gv 16, gv 17, gv 18, gv 19, gv 20, gv 21, gv 22, gv 23, gv 24, gv 25, gv 26]), (W.heap.size, [.int .u8 x0, .int .u8 x1])] v7 v8 wx)
  case first =>
    have HL9 := Lib.hid HL1.out
    go_region_held3 (fun w' => GridOk w' (W.heap.size + 1) ∧ (∀ i : Nat, i < 27 → w'.cell? ⟨W.heap.size + 1, i, none⟩ = some (gv i)) ∧ w'.cell? ⟨W.heap.size, 0, none⟩ = some (.int .u8 x0) ∧ w'.cell? ⟨W.heap.size, 1, none⟩ = some (.int .u8 x1)) (exact gs2_of (W := W) (l := [(W.heap.size + 1 + 1, [.int .u8 xp, .slice Ar nr cr, .int .i64 ev]), (W.heap.size + 1, [gv 0, gv 1, gv 2, gv 3, gv 4, gv 5, gv 6, gv 7, gv 8, gv 9, gv 10, gv 11, gv 12, gv 13, gv 14, gv 15, gv 16, gv 17, gv 18, gv 19, gv 20, gv 21, gv 22, gv 23, gv 24, gv 25, gv 26]), (W.heap.size, [.int .u8 x0, .int .u8 x1])]) (by repeat (first | with_reducible exact HL9.out | refine LW.drew ?_ | refine LW.alloc ?_ _ | with_reducible exact (LW.put' HL1.out HL9.out HQ3.out (Nat.le_refl _) _ _ _ _).tail | with_reducible exact (LW.put' HL8.out HL9.out HQ4.out (Nat.le_refl _) _ _ _ _).tail | with_reducible exact (LW.put' HL1.out HL9.out HQ5.out (Nat.le_refl _) _ _ _ _).tail | with_reducible exact (LW.put' HL8.out HL9.out HQ5.out (Nat.le_refl _) _ _ _ _).tail | with_reducible exact (LW.put' HL7.out HL9.out HQ6.out (Nat.le_refl _) _ _ _ _).tail)) 1 2 rfl rfl)
      (first
      | (go_simp; go_at_call 13; (with_reducible refine (events_any x0 _ HS0.out).mono ?_); rintro e w2 ⟨al, hev, A0, c0, rfl, hrd, hb2, hc0, hc02⟩
         have HL8 := Lib.hid (show LW W [(W.heap.size + 1 + 1, [.int .u8 xp, .slice Ar nr cr, .int .i64 ev]), (W.heap.size + 1, [gv 0, gv 1, gv 2, gv 3, gv 4, gv 5, gv 6, gv 7, gv 8, gv 9, gv 10, gv 11, gv 12, gv 13, gv 14, gv 15, gv 16, gv 17, gv 18, gv 19, gv 20, gv 21, gv 22, gv 23, gv 24, gv 25, gv 26]), (W.heap.size, [.int .u8 x0, .int .u8 x1])] w2 from LW.call (by repeat (first | with_reducible exact HL9.out | refine LW.drew ?_ | refine LW.alloc ?_ _)) hb2)
         have HL9 := HL8
         have HEV := Lib.hid hev
         have HRD := Lib.hid hrd
         try (have hq : Row w2 w1.heap.size 33 [.slice none 0 0, .int .i64 0, .slice none 0 0, .slice none 0 0] := Row.below (by first | with_reducible exact Row.new w1 [.slice none 0 0, .int .i64 0, .slice none 0 0, .slice none 0 0] 33 | with_reducible exact row_drew (Row.new w1 [.slice none 0 0, .int .i64 0, .slice none 0 0, .slice none 0 0] 33) | with_reducible exact Row.new w1.drew [.slice none 0 0, .int .i64 0, .slice none 0 0, .slice none 0 0] 33) hb2 (by simp); have HQ2 := Lib.hid hq; have y0 := hq.cell 0 rfl; have y1 := hq.cell 1 rfl; have y2 := hq.cell 2 rfl; have y3 := hq.cell 3 rfl; have g0 := hq.frozen 0; have g1 := hq.frozen 1; have g2 := hq.frozen 2; have g3 := hq.frozen 3; clear hq)
         clear hb2 hev hrd hc02)
      | (go_simp; go_at_call 12; refine (make_any A0 al.length c0 w2.heap.size al #[gv 0, gv 1, gv 2, gv 3, gv 4, gv 5, gv 6, gv 7, gv 8, gv 9, gv 10, gv 11, gv 12, gv 13, gv 14, gv 15, gv 16, gv 17, gv 18, gv 19, gv 20, gv 21, gv 22, gv 23, gv 24, gv 25, gv 26] _ (by first | with_reducible exact HRD.out | exact HRD.out.below ((Below.refl _ w2).alloc (Nat.le_refl _) _) (Nat.le_refl _)) (by simp) rfl hc0 HEV.out HSG.out).mono ?_; rintro e w3 ⟨a, v3, hok, rfl, ⟨A, n, c, s, M, m, d, E, k, g, rfl, hau, hfr⟩, hb3⟩
         have HL7 := Lib.hid (show LW W [(W.heap.size + 1 + 1, [.int .u8 xp, .slice Ar nr cr, .int .i64 ev]), (W.heap.size + 1, [gv 0, gv 1, gv 2, gv 3, gv 4, gv 5, gv 6, gv 7, gv 8, gv 9, gv 10, gv 11, gv 12, gv 13, gv 14, gv 15, gv 16, gv 17, gv 18, gv 19, gv 20, gv 21, gv 22, gv 23, gv 24, gv 25, gv 26]), (W.heap.size, [.int .u8 x0, .int .u8 x1])] w3 from LW.call (by repeat (first | with_reducible exact HL9.out | refine LW.drew ?_ | refine LW.alloc ?_ _)) hb3)
         have HL9 := HL7
         have HOK := Lib.hid hok
         have HAF := Lib.hid (show AuF a (.agg #[.slice A n c, .int .i64 s, .slice M m d, .slice E k g]) w3 _ from ⟨A, n, c, s, M, m, d, E, k, g, rfl, hau, hfr⟩)
         have HA3 := Lib.hid hau
         try (have hq := Row.below (show Row _ w1.heap.size 33 [.slice none 0 0, .int .i64 0, .slice none 0 0, .slice none 0 0] from by first | with_reducible exact HQ2.out | with_reducible exact row_drew HQ2.out) hb3 (by have := HQ2.out.lt; simpa using this); have HQ3 := Lib.hid hq; have HQL := Lib.hid (Nat.lt_of_lt_of_le HQ2.out.lt (Nat.le_refl _)); have HAS3 := Lib.hid (show AuS w3 w1.heap.size a A n c s M m d E k g from aus_f HAF.out (by have := HQL.out; simpa using this)); have y0 := hq.cell 0 rfl; have y1 := hq.cell 1 rfl; have y2 := hq.cell 2 rfl; have y3 := hq.cell 3 rfl; have g0 := hq.frozen 0; have g1 := hq.frozen 1; have g2 := hq.frozen 2; have g3 := hq.frozen 3; clear hq)
         try (have hq : Row w3 w2.heap.size 33 [.slice none 0 0, .int .i64 0, .slice none 0 0, .slice none 0 0] := Row.below (by first | with_reducible exact Row.new w2 [.slice none 0 0, .int .i64 0, .slice none 0 0, .slice none 0 0] 33 | with_reducible exact row_drew (Row.new w2 [.slice none 0 0, .int .i64 0, .slice none 0 0, .slice none 0 0] 33) | with_reducible exact Row.new w2.drew [.slice none 0 0, .int .i64 0, .slice none 0 0, .slice none 0 0] 33) hb3 (by simp); have HQ4 := Lib.hid hq; have HAS3 := Lib.hid (show AuS w3 w2.heap.size a A n c s M m d E k g from aus_f HAF.out (by simp)); have y0 := hq.cell 0 rfl; have y1 := hq.cell 1 rfl; have y2 := hq.cell 2 rfl; have y3 := hq.cell 3 rfl; have g0 := hq.frozen 0; have g1 := hq.frozen 1; have g2 := hq.frozen 2; have g3 := hq.frozen 3; clear hq)
         clear hb3 hok hau hfr)
      | (go_simp; go_at_call 13; (with_reducible refine (events_own x1 _ HS1.out).mono ?_); rintro e w4 ⟨on, A8, c8, hev8, rfl, ho8, hb4⟩
         have HL6 := Lib.hid (show LW W [(W.heap.size + 1 + 1, [.int .u8 xp, .slice Ar nr cr, .int .i64 ev]), (W.heap.size + 1, [gv 0, gv 1, gv 2, gv 3, gv 4, gv 5, gv 6, gv 7, gv 8, gv 9, gv 10, gv 11, gv 12, gv 13, gv 14, gv 15, gv 16, gv 17, gv 18, gv 19, gv 20, gv 21, gv 22, gv 23, gv 24, gv 25, gv 26]), (W.heap.size, [.int .u8 x0, .int .u8 x1])] w4 from LW.call (by repeat (first | with_reducible exact HL9.out | refine LW.drew ?_ | refine LW.alloc ?_ _ | with_reducible exact (LW.put' HL1.out HL9.out HQ3.out (Nat.le_refl _) _ _ _ _).tail | with_reducible exact (LW.put' HL8.out HL9.out HQ4.out (Nat.le_refl _) _ _ _ _).tail)) hb4)
         have HL9 := HL6
         have HE8 := Lib.hid hev8
         have HO8 := Lib.hid ho8
         have HA4 := Lib.hid (show AuR w4 w4.heap.size A n c s M m d E k g a from ((show AuR _ _ A n c s M m d E k g a from by first | with_reducible exact HA3.out | exact (by have := HAS3.out (.slice A n c) (.int .i64 s) (.slice M m d) (.slice E k g); simpa using this) | exact (HA3.out.below ((Below.refl _ w3).alloc (Nat.le_refl _) _) (Nat.le_refl _)).more (by simp)).below hb4 (Nat.le_refl _)).more hb4.size)
         try (have hq := Row.below (show Row _ w1.heap.size 33 [.slice none 0 0, .int .i64 0, .slice none 0 0, .slice none 0 0] from by first | with_reducible exact HQ3.out | with_reducible exact row_drew HQ3.out) hb4 (by have := HQ3.out.lt; simpa using this); have HQ5 := Lib.hid hq; have y0 := hq.cell 0 rfl; have y1 := hq.cell 1 rfl; have y2 := hq.cell 2 rfl; have y3 := hq.cell 3 rfl; have g0 := hq.frozen 0; have g1 := hq.frozen 1; have g2 := hq.frozen 2; have g3 := hq.frozen 3; clear hq; have HS5 := Lib.hid (show AuS w4 w1.heap.size a A n c s M m d E k g from aus_f (HAF.out.below (show Below w3.heap.size w3 w4 from by first | with_reducible exact hb4 | exact (Below.refl _ w3).drew.trans hb4)) (by have := HQL.out; simpa using this)))
         try (have hq := Row.below (show Row _ w2.heap.size 33 [.slice none 0 0, .int .i64 0, .slice none 0 0, .slice none 0 0] from by first | with_reducible exact HQ4.out | with_reducible exact row_drew HQ4.out) hb4 (by have := HQ4.out.lt; simpa using this); have HQ5 := Lib.hid hq; have y0 := hq.cell 0 rfl; have y1 := hq.cell 1 rfl; have y2 := hq.cell 2 rfl; have y3 := hq.cell 3 rfl; have g0 := hq.frozen 0; have g1 := hq.frozen 1; have g2 := hq.frozen 2; have g3 := hq.frozen 3; clear hq; have HS5 := Lib.hid (show AuS w4 w2.heap.size a A n c s M m d E k g from aus_f (HAF.out.below (show Below w3.heap.size w3 w4 from by first | with_reducible exact hb4 | exact (Below.refl _ w3).drew.trans hb4)) (by simp)))
         try (have hq : Row w4 w3.heap.size 33 [.slice none 0 0, .int .i64 0, .slice none 0 0, .slice none 0 0] := Row.below (by first | with_reducible exact Row.new w3 [.slice none 0 0, .int .i64 0, .slice none 0 0, .slice none 0 0] 33 | with_reducible exact row_drew (Row.new w3 [.slice none 0 0, .int .i64 0, .slice none 0 0, .slice none 0 0] 33) | with_reducible exact Row.new w3.drew [.slice none 0 0, .int .i64 0, .slice none 0 0, .slice none 0 0] 33) hb4 (by simp); have HQ6 := Lib.hid hq; have y0 := hq.cell 0 rfl; have y1 := hq.cell 1 rfl; have y2 := hq.cell 2 rfl; have y3 := hq.cell 3 rfl; have g0 := hq.frozen 0; have g1 := hq.frozen 1; have g2 := hq.frozen 2; have g3 := hq.frozen 3; clear hq; have hle6 : w3.heap.size ≤ w4.heap.size := Nat.le_trans (by simp) hb4.size; have HS6 := Lib.hid (aus_r (B := w3.heap.size) (b := w3.heap.size) (HA3.out.below (show Below w3.heap.size w3 w4 from Below.trans (by repeat (first | exact Below.refl _ w3 | refine Below.drew ?_ | refine Below.alloc ?_ (Nat.le_refl _) _)) (hb4.mono (by simp))) (Nat.le_refl _)) (Nat.le_refl _) hle6))
         try (have hq : Row w4 w3.heap.size 33 [.slice A n c, .int .i64 s, .slice M m d, .slice E k g] := Row.below (by first | with_reducible exact Row.new w3 [.slice A n c, .int .i64 s, .slice M m d, .slice E k g] 33 | with_reducible exact row_drew (Row.new w3 [.slice A n c, .int .i64 s, .slice M m d, .slice E k g] 33) | with_reducible exact Row.new w3.drew [.slice A n c, .int .i64 s, .slice M m d, .slice E k g] 33) hb4 (by simp); have HQ7 := Lib.hid hq; clear hq)
         try (have hq : Row w4 w1.heap.size 33 [.slice A n c, .int .i64 s, .slice M m d, .slice E k g] := Row.below (by first | with_reducible exact row_set4 HQ3.out _ _ _ _ | with_reducible exact row_drew (row_set4 HQ3.out _ _ _ _)) hb4 (by have := HQ3.out.lt; simpa using this); have HQ7 := Lib.hid hq; clear hq)
         try (have hq : Row w4 w2.heap.size 33 [.slice A n c, .int .i64 s, .slice M m d, .slice E k g] := Row.below (by first | with_reducible exact row_set4 HQ4.out _ _ _ _ | with_reducible exact row_drew (row_set4 HQ4.out _ _ _ _)) hb4 (by have := HQ4.out.lt; simpa using this); have HQ7 := Lib.hid hq; clear hq)
         clear hb4 hev8 ho8)
      )
    all_goals
      go_wp2_with fail
      go_meet
      case rel => first | exact fin_row HL9.out HQ7.out HEV.out HOK.out HA4.out HE8.out HO8.out | exact fin_new HL9.out HEV.out HOK.out HA4.out HE8.out HO8.out | exact fin_put HL1.out HL9.out HQ5.out (Nat.le_refl _) HEV.out HOK.out HS5.out HE8.out HO8.out | exact fin_put HL8.out HL9.out HQ5.out (Nat.le_refl _) HEV.out HOK.out HS5.out HE8.out HO8.out | exact fin_put HL7.out HL9.out HQ6.out (Nat.le_refl _) HEV.out HOK.out HS6.out HE8.out HO8.out
  case rest =>
    obtain ⟨bc, al, a, A, n, c, s, M, m, d, E, k, g, on, A8, n8, c8, rfl, rfl, HL4, HEV, HOK, HAU, HEV8, HRD8, hn8, hc8⟩ := hcut
    have HB0 := Lib.hid HL4.out.bel
    have HRW0 := Lib.hid (HL4.out.ints HSR.out)
    have HR8 := HRD8
    have HL5 := Lib.hid (show LW wc ((bc, [.slice A n c, .int .i64 s, .slice M m d, .slice E k g]) :: [(W.heap.size + 1 + 1, [.int .u8 xp, .slice Ar nr cr, .int .i64 ev]), (W.heap.size + 1, [gv 0, gv 1, gv 2, gv 3, gv 4, gv 5, gv 6, gv 7, gv 8, gv 9, gv 10, gv 11, gv 12, gv 13, gv 14, gv 15, gv 16, gv 17, gv 18, gv 19, gv 20, gv 21, gv 22, gv 23, gv 24, gv 25, gv 26]), (W.heap.size, [.int .u8 x0, .int .u8 x1])]) wc from ⟨Below.refl _ _, HL4.out.bx⟩)
    have HC := Lib.hid HOK.out.r.chk
    have HRI := Lib.hid HOK.out.r.toRightW
    have HST := Lib.hid HAU.out.st
    have hbn := HAU.out.bn
    have hs0 : 0 ≤ a.st := HRI.out.st0
    have hs5 : a.st ≤ 5 := HOK.out.st
    have h85 := Ev5.len (n := 5) HEV8.out
    have HN8 := Lib.hid hn8
    have HC8 := Lib.hid hc8
    have hn85 : n8 ≤ 5 := by rw [← hn8]; exact h85
    have HCW := Lib.hid (cwe_ok HC.out HEV8.out.cs)
    clear hn8 hc8 h85
    clear hgs q0
    clear HRD8
    have p0_0 := HL5.out.bx.at 0 rfl 0 rfl
    have p0_1 := HL5.out.bx.at 0 rfl 1 rfl
    have p0_2 := HL5.out.bx.at 0 rfl 2 rfl
    have p0_3 := HL5.out.bx.at 0 rfl 3 rfl
    have p1_0 := HL5.out.bx.at 1 rfl 0 rfl
    have p1_1 := HL5.out.bx.at 1 rfl 1 rfl
    have p1_2 := HL5.out.bx.at 1 rfl 2 rfl
    go_wp2_with fail
    refine (k_part hs0 HAU.out HL5.out).mono ?_
    rintro e w6 ⟨fr, A1, n1, c1, rfl, hev1, hg1, hl⟩
    clear p0_0 p0_1 p0_2 p0_3 p1_0 p1_1 p1_2
    have HL6 := Lib.hid hl.lw
    have HAU := Lib.hid (hl.aut HAU.out)
    have HR8 := Lib.hid (hl.ints HR8.out)
    have HRW0 := Lib.hid (hl.ints HRW0.out)
    have HE1 := Lib.hid hev1
    have HN1 := Lib.hid hg1.len
    have HCp1 := Lib.hid hg1.cap
    have HR1 := Lib.hid hg1.rd
    clear hg1
    clear hev1
    have h15 : n1 ≤ 5 := by have h1 := Ev5.len (n := a.st.toNat) (zs := fr) (by have h2 := HE1.out; rwa [show ((a.st.toNat : Nat) : Int) = a.st by omega]); have h2 := HN1.out; omega
    have HRC := Lib.hid (show rchE a fr on = 0 by rw [rch_ok HCW.out, cst_ok hs0 (by omega)]; exact cs_mk HE1.out.r HE1.out.o)
    obtain ⟨re, hre⟩ : ∃ re, reR a on fr = re := ⟨_, rfl⟩
    have HRE := Lib.hid hre
    have hrl : re.length ≤ 5 := by rw [← hre]; have := reR_len a on fr; omega
    clear hre
    clear hl
    have p0_0 := HL6.out.bx.at 0 rfl 0 rfl
    have p0_1 := HL6.out.bx.at 0 rfl 1 rfl
    have p0_2 := HL6.out.bx.at 0 rfl 2 rfl
    have p0_3 := HL6.out.bx.at 0 rfl 3 rfl
    have p1_0 := HL6.out.bx.at 1 rfl 0 rfl
    have p1_1 := HL6.out.bx.at 1 rfl 1 rfl
    have p1_2 := HL6.out.bx.at 1 rfl 2 rfl
    go_wp2_with fail
    refine (k_jreach (L := re) HRC.out (by rw [if_pos rfl]; exact HRE.out) HAU.out HR1.out HN1.out HCp1.out (by omega) HR8.out HN8.out HC8.out (by omega) HL6.out).mono ?_
    rintro e w7 ⟨A2, n2, c2, rfl, hg2, hl⟩
    clear p0_0 p0_1 p0_2 p0_3 p1_0 p1_1 p1_2
    have HL7 := Lib.hid hl.lw
    have HAU := Lib.hid (hl.aut HAU.out)
    have HR8 := Lib.hid (hl.ints HR8.out)
    have HRW0 := Lib.hid (hl.ints HRW0.out)
    have HR1 := Lib.hid (hl.ints HR1.out)
    have HN2 := Lib.hid hg2.len
    have HCp2 := Lib.hid hg2.cap
    have HR2 := Lib.hid hg2.rd
    clear hg2
    have hn25 : n2 ≤ 5 := by rw [← HN2.out]; exact hrl
    clear hl
    have p0_0 := HL7.out.bx.at 0 rfl 0 rfl
    have p0_1 := HL7.out.bx.at 0 rfl 1 rfl
    have p0_2 := HL7.out.bx.at 0 rfl 2 rfl
    have p0_3 := HL7.out.bx.at 0 rfl 3 rfl
    have p1_0 := HL7.out.bx.at 1 rfl 0 rfl
    have p1_1 := HL7.out.bx.at 1 rfl 1 rfl
    have p1_2 := HL7.out.bx.at 1 rfl 2 rfl
    go_wp2_with fail
    refine (k_rreach HRE.out HRI.out (by omega) HAU.out HR1.out HN1.out (by omega) HR8.out HN8.out (by omega) HL7.out).mono ?_
    rintro e w8 ⟨A3, n3, c3, rfl, hg3, hl⟩
    clear p0_0 p0_1 p0_2 p0_3 p1_0 p1_1 p1_2
    have HL8 := Lib.hid hl.lw
    have HAU := Lib.hid (hl.aut HAU.out)
    have HR8 := Lib.hid (hl.ints HR8.out)
    have HRW0 := Lib.hid (hl.ints HRW0.out)
    have HR1 := Lib.hid (hl.ints HR1.out)
    have HR2 := Lib.hid (hl.ints HR2.out)
    have HN3 := Lib.hid hg3.len
    have HCp3 := Lib.hid hg3.cap
    have HR3 := Lib.hid hg3.rd
    clear hg3
    have hn35 : n3 ≤ 5 := by rw [← HN3.out]; exact hrl
    clear hl
    have p0_0 := HL8.out.bx.at 0 rfl 0 rfl
    have p0_1 := HL8.out.bx.at 0 rfl 1 rfl
    have p0_2 := HL8.out.bx.at 0 rfl 2 rfl
    have p0_3 := HL8.out.bx.at 0 rfl 3 rfl
    have p1_0 := HL8.out.bx.at 1 rfl 0 rfl
    have p1_1 := HL8.out.bx.at 1 rfl 1 rfl
    have p1_2 := HL8.out.bx.at 1 rfl 2 rfl
    go_wp2_with fail
    refine (k_same (decide_eq_true rfl) HR2.out HR3.out HN2.out HN3.out (by omega) (by omega) HL8.out).mono ?_
    rintro e w9 ⟨rfl, hl⟩
    clear p0_0 p0_1 p0_2 p0_3 p1_0 p1_1 p1_2
    have HL9 := Lib.hid hl.lw
    have HAU := Lib.hid (hl.aut HAU.out)
    have HR8 := Lib.hid (hl.ints HR8.out)
    have HRW0 := Lib.hid (hl.ints HRW0.out)
    have HR1 := Lib.hid (hl.ints HR1.out)
    have HR2 := Lib.hid (hl.ints HR2.out)
    have HR3 := Lib.hid (hl.ints HR3.out)
    clear hl
    have p0_0 := HL9.out.bx.at 0 rfl 0 rfl
    have p0_1 := HL9.out.bx.at 0 rfl 1 rfl
    have p0_2 := HL9.out.bx.at 0 rfl 2 rfl
    have p0_3 := HL9.out.bx.at 0 rfl 3 rfl
    have p1_0 := HL9.out.bx.at 1 rfl 0 rfl
    have p1_1 := HL9.out.bx.at 1 rfl 1 rfl
    have p1_2 := HL9.out.bx.at 1 rfl 2 rfl
    by_cases hk : ev ∈ kpR a on
    · have HEK := Lib.hid (show decide (ev ∈ kpR a on) = true by simpa using hk)
      have HNE := Lib.hid (show nextE a on fr ev = 0 by unfold nextE; rw [HRC.out, if_pos rfl, if_pos hk])
      obtain ⟨nx, hnx⟩ : ∃ nx, nxR a on fr ev = nx := ⟨_, rfl⟩
      have HNX := Lib.hid hnx
      have hxl : nx.length ≤ 5 := by rw [← hnx]; have := reR_len a (erR a on) (tgR a fr ev); unfold nxR; omega
      clear hnx hk
      go_wp2_with fail
      refine (k_jnext (L := nx) HNE.out (by rw [if_pos rfl]; exact HNX.out) HAU.out HR1.out HN1.out HCp1.out (by omega) HR8.out HN8.out HC8.out (by omega) HL9.out).mono ?_
      rintro e w10 ⟨A5, n5, c5, rfl, hg5, hl⟩
      clear p0_0 p0_1 p0_2 p0_3 p1_0 p1_1 p1_2
      have HL10 := Lib.hid hl.lw
      have HAU := Lib.hid (hl.aut HAU.out)
      have HR8 := Lib.hid (hl.ints HR8.out)
      have HRW0 := Lib.hid (hl.ints HRW0.out)
      have HR1 := Lib.hid (hl.ints HR1.out)
      have HR2 := Lib.hid (hl.ints HR2.out)
      have HR3 := Lib.hid (hl.ints HR3.out)
      have HN5 := Lib.hid hg5.len
      have HCp5 := Lib.hid hg5.cap
      have HR5 := Lib.hid hg5.rd
      clear hg5
      have hn55 : n5 ≤ 5 := by rw [← HN5.out]; exact hxl
      clear hl
      have p0_0 := HL10.out.bx.at 0 rfl 0 rfl
      have p0_1 := HL10.out.bx.at 0 rfl 1 rfl
      have p0_2 := HL10.out.bx.at 0 rfl 2 rfl
      have p0_3 := HL10.out.bx.at 0 rfl 3 rfl
      have p1_0 := HL10.out.bx.at 1 rfl 0 rfl
      have p1_1 := HL10.out.bx.at 1 rfl 1 rfl
      have p1_2 := HL10.out.bx.at 1 rfl 2 rfl
      have HK0 := Lib.hid (Below.refl w10.heap.size w10)
      go_wp2_with fail
      go_cut [68] from 63 to 68 (fun v wx => v = .bool true ∧ Hid (KW wc ((bc, [.slice A n c, .int .i64 s, .slice M m d, .slice E k g]) :: [(W.heap.size + 1 + 1, [.int .u8 xp, .slice Ar nr cr, .int .i64 ev]), (W.heap.size + 1, [gv 0, gv 1, gv 2, gv 3, gv 4, gv 5, gv 6, gv 7, gv 8, gv 9, gv 10, gv 11, gv 12, gv 13, gv 14, gv 15, gv 16, gv 17, gv 18, gv 19, gv 20, gv 21, gv 22, gv 23, gv 24, gv 25, gv 26]), (W.heap.size, [.int .u8 x0, .int .u8 x1])]) w10 wx))
      case first =>
        have HQ0 := Lib.hid (show KW wc ((bc, [.slice A n c, .int .i64 s, .slice M m d, .slice E k g]) :: [(W.heap.size + 1 + 1, [.int .u8 xp, .slice Ar nr cr, .int .i64 ev]), (W.heap.size + 1, [gv 0, gv 1, gv 2, gv 3, gv 4, gv 5, gv 6, gv 7, gv 8, gv 9, gv 10, gv 11, gv 12, gv 13, gv 14, gv 15, gv 16, gv 17, gv 18, gv 19, gv 20, gv 21, gv 22, gv 23, gv 24, gv 25, gv 26]), (W.heap.size, [.int .u8 x0, .int .u8 x1])]) w10 w10 from ⟨HL10.out, Below.refl _ _⟩)
        have HQ0d := Lib.hid (show KW wc ((bc, [.slice A n c, .int .i64 s, .slice M m d, .slice E k g]) :: [(W.heap.size + 1 + 1, [.int .u8 xp, .slice Ar nr cr, .int .i64 ev]), (W.heap.size + 1, [gv 0, gv 1, gv 2, gv 3, gv 4, gv 5, gv 6, gv 7, gv 8, gv 9, gv 10, gv 11, gv 12, gv 13, gv 14, gv 15, gv 16, gv 17, gv 18, gv 19, gv 20, gv 21, gv 22, gv 23, gv 24, gv 25, gv 26]), (W.heap.size, [.int .u8 x0, .int .u8 x1])]) w10 w10.drew from ⟨HL10.out.drew, (Below.refl _ _).drew⟩)
        go_region_held3 (fun w' => w'.cell? ⟨bc, 0, none⟩ = some (.slice A n c) ∧ w'.cell? ⟨bc, 1, none⟩ = some (.int .i64 s) ∧ w'.cell? ⟨bc, 2, none⟩ = some (.slice M m d) ∧ w'.cell? ⟨bc, 3, none⟩ = some (.slice E k g) ∧ w'.cell? ⟨W.heap.size + 1 + 1, 2, none⟩ = some (.int .i64 ev)) (first | with_reducible exact ⟨p0_0, p0_1, p0_2, p0_3, p1_2⟩ | go_keep)
          (first
          | (go_simp; go_at_call 25; (first | with_reducible refine (k_rkept rfl (HQ0.out.aut HAU.out) (HQ0.out.ints HR8.out) HN8.out (by omega) HQ0.out.lw).mono ?_ | with_reducible refine (k_rkept rfl (HQ0d.out.aut HAU.out) (HQ0d.out.ints HR8.out) HN8.out (by omega) HQ0d.out.lw).mono ?_); rintro e wq ⟨A4, n4, c4, rfl, hg4, hk4⟩
             have HQ1 := Lib.hid (show KW wc ((bc, [.slice A n c, .int .i64 s, .slice M m d, .slice E k g]) :: [(W.heap.size + 1 + 1, [.int .u8 xp, .slice Ar nr cr, .int .i64 ev]), (W.heap.size + 1, [gv 0, gv 1, gv 2, gv 3, gv 4, gv 5, gv 6, gv 7, gv 8, gv 9, gv 10, gv 11, gv 12, gv 13, gv 14, gv 15, gv 16, gv 17, gv 18, gv 19, gv 20, gv 21, gv 22, gv 23, gv 24, gv 25, gv 26]), (W.heap.size, [.int .u8 x0, .int .u8 x1])]) w10 wq from ⟨hk4.lw, by first | exact HQ0.out.bel.trans (hk4.bel.mono HQ0.out.bel.size) | exact HQ0d.out.bel.trans (hk4.bel.mono HQ0d.out.bel.size)⟩)
             have HQ1d := Lib.hid (show KW wc ((bc, [.slice A n c, .int .i64 s, .slice M m d, .slice E k g]) :: [(W.heap.size + 1 + 1, [.int .u8 xp, .slice Ar nr cr, .int .i64 ev]), (W.heap.size + 1, [gv 0, gv 1, gv 2, gv 3, gv 4, gv 5, gv 6, gv 7, gv 8, gv 9, gv 10, gv 11, gv 12, gv 13, gv 14, gv 15, gv 16, gv 17, gv 18, gv 19, gv 20, gv 21, gv 22, gv 23, gv 24, gv 25, gv 26]), (W.heap.size, [.int .u8 x0, .int .u8 x1])]) w10 wq.drew from ⟨HQ1.out.lw.drew, HQ1.out.bel.drew⟩)
             have HR4 := Lib.hid hg4.rd
             have HN4 := Lib.hid hg4.len
             have hn4 : n4 ≤ 100 := by rw [← hg4.len]; have h1 : (kpR a on).length ≤ a.al.length := List.length_filter_le _ _; have h2 := al_len HRI.out; omega
             have p0_0 := HQ1.out.lw.bx.at 0 rfl 0 rfl; have p0_1 := HQ1.out.lw.bx.at 0 rfl 1 rfl; have p0_2 := HQ1.out.lw.bx.at 0 rfl 2 rfl; have p0_3 := HQ1.out.lw.bx.at 0 rfl 3 rfl; have p1_2 := HQ1.out.lw.bx.at 1 rfl 2 rfl
             clear hg4 hk4)
          | (go_simp; go_at_call 24; (first | with_reducible refine (k_has HEK.out HR4.out HN4.out (by omega) HQ1.out.lw).mono ?_ | with_reducible refine (k_has HEK.out (rd_drew7 HR4.out) HN4.out (by omega) HQ1d.out.lw).mono ?_); rintro e wr ⟨rfl, hk5⟩
             have HQ2 := Lib.hid (show KW wc ((bc, [.slice A n c, .int .i64 s, .slice M m d, .slice E k g]) :: [(W.heap.size + 1 + 1, [.int .u8 xp, .slice Ar nr cr, .int .i64 ev]), (W.heap.size + 1, [gv 0, gv 1, gv 2, gv 3, gv 4, gv 5, gv 6, gv 7, gv 8, gv 9, gv 10, gv 11, gv 12, gv 13, gv 14, gv 15, gv 16, gv 17, gv 18, gv 19, gv 20, gv 21, gv 22, gv 23, gv 24, gv 25, gv 26]), (W.heap.size, [.int .u8 x0, .int .u8 x1])]) w10 wr from ⟨hk5.lw, by first | exact HQ1.out.bel.trans (hk5.bel.mono HQ1.out.bel.size) | exact HQ1d.out.bel.trans (hk5.bel.mono HQ1d.out.bel.size)⟩)
             have p0_0 := HQ2.out.lw.bx.at 0 rfl 0 rfl; have p0_1 := HQ2.out.lw.bx.at 0 rfl 1 rfl; have p0_2 := HQ2.out.lw.bx.at 0 rfl 2 rfl; have p0_3 := HQ2.out.lw.bx.at 0 rfl 3 rfl; have p1_2 := HQ2.out.lw.bx.at 1 rfl 2 rfl
             clear hk5))
        all_goals
          go_wp2_with fail
          go_meet
          case rel => exact ⟨rfl, HQ2⟩
      case rest =>
        obtain ⟨rfl, hl'⟩ := hcut
        clear p0_0 p0_1 p0_2 p0_3 p1_0 p1_1 p1_2
        have hl := hl'.out
        have HL11 := Lib.hid hl.lw
        have HAU := Lib.hid (hl.aut HAU.out)
        have HR8 := Lib.hid (hl.ints HR8.out)
        have HRW0 := Lib.hid (hl.ints HRW0.out)
        have HR1 := Lib.hid (hl.ints HR1.out)
        have HR2 := Lib.hid (hl.ints HR2.out)
        have HR3 := Lib.hid (hl.ints HR3.out)
        have HR5 := Lib.hid (hl.ints HR5.out)
        clear hl hl' HK0
        have p0_0 := HL11.out.bx.at 0 rfl 0 rfl
        have p0_1 := HL11.out.bx.at 0 rfl 1 rfl
        have p0_2 := HL11.out.bx.at 0 rfl 2 rfl
        have p0_3 := HL11.out.bx.at 0 rfl 3 rfl
        have p1_0 := HL11.out.bx.at 1 rfl 0 rfl
        have p1_1 := HL11.out.bx.at 1 rfl 1 rfl
        have p1_2 := HL11.out.bx.at 1 rfl 2 rfl
        go_wp2_with fail
        refine (k_rnext HNX.out HRI.out (by omega) HAU.out HR1.out HN1.out (by omega) HR8.out HN8.out (by omega) HL11.out).mono ?_
        rintro e w12 ⟨A6, n6, c6, rfl, hg6, hl⟩
        clear p0_0 p0_1 p0_2 p0_3 p1_0 p1_1 p1_2
        have HL12 := Lib.hid hl.lw
        have HAU := Lib.hid (hl.aut HAU.out)
        have HR8 := Lib.hid (hl.ints HR8.out)
        have HRW0 := Lib.hid (hl.ints HRW0.out)
        have HR1 := Lib.hid (hl.ints HR1.out)
        have HR2 := Lib.hid (hl.ints HR2.out)
        have HR3 := Lib.hid (hl.ints HR3.out)
        have HR5 := Lib.hid (hl.ints HR5.out)
        have HN6 := Lib.hid hg6.len
        have HCp6 := Lib.hid hg6.cap
        have HR6 := Lib.hid hg6.rd
        clear hg6
        have hn65 : n6 ≤ 5 := by rw [← HN6.out]; exact hxl
        clear hl
        have p0_0 := HL12.out.bx.at 0 rfl 0 rfl
        have p0_1 := HL12.out.bx.at 0 rfl 1 rfl
        have p0_2 := HL12.out.bx.at 0 rfl 2 rfl
        have p0_3 := HL12.out.bx.at 0 rfl 3 rfl
        have p1_0 := HL12.out.bx.at 1 rfl 0 rfl
        have p1_1 := HL12.out.bx.at 1 rfl 1 rfl
        have p1_2 := HL12.out.bx.at 1 rfl 2 rfl
        go_wp2_with fail
        refine (k_same (decide_eq_true rfl) HR5.out HR6.out HN5.out HN6.out (by omega) (by omega) HL12.out).mono ?_
        rintro e w13 ⟨rfl, hl⟩
        clear p0_0 p0_1 p0_2 p0_3 p1_0 p1_1 p1_2
        have HL13 := Lib.hid hl.lw
        have HAU := Lib.hid (hl.aut HAU.out)
        have HR8 := Lib.hid (hl.ints HR8.out)
        have HRW0 := Lib.hid (hl.ints HRW0.out)
        have HR1 := Lib.hid (hl.ints HR1.out)
        have HR2 := Lib.hid (hl.ints HR2.out)
        have HR3 := Lib.hid (hl.ints HR3.out)
        have HR5 := Lib.hid (hl.ints HR5.out)
        have HR6 := Lib.hid (hl.ints HR6.out)
        clear hl
        have p0_0 := HL13.out.bx.at 0 rfl 0 rfl
        have p0_1 := HL13.out.bx.at 0 rfl 1 rfl
        have p0_2 := HL13.out.bx.at 0 rfl 2 rfl
        have p0_3 := HL13.out.bx.at 0 rfl 3 rfl
        have p1_0 := HL13.out.bx.at 1 rfl 0 rfl
        have p1_1 := HL13.out.bx.at 1 rfl 1 rfl
        have p1_2 := HL13.out.bx.at 1 rfl 2 rfl
        obtain ⟨u, hu⟩ : ∃ u, csE a.st raw = u := ⟨_, rfl⟩
        have HU := Lib.hid hu
        clear hu
        go_wp2_with fail
        refine (k_list (u := u) (mx := s) (by rw [← HST.out]; exact HU.out) HRW0.out HSL.out (by omega) HL13.out).mono ?_
        rintro e w14 ⟨rfl, hl⟩
        clear p0_0 p0_1 p0_2 p0_3 p1_0 p1_1 p1_2
        have HL14 := Lib.hid hl.lw
        have HAU := Lib.hid (hl.aut HAU.out)
        have HR8 := Lib.hid (hl.ints HR8.out)
        have HRW0 := Lib.hid (hl.ints HRW0.out)
        have HR1 := Lib.hid (hl.ints HR1.out)
        have HR2 := Lib.hid (hl.ints HR2.out)
        have HR3 := Lib.hid (hl.ints HR3.out)
        have HR5 := Lib.hid (hl.ints HR5.out)
        have HR6 := Lib.hid (hl.ints HR6.out)
        clear hl
        have p0_0 := HL14.out.bx.at 0 rfl 0 rfl
        have p0_1 := HL14.out.bx.at 0 rfl 1 rfl
        have p0_2 := HL14.out.bx.at 0 rfl 2 rfl
        have p0_3 := HL14.out.bx.at 0 rfl 3 rfl
        have p1_0 := HL14.out.bx.at 1 rfl 0 rfl
        have p1_1 := HL14.out.bx.at 1 rfl 1 rfl
        have p1_2 := HL14.out.bx.at 1 rfl 2 rfl
        by_cases hu0 : u = 0
        · subst hu0
          go_wp2_with fail
          go_ret
          exact ⟨rfl, HB0.out.trans (HL14.out.bel.mono HB0.out.size)⟩
        · have HU0 := Lib.hid hu0
          have b1 : (u == 0) = false := by simp [hu0]
          have b2 : (u == u) = true := by simp
          have HRC2 := Lib.hid (show rchE a raw on = u by rw [rch_ok HCW.out, cst_ok hs0 (by omega)]; exact HU.out)
          have HNX2 := Lib.hid (show nextE a on raw ev = u by unfold nextE; rw [HRC2.out, if_neg hu0])
          clear hu0
          go_wp2_with fail
          refine (k_jreach HRC2.out (if_neg HU0.out) HAU.out HRW0.out HSL.out HSC.out (by omega) HR8.out HN8.out HC8.out (by omega) HL14.out).mono ?_
          rintro e w15 ⟨A7, n7, c7, rfl, hg7, hl⟩
          clear p0_0 p0_1 p0_2 p0_3 p1_0 p1_1 p1_2
          have HL15 := Lib.hid hl.lw
          have HAU := Lib.hid (hl.aut HAU.out)
          have HR8 := Lib.hid (hl.ints HR8.out)
          have HRW0 := Lib.hid (hl.ints HRW0.out)
          have HR1 := Lib.hid (hl.ints HR1.out)
          have HR2 := Lib.hid (hl.ints HR2.out)
          have HR3 := Lib.hid (hl.ints HR3.out)
          have HR5 := Lib.hid (hl.ints HR5.out)
          have HR6 := Lib.hid (hl.ints HR6.out)
          obtain rfl : n7 = 0 := hg7.len.symm
          clear hg7
          clear hl
          have p0_0 := HL15.out.bx.at 0 rfl 0 rfl
          have p0_1 := HL15.out.bx.at 0 rfl 1 rfl
          have p0_2 := HL15.out.bx.at 0 rfl 2 rfl
          have p0_3 := HL15.out.bx.at 0 rfl 3 rfl
          have p1_0 := HL15.out.bx.at 1 rfl 0 rfl
          have p1_1 := HL15.out.bx.at 1 rfl 1 rfl
          have p1_2 := HL15.out.bx.at 1 rfl 2 rfl
          go_wp2_with fail
          refine (k_jnext HNX2.out (if_neg HU0.out) HAU.out HRW0.out HSL.out HSC.out (by omega) HR8.out HN8.out HC8.out (by omega) HL15.out).mono ?_
          rintro e w16 ⟨A9, n9, c9, rfl, hg9, hl⟩
          clear p0_0 p0_1 p0_2 p0_3 p1_0 p1_1 p1_2
          have HL16 := Lib.hid hl.lw
          have HAU := Lib.hid (hl.aut HAU.out)
          have HR8 := Lib.hid (hl.ints HR8.out)
          have HRW0 := Lib.hid (hl.ints HRW0.out)
          have HR1 := Lib.hid (hl.ints HR1.out)
          have HR2 := Lib.hid (hl.ints HR2.out)
          have HR3 := Lib.hid (hl.ints HR3.out)
          have HR5 := Lib.hid (hl.ints HR5.out)
          have HR6 := Lib.hid (hl.ints HR6.out)
          obtain rfl : n9 = 0 := hg9.len.symm
          clear hg9
          clear hl
          have p0_0 := HL16.out.bx.at 0 rfl 0 rfl
          have p0_1 := HL16.out.bx.at 0 rfl 1 rfl
          have p0_2 := HL16.out.bx.at 0 rfl 2 rfl
          have p0_3 := HL16.out.bx.at 0 rfl 3 rfl
          have p1_0 := HL16.out.bx.at 1 rfl 0 rfl
          have p1_1 := HL16.out.bx.at 1 rfl 1 rfl
          have p1_2 := HL16.out.bx.at 1 rfl 2 rfl
          go_wp2_with fail
          go_ret
          exact ⟨rfl, HB0.out.trans (HL16.out.bel.mono HB0.out.size)⟩
    · have HEK := Lib.hid (show decide (ev ∈ kpR a on) = false by simpa using hk)
      have HNE := Lib.hid (show nextE a on fr ev = 9 by unfold nextE; rw [HRC.out, if_pos rfl, if_neg hk])
      clear hk
      go_wp2_with fail
      refine (k_jnext HNE.out (if_neg (by omega)) HAU.out HR1.out HN1.out HCp1.out (by omega) HR8.out HN8.out HC8.out (by omega) HL9.out).mono ?_
      rintro e w10 ⟨A5, n5, c5, rfl, hg5, hl⟩
      clear p0_0 p0_1 p0_2 p0_3 p1_0 p1_1 p1_2
      have HL10 := Lib.hid hl.lw
      have HAU := Lib.hid (hl.aut HAU.out)
      have HR8 := Lib.hid (hl.ints HR8.out)
      have HRW0 := Lib.hid (hl.ints HRW0.out)
      have HR1 := Lib.hid (hl.ints HR1.out)
      have HR2 := Lib.hid (hl.ints HR2.out)
      have HR3 := Lib.hid (hl.ints HR3.out)
      obtain rfl : n5 = 0 := hg5.len.symm
      clear hg5
      clear hl
      have p0_0 := HL10.out.bx.at 0 rfl 0 rfl
      have p0_1 := HL10.out.bx.at 0 rfl 1 rfl
      have p0_2 := HL10.out.bx.at 0 rfl 2 rfl
      have p0_3 := HL10.out.bx.at 0 rfl 3 rfl
      have p1_0 := HL10.out.bx.at 1 rfl 0 rfl
      have p1_1 := HL10.out.bx.at 1 rfl 1 rfl
      have p1_2 := HL10.out.bx.at 1 rfl 2 rfl
      have HK0 := Lib.hid (Below.refl w10.heap.size w10)
      go_wp2_with fail
      go_cut [68] from 63 to 68 (fun v wx => v = .bool false ∧ Hid (KW wc ((bc, [.slice A n c, .int .i64 s, .slice M m d, .slice E k g]) :: [(W.heap.size + 1 + 1, [.int .u8 xp, .slice Ar nr cr, .int .i64 ev]), (W.heap.size + 1, [gv 0, gv 1, gv 2, gv 3, gv 4, gv 5, gv 6, gv 7, gv 8, gv 9, gv 10, gv 11, gv 12, gv 13, gv 14, gv 15, gv 16, gv 17, gv 18, gv 19, gv 20, gv 21, gv 22, gv 23, gv 24, gv 25, gv 26]), (W.heap.size, [.int .u8 x0, .int .u8 x1])]) w10 wx))
      case first =>
        have HQ0 := Lib.hid (show KW wc ((bc, [.slice A n c, .int .i64 s, .slice M m d, .slice E k g]) :: [(W.heap.size + 1 + 1, [.int .u8 xp, .slice Ar nr cr, .int .i64 ev]), (W.heap.size + 1, [gv 0, gv 1, gv 2, gv 3, gv 4, gv 5, gv 6, gv 7, gv 8, gv 9, gv 10, gv 11, gv 12, gv 13, gv 14, gv 15, gv 16, gv 17, gv 18, gv 19, gv 20, gv 21, gv 22, gv 23, gv 24, gv 25, gv 26]), (W.heap.size, [.int .u8 x0, .int .u8 x1])]) w10 w10 from ⟨HL10.out, Below.refl _ _⟩)
        have HQ0d := Lib.hid (show KW wc ((bc, [.slice A n c, .int .i64 s, .slice M m d, .slice E k g]) :: [(W.heap.size + 1 + 1, [.int .u8 xp, .slice Ar nr cr, .int .i64 ev]), (W.heap.size + 1, [gv 0, gv 1, gv 2, gv 3, gv 4, gv 5, gv 6, gv 7, gv 8, gv 9, gv 10, gv 11, gv 12, gv 13, gv 14, gv 15, gv 16, gv 17, gv 18, gv 19, gv 20, gv 21, gv 22, gv 23, gv 24, gv 25, gv 26]), (W.heap.size, [.int .u8 x0, .int .u8 x1])]) w10 w10.drew from ⟨HL10.out.drew, (Below.refl _ _).drew⟩)
        go_region_held3 (fun w' => w'.cell? ⟨bc, 0, none⟩ = some (.slice A n c) ∧ w'.cell? ⟨bc, 1, none⟩ = some (.int .i64 s) ∧ w'.cell? ⟨bc, 2, none⟩ = some (.slice M m d) ∧ w'.cell? ⟨bc, 3, none⟩ = some (.slice E k g) ∧ w'.cell? ⟨W.heap.size + 1 + 1, 2, none⟩ = some (.int .i64 ev)) (first | with_reducible exact ⟨p0_0, p0_1, p0_2, p0_3, p1_2⟩ | go_keep)
          (first
          | (go_simp; go_at_call 25; (first | with_reducible refine (k_rkept rfl (HQ0.out.aut HAU.out) (HQ0.out.ints HR8.out) HN8.out (by omega) HQ0.out.lw).mono ?_ | with_reducible refine (k_rkept rfl (HQ0d.out.aut HAU.out) (HQ0d.out.ints HR8.out) HN8.out (by omega) HQ0d.out.lw).mono ?_); rintro e wq ⟨A4, n4, c4, rfl, hg4, hk4⟩
             have HQ1 := Lib.hid (show KW wc ((bc, [.slice A n c, .int .i64 s, .slice M m d, .slice E k g]) :: [(W.heap.size + 1 + 1, [.int .u8 xp, .slice Ar nr cr, .int .i64 ev]), (W.heap.size + 1, [gv 0, gv 1, gv 2, gv 3, gv 4, gv 5, gv 6, gv 7, gv 8, gv 9, gv 10, gv 11, gv 12, gv 13, gv 14, gv 15, gv 16, gv 17, gv 18, gv 19, gv 20, gv 21, gv 22, gv 23, gv 24, gv 25, gv 26]), (W.heap.size, [.int .u8 x0, .int .u8 x1])]) w10 wq from ⟨hk4.lw, by first | exact HQ0.out.bel.trans (hk4.bel.mono HQ0.out.bel.size) | exact HQ0d.out.bel.trans (hk4.bel.mono HQ0d.out.bel.size)⟩)
             have HQ1d := Lib.hid (show KW wc ((bc, [.slice A n c, .int .i64 s, .slice M m d, .slice E k g]) :: [(W.heap.size + 1 + 1, [.int .u8 xp, .slice Ar nr cr, .int .i64 ev]), (W.heap.size + 1, [gv 0, gv 1, gv 2, gv 3, gv 4, gv 5, gv 6, gv 7, gv 8, gv 9, gv 10, gv 11, gv 12, gv 13, gv 14, gv 15, gv 16, gv 17, gv 18, gv 19, gv 20, gv 21, gv 22, gv 23, gv 24, gv 25, gv 26]), (W.heap.size, [.int .u8 x0, .int .u8 x1])]) w10 wq.drew from ⟨HQ1.out.lw.drew, HQ1.out.bel.drew⟩)
             have HR4 := Lib.hid hg4.rd
             have HN4 := Lib.hid hg4.len
             have hn4 : n4 ≤ 100 := by rw [← hg4.len]; have h1 : (kpR a on).length ≤ a.al.length := List.length_filter_le _ _; have h2 := al_len HRI.out; omega
             have p0_0 := HQ1.out.lw.bx.at 0 rfl 0 rfl; have p0_1 := HQ1.out.lw.bx.at 0 rfl 1 rfl; have p0_2 := HQ1.out.lw.bx.at 0 rfl 2 rfl; have p0_3 := HQ1.out.lw.bx.at 0 rfl 3 rfl; have p1_2 := HQ1.out.lw.bx.at 1 rfl 2 rfl
             clear hg4 hk4)
          | (go_simp; go_at_call 24; (first | with_reducible refine (k_has HEK.out HR4.out HN4.out (by omega) HQ1.out.lw).mono ?_ | with_reducible refine (k_has HEK.out (rd_drew7 HR4.out) HN4.out (by omega) HQ1d.out.lw).mono ?_); rintro e wr ⟨rfl, hk5⟩
             have HQ2 := Lib.hid (show KW wc ((bc, [.slice A n c, .int .i64 s, .slice M m d, .slice E k g]) :: [(W.heap.size + 1 + 1, [.int .u8 xp, .slice Ar nr cr, .int .i64 ev]), (W.heap.size + 1, [gv 0, gv 1, gv 2, gv 3, gv 4, gv 5, gv 6, gv 7, gv 8, gv 9, gv 10, gv 11, gv 12, gv 13, gv 14, gv 15, gv 16, gv 17, gv 18, gv 19, gv 20, gv 21, gv 22, gv 23, gv 24, gv 25, gv 26]), (W.heap.size, [.int .u8 x0, .int .u8 x1])]) w10 wr from ⟨hk5.lw, by first | exact HQ1.out.bel.trans (hk5.bel.mono HQ1.out.bel.size) | exact HQ1d.out.bel.trans (hk5.bel.mono HQ1d.out.bel.size)⟩)
             have p0_0 := HQ2.out.lw.bx.at 0 rfl 0 rfl; have p0_1 := HQ2.out.lw.bx.at 0 rfl 1 rfl; have p0_2 := HQ2.out.lw.bx.at 0 rfl 2 rfl; have p0_3 := HQ2.out.lw.bx.at 0 rfl 3 rfl; have p1_2 := HQ2.out.lw.bx.at 1 rfl 2 rfl
             clear hk5))
        all_goals
          go_wp2_with fail
          go_meet
          case rel => exact ⟨rfl, HQ2⟩
      case rest =>
        obtain ⟨rfl, hl'⟩ := hcut
        clear p0_0 p0_1 p0_2 p0_3 p1_0 p1_1 p1_2
        have hl := hl'.out
        have HL11 := Lib.hid hl.lw
        have HAU := Lib.hid (hl.aut HAU.out)
        have HR8 := Lib.hid (hl.ints HR8.out)
        have HRW0 := Lib.hid (hl.ints HRW0.out)
        have HR1 := Lib.hid (hl.ints HR1.out)
        have HR2 := Lib.hid (hl.ints HR2.out)
        have HR3 := Lib.hid (hl.ints HR3.out)
        clear hl hl' HK0
        have p0_0 := HL11.out.bx.at 0 rfl 0 rfl
        have p0_1 := HL11.out.bx.at 0 rfl 1 rfl
        have p0_2 := HL11.out.bx.at 0 rfl 2 rfl
        have p0_3 := HL11.out.bx.at 0 rfl 3 rfl
        have p1_0 := HL11.out.bx.at 1 rfl 0 rfl
        have p1_1 := HL11.out.bx.at 1 rfl 1 rfl
        have p1_2 := HL11.out.bx.at 1 rfl 2 rfl
        obtain ⟨u, hu⟩ : ∃ u, csE a.st raw = u := ⟨_, rfl⟩
        have HU := Lib.hid hu
        clear hu
        go_wp2_with fail
        refine (k_list (u := u) (mx := s) (by rw [← HST.out]; exact HU.out) HRW0.out HSL.out (by omega) HL11.out).mono ?_
        rintro e w12 ⟨rfl, hl⟩
        clear p0_0 p0_1 p0_2 p0_3 p1_0 p1_1 p1_2
        have HL12 := Lib.hid hl.lw
        have HAU := Lib.hid (hl.aut HAU.out)
        have HR8 := Lib.hid (hl.ints HR8.out)
        have HRW0 := Lib.hid (hl.ints HRW0.out)
        have HR1 := Lib.hid (hl.ints HR1.out)
        have HR2 := Lib.hid (hl.ints HR2.out)
        have HR3 := Lib.hid (hl.ints HR3.out)
        clear hl
        have p0_0 := HL12.out.bx.at 0 rfl 0 rfl
        have p0_1 := HL12.out.bx.at 0 rfl 1 rfl
        have p0_2 := HL12.out.bx.at 0 rfl 2 rfl
        have p0_3 := HL12.out.bx.at 0 rfl 3 rfl
        have p1_0 := HL12.out.bx.at 1 rfl 0 rfl
        have p1_1 := HL12.out.bx.at 1 rfl 1 rfl
        have p1_2 := HL12.out.bx.at 1 rfl 2 rfl
        by_cases hu0 : u = 0
        · subst hu0
          go_wp2_with fail
          go_ret
          exact ⟨rfl, HB0.out.trans (HL12.out.bel.mono HB0.out.size)⟩
        · have HU0 := Lib.hid hu0
          have b1 : (u == 0) = false := by simp [hu0]
          have b2 : (u == u) = true := by simp
          have HRC2 := Lib.hid (show rchE a raw on = u by rw [rch_ok HCW.out, cst_ok hs0 (by omega)]; exact HU.out)
          have HNX2 := Lib.hid (show nextE a on raw ev = u by unfold nextE; rw [HRC2.out, if_neg hu0])
          clear hu0
          go_wp2_with fail
          refine (k_jreach HRC2.out (if_neg HU0.out) HAU.out HRW0.out HSL.out HSC.out (by omega) HR8.out HN8.out HC8.out (by omega) HL12.out).mono ?_
          rintro e w13 ⟨A7, n7, c7, rfl, hg7, hl⟩
          clear p0_0 p0_1 p0_2 p0_3 p1_0 p1_1 p1_2
          have HL13 := Lib.hid hl.lw
          have HAU := Lib.hid (hl.aut HAU.out)
          have HR8 := Lib.hid (hl.ints HR8.out)
          have HRW0 := Lib.hid (hl.ints HRW0.out)
          have HR1 := Lib.hid (hl.ints HR1.out)
          have HR2 := Lib.hid (hl.ints HR2.out)
          have HR3 := Lib.hid (hl.ints HR3.out)
          obtain rfl : n7 = 0 := hg7.len.symm
          clear hg7
          clear hl
          have p0_0 := HL13.out.bx.at 0 rfl 0 rfl
          have p0_1 := HL13.out.bx.at 0 rfl 1 rfl
          have p0_2 := HL13.out.bx.at 0 rfl 2 rfl
          have p0_3 := HL13.out.bx.at 0 rfl 3 rfl
          have p1_0 := HL13.out.bx.at 1 rfl 0 rfl
          have p1_1 := HL13.out.bx.at 1 rfl 1 rfl
          have p1_2 := HL13.out.bx.at 1 rfl 2 rfl
          go_wp2_with fail
          refine (k_jnext HNX2.out (if_neg HU0.out) HAU.out HRW0.out HSL.out HSC.out (by omega) HR8.out HN8.out HC8.out (by omega) HL13.out).mono ?_
          rintro e w14 ⟨A9, n9, c9, rfl, hg9, hl⟩
          clear p0_0 p0_1 p0_2 p0_3 p1_0 p1_1 p1_2
          have HL14 := Lib.hid hl.lw
          have HAU := Lib.hid (hl.aut HAU.out)
          have HR8 := Lib.hid (hl.ints HR8.out)
          have HRW0 := Lib.hid (hl.ints HRW0.out)
          have HR1 := Lib.hid (hl.ints HR1.out)
          have HR2 := Lib.hid (hl.ints HR2.out)
          have HR3 := Lib.hid (hl.ints HR3.out)
          obtain rfl : n9 = 0 := hg9.len.symm
          clear hg9
          clear hl
          have p0_0 := HL14.out.bx.at 0 rfl 0 rfl
          have p0_1 := HL14.out.bx.at 0 rfl 1 rfl
          have p0_2 := HL14.out.bx.at 0 rfl 2 rfl
          have p0_3 := HL14.out.bx.at 0 rfl 3 rfl
          have p1_0 := HL14.out.bx.at 1 rfl 0 rfl
          have p1_1 := HL14.out.bx.at 1 rfl 1 rfl
          have p1_2 := HL14.out.bx.at 1 rfl 2 rfl
          go_wp2_with fail
          go_ret
          exact ⟨rfl, HB0.out.trans (HL14.out.bel.mono HB0.out.size)⟩
end Go.Proofs.YtmghngehpgolgaaGreat
