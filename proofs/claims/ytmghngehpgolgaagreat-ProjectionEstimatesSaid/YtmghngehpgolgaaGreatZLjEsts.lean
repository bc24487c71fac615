/- The law ProjectionEstimates, walked. -/
import Derived.Test.YtmghngehpgolgaaGreatZa16
import Derived.Test.YtmghngehpgolgaaGreatZa17
set_option linter.unusedVariables false
set_option linter.unusedSimpArgs false
set_option linter.unusedSectionVars false
namespace Go.Proofs.YtmghngehpgolgaaGreat
open Go.RowKit Go.Sort
attribute [local go_sem ↓] exec_load_graph'
attribute [local go_sem] blkOf_ptr

theorem est_ok {a : Au} {on ob : List Int} (h : cweE a on = 0) (hb : ob.all (fun x => decide (x ∈ kpR a on)) = true) : estE a on ob = 0 := by unfold estE; rw [if_pos h, if_pos hb]
theorem est_un {a : Au} {on ob : List Int} (h : cweE a on = 0) (hb : ¬ ob.all (fun x => decide (x ∈ kpR a on)) = true) : estE a on ob = 9 := by unfold estE; rw [if_pos h, if_neg hb]
theorem esR_sub {a : Au} (on ob : List Int) : SubOk a.st.toNat (esR a on ob) := by
  rcases List.eq_nil_or_concat ob with rfl | ⟨r, x, rfl⟩
  · exact fs_ok on
  · unfold esR
    rw [List.concat_eq_append, List.foldl_append]
    exact reR_ok _ _ _
theorem next_es {a : Au} {on ob : List Int} {x : Int} (h : cweE a on = 0) (h0 : 0 ≤ a.st) (h1 : a.st ≤ 4096) (hx : x ∈ kpR a on) : nextE a on (esR a on ob) x = 0 := by
  have h2 := esR_sub (a := a) on ob
  unfold nextE
  rw [rch_ok h, cst_ok h0 h1, cs_mk (fun q hq => by have := h2.2 q hq; omega) h2.1, if_pos rfl, if_pos hx]
set_option maxHeartbeats 8000000 in
set_option maxRecDepth 100000 in
theorem lawPjEstimates (x0 x1 : Int) (gv : Nat → Value) (Ao : Option Addr) (no co : Nat) (ob : List Int) (W : World) (S0 : (Lit.int .u8 x0).wf = true) (S1 : (Lit.int .u8 x1).wf = true) (SG : GrC #[gv 0, gv 1, gv 2, gv 3, gv 4, gv 5, gv 6, gv 7, gv 8, gv 9, gv 10, gv 11, gv 12, gv 13, gv 14, gv 15, gv 16, gv 17, gv 18, gv 19, gv 20, gv 21, gv 22, gv 23, gv 24, gv 25, gv 26]) (SR : RdI W W.heap.size Ao ob) (SL : ob.length = no) (_SW : ∀ z ∈ ob, (Lit.int .i64 z).wf = true) (SC : no ≤ co ∧ co ≤ 9223372036854775807) :
    Calls Tryz.prog 5 #[.agg #[.int .u8 x0, .int .u8 x1], .agg #[gv 0, gv 1, gv 2, gv 3, gv 4, gv 5, gv 6, gv 7, gv 8, gv 9, gv 10, gv 11, gv 12, gv 13, gv 14, gv 15, gv 16, gv 17, gv 18, gv 19, gv 20, gv 21, gv 22, gv 23, gv 24, gv 25, gv 26], .slice Ao no co] W fun e W' => e = .returned (.bool true) ∧ Below W.heap.size W W' := by
  have HL0 := Lib.hid (by
    have h := (LW.first W [.int .u8 x0, .int .u8 x1] 45).new [gv 0, gv 1, gv 2, gv 3, gv 4, gv 5, gv 6, gv 7, gv 8, gv 9, gv 10, gv 11, gv 12, gv 13, gv 14, gv 15, gv 16, gv 17, gv 18, gv 19, gv 20, gv 21, gv 22, gv 23, gv 24, gv 25, gv 26] 26
    rw [World.size_alloc] at h; exact h)
  have HK := Lib.hid known7_any
  have HS0 := Lib.hid S0
  have HS1 := Lib.hid S1
  have HSG := Lib.hid SG
  have HSR := Lib.hid SR
  have HON := Lib.hid SL
  have HSC := Lib.hid SC
  clear S0 S1 SG SR SL SC _SW
  by_cases h6 : 6 < no
  · go_enter Tryz.func5, Tryz.ntmps5
    go_wp2_with fail
    refine (lw_call (HK.out _) HL0.out).mono ?_
    rintro e w1 ⟨rfl, hl⟩
    have HL1 := Lib.hid hl
    clear hl
    go_wp2_with fail
    refine (lw_call (HK.out _) HL1.out).mono ?_
    rintro e w2 ⟨rfl, hl⟩
    have HL2 := Lib.hid hl
    clear hl
    go_wp2_with fail
    go_ret
    exact ⟨rfl, HL2.out.bel⟩
  have hn6 : no ≤ 6 := by omega
  go_enter Tryz.func5, Tryz.ntmps5
  go_wp2_with fail
  refine (lw_call (HK.out _) HL0.out).mono ?_
  rintro e w1 ⟨rfl, hl⟩
  have HL1 := Lib.hid hl
  clear hl
  have hgs := gs2_of HL1.out 0 1 (gv := gv) (x0 := x0) (x1 := x1) rfl rfl
  go_wp2_with fail
  go_cut [7, 8] from 24 to 31 (fun v7 v8 wx => PreR2 W [(W.heap.size + 1, [gv 0, gv 1, gv 2, gv 3, gv 4, gv 5, gv 6, gv 7, gv 8, gv 9, gv 10, gv 11, gv 12, gv 13, gv 14, gv 15, gv 16, gv 17, gv 18, gv 19, gv 20, gv 21, gv 22, gv 23, gv 24, gv 25, gv 26]), (W.heap.size, [.int .u8 x0, .int .u8 x1])] v7 v8 wx)
  case first =>
    have HL9 := Lib.hid HL1.out
    go_region_held3 (fun w' => GridOk w' (W.heap.size + 1) ∧ (∀ i : Nat, i < 27 → w'.cell? ⟨W.heap.size + 1, i, none⟩ = some (gv i)) ∧ w'.cell? ⟨W.heap.size, 0, none⟩ = some (.int .u8 x0) ∧ w'.cell? ⟨W.heap.size, 1, none⟩ = some (.int .u8 x1)) (exact gs2_of (W := W) (l := [(W.heap.size + 1, [gv 0, gv 1, gv 2, gv 3, gv 4, gv 5, gv 6, gv 7, gv 8, gv 9, gv 10, gv 11, gv 12, gv 13, gv 14, gv 15, gv 16, gv 17, gv 18, gv 19, gv 20, gv 21, gv 22, gv 23, gv 24, gv 25, gv 26]), (W.heap.size, [.int .u8 x0, .int .u8 x1])]) (by repeat (first | with_reducible exact HL9.out | refine LW.drew ?_ | refine LW.alloc ?_ _ | with_reducible exact (LW.put' HL1.out HL9.out HQ3.out (Nat.le_refl _) _ _ _ _).tail | with_reducible exact (LW.put' HL8.out HL9.out HQ4.out (Nat.le_refl _) _ _ _ _).tail | with_reducible exact (LW.put' HL1.out HL9.out HQ5.out (Nat.le_refl _) _ _ _ _).tail | with_reducible exact (LW.put' HL8.out HL9.out HQ5.out (Nat.le_refl _) _ _ _ _).tail | with_reducible exact (LW.put' HL7.out HL9.out HQ6.out (Nat.le_refl _) _ _ _ _).tail)) 0 1 rfl rfl)
      (first
      | (go_simp; go_at_call 13; (with_reducible refine (events_any x0 _ HS0.out).mono ?_); rintro e w2 ⟨al, hev, A0, c0, rfl, hrd, hb2, hc0, hc02⟩
         have HL8 := Lib.hid (show LW W [(W.heap.size + 1, [gv 0, gv 1, gv 2, gv 3, gv 4, gv 5, gv 6, gv 7, gv 8, gv 9, gv 10, gv 11, gv 12, gv 13, gv 14, gv 15, gv 16, gv 17, gv 18, gv 19, gv 20, gv 21, gv 22, gv 23, gv 24, gv 25, gv 26]), (W.heap.size, [.int .u8 x0, .int .u8 x1])] w2 from LW.call (by repeat (first | with_reducible exact HL9.out | refine LW.drew ?_ | refine LW.alloc ?_ _)) hb2)
         have HL9 := HL8
         have HEV := Lib.hid hev
         have HRD := Lib.hid hrd
         try (have hq : Row w2 w1.heap.size 33 [.slice none 0 0, .int .i64 0, .slice none 0 0, .slice none 0 0] := Row.below (by first | with_reducible exact Row.new w1 [.slice none 0 0, .int .i64 0, .slice none 0 0, .slice none 0 0] 33 | with_reducible exact row_drew (Row.new w1 [.slice none 0 0, .int .i64 0, .slice none 0 0, .slice none 0 0] 33) | with_reducible exact Row.new w1.drew [.slice none 0 0, .int .i64 0, .slice none 0 0, .slice none 0 0] 33) hb2 (by simp); have HQ2 := Lib.hid hq; have y0 := hq.cell 0 rfl; have y1 := hq.cell 1 rfl; have y2 := hq.cell 2 rfl; have y3 := hq.cell 3 rfl; have g0 := hq.frozen 0; have g1 := hq.frozen 1; have g2 := hq.frozen 2; have g3 := hq.frozen 3; clear hq)
         clear hb2 hev hrd hc02)
      | (go_simp; go_at_call 12; refine (make_any A0 al.length c0 w2.heap.size al #[gv 0, gv 1, gv 2, gv 3, gv 4, gv 5, gv 6, gv 7, gv 8, gv 9, gv 10, gv 11, gv 12, gv 13, gv 14, gv 15, gv 16, gv 17, gv 18, gv 19, gv 20, gv 21, gv 22, gv 23, gv 24, gv 25, gv 26] _ (by first | with_reducible exact HRD.out | exact HRD.out.below ((Below.refl _ w2).alloc (Nat.le_refl _) _) (Nat.le_refl _)) (by simp) rfl hc0 HEV.out HSG.out).mono ?_; rintro e w3 ⟨a, v3, hok, rfl, ⟨A, n, c, s, M, m, d, E, k, g, rfl, hau, hfr⟩, hb3⟩
         have HL7 := Lib.hid (show LW W [(W.heap.size + 1, [gv 0, gv 1, gv 2, gv 3, gv 4, gv 5, gv 6, gv 7, gv 8, gv 9, gv 10, gv 11, gv 12, gv 13, gv 14, gv 15, gv 16, gv 17, gv 18, gv 19, gv 20, gv 21, gv 22, gv 23, gv 24, gv 25, gv 26]), (W.heap.size, [.int .u8 x0, .int .u8 x1])] w3 from LW.call (by repeat (first | with_reducible exact HL9.out | refine LW.drew ?_ | refine LW.alloc ?_ _)) hb3)
         have HL9 := HL7
         have HOK := Lib.hid hok
         have HAF := Lib.hid (show AuF a (.agg #[.slice A n c, .int .i64 s, .slice M m d, .slice E k g]) w3 _ from ⟨A, n, c, s, M, m, d, E, k, g, rfl, hau, hfr⟩)
         have HA3 := Lib.hid hau
         try (have hq := Row.below (show Row _ w1.heap.size 33 [.slice none 0 0, .int .i64 0, .slice none 0 0, .slice none 0 0] from by first | with_reducible exact HQ2.out | with_reducible exact row_drew HQ2.out) hb3 (by have := HQ2.out.lt; simpa using this); have HQ3 := Lib.hid hq; have HQL := Lib.hid (Nat.lt_of_lt_of_le HQ2.out.lt (Nat.le_refl _)); have HAS3 := Lib.hid (show AuS w3 w1.heap.size a A n c s M m d E k g from aus_f HAF.out (by have := HQL.out; simpa using this)); have y0 := hq.cell 0 rfl; have y1 := hq.cell 1 rfl; have y2 := hq.cell 2 rfl; have y3 := hq.cell 3 rfl; have g0 := hq.frozen 0; have g1 := hq.frozen 1; have g2 := hq.frozen 2; have g3 := hq.frozen 3; clear hq)
         try (have hq : Row w3 w2.heap.size 33 [.slice none 0 0, .int .i64 0, .slice none 0 0, .slice none 0 0] := Row.below (by first | with_reducible exact Row.new w2 [.slice none 0 0, .int .i64 0, .slice none 0 0, .slice none 0 0] 33 | with_reducible exact row_drew (Row.new w2 [.slice none 0 0, .int .i64 0, .slice none 0 0, .slice none 0 0] 33) | with_reducible exact Row.new w2.drew [.slice none 0 0, .int .i64 0, .slice none 0 0, .slice none 0 0] 33) hb3 (by simp); have HQ4 := Lib.hid hq; have HAS3 := Lib.hid (show AuS w3 w2.heap.size a A n c s M m d E k g from aus_f HAF.out (by simp)); have y0 := hq.cell 0 rfl; have y1 := hq.cell 1 rfl; have y2 := hq.cell 2 rfl; have y3 := hq.cell 3 rfl; have g0 := hq.frozen 0; have g1 := hq.frozen 1; have g2 := hq.frozen 2; have g3 := hq.frozen 3; clear hq)
         clear hb3 hok hau hfr)
      | (go_simp; go_at_call 13; (with_reducible refine (events_own x1 _ HS1.out).mono ?_); rintro e w4 ⟨on, A8, c8, hev8, rfl, ho8, hb4⟩
         have HL6 := Lib.hid (show LW W [(W.heap.size + 1, [gv 0, gv 1, gv 2, gv 3, gv 4, gv 5, gv 6, gv 7, gv 8, gv 9, gv 10, gv 11, gv 12, gv 13, gv 14, gv 15, gv 16, gv 17, gv 18, gv 19, gv 20, gv 21, gv 22, gv 23, gv 24, gv 25, gv 26]), (W.heap.size, [.int .u8 x0, .int .u8 x1])] w4 from LW.call (by repeat (first | with_reducible exact HL9.out | refine LW.drew ?_ | refine LW.alloc ?_ _ | with_reducible exact (LW.put' HL1.out HL9.out HQ3.out (Nat.le_refl _) _ _ _ _).tail | with_reducible exact (LW.put' HL8.out HL9.out HQ4.out (Nat.le_refl _) _ _ _ _).tail)) hb4)
         have HL9 := HL6
         have HE8 := Lib.hid hev8
         have HO8 := Lib.hid ho8
         have HA4 := Lib.hid (show AuR w4 w4.heap.size A n c s M m d E k g a from ((show AuR _ _ A n c s M m d E k g a from by first | with_reducible exact HA3.out | exact (by have := HAS3.out (.slice A n c) (.int .i64 s) (.slice M m d) (.slice E k g); simpa using this) | exact (HA3.out.below ((Below.refl _ w3).alloc (Nat.le_refl _) _) (Nat.le_refl _)).more (by simp)).below hb4 (Nat.le_refl _)).more hb4.size)
         try (have hq := Row.below (show Row _ w1.heap.size 33 [.slice none 0 0, .int .i64 0, .slice none 0 0, .slice none 0 0] from by first | with_reducible exact HQ3.out | with_reducible exact row_drew HQ3.out) hb4 (by have := HQ3.out.lt; simpa using this); have HQ5 := Lib.hid hq; have y0 := hq.cell 0 rfl; have y1 := hq.cell 1 rfl; have y2 := hq.cell 2 rfl; have y3 := hq.cell 3 rfl; have g0 := hq.frozen 0; have g1 := hq.frozen 1; have g2 := hq.frozen 2; have g3 := hq.frozen 3; clear hq; have HS5 := Lib.hid (show AuS w4 w1.heap.size a A n c s M m d E k g from aus_f (HAF.out.below (show Below w3.heap.size w3 w4 from by first | with_reducible exact hb4 | exact (Below.refl _ w3).drew.trans hb4)) (by have := HQL.out; simpa using this)))
         try (have hq := Row.below (show Row _ w2.heap.size 33 [.slice none 0 0, .int .i64 0, .slice none 0 0, .slice none 0 0] from by first | with_reducible exact HQ4.out | with_reducible exact row_drew HQ4.out) hb4 (by have := HQ4.out.lt; simpa using this); have HQ5 := Lib.hid hq; have y0 := hq.cell 0 rfl; have y1 := hq.cell 1 rfl; have y2 := hq.cell 2 rfl; have y3 := hq.cell 3 rfl; have g0 := hq.frozen 0; have g1 := hq.frozen 1; have g2 := hq.frozen 2; have g3 := hq.frozen 3; clear hq; have HS5 := Lib.hid (show AuS w4 w2.heap.size a A n c s M m d E k g from aus_f (HAF.out.below (show Below w3.heap.size w3 w4 from by first | with_reducible exact hb4 | exact (Below.refl _ w3).drew.trans hb4)) (by simp)))
         try (have hq : Row w4 w3.heap.size 33 [.slice none 0 0, .int .i64 0, .slice none 0 0, .slice none 0 0] := Row.below (by first | with_reducible exact Row.new w3 [.slice none 0 0, .int .i64 0, .slice none 0 0, .slice none 0 0] 33 | with_reducible exact row_drew (Row.new w3 [.slice none 0 0, .int .i64 0, .slice none 0 0, .slice none 0 0] 33) | with_reducible exact Row.new w3.drew [.slice none 0 0, .int .i64 0, .slice none 0 0, .slice none 0 0] 33) hb4 (by simp); have HQ6 := Lib.hid hq; have y0 := hq.cell 0 rfl; have y1 := hq.cell 1 rfl; have y2 := hq.cell 2 rfl; have y3 := hq.cell 3 rfl; have g0 := hq.frozen 0; have g1 := hq.frozen 1; have g2 := hq.frozen 2; have g3 := hq.frozen 3; clear hq; have hle6 : w3.heap.size ≤ w4.heap.size := Nat.le_trans (by simp) hb4.size; have HS6 := Lib.hid (aus_r (B := w3.heap.size) (b := w3.heap.size) (HA3.out.below (show Below w3.heap.size w3 w4 from Below.trans (by repeat (first | exact Below.refl _ w3 | refine Below.drew ?_ | refine Below.alloc ?_ (Nat.le_refl _) _)) (hb4.mono (by simp))) (Nat.le_refl _)) (Nat.le_refl _) hle6))
         try (have hq : Row w4 w3.heap.size 33 [.slice A n c, .int .i64 s, .slice M m d, .slice E k g] := Row.below (by first | with_reducible exact Row.new w3 [.slice A n c, .int .i64 s, .slice M m d, .slice E k g] 33 | with_reducible exact row_drew (Row.new w3 [.slice A n c, .int .i64 s, .slice M m d, .slice E k g] 33) | with_reducible exact Row.new w3.drew [.slice A n c, .int .i64 s, .slice M m d, .slice E k g] 33) hb4 (by simp); have HQ7 := Lib.hid hq; clear hq)
         try (have hq : Row w4 w1.heap.size 33 [.slice A n c, .int .i64 s, .slice M m d, .slice E k g] := Row.below (by first | with_reducible exact row_set4 HQ3.out _ _ _ _ | with_reducible exact row_drew (row_set4 HQ3.out _ _ _ _)) hb4 (by have := HQ3.out.lt; simpa using this); have HQ7 := Lib.hid hq; clear hq)
         try (have hq : Row w4 w2.heap.size 33 [.slice A n c, .int .i64 s, .slice M m d, .slice E k g] := Row.below (by first | with_reducible exact row_set4 HQ4.out _ _ _ _ | with_reducible exact row_drew (row_set4 HQ4.out _ _ _ _)) hb4 (by have := HQ4.out.lt; simpa using this); have HQ7 := Lib.hid hq; clear hq)
         clear hb4 hev8 ho8)
      )
    all_goals
      go_wp2_with fail
      go_meet
      case rel => first | exact fin_row HL9.out HQ7.out HEV.out HOK.out HA4.out HE8.out HO8.out | exact fin_new HL9.out HEV.out HOK.out HA4.out HE8.out HO8.out | exact fin_put HL1.out HL9.out HQ5.out (Nat.le_refl _) HEV.out HOK.out HS5.out HE8.out HO8.out | exact fin_put HL8.out HL9.out HQ5.out (Nat.le_refl _) HEV.out HOK.out HS5.out HE8.out HO8.out | exact fin_put HL7.out HL9.out HQ6.out (Nat.le_refl _) HEV.out HOK.out HS6.out HE8.out HO8.out
  case rest =>
    obtain ⟨bc, al, a, A, n, c, s, M, m, d, E, k, g, on, A8, n8, c8, rfl, rfl, HL4, HEV, HOK, HAU, HEV8, HRD8, hn8, hc8⟩ := hcut
    have HB0 := Lib.hid HL4.out.bel
    have HOB := Lib.hid (HL4.out.ints HSR.out)
    have HR8 := HRD8
    have HL5 := Lib.hid (show LW wc ((bc, [.slice A n c, .int .i64 s, .slice M m d, .slice E k g]) :: [(W.heap.size + 1, [gv 0, gv 1, gv 2, gv 3, gv 4, gv 5, gv 6, gv 7, gv 8, gv 9, gv 10, gv 11, gv 12, gv 13, gv 14, gv 15, gv 16, gv 17, gv 18, gv 19, gv 20, gv 21, gv 22, gv 23, gv 24, gv 25, gv 26]), (W.heap.size, [.int .u8 x0, .int .u8 x1])]) wc from ⟨Below.refl _ _, HL4.out.bx⟩)
    have HC := Lib.hid HOK.out.r.chk
    have HRI := Lib.hid HOK.out.r.toRightW
    have HST := Lib.hid HAU.out.st
    have hbn := HAU.out.bn
    have hs0 : 0 ≤ a.st := HRI.out.st0
    have hs5 : a.st ≤ 5 := HOK.out.st
    have h85 := Ev5.len (n := 5) HEV8.out
    have HN8 := Lib.hid hn8
    have HC8 := Lib.hid hc8
    have hn85 : n8 ≤ 5 := by rw [← hn8]; exact h85
    have HCW := Lib.hid (cwe_ok HC.out HEV8.out.cs)
    clear hn8 hc8 h85
    clear hgs
    clear HRD8
    obtain ⟨kp, hkp⟩ : ∃ kp, kpR a on = kp := ⟨_, rfl⟩
    have HKP := Lib.hid hkp
    have hkl : kp.length ≤ 100 := by rw [← hkp]; have h1 : (kpR a on).length ≤ a.al.length := List.length_filter_le _ _; have h2 := al_len HRI.out; omega
    clear hkp
    have p0_0 := HL5.out.bx.at 0 rfl 0 rfl
    have p0_1 := HL5.out.bx.at 0 rfl 1 rfl
    have p0_2 := HL5.out.bx.at 0 rfl 2 rfl
    have p0_3 := HL5.out.bx.at 0 rfl 3 rfl
    by_cases hall : ob.all (fun x => decide (x ∈ kpR a on)) = true
    · have HES := Lib.hid (est_ok HCW.out hall)
      have HALL := Lib.hid (show ∀ x ∈ ob, x ∈ kp from fun x hx => by have h := List.all_eq_true.1 hall x hx; rw [HKP.out] at h; simpa using h)
      clear hall
      obtain ⟨es, hes⟩ : ∃ es, esR a on ob = es := ⟨_, rfl⟩
      have HE := Lib.hid hes
      have hel : es.length ≤ 5 := by rw [← hes]; have := esR_len a on ob; omega
      clear hes
      go_wp2_with fail
      refine (k_jest (L := es) HES.out (by rw [if_pos rfl]; exact HE.out) HAU.out HOB.out HON.out (by omega) HR8.out HN8.out HC8.out (by omega) HL5.out).mono ?_
      rintro e w6 ⟨A1, n1, c1, rfl, hg1, hl⟩
      clear p0_0 p0_1 p0_2 p0_3
      have HL6 := Lib.hid hl.lw
      have HAU := Lib.hid (hl.aut HAU.out)
      have HR8 := Lib.hid (hl.ints HR8.out)
      have HOB := Lib.hid (hl.ints HOB.out)
      have HN1 := Lib.hid hg1.len
      have HCp1 := Lib.hid hg1.cap
      have HR1 := Lib.hid hg1.rd
      clear hg1
      have hn15 : n1 ≤ 5 := by rw [← HN1.out]; exact hel
      clear hl
      have p0_0 := HL6.out.bx.at 0 rfl 0 rfl
      have p0_1 := HL6.out.bx.at 0 rfl 1 rfl
      have p0_2 := HL6.out.bx.at 0 rfl 2 rfl
      have p0_3 := HL6.out.bx.at 0 rfl 3 rfl
      go_wp2_with fail
      refine (k_rkept HKP.out HAU.out HR8.out HN8.out (by omega) HL6.out).mono ?_
      rintro e w7 ⟨A2, n2, c2, rfl, hg2, hl⟩
      clear p0_0 p0_1 p0_2 p0_3
      have HL7 := Lib.hid hl.lw
      have HAU := Lib.hid (hl.aut HAU.out)
      have HR8 := Lib.hid (hl.ints HR8.out)
      have HOB := Lib.hid (hl.ints HOB.out)
      have HR1 := Lib.hid (hl.ints HR1.out)
      have HN2 := Lib.hid hg2.len
      have HCp2 := Lib.hid hg2.cap
      have HR2 := Lib.hid hg2.rd
      clear hg2
      have hn25 : n2 ≤ 100 := by rw [← HN2.out]; exact hkl
      clear hl
      have p0_0 := HL7.out.bx.at 0 rfl 0 rfl
      have p0_1 := HL7.out.bx.at 0 rfl 1 rfl
      have p0_2 := HL7.out.bx.at 0 rfl 2 rfl
      have p0_3 := HL7.out.bx.at 0 rfl 3 rfl
      have HHS := Lib.hid (fun x : Int => lHas_any A2 n2 c2 w7.heap.size kp x w7 HR2.out HN2.out (by omega))
      go_wp2_with fail
      go_loopw [12] (fun i wr => ∃ t : Nat, t ≤ no ∧ i = .int .i64 t ∧ Hid (∀ x ∈ ob.take t, x ∈ kp) ∧ w7 = wr) (fun i _ => no - (intOf i).toNat)
      case atStart => exact ⟨0, Nat.zero_le _, rfl, Lib.hid (by simp), rfl⟩
      case round =>
        obtain ⟨t, ht, rfl, hin, hwr⟩ := hrel
        subst hwr
        by_cases hlt : t < no
        · obtain ⟨bo, oo, rfl, hbo, hco⟩ := HOB.out (by rw [HON.out]; omega)
          have hz : t < ob.length := by rw [HON.out]; exact hlt
          have hc1 := hco t hz
          obtain ⟨x, hxe⟩ : ∃ x, x = ob.getD t 0 := ⟨_, rfl⟩
          rw [← hxe] at hc1
          have HMX := Lib.hid (show x ∈ ob by rw [hxe]; exact getD_mem hz)
          have hin2 : x ∈ kp → ∀ y ∈ ob.take (t + 1), y ∈ kp := fun h y hy => by
            rw [mem_snoc_take hz] at hy
            rcases hy with hy | hy
            · exact hin.out y hy
            · rw [← hy, ← hxe]; exact h
          have HIN2 := Lib.hid hin2
          have HC1 := Lib.hid (HHS.out x)
          have z0 : (t : Int) < (no : Int) := by omega
          have z1 : (0 : Int) ≤ (t : Int) := by omega
          clear hco hz hxe hin2
          by_cases hxk : x ∈ kp
          · have HNX := Lib.hid (HIN2.out hxk)
            rw [decide_eq_true hxk] at HC1
            clear hxk
            go_wp2_with fail
            refine HC1.out.mono ?_
            rintro e w' ⟨rfl, rfl⟩
            go_wp2_with fail
            go_roundw
            case rel => exact ⟨t + 1, by omega, by go_num, HNX, trivial⟩
            case measure => simp [intOf]; omega
          · exact absurd (HALL.out x HMX.out) hxk
        · have hto : ob.take t = ob := List.take_of_length_le (by rw [HON.out]; omega)
          rw [hto] at hin
          have z0 : (no : Int) ≤ (t : Int) := by omega
          clear hto hin hlt HHS
          go_wp2_with fail
          refine (k_rest HE.out HRI.out (by omega) HAU.out HOB.out HON.out (by omega) HR8.out HN8.out (by omega) HL7.out).mono ?_
          rintro e w8 ⟨A3, n3, c3, rfl, hn3, hr3, hl⟩
          clear p0_0 p0_1 p0_2 p0_3
          have HL8 := Lib.hid hl.lw
          have HAU := Lib.hid (hl.aut HAU.out)
          have HR8 := Lib.hid (hl.ints HR8.out)
          have HOB := Lib.hid (hl.ints HOB.out)
          have HR1 := Lib.hid (hl.ints HR1.out)
          have HN3 := Lib.hid hn3
          have HR3 := Lib.hid hr3
          have hn35 : n3 ≤ 5 := by rw [← hn3]; exact hel
          clear hn3 hr3
          clear hl
          have p0_0 := HL8.out.bx.at 0 rfl 0 rfl
          have p0_1 := HL8.out.bx.at 0 rfl 1 rfl
          have p0_2 := HL8.out.bx.at 0 rfl 2 rfl
          have p0_3 := HL8.out.bx.at 0 rfl 3 rfl
          go_wp2_with fail
          refine (k_same (decide_eq_true rfl) HR1.out HR3.out HN1.out HN3.out (by omega) (by omega) HL8.out).mono ?_
          rintro e w9 ⟨rfl, hl⟩
          clear p0_0 p0_1 p0_2 p0_3
          have HL9 := Lib.hid hl.lw
          have HAU := Lib.hid (hl.aut HAU.out)
          have HR8 := Lib.hid (hl.ints HR8.out)
          have HOB := Lib.hid (hl.ints HOB.out)
          have HR1 := Lib.hid (hl.ints HR1.out)
          have HR3 := Lib.hid (hl.ints HR3.out)
          clear hl
          have p0_0 := HL9.out.bx.at 0 rfl 0 rfl
          have p0_1 := HL9.out.bx.at 0 rfl 1 rfl
          have p0_2 := HL9.out.bx.at 0 rfl 2 rfl
          have p0_3 := HL9.out.bx.at 0 rfl 3 rfl
          have HES0 := Lib.hid (est_ok (ob := []) HCW.out (by simp))
          have HE0 := Lib.hid (show esR a on [] = esR a on (ob.take 0) from rfl)
          go_wp2_with fail
          refine (k_jest (ob := []) (n2 := 0) (c2 := 0) (L := esR a on (ob.take 0)) HES0.out (by rw [if_pos rfl]; exact HE0.out) HAU.out (RdI.nil _ _ none) rfl (by omega) HR8.out HN8.out HC8.out (by omega) HL9.out).mono ?_
          rintro e w10 ⟨A4, n4, c4, rfl, hg4, hl⟩
          clear p0_0 p0_1 p0_2 p0_3
          have HL10 := Lib.hid hl.lw
          have HAU := Lib.hid (hl.aut HAU.out)
          have HR8 := Lib.hid (hl.ints HR8.out)
          have HOB := Lib.hid (hl.ints HOB.out)
          have HR1 := Lib.hid (hl.ints HR1.out)
          have HR3 := Lib.hid (hl.ints HR3.out)
          have HN4 := Lib.hid hg4.len
          have HCp4 := Lib.hid hg4.cap
          have HR4 := Lib.hid hg4.rd
          clear hg4
          clear hl
          have p0_0 := HL10.out.bx.at 0 rfl 0 rfl
          have p0_1 := HL10.out.bx.at 0 rfl 1 rfl
          have p0_2 := HL10.out.bx.at 0 rfl 2 rfl
          have p0_3 := HL10.out.bx.at 0 rfl 3 rfl
          have HKW := Lib.hid (show KW wc ((bc, [.slice A n c, .int .i64 s, .slice M m d, .slice E k g]) :: [(W.heap.size + 1, [gv 0, gv 1, gv 2, gv 3, gv 4, gv 5, gv 6, gv 7, gv 8, gv 9, gv 10, gv 11, gv 12, gv 13, gv 14, gv 15, gv 16, gv 17, gv 18, gv 19, gv 20, gv 21, gv 22, gv 23, gv 24, gv 25, gv 26]), (W.heap.size, [.int .u8 x0, .int .u8 x1])]) w10 w10 from ⟨HL10.out, Below.refl _ _⟩)
          go_wp2_with fail
          go_loopw [13, 14, 15] (fun v v14 i wr => ∃ (t : Nat) (A' : Option Addr) (n' c' : Nat), t ≤ no ∧ v = .slice A' n' c' ∧ v14 = .int .i64 0 ∧ i = .int .i64 t ∧ (esR a on (ob.take t)).length = n' ∧ (n' ≤ c' ∧ c' ≤ 9223372036854775807) ∧ Hid (RdI wr wr.heap.size A' (esR a on (ob.take t))) ∧ Hid (KW wc ((bc, [.slice A n c, .int .i64 s, .slice M m d, .slice E k g]) :: [(W.heap.size + 1, [gv 0, gv 1, gv 2, gv 3, gv 4, gv 5, gv 6, gv 7, gv 8, gv 9, gv 10, gv 11, gv 12, gv 13, gv 14, gv 15, gv 16, gv 17, gv 18, gv 19, gv 20, gv 21, gv 22, gv 23, gv 24, gv 25, gv 26]), (W.heap.size, [.int .u8 x0, .int .u8 x1])]) w10 wr)) (fun _ _ i _ => no - (intOf i).toNat)
          case atStart => exact ⟨0, A4, n4, c4, Nat.zero_le _, rfl, rfl, rfl, HN4.out, HCp4.out, HR4, HKW⟩
          case round =>
            clear HKW
            clear p0_0 p0_1 p0_2 p0_3
            obtain ⟨t, A5, n5, c5, ht, rfl, rfl, rfl, hn5, hc5, hr5, hkw⟩ := hrel
            have HAU := Lib.hid (hkw.out.aut HAU.out)
            have HR8 := Lib.hid (hkw.out.ints HR8.out)
            have HOB := Lib.hid (hkw.out.ints HOB.out)
            have HR1 := Lib.hid (hkw.out.ints HR1.out)
            have p0_0 := hkw.out.lw.bx.at 0 rfl 0 rfl
            have p0_1 := hkw.out.lw.bx.at 0 rfl 1 rfl
            have p0_2 := hkw.out.lw.bx.at 0 rfl 2 rfl
            have p0_3 := hkw.out.lw.bx.at 0 rfl 3 rfl
            have hl5 := esR_len a on (ob.take t)
            have hn55 : n5 ≤ 5 := by omega
            have HN5 := Lib.hid hn5
            have HC5 := Lib.hid hc5
            clear hn5 hl5 hc5
            by_cases hlt : t < no
            · obtain ⟨bo, oo, rfl, hbo, hco⟩ := HOB.out (by rw [HON.out]; omega)
              have hz : t < ob.length := by rw [HON.out]; exact hlt
              have hc1 := hco t hz
              obtain ⟨x, hxe⟩ : ∃ x, x = ob.getD t 0 := ⟨_, rfl⟩
              rw [← hxe] at hc1
              have HMX := Lib.hid (show x ∈ kpR a on by rw [HKP.out]; exact HALL.out x (by rw [hxe]; exact getD_mem hz))
              have HEN := Lib.hid (show esR a on (ob.take (t + 1)) = nxR a on (esR a on (ob.take t)) x from es_next7 (by rw [hxe, List.getD_eq_getElem?_getD, List.getElem?_eq_getElem hz]; rfl))
              have HNE := Lib.hid (next_es (ob := ob.take t) HCW.out hs0 (by omega) HMX.out)
              have HBO := Lib.hid hbo
              have z0 : (t : Int) < (no : Int) := by omega
              have z1 : (0 : Int) ≤ (t : Int) := by omega
              have HQ0 := Lib.hid (show KW wc ((bc, [.slice A n c, .int .i64 s, .slice M m d, .slice E k g]) :: [(W.heap.size + 1, [gv 0, gv 1, gv 2, gv 3, gv 4, gv 5, gv 6, gv 7, gv 8, gv 9, gv 10, gv 11, gv 12, gv 13, gv 14, gv 15, gv 16, gv 17, gv 18, gv 19, gv 20, gv 21, gv 22, gv 23, gv 24, gv 25, gv 26]), (W.heap.size, [.int .u8 x0, .int .u8 x1])]) wr wr from ⟨hkw.out.lw, Below.refl _ _⟩)
              have HQ0d := Lib.hid (show KW wc ((bc, [.slice A n c, .int .i64 s, .slice M m d, .slice E k g]) :: [(W.heap.size + 1, [gv 0, gv 1, gv 2, gv 3, gv 4, gv 5, gv 6, gv 7, gv 8, gv 9, gv 10, gv 11, gv 12, gv 13, gv 14, gv 15, gv 16, gv 17, gv 18, gv 19, gv 20, gv 21, gv 22, gv 23, gv 24, gv 25, gv 26]), (W.heap.size, [.int .u8 x0, .int .u8 x1])]) wr wr.drew from ⟨hkw.out.lw.drew, (Below.refl _ _).drew⟩)
              have HNX := Lib.hid (fun W' (hW : KW wc ((bc, [.slice A n c, .int .i64 s, .slice M m d, .slice E k g]) :: [(W.heap.size + 1, [gv 0, gv 1, gv 2, gv 3, gv 4, gv 5, gv 6, gv 7, gv 8, gv 9, gv 10, gv 11, gv 12, gv 13, gv 14, gv 15, gv 16, gv 17, gv 18, gv 19, gv 20, gv 21, gv 22, gv 23, gv 24, gv 25, gv 26]), (W.heap.size, [.int .u8 x0, .int .u8 x1])]) wr W') => k_jnext (L := esR a on (ob.take (t + 1))) HNE.out (by rw [if_pos rfl, HEN.out]) (hW.aut HAU.out) (hW.ints hr5.out) HN5.out HC5.out (by omega) (hW.ints HR8.out) HN8.out HC8.out (by omega) hW.lw)
              clear hco hz hxe
              go_wp2_with fail
              go_region_held3 (fun w' => w'.cell? ⟨bc, 0, none⟩ = some (.slice A n c) ∧ w'.cell? ⟨bc, 1, none⟩ = some (.int .i64 s) ∧ w'.cell? ⟨bc, 2, none⟩ = some (.slice M m d) ∧ w'.cell? ⟨bc, 3, none⟩ = some (.slice E k g) ∧ w'.cell? ⟨bo, oo + t, none⟩ = some (.int .i64 x)) (first | with_reducible exact ⟨p0_0, p0_1, p0_2, p0_3, hc1⟩ | go_keep)
                (first
                | (go_simp; go_at_call 23; (first | with_reducible refine (HNX.out _ HQ0.out).mono ?_ | with_reducible refine (HNX.out _ HQ0d.out).mono ?_); rintro e wq ⟨A6, n6, c6, rfl, hg6, hk6⟩
                   have HQ1 := Lib.hid (show KW wc ((bc, [.slice A n c, .int .i64 s, .slice M m d, .slice E k g]) :: [(W.heap.size + 1, [gv 0, gv 1, gv 2, gv 3, gv 4, gv 5, gv 6, gv 7, gv 8, gv 9, gv 10, gv 11, gv 12, gv 13, gv 14, gv 15, gv 16, gv 17, gv 18, gv 19, gv 20, gv 21, gv 22, gv 23, gv 24, gv 25, gv 26]), (W.heap.size, [.int .u8 x0, .int .u8 x1])]) wr wq from ⟨hk6.lw, by first | exact HQ0.out.bel.trans (hk6.bel.mono HQ0.out.bel.size) | exact HQ0d.out.bel.trans (hk6.bel.mono HQ0d.out.bel.size)⟩)
                   have HR6 := Lib.hid hg6.rd
                   have HN6 := Lib.hid hg6.len
                   have HC6 := Lib.hid hg6.cap
                   have p0_0 := HQ1.out.lw.bx.at 0 rfl 0 rfl
                   have p0_1 := HQ1.out.lw.bx.at 0 rfl 1 rfl
                   have p0_2 := HQ1.out.lw.bx.at 0 rfl 2 rfl
                   have p0_3 := HQ1.out.lw.bx.at 0 rfl 3 rfl
                   have hc1 := (HQ1.out.bel.cell (p := ⟨bo, oo + t, none⟩) HBO.out).trans hc1
                   clear hg6 hk6))
              all_goals
                go_wp2_with fail
                go_roundw
                case rel => exact ⟨t + 1, A6, n6, c6, by omega, rfl, rfl, by go_num, HN6.out, HC6.out, HR6, Lib.hid ⟨HQ1.out.lw, hkw.out.bel.trans (HQ1.out.bel.mono hkw.out.bel.size)⟩⟩
                case measure => simp [intOf]; omega
            · have hto : ob.take t = ob := List.take_of_length_le (by rw [HON.out]; omega)
              rw [hto, HE.out] at hr5 HN5
              have z0 : (no : Int) ≤ (t : Int) := by omega
              go_wp2_with fail
              refine (k_same (decide_eq_true rfl) hr5.out HR1.out HN5.out HN1.out (by omega) (by omega) hkw.out.lw).mono ?_
              rintro e w9 ⟨rfl, hl⟩
              have HL9 := Lib.hid hl.lw
              clear hl
              go_wp2_with fail
              go_ret
              exact ⟨rfl, HB0.out.trans (HL9.out.bel.mono HB0.out.size)⟩
    · have HES := Lib.hid (est_un HCW.out hall)
      have HALL := Lib.hid (show ¬ ob.all (fun x => decide (x ∈ kpR a on)) = true from hall)
      clear hall
      go_wp2_with fail
      refine (k_jest (L := []) HES.out (by rw [if_neg (by omega)]) HAU.out HOB.out HON.out (by omega) HR8.out HN8.out HC8.out (by omega) HL5.out).mono ?_
      rintro e w6 ⟨A1, n1, c1, rfl, hg1, hl⟩
      clear p0_0 p0_1 p0_2 p0_3
      have HL6 := Lib.hid hl.lw
      have HAU := Lib.hid (hl.aut HAU.out)
      have HR8 := Lib.hid (hl.ints HR8.out)
      have HOB := Lib.hid (hl.ints HOB.out)
      obtain rfl : n1 = 0 := hg1.len.symm
      clear hg1
      clear hl
      have p0_0 := HL6.out.bx.at 0 rfl 0 rfl
      have p0_1 := HL6.out.bx.at 0 rfl 1 rfl
      have p0_2 := HL6.out.bx.at 0 rfl 2 rfl
      have p0_3 := HL6.out.bx.at 0 rfl 3 rfl
      go_wp2_with fail
      refine (k_rkept HKP.out HAU.out HR8.out HN8.out (by omega) HL6.out).mono ?_
      rintro e w7 ⟨A2, n2, c2, rfl, hg2, hl⟩
      clear p0_0 p0_1 p0_2 p0_3
      have HL7 := Lib.hid hl.lw
      have HAU := Lib.hid (hl.aut HAU.out)
      have HR8 := Lib.hid (hl.ints HR8.out)
      have HOB := Lib.hid (hl.ints HOB.out)
      have HN2 := Lib.hid hg2.len
      have HCp2 := Lib.hid hg2.cap
      have HR2 := Lib.hid hg2.rd
      clear hg2
      have hn25 : n2 ≤ 100 := by rw [← HN2.out]; exact hkl
      clear hl
      have p0_0 := HL7.out.bx.at 0 rfl 0 rfl
      have p0_1 := HL7.out.bx.at 0 rfl 1 rfl
      have p0_2 := HL7.out.bx.at 0 rfl 2 rfl
      have p0_3 := HL7.out.bx.at 0 rfl 3 rfl
      have HHS := Lib.hid (fun x : Int => lHas_any A2 n2 c2 w7.heap.size kp x w7 HR2.out HN2.out (by omega))
      go_wp2_with fail
      go_loopw [12] (fun i wr => ∃ t : Nat, t ≤ no ∧ i = .int .i64 t ∧ Hid (∀ x ∈ ob.take t, x ∈ kp) ∧ w7 = wr) (fun i _ => no - (intOf i).toNat)
      case atStart => exact ⟨0, Nat.zero_le _, rfl, Lib.hid (by simp), rfl⟩
      case round =>
        obtain ⟨t, ht, rfl, hin, hwr⟩ := hrel
        subst hwr
        by_cases hlt : t < no
        · obtain ⟨bo, oo, rfl, hbo, hco⟩ := HOB.out (by rw [HON.out]; omega)
          have hz : t < ob.length := by rw [HON.out]; exact hlt
          have hc1 := hco t hz
          obtain ⟨x, hxe⟩ : ∃ x, x = ob.getD t 0 := ⟨_, rfl⟩
          rw [← hxe] at hc1
          have HMX := Lib.hid (show x ∈ ob by rw [hxe]; exact getD_mem hz)
          have hin2 : x ∈ kp → ∀ y ∈ ob.take (t + 1), y ∈ kp := fun h y hy => by
            rw [mem_snoc_take hz] at hy
            rcases hy with hy | hy
            · exact hin.out y hy
            · rw [← hy, ← hxe]; exact h
          have HIN2 := Lib.hid hin2
          have HC1 := Lib.hid (HHS.out x)
          have z0 : (t : Int) < (no : Int) := by omega
          have z1 : (0 : Int) ≤ (t : Int) := by omega
          clear hco hz hxe hin2
          by_cases hxk : x ∈ kp
          · have HNX := Lib.hid (HIN2.out hxk)
            rw [decide_eq_true hxk] at HC1
            clear hxk
            go_wp2_with fail
            refine HC1.out.mono ?_
            rintro e w' ⟨rfl, rfl⟩
            go_wp2_with fail
            go_roundw
            case rel => exact ⟨t + 1, by omega, by go_num, HNX, trivial⟩
            case measure => simp [intOf]; omega
          · rw [decide_eq_false hxk] at HC1
            clear hxk
            go_wp2_with fail
            refine HC1.out.mono ?_
            rintro e w' ⟨rfl, rfl⟩
            go_wp2_with fail
            go_ret
            exact ⟨rfl, HB0.out.trans (HL7.out.bel.mono HB0.out.size)⟩
        · have hto : ob.take t = ob := List.take_of_length_le (by rw [HON.out]; omega)
          rw [hto] at hin
          exact absurd (by rw [List.all_eq_true]; intro x hx; rw [HKP.out]; exact decide_eq_true (hin.out x hx)) HALL.out
end Go.Proofs.YtmghngehpgolgaaGreat
