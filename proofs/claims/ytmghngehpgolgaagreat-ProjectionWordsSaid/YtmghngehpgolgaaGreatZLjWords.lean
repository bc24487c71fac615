/- The law ProjectionWords, walked. -/
import Derived.Test.YtmghngehpgolgaaGreatZa16
import Derived.Test.YtmghngehpgolgaaGreatZa17
import Derived.Test.YtmghngehpgolgaaGreatZa15
import Derived.Test.YtmghngehpgolgaaGreatZqWd
set_option linter.unusedVariables false
set_option linter.unusedSimpArgs false
set_option linter.unusedSectionVars false
namespace Go.Proofs.YtmghngehpgolgaaGreat
open Go.RowKit Go.Sort
attribute [local go_sem ↓] exec_load_graph'
attribute [local go_sem] blkOf_ptr

section
theorem KW.gv2 {W w w' : World} {l : List (Nat × List Value)} {V : Option Addr} {nV cV : Nat} {hs : List Hd} {zs : List (List Int)} (h : KW W l w w') (hv : GV7 w V nV cV hs zs) : GV7 w' V nV cV hs zs :=
  ⟨(hv.rd.below h.bel (Nat.le_refl _)).more h.bel.size, hv.len, hv.z, hv.cap⟩
variable {W w : World} {l : List (Nat × List Value)} {A2 : Option Addr} {n2 c2 : Nat} {A : Option Addr} {n c : Nat} {on ws : List Int}
theorem k_robs {L : List Int} (hL : (ws.filter fun x => decide (x ∈ on)) = L) (hx : RdI w w.heap.size A2 on) (hn : on.length = n2) (hb : n2 ≤ 100000) (hw : RdI w w.heap.size A ws) (hwn : ws.length = n) (hbn : n ≤ 100000) (h : LW W l w) : Calls Tryz.prog 34 #[.slice A2 n2 c2, .slice A n c] w fun e w' => ∃ A n c, e = .returned (.slice A n c) ∧ GL7 w w' A n c L ∧ KW W l w w' := by
  subst hL
  refine (r7Observe_any A2 n2 c2 on A n c ws w hx hn hb hw hwn hbn).mono ?_
  rintro e w' ⟨v, he, ho, hb⟩
  obtain ⟨A, n, c, rfl, h1⟩ := gl7_of ho
  exact ⟨A, n, c, he, h1, KW.of h hb⟩
end
set_option maxHeartbeats 8000000 in
set_option maxRecDepth 100000 in
theorem lawPjWords (x0 x1 : Int) (gv : Nat → Value) (W : World) (S0 : (Lit.int .u8 x0).wf = true) (S1 : (Lit.int .u8 x1).wf = true) (SG : GrC #[gv 0, gv 1, gv 2, gv 3, gv 4, gv 5, gv 6, gv 7, gv 8, gv 9, gv 10, gv 11, gv 12, gv 13, gv 14, gv 15, gv 16, gv 17, gv 18, gv 19, gv 20, gv 21, gv 22, gv 23, gv 24, gv 25, gv 26]) :
    Calls Tryz.prog 9 #[.agg #[.int .u8 x0, .int .u8 x1], .agg #[gv 0, gv 1, gv 2, gv 3, gv 4, gv 5, gv 6, gv 7, gv 8, gv 9, gv 10, gv 11, gv 12, gv 13, gv 14, gv 15, gv 16, gv 17, gv 18, gv 19, gv 20, gv 21, gv 22, gv 23, gv 24, gv 25, gv 26]] W fun e W' => e = .returned (.bool true) ∧ Below W.heap.size W W' := by
  have HL0 := Lib.hid (by
    have h := (LW.first W [.int .u8 x0, .int .u8 x1] 45).new [gv 0, gv 1, gv 2, gv 3, gv 4, gv 5, gv 6, gv 7, gv 8, gv 9, gv 10, gv 11, gv 12, gv 13, gv 14, gv 15, gv 16, gv 17, gv 18, gv 19, gv 20, gv 21, gv 22, gv 23, gv 24, gv 25, gv 26] 26
    rw [World.size_alloc] at h; exact h)
  have HK := Lib.hid known7_any
  have HS0 := Lib.hid S0
  have HS1 := Lib.hid S1
  have HSG := Lib.hid SG
  clear S0 S1 SG
  go_enter Tryz.func9, Tryz.ntmps9
  go_wp2_with fail
  refine (lw_call (HK.out _) HL0.out).mono ?_
  rintro e w1 ⟨rfl, hl⟩
  have HL1 := Lib.hid hl
  clear hl
  have hgs := gs2_of HL1.out 0 1 (gv := gv) (x0 := x0) (x1 := x1) rfl rfl
  go_wp2_with fail
  go_cut [5, 6] from 26 to 33 (fun v7 v8 wx => PreR2 W [(W.heap.size + 1, [gv 0, gv 1, gv 2, gv 3, gv 4, gv 5, gv 6, gv 7, gv 8, gv 9, gv 10, gv 11, gv 12, gv 13, gv 14, gv 15, gv 16, gv 17, gv 18, gv 19, gv 20, gv 21, gv 22, gv 23, gv 24, gv 25, gv 26]), (W.heap.size, [.int .u8 x0, .int .u8 x1])] v7 v8 wx)
  case first =>
    have HL9 := Lib.hid HL1.out
    go_region_held3 (fun w' => GridOk w' (W.heap.size + 1) ∧ (∀ i : Nat, i < 27 → w'.cell? ⟨W.heap.size + 1, i, none⟩ = some (gv i)) ∧ w'.cell? ⟨W.heap.size, 0, none⟩ = some (.int .u8 x0) ∧ w'.cell? ⟨W.heap.size, 1, none⟩ = some (.int .u8 x1)) (exact gs2_of (W := W) (l := [(W.heap.size + 1, [gv 0, gv 1, gv 2, gv 3, gv 4, gv 5, gv 6, gv 7, gv 8, gv 9, gv 10, gv 11, gv 12, gv 13, gv 14, gv 15, gv 16, gv 17, gv 18, gv 19, gv 20, gv 21, gv 22, gv 23, gv 24, gv 25, gv 26]), (W.heap.size, [.int .u8 x0, .int .u8 x1])]) (by repeat (first | with_reducible exact HL9.out | refine LW.drew ?_ | refine LW.alloc ?_ _ | with_reducible exact (LW.put' HL1.out HL9.out HQ3.out (Nat.le_refl _) _ _ _ _).tail | with_reducible exact (LW.put' HL8.out HL9.out HQ4.out (Nat.le_refl _) _ _ _ _).tail | with_reducible exact (LW.put' HL1.out HL9.out HQ5.out (Nat.le_refl _) _ _ _ _).tail | with_reducible exact (LW.put' HL8.out HL9.out HQ5.out (Nat.le_refl _) _ _ _ _).tail | with_reducible exact (LW.put' HL7.out HL9.out HQ6.out (Nat.le_refl _) _ _ _ _).tail)) 0 1 rfl rfl)
      (first
      | (go_simp; go_at_call 13; (with_reducible refine (events_any x0 _ HS0.out).mono ?_); rintro e w2 ⟨al, hev, A0, c0, rfl, hrd, hb2, hc0, hc02⟩
         have HL8 := Lib.hid (show LW W [(W.heap.size + 1, [gv 0, gv 1, gv 2, gv 3, gv 4, gv 5, gv 6, gv 7, gv 8, gv 9, gv 10, gv 11, gv 12, gv 13, gv 14, gv 15, gv 16, gv 17, gv 18, gv 19, gv 20, gv 21, gv 22, gv 23, gv 24, gv 25, gv 26]), (W.heap.size, [.int .u8 x0, .int .u8 x1])] w2 from LW.call (by repeat (first | with_reducible exact HL9.out | refine LW.drew ?_ | refine LW.alloc ?_ _)) hb2)
         have HL9 := HL8
         have HEV := Lib.hid hev
         have HRD := Lib.hid hrd
         try (have hq : Row w2 w1.heap.size 33 [.slice none 0 0, .int .i64 0, .slice none 0 0, .slice none 0 0] := Row.below (by first | with_reducible exact Row.new w1 [.slice none 0 0, .int .i64 0, .slice none 0 0, .slice none 0 0] 33 | with_reducible exact row_drew (Row.new w1 [.slice none 0 0, .int .i64 0, .slice none 0 0, .slice none 0 0] 33) | with_reducible exact Row.new w1.drew [.slice none 0 0, .int .i64 0, .slice none 0 0, .slice none 0 0] 33) hb2 (by simp); have HQ2 := Lib.hid hq; have y0 := hq.cell 0 rfl; have y1 := hq.cell 1 rfl; have y2 := hq.cell 2 rfl; have y3 := hq.cell 3 rfl; have g0 := hq.frozen 0; have g1 := hq.frozen 1; have g2 := hq.frozen 2; have g3 := hq.frozen 3; clear hq)
         clear hb2 hev hrd hc02)
      | (go_simp; go_at_call 12; refine (make_any A0 al.length c0 w2.heap.size al #[gv 0, gv 1, gv 2, gv 3, gv 4, gv 5, gv 6, gv 7, gv 8, gv 9, gv 10, gv 11, gv 12, gv 13, gv 14, gv 15, gv 16, gv 17, gv 18, gv 19, gv 20, gv 21, gv 22, gv 23, gv 24, gv 25, gv 26] _ (by first | with_reducible exact HRD.out | exact HRD.out.below ((Below.refl _ w2).alloc (Nat.le_refl _) _) (Nat.le_refl _)) (by simp) rfl hc0 HEV.out HSG.out).mono ?_; rintro e w3 ⟨a, v3, hok, rfl, ⟨A, n, c, s, M, m, d, E, k, g, rfl, hau, hfr⟩, hb3⟩
         have HL7 := Lib.hid (show LW W [(W.heap.size + 1, [gv 0, gv 1, gv 2, gv 3, gv 4, gv 5, gv 6, gv 7, gv 8, gv 9, gv 10, gv 11, gv 12, gv 13, gv 14, gv 15, gv 16, gv 17, gv 18, gv 19, gv 20, gv 21, gv 22, gv 23, gv 24, gv 25, gv 26]), (W.heap.size, [.int .u8 x0, .int .u8 x1])] w3 from LW.call (by repeat (first | with_reducible exact HL9.out | refine LW.drew ?_ | refine LW.alloc ?_ _)) hb3)
         have HL9 := HL7
         have HOK := Lib.hid hok
         have HAF := Lib.hid (show AuF a (.agg #[.slice A n c, .int .i64 s, .slice M m d, .slice E k g]) w3 _ from ⟨A, n, c, s, M, m, d, E, k, g, rfl, hau, hfr⟩)
         have HA3 := Lib.hid hau
         try (have hq := Row.below (show Row _ w1.heap.size 33 [.slice none 0 0, .int .i64 0, .slice none 0 0, .slice none 0 0] from by first | with_reducible exact HQ2.out | with_reducible exact row_drew HQ2.out) hb3 (by have := HQ2.out.lt; simpa using this); have HQ3 := Lib.hid hq; have HQL := Lib.hid (Nat.lt_of_lt_of_le HQ2.out.lt (Nat.le_refl _)); have HAS3 := Lib.hid (show AuS w3 w1.heap.size a A n c s M m d E k g from aus_f HAF.out (by have := HQL.out; simpa using this)); have y0 := hq.cell 0 rfl; have y1 := hq.cell 1 rfl; have y2 := hq.cell 2 rfl; have y3 := hq.cell 3 rfl; have g0 := hq.frozen 0; have g1 := hq.frozen 1; have g2 := hq.frozen 2; have g3 := hq.frozen 3; clear hq)
         try (have hq : Row w3 w2.heap.size 33 [.slice none 0 0, .int .i64 0, .slice none 0 0, .slice none 0 0] := Row.below (by first | with_reducible exact Row.new w2 [.slice none 0 0, .int .i64 0, .slice none 0 0, .slice none 0 0] 33 | with_reducible exact row_drew (Row.new w2 [.slice none 0 0, .int .i64 0, .slice none 0 0, .slice none 0 0] 33) | with_reducible exact Row.new w2.drew [.slice none 0 0, .int .i64 0, .slice none 0 0, .slice none 0 0] 33) hb3 (by simp); have HQ4 := Lib.hid hq; have HAS3 := Lib.hid (show AuS w3 w2.heap.size a A n c s M m d E k g from aus_f HAF.out (by simp)); have y0 := hq.cell 0 rfl; have y1 := hq.cell 1 rfl; have y2 := hq.cell 2 rfl; have y3 := hq.cell 3 rfl; have g0 := hq.frozen 0; have g1 := hq.frozen 1; have g2 := hq.frozen 2; have g3 := hq.frozen 3; clear hq)
         clear hb3 hok hau hfr)
      | (go_simp; go_at_call 13; (with_reducible refine (events_own x1 _ HS1.out).mono ?_); rintro e w4 ⟨on, A8, c8, hev8, rfl, ho8, hb4⟩
         have HL6 := Lib.hid (show LW W [(W.heap.size + 1, [gv 0, gv 1, gv 2, gv 3, gv 4, gv 5, gv 6, gv 7, gv 8, gv 9, gv 10, gv 11, gv 12, gv 13, gv 14, gv 15, gv 16, gv 17, gv 18, gv 19, gv 20, gv 21, gv 22, gv 23, gv 24, gv 25, gv 26]), (W.heap.size, [.int .u8 x0, .int .u8 x1])] w4 from LW.call (by repeat (first | with_reducible exact HL9.out | refine LW.drew ?_ | refine LW.alloc ?_ _ | with_reducible exact (LW.put' HL1.out HL9.out HQ3.out (Nat.le_refl _) _ _ _ _).tail | with_reducible exact (LW.put' HL8.out HL9.out HQ4.out (Nat.le_refl _) _ _ _ _).tail)) hb4)
         have HL9 := HL6
         have HE8 := Lib.hid hev8
         have HO8 := Lib.hid ho8
         have HA4 := Lib.hid (show AuR w4 w4.heap.size A n c s M m d E k g a from ((show AuR _ _ A n c s M m d E k g a from by first | with_reducible exact HA3.out | exact (by have := HAS3.out (.slice A n c) (.int .i64 s) (.slice M m d) (.slice E k g); simpa using this) | exact (HA3.out.below ((Below.refl _ w3).alloc (Nat.le_refl _) _) (Nat.le_refl _)).more (by simp)).below hb4 (Nat.le_refl _)).more hb4.size)
         try (have hq := Row.below (show Row _ w1.heap.size 33 [.slice none 0 0, .int .i64 0, .slice none 0 0, .slice none 0 0] from by first | with_reducible exact HQ3.out | with_reducible exact row_drew HQ3.out) hb4 (by have := HQ3.out.lt; simpa using this); have HQ5 := Lib.hid hq; have y0 := hq.cell 0 rfl; have y1 := hq.cell 1 rfl; have y2 := hq.cell 2 rfl; have y3 := hq.cell 3 rfl; have g0 := hq.frozen 0; have g1 := hq.frozen 1; have g2 := hq.frozen 2; have g3 := hq.frozen 3; clear hq; have HS5 := Lib.hid (show AuS w4 w1.heap.size a A n c s M m d E k g from aus_f (HAF.out.below (show Below w3.heap.size w3 w4 from by first | with_reducible exact hb4 | exact (Below.refl _ w3).drew.trans hb4)) (by have := HQL.out; simpa using this)))
         try (have hq := Row.below (show Row _ w2.heap.size 33 [.slice none 0 0, .int .i64 0, .slice none 0 0, .slice none 0 0] from by first | with_reducible exact HQ4.out | with_reducible exact row_drew HQ4.out) hb4 (by have := HQ4.out.lt; simpa using this); have HQ5 := Lib.hid hq; have y0 := hq.cell 0 rfl; have y1 := hq.cell 1 rfl; have y2 := hq.cell 2 rfl; have y3 := hq.cell 3 rfl; have g0 := hq.frozen 0; have g1 := hq.frozen 1; have g2 := hq.frozen 2; have g3 := hq.frozen 3; clear hq; have HS5 := Lib.hid (show AuS w4 w2.heap.size a A n c s M m d E k g from aus_f (HAF.out.below (show Below w3.heap.size w3 w4 from by first | with_reducible exact hb4 | exact (Below.refl _ w3).drew.trans hb4)) (by simp)))
         try (have hq : Row w4 w3.heap.size 33 [.slice none 0 0, .int .i64 0, .slice none 0 0, .slice none 0 0] := Row.below (by first | with_reducible exact Row.new w3 [.slice none 0 0, .int .i64 0, .slice none 0 0, .slice none 0 0] 33 | with_reducible exact row_drew (Row.new w3 [.slice none 0 0, .int .i64 0, .slice none 0 0, .slice none 0 0] 33) | with_reducible exact Row.new w3.drew [.slice none 0 0, .int .i64 0, .slice none 0 0, .slice none 0 0] 33) hb4 (by simp); have HQ6 := Lib.hid hq; have y0 := hq.cell 0 rfl; have y1 := hq.cell 1 rfl; have y2 := hq.cell 2 rfl; have y3 := hq.cell 3 rfl; have g0 := hq.frozen 0; have g1 := hq.frozen 1; have g2 := hq.frozen 2; have g3 := hq.frozen 3; clear hq; have hle6 : w3.heap.size ≤ w4.heap.size := Nat.le_trans (by simp) hb4.size; have HS6 := Lib.hid (aus_r (B := w3.heap.size) (b := w3.heap.size) (HA3.out.below (show Below w3.heap.size w3 w4 from Below.trans (by repeat (first | exact Below.refl _ w3 | refine Below.drew ?_ | refine Below.alloc ?_ (Nat.le_refl _) _)) (hb4.mono (by simp))) (Nat.le_refl _)) (Nat.le_refl _) hle6))
         try (have hq : Row w4 w3.heap.size 33 [.slice A n c, .int .i64 s, .slice M m d, .slice E k g] := Row.below (by first | with_reducible exact Row.new w3 [.slice A n c, .int .i64 s, .slice M m d, .slice E k g] 33 | with_reducible exact row_drew (Row.new w3 [.slice A n c, .int .i64 s, .slice M m d, .slice E k g] 33) | with_reducible exact Row.new w3.drew [.slice A n c, .int .i64 s, .slice M m d, .slice E k g] 33) hb4 (by simp); have HQ7 := Lib.hid hq; clear hq)
         try (have hq : Row w4 w1.heap.size 33 [.slice A n c, .int .i64 s, .slice M m d, .slice E k g] := Row.below (by first | with_reducible exact row_set4 HQ3.out _ _ _ _ | with_reducible exact row_drew (row_set4 HQ3.out _ _ _ _)) hb4 (by have := HQ3.out.lt; simpa using this); have HQ7 := Lib.hid hq; clear hq)
         try (have hq : Row w4 w2.heap.size 33 [.slice A n c, .int .i64 s, .slice M m d, .slice E k g] := Row.below (by first | with_reducible exact row_set4 HQ4.out _ _ _ _ | with_reducible exact row_drew (row_set4 HQ4.out _ _ _ _)) hb4 (by have := HQ4.out.lt; simpa using this); have HQ7 := Lib.hid hq; clear hq)
         clear hb4 hev8 ho8)
      )
    all_goals
      go_wp2_with fail
      go_meet
      case rel => first | exact fin_row HL9.out HQ7.out HEV.out HOK.out HA4.out HE8.out HO8.out | exact fin_new HL9.out HEV.out HOK.out HA4.out HE8.out HO8.out | exact fin_put HL1.out HL9.out HQ5.out (Nat.le_refl _) HEV.out HOK.out HS5.out HE8.out HO8.out | exact fin_put HL8.out HL9.out HQ5.out (Nat.le_refl _) HEV.out HOK.out HS5.out HE8.out HO8.out | exact fin_put HL7.out HL9.out HQ6.out (Nat.le_refl _) HEV.out HOK.out HS6.out HE8.out HO8.out
  case rest =>
    obtain ⟨bc, al, a, A, n, c, s, M, m, d, E, k, g, on, A8, n8, c8, rfl, rfl, HL4, HEV, HOK, HAU, HEV8, HRD8, hn8, hc8⟩ := hcut
    rename World => wb
    have HB0 := Lib.hid HL4.out.bel
    have HR8 := HRD8
    have HL5 := Lib.hid (show LW wb ((bc, [.slice A n c, .int .i64 s, .slice M m d, .slice E k g]) :: [(W.heap.size + 1, [gv 0, gv 1, gv 2, gv 3, gv 4, gv 5, gv 6, gv 7, gv 8, gv 9, gv 10, gv 11, gv 12, gv 13, gv 14, gv 15, gv 16, gv 17, gv 18, gv 19, gv 20, gv 21, gv 22, gv 23, gv 24, gv 25, gv 26]), (W.heap.size, [.int .u8 x0, .int .u8 x1])]) wb from ⟨Below.refl _ _, HL4.out.bx⟩)
    have HC := Lib.hid HOK.out.r.chk
    have HRI := Lib.hid HOK.out.r.toRightW
    have HST := Lib.hid HAU.out.st
    have hbn := HAU.out.bn
    have hs0 : 0 ≤ a.st := HRI.out.st0
    have hs5 : a.st ≤ 5 := HOK.out.st
    have h85 := Ev5.len (n := 5) HEV8.out
    have HN8 := Lib.hid hn8
    have HC8 := Lib.hid hc8
    have hn85 : n8 ≤ 5 := by rw [← hn8]; exact h85
    have HCW := Lib.hid (cwe_ok HC.out HEV8.out.cs)
    have hfw := det_few HRI.out hs5 on
    have HF4 := Lib.hid (show (fnd (detA a on)).length ≤ 4096 by omega)
    have h5a := Lib.hid (show a.al.length ≤ 5 by have h1 := Ev5.len (n := 5) HEV.out; rw [← HOK.out.al] at h1; exact h1)
    obtain ⟨Rw, hRw, hRl⟩ := genO_some HRI.out h5a.out (m := 3) (by omega)
    have HRW3 := Lib.hid hRw
    have HSHT := Lib.hid (show ∀ p ∈ Rw, p.1.length ≤ 100000 from fun p hp => Nat.le_trans (genO_short hRw p hp) (by omega))
    have HLD := Lib.hid (leads_genO HRI.out hRw)
    have HWX := Lib.hid (show wordsR a 3 false = (Rw.map Prod.fst, 0) by have h := wordsR_in (mk := false) HC.out (by omega) hRw; rw [sel_all] at h; exact h)
    clear hn8 hc8 h85 hRw hRl
    clear hgs
    clear HRD8
    obtain ⟨b, hbA⟩ : ∃ b, canA (detA a on) = b := ⟨_, rfl⟩
    have HBA := Lib.hid hbA
    obtain ⟨el, hel⟩ : ∃ el, (fnd (detA a on)).map (deR a on) = el := ⟨_, rfl⟩
    have HEL := Lib.hid hel
    have hell : el.length ≤ 32 := by rw [← hel, List.length_map]; exact hfw
    have HBS := Lib.hid (show b.st = (el.length : Int) by rw [← hbA, ← hel, List.length_map]; rfl)
    have HWD := Lib.hid (fun (ws : List Int) (t : Int) (h0 : a.st ≠ 0) (hr : runE a 0 ws = (t, ws.length)) => wd_est (on := on) HRI.out h0 HF4.out hr)
    rw [hbA, hel] at HWD
    have HBC := Lib.hid (show chkE b = 0 by
      rw [← hbA]
      exact Right.chk { can_right (det_right HRI.out on) with st1 := by show ((fnd (detA a on)).length : Int) ≤ 4096; omega })
    clear hbA hel
    have p0_0 := HL5.out.bx.at 0 rfl 0 rfl
    have p0_1 := HL5.out.bx.at 0 rfl 1 rfl
    have p0_2 := HL5.out.bx.at 0 rfl 2 rfl
    have p0_3 := HL5.out.bx.at 0 rfl 3 rfl
    go_wp2_with fail
    refine (k_jproj HCW.out HF4.out HEL.out HBA.out HAU.out HR8.out HN8.out HC8.out (by omega) HL5.out).mono ?_
    rintro e w6 ⟨A1, n1, c1, s1, M1, m1, d1, E1, k1, g1, V, nV, cV, hs, rfl, hau1, hgv, hl⟩
    clear p0_0 p0_1 p0_2 p0_3
    have HL6 := Lib.hid hl.lw
    have HAU := Lib.hid (hl.aut HAU.out)
    have HR8 := Lib.hid (hl.ints HR8.out)
    clear hl
    have p0_0 := HL6.out.bx.at 0 rfl 0 rfl
    have p0_1 := HL6.out.bx.at 0 rfl 1 rfl
    have p0_2 := HL6.out.bx.at 0 rfl 2 rfl
    have p0_3 := HL6.out.bx.at 0 rfl 3 rfl
    have HPU := Lib.hid hau1
    have HGV := Lib.hid hgv
    have HPS := Lib.hid (show s1 = (nV : Int) by rw [← hau1.st, HBS.out, ← hgv.len, ← hgv.z, List.length_map])
    have hnV : nV ≤ 32 := by rw [← hgv.len]; have h1 := congrArg List.length hgv.z; rw [List.length_map] at h1; omega
    clear hau1 hgv
    have hps := HPS.out
    clear HPS
    subst hps
    have hb7 := Below.alloc (Below.refl w6.heap.size w6) (Nat.le_refl _) (.cells #[.slice A1 n1 c1, .int .i64 (nV : Int), .slice M1 m1 d1, .slice E1 k1 g1] 33)
    have HGV := Lib.hid (show GV7 (w6.alloc (.cells #[.slice A1 n1 c1, .int .i64 (nV : Int), .slice M1 m1 d1, .slice E1 k1 g1] 33)) V nV cV hs el from ⟨(HGV.out.rd.below hb7 (Nat.le_refl _)).more hb7.size, HGV.out.len, HGV.out.z, HGV.out.cap⟩)
    clear hb7
    have HKa := Below.alloc (Below.refl w6.heap.size w6) (Nat.le_refl _) (.cells #[.slice A1 n1 c1, .int .i64 (nV : Int), .slice M1 m1 d1, .slice E1 k1 g1] 33)
    have HL6n := Lib.hid (HL6.out.new [.slice A1 n1 c1, .int .i64 (nV : Int), .slice M1 m1 d1, .slice E1 k1 g1] 33)
    have HAU := Lib.hid ((HAU.out.below HKa (Nat.le_refl _)).more HKa.size)
    have HR8 := Lib.hid ((HR8.out.below HKa (Nat.le_refl _)).more HKa.size)
    have HPU := Lib.hid ((HPU.out.below HKa (Nat.le_refl _)).more HKa.size)
    clear HKa
    clear p0_0 p0_1 p0_2 p0_3
    have p0_0 := HL6n.out.bx.at 0 rfl 0 rfl
    have p0_1 := HL6n.out.bx.at 0 rfl 1 rfl
    have p0_2 := HL6n.out.bx.at 0 rfl 2 rfl
    have p0_3 := HL6n.out.bx.at 0 rfl 3 rfl
    have p1_0 := HL6n.out.bx.at 1 rfl 0 rfl
    have p1_1 := HL6n.out.bx.at 1 rfl 1 rfl
    have p1_2 := HL6n.out.bx.at 1 rfl 2 rfl
    have p1_3 := HL6n.out.bx.at 1 rfl 3 rfl
    go_wp2_with fail
    refine (k_words HWX.out HAU.out HL6n.out).mono ?_
    rintro e w7 ⟨A2, n2, c2, gs, rfl, hn2, hz2, hr2, hn2b, hl⟩
    clear p0_0 p0_1 p0_2 p0_3 p1_0 p1_1 p1_2 p1_3
    have HL7 := Lib.hid hl.lw
    have HAU := Lib.hid (hl.aut HAU.out)
    have HR8 := Lib.hid (hl.ints HR8.out)
    have HPU := Lib.hid (hl.aut HPU.out)
    have HGV := Lib.hid (hl.gv2 HGV.out)
    have HN2 := Lib.hid hn2
    have HZ2 := Lib.hid hz2
    have HW2 := Lib.hid hr2
    clear hn2 hz2 hr2
    clear hl
    have p0_0 := HL7.out.bx.at 0 rfl 0 rfl
    have p0_1 := HL7.out.bx.at 0 rfl 1 rfl
    have p0_2 := HL7.out.bx.at 0 rfl 2 rfl
    have p0_3 := HL7.out.bx.at 0 rfl 3 rfl
    have p1_0 := HL7.out.bx.at 1 rfl 0 rfl
    have p1_1 := HL7.out.bx.at 1 rfl 1 rfl
    have p1_2 := HL7.out.bx.at 1 rfl 2 rfl
    have p1_3 := HL7.out.bx.at 1 rfl 3 rfl
    have HKW := Lib.hid (show KW wb ((w6.heap.size, [.slice A1 n1 c1, .int .i64 (nV : Int), .slice M1 m1 d1, .slice E1 k1 g1]) :: ((bc, [.slice A n c, .int .i64 s, .slice M m d, .slice E k g]) :: [(W.heap.size + 1, [gv 0, gv 1, gv 2, gv 3, gv 4, gv 5, gv 6, gv 7, gv 8, gv 9, gv 10, gv 11, gv 12, gv 13, gv 14, gv 15, gv 16, gv 17, gv 18, gv 19, gv 20, gv 21, gv 22, gv 23, gv 24, gv 25, gv 26]), (W.heap.size, [.int .u8 x0, .int .u8 x1])])) w7 w7 from ⟨HL7.out, Below.refl _ _⟩)
    go_wp2_with fail
    go_loopw [12] (fun i wr => ∃ t : Nat, t ≤ n2 ∧ i = .int .i64 t ∧ Hid (KW wb ((w6.heap.size, [.slice A1 n1 c1, .int .i64 (nV : Int), .slice M1 m1 d1, .slice E1 k1 g1]) :: ((bc, [.slice A n c, .int .i64 s, .slice M m d, .slice E k g]) :: [(W.heap.size + 1, [gv 0, gv 1, gv 2, gv 3, gv 4, gv 5, gv 6, gv 7, gv 8, gv 9, gv 10, gv 11, gv 12, gv 13, gv 14, gv 15, gv 16, gv 17, gv 18, gv 19, gv 20, gv 21, gv 22, gv 23, gv 24, gv 25, gv 26]), (W.heap.size, [.int .u8 x0, .int .u8 x1])])) w7 wr)) (fun i _ => n2 - (intOf i).toNat)
    case atStart => exact ⟨0, Nat.zero_le _, rfl, HKW⟩
    case round =>
      clear HKW
      clear p0_0 p0_1 p0_2 p0_3 p1_0 p1_1 p1_2 p1_3
      obtain ⟨i, ht, rfl, hkw⟩ := hrel
      have HAU := Lib.hid (hkw.out.aut HAU.out)
      have HPU := Lib.hid (hkw.out.aut HPU.out)
      have HR8 := Lib.hid (hkw.out.ints HR8.out)
      have HGV := Lib.hid (hkw.out.gv2 HGV.out)
      have HW2 := Lib.hid (hkw.out.wds HW2.out)
      by_cases hlt : i < n2
      · obtain ⟨xw, hx⟩ : ∃ xw, gs[i]? = some xw := ⟨_, List.getElem?_eq_getElem (by rw [HN2.out]; exact hlt)⟩
        obtain ⟨b2, o2, rfl, hb2, hc2⟩ := HW2.out (by rw [HN2.out]; omega)
        obtain ⟨hcx, hrx, hx1, hx2⟩ := hc2 i xw hx
        have hsh := shW_of HZ2.out HSHT.out xw (List.mem_of_getElem? hx)
        have hmem : xw.z ∈ Rw.map Prod.fst := by rw [← HZ2.out]; exact List.mem_map.2 ⟨xw, List.mem_of_getElem? hx, rfl⟩
        obtain ⟨⟨wz, t⟩, hp, hpe⟩ := List.mem_map.1 hmem
        have hrun := HLD.out (wz, t) hp
        have hne0 : a.st ≠ 0 := fun h0 => by
          have h1 := HRW3.out
          rw [genO, if_pos h0] at h1
          injection h1 with h1
          rw [← h1] at hp; cases hp
        obtain ⟨Ax, cx, zx⟩ := xw
        simp only [Hd.enc] at hcx hx1 hx2 hsh hpe
        simp only at hrun hpe
        subst hpe
        obtain ⟨j, s', q1, q2, q3, q4⟩ := HWD.out wz t hne0 hrun
        have HRA := Lib.hid (show runR a 0 wz = (t, ((wz.length : Nat) : Int), 0) by
          rw [runR_in HC.out (by simp [inSt]; omega) (by unfold inB; rw [List.all_eq_true]; intro x hx; exact decide_eq_true (rO_al HRI.out wz 0 t (rO_of hrun) x hx)), hrun])
        obtain ⟨lx, hlx⟩ : ∃ lx, lx = wz.length := ⟨_, rfl⟩
        have HLX := Lib.hid hlx.symm
        obtain ⟨ob, hob⟩ : ∃ ob, (wz.filter fun x => decide (x ∈ on)) = ob := ⟨_, rfl⟩
        have HOBS := Lib.hid hob
        rw [hob] at q1 q4
        have hobl : ob.length ≤ 100000 := by rw [← hob]; exact Nat.le_trans (List.length_filter_le _ _) hsh
        have HQ1 := Lib.hid q1
        obtain ⟨ac, hac⟩ : ∃ ac, accB a wz = ac := ⟨_, rfl⟩
        obtain ⟨bcc, hbc⟩ : ∃ bcc, accB b ob = bcc := ⟨_, rfl⟩
        have HAC := Lib.hid hac
        have HBCC := Lib.hid hbc
        rw [hac, hbc] at q4
        have HQ4 := Lib.hid q4
        have HT := Lib.hid (show decide (t ∈ s') = true from decide_eq_true q3)
        rw [← hlx] at hcx hx1 hsh HRA
        obtain ⟨ho, hho, hhz⟩ : ∃ ho, hs[j]? = some ho ∧ ho.z = s' := by
          have h1 : (hs.map Hd.z)[j]? = some s' := by rw [HGV.out.z]; exact q2
          rw [List.getElem?_map] at h1
          obtain ⟨ho, h2, h3⟩ := Option.map_eq_some_iff.1 h1
          exact ⟨ho, h2, h3⟩
        have hjV : j < nV := by rw [← HGV.out.len]; exact (List.getElem?_eq_some_iff.1 hho).1
        have HHO := Lib.hid hho
        have HSL := Lib.hid (show s'.length ≤ 100000 by
          have h1 : s' ∈ el := List.mem_of_getElem? q2
          rw [← HEL.out] at h1
          obtain ⟨y, _, hy⟩ := List.mem_map.1 h1
          have h2 : SubOk a.st.toNat s' := by rw [← hy]; exact st_ok _ _ _
          have h3 := nodup_len (S := a.st.toNat) (lt_nodup h2.1) h2.2
          omega)
        have HRX := Lib.hid hrx
        have HB2 := Lib.hid hb2
        have CX := Lib.hid (fun (W' : World) (hW : Below wr.heap.size wr W') => show W'.cell? ⟨b2, o2 + i, none⟩ = some (.slice Ax lx cx) from (hW.cell (p := ⟨b2, o2 + i, none⟩) hb2).trans hcx)
        have z0 : (i : Int) < (n2 : Int) := by omega
        have z1 : (0 : Int) ≤ (i : Int) := by omega
        have HQW := Lib.hid (show KW wb ((w6.heap.size, [.slice A1 n1 c1, .int .i64 (nV : Int), .slice M1 m1 d1, .slice E1 k1 g1]) :: ((bc, [.slice A n c, .int .i64 s, .slice M m d, .slice E k g]) :: [(W.heap.size + 1, [gv 0, gv 1, gv 2, gv 3, gv 4, gv 5, gv 6, gv 7, gv 8, gv 9, gv 10, gv 11, gv 12, gv 13, gv 14, gv 15, gv 16, gv 17, gv 18, gv 19, gv 20, gv 21, gv 22, gv 23, gv 24, gv 25, gv 26]), (W.heap.size, [.int .u8 x0, .int .u8 x1])])) wr wr from ⟨hkw.out.lw, Below.refl _ _⟩)
        clear hc2 hx hmem hp hrun hlx hob q1 q2 q3 q4 hac hbc hrx hho hx1 hx2 hlt
        have p1_0 := HQW.out.lw.bx.at 0 rfl 0 rfl
        have p1_1 := HQW.out.lw.bx.at 0 rfl 1 rfl
        have p1_2 := HQW.out.lw.bx.at 0 rfl 2 rfl
        have p1_3 := HQW.out.lw.bx.at 0 rfl 3 rfl
        have cx0 := hcx
        go_wp2_with fail
        refine (k_robs HOBS.out HR8.out HN8.out (by omega) HRX.out HLX.out hsh HQW.out.lw).mono ?_
        rintro e v1 ⟨A3, n3, c3, rfl, hg3, hl⟩
        have HQ1w := Lib.hid (show KW wb ((w6.heap.size, [.slice A1 n1 c1, .int .i64 (nV : Int), .slice M1 m1 d1, .slice E1 k1 g1]) :: ((bc, [.slice A n c, .int .i64 s, .slice M m d, .slice E k g]) :: [(W.heap.size + 1, [gv 0, gv 1, gv 2, gv 3, gv 4, gv 5, gv 6, gv 7, gv 8, gv 9, gv 10, gv 11, gv 12, gv 13, gv 14, gv 15, gv 16, gv 17, gv 18, gv 19, gv 20, gv 21, gv 22, gv 23, gv 24, gv 25, gv 26]), (W.heap.size, [.int .u8 x0, .int .u8 x1])])) wr v1 from ⟨hl.lw, hl.bel⟩)
        have HN3 := Lib.hid hg3.len
        have HR3 := Lib.hid hg3.rd
        have hn35 : n3 ≤ 100000 := by rw [← HN3.out]; exact hobl
        clear hl hg3 p1_0 p1_1 p1_2 p1_3 cx0
        have p1_0 := HQ1w.out.lw.bx.at 0 rfl 0 rfl
        have p1_1 := HQ1w.out.lw.bx.at 0 rfl 1 rfl
        have p1_2 := HQ1w.out.lw.bx.at 0 rfl 2 rfl
        have p1_3 := HQ1w.out.lw.bx.at 0 rfl 3 rfl
        have HQ1n := Lib.hid (show runR b 0 ob = ((j : Int), ((n3 : Nat) : Int), 0) by rw [HQ1.out, HN3.out])
        go_wp2_with fail
        refine (k_run HQ1n.out (HQ1w.out.aut HPU.out) HR3.out HN3.out hn35 HQ1w.out.lw).mono ?_
        rintro e v2 ⟨rfl, hl⟩
        have HQ2w := Lib.hid (show KW wb ((w6.heap.size, [.slice A1 n1 c1, .int .i64 (nV : Int), .slice M1 m1 d1, .slice E1 k1 g1]) :: ((bc, [.slice A n c, .int .i64 s, .slice M m d, .slice E k g]) :: [(W.heap.size + 1, [gv 0, gv 1, gv 2, gv 3, gv 4, gv 5, gv 6, gv 7, gv 8, gv 9, gv 10, gv 11, gv 12, gv 13, gv 14, gv 15, gv 16, gv 17, gv 18, gv 19, gv 20, gv 21, gv 22, gv 23, gv 24, gv 25, gv 26]), (W.heap.size, [.int .u8 x0, .int .u8 x1])])) wr v2 from ⟨hl.lw, HQ1w.out.bel.trans (hl.bel.mono HQ1w.out.bel.size)⟩)
        have HR3 := Lib.hid (hl.ints HR3.out)
        clear hl p1_0 p1_1 p1_2 p1_3
        have HA2 := Lib.hid (HQ2w.out.aut HAU.out)
        have HRX2 := Lib.hid ((HRX.out.below HQ2w.out.bel (Nat.le_refl _)).more HQ2w.out.bel.size)
        have p0_0 := HQ2w.out.lw.bx.at 1 rfl 0 rfl
        have p0_1 := HQ2w.out.lw.bx.at 1 rfl 1 rfl
        have p0_2 := HQ2w.out.lw.bx.at 1 rfl 2 rfl
        have p0_3 := HQ2w.out.lw.bx.at 1 rfl 3 rfl
        have cx0 := CX.out _ HQ2w.out.bel
        have HB2v := Lib.hid (show b2 < v2.heap.size from Nat.lt_of_lt_of_le HB2.out HQ2w.out.bel.size)
        have HV0 := Lib.hid (show KW wb ((w6.heap.size, [.slice A1 n1 c1, .int .i64 (nV : Int), .slice M1 m1 d1, .slice E1 k1 g1]) :: ((bc, [.slice A n c, .int .i64 s, .slice M m d, .slice E k g]) :: [(W.heap.size + 1, [gv 0, gv 1, gv 2, gv 3, gv 4, gv 5, gv 6, gv 7, gv 8, gv 9, gv 10, gv 11, gv 12, gv 13, gv 14, gv 15, gv 16, gv 17, gv 18, gv 19, gv 20, gv 21, gv 22, gv 23, gv 24, gv 25, gv 26]), (W.heap.size, [.int .u8 x0, .int .u8 x1])])) v2 v2 from ⟨HQ2w.out.lw, Below.refl _ _⟩)
        have HV0d := Lib.hid (show KW wb ((w6.heap.size, [.slice A1 n1 c1, .int .i64 (nV : Int), .slice M1 m1 d1, .slice E1 k1 g1]) :: ((bc, [.slice A n c, .int .i64 s, .slice M m d, .slice E k g]) :: [(W.heap.size + 1, [gv 0, gv 1, gv 2, gv 3, gv 4, gv 5, gv 6, gv 7, gv 8, gv 9, gv 10, gv 11, gv 12, gv 13, gv 14, gv 15, gv 16, gv 17, gv 18, gv 19, gv 20, gv 21, gv 22, gv 23, gv 24, gv 25, gv 26]), (W.heap.size, [.int .u8 x0, .int .u8 x1])])) v2 v2.drew from ⟨HQ2w.out.lw.drew, (Below.refl _ _).drew⟩)
        have HRU := Lib.hid (fun W' (hW : KW wb ((w6.heap.size, [.slice A1 n1 c1, .int .i64 (nV : Int), .slice M1 m1 d1, .slice E1 k1 g1]) :: ((bc, [.slice A n c, .int .i64 s, .slice M m d, .slice E k g]) :: [(W.heap.size + 1, [gv 0, gv 1, gv 2, gv 3, gv 4, gv 5, gv 6, gv 7, gv 8, gv 9, gv 10, gv 11, gv 12, gv 13, gv 14, gv 15, gv 16, gv 17, gv 18, gv 19, gv 20, gv 21, gv 22, gv 23, gv 24, gv 25, gv 26]), (W.heap.size, [.int .u8 x0, .int .u8 x1])])) v2 W') => k_run (c1 := cx) HRA.out (hW.aut HA2.out) (hW.ints HRX2.out) HLX.out hsh hW.lw)
        go_wp2_with fail
        go_cut [17, 18, 19] from 78 to 87 (fun v17 v18 v19 wx => v17 = .int .i64 t ∧ v18 = .int .i64 (lx : Nat) ∧ v19 = .int .i64 0 ∧ Hid (KW wb ((w6.heap.size, [.slice A1 n1 c1, .int .i64 (nV : Int), .slice M1 m1 d1, .slice E1 k1 g1]) :: ((bc, [.slice A n c, .int .i64 s, .slice M m d, .slice E k g]) :: [(W.heap.size + 1, [gv 0, gv 1, gv 2, gv 3, gv 4, gv 5, gv 6, gv 7, gv 8, gv 9, gv 10, gv 11, gv 12, gv 13, gv 14, gv 15, gv 16, gv 17, gv 18, gv 19, gv 20, gv 21, gv 22, gv 23, gv 24, gv 25, gv 26]), (W.heap.size, [.int .u8 x0, .int .u8 x1])])) v2 wx))
        case first =>
          go_region_held3 (fun w' => w'.cell? ⟨bc, 0, none⟩ = some (.slice A n c) ∧ w'.cell? ⟨bc, 1, none⟩ = some (.int .i64 s) ∧ w'.cell? ⟨bc, 2, none⟩ = some (.slice M m d) ∧ w'.cell? ⟨bc, 3, none⟩ = some (.slice E k g) ∧ w'.cell? ⟨b2, o2 + i, none⟩ = some (.slice Ax lx cx)) (first | with_reducible exact ⟨p0_0, p0_1, p0_2, p0_3, cx0⟩ | go_keep)
            (first
            | (go_simp; go_at_call 37; (first | with_reducible refine (HRU.out _ HV0.out).mono ?_ | with_reducible refine (HRU.out _ HV0d.out).mono ?_); rintro e wq ⟨rfl, hk6⟩
               have HV1 := Lib.hid (show KW wb ((w6.heap.size, [.slice A1 n1 c1, .int .i64 (nV : Int), .slice M1 m1 d1, .slice E1 k1 g1]) :: ((bc, [.slice A n c, .int .i64 s, .slice M m d, .slice E k g]) :: [(W.heap.size + 1, [gv 0, gv 1, gv 2, gv 3, gv 4, gv 5, gv 6, gv 7, gv 8, gv 9, gv 10, gv 11, gv 12, gv 13, gv 14, gv 15, gv 16, gv 17, gv 18, gv 19, gv 20, gv 21, gv 22, gv 23, gv 24, gv 25, gv 26]), (W.heap.size, [.int .u8 x0, .int .u8 x1])])) v2 wq from ⟨hk6.lw, by first | exact HV0.out.bel.trans (hk6.bel.mono HV0.out.bel.size) | exact HV0d.out.bel.trans (hk6.bel.mono HV0d.out.bel.size)⟩)
               have p0_0 := HV1.out.lw.bx.at 1 rfl 0 rfl
               have p0_1 := HV1.out.lw.bx.at 1 rfl 1 rfl
               have p0_2 := HV1.out.lw.bx.at 1 rfl 2 rfl
               have p0_3 := HV1.out.lw.bx.at 1 rfl 3 rfl
               have cx0 := (HV1.out.bel.cell (p := ⟨b2, o2 + i, none⟩) HB2v.out).trans cx0
               clear hk6))
          all_goals
            go_wp2_with fail
            go_meet
            case rel => exact ⟨rfl, rfl, rfl, HV1⟩
        case rest =>
          obtain ⟨rfl, rfl, rfl, hl'⟩ := hcut
          clear HRU HV0 HV0d p0_0 p0_1 p0_2 p0_3 cx0 HB2v HRX2 HA2
          have HQ3w := Lib.hid (show KW wb ((w6.heap.size, [.slice A1 n1 c1, .int .i64 (nV : Int), .slice M1 m1 d1, .slice E1 k1 g1]) :: ((bc, [.slice A n c, .int .i64 s, .slice M m d, .slice E k g]) :: [(W.heap.size + 1, [gv 0, gv 1, gv 2, gv 3, gv 4, gv 5, gv 6, gv 7, gv 8, gv 9, gv 10, gv 11, gv 12, gv 13, gv 14, gv 15, gv 16, gv 17, gv 18, gv 19, gv 20, gv 21, gv 22, gv 23, gv 24, gv 25, gv 26]), (W.heap.size, [.int .u8 x0, .int .u8 x1])])) wr _ from ⟨hl'.out.lw, HQ2w.out.bel.trans (hl'.out.bel.mono HQ2w.out.bel.size)⟩)
          have HR3 := Lib.hid (hl'.out.ints HR3.out)
          clear hl'
          obtain ⟨bv, ov, rfl, hbv, hcv⟩ := HGV.out.rd (by have := (List.getElem?_eq_some_iff.1 HHO.out).1; omega)
          obtain ⟨hch, hrh, hh1, hh2⟩ := hcv j ho HHO.out
          obtain ⟨Ah, ch, zh⟩ := ho
          simp only [Hd.enc] at hch hrh hhz
          subst hhz
          obtain ⟨lh, hlh⟩ : ∃ lh, zh.length = lh := ⟨_, rfl⟩
          rw [hlh] at hch
          have HLH := Lib.hid hlh
          have hlh5 : lh ≤ 100000 := by rw [← hlh]; exact HSL.out
          have cv0 := (HQ3w.out.bel.cell (p := ⟨bv, ov + j, none⟩) hbv).trans hch
          have HRH := Lib.hid (HQ3w.out.ints hrh)
          have z2 : (j : Int) < (nV : Int) := by omega
          have z3 : (0 : Int) ≤ (j : Int) := by omega
          have z4 : ((n3 : Int) != (n3 : Int)) = false := by simp
          have z6 : decide (nV ≤ j) = false := decide_eq_false (by omega)
          clear hcv hch hrh hh1 hh2 hlh
          go_wp2_with fail
          refine (k_has HT.out HRH.out HLH.out hlh5 HQ3w.out.lw).mono ?_
          rintro e v4 ⟨rfl, hl⟩
          have HQ4w := Lib.hid (show KW wb ((w6.heap.size, [.slice A1 n1 c1, .int .i64 (nV : Int), .slice M1 m1 d1, .slice E1 k1 g1]) :: ((bc, [.slice A n c, .int .i64 s, .slice M m d, .slice E k g]) :: [(W.heap.size + 1, [gv 0, gv 1, gv 2, gv 3, gv 4, gv 5, gv 6, gv 7, gv 8, gv 9, gv 10, gv 11, gv 12, gv 13, gv 14, gv 15, gv 16, gv 17, gv 18, gv 19, gv 20, gv 21, gv 22, gv 23, gv 24, gv 25, gv 26]), (W.heap.size, [.int .u8 x0, .int .u8 x1])])) wr v4 from ⟨hl.lw, HQ3w.out.bel.trans (hl.bel.mono HQ3w.out.bel.size)⟩)
          have HR3 := Lib.hid (hl.ints HR3.out)
          clear hl cv0 HRH
          have HA2 := Lib.hid (HQ4w.out.aut HAU.out)
          have HRX2 := Lib.hid ((HRX.out.below HQ4w.out.bel (Nat.le_refl _)).more HQ4w.out.bel.size)
          have p0_0 := HQ4w.out.lw.bx.at 1 rfl 0 rfl
          have p0_1 := HQ4w.out.lw.bx.at 1 rfl 1 rfl
          have p0_2 := HQ4w.out.lw.bx.at 1 rfl 2 rfl
          have p0_3 := HQ4w.out.lw.bx.at 1 rfl 3 rfl
          have cx0 := CX.out _ HQ4w.out.bel
          have HB2v := Lib.hid (show b2 < v4.heap.size from Nat.lt_of_lt_of_le HB2.out HQ4w.out.bel.size)
          have HV0 := Lib.hid (show KW wb ((w6.heap.size, [.slice A1 n1 c1, .int .i64 (nV : Int), .slice M1 m1 d1, .slice E1 k1 g1]) :: ((bc, [.slice A n c, .int .i64 s, .slice M m d, .slice E k g]) :: [(W.heap.size + 1, [gv 0, gv 1, gv 2, gv 3, gv 4, gv 5, gv 6, gv 7, gv 8, gv 9, gv 10, gv 11, gv 12, gv 13, gv 14, gv 15, gv 16, gv 17, gv 18, gv 19, gv 20, gv 21, gv 22, gv 23, gv 24, gv 25, gv 26]), (W.heap.size, [.int .u8 x0, .int .u8 x1])])) v4 v4 from ⟨HQ4w.out.lw, Below.refl _ _⟩)
          have HV0d := Lib.hid (show KW wb ((w6.heap.size, [.slice A1 n1 c1, .int .i64 (nV : Int), .slice M1 m1 d1, .slice E1 k1 g1]) :: ((bc, [.slice A n c, .int .i64 s, .slice M m d, .slice E k g]) :: [(W.heap.size + 1, [gv 0, gv 1, gv 2, gv 3, gv 4, gv 5, gv 6, gv 7, gv 8, gv 9, gv 10, gv 11, gv 12, gv 13, gv 14, gv 15, gv 16, gv 17, gv 18, gv 19, gv 20, gv 21, gv 22, gv 23, gv 24, gv 25, gv 26]), (W.heap.size, [.int .u8 x0, .int .u8 x1])])) v4 v4.drew from ⟨HQ4w.out.lw.drew, (Below.refl _ _).drew⟩)
          have HRU := Lib.hid (fun W' (hW : KW wb ((w6.heap.size, [.slice A1 n1 c1, .int .i64 (nV : Int), .slice M1 m1 d1, .slice E1 k1 g1]) :: ((bc, [.slice A n c, .int .i64 s, .slice M m d, .slice E k g]) :: [(W.heap.size + 1, [gv 0, gv 1, gv 2, gv 3, gv 4, gv 5, gv 6, gv 7, gv 8, gv 9, gv 10, gv 11, gv 12, gv 13, gv 14, gv 15, gv 16, gv 17, gv 18, gv 19, gv 20, gv 21, gv 22, gv 23, gv 24, gv 25, gv 26]), (W.heap.size, [.int .u8 x0, .int .u8 x1])])) v4 W') => k_acc (c1 := cx) HC.out HAC.out (hW.aut HA2.out) (hW.ints HRX2.out) HLX.out hsh hW.lw)
          go_wp2_with fail
          try rw [z6]
          clear z6
          go_cut [20, 21] from 115 to 123 (fun v20 v21 wx => v20 = .bool ac ∧ v21 = .int .i64 0 ∧ Hid (KW wb ((w6.heap.size, [.slice A1 n1 c1, .int .i64 (nV : Int), .slice M1 m1 d1, .slice E1 k1 g1]) :: ((bc, [.slice A n c, .int .i64 s, .slice M m d, .slice E k g]) :: [(W.heap.size + 1, [gv 0, gv 1, gv 2, gv 3, gv 4, gv 5, gv 6, gv 7, gv 8, gv 9, gv 10, gv 11, gv 12, gv 13, gv 14, gv 15, gv 16, gv 17, gv 18, gv 19, gv 20, gv 21, gv 22, gv 23, gv 24, gv 25, gv 26]), (W.heap.size, [.int .u8 x0, .int .u8 x1])])) v4 wx))
          case first =>
            go_region_held3 (fun w' => w'.cell? ⟨bc, 0, none⟩ = some (.slice A n c) ∧ w'.cell? ⟨bc, 1, none⟩ = some (.int .i64 s) ∧ w'.cell? ⟨bc, 2, none⟩ = some (.slice M m d) ∧ w'.cell? ⟨bc, 3, none⟩ = some (.slice E k g) ∧ w'.cell? ⟨b2, o2 + i, none⟩ = some (.slice Ax lx cx)) (first | with_reducible exact ⟨p0_0, p0_1, p0_2, p0_3, cx0⟩ | go_keep)
              (first
              | (go_simp; go_at_call 38; (first | with_reducible refine (HRU.out _ HV0.out).mono ?_ | with_reducible refine (HRU.out _ HV0d.out).mono ?_); rintro e wq ⟨rfl, hk6⟩
                 have HV1 := Lib.hid (show KW wb ((w6.heap.size, [.slice A1 n1 c1, .int .i64 (nV : Int), .slice M1 m1 d1, .slice E1 k1 g1]) :: ((bc, [.slice A n c, .int .i64 s, .slice M m d, .slice E k g]) :: [(W.heap.size + 1, [gv 0, gv 1, gv 2, gv 3, gv 4, gv 5, gv 6, gv 7, gv 8, gv 9, gv 10, gv 11, gv 12, gv 13, gv 14, gv 15, gv 16, gv 17, gv 18, gv 19, gv 20, gv 21, gv 22, gv 23, gv 24, gv 25, gv 26]), (W.heap.size, [.int .u8 x0, .int .u8 x1])])) v4 wq from ⟨hk6.lw, by first | exact HV0.out.bel.trans (hk6.bel.mono HV0.out.bel.size) | exact HV0d.out.bel.trans (hk6.bel.mono HV0d.out.bel.size)⟩)
                 have p0_0 := HV1.out.lw.bx.at 1 rfl 0 rfl
                 have p0_1 := HV1.out.lw.bx.at 1 rfl 1 rfl
                 have p0_2 := HV1.out.lw.bx.at 1 rfl 2 rfl
                 have p0_3 := HV1.out.lw.bx.at 1 rfl 3 rfl
                 have cx0 := (HV1.out.bel.cell (p := ⟨b2, o2 + i, none⟩) HB2v.out).trans cx0
                 clear hk6))
            all_goals
              go_wp2_with fail
              go_meet
              case rel => exact ⟨rfl, rfl, HV1⟩
          case rest =>
            obtain ⟨rfl, rfl, hl'⟩ := hcut
            clear HRU HV0 HV0d p0_0 p0_1 p0_2 p0_3 cx0 HB2v HRX2 HA2
            have HQ5w := Lib.hid (show KW wb ((w6.heap.size, [.slice A1 n1 c1, .int .i64 (nV : Int), .slice M1 m1 d1, .slice E1 k1 g1]) :: ((bc, [.slice A n c, .int .i64 s, .slice M m d, .slice E k g]) :: [(W.heap.size + 1, [gv 0, gv 1, gv 2, gv 3, gv 4, gv 5, gv 6, gv 7, gv 8, gv 9, gv 10, gv 11, gv 12, gv 13, gv 14, gv 15, gv 16, gv 17, gv 18, gv 19, gv 20, gv 21, gv 22, gv 23, gv 24, gv 25, gv 26]), (W.heap.size, [.int .u8 x0, .int .u8 x1])])) wr _ from ⟨hl'.out.lw, HQ4w.out.bel.trans (hl'.out.bel.mono HQ4w.out.bel.size)⟩)
            have HR3 := Lib.hid (hl'.out.ints HR3.out)
            clear hl'
            have p1_0 := HQ5w.out.lw.bx.at 0 rfl 0 rfl
            have p1_1 := HQ5w.out.lw.bx.at 0 rfl 1 rfl
            have p1_2 := HQ5w.out.lw.bx.at 0 rfl 2 rfl
            have p1_3 := HQ5w.out.lw.bx.at 0 rfl 3 rfl
            go_wp2_with fail
            refine (k_acc HBC.out HBCC.out (HQ5w.out.aut HPU.out) HR3.out HN3.out hn35 HQ5w.out.lw).mono ?_
            rintro e v6 ⟨rfl, hl⟩
            have HQ6w := Lib.hid (show KW wb ((w6.heap.size, [.slice A1 n1 c1, .int .i64 (nV : Int), .slice M1 m1 d1, .slice E1 k1 g1]) :: ((bc, [.slice A n c, .int .i64 s, .slice M m d, .slice E k g]) :: [(W.heap.size + 1, [gv 0, gv 1, gv 2, gv 3, gv 4, gv 5, gv 6, gv 7, gv 8, gv 9, gv 10, gv 11, gv 12, gv 13, gv 14, gv 15, gv 16, gv 17, gv 18, gv 19, gv 20, gv 21, gv 22, gv 23, gv 24, gv 25, gv 26]), (W.heap.size, [.int .u8 x0, .int .u8 x1])])) wr v6 from ⟨hl.lw, HQ5w.out.bel.trans (hl.bel.mono HQ5w.out.bel.size)⟩)
            clear hl p1_0 p1_1 p1_2 p1_3
            have HEND := Lib.hid (show KW wb ((w6.heap.size, [.slice A1 n1 c1, .int .i64 (nV : Int), .slice M1 m1 d1, .slice E1 k1 g1]) :: ((bc, [.slice A n c, .int .i64 s, .slice M m d, .slice E k g]) :: [(W.heap.size + 1, [gv 0, gv 1, gv 2, gv 3, gv 4, gv 5, gv 6, gv 7, gv 8, gv 9, gv 10, gv 11, gv 12, gv 13, gv 14, gv 15, gv 16, gv 17, gv 18, gv 19, gv 20, gv 21, gv 22, gv 23, gv 24, gv 25, gv 26]), (W.heap.size, [.int .u8 x0, .int .u8 x1])])) w7 v6 from ⟨HQ6w.out.lw, hkw.out.bel.trans (HQ6w.out.bel.mono hkw.out.bel.size)⟩)
            cases ac
            · go_wp2_with fail
              go_roundw
              case rel => exact ⟨i + 1, by omega, by go_num, HEND⟩
              case measure => simp [intOf]; omega
            · have hbt := HQ4.out rfl
              subst hbt
              go_wp2_with fail
              go_roundw
              case rel => exact ⟨i + 1, by omega, by go_num, HEND⟩
              case measure => simp [intOf]; omega
      · have z0 : (n2 : Int) ≤ (i : Int) := by omega
        go_wp2_with fail
        go_ret
        exact ⟨rfl, HB0.out.trans (hkw.out.lw.bel.mono HB0.out.size)⟩
end Go.Proofs.YtmghngehpgolgaaGreat
