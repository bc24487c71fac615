/- The law ProjectionLeast, walked. -/
import Derived.Test.YtaadhpkpekmfoaaGreatZa16
import Derived.Test.YtaadhpkpekmfoaaGreatZa17
import Derived.Test.YtaadhpkpekmfoaaGreatZa15
import Derived.Test.YtaadhpkpekmfoaaGreatZjAlk
import Derived.Test.YtaadhpkpekmfoaaGreatZqWd
import Derived.BigQuiet
set_option linter.unusedVariables false
set_option linter.unusedSimpArgs false
set_option linter.unusedSectionVars false
namespace Go.Proofs.YtaadhpkpekmfoaaGreat
open Go.RowKit Go.Sort
attribute [local go_sem ↓] exec_load_graph'
attribute [local go_sem] blkOf_ptr

section
variable {W w : World} {l : List (Nat × List Value)} {A2 : Option Addr} {n2 c2 : Nat} {A : Option Addr} {n c : Nat} {on ws : List Int}
theorem k_robsL {L : List Int} (hL : obR on ws = L) (hx : RdI w w.heap.size A2 on) (hn : on.length = n2) (hb : n2 ≤ 100000) (hw : RdI w w.heap.size A ws) (hwn : ws.length = n) (hbn : n ≤ 100000) (h : LW W l w) : Calls Tryz.prog 34 #[.slice A2 n2 c2, .slice A n c] w fun e w' => ∃ A n c, e = .returned (.slice A n c) ∧ GL7 w w' A n c L ∧ KW W l w w' := by
  subst hL
  refine (r7Observe_any A2 n2 c2 on A n c ws w hx hn hb hw hwn hbn).mono ?_
  rintro e w' ⟨v, he, ho, hb⟩
  obtain ⟨A, n, c, rfl, h1⟩ := gl7_of ho
  exact ⟨A, n, c, he, h1, KW.of h hb⟩
theorem k_alk {A1 : Option Addr} {n1 c1 : Nat} {vs : List Int} {r : Bool} (hr : decide (obR on vs = obR on ws) = r) (h3 : RdI w w.heap.size A2 on) (hn3 : on.length = n2) (hb3 : n2 ≤ 100000)
    (h1 : RdI w w.heap.size A1 vs) (hn1 : vs.length = n1) (hb1 : n1 ≤ 100000) (h2 : RdI w w.heap.size A ws) (hn2 : ws.length = n) (hb2 : n ≤ 100000) (hf3 : ∀ x ∈ on, (Lit.int .i64 x).wf = true) (hf1 : ∀ x ∈ vs, (Lit.int .i64 x).wf = true) (hf2 : ∀ x ∈ ws, (Lit.int .i64 x).wf = true) (h : LW W l w) :
    Calls Tryz.prog 35 #[.slice A2 n2 c2, .slice A1 n1 c1, .slice A n c] w fun e w' => e = .returned (.bool r) ∧ KW W l w w' := by
  have := kw_call (jAlike_any A2 n2 c2 on A1 n1 c1 vs A n c ws w h3 hn3 hb3 h1 hn1 hb1 h2 hn2 hb2 hf3 hf1 hf2) h
  unfold obR at hr
  rw [hr] at this; exact this
end
section
variable {W w : World} {l : List (Nat × List Value)} {A : Option Addr} {n c : Nat} {s : Int} {M : Option Addr} {m d : Nat} {E : Option Addr} {k g : Nat} {a : Au} {A3 A2 : Option Addr} {n3 c3 n2 c2 : Nat} {on ob : List Int}
theorem k_lift {mk : Bool} {v : List Int} (hc : cweE a on = 0) (hk : ob.all (fun x => decide (x ∈ kpR a on)) = true) (hv : lfO a on ob mk = some v) (ha : AuR w w.heap.size A n c s M m d E k g a) (ho : RdI w w.heap.size A3 on) (hn : on.length = n3) (hc3 : n3 ≤ c3 ∧ c3 ≤ 9223372036854775807) (hb3 : n3 ≤ 100000) (hob : RdI w w.heap.size A2 ob) (hl : ob.length = n2) (hl10 : n2 ≤ 10) (h : LW W l w) :
    Calls Tryz.prog 31 #[.agg #[.slice A n c, .int .i64 s, .slice M m d, .slice E k g], .slice A3 n3 c3, .slice A2 n2 c2, .bool mk] w fun e w' => ∃ A n c, e = .returned (.tuple #[.slice A n c, .bool true, .int .i64 0]) ∧ GL7 w w' A n c v ∧ KW W l w w' := by
  refine (jLiftP_any A n c s M m d E k g A3 n3 c3 a on A2 n2 c2 ob mk w ha ho hn hc3 hb3 hob hl hl10).mono ?_
  rintro e w' ⟨hb, h1 | h1 | h1⟩
  · exact absurd hc h1.1
  · rw [hk] at h1; exact absurd h1.2.1 (by decide)
  · obtain ⟨_, _, h2⟩ := h1
    rw [hv] at h2
    obtain ⟨r, he, ho⟩ := h2
    obtain ⟨A, n, c, rfl, h1⟩ := gl7_of ho
    exact ⟨A, n, c, he, h1, KW.of h hb⟩
end
theorem lexL_at : ∀ {v w : List Int} {i : Nat}, lexL v w → v.take i = w.take i → i < v.length → i < w.length → v.getD i 0 ≠ w.getD i 0 → v.getD i 0 < w.getD i 0
  | x :: v, y :: w, 0, h, _, _, _, hne => by
    rcases h with h | ⟨h, _⟩
    · simpa using h
    · exact absurd (by simpa using h) hne
  | x :: v, y :: w, i + 1, h, ht, h1, h2, hne => by
    simp only [List.take_succ_cons, List.cons.injEq] at ht
    rcases h with h | ⟨_, h⟩
    · omega
    · have := lexL_at (i := i) h ht.2 (by simpa using h1) (by simpa using h2) (by simpa using hne)
      simpa using this
theorem slx_at {v w : List Int} {i : Nat} (h : v = w ∨ slx v w) (hl : v.length = w.length) (ht : v.take i = w.take i) (hi : i < v.length) (hne : v.getD i 0 ≠ w.getD i 0) : v.getD i 0 < w.getD i 0 := by
  rcases h with h | h | h
  · exact absurd (by rw [h]) hne
  · omega
  · exact lexL_at h.2 ht hi (by omega) hne
theorem slx_len {v w : List Int} (h : v = w ∨ slx v w) : v.length ≤ w.length := by
  rcases h with h | h | h
  · rw [h]; exact Nat.le_refl _
  · omega
  · omega
theorem ev_wf {x : Int} (h0 : 0 ≤ x) (h1 : x < 32) : (Lit.int .i64 x).wf = true := by
  show (decide (IntKind.min .i64 ≤ x) && decide (x ≤ IntKind.max .i64)) = true
  rw [show IntKind.min .i64 = -9223372036854775808 from rfl, show IntKind.max .i64 = 9223372036854775807 from rfl]
  simp; omega
set_option maxHeartbeats 8000000 in
set_option maxRecDepth 100000 in
theorem lawPjLeast (x0 x1 : Int) (gv : Nat → Value) (x2 : Int) (W : World) (S0 : (Lit.int .u8 x0).wf = true) (S1 : (Lit.int .u8 x1).wf = true) (SG : GrC #[gv 0, gv 1, gv 2, gv 3, gv 4, gv 5, gv 6, gv 7, gv 8, gv 9, gv 10, gv 11, gv 12, gv 13, gv 14, gv 15, gv 16, gv 17, gv 18, gv 19, gv 20, gv 21, gv 22, gv 23, gv 24, gv 25, gv 26]) (S2 : (Lit.int .u16 x2).wf = true) :
    Calls Tryz.prog 8 #[.agg #[.int .u8 x0, .int .u8 x1], .agg #[gv 0, gv 1, gv 2, gv 3, gv 4, gv 5, gv 6, gv 7, gv 8, gv 9, gv 10, gv 11, gv 12, gv 13, gv 14, gv 15, gv 16, gv 17, gv 18, gv 19, gv 20, gv 21, gv 22, gv 23, gv 24, gv 25, gv 26], .int .u16 x2] W fun e W' => e = .returned (.bool true) ∧ Below W.heap.size W W' := by
  have HL0 := Lib.hid (by
    have h := (LW.first W [.int .u8 x0, .int .u8 x1] 45).new [gv 0, gv 1, gv 2, gv 3, gv 4, gv 5, gv 6, gv 7, gv 8, gv 9, gv 10, gv 11, gv 12, gv 13, gv 14, gv 15, gv 16, gv 17, gv 18, gv 19, gv 20, gv 21, gv 22, gv 23, gv 24, gv 25, gv 26] 26
    rw [World.size_alloc] at h; exact h)
  have HK := Lib.hid known7_any
  have HS0 := Lib.hid S0
  have HS1 := Lib.hid S1
  have HSG := Lib.hid SG
  have hx2 : 0 ≤ x2 ∧ x2 < 65536 := by
    have h : (decide (IntKind.min .u16 ≤ x2) && decide (x2 ≤ IntKind.max .u16)) = true := S2
    rw [show IntKind.min .u16 = 0 from rfl, show IntKind.max .u16 = 65535 from rfl] at h
    simp at h; omega
  obtain ⟨X, hX⟩ : ∃ X : Nat, x2 = (X : Int) := ⟨x2.toNat, by omega⟩
  subst hX
  have hX6 : X < 65536 := by omega
  clear S0 S1 SG S2 hx2
  go_enter Tryz.func8, Tryz.ntmps8
  go_wp2_with fail
  refine (lw_call (HK.out _) HL0.out).mono ?_
  rintro e w1 ⟨rfl, hl⟩
  have HL1 := Lib.hid hl
  clear hl
  have hgs := gs2_of HL1.out 0 1 (gv := gv) (x0 := x0) (x1 := x1) rfl rfl
  go_wp2_with fail
  go_cut [7, 8] from 20 to 27 (fun v7 v8 wx => PreR2 W [(W.heap.size + 1, [gv 0, gv 1, gv 2, gv 3, gv 4, gv 5, gv 6, gv 7, gv 8, gv 9, gv 10, gv 11, gv 12, gv 13, gv 14, gv 15, gv 16, gv 17, gv 18, gv 19, gv 20, gv 21, gv 22, gv 23, gv 24, gv 25, gv 26]), (W.heap.size, [.int .u8 x0, .int .u8 x1])] v7 v8 wx)
  case first =>
    have HL9 := Lib.hid HL1.out
    go_region_held3 (fun w' => GridOk w' (W.heap.size + 1) ∧ (∀ i : Nat, i < 27 → w'.cell? ⟨W.heap.size + 1, i, none⟩ = some (gv i)) ∧ w'.cell? ⟨W.heap.size, 0, none⟩ = some (.int .u8 x0) ∧ w'.cell? ⟨W.heap.size, 1, none⟩ = some (.int .u8 x1)) (exact gs2_of (W := W) (l := [(W.heap.size + 1, [gv 0, gv 1, gv 2, gv 3, gv 4, gv 5, gv 6, gv 7, gv 8, gv 9, gv 10, gv 11, gv 12, gv 13, gv 14, gv 15, gv 16, gv 17, gv 18, gv 19, gv 20, gv 21, gv 22, gv 23, gv 24, gv 25, gv 26]), (W.heap.size, [.int .u8 x0, .int .u8 x1])]) (by repeat (first | with_reducible exact HL9.out | refine LW.drew ?_ | refine LW.alloc ?_ _ | with_reducible exact (LW.put' HL1.out HL9.out HQ3.out (Nat.le_refl _) _ _ _ _).tail | with_reducible exact (LW.put' HL8.out HL9.out HQ4.out (Nat.le_refl _) _ _ _ _).tail | with_reducible exact (LW.put' HL1.out HL9.out HQ5.out (Nat.le_refl _) _ _ _ _).tail | with_reducible exact (LW.put' HL8.out HL9.out HQ5.out (Nat.le_refl _) _ _ _ _).tail | with_reducible exact (LW.put' HL7.out HL9.out HQ6.out (Nat.le_refl _) _ _ _ _).tail)) 0 1 rfl rfl)
      (first
      | (go_simp; go_at_call 13; (with_reducible refine (events_any x0 _ HS0.out).mono ?_); rintro e w2 ⟨al, hev, A0, c0, rfl, hrd, hb2, hc0, hc02⟩
         have HL8 := Lib.hid (show LW W [(W.heap.size + 1, [gv 0, gv 1, gv 2, gv 3, gv 4, gv 5, gv 6, gv 7, gv 8, gv 9, gv 10, gv 11, gv 12, gv 13, gv 14, gv 15, gv 16, gv 17, gv 18, gv 19, gv 20, gv 21, gv 22, gv 23, gv 24, gv 25, gv 26]), (W.heap.size, [.int .u8 x0, .int .u8 x1])] w2 from LW.call (by repeat (first | with_reducible exact HL9.out | refine LW.drew ?_ | refine LW.alloc ?_ _)) hb2)
         have HL9 := HL8
         have HEV := Lib.hid hev
         have HRD := Lib.hid hrd
         try (have hq : Row w2 w1.heap.size 33 [.slice none 0 0, .int .i64 0, .slice none 0 0, .slice none 0 0] := Row.below (by first | with_reducible exact Row.new w1 [.slice none 0 0, .int .i64 0, .slice none 0 0, .slice none 0 0] 33 | with_reducible exact row_drew (Row.new w1 [.slice none 0 0, .int .i64 0, .slice none 0 0, .slice none 0 0] 33) | with_reducible exact Row.new w1.drew [.slice none 0 0, .int .i64 0, .slice none 0 0, .slice none 0 0] 33) hb2 (by simp); have HQ2 := Lib.hid hq; have y0 := hq.cell 0 rfl; have y1 := hq.cell 1 rfl; have y2 := hq.cell 2 rfl; have y3 := hq.cell 3 rfl; have g0 := hq.frozen 0; have g1 := hq.frozen 1; have g2 := hq.frozen 2; have g3 := hq.frozen 3; clear hq)
         clear hb2 hev hrd hc02)
      | (go_simp; go_at_call 12; refine (make_any A0 al.length c0 w2.heap.size al #[gv 0, gv 1, gv 2, gv 3, gv 4, gv 5, gv 6, gv 7, gv 8, gv 9, gv 10, gv 11, gv 12, gv 13, gv 14, gv 15, gv 16, gv 17, gv 18, gv 19, gv 20, gv 21, gv 22, gv 23, gv 24, gv 25, gv 26] _ (by first | with_reducible exact HRD.out | exact HRD.out.below ((Below.refl _ w2).alloc (Nat.le_refl _) _) (Nat.le_refl _)) (by simp) rfl hc0 HEV.out HSG.out).mono ?_; rintro e w3 ⟨a, v3, hok, rfl, ⟨A, n, c, s, M, m, d, E, k, g, rfl, hau, hfr⟩, hb3⟩
         have HL7 := Lib.hid (show LW W [(W.heap.size + 1, [gv 0, gv 1, gv 2, gv 3, gv 4, gv 5, gv 6, gv 7, gv 8, gv 9, gv 10, gv 11, gv 12, gv 13, gv 14, gv 15, gv 16, gv 17, gv 18, gv 19, gv 20, gv 21, gv 22, gv 23, gv 24, gv 25, gv 26]), (W.heap.size, [.int .u8 x0, .int .u8 x1])] w3 from LW.call (by repeat (first | with_reducible exact HL9.out | refine LW.drew ?_ | refine LW.alloc ?_ _)) hb3)
         have HL9 := HL7
         have HOK := Lib.hid hok
         have HAF := Lib.hid (show AuF a (.agg #[.slice A n c, .int .i64 s, .slice M m d, .slice E k g]) w3 _ from ⟨A, n, c, s, M, m, d, E, k, g, rfl, hau, hfr⟩)
         have HA3 := Lib.hid hau
         try (have hq := Row.below (show Row _ w1.heap.size 33 [.slice none 0 0, .int .i64 0, .slice none 0 0, .slice none 0 0] from by first | with_reducible exact HQ2.out | with_reducible exact row_drew HQ2.out) hb3 (by have := HQ2.out.lt; simpa using this); have HQ3 := Lib.hid hq; have HQL := Lib.hid (Nat.lt_of_lt_of_le HQ2.out.lt (Nat.le_refl _)); have HAS3 := Lib.hid (show AuS w3 w1.heap.size a A n c s M m d E k g from aus_f HAF.out (by have := HQL.out; simpa using this)); have y0 := hq.cell 0 rfl; have y1 := hq.cell 1 rfl; have y2 := hq.cell 2 rfl; have y3 := hq.cell 3 rfl; have g0 := hq.frozen 0; have g1 := hq.frozen 1; have g2 := hq.frozen 2; have g3 := hq.frozen 3; clear hq)
         try (have hq : Row w3 w2.heap.size 33 [.slice none 0 0, .int .i64 0, .slice none 0 0, .slice none 0 0] := Row.below (by first | with_reducible exact Row.new w2 [.slice none 0 0, .int .i64 0, .slice none 0 0, .slice none 0 0] 33 | with_reducible exact row_drew (Row.new w2 [.slice none 0 0, .int .i64 0, .slice none 0 0, .slice none 0 0] 33) | with_reducible exact Row.new w2.drew [.slice none 0 0, .int .i64 0, .slice none 0 0, .slice none 0 0] 33) hb3 (by simp); have HQ4 := Lib.hid hq; have HAS3 := Lib.hid (show AuS w3 w2.heap.size a A n c s M m d E k g from aus_f HAF.out (by simp)); have y0 := hq.cell 0 rfl; have y1 := hq.cell 1 rfl; have y2 := hq.cell 2 rfl; have y3 := hq.cell 3 rfl; have g0 := hq.frozen 0; have g1 := hq.frozen 1; have g2 := hq.frozen 2; have g3 := hq.frozen 3; clear hq)
         clear hb3 hok hau hfr)
      | (go_simp; go_at_call 13; (with_reducible refine (events_own x1 _ HS1.out).mono ?_); rintro e w4 ⟨on, A8, c8, hev8, rfl, ho8, hb4⟩
         have HL6 := Lib.hid (show LW W [(W.heap.size + 1, [gv 0, gv 1, gv 2, gv 3, gv 4, gv 5, gv 6, gv 7, gv 8, gv 9, gv 10, gv 11, gv 12, gv 13, gv 14, gv 15, gv 16, gv 17, gv 18, gv 19, gv 20, gv 21, gv 22, gv 23, gv 24, gv 25, gv 26]), (W.heap.size, [.int .u8 x0, .int .u8 x1])] w4 from LW.call (by repeat (first | with_reducible exact HL9.out | refine LW.drew ?_ | refine LW.alloc ?_ _ | with_reducible exact (LW.put' HL1.out HL9.out HQ3.out (Nat.le_refl _) _ _ _ _).tail | with_reducible exact (LW.put' HL8.out HL9.out HQ4.out (Nat.le_refl _) _ _ _ _).tail)) hb4)
         have HL9 := HL6
         have HE8 := Lib.hid hev8
         have HO8 := Lib.hid ho8
         have HA4 := Lib.hid (show AuR w4 w4.heap.size A n c s M m d E k g a from ((show AuR _ _ A n c s M m d E k g a from by first | with_reducible exact HA3.out | exact (by have := HAS3.out (.slice A n c) (.int .i64 s) (.slice M m d) (.slice E k g); simpa using this) | exact (HA3.out.below ((Below.refl _ w3).alloc (Nat.le_refl _) _) (Nat.le_refl _)).more (by simp)).below hb4 (Nat.le_refl _)).more hb4.size)
         try (have hq := Row.below (show Row _ w1.heap.size 33 [.slice none 0 0, .int .i64 0, .slice none 0 0, .slice none 0 0] from by first | with_reducible exact HQ3.out | with_reducible exact row_drew HQ3.out) hb4 (by have := HQ3.out.lt; simpa using this); have HQ5 := Lib.hid hq; have y0 := hq.cell 0 rfl; have y1 := hq.cell 1 rfl; have y2 := hq.cell 2 rfl; have y3 := hq.cell 3 rfl; have g0 := hq.frozen 0; have g1 := hq.frozen 1; have g2 := hq.frozen 2; have g3 := hq.frozen 3; clear hq; have HS5 := Lib.hid (show AuS w4 w1.heap.size a A n c s M m d E k g from aus_f (HAF.out.below (show Below w3.heap.size w3 w4 from by first | with_reducible exact hb4 | exact (Below.refl _ w3).drew.trans hb4)) (by have := HQL.out; simpa using this)))
         try (have hq := Row.below (show Row _ w2.heap.size 33 [.slice none 0 0, .int .i64 0, .slice none 0 0, .slice none 0 0] from by first | with_reducible exact HQ4.out | with_reducible exact row_drew HQ4.out) hb4 (by have := HQ4.out.lt; simpa using this); have HQ5 := Lib.hid hq; have y0 := hq.cell 0 rfl; have y1 := hq.cell 1 rfl; have y2 := hq.cell 2 rfl; have y3 := hq.cell 3 rfl; have g0 := hq.frozen 0; have g1 := hq.frozen 1; have g2 := hq.frozen 2; have g3 := hq.frozen 3; clear hq; have HS5 := Lib.hid (show AuS w4 w2.heap.size a A n c s M m d E k g from aus_f (HAF.out.below (show Below w3.heap.size w3 w4 from by first | with_reducible exact hb4 | exact (Below.refl _ w3).drew.trans hb4)) (by simp)))
         try (have hq : Row w4 w3.heap.size 33 [.slice none 0 0, .int .i64 0, .slice none 0 0, .slice none 0 0] := Row.below (by first | with_reducible exact Row.new w3 [.slice none 0 0, .int .i64 0, .slice none 0 0, .slice none 0 0] 33 | with_reducible exact row_drew (Row.new w3 [.slice none 0 0, .int .i64 0, .slice none 0 0, .slice none 0 0] 33) | with_reducible exact Row.new w3.drew [.slice none 0 0, .int .i64 0, .slice none 0 0, .slice none 0 0] 33) hb4 (by simp); have HQ6 := Lib.hid hq; have y0 := hq.cell 0 rfl; have y1 := hq.cell 1 rfl; have y2 := hq.cell 2 rfl; have y3 := hq.cell 3 rfl; have g0 := hq.frozen 0; have g1 := hq.frozen 1; have g2 := hq.frozen 2; have g3 := hq.frozen 3; clear hq; have hle6 : w3.heap.size ≤ w4.heap.size := Nat.le_trans (by simp) hb4.size; have HS6 := Lib.hid (aus_r (B := w3.heap.size) (b := w3.heap.size) (HA3.out.below (show Below w3.heap.size w3 w4 from Below.trans (by repeat (first | exact Below.refl _ w3 | refine Below.drew ?_ | refine Below.alloc ?_ (Nat.le_refl _) _)) (hb4.mono (by simp))) (Nat.le_refl _)) (Nat.le_refl _) hle6))
         try (have hq : Row w4 w3.heap.size 33 [.slice A n c, .int .i64 s, .slice M m d, .slice E k g] := Row.below (by first | with_reducible exact Row.new w3 [.slice A n c, .int .i64 s, .slice M m d, .slice E k g] 33 | with_reducible exact row_drew (Row.new w3 [.slice A n c, .int .i64 s, .slice M m d, .slice E k g] 33) | with_reducible exact Row.new w3.drew [.slice A n c, .int .i64 s, .slice M m d, .slice E k g] 33) hb4 (by simp); have HQ7 := Lib.hid hq; clear hq)
         try (have hq : Row w4 w1.heap.size 33 [.slice A n c, .int .i64 s, .slice M m d, .slice E k g] := Row.below (by first | with_reducible exact row_set4 HQ3.out _ _ _ _ | with_reducible exact row_drew (row_set4 HQ3.out _ _ _ _)) hb4 (by have := HQ3.out.lt; simpa using this); have HQ7 := Lib.hid hq; clear hq)
         try (have hq : Row w4 w2.heap.size 33 [.slice A n c, .int .i64 s, .slice M m d, .slice E k g] := Row.below (by first | with_reducible exact row_set4 HQ4.out _ _ _ _ | with_reducible exact row_drew (row_set4 HQ4.out _ _ _ _)) hb4 (by have := HQ4.out.lt; simpa using this); have HQ7 := Lib.hid hq; clear hq)
         clear hb4 hev8 ho8)
      )
    all_goals
      go_wp2_with fail
      go_meet
      case rel => first | exact fin_row HL9.out HQ7.out HEV.out HOK.out HA4.out HE8.out HO8.out | exact fin_new HL9.out HEV.out HOK.out HA4.out HE8.out HO8.out | exact fin_put HL1.out HL9.out HQ5.out (Nat.le_refl _) HEV.out HOK.out HS5.out HE8.out HO8.out | exact fin_put HL8.out HL9.out HQ5.out (Nat.le_refl _) HEV.out HOK.out HS5.out HE8.out HO8.out | exact fin_put HL7.out HL9.out HQ6.out (Nat.le_refl _) HEV.out HOK.out HS6.out HE8.out HO8.out
  case rest =>
    obtain ⟨bc, al, a, A, n, c, s, M, m, d, E, k, g, on, A8, n8, c8, rfl, rfl, HL4, HEV, HOK, HAU, HEV8, HRD8, hn8, hc8⟩ := hcut
    have HB0 := Lib.hid HL4.out.bel
    have HR8 := HRD8
    have HL5 := Lib.hid (show LW wc ((bc, [.slice A n c, .int .i64 s, .slice M m d, .slice E k g]) :: [(W.heap.size + 1, [gv 0, gv 1, gv 2, gv 3, gv 4, gv 5, gv 6, gv 7, gv 8, gv 9, gv 10, gv 11, gv 12, gv 13, gv 14, gv 15, gv 16, gv 17, gv 18, gv 19, gv 20, gv 21, gv 22, gv 23, gv 24, gv 25, gv 26]), (W.heap.size, [.int .u8 x0, .int .u8 x1])]) wc from ⟨Below.refl _ _, HL4.out.bx⟩)
    have HC := Lib.hid HOK.out.r.chk
    have HRI := Lib.hid HOK.out.r.toRightW
    have HST := Lib.hid HAU.out.st
    have hbn := HAU.out.bn
    have hs0 : 0 ≤ a.st := HRI.out.st0
    have hs5 : a.st ≤ 5 := HOK.out.st
    have h85 := Ev5.len (n := 5) HEV8.out
    have HN8 := Lib.hid hn8
    have HC8 := Lib.hid hc8
    have hn85 : n8 ≤ 5 := by rw [← hn8]; exact h85
    have HCW := Lib.hid (cwe_ok HC.out HEV8.out.cs)
    have HFO := Lib.hid (show ∀ x ∈ on, (Lit.int .i64 x).wf = true from fun x hx => by have := HEV8.out.r x hx; exact ev_wf (by omega) (by omega))
    have HFA := Lib.hid (show ∀ x ∈ a.al, (Lit.int .i64 x).wf = true from fun x hx => by have := HRI.out.alr x hx; exact ev_wf (by omega) (by omega))
    have h5a := Lib.hid (show a.al.length ≤ 5 by have h1 := Ev5.len (n := 5) HEV.out; rw [← HOK.out.al] at h1; exact h1)
    obtain ⟨Rw, hRw, hRl⟩ := genO_some HRI.out h5a.out (m := 4) (by omega)
    have HRW3 := Lib.hid hRw
    have HSHT := Lib.hid (show ∀ p ∈ Rw, p.1.length ≤ 4 from fun p hp => genO_short hRw p hp)
    have HLD := Lib.hid (leads_genO HRI.out hRw)
    have HWX := Lib.hid (show wordsR a 4 false = (Rw.map Prod.fst, 0) by have h := wordsR_in (mk := false) HC.out (by omega) hRw; rw [sel_all] at h; exact h)
    clear hn8 hc8 h85 hRw
    clear hgs
    clear HRD8
    have p0_0 := HL5.out.bx.at 0 rfl 0 rfl
    have p0_1 := HL5.out.bx.at 0 rfl 1 rfl
    have p0_2 := HL5.out.bx.at 0 rfl 2 rfl
    have p0_3 := HL5.out.bx.at 0 rfl 3 rfl
    go_wp2_with fail
    refine (k_words HWX.out HAU.out HL5.out).mono ?_
    rintro e w6 ⟨A2, n2, c2, gs, rfl, hn2, hz2, hr2, hn2b, hl⟩
    clear p0_0 p0_1 p0_2 p0_3
    have HL6 := Lib.hid hl.lw
    have HAU := Lib.hid (hl.aut HAU.out)
    have HR8 := Lib.hid (hl.ints HR8.out)
    have HN2 := Lib.hid hn2
    have HZ2 := Lib.hid hz2
    have HW2 := Lib.hid hr2
    clear hn2 hz2 hr2
    clear hl
    have p0_0 := HL6.out.bx.at 0 rfl 0 rfl
    have p0_1 := HL6.out.bx.at 0 rfl 1 rfl
    have p0_2 := HL6.out.bx.at 0 rfl 2 rfl
    have p0_3 := HL6.out.bx.at 0 rfl 3 rfl
    by_cases hz : n2 = 0
    · subst hz
      go_wp2_with fail
      go_ret
      exact ⟨rfl, HB0.out.trans (HL6.out.bel.mono HB0.out.size)⟩
    · have hn20 : 0 < n2 := by omega
      have b0 : ((n2 : Int) == 0) = false := by simp; omega
      obtain ⟨I, hI⟩ : ∃ I, I = X % n2 := ⟨_, rfl⟩
      have hIl : I < n2 := by rw [hI]; exact Nat.mod_lt _ hn20
      have hmod : (X : Int) % (n2 : Int) = (I : Int) := by rw [hI]; exact (Int.natCast_emod X n2).symm
      have htmod : (X : Int).tmod (n2 : Int) = (I : Int) := by rw [Int.tmod_eq_emod_of_nonneg (by omega)]; exact hmod
      obtain ⟨xw, hx⟩ : ∃ xw, gs[I]? = some xw := ⟨_, List.getElem?_eq_getElem (by rw [HN2.out]; exact hIl)⟩
      obtain ⟨b2, o2, rfl, hb2, hc2⟩ := HW2.out (by rw [HN2.out]; omega)
      obtain ⟨hcx, hrx, hx1, hx2⟩ := hc2 I xw hx
      have hmem : xw.z ∈ Rw.map Prod.fst := by rw [← HZ2.out]; exact List.mem_map.2 ⟨xw, List.mem_of_getElem? hx, rfl⟩
      obtain ⟨⟨wz_, t⟩, hp, hpe⟩ := List.mem_map.1 hmem
      have hrun := HLD.out (wz_, t) hp
      have hsh := HSHT.out (wz_, t) hp
      have hne0 : a.st ≠ 0 := fun h0 => by
        have h1 := HRW3.out
        rw [genO, if_pos h0] at h1
        injection h1 with h1
        rw [← h1] at hp; cases hp
      obtain ⟨Ax, cx, zx⟩ := xw
      simp only [Hd.enc] at hcx hx1 hx2 hpe
      simp only at hrun hpe hsh
      subst hpe
      have hro := rO_of hrun
      have hwal := run_al HRI.out wz_ 0 t hro
      obtain ⟨v, hlf, hob, ⟨tv, htv⟩, hle⟩ := lf_least HRI.out (by omega) (onto := on) hro
      have hval := run_al HRI.out v 0 tv htv
      have hvl := slx_len hle
      obtain ⟨ob, hobe⟩ : ∃ ob, obR on wz_ = ob := ⟨_, rfl⟩
      rw [hobe] at hlf hob
      have hobl : ob.length ≤ 4 := by rw [← hobe]; exact Nat.le_trans (List.length_filter_le _ _) hsh
      have HOB := Lib.hid hobe
      have HLF := Lib.hid hlf
      have HOK2 := Lib.hid (show ob.all (fun x => decide (x ∈ kpR a on)) = true by
        rw [List.all_eq_true]
        intro x hx
        rw [← hobe] at hx
        obtain ⟨h1, h2⟩ := List.mem_filter.1 hx
        exact decide_eq_true (mem_kpR.2 ⟨hwal x h1, of_decide_eq_true h2⟩))
      have HALK := Lib.hid (show decide (obR on v = obR on wz_) = true from decide_eq_true (by rw [hob, hobe]))
      have HGEN := Lib.hid (show genB a v = true by rw [gen_rO hne0, htv]; rfl)
      have HLE := Lib.hid hle
      have HFW := Lib.hid (fun x (hx : x ∈ wz_) => HFA.out x (hwal x hx))
      have HFV := Lib.hid (fun x (hx : x ∈ v) => HFA.out x (hval x hx))
      obtain ⟨lx, hlx⟩ : ∃ lx, lx = wz_.length := ⟨_, rfl⟩
      obtain ⟨lv, hlv⟩ : ∃ lv, lv = v.length := ⟨_, rfl⟩
      have HLX := Lib.hid hlx.symm
      have HLV := Lib.hid hlv.symm
      rw [← hlx] at hcx hx1 hsh hvl
      rw [← hlv] at hvl
      have HRX := Lib.hid hrx
      have HX2 := Lib.hid (show lx ≤ cx ∧ cx ≤ 9223372036854775807 from ⟨hx1, hx2⟩)
      have y0 : (I : Int) < (n2 : Int) := by omega
      have y1 : (0 : Int) ≤ (I : Int) := by omega
      clear hc2 hx hmem hp hrun hlx hlv hrx hx1 hx2 hro hwal hlf hob htv hle hval hobe hI hIl hmod
      go_wp2_with fail
      generalize hwz : w6 = wz at *
      have HV0 := Lib.hid (show KW wc ((bc, [.slice A n c, .int .i64 s, .slice M m d, .slice E k g]) :: [(W.heap.size + 1, [gv 0, gv 1, gv 2, gv 3, gv 4, gv 5, gv 6, gv 7, gv 8, gv 9, gv 10, gv 11, gv 12, gv 13, gv 14, gv 15, gv 16, gv 17, gv 18, gv 19, gv 20, gv 21, gv 22, gv 23, gv 24, gv 25, gv 26]), (W.heap.size, [.int .u8 x0, .int .u8 x1])]) wz wz from ⟨HL6.out, Below.refl _ _⟩)
      have HV0d := Lib.hid (show KW wc ((bc, [.slice A n c, .int .i64 s, .slice M m d, .slice E k g]) :: [(W.heap.size + 1, [gv 0, gv 1, gv 2, gv 3, gv 4, gv 5, gv 6, gv 7, gv 8, gv 9, gv 10, gv 11, gv 12, gv 13, gv 14, gv 15, gv 16, gv 17, gv 18, gv 19, gv 20, gv 21, gv 22, gv 23, gv 24, gv 25, gv 26]), (W.heap.size, [.int .u8 x0, .int .u8 x1])]) wz wz.drew from ⟨HL6.out.drew, (Below.refl _ _).drew⟩)
      have HROB := Lib.hid (fun W' (hW : KW wc ((bc, [.slice A n c, .int .i64 s, .slice M m d, .slice E k g]) :: [(W.heap.size + 1, [gv 0, gv 1, gv 2, gv 3, gv 4, gv 5, gv 6, gv 7, gv 8, gv 9, gv 10, gv 11, gv 12, gv 13, gv 14, gv 15, gv 16, gv 17, gv 18, gv 19, gv 20, gv 21, gv 22, gv 23, gv 24, gv 25, gv 26]), (W.heap.size, [.int .u8 x0, .int .u8 x1])]) wz W') => k_robsL (c2 := c8) (c := cx) HOB.out (hW.ints HR8.out) HN8.out (by omega) (hW.ints HRX.out) HLX.out (by omega) hW.lw)
      have HLFT := Lib.hid (fun W' (hW : KW wc ((bc, [.slice A n c, .int .i64 s, .slice M m d, .slice E k g]) :: [(W.heap.size + 1, [gv 0, gv 1, gv 2, gv 3, gv 4, gv 5, gv 6, gv 7, gv 8, gv 9, gv 10, gv 11, gv 12, gv 13, gv 14, gv 15, gv 16, gv 17, gv 18, gv 19, gv 20, gv 21, gv 22, gv 23, gv 24, gv 25, gv 26]), (W.heap.size, [.int .u8 x0, .int .u8 x1])]) wz W') (A4 : Option Addr) (n4 c4 : Nat) (hr : RdI W' W'.heap.size A4 ob) (hn : ob.length = n4) => k_lift (c2 := c4) HCW.out HOK2.out HLF.out (hW.aut HAU.out) (hW.ints HR8.out) HN8.out HC8.out (by omega) hr hn (by omega) hW.lw)
      go_cut [12, 13, 14] from 50 to 59 (fun v12 v13 v14 wx => ∃ (A5 : Option Addr) (n5 c5 : Nat), v12 = .slice A5 n5 c5 ∧ v13 = .bool true ∧ v14 = .int .i64 0 ∧ v.length = n5 ∧ Hid (RdI wx wx.heap.size A5 v) ∧ Hid (KW wc ((bc, [.slice A n c, .int .i64 s, .slice M m d, .slice E k g]) :: [(W.heap.size + 1, [gv 0, gv 1, gv 2, gv 3, gv 4, gv 5, gv 6, gv 7, gv 8, gv 9, gv 10, gv 11, gv 12, gv 13, gv 14, gv 15, gv 16, gv 17, gv 18, gv 19, gv 20, gv 21, gv 22, gv 23, gv 24, gv 25, gv 26]), (W.heap.size, [.int .u8 x0, .int .u8 x1])]) wz wx))
      case first =>
        go_region_held3 (fun w' => w'.cell? ⟨bc, 0, none⟩ = some (.slice A n c) ∧ w'.cell? ⟨bc, 1, none⟩ = some (.int .i64 s) ∧ w'.cell? ⟨bc, 2, none⟩ = some (.slice M m d) ∧ w'.cell? ⟨bc, 3, none⟩ = some (.slice E k g)) (first | with_reducible exact ⟨p0_0, p0_1, p0_2, p0_3⟩ | go_keep)
          (first
          | (go_simp; go_at_call 34; (first | with_reducible refine (HROB.out _ HV0.out).mono ?_ | with_reducible refine (HROB.out _ HV0d.out).mono ?_); rintro e wq ⟨A4, n4, c4, rfl, hg4, hk6⟩
             have HV1 := Lib.hid (show KW wc ((bc, [.slice A n c, .int .i64 s, .slice M m d, .slice E k g]) :: [(W.heap.size + 1, [gv 0, gv 1, gv 2, gv 3, gv 4, gv 5, gv 6, gv 7, gv 8, gv 9, gv 10, gv 11, gv 12, gv 13, gv 14, gv 15, gv 16, gv 17, gv 18, gv 19, gv 20, gv 21, gv 22, gv 23, gv 24, gv 25, gv 26]), (W.heap.size, [.int .u8 x0, .int .u8 x1])]) wz wq from ⟨hk6.lw, by first | exact HV0.out.bel.trans (hk6.bel.mono HV0.out.bel.size) | exact HV0d.out.bel.trans (hk6.bel.mono HV0d.out.bel.size)⟩)
             have HV1d := Lib.hid (show KW wc ((bc, [.slice A n c, .int .i64 s, .slice M m d, .slice E k g]) :: [(W.heap.size + 1, [gv 0, gv 1, gv 2, gv 3, gv 4, gv 5, gv 6, gv 7, gv 8, gv 9, gv 10, gv 11, gv 12, gv 13, gv 14, gv 15, gv 16, gv 17, gv 18, gv 19, gv 20, gv 21, gv 22, gv 23, gv 24, gv 25, gv 26]), (W.heap.size, [.int .u8 x0, .int .u8 x1])]) wz wq.drew from ⟨HV1.out.lw.drew, HV1.out.bel.drew⟩)
             have HG4 := Lib.hid hg4.rd
             have HG4n := Lib.hid hg4.len
             have p0_0 := HV1.out.lw.bx.at 0 rfl 0 rfl
             have p0_1 := HV1.out.lw.bx.at 0 rfl 1 rfl
             have p0_2 := HV1.out.lw.bx.at 0 rfl 2 rfl
             have p0_3 := HV1.out.lw.bx.at 0 rfl 3 rfl
             clear hk6 hg4)
          | (go_simp; go_at_call 31; (first | with_reducible refine (HLFT.out _ HV1.out _ _ _ HG4.out HG4n.out).mono ?_ | with_reducible refine (HLFT.out _ HV1d.out _ _ _ HG4.out HG4n.out).mono ?_); rintro e wr ⟨A5, n5, c5, rfl, hg5, hk7⟩
             have HV2 := Lib.hid (show KW wc ((bc, [.slice A n c, .int .i64 s, .slice M m d, .slice E k g]) :: [(W.heap.size + 1, [gv 0, gv 1, gv 2, gv 3, gv 4, gv 5, gv 6, gv 7, gv 8, gv 9, gv 10, gv 11, gv 12, gv 13, gv 14, gv 15, gv 16, gv 17, gv 18, gv 19, gv 20, gv 21, gv 22, gv 23, gv 24, gv 25, gv 26]), (W.heap.size, [.int .u8 x0, .int .u8 x1])]) wz wr from ⟨hk7.lw, by first | exact HV1.out.bel.trans (hk7.bel.mono HV1.out.bel.size) | exact HV1d.out.bel.trans (hk7.bel.mono HV1d.out.bel.size)⟩)
             have HV2d := Lib.hid (show KW wc ((bc, [.slice A n c, .int .i64 s, .slice M m d, .slice E k g]) :: [(W.heap.size + 1, [gv 0, gv 1, gv 2, gv 3, gv 4, gv 5, gv 6, gv 7, gv 8, gv 9, gv 10, gv 11, gv 12, gv 13, gv 14, gv 15, gv 16, gv 17, gv 18, gv 19, gv 20, gv 21, gv 22, gv 23, gv 24, gv 25, gv 26]), (W.heap.size, [.int .u8 x0, .int .u8 x1])]) wz wr.drew from ⟨HV2.out.lw.drew, HV2.out.bel.drew⟩)
             have HG5 := Lib.hid hg5.rd
             have HG5n := Lib.hid hg5.len
             have p0_0 := HV2.out.lw.bx.at 0 rfl 0 rfl
             have p0_1 := HV2.out.lw.bx.at 0 rfl 1 rfl
             have p0_2 := HV2.out.lw.bx.at 0 rfl 2 rfl
             have p0_3 := HV2.out.lw.bx.at 0 rfl 3 rfl
             clear hk7 hg5))
        all_goals
          go_wp2_with fail
          go_meet
          case rel => exact ⟨A5, n5, c5, rfl, rfl, rfl, HG5n.out, by first | exact HG5 | exact Lib.hid (rd_drew7 HG5.out), by first | exact HV2 | exact HV2d⟩
      case rest =>
        obtain ⟨A5, n5, c5, rfl, rfl, rfl, hn5, HR5, hkx⟩ := hcut
        have HAU := Lib.hid (hkx.out.aut HAU.out)
        have HR8 := Lib.hid (hkx.out.ints HR8.out)
        have HRX := Lib.hid (hkx.out.ints HRX.out)
        have HLr := Lib.hid hkx.out.lw
        have HN5 := Lib.hid hn5
        have hv5 : n5 ≤ lx := by have := HLV.out; omega
        have y5 : (n5 : Int) ≤ (lx : Int) := by omega
        clear HROB HLFT HV0 HV0d p0_0 p0_1 p0_2 p0_3 hkx hn5
        go_wp2_with fail
        refine (k_alk HALK.out HR8.out HN8.out (by omega) HR5.out HN5.out (by omega) HRX.out HLX.out (by omega) HFO.out HFV.out HFW.out HLr.out).mono ?_
        rintro e v1 ⟨rfl, hl⟩
        have HLq := Lib.hid hl.lw
        have HAU := Lib.hid (hl.aut HAU.out)
        have HRX := Lib.hid (hl.ints HRX.out)
        have HR5 := Lib.hid (hl.ints HR5.out)
        clear hl
        have p0_0 := HLq.out.bx.at 0 rfl 0 rfl
        have p0_1 := HLq.out.bx.at 0 rfl 1 rfl
        have p0_2 := HLq.out.bx.at 0 rfl 2 rfl
        have p0_3 := HLq.out.bx.at 0 rfl 3 rfl
        go_wp2_with fail
        refine (k_gen HC.out HGEN.out HAU.out HR5.out HN5.out (by omega) HLq.out).mono ?_
        rintro e v2 ⟨rfl, hl⟩
        have HLe := Lib.hid hl.lw
        have HRX := Lib.hid (hl.ints HRX.out)
        have HR5 := Lib.hid (hl.ints HR5.out)
        clear hl p0_0 p0_1 p0_2 p0_3
        go_wp2_with fail
        go_loopw [17] (fun iv wr => ∃ t : Nat, iv = .int .i64 t ∧ t ≤ n5 ∧ Hid (n5 = lx → v.take t = wz_.take t) ∧ ∃ q, wr = v2.drewN q) (fun iv _ => n5 - (intOf iv).toNat)
        case atStart => exact ⟨0, rfl, Nat.zero_le _, Lib.hid (fun _ => by simp), 0, rfl⟩
        case round =>
          obtain ⟨t, rfl, htn, htk, q, rfl⟩ := hrel
          have hbq := Lib.hid (below_drewN HLe.out.bel q)
          have hend := Lib.hid (HB0.out.trans (Below.mono hbq.out HB0.out.size))
          by_cases hlt : t < n5
          · by_cases hel : n5 = lx
            · have e0 : ((n5 : Int) == (lx : Int)) = true := by simp; omega
              have z0 : (t : Int) < (n5 : Int) := by omega
              have z1 : (0 : Int) ≤ (t : Int) := by omega
              have z2 : (t : Int) < (lx : Int) := by omega
              obtain ⟨b5, o5, rfl, hb5, hc5⟩ := HR5.out (by rw [HN5.out]; omega)
              obtain ⟨b6, o6, hA6, hb6, hc6⟩ := HRX.out (by rw [HLX.out]; omega)
              subst hA6
              have f5 := hc5 t (by rw [HN5.out]; exact hlt)
              have f6 := hc6 t (by rw [HLX.out]; omega)
              obtain ⟨xv, hxv⟩ : ∃ x, x = v.getD t 0 := ⟨_, rfl⟩
              obtain ⟨xw, hxw⟩ : ∃ x, x = wz_.getD t 0 := ⟨_, rfl⟩
              rw [← hxv] at f5
              rw [← hxw] at f6
              have HXV := Lib.hid hxv
              have HXW := Lib.hid hxw
              have HEL := Lib.hid hel
              clear hc5 hc6 hxv hxw
              by_cases hne : xv = xw
              · have e1 : (xv != xw) = false := by simp [hne]
                have HT1 := Lib.hid (show n5 = lx → v.take (t + 1) = wz_.take (t + 1) from fun h => by
                  rw [List.take_succ_eq_append_getElem (by rw [HN5.out]; exact hlt), List.take_succ_eq_append_getElem (by rw [HLX.out]; omega), htk.out h]
                  have h1 : v[t]'(by rw [HN5.out]; exact hlt) = xv := by rw [HXV.out, List.getD, List.getElem?_eq_getElem (by rw [HN5.out]; exact hlt)]; rfl
                  have h2 : wz_[t]'(by rw [HLX.out]; omega) = xw := by rw [HXW.out, List.getD, List.getElem?_eq_getElem (by rw [HLX.out]; omega)]; rfl
                  rw [h1, h2, hne])
                clear hne hel
                go_wp2_with fail
                go_quiet (fail)
                go_wp2_with fail
                go_roundw
                case rel => exact ⟨t + 1, by go_num, by omega, HT1, by first | exact ⟨_, rfl⟩ | exact ⟨_, World.drewN_drewN _ _ _⟩⟩
                case measure => simp [intOf]; omega
              · have e1 : (xv != xw) = true := by simp [hne]
                have hlt2 : xv < xw := by
                  rw [HXV.out, HXW.out]
                  exact slx_at HLE.out (by rw [HN5.out, HLX.out]; exact HEL.out) (htk.out HEL.out) (by rw [HN5.out]; exact hlt) (by rw [← HXV.out, ← HXW.out]; exact hne)
                clear hne hel
                go_wp2_with fail
                go_quiet (fail)
                go_wp2_with fail
                go_quiet (fail)
                go_wp2_with fail
                go_ret
                exact ⟨rfl, HB0.out.trans (Below.mono (by first | exact below_drewN hbq.out _ | (rw [World.drewN_drewN]; exact below_drewN hbq.out _) | (simp only [World.drewN_drewN]; exact below_drewN HLe.out.bel _)) HB0.out.size)⟩
            · have e0 : ((n5 : Int) == (lx : Int)) = false := by simp; omega
              have z0 : (t : Int) < (n5 : Int) := by omega
              clear hel
              go_wp2_with fail
              go_ret
              exact ⟨rfl, hend.out⟩
          · have z0 : (n5 : Int) ≤ (t : Int) := by omega
            go_wp2_with fail
            go_ret
            exact ⟨rfl, hend.out⟩
end Go.Proofs.YtaadhpkpekmfoaaGreat
