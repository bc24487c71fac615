/- The law ProjectionLifts, walked. -/
import Derived.Test.YtaadhpkpekmfoaaGreatZa16
import Derived.Test.YtaadhpkpekmfoaaGreatZa17
import Derived.Test.YtaadhpkpekmfoaaGreatZa15
import Derived.Test.YtaadhpkpekmfoaaGreatZsLft
set_option linter.unusedVariables false
set_option linter.unusedSimpArgs false
set_option linter.unusedSectionVars false
namespace Go.Proofs.YtaadhpkpekmfoaaGreat
open Go.RowKit Go.Sort
attribute [local go_sem ↓] exec_load_graph'
attribute [local go_sem] blkOf_ptr

theorem lf_wlen {a : Au} {onto ob : List Int} {mk : Bool} (hs : a.st ≤ 100) (hl : ob.length ≤ 10) : ((lfO a onto ob mk).getD []).length ≤ 1100 := by
  unfold lfO
  split
  · simp
  · next h0 =>
    cases hf : (trA (plA a onto ob)).find? fun p => glB a ob mk p.1 with
    | none => simp
    | some p =>
      have hm := List.mem_of_find?_eq_some hf
      have h1 := tr_wlen (plA a onto ob) _ p hm
      have h2 : (plA a onto ob).st.toNat = (ob.length + 1) * a.st.toNat := by
        show (((ob.length + 1) * a.st.toNat : Nat) : Int).toNat = _
        exact Int.toNat_natCast _
      have h3 : (ob.length + 1) * a.st.toNat ≤ 11 * 100 := Nat.mul_le_mul (by omega) (by omega)
      simp only [Option.map_some, Option.getD_some]
      omega
section
variable {W w : World} {l : List (Nat × List Value)} {A : Option Addr} {n c : Nat} {s : Int} {M : Option Addr} {m d : Nat} {E : Option Addr} {k g : Nat} {a : Au} {A3 A2 : Option Addr} {n3 c3 n2 c2 : Nat} {on ob : List Int}
theorem k_liftA {mk : Bool} {o : Option (List Int)} (hc : cweE a on = 0) (hk : ob.all (fun x => decide (x ∈ kpR a on)) = true) (hv : lfO a on ob mk = o) (ha : AuR w w.heap.size A n c s M m d E k g a) (ho : RdI w w.heap.size A3 on) (hn : on.length = n3) (hc3 : n3 ≤ c3 ∧ c3 ≤ 9223372036854775807) (hb3 : n3 ≤ 100000) (hob : RdI w w.heap.size A2 ob) (hl : ob.length = n2) (hl10 : n2 ≤ 10) (h : LW W l w) :
    Calls Tryz.prog 31 #[.agg #[.slice A n c, .int .i64 s, .slice M m d, .slice E k g], .slice A3 n3 c3, .slice A2 n2 c2, .bool mk] w fun e w' => ∃ A n c, e = .returned (.tuple #[.slice A n c, .bool o.isSome, .int .i64 0]) ∧ RdI w' w'.heap.size A (o.getD []) ∧ (o.getD []).length = n ∧ KW W l w w' := by
  refine (jLiftP_any A n c s M m d E k g A3 n3 c3 a on A2 n2 c2 ob mk w ha ho hn hc3 hb3 hob hl hl10).mono ?_
  rintro e w' ⟨hb, h1 | h1 | h1⟩
  · exact absurd hc h1.1
  · rw [hk] at h1; exact absurd h1.2.1 (by decide)
  · obtain ⟨_, _, h2⟩ := h1
    rw [hv] at h2
    cases o with
    | none => exact ⟨none, 0, 0, h2, fun h => absurd h (by simp), rfl, KW.of h hb⟩
    | some v =>
      obtain ⟨r, he, ho⟩ := h2
      obtain ⟨A, n, c, rfl, h1⟩ := gl7_of ho
      exact ⟨A, n, c, he, h1.rd, h1.len, KW.of h hb⟩
theorem k_liftU {mk : Bool} (hc : cweE a on = 0) (hk : ob.all (fun x => decide (x ∈ kpR a on)) = false) (ha : AuR w w.heap.size A n c s M m d E k g a) (ho : RdI w w.heap.size A3 on) (hn : on.length = n3) (hc3 : n3 ≤ c3 ∧ c3 ≤ 9223372036854775807) (hb3 : n3 ≤ 100000) (hob : RdI w w.heap.size A2 ob) (hl : ob.length = n2) (hl10 : n2 ≤ 10) (h : LW W l w) :
    Calls Tryz.prog 31 #[.agg #[.slice A n c, .int .i64 s, .slice M m d, .slice E k g], .slice A3 n3 c3, .slice A2 n2 c2, .bool mk] w fun e w' => e = .returned (.tuple #[.slice none 0 0, .bool false, .int .i64 9]) ∧ KW W l w w' := by
  refine (jLiftP_any A n c s M m d E k g A3 n3 c3 a on A2 n2 c2 ob mk w ha ho hn hc3 hb3 hob hl hl10).mono ?_
  rintro e w' ⟨hb, h1 | h1 | h1⟩
  · exact absurd hc h1.1
  · exact ⟨h1.2.2, KW.of h hb⟩
  · rw [hk] at h1; exact absurd h1.2.1 (by decide)
theorem k_rliftL {mk : Bool} {o : Option (List Int)} (hri : RightW a) (hs : a.st ≤ 100) (hv : lfO a on ob mk = o) (ha : AuR w w.heap.size A n c s M m d E k g a) (ho : RdI w w.heap.size A3 on) (hn : on.length = n3) (hb3 : n3 ≤ 100000) (hob : RdI w w.heap.size A2 ob) (hl : ob.length = n2) (hl10 : n2 ≤ 10) (h : LW W l w) :
    Calls Tryz.prog 32 #[.agg #[.slice A n c, .int .i64 s, .slice M m d, .slice E k g], .slice A3 n3 c3, .slice A2 n2 c2, .bool mk] w fun e w' => ∃ A n c, e = .returned (.tuple #[.slice A n c, .bool o.isSome]) ∧ RdI w' w'.heap.size A (o.getD []) ∧ (o.getD []).length = n ∧ KW W l w w' := by
  subst hv
  refine (r7Lift_any A n c s M m d E k g a A3 n3 c3 on A2 n2 c2 ob mk w ha hri hs ho hn hb3 hob hl hl10).mono ?_
  rintro e w' ⟨A, n, c, he, h1, h2, hb⟩
  exact ⟨A, n, c, he, h1, h2, KW.of h hb⟩
end
set_option maxHeartbeats 8000000 in
set_option maxRecDepth 100000 in
theorem lawPjLifts (x0 x1 : Int) (gv : Nat → Value) (Ao : Option Addr) (no co : Nat) (ob : List Int) (W : World) (S0 : (Lit.int .u8 x0).wf = true) (S1 : (Lit.int .u8 x1).wf = true) (SG : GrC #[gv 0, gv 1, gv 2, gv 3, gv 4, gv 5, gv 6, gv 7, gv 8, gv 9, gv 10, gv 11, gv 12, gv 13, gv 14, gv 15, gv 16, gv 17, gv 18, gv 19, gv 20, gv 21, gv 22, gv 23, gv 24, gv 25, gv 26]) (SR : RdI W W.heap.size Ao ob) (SL : ob.length = no) (_SW : ∀ z ∈ ob, (Lit.int .i64 z).wf = true) (_SC : no ≤ co ∧ co ≤ 9223372036854775807) :
    Calls Tryz.prog 7 #[.agg #[.int .u8 x0, .int .u8 x1], .agg #[gv 0, gv 1, gv 2, gv 3, gv 4, gv 5, gv 6, gv 7, gv 8, gv 9, gv 10, gv 11, gv 12, gv 13, gv 14, gv 15, gv 16, gv 17, gv 18, gv 19, gv 20, gv 21, gv 22, gv 23, gv 24, gv 25, gv 26], .slice Ao no co] W fun e W' => e = .returned (.bool true) ∧ Below W.heap.size W W' := by
  have HL0 := Lib.hid (by
    have h := (LW.first W [.int .u8 x0, .int .u8 x1] 45).new [gv 0, gv 1, gv 2, gv 3, gv 4, gv 5, gv 6, gv 7, gv 8, gv 9, gv 10, gv 11, gv 12, gv 13, gv 14, gv 15, gv 16, gv 17, gv 18, gv 19, gv 20, gv 21, gv 22, gv 23, gv 24, gv 25, gv 26] 26
    rw [World.size_alloc] at h; exact h)
  have HK := Lib.hid known7_any
  have HS0 := Lib.hid S0
  have HS1 := Lib.hid S1
  have HSG := Lib.hid SG
  have HSR := Lib.hid SR
  have HON := Lib.hid SL
  clear S0 S1 SG SR SL _SC _SW
  by_cases h6 : 5 < no
  · go_enter Tryz.func7, Tryz.ntmps7
    go_wp2_with fail
    refine (lw_call (HK.out _) HL0.out).mono ?_
    rintro e w1 ⟨rfl, hl⟩
    have HL1 := Lib.hid hl
    clear hl
    go_wp2_with fail
    refine (lw_call (HK.out _) HL1.out).mono ?_
    rintro e w2 ⟨rfl, hl⟩
    have HL2 := Lib.hid hl
    clear hl
    go_wp2_with fail
    go_ret
    exact ⟨rfl, HL2.out.bel⟩
  have hn6 : no ≤ 5 := by omega
  go_enter Tryz.func7, Tryz.ntmps7
  go_wp2_with fail
  refine (lw_call (HK.out _) HL0.out).mono ?_
  rintro e w1 ⟨rfl, hl⟩
  have HL1 := Lib.hid hl
  clear hl
  have hgs := gs2_of HL1.out 0 1 (gv := gv) (x0 := x0) (x1 := x1) rfl rfl
  go_wp2_with fail
  go_cut [7, 8] from 25 to 32 (fun v7 v8 wx => PreR2 W [(W.heap.size + 1, [gv 0, gv 1, gv 2, gv 3, gv 4, gv 5, gv 6, gv 7, gv 8, gv 9, gv 10, gv 11, gv 12, gv 13, gv 14, gv 15, gv 16, gv 17, gv 18, gv 19, gv 20, gv 21, gv 22, gv 23, gv 24, gv 25, gv 26]), (W.heap.size, [.int .u8 x0, .int .u8 x1])] v7 v8 wx)
  case first =>
    have HL9 := Lib.hid HL1.out
    go_region_held3 (fun w' => GridOk w' (W.heap.size + 1) ∧ (∀ i : Nat, i < 27 → w'.cell? ⟨W.heap.size + 1, i, none⟩ = some (gv i)) ∧ w'.cell? ⟨W.heap.size, 0, none⟩ = some (.int .u8 x0) ∧ w'.cell? ⟨W.heap.size, 1, none⟩ = some (.int .u8 x1)) (exact gs2_of (W := W) (l := [(W.heap.size + 1, [gv 0, gv 1, gv 2, gv 3, gv 4, gv 5, gv 6, gv 7, gv 8, gv 9, gv 10, gv 11, gv 12, gv 13, gv 14, gv 15, gv 16, gv 17, gv 18, gv 19, gv 20, gv 21, gv 22, gv 23, gv 24, gv 25, gv 26]), (W.heap.size, [.int .u8 x0, .int .u8 x1])]) (by repeat (first | with_reducible exact HL9.out | refine LW.drew ?_ | refine LW.alloc ?_ _ | with_reducible exact (LW.put' HL1.out HL9.out HQ3.out (Nat.le_refl _) _ _ _ _).tail | with_reducible exact (LW.put' HL8.out HL9.out HQ4.out (Nat.le_refl _) _ _ _ _).tail | with_reducible exact (LW.put' HL1.out HL9.out HQ5.out (Nat.le_refl _) _ _ _ _).tail | with_reducible exact (LW.put' HL8.out HL9.out HQ5.out (Nat.le_refl _) _ _ _ _).tail | with_reducible exact (LW.put' HL7.out HL9.out HQ6.out (Nat.le_refl _) _ _ _ _).tail)) 0 1 rfl rfl)
      (first
      | (go_simp; go_at_call 13; (with_reducible refine (events_any x0 _ HS0.out).mono ?_); rintro e w2 ⟨al, hev, A0, c0, rfl, hrd, hb2, hc0, hc02⟩
         have HL8 := Lib.hid (show LW W [(W.heap.size + 1, [gv 0, gv 1, gv 2, gv 3, gv 4, gv 5, gv 6, gv 7, gv 8, gv 9, gv 10, gv 11, gv 12, gv 13, gv 14, gv 15, gv 16, gv 17, gv 18, gv 19, gv 20, gv 21, gv 22, gv 23, gv 24, gv 25, gv 26]), (W.heap.size, [.int .u8 x0, .int .u8 x1])] w2 from LW.call (by repeat (first | with_reducible exact HL9.out | refine LW.drew ?_ | refine LW.alloc ?_ _)) hb2)
         have HL9 := HL8
         have HEV := Lib.hid hev
         have HRD := Lib.hid hrd
         try (have hq : Row w2 w1.heap.size 33 [.slice none 0 0, .int .i64 0, .slice none 0 0, .slice none 0 0] := Row.below (by first | with_reducible exact Row.new w1 [.slice none 0 0, .int .i64 0, .slice none 0 0, .slice none 0 0] 33 | with_reducible exact row_drew (Row.new w1 [.slice none 0 0, .int .i64 0, .slice none 0 0, .slice none 0 0] 33) | with_reducible exact Row.new w1.drew [.slice none 0 0, .int .i64 0, .slice none 0 0, .slice none 0 0] 33) hb2 (by simp); have HQ2 := Lib.hid hq; have y0 := hq.cell 0 rfl; have y1 := hq.cell 1 rfl; have y2 := hq.cell 2 rfl; have y3 := hq.cell 3 rfl; have g0 := hq.frozen 0; have g1 := hq.frozen 1; have g2 := hq.frozen 2; have g3 := hq.frozen 3; clear hq)
         clear hb2 hev hrd hc02)
      | (go_simp; go_at_call 12; refine (make_any A0 al.length c0 w2.heap.size al #[gv 0, gv 1, gv 2, gv 3, gv 4, gv 5, gv 6, gv 7, gv 8, gv 9, gv 10, gv 11, gv 12, gv 13, gv 14, gv 15, gv 16, gv 17, gv 18, gv 19, gv 20, gv 21, gv 22, gv 23, gv 24, gv 25, gv 26] _ (by first | with_reducible exact HRD.out | exact HRD.out.below ((Below.refl _ w2).alloc (Nat.le_refl _) _) (Nat.le_refl _)) (by simp) rfl hc0 HEV.out HSG.out).mono ?_; rintro e w3 ⟨a, v3, hok, rfl, ⟨A, n, c, s, M, m, d, E, k, g, rfl, hau, hfr⟩, hb3⟩
         have HL7 := Lib.hid (show LW W [(W.heap.size + 1, [gv 0, gv 1, gv 2, gv 3, gv 4, gv 5, gv 6, gv 7, gv 8, gv 9, gv 10, gv 11, gv 12, gv 13, gv 14, gv 15, gv 16, gv 17, gv 18, gv 19, gv 20, gv 21, gv 22, gv 23, gv 24, gv 25, gv 26]), (W.heap.size, [.int .u8 x0, .int .u8 x1])] w3 from LW.call (by repeat (first | with_reducible exact HL9.out | refine LW.drew ?_ | refine LW.alloc ?_ _)) hb3)
         have HL9 := HL7
         have HOK := Lib.hid hok
         have HAF := Lib.hid (show AuF a (.agg #[.slice A n c, .int .i64 s, .slice M m d, .slice E k g]) w3 _ from ⟨A, n, c, s, M, m, d, E, k, g, rfl, hau, hfr⟩)
         have HA3 := Lib.hid hau
         try (have hq := Row.below (show Row _ w1.heap.size 33 [.slice none 0 0, .int .i64 0, .slice none 0 0, .slice none 0 0] from by first | with_reducible exact HQ2.out | with_reducible exact row_drew HQ2.out) hb3 (by have := HQ2.out.lt; simpa using this); have HQ3 := Lib.hid hq; have HQL := Lib.hid (Nat.lt_of_lt_of_le HQ2.out.lt (Nat.le_refl _)); have HAS3 := Lib.hid (show AuS w3 w1.heap.size a A n c s M m d E k g from aus_f HAF.out (by have := HQL.out; simpa using this)); have y0 := hq.cell 0 rfl; have y1 := hq.cell 1 rfl; have y2 := hq.cell 2 rfl; have y3 := hq.cell 3 rfl; have g0 := hq.frozen 0; have g1 := hq.frozen 1; have g2 := hq.frozen 2; have g3 := hq.frozen 3; clear hq)
         try (have hq : Row w3 w2.heap.size 33 [.slice none 0 0, .int .i64 0, .slice none 0 0, .slice none 0 0] := Row.below (by first | with_reducible exact Row.new w2 [.slice none 0 0, .int .i64 0, .slice none 0 0, .slice none 0 0] 33 | with_reducible exact row_drew (Row.new w2 [.slice none 0 0, .int .i64 0, .slice none 0 0, .slice none 0 0] 33) | with_reducible exact Row.new w2.drew [.slice none 0 0, .int .i64 0, .slice none 0 0, .slice none 0 0] 33) hb3 (by simp); have HQ4 := Lib.hid hq; have HAS3 := Lib.hid (show AuS w3 w2.heap.size a A n c s M m d E k g from aus_f HAF.out (by simp)); have y0 := hq.cell 0 rfl; have y1 := hq.cell 1 rfl; have y2 := hq.cell 2 rfl; have y3 := hq.cell 3 rfl; have g0 := hq.frozen 0; have g1 := hq.frozen 1; have g2 := hq.frozen 2; have g3 := hq.frozen 3; clear hq)
         clear hb3 hok hau hfr)
      | (go_simp; go_at_call 13; (with_reducible refine (events_own x1 _ HS1.out).mono ?_); rintro e w4 ⟨on, A8, c8, hev8, rfl, ho8, hb4⟩
         have HL6 := Lib.hid (show LW W [(W.heap.size + 1, [gv 0, gv 1, gv 2, gv 3, gv 4, gv 5, gv 6, gv 7, gv 8, gv 9, gv 10, gv 11, gv 12, gv 13, gv 14, gv 15, gv 16, gv 17, gv 18, gv 19, gv 20, gv 21, gv 22, gv 23, gv 24, gv 25, gv 26]), (W.heap.size, [.int .u8 x0, .int .u8 x1])] w4 from LW.call (by repeat (first | with_reducible exact HL9.out | refine LW.drew ?_ | refine LW.alloc ?_ _ | with_reducible exact (LW.put' HL1.out HL9.out HQ3.out (Nat.le_refl _) _ _ _ _).tail | with_reducible exact (LW.put' HL8.out HL9.out HQ4.out (Nat.le_refl _) _ _ _ _).tail)) hb4)
         have HL9 := HL6
         have HE8 := Lib.hid hev8
         have HO8 := Lib.hid ho8
         have HA4 := Lib.hid (show AuR w4 w4.heap.size A n c s M m d E k g a from ((show AuR _ _ A n c s M m d E k g a from by first | with_reducible exact HA3.out | exact (by have := HAS3.out (.slice A n c) (.int .i64 s) (.slice M m d) (.slice E k g); simpa using this) | exact (HA3.out.below ((Below.refl _ w3).alloc (Nat.le_refl _) _) (Nat.le_refl _)).more (by simp)).below hb4 (Nat.le_refl _)).more hb4.size)
         try (have hq := Row.below (show Row _ w1.heap.size 33 [.slice none 0 0, .int .i64 0, .slice none 0 0, .slice none 0 0] from by first | with_reducible exact HQ3.out | with_reducible exact row_drew HQ3.out) hb4 (by have := HQ3.out.lt; simpa using this); have HQ5 := Lib.hid hq; have y0 := hq.cell 0 rfl; have y1 := hq.cell 1 rfl; have y2 := hq.cell 2 rfl; have y3 := hq.cell 3 rfl; have g0 := hq.frozen 0; have g1 := hq.frozen 1; have g2 := hq.frozen 2; have g3 := hq.frozen 3; clear hq; have HS5 := Lib.hid (show AuS w4 w1.heap.size a A n c s M m d E k g from aus_f (HAF.out.below (show Below w3.heap.size w3 w4 from by first | with_reducible exact hb4 | exact (Below.refl _ w3).drew.trans hb4)) (by have := HQL.out; simpa using this)))
         try (have hq := Row.below (show Row _ w2.heap.size 33 [.slice none 0 0, .int .i64 0, .slice none 0 0, .slice none 0 0] from by first | with_reducible exact HQ4.out | with_reducible exact row_drew HQ4.out) hb4 (by have := HQ4.out.lt; simpa using this); have HQ5 := Lib.hid hq; have y0 := hq.cell 0 rfl; have y1 := hq.cell 1 rfl; have y2 := hq.cell 2 rfl; have y3 := hq.cell 3 rfl; have g0 := hq.frozen 0; have g1 := hq.frozen 1; have g2 := hq.frozen 2; have g3 := hq.frozen 3; clear hq; have HS5 := Lib.hid (show AuS w4 w2.heap.size a A n c s M m d E k g from aus_f (HAF.out.below (show Below w3.heap.size w3 w4 from by first | with_reducible exact hb4 | exact (Below.refl _ w3).drew.trans hb4)) (by simp)))
         try (have hq : Row w4 w3.heap.size 33 [.slice none 0 0, .int .i64 0, .slice none 0 0, .slice none 0 0] := Row.below (by first | with_reducible exact Row.new w3 [.slice none 0 0, .int .i64 0, .slice none 0 0, .slice none 0 0] 33 | with_reducible exact row_drew (Row.new w3 [.slice none 0 0, .int .i64 0, .slice none 0 0, .slice none 0 0] 33) | with_reducible exact Row.new w3.drew [.slice none 0 0, .int .i64 0, .slice none 0 0, .slice none 0 0] 33) hb4 (by simp); have HQ6 := Lib.hid hq; have y0 := hq.cell 0 rfl; have y1 := hq.cell 1 rfl; have y2 := hq.cell 2 rfl; have y3 := hq.cell 3 rfl; have g0 := hq.frozen 0; have g1 := hq.frozen 1; have g2 := hq.frozen 2; have g3 := hq.frozen 3; clear hq; have hle6 : w3.heap.size ≤ w4.heap.size := Nat.le_trans (by simp) hb4.size; have HS6 := Lib.hid (aus_r (B := w3.heap.size) (b := w3.heap.size) (HA3.out.below (show Below w3.heap.size w3 w4 from Below.trans (by repeat (first | exact Below.refl _ w3 | refine Below.drew ?_ | refine Below.alloc ?_ (Nat.le_refl _) _)) (hb4.mono (by simp))) (Nat.le_refl _)) (Nat.le_refl _) hle6))
         try (have hq : Row w4 w3.heap.size 33 [.slice A n c, .int .i64 s, .slice M m d, .slice E k g] := Row.below (by first | with_reducible exact Row.new w3 [.slice A n c, .int .i64 s, .slice M m d, .slice E k g] 33 | with_reducible exact row_drew (Row.new w3 [.slice A n c, .int .i64 s, .slice M m d, .slice E k g] 33) | with_reducible exact Row.new w3.drew [.slice A n c, .int .i64 s, .slice M m d, .slice E k g] 33) hb4 (by simp); have HQ7 := Lib.hid hq; clear hq)
         try (have hq : Row w4 w1.heap.size 33 [.slice A n c, .int .i64 s, .slice M m d, .slice E k g] := Row.below (by first | with_reducible exact row_set4 HQ3.out _ _ _ _ | with_reducible exact row_drew (row_set4 HQ3.out _ _ _ _)) hb4 (by have := HQ3.out.lt; simpa using this); have HQ7 := Lib.hid hq; clear hq)
         try (have hq : Row w4 w2.heap.size 33 [.slice A n c, .int .i64 s, .slice M m d, .slice E k g] := Row.below (by first | with_reducible exact row_set4 HQ4.out _ _ _ _ | with_reducible exact row_drew (row_set4 HQ4.out _ _ _ _)) hb4 (by have := HQ4.out.lt; simpa using this); have HQ7 := Lib.hid hq; clear hq)
         clear hb4 hev8 ho8)
      )
    all_goals
      go_wp2_with fail
      go_meet
      case rel => first | exact fin_row HL9.out HQ7.out HEV.out HOK.out HA4.out HE8.out HO8.out | exact fin_new HL9.out HEV.out HOK.out HA4.out HE8.out HO8.out | exact fin_put HL1.out HL9.out HQ5.out (Nat.le_refl _) HEV.out HOK.out HS5.out HE8.out HO8.out | exact fin_put HL8.out HL9.out HQ5.out (Nat.le_refl _) HEV.out HOK.out HS5.out HE8.out HO8.out | exact fin_put HL7.out HL9.out HQ6.out (Nat.le_refl _) HEV.out HOK.out HS6.out HE8.out HO8.out
  case rest =>
    obtain ⟨bc, al, a, A, n, c, s, M, m, d, E, k, g, on, A8, n8, c8, rfl, rfl, HL4, HEV, HOK, HAU, HEV8, HRD8, hn8, hc8⟩ := hcut
    have HB0 := Lib.hid HL4.out.bel
    have HOB := Lib.hid (HL4.out.ints HSR.out)
    have HR8 := HRD8
    have HL5 := Lib.hid (show LW wc ((bc, [.slice A n c, .int .i64 s, .slice M m d, .slice E k g]) :: [(W.heap.size + 1, [gv 0, gv 1, gv 2, gv 3, gv 4, gv 5, gv 6, gv 7, gv 8, gv 9, gv 10, gv 11, gv 12, gv 13, gv 14, gv 15, gv 16, gv 17, gv 18, gv 19, gv 20, gv 21, gv 22, gv 23, gv 24, gv 25, gv 26]), (W.heap.size, [.int .u8 x0, .int .u8 x1])]) wc from ⟨Below.refl _ _, HL4.out.bx⟩)
    have HC := Lib.hid HOK.out.r.chk
    have HRI := Lib.hid HOK.out.r.toRightW
    have hbn := HAU.out.bn
    have hs5 : a.st ≤ 5 := HOK.out.st
    have h85 := Ev5.len (n := 5) HEV8.out
    have HN8 := Lib.hid hn8
    have HC8 := Lib.hid hc8
    have hn85 : n8 ≤ 5 := by rw [← hn8]; exact h85
    have HCW := Lib.hid (cwe_ok HC.out HEV8.out.cs)
    clear hn8 hc8 h85
    clear hgs
    clear HRD8
    obtain ⟨kp, hkp⟩ : ∃ kp, kpR a on = kp := ⟨_, rfl⟩
    have HKP := Lib.hid hkp
    have hkl : kp.length ≤ 100 := by rw [← hkp]; have h1 : (kpR a on).length ≤ a.al.length := List.length_filter_le _ _; have h2 := al_len HRI.out; omega
    clear hkp
    have p0_0 := HL5.out.bx.at 0 rfl 0 rfl
    have p0_1 := HL5.out.bx.at 0 rfl 1 rfl
    have p0_2 := HL5.out.bx.at 0 rfl 2 rfl
    have p0_3 := HL5.out.bx.at 0 rfl 3 rfl
    go_wp2_with fail
    refine (k_rkept HKP.out HAU.out HR8.out HN8.out (by omega) HL5.out).mono ?_
    rintro e w6 ⟨A2, n2, c2, rfl, hg2, hl⟩
    clear p0_0 p0_1 p0_2 p0_3
    have HL6 := Lib.hid hl.lw
    have HAU := Lib.hid (hl.aut HAU.out)
    have HR8 := Lib.hid (hl.ints HR8.out)
    have HOB := Lib.hid (hl.ints HOB.out)
    have HN2 := Lib.hid hg2.len
    have HR2 := Lib.hid hg2.rd
    clear hg2
    have hn25 : n2 ≤ 100 := by rw [← HN2.out]; exact hkl
    clear hl
    have p0_0 := HL6.out.bx.at 0 rfl 0 rfl
    have p0_1 := HL6.out.bx.at 0 rfl 1 rfl
    have p0_2 := HL6.out.bx.at 0 rfl 2 rfl
    have p0_3 := HL6.out.bx.at 0 rfl 3 rfl
    have HKW := Lib.hid (show KW wc ((bc, [.slice A n c, .int .i64 s, .slice M m d, .slice E k g]) :: [(W.heap.size + 1, [gv 0, gv 1, gv 2, gv 3, gv 4, gv 5, gv 6, gv 7, gv 8, gv 9, gv 10, gv 11, gv 12, gv 13, gv 14, gv 15, gv 16, gv 17, gv 18, gv 19, gv 20, gv 21, gv 22, gv 23, gv 24, gv 25, gv 26]), (W.heap.size, [.int .u8 x0, .int .u8 x1])]) w6 w6 from ⟨HL6.out, Below.refl _ _⟩)
    go_wp2_with fail
    go_loopw [10] (fun iv wr => ∃ t : Nat, t ≤ 2 ∧ iv = .int .i64 t ∧ Hid (KW wc ((bc, [.slice A n c, .int .i64 s, .slice M m d, .slice E k g]) :: [(W.heap.size + 1, [gv 0, gv 1, gv 2, gv 3, gv 4, gv 5, gv 6, gv 7, gv 8, gv 9, gv 10, gv 11, gv 12, gv 13, gv 14, gv 15, gv 16, gv 17, gv 18, gv 19, gv 20, gv 21, gv 22, gv 23, gv 24, gv 25, gv 26]), (W.heap.size, [.int .u8 x0, .int .u8 x1])]) w6 wr)) (fun iv _ => 2 - (intOf iv).toNat)
    case atStart => exact ⟨0, by omega, rfl, HKW⟩
    case round =>
      clear HKW
      clear p0_0 p0_1 p0_2 p0_3
      obtain ⟨t, ht2, rfl, hkw⟩ := hrel
      by_cases hall : ob.all (fun x => decide (x ∈ kpR a on)) = true
      · have HALB := Lib.hid hall
        have HALL := Lib.hid (show ∀ x ∈ ob, x ∈ kp from fun x hx => by have h := List.all_eq_true.1 hall x hx; rw [HKP.out] at h; simpa using h)
        clear hall
        obtain ⟨o0, ho0⟩ : ∃ o, lfO a on ob false = o := ⟨_, rfl⟩
        obtain ⟨o1, ho1⟩ : ∃ o, lfO a on ob true = o := ⟨_, rfl⟩
        have HV0 := Lib.hid ho0
        have HV1 := Lib.hid ho1
        have HWL0 := Lib.hid (show (o0.getD []).length ≤ 1100 by rw [← ho0]; exact lf_wlen (by omega) (by rw [HON.out]; omega))
        have HWL1 := Lib.hid (show (o1.getD []).length ≤ 1100 by rw [← ho1]; exact lf_wlen (by omega) (by rw [HON.out]; omega))
        clear ho0 ho1
        obtain rfl | rfl | rfl : t = 0 ∨ t = 1 ∨ t = 2 := by omega
        · have HAU := Lib.hid (hkw.out.aut HAU.out)
          have HR8 := Lib.hid (hkw.out.ints HR8.out)
          have HOB := Lib.hid (hkw.out.ints HOB.out)
          have HR2 := Lib.hid (hkw.out.ints HR2.out)
          have p0_0 := hkw.out.lw.bx.at 0 rfl 0 rfl
          have p0_1 := hkw.out.lw.bx.at 0 rfl 1 rfl
          have p0_2 := hkw.out.lw.bx.at 0 rfl 2 rfl
          have p0_3 := hkw.out.lw.bx.at 0 rfl 3 rfl
          go_wp2_with fail
          refine (k_liftA (mk := false) HCW.out HALB.out (HV0.out) HAU.out HR8.out HN8.out HC8.out (by omega) HOB.out HON.out (by omega) hkw.out.lw).mono ?_
          rintro e v1 ⟨A5, n5, c5, rfl, hr5, hn5, hl⟩
          have HR5 := Lib.hid hr5
          have HN5 := Lib.hid hn5
          have hn55 : n5 ≤ 1100 := by rw [← hn5]; exact HWL0.out
          have HK1 := Lib.hid (show KW wc ((bc, [.slice A n c, .int .i64 s, .slice M m d, .slice E k g]) :: [(W.heap.size + 1, [gv 0, gv 1, gv 2, gv 3, gv 4, gv 5, gv 6, gv 7, gv 8, gv 9, gv 10, gv 11, gv 12, gv 13, gv 14, gv 15, gv 16, gv 17, gv 18, gv 19, gv 20, gv 21, gv 22, gv 23, gv 24, gv 25, gv 26]), (W.heap.size, [.int .u8 x0, .int .u8 x1])]) w6 v1 from ⟨hl.lw, hkw.out.bel.trans (hl.bel.mono hkw.out.bel.size)⟩)
          have HAU := Lib.hid (hl.aut HAU.out)
          have HR8 := Lib.hid (hl.ints HR8.out)
          have HOB := Lib.hid (hl.ints HOB.out)
          have HR2 := Lib.hid (hl.ints HR2.out)
          have HLv := Lib.hid hl.lw
          clear hl p0_0 p0_1 p0_2 p0_3 hr5 hn5
          have HHS := Lib.hid (fun x : Int => lHas_any A2 n2 c2 v1.heap.size kp x v1 HR2.out HN2.out (by omega))
          go_wp2_with fail
          go_loopw [14] (fun i wr => ∃ t : Nat, t ≤ no ∧ i = .int .i64 t ∧ Hid (∀ x ∈ ob.take t, x ∈ kp) ∧ v1 = wr) (fun i _ => no - (intOf i).toNat)
          case atStart => exact ⟨0, Nat.zero_le _, rfl, Lib.hid (by simp), rfl⟩
          case round =>
            obtain ⟨t, ht, rfl, hin, hwr⟩ := hrel
            subst hwr
            by_cases hlt : t < no
            · obtain ⟨bo, oo, rfl, hbo, hco⟩ := HOB.out (by rw [HON.out]; omega)
              have hz : t < ob.length := by rw [HON.out]; exact hlt
              have hc1 := hco t hz
              obtain ⟨x, hxe⟩ : ∃ x, x = ob.getD t 0 := ⟨_, rfl⟩
              rw [← hxe] at hc1
              have HMX := Lib.hid (show x ∈ ob by rw [hxe]; exact getD_mem hz)
              have HIN2 := Lib.hid (show x ∈ kp → ∀ y ∈ ob.take (t + 1), y ∈ kp from fun h y hy => by
                rw [mem_snoc_take hz] at hy
                rcases hy with hy | hy
                · exact hin.out y hy
                · rw [← hy, ← hxe]; exact h)
              have HC1 := Lib.hid (HHS.out x)
              have z0 : (t : Int) < (no : Int) := by omega
              have z1 : (0 : Int) ≤ (t : Int) := by omega
              clear hco hz hxe
              by_cases hxk : x ∈ kp
              · have HNX := Lib.hid (HIN2.out hxk)
                rw [decide_eq_true hxk] at HC1
                clear hxk
                go_wp2_with fail
                refine HC1.out.mono ?_
                rintro e w' ⟨rfl, rfl⟩
                go_wp2_with fail
                go_roundw
                case rel => exact ⟨t + 1, by omega, by go_num, HNX, trivial⟩
                case measure => simp [intOf]; omega
              · exact absurd (HALL.out x HMX.out) hxk
            · have hto : ob.take t = ob := List.take_of_length_le (by rw [HON.out]; omega)
              rw [hto] at hin
              have z0 : (no : Int) ≤ (t : Int) := by omega
              clear hto hin hlt HHS
              have p0_0 := HLv.out.bx.at 0 rfl 0 rfl
              have p0_1 := HLv.out.bx.at 0 rfl 1 rfl
              have p0_2 := HLv.out.bx.at 0 rfl 2 rfl
              have p0_3 := HLv.out.bx.at 0 rfl 3 rfl
              go_wp2_with fail
              refine (k_rliftL (mk := false) HRI.out (by omega) (HV0.out) HAU.out HR8.out HN8.out (by omega) HOB.out HON.out (by omega) HLv.out).mono ?_
              rintro e v2 ⟨A6, n6, c6, rfl, hr6, hn6, hl⟩
              have hn66 : n6 ≤ 1100 := by rw [← hn6]; exact HWL0.out
              have HR5 := Lib.hid (hl.ints HR5.out)
              have HR6 := Lib.hid hr6
              have HN6 := Lib.hid hn6
              have HK2 := Lib.hid (show KW wc ((bc, [.slice A n c, .int .i64 s, .slice M m d, .slice E k g]) :: [(W.heap.size + 1, [gv 0, gv 1, gv 2, gv 3, gv 4, gv 5, gv 6, gv 7, gv 8, gv 9, gv 10, gv 11, gv 12, gv 13, gv 14, gv 15, gv 16, gv 17, gv 18, gv 19, gv 20, gv 21, gv 22, gv 23, gv 24, gv 25, gv 26]), (W.heap.size, [.int .u8 x0, .int .u8 x1])]) w6 v2 from ⟨hl.lw, HK1.out.bel.trans (hl.bel.mono HK1.out.bel.size)⟩)
              clear hl hr6 hn6 p0_0 p0_1 p0_2 p0_3
              go_wp2_with fail
              refine (k_same (decide_eq_true rfl) HR5.out HR6.out HN5.out HN6.out (by omega) (by omega) HK2.out.lw).mono ?_
              rintro e v3 ⟨rfl, hl⟩
              have HK3 := Lib.hid (show KW wc ((bc, [.slice A n c, .int .i64 s, .slice M m d, .slice E k g]) :: [(W.heap.size + 1, [gv 0, gv 1, gv 2, gv 3, gv 4, gv 5, gv 6, gv 7, gv 8, gv 9, gv 10, gv 11, gv 12, gv 13, gv 14, gv 15, gv 16, gv 17, gv 18, gv 19, gv 20, gv 21, gv 22, gv 23, gv 24, gv 25, gv 26]), (W.heap.size, [.int .u8 x0, .int .u8 x1])]) w6 v3 from ⟨hl.lw, HK2.out.bel.trans (hl.bel.mono HK2.out.bel.size)⟩)
              clear hl
              obtain ⟨bs, hbs⟩ : ∃ bs, bs = o0.isSome := ⟨_, rfl⟩
              rw [← hbs]
              clear hbs
              cases bs
              all_goals
                go_wp2_with fail
                go_roundw
                case rel => exact ⟨0 + 1, by omega, by go_num, HK3⟩
                case measure => simp [intOf]
        · have HAU := Lib.hid (hkw.out.aut HAU.out)
          have HR8 := Lib.hid (hkw.out.ints HR8.out)
          have HOB := Lib.hid (hkw.out.ints HOB.out)
          have HR2 := Lib.hid (hkw.out.ints HR2.out)
          have p0_0 := hkw.out.lw.bx.at 0 rfl 0 rfl
          have p0_1 := hkw.out.lw.bx.at 0 rfl 1 rfl
          have p0_2 := hkw.out.lw.bx.at 0 rfl 2 rfl
          have p0_3 := hkw.out.lw.bx.at 0 rfl 3 rfl
          go_wp2_with fail
          refine (k_liftA (mk := true) HCW.out HALB.out (HV1.out) HAU.out HR8.out HN8.out HC8.out (by omega) HOB.out HON.out (by omega) hkw.out.lw).mono ?_
          rintro e v1 ⟨A5, n5, c5, rfl, hr5, hn5, hl⟩
          have HR5 := Lib.hid hr5
          have HN5 := Lib.hid hn5
          have hn55 : n5 ≤ 1100 := by rw [← hn5]; exact HWL1.out
          have HK1 := Lib.hid (show KW wc ((bc, [.slice A n c, .int .i64 s, .slice M m d, .slice E k g]) :: [(W.heap.size + 1, [gv 0, gv 1, gv 2, gv 3, gv 4, gv 5, gv 6, gv 7, gv 8, gv 9, gv 10, gv 11, gv 12, gv 13, gv 14, gv 15, gv 16, gv 17, gv 18, gv 19, gv 20, gv 21, gv 22, gv 23, gv 24, gv 25, gv 26]), (W.heap.size, [.int .u8 x0, .int .u8 x1])]) w6 v1 from ⟨hl.lw, hkw.out.bel.trans (hl.bel.mono hkw.out.bel.size)⟩)
          have HAU := Lib.hid (hl.aut HAU.out)
          have HR8 := Lib.hid (hl.ints HR8.out)
          have HOB := Lib.hid (hl.ints HOB.out)
          have HR2 := Lib.hid (hl.ints HR2.out)
          have HLv := Lib.hid hl.lw
          clear hl p0_0 p0_1 p0_2 p0_3 hr5 hn5
          have HHS := Lib.hid (fun x : Int => lHas_any A2 n2 c2 v1.heap.size kp x v1 HR2.out HN2.out (by omega))
          go_wp2_with fail
          go_loopw [14] (fun i wr => ∃ t : Nat, t ≤ no ∧ i = .int .i64 t ∧ Hid (∀ x ∈ ob.take t, x ∈ kp) ∧ v1 = wr) (fun i _ => no - (intOf i).toNat)
          case atStart => exact ⟨0, Nat.zero_le _, rfl, Lib.hid (by simp), rfl⟩
          case round =>
            obtain ⟨t, ht, rfl, hin, hwr⟩ := hrel
            subst hwr
            by_cases hlt : t < no
            · obtain ⟨bo, oo, rfl, hbo, hco⟩ := HOB.out (by rw [HON.out]; omega)
              have hz : t < ob.length := by rw [HON.out]; exact hlt
              have hc1 := hco t hz
              obtain ⟨x, hxe⟩ : ∃ x, x = ob.getD t 0 := ⟨_, rfl⟩
              rw [← hxe] at hc1
              have HMX := Lib.hid (show x ∈ ob by rw [hxe]; exact getD_mem hz)
              have HIN2 := Lib.hid (show x ∈ kp → ∀ y ∈ ob.take (t + 1), y ∈ kp from fun h y hy => by
                rw [mem_snoc_take hz] at hy
                rcases hy with hy | hy
                · exact hin.out y hy
                · rw [← hy, ← hxe]; exact h)
              have HC1 := Lib.hid (HHS.out x)
              have z0 : (t : Int) < (no : Int) := by omega
              have z1 : (0 : Int) ≤ (t : Int) := by omega
              clear hco hz hxe
              by_cases hxk : x ∈ kp
              · have HNX := Lib.hid (HIN2.out hxk)
                rw [decide_eq_true hxk] at HC1
                clear hxk
                go_wp2_with fail
                refine HC1.out.mono ?_
                rintro e w' ⟨rfl, rfl⟩
                go_wp2_with fail
                go_roundw
                case rel => exact ⟨t + 1, by omega, by go_num, HNX, trivial⟩
                case measure => simp [intOf]; omega
              · exact absurd (HALL.out x HMX.out) hxk
            · have hto : ob.take t = ob := List.take_of_length_le (by rw [HON.out]; omega)
              rw [hto] at hin
              have z0 : (no : Int) ≤ (t : Int) := by omega
              clear hto hin hlt HHS
              have p0_0 := HLv.out.bx.at 0 rfl 0 rfl
              have p0_1 := HLv.out.bx.at 0 rfl 1 rfl
              have p0_2 := HLv.out.bx.at 0 rfl 2 rfl
              have p0_3 := HLv.out.bx.at 0 rfl 3 rfl
              go_wp2_with fail
              refine (k_rliftL (mk := true) HRI.out (by omega) (HV1.out) HAU.out HR8.out HN8.out (by omega) HOB.out HON.out (by omega) HLv.out).mono ?_
              rintro e v2 ⟨A6, n6, c6, rfl, hr6, hn6, hl⟩
              have hn66 : n6 ≤ 1100 := by rw [← hn6]; exact HWL1.out
              have HR5 := Lib.hid (hl.ints HR5.out)
              have HR6 := Lib.hid hr6
              have HN6 := Lib.hid hn6
              have HK2 := Lib.hid (show KW wc ((bc, [.slice A n c, .int .i64 s, .slice M m d, .slice E k g]) :: [(W.heap.size + 1, [gv 0, gv 1, gv 2, gv 3, gv 4, gv 5, gv 6, gv 7, gv 8, gv 9, gv 10, gv 11, gv 12, gv 13, gv 14, gv 15, gv 16, gv 17, gv 18, gv 19, gv 20, gv 21, gv 22, gv 23, gv 24, gv 25, gv 26]), (W.heap.size, [.int .u8 x0, .int .u8 x1])]) w6 v2 from ⟨hl.lw, HK1.out.bel.trans (hl.bel.mono HK1.out.bel.size)⟩)
              clear hl hr6 hn6 p0_0 p0_1 p0_2 p0_3
              go_wp2_with fail
              refine (k_same (decide_eq_true rfl) HR5.out HR6.out HN5.out HN6.out (by omega) (by omega) HK2.out.lw).mono ?_
              rintro e v3 ⟨rfl, hl⟩
              have HK3 := Lib.hid (show KW wc ((bc, [.slice A n c, .int .i64 s, .slice M m d, .slice E k g]) :: [(W.heap.size + 1, [gv 0, gv 1, gv 2, gv 3, gv 4, gv 5, gv 6, gv 7, gv 8, gv 9, gv 10, gv 11, gv 12, gv 13, gv 14, gv 15, gv 16, gv 17, gv 18, gv 19, gv 20, gv 21, gv 22, gv 23, gv 24, gv 25, gv 26]), (W.heap.size, [.int .u8 x0, .int .u8 x1])]) w6 v3 from ⟨hl.lw, HK2.out.bel.trans (hl.bel.mono HK2.out.bel.size)⟩)
              clear hl
              obtain ⟨bs, hbs⟩ : ∃ bs, bs = o1.isSome := ⟨_, rfl⟩
              rw [← hbs]
              clear hbs
              cases bs
              all_goals
                go_wp2_with fail
                go_roundw
                case rel => exact ⟨1 + 1, by omega, by go_num, HK3⟩
                case measure => simp [intOf]
        · go_wp2_with fail
          go_ret
          exact ⟨rfl, HB0.out.trans (hkw.out.lw.bel.mono HB0.out.size)⟩
      · have HALB := Lib.hid (show ob.all (fun x => decide (x ∈ kpR a on)) = false from Bool.eq_false_iff.mpr hall)
        clear hall
        obtain rfl | rfl | rfl : t = 0 ∨ t = 1 ∨ t = 2 := by omega
        · have HAU := Lib.hid (hkw.out.aut HAU.out)
          have HR8 := Lib.hid (hkw.out.ints HR8.out)
          have HOB := Lib.hid (hkw.out.ints HOB.out)
          have HR2 := Lib.hid (hkw.out.ints HR2.out)
          have p0_0 := hkw.out.lw.bx.at 0 rfl 0 rfl
          have p0_1 := hkw.out.lw.bx.at 0 rfl 1 rfl
          have p0_2 := hkw.out.lw.bx.at 0 rfl 2 rfl
          have p0_3 := hkw.out.lw.bx.at 0 rfl 3 rfl
          go_wp2_with fail
          refine (k_liftU (mk := false) HCW.out HALB.out HAU.out HR8.out HN8.out HC8.out (by omega) HOB.out HON.out (by omega) hkw.out.lw).mono ?_
          rintro e v1 ⟨rfl, hl⟩
          have HK1 := Lib.hid (show KW wc ((bc, [.slice A n c, .int .i64 s, .slice M m d, .slice E k g]) :: [(W.heap.size + 1, [gv 0, gv 1, gv 2, gv 3, gv 4, gv 5, gv 6, gv 7, gv 8, gv 9, gv 10, gv 11, gv 12, gv 13, gv 14, gv 15, gv 16, gv 17, gv 18, gv 19, gv 20, gv 21, gv 22, gv 23, gv 24, gv 25, gv 26]), (W.heap.size, [.int .u8 x0, .int .u8 x1])]) w6 v1 from ⟨hl.lw, hkw.out.bel.trans (hl.bel.mono hkw.out.bel.size)⟩)
          have HAU := Lib.hid (hl.aut HAU.out)
          have HR8 := Lib.hid (hl.ints HR8.out)
          have HOB := Lib.hid (hl.ints HOB.out)
          have HR2 := Lib.hid (hl.ints HR2.out)
          have HLv := Lib.hid hl.lw
          clear hl p0_0 p0_1 p0_2 p0_3
          have HHS := Lib.hid (fun x : Int => lHas_any A2 n2 c2 v1.heap.size kp x v1 HR2.out HN2.out (by omega))
          go_wp2_with fail
          go_loopw [14] (fun i wr => ∃ t : Nat, t ≤ no ∧ i = .int .i64 t ∧ Hid (∀ x ∈ ob.take t, x ∈ kp) ∧ v1 = wr) (fun i _ => no - (intOf i).toNat)
          case atStart => exact ⟨0, Nat.zero_le _, rfl, Lib.hid (by simp), rfl⟩
          case round =>
            obtain ⟨t, ht, rfl, hin, hwr⟩ := hrel
            subst hwr
            by_cases hlt : t < no
            · obtain ⟨bo, oo, rfl, hbo, hco⟩ := HOB.out (by rw [HON.out]; omega)
              have hz : t < ob.length := by rw [HON.out]; exact hlt
              have hc1 := hco t hz
              obtain ⟨x, hxe⟩ : ∃ x, x = ob.getD t 0 := ⟨_, rfl⟩
              rw [← hxe] at hc1
              have HMX := Lib.hid (show x ∈ ob by rw [hxe]; exact getD_mem hz)
              have HIN2 := Lib.hid (show x ∈ kp → ∀ y ∈ ob.take (t + 1), y ∈ kp from fun h y hy => by
                rw [mem_snoc_take hz] at hy
                rcases hy with hy | hy
                · exact hin.out y hy
                · rw [← hy, ← hxe]; exact h)
              have HC1 := Lib.hid (HHS.out x)
              have z0 : (t : Int) < (no : Int) := by omega
              have z1 : (0 : Int) ≤ (t : Int) := by omega
              clear hco hz hxe
              by_cases hxk : x ∈ kp
              · have HNX := Lib.hid (HIN2.out hxk)
                rw [decide_eq_true hxk] at HC1
                clear hxk
                go_wp2_with fail
                refine HC1.out.mono ?_
                rintro e w' ⟨rfl, rfl⟩
                go_wp2_with fail
                go_roundw
                case rel => exact ⟨t + 1, by omega, by go_num, HNX, trivial⟩
                case measure => simp [intOf]; omega
              · rw [decide_eq_false hxk] at HC1
                clear hxk
                go_wp2_with fail
                refine HC1.out.mono ?_
                rintro e w' ⟨rfl, rfl⟩
                go_wp2_with fail
                go_ret
                exact ⟨rfl, HB0.out.trans (HLv.out.bel.mono HB0.out.size)⟩
            · have hto : ob.take t = ob := List.take_of_length_le (by rw [HON.out]; omega)
              rw [hto] at hin
              exact absurd (show ob.all (fun x => decide (x ∈ kpR a on)) = true by rw [List.all_eq_true]; intro x hx; rw [HKP.out]; exact decide_eq_true (hin.out x hx)) (by rw [HALB.out]; decide)
        · have HAU := Lib.hid (hkw.out.aut HAU.out)
          have HR8 := Lib.hid (hkw.out.ints HR8.out)
          have HOB := Lib.hid (hkw.out.ints HOB.out)
          have HR2 := Lib.hid (hkw.out.ints HR2.out)
          have p0_0 := hkw.out.lw.bx.at 0 rfl 0 rfl
          have p0_1 := hkw.out.lw.bx.at 0 rfl 1 rfl
          have p0_2 := hkw.out.lw.bx.at 0 rfl 2 rfl
          have p0_3 := hkw.out.lw.bx.at 0 rfl 3 rfl
          go_wp2_with fail
          refine (k_liftU (mk := true) HCW.out HALB.out HAU.out HR8.out HN8.out HC8.out (by omega) HOB.out HON.out (by omega) hkw.out.lw).mono ?_
          rintro e v1 ⟨rfl, hl⟩
          have HK1 := Lib.hid (show KW wc ((bc, [.slice A n c, .int .i64 s, .slice M m d, .slice E k g]) :: [(W.heap.size + 1, [gv 0, gv 1, gv 2, gv 3, gv 4, gv 5, gv 6, gv 7, gv 8, gv 9, gv 10, gv 11, gv 12, gv 13, gv 14, gv 15, gv 16, gv 17, gv 18, gv 19, gv 20, gv 21, gv 22, gv 23, gv 24, gv 25, gv 26]), (W.heap.size, [.int .u8 x0, .int .u8 x1])]) w6 v1 from ⟨hl.lw, hkw.out.bel.trans (hl.bel.mono hkw.out.bel.size)⟩)
          have HAU := Lib.hid (hl.aut HAU.out)
          have HR8 := Lib.hid (hl.ints HR8.out)
          have HOB := Lib.hid (hl.ints HOB.out)
          have HR2 := Lib.hid (hl.ints HR2.out)
          have HLv := Lib.hid hl.lw
          clear hl p0_0 p0_1 p0_2 p0_3
          have HHS := Lib.hid (fun x : Int => lHas_any A2 n2 c2 v1.heap.size kp x v1 HR2.out HN2.out (by omega))
          go_wp2_with fail
          go_loopw [14] (fun i wr => ∃ t : Nat, t ≤ no ∧ i = .int .i64 t ∧ Hid (∀ x ∈ ob.take t, x ∈ kp) ∧ v1 = wr) (fun i _ => no - (intOf i).toNat)
          case atStart => exact ⟨0, Nat.zero_le _, rfl, Lib.hid (by simp), rfl⟩
          case round =>
            obtain ⟨t, ht, rfl, hin, hwr⟩ := hrel
            subst hwr
            by_cases hlt : t < no
            · obtain ⟨bo, oo, rfl, hbo, hco⟩ := HOB.out (by rw [HON.out]; omega)
              have hz : t < ob.length := by rw [HON.out]; exact hlt
              have hc1 := hco t hz
              obtain ⟨x, hxe⟩ : ∃ x, x = ob.getD t 0 := ⟨_, rfl⟩
              rw [← hxe] at hc1
              have HMX := Lib.hid (show x ∈ ob by rw [hxe]; exact getD_mem hz)
              have HIN2 := Lib.hid (show x ∈ kp → ∀ y ∈ ob.take (t + 1), y ∈ kp from fun h y hy => by
                rw [mem_snoc_take hz] at hy
                rcases hy with hy | hy
                · exact hin.out y hy
                · rw [← hy, ← hxe]; exact h)
              have HC1 := Lib.hid (HHS.out x)
              have z0 : (t : Int) < (no : Int) := by omega
              have z1 : (0 : Int) ≤ (t : Int) := by omega
              clear hco hz hxe
              by_cases hxk : x ∈ kp
              · have HNX := Lib.hid (HIN2.out hxk)
                rw [decide_eq_true hxk] at HC1
                clear hxk
                go_wp2_with fail
                refine HC1.out.mono ?_
                rintro e w' ⟨rfl, rfl⟩
                go_wp2_with fail
                go_roundw
                case rel => exact ⟨t + 1, by omega, by go_num, HNX, trivial⟩
                case measure => simp [intOf]; omega
              · rw [decide_eq_false hxk] at HC1
                clear hxk
                go_wp2_with fail
                refine HC1.out.mono ?_
                rintro e w' ⟨rfl, rfl⟩
                go_wp2_with fail
                go_ret
                exact ⟨rfl, HB0.out.trans (HLv.out.bel.mono HB0.out.size)⟩
            · have hto : ob.take t = ob := List.take_of_length_le (by rw [HON.out]; omega)
              rw [hto] at hin
              exact absurd (show ob.all (fun x => decide (x ∈ kpR a on)) = true by rw [List.all_eq_true]; intro x hx; rw [HKP.out]; exact decide_eq_true (hin.out x hx)) (by rw [HALB.out]; decide)
        · go_wp2_with fail
          go_ret
          exact ⟨rfl, HB0.out.trans (hkw.out.lw.bel.mono HB0.out.size)⟩
end Go.Proofs.YtaadhpkpekmfoaaGreat
