/- Texts merged: what follows were texts of their own. -/
import Derived.Test.YtedleffmbddccaaDoorZa5
import Derived.Test.YtedleffmbddccaaDoorZa4
import Derived.Lib.TrailingZeros
import Derived.Laws.BitsAllLaws
import Derived.Shelf.Spec.TrailingZeros
import Derived.Test.YtedleffmbddccaaDoorZa3
import Derived.Laws.CopyOwn
import Derived.Laws.ResultCell
set_option linter.unusedVariables false
set_option linter.unusedSimpArgs false
set_option linter.unusedSectionVars false
/- Layer 3: Empty of the reference. -/
namespace Go.Proofs.YtedleffmbddccaaDoor
open Go.RowKit Go.Sort

theorem own_off4 {X base N : Nat} {v v0 v1 v2 v3 : Value} {w3 : World} {e : TypeId} {sz : Nat} {xs : List Value} (h : w3.ownsRow base e sz v N xs) (hr : v.ownBlock ≠ some X) :
    ((((w3.setCell ⟨X, 0, none⟩ v0).setCell ⟨X, 1, none⟩ v1).setCell ⟨X, 2, none⟩ v2).setCell ⟨X, 3, none⟩ v3).ownsRow base e sz v N xs :=
  ownsRow_setCell_other (a := ⟨X, 3, none⟩) (ownsRow_setCell_other (a := ⟨X, 2, none⟩) (ownsRow_setCell_other (a := ⟨X, 1, none⟩) (ownsRow_setCell_other (a := ⟨X, 0, none⟩) h hr v0) hr v1) hr v2) hr v3

set_option maxHeartbeats 2000000 in
set_option maxRecDepth 100000 in
theorem rEmpty_any (A : Option Addr) (n c B : Nat) (zs : List Int) (w : World) (hx : RdI w B A zs) (hB : B ≤ w.heap.size) (hn : zs.length = n) (hb : n ≤ 100000) :
    Calls Tryd.prog 79 #[.slice A n c] w fun e w' => ∃ A' c', e = .returned (.agg #[.slice A' n c', .int .i64 0, .slice none 0 0, .slice none 0 0]) ∧ Own w' w.heap.size (.slice A' n c') zs ∧ Below w.heap.size w w' ∧ n ≤ c' ∧ c' ≤ 9223372036854775807 := by
  have HN := Lib.hid hn
  have hRes := Lib.hid ((Row.new w [.slice none 0 0, .int .i64 0, .slice none 0 0, .slice none 0 0] 34).alloc (.cells #[] 3))
  have HB2 := Lib.hid (((Below.refl w.heap.size w).alloc (Nat.le_refl _) (.cells #[.slice none 0 0, .int .i64 0, .slice none 0 0, .slice none 0 0] 34)).alloc (by simp) (.cells #[] 3))
  have HX := Lib.hid (hx.below HB2.out hB)
  have HO := Lib.hid (show ((w.alloc (.cells #[.slice none 0 0, .int .i64 0, .slice none 0 0, .slice none 0 0] 34)).alloc (.cells #[] 3)).ownsRow (w.heap.size + 1) 3 1 (.slice (some ⟨w.heap.size + 1, 0, none⟩) 0 0) 0 (([] : List Int).map (Value.int .i64)) by
    have := World.ownsRow_lit (base := w.heap.size + 1) (size := 1) (e := 3) (w.alloc (.cells #[.slice none 0 0, .int .i64 0, .slice none 0 0, .slice none 0 0] 34)) #[] 0 (by simp) (by unfold maxLen; omega) rfl
    simpa using this)
  clear hx hn
  go_enter Tryd.func79, Tryd.ntmps79
  go_wp2_with (at_builtin; refine wpList_app_rd rfl (.tmp 3) (.tmp 4) rfl (w.heap.size + 1) _ 0 [] rfl HO.out B A n c zs rfl HX.out HN.out (by unfold maxLen; omega) (by omega) (by simp) ?_)
  intro v1 w1 hown hgrow
  have hown1 : Own w1 (w.heap.size + 1) v1 zs := by unfold Own; rw [HN.out]; simpa using hown
  obtain ⟨A', c', hv, _, hc1, hc2⟩ := own_rdc hown1
  rw [HN.out] at hv hc1
  subst hv
  have hr1 := Lib.hid (hRes.out.grown hgrow (by simp [Value.ownBlock]))
  have hb1 := Lib.hid (HB2.out.grown hgrow (by simp; omega) (fun k hk => by simp [Value.ownBlock] at hk; omega))
  have HO1 := Lib.hid hown1
  have r0 := hr1.out.cell 0 rfl
  have r1 := hr1.out.cell 1 rfl
  have r2 := hr1.out.cell 2 rfl
  have r3 := hr1.out.cell 3 rfl
  have z0 := hr1.out.frozen 0
  have z1 := hr1.out.frozen 1
  have z2 := hr1.out.frozen 2
  have z3 := hr1.out.frozen 3
  clear hown hown1 hgrow
  go_wp2_with fail
  (try simp only [Exit.inBlock, Exit.then])
  refine bodyPost_ret (v := .agg #[.slice A' n c', .int .i64 0, .slice none 0 0, .slice none 0 0]) ?_ rfl ⟨A', c', rfl, ?_, ?_, hc1, hc2⟩
  · rw [results_cell1 rfl]
    go_simp
  · exact own_more (own_off4 (X := w.heap.size) HO1.out (fun e => by have := (HO1.out.lt _ e).1; omega)) (by omega)
  · exact below_set4 hb1.out (Nat.le_refl _) _ _ _ _
end Go.Proofs.YtedleffmbddccaaDoor

/- Layer 3: Enabled and IsCanonical of the program. -/
namespace Go.Proofs.YtedleffmbddccaaDoor
open Go.RowKit Go.Sort

/-- What Enabled hands back. -/
def enR (a : Au) (q : Int) : List Int × Int := if plE a q ≠ 0 then ([], plE a q) else ((succ a.ed q).map Ed.e, 0)
/-- A list in new memory and an error. -/
def GivesP (w : World) (r : List Int × Int) (e : Ending) (w' : World) : Prop := ∃ A c, e = .returned (.tuple #[.slice A r.1.length c, .int .i64 r.2]) ∧ RdI w' w'.heap.size A r.1 ∧ Below w.heap.size w w' ∧ r.1.length ≤ c ∧ c ≤ 9223372036854775807
theorem succ_take_yes {l : List Ed} {t : Nat} {x : Ed} {q : Int} (h : l[t]? = some x) (hq : x.f = q) : (succ (l.take (t + 1)) q).map Ed.e = (succ (l.take t) q).map Ed.e ++ [x.e] := by
  rw [take_succ_ed h]; unfold succ; rw [List.filter_append, List.map_append]; simp [hq]
theorem succ_take_no {l : List Ed} {t : Nat} {x : Ed} {q : Int} (h : l[t]? = some x) (hq : ¬ x.f = q) : (succ (l.take (t + 1)) q).map Ed.e = (succ (l.take t) q).map Ed.e := by
  rw [take_succ_ed h]; unfold succ; rw [List.filter_append]; simp [hq]
theorem succ_take_len (l : List Ed) (t : Nat) (q : Int) : ((succ (l.take t) q).map Ed.e).length ≤ t := by
  rw [List.length_map]; unfold succ
  exact Nat.le_trans (List.length_filter_le _ _) (List.length_take_le _ _)

/-- Whether an automaton is right and its own canonical form. -/
def isC (a : Au) : Bool := decide (chkE a = 0) && decide (a = canA a)
/-- The argument's box. -/
structure IB (w : World) (A : Option Addr) (n c : Nat) (s : Int) (M : Option Addr) (m d : Nat) (E : Option Addr) (k g : Nat) (w' : World) : Prop where
  bel : Below w.heap.size w w'
  bx : BoxA w' w.heap.size A n c s M m d E k g
  lt : w.heap.size < w'.heap.size
section
variable {w w1 w2 : World} {A : Option Addr} {n c : Nat} {s : Int} {M : Option Addr} {m d : Nat} {E : Option Addr} {k g : Nat}
theorem IB.call (h : IB w A n c s M m d E k g w1) (hb : Below w1.heap.size w1 w2) : IB w A n c s M m d E k g w2 := ⟨h.bel.trans (hb.mono h.bel.size), h.bx.below hb h.lt, Nat.lt_of_lt_of_le h.lt hb.size⟩
theorem IB.drew (h : IB w A n c s M m d E k g w1) : IB w A n c s M m d E k g w1.drew := ⟨h.bel.drew, ⟨h.bx.c0, h.bx.c1, h.bx.c2, h.bx.c3⟩, h.lt⟩
theorem IB.made (w : World) : IB w A n c s M m d E k g (w.alloc (.cells #[.slice A n c, .int .i64 s, .slice M m d, .slice E k g] 34)) := ⟨(Below.refl _ _).alloc (Nat.le_refl _) _, BoxA.made w A n c s M m d E k g 34, by simp⟩
end

set_option maxHeartbeats 4000000 in
set_option maxRecDepth 100000 in
theorem mIsCanonical_any (A : Option Addr) (n c : Nat) (s : Int) (M : Option Addr) (m d : Nat) (E : Option Addr) (k g : Nat) (a : Au) (w : World) (h : AuR w w.heap.size A n c s M m d E k g a) :
    Calls Tryd.prog 39 #[.agg #[.slice A n c, .int .i64 s, .slice M m d, .slice E k g]] w fun e w' => e = .returned (.bool (isC a)) ∧ Below w.heap.size w w' := by
  have HI0 := Lib.hid (IB.made (A := A) (n := n) (c := c) (s := s) (M := M) (m := m) (d := d) (E := E) (k := k) (g := g) w)
  have HI0d := Lib.hid HI0.out.drew
  have HAt := Lib.hid (fun W (hW : Below w.heap.size w W) => (h.below hW (Nat.le_refl _)).more hW.size)
  obtain ⟨u, hu⟩ : ∃ u, u = chkE a := ⟨_, rfl⟩
  have HC := Lib.hid (fun W (hI : IB w A n c s M m d E k g W) => (mCheck_any A n c s M m d E k g a W (HAt.out W hI.bel)).mono (R' := fun e w' => e = .returned (.int .i64 u) ∧ IB w A n c s M m d E k g w') fun e w' hh => ⟨by rw [hh.1, hu], hI.call hh.2⟩)
  have HU := Lib.hid hu
  obtain ⟨p0, p1, p2, p3⟩ := HI0.out.bx
  by_cases h0 : u = 0
  · have hri := Lib.hid (right_of (a := a) (by rw [← hu, h0]))
    obtain ⟨r, hr⟩ : ∃ r, r = decide (a = canA a) := ⟨_, rfl⟩
    have hisC := Lib.hid (show isC a = r by rw [isC, ← hu, ← hr, h0]; simp)
    rw [hisC.out]
    have HCan := Lib.hid (fun W (hI : IB w A n c s M m d E k g W) => (canon_all A n c s M m d E k g a W.heap.size W (HAt.out W hI.bel) (Nat.le_refl _) hri.out.toRightW (by have := hri.out.st1; omega)).mono (R' := fun e w' => ∃ A2 n2 c2 s2 M2 m2 d2 E2 k2 g2, e = .returned (.agg #[.slice A2 n2 c2, .int .i64 s2, .slice M2 m2 d2, .slice E2 k2 g2]) ∧ AuR w' w'.heap.size A2 n2 c2 s2 M2 m2 d2 E2 k2 g2 (canA a) ∧ IB w A n c s M m d E k g w') fun e w' hh => by
      obtain ⟨v, e1, ⟨A2, n2, c2, s2, M2, m2, d2, E2, k2, g2, rfl, hx, _⟩, hb⟩ := hh
      exact ⟨A2, n2, c2, s2, M2, m2, d2, E2, k2, g2, e1, hx, hI.call hb⟩)
    have HRr := Lib.hid hr
    have hd : (u == 0) = true := by simp [h0]
    clear h hu hr h0
    go_enter Tryd.func39, Tryd.ntmps39
    go_wp2_with fail
    go_region_held3 (fun w' => w'.cell? ⟨w.heap.size, 0, none⟩ = some (.slice A n c) ∧ w'.cell? ⟨w.heap.size, 1, none⟩ = some (.int .i64 s) ∧ w'.cell? ⟨w.heap.size, 2, none⟩ = some (.slice M m d) ∧ w'.cell? ⟨w.heap.size, 3, none⟩ = some (.slice E k g)) (first | with_reducible exact ⟨p0, p1, p2, p3⟩ | go_keep)
      (first
      | (go_simp; go_at_call 46; (first | with_reducible refine (HC.out _ HI0.out).mono ?_ | with_reducible refine (HC.out _ HI0d.out).mono ?_); rintro e w3 ⟨rfl, hI3⟩
         have HI3 := Lib.hid hI3
         have HI3d := Lib.hid hI3.drew
         obtain ⟨p0, p1, p2, p3⟩ := hI3.bx
         clear hI3)
      | (go_simp; go_at_call 64; (first | with_reducible refine (HCan.out _ HI3.out).mono ?_ | with_reducible refine (HCan.out _ HI3d.out).mono ?_); rintro e w4 ⟨A2, n2, c2, s2, M2, m2, d2, E2, k2, g2, rfl, hau, hI4⟩
         have HI4 := Lib.hid hI4
         have HI4d := Lib.hid hI4.drew
         have HE4 := Lib.hid ((mEqual_any A n c s M m d E k g A2 n2 c2 s2 M2 m2 d2 E2 k2 g2 a (canA a) w4.heap.size w4 (HAt.out w4 hI4.bel) hau (Nat.le_refl _)).mono (R' := fun e w' => e = .returned (.bool r) ∧ IB w A n c s M m d E k g w') fun e w' hh => ⟨by rw [hh.1, ← HRr.out], hI4.call hh.2⟩)
         have HE4d := Lib.hid ((mEqual_any A n c s M m d E k g A2 n2 c2 s2 M2 m2 d2 E2 k2 g2 a (canA a) w4.heap.size w4.drew (HAt.out w4.drew hI4.drew.bel) (AuR.keep hau fun b o _ => rfl) (Nat.le_refl _)).mono (R' := fun e w' => e = .returned (.bool r) ∧ IB w A n c s M m d E k g w') fun e w' hh => ⟨by rw [hh.1, ← HRr.out], hI4.drew.call hh.2⟩)
         obtain ⟨p0, p1, p2, p3⟩ := hI4.bx
         clear hI4 hau)
      | (go_simp; go_at_call 30; (first | with_reducible refine HE4.out.mono ?_ | with_reducible refine HE4d.out.mono ?_); rintro e w5 ⟨rfl, hI5⟩
         have HI5 := Lib.hid hI5
         obtain ⟨p0, p1, p2, p3⟩ := hI5.bx
         clear hI5))
    all_goals
      go_wp2_with fail
      go_ret
      exact ⟨rfl, by first | exact HI5.out.bel | exact HI5.out.bel.drew⟩
  · have hisC := Lib.hid (show isC a = false by rw [isC, ← hu]; simp [h0])
    rw [hisC.out]
    have hd : (u == 0) = false := by simp [h0]
    clear h hu h0
    go_enter Tryd.func39, Tryd.ntmps39
    go_wp2_with fail
    go_region_law (first
      | (go_simp; go_at_call 46; refine (HC.out _ HI0d.out).mono ?_; rintro e w3 ⟨rfl, hI3⟩
         have HI3 := Lib.hid hI3
         obtain ⟨p0, p1, p2, p3⟩ := hI3.bx
         clear hI3))
    all_goals
      go_wp2_with fail
      go_ret
      exact ⟨rfl, by first | exact HI3.out.bel | exact HI3.out.bel.drew⟩
end Go.Proofs.YtedleffmbddccaaDoor

/- Layer 3: Closed of the program. -/
namespace Go.Proofs.YtedleffmbddccaaDoor
open Go.RowKit Go.Sort

/-- The canonical form with all states marked. -/
def clsA (a : Au) : Au := ⟨a.al, ((fnd a).length : Int), rng (fnd a).length, canEn a (fnd a).length⟩
def clsR (a : Au) : Au × Int := if chkE a ≠ 0 then (zeroA, chkE a) else (clsA a, 0)
theorem rng_succ (t : Nat) : rng (t + 1) = rng t ++ [(t : Int)] := by simp [rng, List.range_succ]

end Go.Proofs.YtedleffmbddccaaDoor

/- Layer 3: Complete of the program. -/
namespace Go.Proofs.YtedleffmbddccaaDoor
open Go.RowKit Go.Sort

/-- Where an event leads when the further state is there. -/
def toC (a : Au) (q ev : Int) : Int := (stepO a q ev).getD a.st
def rowC (a : Au) (q : Int) : List Ed := a.al.map fun ev => ⟨q, ev, toC a q ev⟩
def compE (a : Au) (n : Nat) : List Ed := (List.range n).flatMap fun (q : Nat) => rowC a (q : Int)
/-- An automaton with a further state to which all events lead that aren't possible. -/
def compA (a : Au) : Au := ⟨a.al, a.st + 1, a.mr, compE a (a.st.toNat + 1)⟩
def cmpR (a : Au) : Au × Int := if chkE a ≠ 0 then (zeroA, chkE a) else (canA (compA a), 0)
theorem compE_succ (a : Au) (n : Nat) : compE a (n + 1) = compE a n ++ rowC a (n : Int) := by simp [compE, List.range_succ]
theorem rowC_len (a : Au) (q : Int) : (rowC a q).length = a.al.length := by simp [rowC]
theorem compE_len (a : Au) : ∀ n, (compE a n).length = n * a.al.length
  | 0 => by simp [compE]
  | n + 1 => by rw [compE_succ, List.length_append, compE_len a n, rowC_len, Nat.add_mul, Nat.one_mul]
theorem rowC_take {a : Au} {q : Int} {t : Nat} (h : t < a.al.length) : (rowC a q).take (t + 1) = (rowC a q).take t ++ [⟨q, a.al.getD t 0, toC a q (a.al.getD t 0)⟩] := by
  unfold rowC
  rw [← List.map_take, ← List.map_take, take_getD h, List.map_append]; rfl
theorem rowC_all {a : Au} {q : Int} {n : Nat} (h : a.al.length = n) : (rowC a q).take n = rowC a q := List.take_of_length_le (by rw [rowC_len]; omega)
theorem mem_compE {a : Au} {n : Nat} {y : Ed} : y ∈ compE a n ↔ ∃ q : Nat, q < n ∧ ∃ ev ∈ a.al, y = ⟨(q : Int), ev, toC a q ev⟩ := by
  unfold compE rowC
  simp only [List.mem_flatMap, List.mem_range, List.mem_map]
  constructor
  · rintro ⟨i, hi, x, hx, e⟩; exact ⟨i, hi, x, hx, e.symm⟩
  · rintro ⟨i, hi, x, hx, e⟩; exact ⟨i, hi, x, hx, e.symm⟩
theorem toC_range {a : Au} (h : RightW a) (q ev : Int) : 0 ≤ toC a q ev ∧ toC a q ev < a.st + 1 := by
  unfold toC
  cases hs : stepO a q ev with
  | none => have := h.st0; simp; omega
  | some t => have := step_range h hs; simp; omega
theorem compE_sorted {a : Au} (h : RightW a) : ∀ n, (compE a n).Pairwise ltE
  | 0 => by simp [compE]
  | n + 1 => by
    rw [compE_succ, List.pairwise_append]
    refine ⟨compE_sorted h n, ?_, fun x hx y hy => ?_⟩
    · unfold rowC
      rw [List.pairwise_map]
      exact h.alo.imp fun hlt => by unfold ltE; simp; exact hlt
    · obtain ⟨i, hi, z, _, rfl⟩ := mem_compE.1 hx
      unfold rowC at hy
      obtain ⟨z2, _, rfl⟩ := List.mem_map.1 hy
      unfold ltE; simp; omega
theorem comp_right {a : Au} (h : RightW a) : RightW (compA a) where
  alr := h.alr
  alo := h.alo
  st0 := by have := h.st0; simp [compA]; omega
  mrr x hx := by have := h.mrr x hx; simp only [compA]; omega
  mro := h.mro
  edr y hy := by
    obtain ⟨q, hq, ev, hev, rfl⟩ := mem_compE.1 hy
    have := toC_range h q ev
    have := h.st0
    exact ⟨by simp only [compA]; omega, by simp only [compA]; omega, hev⟩
  edo := compE_sorted h _
theorem al_len {a : Au} (h : RightW a) : a.al.length ≤ 32 := nodup_len (lt_nodup h.alo) fun x hx => by have := h.alr x hx; omega
theorem news_three {W : World} {x y z : Value} {T : TypeId} {b : Nat} (hb : W.heap.size = b) : ∀ j u, [x, y, z][j]? = some u → (W.alloc (.cells #[x, y, z] T)).cell? ((⟨b, 0, none⟩ : Addr).add j) = some u := by
  subst hb
  intro j u hj
  rw [show ((⟨W.heap.size, 0, none⟩ : Addr).add j) = ⟨W.heap.size, j, none⟩ by (simp [Addr.add]; try exact fun h => h.symm)]
  exact (Row.new W [x, y, z] T).cell j hj

end Go.Proofs.YtedleffmbddccaaDoor

/- Layer 3: Canonical of the reference. -/
namespace Go.Proofs.YtedleffmbddccaaDoor
open Go.RowKit Go.Sort

/-- The marked states among the first ones found. -/
def canMn (a : Au) (j : Nat) : List Int := ((List.range j).filter fun i => decide ((fnd a).getD i 0 ∈ a.mr)).map fun (i : Nat) => (i : Int)
theorem canMn_yes {a : Au} {j : Nat} (h : (fnd a).getD j 0 ∈ a.mr) : canMn a (j + 1) = canMn a j ++ [(j : Int)] := by
  unfold canMn; rw [List.range_succ, List.filter_append]
  rw [List.filter_cons_of_pos (by simpa using h)]; simp
theorem canMn_no {a : Au} {j : Nat} (h : (fnd a).getD j 0 ∉ a.mr) : canMn a (j + 1) = canMn a j := by
  unfold canMn; rw [List.range_succ, List.filter_append]
  rw [List.filter_cons_of_neg (by simpa using h)]; simp
theorem canMn_len (a : Au) (j : Nat) : (canMn a j).length ≤ j := by
  unfold canMn; rw [List.length_map]; exact Nat.le_trans (List.length_filter_le _ _) (by simp)
/-- The edges of a found state by the first events. -/
def outK (a : Au) (j t : Nat) : List Ed := (succK a ((fnd a).getD j 0) t).map fun x => ⟨(j : Int), x.e, ((fnd a).idxOf x.t : Int)⟩
theorem outK_zero (a : Au) (j : Nat) : outK a j 0 = [] := by simp [outK, succK_zero]
theorem outK_some {a : Au} {j t : Nat} {x : Ed} (hk : t < a.al.length) (h : edgeO a.ed ((fnd a).getD j 0) (a.al.getD t 0) = some x) : outK a j (t + 1) = outK a j t ++ [⟨(j : Int), x.e, ((fnd a).idxOf x.t : Int)⟩] := by
  unfold outK; rw [succK_some hk h, List.map_append]; rfl
theorem outK_none {a : Au} {j t : Nat} (hk : t < a.al.length) (h : edgeO a.ed ((fnd a).getD j 0) (a.al.getD t 0) = none) : outK a j (t + 1) = outK a j t := by
  unfold outK; rw [succK_none hk h]
theorem outK_all {a : Au} (h : RightW a) {j n : Nat} (hn : a.al.length = n) : canEn a j ++ outK a j n = canEn a (j + 1) := by
  rw [canEn_succ]; unfold outK outE; rw [succK_all h hn]
theorem outK_len {a : Au} (h : RightW a) {j t : Nat} (hj : j < (fnd a).length) : (canEn a j ++ outK a j t).length ≤ a.ed.length := by
  have h1 := canEn_len a (show j + 1 ≤ (fnd a).length by omega)
  rw [canEn_succ, List.length_append] at h1
  have h2 := (succK_pre h ((fnd a).getD j 0) t).length_le
  rw [List.length_append]
  unfold outK outE at *
  rw [List.length_map] at h1 ⊢
  omega
theorem idxI_in {l : List Int} {x : Int} (h : x ∈ l) : idxI l x = (l.idxOf x : Int) := by rw [idxI, if_pos h]

set_option maxHeartbeats 16000000 in
set_option maxRecDepth 100000 in
theorem rCanonical_any (A : Option Addr) (n c : Nat) (s : Int) (M : Option Addr) (m d : Nat) (E : Option Addr) (k g : Nat) (a : Au) (B : Nat) (w : World) (h : AuR w B A n c s M m d E k g a) (hB : B ≤ w.heap.size) (hr : RightW a) (hS : s ≤ 5000) :
    Calls Tryd.prog 80 #[.agg #[.slice A n c, .int .i64 s, .slice M m d, .slice E k g]] w fun e w' => ∃ v, e = .returned v ∧ AuF (canA a) v w' w.heap.size ∧ Below w.heap.size w w' := by
  have hb1 := ((Below.refl w.heap.size w).alloc (Nat.le_refl _) (.cells #[.slice A n c, .int .i64 s, .slice M m d, .slice E k g] 34)).alloc (by simp) (.cells #[.slice none 0 0, .int .i64 0, .slice none 0 0, .slice none 0 0] 34)
  have HB1 := Lib.hid hb1
  have HBw := Lib.hid hB
  have HFn := Lib.hid (rFound_any A n c s M m d E k g a B _ (h.below hb1 hB) (Nat.le_trans hB hb1.size) hr hS)
  have HA := Lib.hid ((Row.new w [.slice A n c, .int .i64 s, .slice M m d, .slice E k g] 34).alloc (.cells #[.slice none 0 0, .int .i64 0, .slice none 0 0, .slice none 0 0] 34))
  have HRes := Lib.hid (show Row ((w.alloc (.cells #[.slice A n c, .int .i64 s, .slice M m d, .slice E k g] 34)).alloc (.cells #[.slice none 0 0, .int .i64 0, .slice none 0 0, .slice none 0 0] 34)) (w.heap.size + 1) 34 [.slice none 0 0, .int .i64 0, .slice none 0 0, .slice none 0 0] by
    have := Row.new (w.alloc (.cells #[.slice A n c, .int .i64 s, .slice M m d, .slice E k g] 34)) [.slice none 0 0, .int .i64 0, .slice none 0 0, .slice none 0 0] 34
    simpa using this)
  have HR := Lib.hid h
  have HRI := Lib.hid hr
  have HST := Lib.hid h.st
  have hbn := h.bn
  have hbk := h.bk
  have hnc := h.cn.1
  obtain ⟨iI, iI0, iI1, iI2, iI3⟩ := info_parts info_int
  obtain ⟨iE, iE0, iE1, iE2, iE3⟩ := info_parts info_edge
  obtain ⟨fl, hfl⟩ : ∃ fl, fl = fnd a := ⟨_, rfl⟩
  obtain ⟨L, hL⟩ : ∃ L, L = fl.length := ⟨_, rfl⟩
  have HFL := Lib.hid hfl
  have HLn := Lib.hid hL
  have hL5 : L ≤ 5000 := by have h1 := fnd_len hr; have h2 := hr.st0; rw [h.st] at h1 h2; rw [hL, hfl]; omega
  rw [← hfl] at HFn
  clear h hr hb1 hfl hL hB
  go_enter Tryd.func80, Tryd.ntmps80
  go_wp2_with fail
  refine HFn.out.mono ?_
  rintro e w1 ⟨Af, cF, rfl, hrf, hbw, hcf, _⟩
  rw [← HLn.out] at hcf ⊢
  have hA1 := Lib.hid (HA.out.below hbw (by simp; omega))
  have hR1 := Lib.hid (HRes.out.below hbw (by simp))
  have hB1 := Lib.hid (HB1.out.trans (hbw.mono (by simp; omega)))
  have HRF := Lib.hid hrf
  have HE := Lib.hid (rEmpty_any A n c B a.al w1 (HR.out.al.below hB1.out HBw.out) (Nat.le_trans HBw.out hB1.out.size) HR.out.hn hbn)
  have hz := hbw.size
  simp only [World.size_alloc] at hz
  clear hbw hrf
  have p0 := hA1.out.cell 0 rfl
  go_wp2_with fail
  refine HE.out.mono ?_
  rintro e w2 ⟨Ac, cc, rfl, hoc, hbw, hc1, hc2⟩
  have hA2 := Lib.hid (hA1.out.below hbw (by omega))
  have hR2 := Lib.hid (hR1.out.below hbw (by omega))
  have hB2 := Lib.hid (hB1.out.trans (hbw.mono hB1.out.size))
  have HRF2 := Lib.hid ((HRF.out.below hbw (Nat.le_refl _)).more hbw.size)
  have HCL := Lib.hid (show RdI w2 w2.heap.size Ac a.al by
    obtain ⟨A', c', e, hrd, _, _⟩ := own_rdc hoc
    injection e with e1 e2 e3
    subst e1; exact hrd)
  have HAC := Lib.hid (own_from hoc)
  have hz2 := hbw.size
  have hbd0 := Lib.hid (show Bd w2 w2.heap.size w2.heap.size true true (.slice Ac n cc) (L : Int) (w2.alloc (.cells #[.slice Ac n cc, .int .i64 (L : Int), .slice none 0 0, .slice none 0 0] 34)) (canMn a 0) (.slice none 0 0) (canEn a 0) (.slice none 0 0) from
      ⟨(Below.refl _ _).alloc (Nat.le_refl _) _, Row.new w2 [.slice Ac n cc, .int .i64 (L : Int), .slice none 0 0, .slice none 0 0] 34, fun _ => World.ownsRow_nil _ _ _ _, fun _ => World.ownsRow_nil _ _ _ _, Nat.le_refl _⟩)
  clear hbw hoc p0
  go_wp2_with fail
  go_loopw [5] (fun i wr => ∃ (j : Nat) (vm ve : Value), j ≤ L ∧ i = .int .i64 j ∧ Hid (Bd w2 w2.heap.size w2.heap.size true true (.slice Ac n cc) (L : Int) wr (canMn a j) vm (canEn a j) ve)) (fun i _ => L - (intOf i).toNat)
  case atStart => exact ⟨0, _, _, Nat.zero_le _, rfl, hbd0⟩
  case round =>
    clear hbd0
    obtain ⟨j, vm, ve, hjL, rfl, hbd⟩ := hrel
    by_cases hjl : j < L
    · obtain ⟨q, hq⟩ : ∃ q, q = fl.getD j 0 := ⟨_, rfl⟩
      have HQ := Lib.hid hq
      obtain ⟨bF, oF, rfl, hbF, hcF⟩ := HRF2.out (by rw [← HLn.out]; omega)
      have cF0 : w2.cell? ⟨bF, oF + j, none⟩ = some (.int .i64 q) := by rw [hq]; exact hcF j (by rw [← HLn.out]; exact hjl)
      have CF := Lib.hid (fun W (hW : Below w2.heap.size w2 W) => (hW.cell (p := ⟨bF, oF + j, none⟩) hbF).trans cF0)
      have CB := Lib.hid (fun W (hW : Below w2.heap.size w2 W) => box_row A n c s M m d E k g (hA2.out.below hW (by omega)))
      have hjz : (0 : Int) ≤ (j : Int) := by omega
      have hjL2 : (j : Int) < (L : Int) := by omega
      obtain ⟨r, hr⟩ : ∃ r, r = decide (q ∈ a.mr) := ⟨_, rfl⟩
      have HM := Lib.hid (fun W (hG : Bd w2 w2.heap.size w2.heap.size true true (.slice Ac n cc) (L : Int) W (canMn a j) vm (canEn a j) ve) => (rHas_any M m d B a.mr q W (HR.out.mr.below (hB2.out.trans (hG.bel.mono hB2.out.size)) HBw.out) HR.out.hm (by have := HR.out.bm; omega)).mono (R' := fun e w' => e = .returned (.bool r) ∧ Bd w2 w2.heap.size w2.heap.size true true (.slice Ac n cc) (L : Int) w' (canMn a j) vm (canEn a j) ve) fun e w' hh => ⟨by rw [hh.1, hr], hh.2 ▸ hG⟩)
      have HRr := Lib.hid hr
      have hbdd := Lib.hid hbd.out.drew
      obtain ⟨p0, p1, p2, p3⟩ := CB.out wr hbd.out.bel
      have cf := CF.out wr hbd.out.bel
      have hml := canMn_len a j
      clear hq hcF cF0 hr
      go_wp2_with fail
      go_region_held3 (fun w' => w'.cell? ⟨w.heap.size, 2, none⟩ = some (.slice M m d) ∧ w'.cell? ⟨bF, oF + j, none⟩ = some (.int .i64 q)) (first | with_reducible exact ⟨p2, cf⟩ | go_keep)
        (first
        | (go_simp; go_at_call 69; (first | with_reducible refine (HM.out _ hbd.out).mono ?_ | with_reducible refine (HM.out _ hbdd.out).mono ?_); rintro e w4 ⟨rfl, hG⟩
           have HG := Lib.hid hG
           have HGd := Lib.hid hG.drew
           have p2 := (CB.out _ hG.bel).c2
           have cf := CF.out _ hG.bel
           clear hG))
      all_goals
        go_upto_if 28 with fail
        go_cut [5] from 16 to 69 (fun i wx => i = .int .i64 (j : Int) ∧ ∃ vm, Hid (Bd w2 w2.heap.size w2.heap.size true true (.slice Ac n cc) (L : Int) wx (canMn a (j + 1)) vm (canEn a j) ve))
        case first =>
          cases r
          · have hno := Lib.hid (show canMn a (j + 1) = canMn a j from canMn_no (by have := HRr.out; rw [HQ.out, HFL.out] at this; simpa using this.symm))
            go_wp2_with fail
            go_meet
            case rel => exact ⟨rfl, vm, by rw [hno.out]; first | exact HG | exact HGd⟩
          · obtain ⟨K0, hK0⟩ : ∃ K0, K0 = canMn a j := ⟨_, rfl⟩
            obtain ⟨l0, hl0⟩ : ∃ l0, l0 = K0.length := ⟨_, rfl⟩
            have hyes := Lib.hid (show canMn a (j + 1) = K0 ++ [(j : Int)] by rw [hK0]; exact canMn_yes (by have := HRr.out; rw [HQ.out, HFL.out] at this; simpa using this.symm))
            have HL0 := Lib.hid hl0
            rw [← hK0] at HG hml
            rw [← hl0] at hml
            have hmo := Lib.hid (HG.out.mo rfl)
            have c2' := HG.out.cb.cell 2 rfl
            have f2' := HG.out.cb.frozen 2
            have hs4 := HG.out.h2
            have hmo2 := Lib.hid (show w4.ownsRow w2.heap.size 3 1 vm l0 (K0.map (Value.int .i64)) by rw [HL0.out]; exact hmo.out)
            clear hK0 hl0
            go_wp2_with (at_builtin; refine wpList_append_own _ rfl _ _ 27 rfl w2.heap.size 3 iI (.int .i64 0) 1 8 Tryd.underlying27 iI0 iI1 iI2 iI3 rfl (by decide) _ _ _ rfl (hmo2.out.alloc _) ⟨w4.heap.size, 0, none⟩ 1 1 [.int .i64 (j : Int)] rfl rfl (news_one (by simp)) (by intro u hu; simp at hu; subst hu; rfl) (by unfold maxLen; omega) (by omega) (by simp; omega) ?_)
            intro v5 w5 hown5 hgrow5 _
            have hown6 : Own w5 w2.heap.size v5 (K0 ++ [(j : Int)]) := by unfold Own; rw [List.length_append, ← HL0.out]; simpa using hown5
            obtain ⟨A5, c5, hv5, _, _, _⟩ := own_rdc hown6
            rw [show (K0 ++ [(j : Int)]).length = l0 + 1 by simp [HL0.out]] at hv5
            subst hv5
            have hba := HG.out.alloc (.cells #[.int .i64 (j : Int)] 3)
            have hcb := Lib.hid (hba.cb.grown hgrow5 (fun e => hba.neM e.symm))
            have hbd6 := Lib.hid (Bd.mark hba hgrow5 hown6)
            rw [← hyes.out] at hbd6
            have c2' := hcb.out.cell 2 rfl
            have f2' := hcb.out.frozen 2
            clear hown5 hown6 hgrow5 hba
            go_wp2_with fail
            go_meet
            case rel => exact ⟨rfl, _, hbd6⟩
        case rest =>
          clear hbd hbdd p0 p1 p2 p3 cf hml HM
          obtain ⟨rfl, vm, hbd⟩ := hcut
          go_wp2_with fail
          go_loopw [6] (fun i wx => ∃ (t : Nat) (ve : Value), t ≤ n ∧ i = .int .i64 t ∧ Hid (Bd w2 w2.heap.size w2.heap.size true true (.slice Ac n cc) (L : Int) wx (canMn a (j + 1)) vm (canEn a j ++ outK a j t) ve)) (fun i _ => n - (intOf i).toNat)
          case atStart => exact ⟨0, ve, Nat.zero_le _, rfl, by rw [outK_zero, List.append_nil]; exact hbd⟩
          case round =>
            clear hbd
            obtain ⟨t, ve, htn, rfl, hbd⟩ := hrel
            obtain ⟨p0, p1, p2, p3⟩ := CB.out wr hbd.out.bel
            have cf := CF.out wr hbd.out.bel
            by_cases htl : t < n
            · obtain ⟨bA, oA, rfl, hbA, hcA⟩ := HR.out.al (by rw [HR.out.hn]; omega)
              have hz' : t < a.al.length := by rw [HR.out.hn]; exact htl
              obtain ⟨ev, hev⟩ : ∃ ev, ev = a.al.getD t 0 := ⟨_, rfl⟩
              have CA := Lib.hid (fun W (hW : Below w2.heap.size w2 W) => by
                have := ((hB2.out.trans (hW.mono hB2.out.size)).cell (p := ⟨bA, oA + t, none⟩) (Nat.lt_of_lt_of_le hbA HBw.out)).trans (hcA t hz')
                rw [← hev] at this; exact this)
              have ca := CA.out wr hbd.out.bel
              obtain ⟨es, hes⟩ : ∃ es, es = canEn a j ++ outK a j t := ⟨_, rfl⟩
              have hel : es.length ≤ k := by rw [hes, ← HR.out.hk]; exact outK_len HRI.out (by rw [← HFL.out, ← HLn.out]; exact hjl)
              rw [← hes] at hbd
              have HES := Lib.hid hes
              have HEV := Lib.hid hev
              obtain ⟨tt, htt⟩ : ∃ tt, tt = stepI a q ev := ⟨_, rfl⟩
              have HTT := Lib.hid htt
              have HS := Lib.hid (fun W (hG : Bd w2 w2.heap.size w2.heap.size true true (.slice Ac n cc) (L : Int) W (canMn a (j + 1)) vm es ve) => (rStep_any (some ⟨bA, oA, none⟩) n c s M m d E k g a q ev B W (HR.out.below (hB2.out.trans (hG.bel.mono hB2.out.size)) HBw.out) (Nat.le_trans HBw.out (hB2.out.trans (hG.bel.mono hB2.out.size)).size)).mono (R' := fun e w' => e = .returned (.int .i64 tt) ∧ Bd w2 w2.heap.size w2.heap.size true true (.slice Ac n cc) (L : Int) w' (canMn a (j + 1)) vm es ve) fun e w' hh => ⟨by rw [hh.1, htt], hG.call hh.2⟩)
              have hbdd := Lib.hid hbd.out.drew
              have htz : (0 : Int) ≤ (t : Int) := by omega
              have htn2 : (t : Int) < (n : Int) := by omega
              have hqf : q = (fnd a).getD j 0 := by rw [HQ.out, HFL.out]
              have HQF := Lib.hid hqf
              clear hes hev htt hcA hqf
              go_wp2_with fail
              go_region_held3 (fun w' => w'.cell? ⟨w.heap.size, 0, none⟩ = some (.slice (some ⟨bA, oA, none⟩) n c) ∧ w'.cell? ⟨w.heap.size, 1, none⟩ = some (.int .i64 s) ∧ w'.cell? ⟨w.heap.size, 2, none⟩ = some (.slice M m d) ∧ w'.cell? ⟨w.heap.size, 3, none⟩ = some (.slice E k g) ∧ w'.cell? ⟨bF, oF + j, none⟩ = some (.int .i64 q) ∧ w'.cell? ⟨bA, oA + t, none⟩ = some (.int .i64 ev)) (first | with_reducible exact ⟨p0, p1, p2, p3, cf, ca⟩ | go_keep)
                (first
                | (go_simp; go_at_call 95; (first | with_reducible refine (HS.out _ hbd.out).mono ?_ | with_reducible refine (HS.out _ hbdd.out).mono ?_); rintro e w4 ⟨rfl, hG⟩
                   have HG := Lib.hid hG
                   have HGd := Lib.hid hG.drew
                   obtain ⟨p0, p1, p2, p3⟩ := CB.out _ hG.bel
                   have cf := CF.out _ hG.bel
                   have ca := CA.out _ hG.bel
                   clear hG))
              all_goals
                cases he : edgeO a.ed q ev with
                | none =>
                  have hto := stepI_no he
                  rw [← HTT.out] at hto
                  subst hto
                  have hnx := Lib.hid (show canEn a j ++ outK a j (t + 1) = es by rw [outK_none hz' (by rw [← HEV.out, ← HQF.out]; exact he), HES.out])
                  clear he
                  go_wp2_with fail
                  go_roundw
                  case rel => exact ⟨t + 1, _, by omega, by go_num, by rw [hnx.out]; first | exact HG | exact HGd⟩
                  case measure => simp [intOf]; omega
                | some x =>
                  have hto := stepI_of he
                  rw [← HTT.out] at hto
                  obtain ⟨hxm, hxf, hxe⟩ := (edgeO_some HRI.out.edo).1 he
                  have hxr := (HRI.out.edr x hxm).2.1
                  rw [← hto] at hxr
                  have hin : tt ∈ fl := by
                    rw [hto, HFL.out]
                    refine fnd_closed HRI.out (i := j) (by rw [← HFL.out, ← HLn.out]; exact hjl) (mem_succ.2 ⟨hxm, ?_⟩)
                    rw [hxf, HQF.out]
                  obtain ⟨ix, hix⟩ : ∃ ix, ix = fl.idxOf tt := ⟨_, rfl⟩
                  have hnx := Lib.hid (show canEn a j ++ outK a j (t + 1) = es ++ [⟨(j : Int), ev, (ix : Int)⟩] by rw [outK_some hz' (by rw [← HEV.out, ← HQF.out]; exact he), hxe, ← hto, ← HFL.out, ← hix, HES.out, List.append_assoc])
                  have hto0 : 0 ≤ tt := hxr.1
                  have HI := Lib.hid (fun W (hW : RdI W w2.heap.size (some ⟨bF, oF, none⟩) fl) => by
                    have := rIndex_any (some ⟨bF, oF, none⟩) L cF w2.heap.size fl tt W hW HLn.out.symm (by omega)
                    rw [idxI_in hin, ← hix] at this; exact this)
                  have HRF4 := Lib.hid (HRF2.out.below HG.out.bel (Nat.le_refl _))
                  have HRF4d := Lib.hid (show RdI w4.drew w2.heap.size (some ⟨bF, oF, none⟩) fl from RdI.keep HRF4.out fun b o _ => rfl)
                  have u0 := HG.out.cb.cell 3 rfl
                  have u3 := HG.out.cb.frozen 3
                  have hbl : w2.heap.size < w4.heap.size := HG.out.h2
                  have v0 := fun cs : Array Value => (World.cell?_alloc_lt w4 (.cells cs 58) ⟨w2.heap.size, 3, none⟩ hbl).trans u0
                  have v1 := fun cs : Array Value => (frozen?_alloc_cells w4 cs 58 ⟨w2.heap.size, 3, none⟩).trans u3
                  have hneV := HG.out.neE
                  have heo := Lib.hid (HG.out.eo rfl)
                  clear he hto hxm hxf hxe hxr hin hix
                  go_wp2_with fail
                  go_region_law (first
                    | (go_simp; go_at_call 96; (first | refine (HI.out w4.drew HRF4d.out).mono ?_ | refine (HI.out w4 HRF4.out).mono ?_); rintro e w7 ⟨rfl, rfl⟩)
                    | (refine step_append_lies _ (by rfl) (.tmp 56) (.tmp 67) _ (by rfl) w2.heap.size 58 iE (.agg #[.int .i64 0, .int .i64 0, .int .i64 0]) 3 24 Tryd.underlying32 iE0 iE1 iE2 iE3 rfl (by omega) ve es.length (encE es) (by rfl) (by first | exact (heo.out.alloc _).drew | exact (heo.out.alloc _)) ⟨w4.heap.size, 0, none⟩ 1 1 [.int .i64 (j : Int), .int .i64 ev, .int .i64 (ix : Int)] (by rfl) (by rfl) (World.news_of_block (cs := #[.int .i64 (j : Int), .int .i64 ev, .int .i64 (ix : Int)]) (t := 58) (fr := (0, 0)) (heap_alloc_new w4 _)) (by simp [Value.oneCell']) (by omega) (by unfold maxLen; omega) (by omega) (by simp; omega) (w4.heap.size + 1) (by simp) ?_; intro gG capG w6 hown6 hgrow6 hat6 hlt6; have hc6 := (hgrow6.cell_far ⟨w2.heap.size, 3, none⟩ (by simp; omega) hneV).trans (v0 _); have hf6 := (hgrow6.frozen_far ⟨w2.heap.size, 3, none⟩ (by simp; omega) hneV).trans (v1 _)))
                  all_goals
                    have hown7 : OwnE w6 w2.heap.size (.slice (some ⟨gG, 0, none⟩) (es.length + 1) capG) (es ++ [⟨(j : Int), ev, (ix : Int)⟩]) := by
                      unfold OwnE; rw [encE_app, List.length_append]; exact hown6
                    have hbd7 := Lib.hid (show Bd w2 w2.heap.size w2.heap.size true true (.slice Ac n cc) (L : Int) (w6.setCell ⟨w2.heap.size, 3, none⟩ (.slice (some ⟨gG, 0, none⟩) (es.length + 1) capG)) (canMn a (j + 1)) vm (es ++ [⟨(j : Int), ev, (ix : Int)⟩]) (.slice (some ⟨gG, 0, none⟩) (es.length + 1) capG) from by
                      first
                      | exact Bd.edge (HG.out.alloc _) hgrow6 hown7
                      | exact Bd.edge ((HG.out.alloc _).drew) hgrow6 hown7
                      | exact Bd.edge (HG.out.drew.alloc _) hgrow6 hown7)
                    rw [← hnx.out] at hbd7
                    clear hown7 hown6 hgrow6 hat6 hc6 hf6 hlt6
                    go_wp2_with fail
                    go_roundw
                    case measure => simp [intOf]; omega
                    case rel => exact ⟨t + 1, _, by omega, by go_num, by first | exact hbd7 | exact Lib.hid hbd7.out.drew⟩
            · obtain rfl : t = n := by omega
              rw [outK_all HRI.out HR.out.hn] at hbd
              go_wp2_with fail
              go_roundw
              case rel => exact ⟨j + 1, _, _, by omega, by go_num, hbd⟩
              case measure => simp [intOf]; omega
    · obtain rfl : j = L := by omega
      obtain ⟨M3, d3, rfl, hM1, hM2, hM3⟩ := own_rdc (hbd.out.mo rfl)
      obtain ⟨E3, g3, rfl, hE1, hE2, hE3⟩ := ownE_rd (hbd.out.eo rfl)
      have hMo := Lib.hid (own_from (hbd.out.mo rfl))
      have hEo := Lib.hid (own_from (hbd.out.eo rfl))
      have hRr := Lib.hid (hR2.out.below hbd.out.bel (by omega))
      have hjl2 := Lib.hid (show (fnd a).length = j by rw [HLn.out, HFL.out])
      have hml := canMn_len a j
      have hel := canEn_len a (n := j) (by rw [hjl2.out]; exact Nat.le_refl _)
      rw [HR.out.hk] at hel
      have hfin := Lib.hid (show AuF (canA a) (.agg #[.slice Ac n cc, .int .i64 (j : Int), .slice M3 (canMn a j).length d3, .slice E3 (canEn a j).length g3]) wr w1.heap.size from by
        have hca : canA a = ⟨a.al, (j : Int), canMn a j, canEn a j⟩ := by unfold canA canM; rw [hjl2.out]; rfl
        rw [hca]
        exact ⟨Ac, n, cc, (j : Int), M3, _, d3, E3, _, g3, rfl,
          { al := (HCL.out.below hbd.out.bel (Nat.le_refl _)).more hbd.out.bel.size, mr := hM1, ed := hE1, hn := HR.out.hn, hm := rfl, hk := rfl, st := rfl, cn := ⟨hc1, hc2⟩, cm := ⟨hM2, hM3⟩, ck := ⟨hE2, hE3⟩, bn := HR.out.bn, bm := by omega, bk := by omega },
          HAC.out, fun b o f e => by have := hMo.out b o f e; omega, fun b o f e => by have := hEo.out b o f e; omega⟩)
      have d0 := hbd.out.cb.cell 0 rfl
      have d1 := hbd.out.cb.cell 1 rfl
      have d2' := hbd.out.cb.cell 2 rfl
      have d3' := hbd.out.cb.cell 3 rfl
      have r0 := hRr.out.cell 0 rfl
      have r1 := hRr.out.cell 1 rfl
      have r2 := hRr.out.cell 2 rfl
      have r3 := hRr.out.cell 3 rfl
      have z0 := hRr.out.frozen 0
      have z1 := hRr.out.frozen 1
      have z2 := hRr.out.frozen 2
      have z3 := hRr.out.frozen 3
      clear hM1 hE1
      go_wp2_with fail
      (try simp only [Exit.inBlock, Exit.then])
      refine bodyPost_ret (v := .agg #[.slice Ac n cc, .int .i64 (j : Int), .slice M3 (canMn a j).length d3, .slice E3 (canEn a j).length g3]) ?_ rfl ⟨_, rfl, ?_, ?_⟩
      · rw [results_cell1 rfl]
        go_simp
      · exact (hfin.out.set4 (by omega) _ _ _ _).more (by omega)
      · exact below_set4 (hB2.out.trans (hbd.out.bel.mono hB2.out.size)) (by omega) _ _ _ _
end Go.Proofs.YtedleffmbddccaaDoor

/- Layer 6, the mathematics of explore: the tuples in twelve places and their numbers. -/
namespace Go.Proofs.YtedleffmbddccaaDoor
open Go.RowKit

/-- The states behind the step of all automata, where none refuses. -/
def stpD : List Au → List Int → Int → List Int
  | a :: l, q :: qs, e => (if e ∈ a.al then (stepO a q e).getD 0 else q) :: stpD l qs e
  | _, _, _ => []
theorem stpD_len : ∀ {l : List Au} {qs : List Int} {e : Int}, qs.length = l.length → (stpD l qs e).length = l.length
  | [], [], _, _ => rfl
  | a :: l, q :: qs, e, h => by
    rw [stpD, List.length_cons, List.length_cons, stpD_len (by simpa using h)]
theorem stG_mid : ∀ (l : List Au) (pre qs z : List Int) (e : Int), qs.length = l.length → stG l pre.length (pre ++ (qs ++ z)) e = pre ++ (stpD l qs e ++ z)
  | [], pre, [], z, e, _ => rfl
  | a :: l, pre, q :: qs, z, e, h => by
    have hg : (pre ++ (q :: qs ++ z)).getD pre.length 0 = q := by simp [List.getD]
    rw [stG, hg, stpD]
    have hs : (if e ∈ a.al then (pre ++ (q :: qs ++ z)).set pre.length ((stepO a q e).getD 0) else pre ++ (q :: qs ++ z)) = (pre ++ [if e ∈ a.al then (stepO a q e).getD 0 else q]) ++ (qs ++ z) := by
      split
      · rw [List.set_append_right _ _ (Nat.le_refl _)]; simp
      · simp
    rw [hs]
    have := stG_mid l (pre ++ [if e ∈ a.al then (stepO a q e).getD 0 else q]) qs z e (by simpa using h)
    rw [List.length_append, List.length_singleton] at this
    rw [this]; simp
theorem rfG_mid : ∀ (l : List Au) (pre qs z : List Int) (e : Int), qs.length = l.length → (rfG l pre.length (pre ++ (qs ++ z)) e = [] ∧ stpT l qs e = some (stpD l qs e)) ∨ (rfG l pre.length (pre ++ (qs ++ z)) e ≠ [] ∧ stpT l qs e = none)
  | [], pre, [], z, e, _ => .inl ⟨rfl, rfl⟩
  | a :: l, pre, q :: qs, z, e, h => by
    have hg : (pre ++ (q :: qs ++ z)).getD pre.length 0 = q := by simp [List.getD]
    have ih := rfG_mid l (pre ++ [q]) qs z e (by simpa using h)
    rw [List.length_append, List.length_singleton, List.append_assoc, List.singleton_append, ← List.cons_append] at ih
    rw [rfG, hg, stpT, stpD]
    by_cases hin : e ∈ a.al
    · cases hs : stepO a q e with
      | none => exact .inr ⟨by simp [hin], by simp [hin]⟩
      | some t =>
        rcases ih with ⟨h1, h2⟩ | ⟨h1, h2⟩
        · exact .inl ⟨by simp; exact h1, by simp [hin, h2]⟩
        · exact .inr ⟨by simp; exact h1, by simp [hin, h2]⟩
    · rcases ih with ⟨h1, h2⟩ | ⟨h1, h2⟩
      · exact .inl ⟨by simp [hin]; exact h1, by simp [hin, h2]⟩
      · exact .inr ⟨by simp [hin]; exact h1, by simp [hin, h2]⟩
/-- The tuple of a number, in twelve places. -/
def tp (l : List Au) (x : Int) : List Int := dcT (stsT l) x ++ List.replicate (12 - l.length) 0
theorem dc_len {l : List Au} (hp : posT l = true) (x : Int) : (dcT (stsT l) x).length = l.length := by rw [(dc_in x (posT_iff.1 hp)).len, stsT, List.length_map]
theorem tp_len {l : List Au} (hp : posT l = true) (h12 : l.length ≤ 12) (x : Int) : (tp l x).length = 12 := by
  rw [tp, List.length_append, dc_len hp, List.length_replicate]; omega
theorem tp_inj {l : List Au} (hp : posT l = true) {x y : Int} (hx : 0 ≤ x ∧ x < prT (stsT l)) (hy : 0 ≤ y ∧ y < prT (stsT l)) (h : tp l x = tp l y) : x = y := by
  have h1 : dcT (stsT l) x = dcT (stsT l) y := (List.append_inj h (by rw [dc_len hp, dc_len hp])).1
  rw [← cd_dc (posT_iff.1 hp) hx.1 hx.2, h1, cd_dc (posT_iff.1 hp) hy.1 hy.2]
theorem InT.bound : ∀ {ss qs : List Int}, InT ss qs → (∀ s ∈ ss, s ≤ 9223372036854775807) → ∀ q ∈ qs, 0 ≤ q ∧ q ≤ 9223372036854775807
  | [], [], _, _, q, hq => by cases hq
  | s :: ss, p :: qs, hi, hs, q, hq => by
    rcases List.mem_cons.1 hq with rfl | hq
    · have := hs s (by simp); have h1 := hi.1; omega
    · exact hi.2.bound (fun s h => hs s (List.mem_cons_of_mem _ h)) q hq
theorem tp_val {l : List Au} (hp : posT l = true) (h12 : l.length ≤ 12) (hs : ∀ a ∈ l, a.st ≤ 9223372036854775807) (x : Int) : ValT (tp l x) := by
  refine ⟨tp_len hp h12 x, fun y hy => ?_⟩
  rcases List.mem_append.1 hy with hy | hy
  · have := (dc_in x (posT_iff.1 hp)).bound (fun s h => by obtain ⟨a, ha, rfl⟩ := List.mem_map.1 h; exact hs a ha) y hy
    exact wf_small (by omega) this.2
  · rw [(List.mem_replicate.1 hy).2]; exact wf_small (by omega) (by omega)
theorem tp_zero {l : List Au} (h12 : l.length ≤ 12) : tp l 0 = zeroT := by
  unfold tp zeroT
  rw [dc_zero, stsT, List.map_map, List.eq_replicate_iff]
  refine ⟨by simp; omega, fun b hb => ?_⟩
  rcases List.mem_append.1 hb with hb | hb
  · obtain ⟨a, _, rfl⟩ := List.mem_map.1 hb; rfl
  · exact (List.mem_replicate.1 hb).2
/-- One step of explore is an edge of the product of the numbers. -/
theorem link {l : List Au} (h : ∀ a ∈ l, RightW a) (hp : posT l = true) {q e : Int} (hq : 0 ≤ q ∧ q < (prodA l).st) (he : e ∈ alT l) :
    (rfG l 0 (tp l q) e = [] ∧ ∃ t, edgeO (prodA l).ed q e = some ⟨q, e, t⟩ ∧ (0 ≤ t ∧ t < (prodA l).st) ∧ stG l 0 (tp l q) e = tp l t) ∨ (rfG l 0 (tp l q) e ≠ [] ∧ edgeO (prodA l).ed q e = none) := by
  have hpos := posT_iff.1 hp
  have hst := prod_st hp
  rw [hst] at hq ⊢
  have hcd := cd_dc hpos hq.1 hq.2
  have hin := dc_in q hpos
  have hs := prod_step h hp hin he
  rw [hcd] at hs
  have hl := dc_len hp q
  have hm := rfG_mid l [] (dcT (stsT l) q) (List.replicate (12 - l.length) 0) e hl
  have hg := stG_mid l [] (dcT (stsT l) q) (List.replicate (12 - l.length) 0) e hl
  simp only [List.nil_append, List.length_nil] at hm hg
  rcases hm with ⟨h1, h2⟩ | ⟨h1, h2⟩
  · refine .inl ⟨h1, cdT (stsT l) (stpD l (dcT (stsT l) q) e), ?_, cd_range (stp_in h hin h2), ?_⟩
    · rw [h2] at hs
      cases hx : edgeO (prodA l).ed q e with
      | none => rw [stepO, hx] at hs; cases hs
      | some x =>
        obtain ⟨_, h3, h4⟩ := (edgeO_some (prod_right h).edo).1 hx
        rw [stepO, hx] at hs
        obtain ⟨xf, xe, xt⟩ := x
        simp only [Option.map_some, Option.some.injEq] at hs h3 h4
        rw [hs, h3, h4]
    · unfold tp; rw [hg, dc_cd (stp_in h hin h2)]
  · refine .inr ⟨h1, ?_⟩
    rw [h2] at hs
    cases hx : edgeO (prodA l).ed q e with
    | none => rfl
    | some x => rw [stepO, hx] at hs; cases hs
theorem idxOf_map_inj {f : Int → List Int} {x : Int} : ∀ {fl : List Int}, (∀ y ∈ fl, f y = f x → y = x) → (fl.map f).idxOf (f x) = fl.idxOf x
  | [], _ => rfl
  | y :: fl, h => by
    rw [List.map_cons, List.idxOf_cons, List.idxOf_cons, idxOf_map_inj fun z hz => h z (List.mem_cons_of_mem _ hz)]
    by_cases e : y = x
    · subst e; simp
    · have : f y ≠ f x := fun hh => e (h y (by simp) hh)
      rw [beq_eq_false_iff_ne.2 e, beq_eq_false_iff_ne.2 this]
theorem addT_map {f : Int → List Int} {x : Int} {fl : List Int} (h : ∀ y ∈ fl, f y = f x → y = x) : addT (fl.map f) (f x) = (visit fl x).map f ∧ ((visit fl x).map f).idxOf (f x) = (visit fl x).idxOf x := by
  have hm : f x ∈ fl.map f ↔ x ∈ fl := by
    constructor
    · intro hh; obtain ⟨y, hy, e⟩ := List.mem_map.1 hh; rw [← h y hy e]; exact hy
    · intro hh; exact List.mem_map.2 ⟨x, hh, rfl⟩
  refine ⟨?_, idxOf_map_inj fun y hy e => ?_⟩
  · unfold addT visit
    by_cases hx : x ∈ fl
    · rw [if_pos (hm.2 hx), if_pos hx]
    · rw [if_neg (fun hh => hx (hm.1 hh)), if_neg hx]; simp
  · rcases mem_visit.1 hy with hy | hy
    · exact h y hy e
    · exact hy
theorem or_u32 (a b : Nat) (ha : a < 4294967296) (hb : b < 4294967296) : bits .or .u32 (a : Int) (b : Int) = ((a ||| b : Nat) : Int) := by
  have hx : a ||| b < 2 ^ 32 := Nat.or_lt_two_pow (by omega) (by omega)
  have h1 : (BitVec.ofInt 32 (a : Int)).toNat = a := by
    rw [BitVec.ofInt_natCast, BitVec.toNat_ofNat]; exact Nat.mod_eq_of_lt (by omega)
  have h2 : (BitVec.ofInt 32 (b : Int)).toNat = b := by
    rw [BitVec.ofInt_natCast, BitVec.toNat_ofNat]; exact Nat.mod_eq_of_lt (by omega)
  show IntKind.u32.wrap ((BitVec.ofInt 32 (a : Int) ||| BitVec.ofInt 32 (b : Int)).toNat : Int) = _
  rw [BitVec.toNat_or, h1, h2]
  simp [IntKind.wrap, IntKind.bits, IntKind.signed]
  omega
theorem maskZ_pos : ∀ zs : List Int, (∀ x ∈ zs, 0 ≤ x ∧ x < 32) → ∃ m : Nat, maskZ zs = (m : Int) ∧ m < 4294967296 ∧ (zs ≠ [] → m ≠ 0) := by
  intro zs
  refine snocInd (P := fun zs => (∀ x ∈ zs, 0 ≤ x ∧ x < 32) → ∃ m : Nat, maskZ zs = (m : Int) ∧ m < 4294967296 ∧ (zs ≠ [] → m ≠ 0)) ?_ ?_ zs
  · intro _; exact ⟨0, rfl, by omega, fun h => absurd rfl h⟩
  · intro zs x ih hr
    obtain ⟨m, h1, h2, _⟩ := ih fun y hy => hr y (by simp [hy])
    have hx := hr x (by simp)
    have hp : 2 ^ x.toNat < 4294967296 := by
      have : 2 ^ x.toNat < 2 ^ 32 := Nat.pow_lt_pow_right (by omega) (by omega)
      omega
    have e : (2 : Int) ^ x.toNat % 4294967296 = ((2 ^ x.toNat : Nat) : Int) := by
      have : ((2 : Int) ^ x.toNat) = ((2 ^ x.toNat : Nat) : Int) := by simp
      rw [this]
      obtain ⟨p, hpp⟩ : ∃ p, p = 2 ^ x.toNat := ⟨_, rfl⟩
      rw [← hpp] at hp ⊢
      omega
    refine ⟨m ||| 2 ^ x.toNat, ?_, ?_, fun _ => ?_⟩
    · rw [maskZ_snoc, h1, e, or_u32 _ _ h2 hp]
    · have : m ||| 2 ^ x.toNat < 2 ^ 32 := Nat.or_lt_two_pow (by omega) (by omega)
      omega
    · have h3 : 2 ^ x.toNat ≤ m ||| 2 ^ x.toNat := Nat.right_le_or
      have h4 : 0 < 2 ^ x.toNat := Nat.pow_pos (by omega)
      omega
theorem rfG_range : ∀ (l : List Au) (i : Nat) (t : List Int) (e : Int), i + l.length ≤ 12 → ∀ x ∈ rfG l i t e, 0 ≤ x ∧ x < 32
  | [], _, _, _, _, x, hx => by cases hx
  | a :: l, i, t, e, h, x, hx => by
    rw [List.length_cons] at h
    rw [rfG] at hx
    rcases List.mem_append.1 hx with hx | hx
    · split at hx
      · rw [List.mem_singleton.1 hx]; omega
      · cases hx
    · exact rfG_range l (i + 1) t e (by omega) x hx
end Go.Proofs.YtedleffmbddccaaDoor

/- Layer 6: the set of a mask, and the mask of a set. -/
namespace Go.Proofs.YtedleffmbddccaaDoor
open Go.RowKit Go.Sort

def bf : Nat → Int → Int → List Int
  | 0, _, _ => []
  | f + 1, i, m => if m % 2 = 1 then i :: bf f (i + 1) (m / 2) else bf f (i + 1) (m / 2)
def setZ (m : Int) : List Int := bf 32 0 m
theorem bf_mem : ∀ (f : Nat) (i m x : Int), x ∈ bf f i m → i ≤ x ∧ x < i + f
  | 0, i, m, x, h => by simp [bf] at h
  | f + 1, i, m, x, h => by
    rw [bf] at h
    split at h
    · rcases List.mem_cons.1 h with rfl | h
      · omega
      · have := bf_mem f _ _ _ h; omega
    · have := bf_mem f _ _ _ h; omega
theorem bf_up : ∀ (f : Nat) (i m : Int), (bf f i m).Pairwise (· < ·)
  | 0, i, m => by simp [bf]
  | f + 1, i, m => by
    rw [bf]
    split
    · refine List.pairwise_cons.2 ⟨fun x hx => ?_, bf_up f _ _⟩
      have := bf_mem f _ _ _ hx; omega
    · exact bf_up f _ _
theorem bf_len : ∀ (f : Nat) (i m : Int), (bf f i m).length ≤ f
  | 0, i, m => by simp [bf]
  | f + 1, i, m => by
    rw [bf]
    have := bf_len f (i + 1) (m / 2)
    split <;> simp <;> omega
theorem up_of_pairwise {zs : List Int} (h : zs.Pairwise (· < ·)) : Up zs := fun s t hst ht => by
  have := (List.pairwise_iff_getElem.1 h) s t (by omega) ht hst
  simpa [List.getD, List.getElem?_eq_getElem ht, List.getElem?_eq_getElem (show s < zs.length by omega)] using this
theorem setZ_up (m : Int) : Up (setZ m) := up_of_pairwise (bf_up 32 0 m)
theorem setZ_len (m : Int) : (setZ m).length ≤ 32 := bf_len 32 0 m

theorem land_even (k : Nat) (hk : 0 < k) : (2 * k) &&& (2 * k - 1) = 2 * (k &&& (k - 1)) := by
  have h1 : (2 * k &&& (2 * k - 1)) / 2 = k &&& (k - 1) := by
    rw [Nat.and_div_two, show 2 * k / 2 = k from by omega, show (2 * k - 1) / 2 = k - 1 from by omega]
  have h2 : (2 * k &&& (2 * k - 1)) % 2 = 0 := by
    have : ¬ (2 * k &&& (2 * k - 1)) % 2 = 1 := by
      rw [Nat.and_mod_two_eq_one]; omega
    omega
  omega
theorem land_odd (k : Nat) : (2 * k + 1) &&& (2 * k + 1 - 1) = 2 * k := by
  have h1 : ((2 * k + 1) &&& (2 * k + 1 - 1)) / 2 = k := by
    rw [Nat.and_div_two, show (2 * k + 1) / 2 = k from by omega, show (2 * k + 1 - 1) / 2 = k from by omega, Nat.and_self]
  have h2 : ((2 * k + 1) &&& (2 * k + 1 - 1)) % 2 = 0 := by
    have : ¬ ((2 * k + 1) &&& (2 * k + 1 - 1)) % 2 = 1 := by
      rw [Nat.and_mod_two_eq_one]; omega
    omega
  omega
theorem bf_even (f : Nat) (i : Int) (k : Nat) : bf (f + 1) i ((2 * k : Nat) : Int) = bf f (i + 1) (k : Int) := by
  rw [bf, if_neg (by omega), show (((2 * k : Nat) : Int) / 2) = (k : Int) from by omega]
theorem bf_odd (f : Nat) (i : Int) (k : Nat) : bf (f + 1) i ((2 * k + 1 : Nat) : Int) = i :: bf f (i + 1) (k : Int) := by
  rw [bf, if_pos (by omega), show (((2 * k + 1 : Nat) : Int) / 2) = (k : Int) from by omega]
theorem bf_ctz : ∀ (f : Nat) (i : Int) (m : Nat), 0 < m → m < 2 ^ f → bf f i (m : Int) = (i + (Lib.ctzFrom f m : Nat)) :: bf f i ((m &&& (m - 1) : Nat) : Int)
  | 0, i, m, h0, h1 => by simp at h1; omega
  | f + 1, i, m, h0, h1 => by
    obtain ⟨k, rfl | rfl⟩ : ∃ k, m = 2 * k ∨ m = 2 * k + 1 := ⟨m / 2, by omega⟩
    · have hk : 0 < k := by omega
      rw [land_even k hk, bf_even, bf_even, bf_ctz f (i + 1) k hk (by rw [Nat.pow_succ] at h1; omega)]
      rw [Lib.ctzFrom, if_neg (by omega), show 2 * k / 2 = k from by omega]
      congr 1; omega
    · rw [land_odd, bf_odd, bf_even]
      rw [Lib.ctzFrom, if_pos (by omega)]
      simp

theorem tz32_core (x k idx : Nat) (w : World) (hx0 : ((x : Int) == 0) = false)
    (key : bits BinOp.and IntKind.u32 (x : Int) (-(x : Int) % 4294967296) * 125613361 % 4294967296 / 134217728 = (idx : Int))
    (hi : idx < 32) (hk : k < 32) (hcell : w.cell? ⟨0, idx, none⟩ = some (.int .u8 k)) :
    Calls Tryd.prog 78 #[.int .u32 x] w fun e w' => e = .returned (.int .i64 k) ∧ w = w' := by
  go_enter Tryd.func78, Tryd.ntmps78
  go_wp2_with (simp only [key])
  go_ret
  exact ⟨rfl, rfl⟩
theorem tz32_any (x : Nat) (hx : x < 4294967296) (h0 : x ≠ 0) (w : World) (hT : TabAt 0 Lib.deBruijn32tab w) :
    Calls Tryd.prog 78 #[.int .u32 x] w fun e w' => e = .returned (.int .i64 (Lib.ctzFrom 32 x)) ∧ w = w' := by
  obtain ⟨hlow, hk⟩ := Lib.lowest_bit 32 x h0 hx
  obtain ⟨hi, htab⟩ := Lib.deBruijn32_at _ hk
  have hcell := hT _ hi
  rw [htab] at hcell
  have h := tz32_core x _ _ w (by simp; omega) (tz32_key x _ hx h0 hlow) hi hk hcell
  rw [show Lib.ctz 32 x = Lib.ctzFrom 32 x from by rw [Lib.ctz, if_neg h0]] at h
  exact h

theorem tab_below {w w' : World} {B : Nat} (h : TabAt 0 Lib.deBruijn32tab w) (hb : Below B w w') (h0 : 0 < B) : TabAt 0 Lib.deBruijn32tab w' := fun j hj => (hb.cell (p := ⟨0, j, none⟩) h0).trans (h j hj)
theorem land_lt (m : Nat) (h : 0 < m) : m &&& (m - 1) < m := Nat.lt_of_le_of_lt Nat.and_le_right (by omega)
theorem setz_next {zs pre : List Int} {m : Nat} (h : zs = pre ++ bf 32 0 (m : Int)) (h0 : 0 < m) (h1 : m < 4294967296) : zs = (pre ++ [((Lib.ctzFrom 32 m : Nat) : Int)]) ++ bf 32 0 ((m &&& (m - 1) : Nat) : Int) := by
  rw [h, bf_ctz 32 0 m h0 (by omega)]; simp
theorem bf_zero : ∀ (f : Nat) (i : Int), bf f i 0 = []
  | 0, i => rfl
  | f + 1, i => by rw [bf, if_neg (by omega)]; exact bf_zero f _

set_option maxHeartbeats 1600000 in
theorem aSet_any (m : Nat) (w : World) (h1 : m < 4294967296) (hT : TabAt 0 Lib.deBruijn32tab w) (hz : 0 < w.heap.size) :
    Calls Tryd.prog 56 #[.int .u32 m] w fun e w' => GivesC w (setZ m) e w' := by
  obtain ⟨i0, hi, hz0, hz1, hz2⟩ := info_parts info_int
  have hlz := setZ_len m
  obtain ⟨zs, hzs⟩ : ∃ zs, zs = setZ m := ⟨_, rfl⟩
  rw [← hzs] at hlz ⊢
  have HZ := Lib.hid hzs
  have HT := Lib.hid hT
  obtain ⟨B, hB⟩ : ∃ B, B = w.heap.size := ⟨_, rfl⟩
  have HB := Lib.hid hB
  have hBw : B ≤ w.heap.size := by omega
  have hBp : 0 < B := by omega
  clear hB hzs hT
  go_enter Tryd.func56, Tryd.ntmps56
  go_wp2
  go_loopw [0, 3] (fun mv v wr => ∃ (mk : Nat) (pre : List Int), mk < 4294967296 ∧ mv = .int .u32 mk ∧ Hid (Own wr B v pre) ∧ Hid (zs = pre ++ bf 32 0 (mk : Int)) ∧ Below B w wr) (fun mv _ _ => (intOf mv).toNat)
  case atStart => exact ⟨m, [], h1, rfl, World.ownsRow_nil _ _ _ _, HZ.out, Below.refl _ _⟩
  case round =>
    obtain ⟨mk, pre, hmk, rfl, hown, hpre, hnx⟩ := hrel
    have hsz := hnx.size
    have hpl : pre.length ≤ 32 := by have := hpre.out; rw [this] at hlz; simp at hlz; omega
    by_cases hz0' : mk = 0
    · have e := Lib.hid (show zs = pre by have := hpre.out; rw [hz0'] at this; rw [this, show ((0 : Nat) : Int) = 0 from rfl, bf_zero]; simp)
      have hf := Lib.hid (own_rdc hown.out)
      have hnx' : Below w.heap.size w wr := by rw [← HB.out]; exact hnx
      have hb1 : ((mk : Int) != 0) = false := by simp [hz0']
      clear hpre hown hz0'
      go_wp2
      go_ret
      obtain ⟨A', c', e', hr, hcap1, hcap2⟩ := hf.out
      rw [e.out]
      exact ⟨A', c', by rw [← e']; rfl, hr, hnx', hcap1, hcap2⟩
    · have hb1 : ((mk : Int) != 0) = true := by simp [hz0']
      have HTZ := Lib.hid (tz32_any mk hmk hz0' wr (tab_below HT.out hnx hBp))
      have hY := Lib.hid (setz_next hpre.out (by omega) hmk)
      obtain ⟨t, ht⟩ : ∃ t, t = Lib.ctzFrom 32 mk := ⟨_, rfl⟩
      rw [← ht] at HTZ hY
      obtain ⟨q, hq⟩ : ∃ q, q = mk &&& (mk - 1) := ⟨_, rfl⟩
      have hqlt : q < mk := by rw [hq]; exact land_lt mk (by omega)
      rw [← hq] at hY
      have hbit : bits BinOp.and IntKind.u32 (mk : Int) ((mk : Int) - 1) = (q : Int) := by
        rw [show (mk : Int) - 1 = ((mk - 1 : Nat) : Int) from by omega, bits_and_u32_nat mk (mk - 1) hmk (by omega), ← hq]
      have hmk1 : 1 ≤ mk := by omega
      clear hpre hq ht hz0'
      go_wp2_with (first
        | (go_at_call 78; refine HTZ.out.mono ?_; rintro e w' ⟨rfl, rfl⟩)
        | (at_builtin; refine wpList_append_own _ rfl _ _ 27 rfl B 3 i0 (.int .i64 0) 1 8 Tryd.underlying27 hi hz0 hz1 hz2 rfl (by decide) _ _ _ rfl (hown.out.alloc _) ⟨wr.heap.size, 0, none⟩ 1 1 [.int .i64 t] rfl rfl ?c1 ?c2 ?c3 ?c4 ?c5 ?_))
      case c1 => exact own_one
      case c2 => intro u hu; simp at hu; subst hu; rfl
      case c3 => unfold maxLen; omega
      case c4 => omega
      case c5 => simp; omega
      intro v' w1 hown' hgrow _
      have R := own_app (K' := pre ++ [(t : Int)]) rfl hnx hown.out hown' hgrow hBw
      have R1 := Lib.hid R.1
      have R2 := R.2
      clear R hown' hgrow hown
      go_wp2
      go_roundw
      case rel => exact ⟨q, _, by omega, rfl, R1, hY, R2⟩
      case measure => simp [intOf]; omega
theorem or_pow (a i : Nat) (h : a < 2 ^ i) : a ||| 2 ^ i = a + 2 ^ i := by
  have := Nat.two_pow_add_eq_or_of_lt h 1
  rw [Nat.mul_one] at this
  rw [Nat.or_comm, ← this, Nat.add_comm]
theorem bits_or_u32_nat (a b : Nat) (ha : a < 4294967296) (hb : b < 4294967296) : bits .or .u32 (a : Int) (b : Int) = ((a ||| b : Nat) : Int) := by
  have hx : a ||| b < 2 ^ 32 := Nat.or_lt_two_pow (by omega) (by omega)
  have h1 : (BitVec.ofInt 32 (a : Int)).toNat = a := by
    rw [BitVec.ofInt_natCast, BitVec.toNat_ofNat]; exact Nat.mod_eq_of_lt (by omega)
  have h2 : (BitVec.ofInt 32 (b : Int)).toNat = b := by
    rw [BitVec.ofInt_natCast, BitVec.toNat_ofNat]; exact Nat.mod_eq_of_lt (by omega)
  show IntKind.u32.wrap ((BitVec.ofInt 32 (a : Int) ||| BitVec.ofInt 32 (b : Int)).toNat : Int) = _
  rw [BitVec.toNat_or, h1, h2, wrap_u32']
  omega
def mstep (a : Int) (x : Int) : Int := bits BinOp.or IntKind.u32 a (2 ^ x.toNat % 4294967296)
theorem maskZ_eq (zs : List Int) : maskZ zs = zs.foldl mstep 0 := rfl
theorem pow_lt32 (i : Nat) (h : i < 32) : 2 ^ i < 4294967296 := by
  have : 2 ^ i < 2 ^ 32 := Nat.pow_lt_pow_right (by omega) h
  omega
theorem mstep_pow (a i : Nat) (h : a < 2 ^ i) (hi : i < 32) : mstep (a : Int) (i : Int) = ((a + 2 ^ i : Nat) : Int) := by
  have hp := pow_lt32 i hi
  unfold mstep
  have e : (2 : Int) ^ (i : Int).toNat % 4294967296 = ((2 ^ i : Nat) : Int) := by
    rw [Int.toNat_natCast]
    have : ((2 : Int) ^ i) = ((2 ^ i : Nat) : Int) := by simp
    rw [this]; omega
  rw [e, bits_or_u32_nat a (2 ^ i) (by omega) hp, or_pow a i h]
theorem fold_bf : ∀ (f i m a : Nat), a < 2 ^ i → m < 2 ^ f → i + f ≤ 32 → (bf f (i : Int) (m : Int)).foldl mstep (a : Int) = ((a + 2 ^ i * m : Nat) : Int)
  | 0, i, m, a, ha, hm, hif => by
    have : m = 0 := by simp at hm; omega
    subst this; simp [bf]
  | f + 1, i, m, a, ha, hm, hif => by
    have hp : 2 ^ (i + 1) = 2 * 2 ^ i := by rw [Nat.pow_succ]; omega
    obtain ⟨k, rfl | rfl⟩ : ∃ k, m = 2 * k ∨ m = 2 * k + 1 := ⟨m / 2, by omega⟩
    · rw [bf_even]
      have ih := fold_bf f (i + 1) k a (by omega) (by rw [Nat.pow_succ] at hm; omega) (by omega)
      rw [show ((i : Int) + 1) = ((i + 1 : Nat) : Int) from by omega, ih, hp, Nat.mul_assoc, Nat.mul_left_comm]
    · rw [bf_odd, List.foldl_cons, mstep_pow a i ha (by omega)]
      have ih := fold_bf f (i + 1) k (a + 2 ^ i) (by omega) (by rw [Nat.pow_succ] at hm; omega) (by omega)
      rw [show ((i : Int) + 1) = ((i + 1 : Nat) : Int) from by omega, ih, hp, Nat.mul_add, Nat.mul_assoc, Nat.mul_left_comm]
      congr 1; omega
theorem maskZ_setZ (m : Nat) (h : m < 4294967296) : maskZ (setZ (m : Int)) = (m : Int) := by
  rw [maskZ_eq, setZ]
  have := fold_bf 32 0 m 0 (by simp) (by omega) (by omega)
  simpa using this
theorem bf_of : ∀ (f i : Nat) (zs : List Int), zs.Pairwise (· < ·) → (∀ x ∈ zs, (i : Int) ≤ x ∧ x < i + f) → ∃ m : Nat, m < 2 ^ f ∧ zs = bf f (i : Int) (m : Int)
  | 0, i, zs, _, hr => by
    refine ⟨0, by simp, ?_⟩
    cases zs with
    | nil => rfl
    | cons x r => have := hr x (by simp); omega
  | f + 1, i, zs, hp, hr => by
    cases zs with
    | nil => exact ⟨0, Nat.pos_of_ne_zero (by simp), (bf_zero (f + 1) _).symm⟩
    | cons x r =>
      by_cases hx : x = i
      · subst hx
        have hc := List.pairwise_cons.1 hp
        obtain ⟨m, hm, hz⟩ := bf_of f (i + 1) r hc.2 (fun y hy => by
          have h1 := hc.1 y hy
          have h2 := hr y (List.mem_cons_of_mem _ hy)
          omega)
        refine ⟨2 * m + 1, by rw [Nat.pow_succ]; omega, ?_⟩
        rw [bf_odd, hz]; rfl
      · have hc := List.pairwise_cons.1 hp
        have hx0 := hr x (by simp)
        obtain ⟨m, hm, hz⟩ := bf_of f (i + 1) (x :: r) hp (fun y hy => by
          have h2 := hr y hy
          rcases List.mem_cons.1 hy with rfl | hy'
          · omega
          · have h1 := hc.1 y hy'; omega)
        refine ⟨2 * m, by rw [Nat.pow_succ]; omega, ?_⟩
        rw [bf_even, hz]; rfl
theorem set_maskZ {zs : List Int} (hp : zs.Pairwise (· < ·)) (hr : ∀ x ∈ zs, 0 ≤ x ∧ x < 32) : ∃ m : Nat, m < 4294967296 ∧ maskZ zs = (m : Int) ∧ setZ (m : Int) = zs := by
  obtain ⟨m, hm, hz⟩ := bf_of 32 0 zs hp (fun x hx => by have := hr x hx; omega)
  have hm' : m < 4294967296 := by simpa using hm
  have e : setZ (m : Int) = zs := hz.symm
  exact ⟨m, hm', by rw [← e]; exact maskZ_setZ m hm', e⟩
theorem rfG_from : ∀ (l : List Au) (i : Nat) (t : List Int) (e : Int), ∀ x ∈ rfG l i t e, (i : Int) ≤ x
  | [], _, _, _, x, hx => by cases hx
  | a :: l, i, t, e, x, hx => by
    rw [rfG] at hx
    rcases List.mem_append.1 hx with hx | hx
    · split at hx
      · rw [List.mem_singleton.1 hx]; exact Int.le_refl _
      · cases hx
    · have := rfG_from l (i + 1) t e x hx; omega
theorem rfG_up : ∀ (l : List Au) (i : Nat) (t : List Int) (e : Int), (rfG l i t e).Pairwise (· < ·)
  | [], _, _, _ => List.Pairwise.nil
  | a :: l, i, t, e => by
    rw [rfG, List.pairwise_append]
    refine ⟨by split <;> simp, rfG_up l (i + 1) t e, fun x hx y hy => ?_⟩
    have := rfG_from l (i + 1) t e y hy
    split at hx
    · rw [List.mem_singleton.1 hx]; omega
    · cases hx
end Go.Proofs.YtedleffmbddccaaDoor

/- Layer 6: checkTuple, checkStep, statesOf. -/
namespace Go.Proofs.YtedleffmbddccaaDoor
open Go.RowKit Go.Sort

/-- Whether each state of a tuple is one of its automaton. -/
def ctGo : List Int → List Au → Bool
  | s :: t, a :: l => decide (0 ≤ s ∧ s < a.st) && ctGo t l
  | _, _ => true
def ctE (l : List Au) (t : List Int) : Int := if chkL l ≠ 0 then chkL l else if t.length ≠ l.length then 4 else if ctGo t l = true then 0 else 2
def csE6 (l : List Au) (t : List Int) (e : Int) : Int := if ctE l t ≠ 0 then ctE l t else if e ∈ alT l then 0 else 9
theorem drop_int {t : List Int} {k : Nat} (h : k < t.length) : t.drop k = t.getD k 0 :: t.drop (k + 1) := by
  rw [List.drop_eq_getElem_cons h]; simp [List.getD, List.getElem?_eq_getElem h]

set_option maxHeartbeats 2000000 in
set_option maxRecDepth 20000 in
theorem pChkT_any (A : Option Addr) (n c : Nat) (l : List Au) (A2 : Option Addr) (m d : Nat) (t : List Int) (w : World) (h : RdAs w w.heap.size A l) (hn : l.length = n) (h2 : RdI w w.heap.size A2 t) (hm : t.length = m) :
    Calls Tryd.prog 51 #[.slice A n c, .slice A2 m d] w fun e w' => e = .returned (.int .i64 (ctE l t)) ∧ Below w.heap.size w w' := by
  have HC := Lib.hid (pCheck_any A n c l w.heap.size w h (Nat.le_refl _) hn)
  have HL := Lib.hid h
  have HN := Lib.hid hn
  have HM := Lib.hid hm
  have HT := Lib.hid h2
  obtain ⟨u, hu⟩ : ∃ u, u = chkL l := ⟨_, rfl⟩
  rw [← hu] at HC
  have HU := Lib.hid hu
  by_cases h0 : u = 0
  · have h12 : n ≤ 12 := by have := (by rw [← hu, h0] : chkL l = 0); unfold chkL at this; split at this <;> omega
    subst h0
    by_cases hnm : m = n
    · obtain ⟨v, hv⟩ : ∃ v, v = ctGo t l := ⟨_, rfl⟩
      have HV := Lib.hid (show ctGo (t.drop 0) (l.drop 0) = v by rw [hv]; rfl)
      have HR := Lib.hid (show ctE l t = if v = true then 0 else 2 by rw [ctE, if_neg (by rw [← hu]; simp), if_neg (by rw [hm, hn, hnm]; simp), hv])
      subst hnm
      rw [HR.out]
      clear h hn h2 hm hu hv HR
      go_enter Tryd.func51, Tryd.ntmps51
      go_wp2_with fail
      refine HC.out.mono ?_
      rintro e w1 ⟨rfl, hb1⟩
      have HB1 := Lib.hid hb1
      clear hb1 HC
      go_wp2_with fail
      go_loopw [20] (fun i wr => ∃ k : Nat, k ≤ m ∧ i = .int .i64 k ∧ wr = w1 ∧ Hid (ctGo (t.drop k) (l.drop k) = v)) (fun i _ => m - (intOf i).toNat)
      case atStart => exact ⟨0, Nat.zero_le _, rfl, rfl, HV⟩
      case round =>
        clear HV
        obtain ⟨k, hkm, rfl, rfl, hv⟩ := hrel
        by_cases hlt : k < m
        · obtain ⟨a, ha⟩ : ∃ a, l[k]? = some a := ⟨_, List.getElem?_eq_getElem (by rw [HN.out]; exact hlt)⟩
          obtain ⟨b, o, rfl, hb, hc⟩ := HL.out (by rw [HN.out]; omega)
          obtain ⟨A1, n1, c1, s1, M1, m1, d1, E1, k1, g1, q0, q1, q2, q3, hr⟩ := hc k a ha
          obtain ⟨b2, o2, rfl, hb2, hc2⟩ := HT.out (by rw [HM.out]; omega)
          have p1 := (HB1.out.cell (p := ⟨b, o + k * 4 + 1, none⟩) hb).trans q1
          have r1 := (HB1.out.cell (p := ⟨b2, o2 + k, none⟩) hb2).trans (hc2 k (by rw [HM.out]; exact hlt))
          obtain ⟨s, hs⟩ : ∃ s, s = t.getD k 0 := ⟨_, rfl⟩
          rw [← hs] at r1
          have hst := hr.st
          have hv2 := hv.out
          rw [drop_int (by rw [HM.out]; exact hlt), drop_au ha, ctGo, ← hs, hst] at hv2
          have w0 : (k : Int) < (m : Int) := by omega
          have w1 : (0 : Int) ≤ (k : Int) := by omega
          clear q0 q1 q2 q3 hc hc2 ha hr hs hst hv
          by_cases hneg : s < 0
          · have hvf : v = false := by rw [← hv2, decide_eq_false (by omega)]; rfl
            subst hvf
            clear hv2
            go_wp2_with fail
            go_ret
            exact ⟨by first | rfl | trivial, HB1.out⟩
          · by_cases hge : s1 ≤ s
            · have hvf : v = false := by rw [← hv2, decide_eq_false (by omega)]; rfl
              subst hvf
              clear hv2
              go_wp2_with fail
              go_ret
              exact ⟨by first | rfl | trivial, HB1.out⟩
            · have hlt2 : s < s1 := by omega
              rw [decide_eq_true (by omega), Bool.true_and] at hv2
              have HV2 := Lib.hid hv2
              clear hv2
              go_wp2_with fail
              go_roundw
              case rel => exact ⟨k + 1, by omega, by go_num, by first | rfl | trivial, HV2⟩
              case measure => simp [intOf]; omega
        · obtain rfl : k = m := by omega
          have hvt : v = true := by
            have := hv.out
            rw [List.drop_of_length_le (by rw [HM.out]; exact Nat.le_refl _)] at this
            rw [← this]; rfl
          subst hvt
          clear hlt hkm hv
          go_wp2_with fail
          go_ret
          exact ⟨by first | rfl | trivial, HB1.out⟩
    · have HR := Lib.hid (show ctE l t = 4 by rw [ctE, if_neg (by rw [← hu]; simp), if_pos (by rw [hm, hn]; exact hnm)])
      have hb : ((m : Int) != (n : Int)) = true := by simp; omega
      rw [HR.out]
      clear h hn h2 hm hu HR hnm
      go_enter Tryd.func51, Tryd.ntmps51
      go_wp2_with fail
      refine HC.out.mono ?_
      rintro e w1 ⟨rfl, hb1⟩
      have HB1 := Lib.hid hb1
      clear hb1 HC
      go_wp2_with fail
      go_ret
      exact ⟨by first | rfl | trivial, HB1.out⟩
  · have HR := Lib.hid (show ctE l t = u by rw [ctE, if_pos (by rw [← hu]; exact h0), hu])
    have hb : (u != 0) = true := by simp [h0]
    rw [HR.out]
    clear h hn h2 hm hu HR h0
    go_enter Tryd.func51, Tryd.ntmps51
    go_wp2_with fail
    refine HC.out.mono ?_
    rintro e w1 ⟨rfl, hb1⟩
    have HB1 := Lib.hid hb1
    clear hb1 HC
    go_wp2_with fail
    go_ret
    exact ⟨by first | rfl | trivial, HB1.out⟩

set_option maxHeartbeats 2000000 in
set_option maxRecDepth 20000 in
theorem pChkS_any (A : Option Addr) (n c : Nat) (l : List Au) (A2 : Option Addr) (m d : Nat) (t : List Int) (ev : Int) (w : World) (h : RdAs w w.heap.size A l) (hn : l.length = n) (h2 : RdI w w.heap.size A2 t) (hm : t.length = m) :
    Calls Tryd.prog 54 #[.slice A n c, .slice A2 m d, .int .i64 ev] w fun e w' => e = .returned (.int .i64 (csE6 l t ev)) ∧ Below w.heap.size w w' := by
  have HC := Lib.hid (pChkT_any A n c l A2 m d t w h hn h2 hm)
  obtain ⟨u, hu⟩ : ∃ u, u = ctE l t := ⟨_, rfl⟩
  rw [← hu] at HC
  by_cases h0 : u = 0
  · have hc0 : chkL l = 0 := by
      have h1 : ctE l t = 0 := by rw [← hu]; exact h0
      unfold ctE at h1
      by_cases h3 : chkL l = 0
      · exact h3
      · rw [if_pos h3] at h1; exact h1
    have hr : ∀ a ∈ l, RightW a := by
      unfold chkL at hc0
      split at hc0
      · omega
      · exact fun a ha => (right_of (chkGo_all.1 hc0 a ha)).toRightW
    have hn12 : n ≤ 12 := by unfold chkL at hc0; split at hc0 <;> omega
    obtain ⟨v, hv⟩ : ∃ v, v = decide (ev ∈ alT l) := ⟨_, rfl⟩
    have HR := Lib.hid (show csE6 l t ev = if v = true then 0 else 9 by rw [csE6, if_neg (by rw [← hu]; simpa using h0), hv]; simp)
    have HLB := Lib.hid (fun W (hW : Below w.heap.size w W) => (h.below hW (Nat.le_refl _)).more hW.size)
    have HEv := Lib.hid (fun W (hW : Below w.heap.size w W) => pEvents_any A n c l W.heap.size W (HLB.out W hW) (Nat.le_refl _) hn (by omega) hr)
    have HUP := Lib.hid (up_of (alT_sorted hr))
    have HA32 := Lib.hid (alT_len hr)
    subst h0
    rw [HR.out]
    have HV := Lib.hid hv
    clear h hn h2 hm hu hc0 hr HR hv
    go_enter Tryd.func54, Tryd.ntmps54
    go_wp2_with fail
    refine HC.out.mono ?_
    rintro e w1 ⟨rfl, hb1⟩
    have HB1 := Lib.hid hb1
    clear hb1 HC
    go_wp2_with fail
    refine (HEv.out _ HB1.out).mono ?_
    rintro e w2 ⟨Ax, cx, rfl, hr2, hb2, _, _⟩
    have HB2 := Lib.hid (HB1.out.trans (hb2.mono HB1.out.size))
    have HCo := Lib.hid (aContains_any Ax (alT l).length cx w2.heap.size (alT l) ev w2 hr2 rfl (by have := HA32.out; omega) HUP.out)
    rw [← HV.out] at HCo
    clear hb2 hr2 HB1
    obtain ⟨k, hk⟩ : ∃ k, k = (alT l).length := ⟨_, rfl⟩
    rw [← hk] at HCo ⊢
    clear hk HV
    go_wp2_with fail
    refine HCo.out.mono ?_
    rintro e w3 ⟨rfl, rfl⟩
    cases v
    · go_wp2_with fail
      go_ret
      exact ⟨by first | rfl | trivial, HB2.out⟩
    · go_wp2_with fail
      go_ret
      exact ⟨by first | rfl | trivial, HB2.out⟩
  · have HR := Lib.hid (show csE6 l t ev = u by rw [csE6, if_pos (by rw [← hu]; exact h0), hu])
    have hb : (u != 0) = true := by simp [h0]
    rw [HR.out]
    clear h hn h2 hm hu HR h0
    go_enter Tryd.func54, Tryd.ntmps54
    go_wp2_with fail
    refine HC.out.mono ?_
    rintro e w1 ⟨rfl, hb1⟩
    have HB1 := Lib.hid hb1
    clear hb1 HC
    go_wp2_with fail
    go_ret
    exact ⟨by first | rfl | trivial, HB1.out⟩

theorem splice_tuple {t : List Int} (h : t.length ≤ 12) : splice (encT zeroT) 0 (encT t) = encT (t ++ List.replicate (12 - t.length) 0) := by
  have e : encT zeroT = List.replicate 12 (.int .i64 0) := rfl
  rw [splice, List.take_zero, List.nil_append, Nat.zero_add, encT_len, e, List.drop_replicate]
  simp [encT]
theorem int_size : (Tryd.prog.info? 3).map (·.size) = some 1 := by kernel_rfl
set_option maxHeartbeats 4000000 in
set_option maxRecDepth 100000 in
theorem pStatesOf_any (A : Option Addr) (m d : Nat) (t : List Int) (w : World) (h : RdI w w.heap.size A t) (hm : t.length = m) (h12 : m ≤ 12) :
    Calls Tryd.prog 52 #[.slice A m d] w fun e w' => e = .returned (.agg (encT (t ++ List.replicate (12 - m) 0)).toArray) ∧ Below w.heap.size w w' := by
  have HB0 := Lib.hid ((Below.refl w.heap.size w).alloc (Nat.le_refl _) (.cells (encT zeroT).toArray 92))
  have HB1 := Lib.hid ((Below.refl (w.heap.size + 1) (w.alloc (.cells (encT zeroT).toArray 92))).alloc (by simp) (.cells (encT zeroT).toArray 92))
  have HR0 := Lib.hid (Row.new w (encT zeroT) 92)
  have HR1 := Lib.hid (show Row ((w.alloc (.cells (encT zeroT).toArray 92)).alloc (.cells (encT zeroT).toArray 92)) (w.heap.size + 1) 92 (encT zeroT) by
    have := Row.new (w.alloc (.cells (encT zeroT).toArray 92)) (encT zeroT) 92
    simpa using this)
  have HT := Lib.hid (h.below (HB0.out.alloc (by simp) (.cells (encT zeroT).toArray 92)) (Nat.le_refl _))
  have hpos : 0 < (encT t).length → (some ⟨w.heap.size + 1, 0, none⟩ : Option Addr) = some ⟨w.heap.size + 1, 0, none⟩ ∧ ∃ ad, A = some ad ∧ ∀ j v, (encT t)[j]? = some v → ((w.alloc (.cells (encT zeroT).toArray 92)).alloc (.cells (encT zeroT).toArray 92)).cell? (ad.add j) = some v := fun h0 => by
    rw [encT_len] at h0
    obtain ⟨b, o, rfl, _, hc⟩ := HT.out h0
    refine ⟨rfl, _, rfl, fun j v hj => ?_⟩
    have hj2 : j < t.length := by have := (List.getElem?_eq_some_iff.1 hj).1; rwa [encT_len] at this
    have e : (⟨b, o, none⟩ : Addr).add j = ⟨b, o + j, none⟩ := by unfold Addr.add; split <;> simp_all
    rw [e, hc j hj2]
    rw [encT_at hj2] at hj; exact hj
  have HPOS := Lib.hid hpos
  have hn := Lib.hid (show (encT t).length = Nat.min m 12 by rw [encT_len, hm]; exact (Nat.min_eq_left h12).symm)
  have HSP := Lib.hid (splice_tuple (t := t) (by omega))
  rw [hm] at HSP
  have hfit := Lib.hid (show 0 + (encT t).length ≤ (encT zeroT).length by rw [encT_len, encT_len, hm]; simpa [zeroT] using h12)
  have hone := Lib.hid (show ∀ v ∈ encT t, v.oneCell' = true from fun v hv => by obtain ⟨x, _, rfl⟩ := List.mem_map.1 hv; rfl)
  obtain ⟨tt, htt⟩ : ∃ tt, tt = t ++ List.replicate (12 - m) 0 := ⟨_, rfl⟩
  have htl := Lib.hid (show tt.length = 12 by rw [htt, List.length_append, List.length_replicate, hm]; omega)
  rw [← htt] at HSP ⊢
  have hone2 := Lib.hid (encT_one tt)
  have hsz := Lib.hid (show (Tryd.prog.info? 92).map (·.size) = some (encT tt).length by rw [states_size, encT_len, htl.out])
  have hszl := Lib.hid (show (encT tt).toArray.size = (encT zeroT).toArray.size by simp [encT_len, htl.out, zeroT])
  clear h hm hpos htt
  rw [zeroT_enc] at HB0 HB1 HR0 HR1 HT HPOS
  go_enter Tryd.func52, Tryd.ntmps52
  go_wp2_with (first
    | (refine wpList_copy_splice rfl (.tmp 4) (.tmp 5) 27 27 rfl 3 Tryd.underlying27 int_size (some ⟨w.heap.size + 1, 0, none⟩) A 12 12 m d rfl rfl (w.heap.size + 1) 0 (encT zeroT) 92 HR1.out (encT t) hn.out HPOS.out hfit.out hone.out (w.heap.size + 1) _ HB1.out (Nat.le_refl _) ?_; intro w2 HG2 hB2
       rw [HSP.out] at HG2
       have HB2 := Lib.hid hB2
       have HST2 := Lib.hid (StAt.row htl.out (show Row w2 (w.heap.size + 1) 92 (encT tt) from HG2.out))
       have HR2 := Lib.hid (HR0.out.below hB2 (Nat.lt_succ_self _))
       clear hB2)
    | refine wpList_load_mid rfl 92 (.tmp 3) rfl (w.heap.size + 1) 0 rfl (encT tt) _ HST2.out.2 Tryd.underlying92 rfl hsz.out ?_
    | refine wpList_store_row rfl 92 (.tmp 2) (.tmp 7) rfl w.heap.size (encT tt).toArray rfl rfl 92 (encT zeroT).toArray HR2.out (by simpa using hsz.out) (by simp [encT_len, htl.out, zeroT]) hone2.out ?_)
  have hrow2 := setRow_heap w2 w.heap.size _ (encT tt).toArray _ _ HR2.out
  refine bodyPost_ret (v := .agg (encT tt).toArray) ?_ rfl ⟨rfl, below_setRow (HB0.out.trans (HB2.out.mono (by simp))) (Nat.le_refl _) _⟩
  rw [results_cell1 rfl]
  have hld := run_loadVar_mid (P := Tryd.prog) (w2.setRow w.heap.size (encT tt).toArray) w.heap.size 0 92 (encT tt) _ (StAt.row htl.out (show Row _ _ _ _ from hrow2)).2 Tryd.underlying92 rfl hsz.out
  simp [asAddr, hld, Result.andThen]
end Go.Proofs.YtedleffmbddccaaDoor

/- Layer 6: what explore keeps; bounds. -/
namespace Go.Proofs.YtedleffmbddccaaDoor
open Go.RowKit Go.Sort Go.Maps

theorem ownsRow_same {w w' : World} {base sz n : Nat} {e : TypeId} {v : Value} {xs : List Value} (h : w.ownsRow base e sz v n xs) (hk : ∀ g, v.ownBlock = some g → w'.heap[g]? = w.heap[g]?) : w'.ownsRow base e sz v n xs := by
  refine ⟨h.1, ?_⟩
  rcases h.2 with hn | ⟨g, cap, cur, rfl, hb, hg, r⟩
  · exact .inl hn
  · exact .inr ⟨g, cap, cur, rfl, hb, (hk g rfl).trans hg, r⟩
theorem gr_of_below {w w' : World} (hb : Below w.heap.size w w') : w.grownBy w' none := ⟨hb.os, hb.tape, hb.output, hb.size, fun i hi _ => hb.block i hi⟩
theorem Fnd.below {w w' : World} {F B M base : Nat} {v : Value} {ts : List (List Int)} (h : Fnd w F B M base v ts) (hb : Below w.heap.size w w') : Fnd w' F B M base v ts :=
  ⟨h.nu.below hb h.nu.lt, h.fo.below hb h.fo.lt, h.mp.kept (gr_of_below hb) (by simp), own_below h.ow hb, h.ok, h.nd, Nat.le_trans h.hb hb.size⟩
/-- What explore keeps. -/
structure EX (w wr : World) (bs : Nat) (A : Option Addr) (n c : Nat) (al : List Int) (v : Value) (ts : List (List Int)) (ve : Value) (es : List Ed) (vx : Value) : Prop where
  bel : Below w.heap.size w wr
  fn : Fnd wr w.heap.size (w.heap.size + 1 + 1) (w.heap.size + 1) w.heap.size v ts
  stp : Row wr bs 22 [.slice A n c]
  edg : OwnE wr w.heap.size ve es
  evs : Own wr w.heap.size vx al
section
variable {w wr w' w1 : World} {bs : Nat} {A : Option Addr} {n c : Nat} {al : List Int} {v v' : Value} {ts ts' : List (List Int)} {ve ve' : Value} {es es' : List Ed} {vx : Value}
theorem EX.call (h : EX w wr bs A n c al v ts ve es vx) (hb : Below wr.heap.size wr w') : EX w w' bs A n c al v ts ve es vx :=
  ⟨h.bel.trans (hb.mono h.bel.size), h.fn.below hb, h.stp.below hb h.stp.lt, own_below h.edg hb, own_below h.evs hb⟩
theorem EX.alloc (h : EX w wr bs A n c al v ts ve es vx) (o : Obj) : EX w (wr.alloc o) bs A n c al v ts ve es vx := h.call ((Below.refl _ wr).alloc (Nat.le_refl _) o)
theorem EX.num (h : EX w wr bs A n c al v ts ve es vx) (hf : Fnd w' w.heap.size (w.heap.size + 1 + 1) (w.heap.size + 1) w.heap.size v' ts') (hk : Kp wr w' w.heap.size (w.heap.size + 1) v) : EX w w' bs A n c al v' ts' ve es vx := by
  have hz := h.bel.size
  have key : ∀ k, k < w.heap.size → w'.heap[k]? = wr.heap[k]? := fun k hk1 => hk.block k (by omega) (by omega) (by omega) (fun e => by have := (h.fn.ow.lt k e).1; omega)
  refine ⟨⟨hk.os.trans h.bel.os, hk.tape.trans h.bel.tape, hk.output.trans h.bel.output, Nat.le_trans hz hk.size, fun k hk1 => (key k hk1).trans (h.bel.block k hk1)⟩, hf, ?_, ?_, ?_⟩
  · exact (hk.block bs h.stp.lt (row_ne_row h.stp h.fn.fo (by decide)) (fun e => ownsMap_ne_row h.fn.mp h.stp e.symm) (row_ne_own h.stp h.fn.ow (by decide))).trans h.stp
  · refine ownsRow_same h.edg fun g hg => hk.block g (h.edg.lt g hg).2 (fun e => row_ne_own h.fn.fo h.edg (by decide) (by rw [hg, e])) (fun e => ownsMap_ne_own h.fn.mp h.edg (by rw [hg, e])) (fun e => ?_)
    rcases owns_ne h.fn.ow h.edg (by decide) with h1 | h1
    · rw [h1] at e; cases e
    · exact h1 (by rw [e, hg])
  · refine ownsRow_same h.evs fun g hg => hk.block g (h.evs.lt g hg).2 (fun e => row_ne_own h.fn.fo h.evs (by decide) (by rw [hg, e])) (fun e => ownsMap_ne_own h.fn.mp h.evs (by rw [hg, e])) (fun e => ?_)
    rcases owns_ne h.fn.ow h.evs (by decide) with h1 | h1
    · rw [h1] at e; cases e
    · exact h1 (by rw [e, hg])
theorem EX.edge {o : Obj} (h : EX w wr bs A n c al v ts ve es vx) (hg : (wr.alloc o).grownBy w1 ve.ownBlock) (ho : OwnE w1 w.heap.size ve' es') : EX w w1 bs A n c al v ts ve' es' vx := by
  have ha := h.alloc o
  have hz := ha.bel.size
  refine ⟨?_, ⟨ha.fn.nu.gr hg (fun e => row_ne_own ha.fn.nu ha.edg (by decide) e.symm), ha.fn.fo.gr hg (fun e => row_ne_own ha.fn.fo ha.edg (by decide) e.symm), ha.fn.mp.kept hg (fun e => ownsMap_ne_own ha.fn.mp ha.edg e.symm), ha.fn.ow.kept hg (owns_ne ha.fn.ow ha.edg (by decide)), h.fn.ok, h.fn.nd, Nat.le_trans ha.fn.hb hg.size⟩, ha.stp.gr hg (fun e => row_ne_own ha.stp ha.edg (by decide) e.symm), ho, ha.evs.kept hg (owns_ne ha.evs ha.edg (by decide))⟩
  exact ⟨hg.os.trans ha.bel.os, hg.tape.trans ha.bel.tape, hg.output.trans ha.bel.output, Nat.le_trans hz hg.size, fun k hk => (hg.block k (by omega) (fun e => by have := (ha.edg.lt k e.symm).1; omega)).trans (ha.bel.block k hk)⟩
end
theorem ownT_at {w : World} {base g c : Nat} {k : Nat} {ts : List (List Int)} (h : w.ownsRow base 92 12 (.slice (some ⟨g, 0, none⟩) k c) k (encTs ts)) (ht : ∀ t ∈ ts, ValT t) {i : Nat} (hi : i < ts.length) (hk : ts.length = k) : StAt w g (i * 12) (ts.getD i []) := by
  have hm : ts.getD i [] ∈ ts := by rw [List.getD, List.getElem?_eq_getElem hi]; exact List.getElem_mem _
  have hl := (ht _ hm).1
  have key : ∀ (ts : List (List Int)) (i j : Nat), (∀ t ∈ ts, ValT t) → i < ts.length → j < 12 → (encTs ts)[i * 12 + j]? = (encT (ts.getD i []))[j]? := by
    intro ts
    induction ts with
    | nil => intro i j _ hi _; simp at hi
    | cons t ts ih =>
      intro i j hv hi hj
      have h1 := (hv t List.mem_cons_self).1
      have e : encTs (t :: ts) = encT t ++ encTs ts := by unfold encTs; simp
      rw [e]
      cases i with
      | zero => rw [List.getElem?_append_left (by rw [encT_len, h1]; omega)]; simp [List.getD]
      | succ i =>
        rw [List.getElem?_append_right (by rw [encT_len, h1]; omega), encT_len, h1, show (i + 1) * 12 + j - 12 = i * 12 + j by omega, ih i j (fun u hu => hv u (List.mem_cons_of_mem _ hu)) (by simpa using hi) hj]
        simp [List.getD]
  refine ⟨hl, fun j u hj => ?_⟩
  have hj12 : j < 12 := by have := (List.getElem?_eq_some_iff.1 hj).1; rw [encT_len, hl] at this; exact this
  rw [World.ownsRow.cellAt h (i * 12 + j) (by omega), key ts i j ht hi hj12]; exact hj
theorem visitL_len : ∀ (l : List Ed) (fl : List Int), (visitL fl l).length ≤ fl.length + l.length
  | [], fl => Nat.le_refl _
  | x :: l, fl => by
    have := visitL_len l (visit fl x.t)
    have h2 : (visit fl x.t).length ≤ fl.length + 1 := by unfold visit; split <;> simp
    rw [visitL_cons, List.length_cons]; omega
theorem succK_len (a : Au) (q : Int) (k : Nat) : (succK a q k).length ≤ a.al.length := by
  unfold succK
  exact Nat.le_trans (List.length_filterMap_le _ _) (by simp; omega)
theorem canEn_le {a : Au} (h : RightW a) : ∀ j, (canEn a j).length ≤ j * a.al.length
  | 0 => by simp [canEn]
  | j + 1 => by
    have := canEn_le h j
    have h2 : (outE a (fnd a) j).length ≤ a.al.length := by
      unfold outE; rw [List.length_map, succ_eq h]; exact List.length_filterMap_le _ _
    rw [canEn_succ, List.length_append, Nat.add_mul, Nat.one_mul]; omega
theorem visK_pre {a : Au} (h : RightW a) (h0 : 0 < a.st) {j k : Nat} (hj : j < (Fd a j).length) {q : Int} (hq : q = (Fd a j).getD j 0) : visitL (Fd a j) (succK a q k) <+: fnd a := by
  obtain ⟨r, hr⟩ := succK_pre h q k
  have h1 : visitL (Fd a j) (succK a q k) <+: visitL (Fd a j) (succ a.ed q) := by
    rw [← hr, visitL_app]; exact visitL_pre _ _
  rw [hq, ← Fd_go hj, ← hq] at h1
  exact h1.trans (Fd_fnd h h0 (j + 1))
end Go.Proofs.YtedleffmbddccaaDoor
