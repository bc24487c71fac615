/- Layer 3, the mathematics: what Check means, steps and runs. -/
import Derived.Test.YtcciiikaejjooaaaChk
namespace Go.Proofs.Ytcciiikaejjooaa
open Go.RowKit

theorem cmp1_lt {x y : Int} : cmp1 x y < 0 ↔ x < y := by unfold cmp1; split <;> (try split) <;> omega
theorem cmp1_eq {x y : Int} : cmp1 x y = 0 ↔ x = y := by unfold cmp1; split <;> (try split) <;> omega
theorem cmp1_le {x y : Int} : cmp1 x y ≤ 0 ↔ x ≤ y := by unfold cmp1; split <;> (try split) <;> omega
/-- An edge is ahead of another one. -/
def ltE (x y : Ed) : Prop := x.f < y.f ∨ (x.f = y.f ∧ x.e < y.e)
instance (x y : Ed) : Decidable (ltE x y) := by unfold ltE; infer_instance
theorem cmpE_lt {x y : Ed} : cmpE x y < 0 ↔ ltE x y := by
  unfold cmpE ltE
  by_cases h : cmp1 x.f y.f = 0
  · rw [if_neg (by simpa using h), cmp1_lt]; rw [cmp1_eq] at h; omega
  · rw [if_pos h, cmp1_lt]; rw [cmp1_eq] at h; omega
theorem cmpE_eq {x y : Ed} : cmpE x y = 0 ↔ x.f = y.f ∧ x.e = y.e := by
  unfold cmpE
  by_cases h : cmp1 x.f y.f = 0
  · rw [if_neg (by simpa using h), cmp1_eq]; rw [cmp1_eq] at h; simp [h]
  · rw [if_pos h]; rw [cmp1_eq] at h; simp [h, cmp1_eq]
theorem cmpE_le {x y : Ed} : cmpE x y ≤ 0 ↔ ¬ ltE y x := by
  unfold cmpE ltE
  by_cases h : cmp1 x.f y.f = 0
  · rw [if_neg (by simpa using h), cmp1_le]; rw [cmp1_eq] at h; omega
  · rw [if_pos h, cmp1_le]; rw [cmp1_eq] at h; omega
theorem ltE_trans {x y z : Ed} (h1 : ltE x y) (h2 : ltE y z) : ltE x z := by unfold ltE at *; omega
theorem ltE_irrefl (x : Ed) : ¬ ltE x x := by unfold ltE; omega
theorem inSt_iff {s x : Int} : inSt s x = true ↔ 0 ≤ x ∧ x < s := by simp [inSt]

/-- The first error of an automaton. -/
def chkE (a : Au) : Int :=
  if csE 32 a.al ≠ 0 then csE 32 a.al else if a.st < 0 then 2 else if 4096 < a.st then 3 else if csE a.st a.mr ≠ 0 then csE a.st a.mr else egE a

theorem egGo_ok {al : List Int} {s : Int} : ∀ (l : List Ed) (p : Option Ed), egGo al s p l = 0 → (∀ x ∈ l, inSt s x.f = true ∧ inSt s x.t = true ∧ x.e ∈ al) ∧ l.Pairwise ltE ∧ ∀ y, p = some y → ∀ x ∈ l, ltE y x
  | [], p, _ => ⟨by simp, List.Pairwise.nil, by simp⟩
  | x :: r, p, h => by
    rw [egGo] at h
    by_cases h1 : inSt s x.f = false ∨ inSt s x.t = false
    · rw [if_pos h1] at h; omega
    · rw [if_neg h1] at h
      by_cases h2 : x.e ∉ al
      · rw [if_pos h2] at h; omega
      · rw [if_neg h2] at h
        by_cases h3 : ordE p x = true
        · rw [if_pos h3] at h; omega
        · rw [if_neg h3] at h
          obtain ⟨a, b, c⟩ := egGo_ok r (some x) h
          have hlt : ∀ z ∈ r, ltE x z := c x rfl
          have hx : inSt s x.f = true ∧ inSt s x.t = true ∧ x.e ∈ al := by
            rw [not_or] at h1
            exact ⟨by simpa using h1.1, by simpa using h1.2, by simpa using h2⟩
          refine ⟨fun z hz => ?_, List.pairwise_cons.2 ⟨hlt, b⟩, fun y hy z hz => ?_⟩
          · rcases List.mem_cons.1 hz with rfl | hz
            · exact hx
            · exact a z hz
          · subst hy
            have hyx : ltE y x := by
              have : ¬ cmpE x y ≤ 0 := by simpa [ordE] using h3
              rw [cmpE_le] at this
              exact Decidable.not_not.1 this
            rcases List.mem_cons.1 hz with rfl | hz
            · exact hyx
            · exact ltE_trans hyx (hlt z hz)

/-- What Check's OK says, but for the greatest number of states. -/
structure RightW (a : Au) : Prop where
  alr : ∀ x ∈ a.al, 0 ≤ x ∧ x < 32
  alo : a.al.Pairwise (· < ·)
  st0 : 0 ≤ a.st
  mrr : ∀ x ∈ a.mr, 0 ≤ x ∧ x < a.st
  mro : a.mr.Pairwise (· < ·)
  edr : ∀ x ∈ a.ed, (0 ≤ x.f ∧ x.f < a.st) ∧ (0 ≤ x.t ∧ x.t < a.st) ∧ x.e ∈ a.al
  edo : a.ed.Pairwise ltE
/-- What Check's OK says. -/
structure Right (a : Au) : Prop extends RightW a where
  st1 : a.st ≤ 4096
theorem right_of {a : Au} (h : chkE a = 0) : Right a := by
  unfold chkE at h
  by_cases h1 : csE 32 a.al ≠ 0
  · rw [if_pos h1] at h; exact absurd h h1
  · rw [if_neg h1] at h
    by_cases h2 : a.st < 0
    · rw [if_pos h2] at h; omega
    · rw [if_neg h2] at h
      by_cases h3 : 4096 < a.st
      · rw [if_pos h3] at h; omega
      · rw [if_neg h3] at h
        by_cases h4 : csE a.st a.mr ≠ 0
        · rw [if_pos h4] at h; exact absurd h h4
        · rw [if_neg h4] at h
          have c1 := csGo_ok a.al none (by simpa [csE] using h1)
          have c2 := csGo_ok a.mr none (by simpa [csE] using h4)
          have c3 := egGo_ok a.ed none h
          exact ⟨⟨c1.1, c1.2.1, by omega, c2.1, c2.2.1, fun x hx => ⟨inSt_iff.1 (c3.1 x hx).1, inSt_iff.1 (c3.1 x hx).2.1, (c3.1 x hx).2.2⟩, c3.2.1⟩, by omega⟩
theorem csGo_mk {m : Int} : ∀ (zs : List Int) (p : Option Int), (∀ x ∈ zs, 0 ≤ x ∧ x < m) → zs.Pairwise (· < ·) → (∀ y, p = some y → ∀ x ∈ zs, y < x) → csGo m p zs = 0
  | [], p, _, _, _ => by rw [csGo]
  | x :: r, p, h1, h2, h3 => by
    rw [csGo, if_neg (by have := h1 x (by simp); omega), if_neg ?_]
    · rw [List.pairwise_cons] at h2
      exact csGo_mk r (some x) (fun z hz => h1 z (by simp [hz])) h2.2 (fun y hy z hz => by injection hy with hy; subst hy; exact h2.1 z hz)
    · cases p with
      | none => simp [ordB]
      | some y => simpa [ordB] using h3 y rfl x (by simp)
theorem egGo_mk {al : List Int} {s : Int} : ∀ (l : List Ed) (p : Option Ed), (∀ x ∈ l, (0 ≤ x.f ∧ x.f < s) ∧ (0 ≤ x.t ∧ x.t < s) ∧ x.e ∈ al) → l.Pairwise ltE → (∀ y, p = some y → ∀ x ∈ l, ltE y x) → egGo al s p l = 0
  | [], p, _, _, _ => by rw [egGo]
  | x :: r, p, h1, h2, h3 => by
    have hx := h1 x (by simp)
    rw [egGo, if_neg (by simp [inSt_iff.2 hx.1, inSt_iff.2 hx.2.1]), if_neg (by simp [hx.2.2]), if_neg ?_]
    · rw [List.pairwise_cons] at h2
      exact egGo_mk r (some x) (fun z hz => h1 z (by simp [hz])) h2.2 (fun y hy z hz => by injection hy with hy; subst hy; exact h2.1 z hz)
    · cases p with
      | none => simp [ordE]
      | some y => simpa [ordE, cmpE_le] using h3 y rfl x (by simp)
theorem Right.chk {a : Au} (h : Right a) : chkE a = 0 := by
  have c1 : csE 32 a.al = 0 := csGo_mk a.al none h.alr h.alo (by simp)
  have c2 : csE a.st a.mr = 0 := csGo_mk a.mr none h.mrr h.mro (by simp)
  have c3 : egE a = 0 := egGo_mk a.ed none h.edr h.edo (by simp)
  have := h.st0; have := h.st1
  unfold chkE
  rw [if_neg (by simp [c1]), if_neg (by omega), if_neg (by omega), if_neg (by simp [c2]), c3]
theorem up_of {zs : List Int} (h : zs.Pairwise (· < ·)) : Up zs := fun s t hst ht => by
  have := (List.pairwise_iff_getElem.1 h) s t (by omega) ht hst
  simpa [List.getD, List.getElem?_eq_getElem ht, List.getElem?_eq_getElem (show s < zs.length by omega)] using this
theorem RightW.up {a : Au} (h : RightW a) : Up a.al := up_of h.alo

/-- The edge of a state by an event. -/
def edgeO (l : List Ed) (q ev : Int) : Option Ed := l.find? fun x => decide (x.f = q) && decide (x.e = ev)
/-- The state to which an event leads. -/
def stepO (a : Au) (q ev : Int) : Option Int := (edgeO a.ed q ev).map Ed.t
theorem edgeO_some {l : List Ed} (ho : l.Pairwise ltE) {q ev : Int} {x : Ed} : edgeO l q ev = some x ↔ x ∈ l ∧ x.f = q ∧ x.e = ev := by
  unfold edgeO
  constructor
  · intro h
    have h1 := List.find?_some h
    simp only [Bool.and_eq_true, decide_eq_true_eq] at h1
    exact ⟨List.mem_of_find?_eq_some h, h1.1, h1.2⟩
  · rintro ⟨hm, rfl, rfl⟩
    cases hf : l.find? fun y => decide (y.f = x.f) && decide (y.e = x.e) with
    | none =>
      rw [List.find?_eq_none] at hf
      exact absurd (by simp) (hf x hm)
    | some y =>
      have h1 := List.find?_some hf
      simp only [Bool.and_eq_true, decide_eq_true_eq] at h1
      have h2 := List.mem_of_find?_eq_some hf
      obtain ⟨i, hi, rfl⟩ := List.mem_iff_getElem.1 hm
      obtain ⟨j, hj, rfl⟩ := List.mem_iff_getElem.1 h2
      rw [List.pairwise_iff_getElem] at ho
      rcases Nat.lt_trichotomy i j with h | h | h
      · have := ho i j hi hj h; unfold ltE at this; omega
      · subst h; rfl
      · have := ho j i hj hi h; unfold ltE at this; omega
theorem edgeO_none {l : List Ed} {q ev : Int} : edgeO l q ev = none ↔ ∀ x ∈ l, ¬ (x.f = q ∧ x.e = ev) := by
  unfold edgeO; rw [List.find?_eq_none]; simp
/-- Where an edge belongs among increasing ones. -/
def AtE (l : List Ed) (y : Ed) (i : Nat) : Prop := i ≤ l.length ∧ (∀ t x, t < i → l[t]? = some x → ltE x y) ∧ (∀ x, l[i]? = some x → ¬ ltE x y)
theorem AtE.found {l : List Ed} (ho : l.Pairwise ltE) {y x : Ed} {i : Nat} (hx : l[i]? = some x) (h0 : cmpE x y = 0) : edgeO l y.f y.e = some x := by
  rw [cmpE_eq] at h0
  exact (edgeO_some ho).2 ⟨List.mem_of_getElem? hx, h0.1, h0.2⟩
theorem AtE.absent {l : List Ed} (ho : l.Pairwise ltE) {y : Ed} {i : Nat} (h : AtE l y i) (hx : ∀ x, l[i]? = some x → cmpE x y ≠ 0) : edgeO l y.f y.e = none := by
  rw [edgeO_none]
  rintro x hm ⟨h1, h2⟩
  obtain ⟨j, hj, rfl⟩ := List.mem_iff_getElem.1 hm
  rw [List.pairwise_iff_getElem] at ho
  rcases Nat.lt_trichotomy j i with hji | hji | hji
  · have := h.2.1 j _ hji (List.getElem?_eq_getElem hj); unfold ltE at this; omega
  · subst hji; exact hx _ (List.getElem?_eq_getElem hj) (cmpE_eq.2 ⟨h1, h2⟩)
  · have hi : i < l.length := by omega
    have := ho i j hi hj hji
    have h3 := h.2.2 _ (List.getElem?_eq_getElem hi)
    unfold ltE at *; omega

/-- A word followed as far as it is possible: where it ends, and how many events were possible. -/
def runE (a : Au) : Int → List Int → Int × Nat
  | q, [] => (q, 0)
  | q, x :: r => match stepO a q x with | none => (q, 0) | some t => ((runE a t r).1, (runE a t r).2 + 1)
theorem runE_nil (a : Au) (q : Int) : runE a q [] = (q, 0) := by rw [runE]
theorem runE_stop {a : Au} {q x : Int} {r : List Int} (h : stepO a q x = none) : runE a q (x :: r) = (q, 0) := by rw [runE, h]
theorem runE_go {a : Au} {q x t : Int} {r : List Int} (h : stepO a q x = some t) : runE a q (x :: r) = ((runE a t r).1, (runE a t r).2 + 1) := by rw [runE, h]
theorem runE_le (a : Au) : ∀ (ws : List Int) (q : Int), (runE a q ws).2 ≤ ws.length
  | [], q => by rw [runE_nil]; simp
  | x :: r, q => by
    cases h : stepO a q x with
    | none => rw [runE_stop h]; simp
    | some t => rw [runE_go h]; have := runE_le a r t; simp; omega
theorem step_range {a : Au} (h : RightW a) {q x t : Int} (hs : stepO a q x = some t) : 0 ≤ t ∧ t < a.st := by
  unfold stepO at hs
  cases he : edgeO a.ed q x with
  | none => rw [he] at hs; simp at hs
  | some y => rw [he] at hs; simp at hs; subst hs; exact (h.edr y ((edgeO_some h.edo).1 he).1).2.1
theorem step_event {a : Au} (h : RightW a) {q x t : Int} (hs : stepO a q x = some t) : x ∈ a.al ∧ 0 ≤ q ∧ q < a.st := by
  unfold stepO at hs
  cases he : edgeO a.ed q x with
  | none => rw [he] at hs; simp at hs
  | some y =>
    obtain ⟨h1, h2, h3⟩ := (edgeO_some h.edo).1 he
    have := h.edr y h1
    rw [← h2, ← h3]; exact ⟨this.2.2, this.1⟩
end Go.Proofs.Ytcciiikaejjooaa
