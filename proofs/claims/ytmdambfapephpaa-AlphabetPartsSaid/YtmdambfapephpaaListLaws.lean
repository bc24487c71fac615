/- The laws of increasing lists. -/
import Derived.Test.YtmdambfapephpaaCombB
namespace Go.Proofs.Ytmdambfapephpaa
open Go.RowKit

theorem mem_un : ∀ (a b : List Int) (x : Int), x ∈ un a b ↔ x ∈ a ∨ x ∈ b
  | [], b, x => by rw [un]; simp
  | y :: a, [], x => by rw [un]; simp
  | y :: a, z :: b, x => by
    rw [un]
    have h1 := mem_un a (z :: b) x
    have h2 := mem_un (y :: a) b x
    have h3 := mem_un a b x
    by_cases c1 : y < z
    · rw [if_pos c1]; simp only [List.mem_cons] at *; rw [h1, or_assoc]
    · rw [if_neg c1]
      by_cases c2 : z < y
      · rw [if_pos c2]; simp only [List.mem_cons] at *; rw [h2]
        constructor
        · rintro (h | (h | h) | h)
          · exact .inr (.inl h)
          · exact .inl (.inl h)
          · exact .inl (.inr h)
          · exact .inr (.inr h)
        · rintro ((h | h) | h | h)
          · exact .inr (.inl (.inl h))
          · exact .inr (.inl (.inr h))
          · exact .inl h
          · exact .inr (.inr h)
      · rw [if_neg c2]
        have e : y = z := by omega
        subst e
        simp only [List.mem_cons] at *; rw [h3]
        constructor
        · rintro (h | h | h)
          · exact .inl (.inl h)
          · exact .inl (.inr h)
          · exact .inr (.inr h)
        · rintro ((h | h) | h | h)
          · exact .inl h
          · exact .inr (.inl h)
          · exact .inl h
          · exact .inr (.inr h)
termination_by a b => a.length + b.length
theorem un_sorted : ∀ (a b : List Int), a.Pairwise (· < ·) → b.Pairwise (· < ·) → (un a b).Pairwise (· < ·)
  | [], b, _, hb => by rw [un]; exact hb
  | y :: a, [], ha, _ => by rw [un]; exact ha
  | y :: a, z :: b, ha, hb => by
    have ca := List.pairwise_cons.1 ha
    have cb := List.pairwise_cons.1 hb
    rw [un]
    by_cases c1 : y < z
    · rw [if_pos c1]
      refine List.pairwise_cons.2 ⟨fun x hx => ?_, un_sorted a (z :: b) ca.2 hb⟩
      rcases (mem_un _ _ _).1 hx with h | h
      · exact ca.1 x h
      · rcases List.mem_cons.1 h with rfl | h
        · exact c1
        · have := cb.1 x h; omega
    · rw [if_neg c1]
      by_cases c2 : z < y
      · rw [if_pos c2]
        refine List.pairwise_cons.2 ⟨fun x hx => ?_, un_sorted (y :: a) b ha cb.2⟩
        rcases (mem_un _ _ _).1 hx with h | h
        · rcases List.mem_cons.1 h with rfl | h
          · exact c2
          · have := ca.1 x h; omega
        · exact cb.1 x h
      · rw [if_neg c2]
        refine List.pairwise_cons.2 ⟨fun x hx => ?_, un_sorted a b ca.2 cb.2⟩
        rcases (mem_un _ _ _).1 hx with h | h
        · exact ca.1 x h
        · have := cb.1 x h; omega
termination_by a b => a.length + b.length
theorem sorted_ext : ∀ (a b : List Int), a.Pairwise (· < ·) → b.Pairwise (· < ·) → (∀ x, x ∈ a ↔ x ∈ b) → a = b
  | [], [], _, _, _ => rfl
  | [], z :: b, _, _, h => by have := (h z).2 (by simp); simp at this
  | y :: a, [], _, _, h => by have := (h y).1 (by simp); simp at this
  | y :: a, z :: b, ha, hb, h => by
    have ca := List.pairwise_cons.1 ha
    have cb := List.pairwise_cons.1 hb
    have e : y = z := by
      have h1 := (h y).1 (by simp)
      have h2 := (h z).2 (by simp)
      rcases List.mem_cons.1 h1 with e | h1
      · exact e
      · rcases List.mem_cons.1 h2 with e | h2
        · exact e.symm
        · have := ca.1 z h2; have := cb.1 y h1; omega
    subst e
    rw [sorted_ext a b ca.2 cb.2 (fun x => by
      have hx := h x
      constructor
      · intro hm
        have := hx.1 (List.mem_cons_of_mem _ hm)
        rcases List.mem_cons.1 this with e | h'
        · have := ca.1 x hm; omega
        · exact h'
      · intro hm
        have := hx.2 (List.mem_cons_of_mem _ hm)
        rcases List.mem_cons.1 this with e | h'
        · have := cb.1 x hm; omega
        · exact h')]

abbrev Inc (a : List Int) : Prop := a.Pairwise (· < ·)
abbrev inter (a b : List Int) : List Int := a.filter fun x => decide (x ∈ b)
abbrev minus (a b : List Int) : List Int := a.filter fun x => !decide (x ∈ b)
theorem inc_inter {a b : List Int} (h : Inc a) : Inc (inter a b) := h.filter _
theorem inc_minus {a b : List Int} (h : Inc a) : Inc (minus a b) := h.filter _
theorem law_un {a b : List Int} (ha : Inc a) (hb : Inc b) : un b a = un a b :=
  sorted_ext _ _ (un_sorted _ _ hb ha) (un_sorted _ _ ha hb) fun x => by rw [mem_un, mem_un, or_comm]
theorem law_inter {a b : List Int} (ha : Inc a) (hb : Inc b) : inter b a = inter a b :=
  sorted_ext _ _ (inc_inter hb) (inc_inter ha) fun x => by simp [and_comm]
theorem law_minus {a b c : List Int} (ha : Inc a) : inter (minus a b) (minus a c) = minus a (un b c) :=
  sorted_ext _ _ (inc_inter (inc_minus ha)) (inc_minus ha) fun x => by
    simp only [List.mem_filter, decide_eq_true_eq, Bool.not_eq_true', decide_eq_false_iff_not, mem_un, not_or]
    constructor
    · rintro ⟨⟨h1, h2⟩, _, h3⟩; exact ⟨h1, h2, h3⟩
    · rintro ⟨h1, h2, h3⟩; exact ⟨⟨h1, h2⟩, h1, h3⟩
theorem law_dist {a b c : List Int} (ha : Inc a) : un (inter a b) (inter a c) = inter a (un b c) :=
  sorted_ext _ _ (un_sorted _ _ (inc_inter ha) (inc_inter ha)) (inc_inter ha) fun x => by
    simp only [List.mem_filter, decide_eq_true_eq, mem_un]
    constructor
    · rintro (⟨h1, h2⟩ | ⟨h1, h2⟩)
      · exact ⟨h1, .inl h2⟩
      · exact ⟨h1, .inr h2⟩
    · rintro ⟨h1, h2 | h2⟩
      · exact .inl ⟨h1, h2⟩
      · exact .inr ⟨h1, h2⟩
theorem law_split {a b : List Int} (ha : Inc a) : un (minus a b) (inter a b) = a :=
  sorted_ext _ _ (un_sorted _ _ (inc_minus ha) (inc_inter ha)) ha fun x => by
    simp only [List.mem_filter, decide_eq_true_eq, Bool.not_eq_true', decide_eq_false_iff_not, mem_un]
    constructor
    · rintro (⟨h1, _⟩ | ⟨h1, _⟩) <;> exact h1
    · intro h
      by_cases hb : x ∈ b
      · exact .inr ⟨h, hb⟩
      · exact .inl ⟨h, hb⟩
theorem law_sub (a b : List Int) : subB (inter a b) a = true := by
  unfold subB
  rw [List.all_eq_true]
  intro x hx
  simpa using (List.mem_filter.1 hx).1
end Go.Proofs.Ytmdambfapephpaa
