/- Words in shortlex order: a total order; a sorted list without its repetitions; all shuffles of two words. -/
import Derived.Test.YtdccmebkoibkhaaWcmp
import Derived.Sort.Statements
namespace Go.Proofs.Ytdccmebkoibkhaa

theorem lexI_self (xs : List Int) : lexI xs xs = 0 := by
  induction xs with
  | nil => rfl
  | cons x xs ih => rw [lexI, if_neg (by omega), if_neg (by omega), ih]
theorem lexI_neg (xs ys : List Int) : lexI ys xs = - lexI xs ys := by
  induction xs generalizing ys with
  | nil => cases ys <;> rfl
  | cons x xs ih =>
    cases ys with
    | nil => rfl
    | cons y ys =>
      rw [lexI, lexI]
      by_cases h1 : x < y
      · rw [if_neg (by omega), if_pos h1, if_pos h1]; rfl
      · by_cases h2 : y < x
        · rw [if_pos h2, if_neg h1, if_pos h2]
        · rw [if_neg h2, if_neg h1, if_neg h1, if_neg h2, ih]
theorem lexI_eq {xs ys : List Int} (h : lexI xs ys = 0) : xs = ys := by
  induction xs generalizing ys with
  | nil => cases ys with
    | nil => rfl
    | cons y ys => rw [lexI] at h; omega
  | cons x xs ih =>
    cases ys with
    | nil => rw [lexI] at h; omega
    | cons y ys =>
      rw [lexI] at h
      by_cases h1 : x < y
      · rw [if_pos h1] at h; omega
      · by_cases h2 : y < x
        · rw [if_neg h1, if_pos h2] at h; omega
        · rw [if_neg h1, if_neg h2] at h
          rw [ih h, show x = y by omega]
theorem lexI_trans {xs ys zs : List Int} (h : lexI xs ys < 0) (k : lexI ys zs < 0) : lexI xs zs < 0 := by
  induction xs generalizing ys zs with
  | nil => cases ys with
    | nil => exact k
    | cons y ys => cases zs with
      | nil => rw [lexI] at k; omega
      | cons z zs => rw [lexI]; omega
  | cons x xs ih =>
    cases ys with
    | nil => rw [lexI] at h; omega
    | cons y ys =>
      cases zs with
      | nil => rw [lexI] at k; omega
      | cons z zs =>
        rw [lexI] at h k ⊢
        by_cases h1 : x < y
        · by_cases k1 : y < z
          · rw [if_pos (by omega)]; omega
          · rw [if_neg k1] at k
            by_cases k2 : z < y
            · rw [if_pos k2] at k; omega
            · rw [if_pos (by omega)]; omega
        · rw [if_neg h1] at h
          by_cases h2 : y < x
          · rw [if_pos h2] at h; omega
          · rw [if_neg h2] at h
            by_cases k1 : y < z
            · rw [if_pos (by omega)]; omega
            · rw [if_neg k1] at k
              by_cases k2 : z < y
              · rw [if_pos k2] at k; omega
              · rw [if_neg k2] at k
                rw [if_neg (by omega), if_neg (by omega)]
                exact ih h k

theorem cmpI_self (a : List Int) : cmpI a a = 0 := by rw [cmpI, if_neg (by omega), if_neg (by omega), lexI_self]
theorem cmpI_neg (a b : List Int) : cmpI b a = - cmpI a b := by
  rw [cmpI, cmpI]
  by_cases h1 : a.length < b.length
  · rw [if_neg (by omega), if_pos h1, if_pos h1]; rfl
  · by_cases h2 : b.length < a.length
    · rw [if_pos h2, if_neg h1, if_pos h2]
    · rw [if_neg h2, if_neg h1, if_neg h1, if_neg h2, lexI_neg]
theorem cmpI_eq {a b : List Int} (h : cmpI a b = 0) : a = b := by
  rw [cmpI] at h
  by_cases h1 : a.length < b.length
  · rw [if_pos h1] at h; omega
  · by_cases h2 : b.length < a.length
    · rw [if_neg h1, if_pos h2] at h; omega
    · rw [if_neg h1, if_neg h2] at h; exact lexI_eq h
theorem cmpI_trans {a b c : List Int} (h : cmpI a b < 0) (k : cmpI b c < 0) : cmpI a c < 0 := by
  rw [cmpI] at h k ⊢
  by_cases h1 : a.length < b.length
  · by_cases k1 : b.length < c.length
    · rw [if_pos (by omega)]; omega
    · rw [if_neg k1] at k
      by_cases k2 : c.length < b.length
      · rw [if_pos k2] at k; omega
      · rw [if_pos (by omega)]; omega
  · rw [if_neg h1] at h
    by_cases h2 : b.length < a.length
    · rw [if_pos h2] at h; omega
    · rw [if_neg h2] at h
      by_cases k1 : b.length < c.length
      · rw [if_pos (by omega)]; omega
      · rw [if_neg k1] at k
        by_cases k2 : c.length < b.length
        · rw [if_pos k2] at k; omega
        · rw [if_neg k2] at k
          rw [if_neg (by omega), if_neg (by omega)]
          exact lexI_trans h k
theorem cmpI_le_trans {a b c : List Int} (h : cmpI a b ≤ 0) (k : cmpI b c ≤ 0) : cmpI a c ≤ 0 := by
  rcases Int.lt_or_eq_of_le h with h | h
  · rcases Int.lt_or_eq_of_le k with k | k
    · exact Int.le_of_lt (cmpI_trans h k)
    · rw [← cmpI_eq k]; omega
  · rw [cmpI_eq h]; exact k

/-- Strictly increasing in shortlex order. -/
def Inc (l : List (List Int)) : Prop := l.Pairwise fun a b => cmpI a b < 0
/-- Two strictly increasing lists with the same words are the same. -/
theorem inc_unique : ∀ {l m : List (List Int)}, Inc l → Inc m → (∀ x, x ∈ l ↔ x ∈ m) → l = m
  | [], [], _, _, _ => rfl
  | [], y :: m, _, _, h => absurd ((h y).2 (by simp)) (by simp)
  | x :: l, [], _, _, h => absurd ((h x).1 (by simp)) (by simp)
  | x :: l, y :: m, hl, hm, h => by
    have hl' := List.pairwise_cons.1 hl
    have hm' := List.pairwise_cons.1 hm
    have hxy : x = y := by
      rcases List.mem_cons.1 ((h x).1 (by simp)) with e | e
      · exact e
      · rcases List.mem_cons.1 ((h y).2 (by simp)) with e' | e'
        · exact e'.symm
        · have a1 := hm'.1 x e
          have a2 := hl'.1 y e'
          rw [cmpI_neg] at a2; omega
    subst hxy
    have hnl : x ∉ l := fun hx => by have := hl'.1 x hx; rw [cmpI_self] at this; omega
    have hnm : x ∉ m := fun hx => by have := hm'.1 x hx; rw [cmpI_self] at this; omega
    rw [inc_unique hl'.2 hm'.2 (fun z => by
      have := h z
      simp only [List.mem_cons] at this
      by_cases hz : z = x
      · subst hz; simp [hnl, hnm]
      · simpa [hz] using this)]

/-- The words of the list up to a place, increasing, without repetitions. -/
structure Ded (ws : List (List Int)) (j : Nat) (out : List (List Int)) : Prop where
  inc : Inc out
  mem : ∀ x, x ∈ out ↔ x ∈ ws.take j
  len : out.length ≤ j
theorem take_snoc_w {ws : List (List Int)} {j : Nat} (h : j < ws.length) : ws.take (j + 1) = ws.take j ++ [ws.getD j []] := by
  rw [List.take_succ_eq_append_getElem h]; simp [List.getD, List.getElem?_eq_getElem h]
/-- Not decreasing in shortlex order. -/
def Srt (ws : List (List Int)) : Prop := ∀ i j, i < j → j < ws.length → cmpI (ws.getD i []) (ws.getD j []) ≤ 0
theorem mem_take_getD {ws : List (List Int)} {j : Nat} {x : List Int} (h : x ∈ ws.take j) : ∃ i, i < j ∧ i < ws.length ∧ ws.getD i [] = x := by
  obtain ⟨i, hi, rfl⟩ := List.mem_iff_getElem.1 h
  rw [List.length_take] at hi
  exact ⟨i, by omega, by omega, by simp [List.getD, List.getElem?_eq_getElem (show i < ws.length by omega)]⟩
theorem getD_mem_take {ws : List (List Int)} {i j : Nat} (h : i < j) (hi : i < ws.length) : ws.getD i [] ∈ ws.take j := by
  refine List.mem_iff_getElem.2 ⟨i, by rw [List.length_take]; omega, ?_⟩
  simp [List.getD, List.getElem?_eq_getElem hi]
theorem Ded.keep {ws out : List (List Int)} {j : Nat} (h : Ded ws j out) (hs : Srt ws) (hj : j < ws.length) (h0 : 0 < j) (hne : ¬ ws.getD j [] = ws.getD (j - 1) []) : Ded ws (j + 1) (out ++ [ws.getD j []]) := by
  refine ⟨?_, fun x => ?_, by have := h.len; simp; omega⟩
  · refine List.pairwise_append.2 ⟨h.inc, List.pairwise_singleton _ _, fun a ha b hb => ?_⟩
    rw [List.mem_singleton] at hb
    subst hb
    obtain ⟨i, hi1, hi2, rfl⟩ := mem_take_getD ((h.mem a).1 ha)
    have h1 := hs (j - 1) j (by omega) hj
    have h2 : cmpI (ws.getD i []) (ws.getD (j - 1) []) ≤ 0 := by
      rcases Nat.lt_or_ge i (j - 1) with hlt | hge
      · exact hs i (j - 1) hlt (by omega)
      · rw [show i = j - 1 by omega, cmpI_self]; omega
    rcases Int.lt_or_eq_of_le h1 with h1 | h1
    · rcases Int.lt_or_eq_of_le h2 with h2 | h2
      · exact cmpI_trans h2 h1
      · rw [cmpI_eq h2]; exact h1
    · exact absurd (cmpI_eq h1).symm hne
  · rw [take_snoc_w hj, List.mem_append, List.mem_append, h.mem]
theorem Ded.drop {ws out : List (List Int)} {j : Nat} (h : Ded ws j out) (hj : j < ws.length) (h0 : 0 < j) (he : ws.getD j [] = ws.getD (j - 1) []) : Ded ws (j + 1) out := by
  refine ⟨h.inc, fun x => ?_, by have := h.len; omega⟩
  rw [take_snoc_w hj, List.mem_append, h.mem]
  constructor
  · exact Or.inl
  · rintro (hx | hx)
    · exact hx
    · rw [List.mem_singleton] at hx
      subst hx
      rw [he]; exact getD_mem_take (by omega) (by omega)
theorem Ded.one {ws : List (List Int)} (h : 0 < ws.length) : Ded ws 1 [ws.getD 0 []] := by
  refine ⟨List.pairwise_singleton _ _, fun x => ?_, by simp⟩
  rw [take_snoc_w h]; simp
theorem Ded.none (ws : List (List Int)) : Ded ws 0 [] := ⟨List.Pairwise.nil, fun x => by simp, by simp⟩

/-- All shuffles of two words behind a beginning, as they are found. -/
def shufL (w : List Int) : List Int → List Int → List (List Int)
  | [], [] => [w]
  | x :: a, [] => shufL (w ++ [x]) a []
  | [], y :: b => shufL (w ++ [y]) [] b
  | x :: a, y :: b => shufL (w ++ [x]) a (y :: b) ++ shufL (w ++ [y]) (x :: a) b
termination_by a b => a.length + b.length
theorem shufL_len : ∀ (n : Nat) (w a b : List Int), a.length + b.length = n → (shufL w a b).length ≤ 2 ^ n := by
  intro n
  induction n with
  | zero =>
    intro w a b h
    obtain rfl : a = [] := List.eq_nil_of_length_eq_zero (by omega)
    obtain rfl : b = [] := List.eq_nil_of_length_eq_zero (by omega)
    rw [shufL]; simp
  | succ n ih =>
    intro w a b h
    have hp : 2 ^ (n + 1) = 2 ^ n + 2 ^ n := by rw [Nat.pow_succ]; omega
    cases a with
    | nil =>
      cases b with
      | nil => simp at h
      | cons y b => rw [shufL]; have := ih (w ++ [y]) [] b (by simp at h ⊢; omega); omega
    | cons x a =>
      cases b with
      | nil => rw [shufL]; have := ih (w ++ [x]) a [] (by simp at h ⊢; omega); omega
      | cons y b =>
        rw [shufL, List.length_append]
        have h1 := ih (w ++ [x]) a (y :: b) (by simp at h ⊢; omega)
        have h2 := ih (w ++ [y]) (x :: a) b (by simp at h ⊢; omega)
        omega
theorem shufL_word : ∀ (n : Nat) (w a b : List Int), a.length + b.length = n → ∀ z ∈ shufL w a b, z.length = w.length + n := by
  intro n
  induction n with
  | zero =>
    intro w a b h
    obtain rfl : a = [] := List.eq_nil_of_length_eq_zero (by omega)
    obtain rfl : b = [] := List.eq_nil_of_length_eq_zero (by omega)
    rw [shufL]; simp
  | succ n ih =>
    intro w a b h z hz
    cases a with
    | nil =>
      cases b with
      | nil => simp at h
      | cons y b => rw [shufL] at hz; have := ih (w ++ [y]) [] b (by simp at h ⊢; omega) z hz; simp at this; omega
    | cons x a =>
      cases b with
      | nil => rw [shufL] at hz; have := ih (w ++ [x]) a [] (by simp at h ⊢; omega) z hz; simp at this; omega
      | cons y b =>
        rw [shufL, List.mem_append] at hz
        rcases hz with hz | hz
        · have := ih (w ++ [x]) a (y :: b) (by simp at h ⊢; omega) z hz; simp at this; omega
        · have := ih (w ++ [y]) (x :: a) b (by simp at h ⊢; omega) z hz; simp at this; omega
end Go.Proofs.Ytdccmebkoibkhaa
