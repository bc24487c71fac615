/- The math of the reference's Shuffles. -/
import Derived.Test.YtdccmebkoibkhaaIsMore
import Derived.Test.YtdccmebkoibkhaaShMath
namespace Go.Proofs.Ytdccmebkoibkhaa
open Go.RowKit

theorem isSh_last (t : Int) : ∀ (w a b : List Int), isSh (w ++ [t]) a b = true → (∃ a', a = a' ++ [t] ∧ isSh w a' b = true) ∨ (∃ b', b = b' ++ [t] ∧ isSh w a b' = true) := by
  intro w
  induction w with
  | nil =>
    intro a b h
    rw [List.nil_append, isSh, Bool.or_eq_true] at h
    rcases h with h | h
    · cases a with
      | nil => simp [hdIs] at h
      | cons y a =>
        simp [hdIs, isSh] at h
        obtain ⟨rfl, rfl, rfl⟩ := h
        exact .inl ⟨[], rfl, rfl⟩
    · cases b with
      | nil => simp [hdIs] at h
      | cons y b =>
        simp [hdIs, isSh] at h
        obtain ⟨rfl, rfl, rfl⟩ := h
        exact .inr ⟨[], rfl, rfl⟩
  | cons y w ih =>
    intro a b h
    rw [List.cons_append, isSh, Bool.or_eq_true] at h
    rcases h with h | h
    · cases a with
      | nil => simp [hdIs] at h
      | cons z a =>
        simp [hdIs] at h
        obtain ⟨rfl, h⟩ := h
        rcases ih a b h with ⟨a', rfl, h'⟩ | ⟨b', rfl, h'⟩
        · exact .inl ⟨z :: a', rfl, by simp [isSh, hdIs, h']⟩
        · exact .inr ⟨b', rfl, by simp [isSh, hdIs, h']⟩
    · cases b with
      | nil => simp [hdIs] at h
      | cons z b =>
        simp [hdIs] at h
        obtain ⟨rfl, h⟩ := h
        rcases ih a b h with ⟨a', rfl, h'⟩ | ⟨b', rfl, h'⟩
        · exact .inl ⟨a', rfl, by simp [isSh, hdIs, h']⟩
        · exact .inr ⟨z :: b', rfl, by simp [isSh, hdIs, h']⟩
theorem isSh_nil_l : ∀ (w b : List Int), isSh w [] b = true ↔ w = b := by
  intro w
  induction w with
  | nil => intro b; cases b <;> simp [isSh]
  | cons x w ih =>
    intro b
    cases b with
    | nil => simp [isSh, hdIs]
    | cons y b =>
      simp [isSh, hdIs, ih b]
      exact fun _ => ⟨fun h => h.symm, fun h => h.symm⟩
theorem isSh_nil_r (w a : List Int) : isSh w a [] = true ↔ w = a := by rw [isSh_comm]; exact isSh_nil_l w a
theorem mem_shufL : ∀ (n : Nat) (w a b z : List Int), a.length + b.length = n → (z ∈ shufL w a b ↔ ∃ y, z = w ++ y ∧ isSh y a b = true) := by
  intro n
  induction n with
  | zero =>
    intro w a b z h
    obtain rfl : a = [] := List.eq_nil_of_length_eq_zero (by omega)
    obtain rfl : b = [] := List.eq_nil_of_length_eq_zero (by omega)
    rw [shufL]
    simp [isSh_nil_l]
  | succ n ih =>
    intro w a b z h
    match a, b with
    | [], [] => simp at h
    | x :: a, [] =>
      rw [shufL, ih (w ++ [x]) a [] z (by simp at h ⊢; omega)]
      simp [isSh_nil_r]
    | [], y :: b =>
      rw [shufL, ih (w ++ [y]) [] b z (by simp at h ⊢; omega)]
      simp [isSh_nil_l]
    | x :: a, y :: b =>
      rw [shufL, List.mem_append, ih (w ++ [x]) a (y :: b) z (by simp at h ⊢; omega), ih (w ++ [y]) (x :: a) b z (by simp at h ⊢; omega)]
      constructor
      · rintro (⟨u, rfl, hu⟩ | ⟨u, rfl, hu⟩)
        · exact ⟨x :: u, by simp, by simp [isSh, hdIs, hu]⟩
        · exact ⟨y :: u, by simp, by simp [isSh, hdIs, hu]⟩
      · rintro ⟨u, rfl, hu⟩
        cases u with
        | nil => simp [isSh] at hu
        | cons t u =>
          simp [isSh, hdIs] at hu
          rcases hu with ⟨rfl, hu⟩ | ⟨rfl, hu⟩
          · exact .inl ⟨u, by simp, hu⟩
          · exact .inr ⟨u, by simp, hu⟩

/-- A word put into a list in order. -/
def putZ : List (List Int) → List Int → List (List Int)
  | [], x => [x]
  | z :: r, x => if cmpI z x < 0 then z :: putZ r x else if cmpI z x = 0 then z :: r else x :: z :: r
theorem mem_putZ (x : List Int) : ∀ (l : List (List Int)) (y : List Int), y ∈ putZ l x ↔ y = x ∨ y ∈ l := by
  intro l
  induction l with
  | nil => intro y; simp [putZ]
  | cons z r ih =>
    intro y
    rw [putZ]
    by_cases h1 : cmpI z x < 0
    · rw [if_pos h1, List.mem_cons, ih y, List.mem_cons]
      constructor
      · rintro (h | h | h) <;> simp [h]
      · rintro (h | h | h) <;> simp [h]
    · rw [if_neg h1]
      by_cases h2 : cmpI z x = 0
      · rw [if_pos h2, cmpI_eq h2]
        simp
      · rw [if_neg h2]; simp
theorem inc_putZ (x : List Int) : ∀ (l : List (List Int)), Inc l → Inc (putZ l x) := by
  intro l
  induction l with
  | nil => intro _; unfold Inc putZ; simp
  | cons z r ih =>
    intro h
    unfold Inc at h ih ⊢
    rw [List.pairwise_cons] at h
    rw [putZ]
    by_cases h1 : cmpI z x < 0
    · rw [if_pos h1, List.pairwise_cons]
      refine ⟨fun y hy => ?_, ih h.2⟩
      rcases (mem_putZ x r y).1 hy with rfl | hy
      · exact h1
      · exact h.1 y hy
    · rw [if_neg h1]
      by_cases h2 : cmpI z x = 0
      · rw [if_pos h2, List.pairwise_cons]; exact h
      · rw [if_neg h2, List.pairwise_cons]
        have h3 : cmpI x z < 0 := by have := cmpI_neg z x; omega
        refine ⟨fun y hy => ?_, by rw [List.pairwise_cons]; exact h⟩
        rcases List.mem_cons.1 hy with rfl | hy
        · exact h3
        · exact cmpI_trans h3 (h.1 y hy)
theorem putZ_at (x : List Int) : ∀ (l : List (List Int)) (k : Nat), k ≤ l.length → (∀ i, i < k → cmpI (l.getD i []) x < 0) → (k < l.length → ¬ cmpI (l.getD k []) x < 0) →
    putZ l x = if k < l.length ∧ cmpI (l.getD k []) x = 0 then l else l.take k ++ (x :: l.drop k) := by
  intro l
  induction l with
  | nil => intro k hk _ _; simp at hk; subst hk; simp [putZ]
  | cons z r ih =>
    intro k hk h1 h2
    cases k with
    | zero =>
      have := h2 (by simp)
      simp at this
      rw [putZ, if_neg (by omega)]
      by_cases h : cmpI z x = 0
      · rw [if_pos h, if_pos ⟨by simp, by simpa using h⟩]
      · rw [if_neg h, if_neg (by simp; exact h)]; rfl
    | succ k =>
      have h0 := h1 0 (by omega)
      simp at h0 hk
      rw [putZ, if_pos h0, ih k (by omega) (fun i hi => by simpa using h1 (i + 1) (by omega)) (fun hi => by simpa using h2 (by simpa using hi))]
      by_cases h : k < r.length ∧ cmpI (r.getD k []) x = 0
      · rw [if_pos h, if_pos ⟨by simpa using h.1, by simpa using h.2⟩]
      · rw [if_neg h, if_neg (fun e => h ⟨by simpa using e.1, by simpa using e.2⟩)]; rfl
theorem len_putZ (x : List Int) : ∀ (l : List (List Int)), (putZ l x).length ≤ l.length + 1 := by
  intro l
  induction l with
  | nil => simp [putZ]
  | cons z r ih =>
    rw [putZ]
    split
    · simp; exact ih
    · split <;> simp

/-- The words of a list with a further event each, put into another list. -/
def putAll (t : Int) : List (List Int) → List (List Int) → List (List Int)
  | acc, [] => acc
  | acc, w :: r => putAll t (putZ acc (w ++ [t])) r
theorem mem_putAll (t : Int) : ∀ (l acc : List (List Int)) (y : List Int), y ∈ putAll t acc l ↔ y ∈ acc ∨ ∃ w, w ∈ l ∧ y = w ++ [t] := by
  intro l
  induction l with
  | nil => intro acc y; simp [putAll]
  | cons w r ih =>
    intro acc y
    rw [putAll, ih, mem_putZ]
    constructor
    · rintro ((h | h) | ⟨u, hu, h⟩)
      · exact .inr ⟨w, by simp, h⟩
      · exact .inl h
      · exact .inr ⟨u, by simp [hu], h⟩
    · rintro (h | ⟨u, hu, h⟩)
      · exact .inl (.inr h)
      · rcases List.mem_cons.1 hu with rfl | hu
        · exact .inl (.inl h)
        · exact .inr ⟨u, hu, h⟩
theorem inc_putAll (t : Int) : ∀ (l acc : List (List Int)), Inc acc → Inc (putAll t acc l) := by
  intro l
  induction l with
  | nil => intro acc h; exact h
  | cons w r ih => intro acc h; rw [putAll]; exact ih _ (inc_putZ _ _ h)
theorem len_putAll (t : Int) : ∀ (l acc : List (List Int)), (putAll t acc l).length ≤ acc.length + l.length := by
  intro l
  induction l with
  | nil => intro acc; simp [putAll]
  | cons w r ih => intro acc; rw [putAll]; have := ih (putZ acc (w ++ [t])); have := len_putZ (w ++ [t]) acc; simp; omega

/-- The reference's shuffles. -/
def rsh : Nat → List Int → List Int → List (List Int)
  | 0, a, b => [a ++ b]
  | n + 1, a, b => if a.length = 0 ∨ b.length = 0 then [a ++ b] else
      putAll (b.getD (b.length - 1) 0) (putAll (a.getD (a.length - 1) 0) [] (rsh n (a.take (a.length - 1)) b)) (rsh n a (b.take (b.length - 1)))
theorem split_last {a : List Int} (h : ¬ a.length = 0) : a = a.take (a.length - 1) ++ [a.getD (a.length - 1) 0] := by
  have h2 := take_one (l := a) (k := a.length - 1) (by omega)
  rw [show a.length - 1 + 1 = a.length from by omega, List.take_of_length_le (Nat.le_refl _)] at h2
  exact h2
theorem snoc_inj {a b : List Int} {x y : Int} (h : a ++ [x] = b ++ [y]) : a = b ∧ x = y := by
  have := List.append_inj' h rfl
  exact ⟨this.1, by simpa using this.2⟩
theorem mem_rsh : ∀ (n : Nat) (a b z : List Int), a.length + b.length ≤ n → (z ∈ rsh n a b ↔ isSh z a b = true) := by
  intro n
  induction n with
  | zero =>
    intro a b z h
    obtain rfl : a = [] := List.eq_nil_of_length_eq_zero (by omega)
    obtain rfl : b = [] := List.eq_nil_of_length_eq_zero (by omega)
    simp [rsh, isSh_nil_l]
  | succ n ih =>
    intro a b z h
    rw [rsh]
    by_cases he : a.length = 0 ∨ b.length = 0
    · rw [if_pos he]
      rcases he with he | he
      · obtain rfl := List.eq_nil_of_length_eq_zero he
        rw [isSh_nil_l]; simp
      · obtain rfl := List.eq_nil_of_length_eq_zero he
        rw [isSh_nil_r]; simp
    · rw [if_neg he]
      have ha : ¬ a.length = 0 := fun e => he (.inl e)
      have hb : ¬ b.length = 0 := fun e => he (.inr e)
      have sa := split_last ha
      have sb := split_last hb
      have la : (a.take (a.length - 1)).length = a.length - 1 := by rw [List.length_take]; omega
      have lb : (b.take (b.length - 1)).length = b.length - 1 := by rw [List.length_take]; omega
      rw [mem_putAll, mem_putAll]
      constructor
      · rintro ((h1 | ⟨w, hw, rfl⟩) | ⟨w, hw, rfl⟩)
        · simp at h1
        · rw [ih _ _ _ (by omega)] at hw
          have := isSh_snoc (a.getD (a.length - 1) 0) w _ _ hw
          rwa [← sa] at this
        · rw [ih _ _ _ (by omega)] at hw
          have := isSh_snoc_r (b.getD (b.length - 1) 0) w _ _ hw
          rwa [← sb] at this
      · intro hz
        have hzl := isSh_len z a b hz
        have sz := split_last (a := z) (by omega)
        rw [sz] at hz
        rcases isSh_last _ _ _ _ hz with ⟨a', e, h'⟩ | ⟨b', e, h'⟩
        · rw [sa] at e
          obtain ⟨e1, e2⟩ := snoc_inj e
          refine .inl (.inr ⟨z.take (z.length - 1), ?_, ?_⟩)
          · rw [ih _ _ _ (by omega), e1]; exact h'
          · rw [e2]; exact sz
        · rw [sb] at e
          obtain ⟨e1, e2⟩ := snoc_inj e
          refine .inr ⟨z.take (z.length - 1), ?_, ?_⟩
          · rw [ih _ _ _ (by omega), e1]; exact h'
          · rw [e2]; exact sz
theorem inc_rsh : ∀ (n : Nat) (a b : List Int), Inc (rsh n a b) := by
  intro n
  induction n with
  | zero => intro a b; unfold Inc rsh; simp
  | succ n ih =>
    intro a b
    rw [rsh]
    split
    · unfold Inc; simp
    · exact inc_putAll _ _ _ (inc_putAll _ _ _ List.Pairwise.nil)
theorem len_rsh : ∀ (n : Nat) (a b : List Int), (rsh n a b).length ≤ 2 ^ n := by
  intro n
  induction n with
  | zero => intro a b; simp [rsh]
  | succ n ih =>
    intro a b
    rw [rsh, Nat.pow_succ]
    have hp : 0 < 2 ^ n := Nat.pow_pos (by omega)
    split
    · simp; omega
    · have h1 := len_putAll (b.getD (b.length - 1) 0) (rsh n a (b.take (b.length - 1))) (putAll (a.getD (a.length - 1) 0) [] (rsh n (a.take (a.length - 1)) b))
      have h2 := len_putAll (a.getD (a.length - 1) 0) (rsh n (a.take (a.length - 1)) b) []
      have h3 := ih (a.take (a.length - 1)) b
      have h4 := ih a (b.take (b.length - 1))
      rw [List.length_nil] at h2
      omega
theorem word_rsh {n : Nat} {a b z : List Int} (h : a.length + b.length ≤ n) (hz : z ∈ rsh n a b) : z.length = a.length + b.length := isSh_len z a b ((mem_rsh n a b z h).1 hz)
end Go.Proofs.Ytdccmebkoibkhaa
