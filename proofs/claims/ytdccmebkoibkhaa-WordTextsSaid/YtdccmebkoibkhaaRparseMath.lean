/- The math of Parse: a text's parts, one after another, against the walk over all places. -/
import Derived.Test.YtdccmebkoibkhaaNextPart
import Derived.Test.YtdccmebkoibkhaaShort
namespace Go.Proofs.Ytdccmebkoibkhaa
open Go.RowKit

/-- The answer of a parse: the word, or the place and the error. -/
structure PAns where
  w : List Int
  at_ : Nat
  e : Int
/-- Is place i passed over: a blank, or within a part? -/
def passB (s : List UInt8) (i : Nat) : Bool := (s.getD i 0 == 32) || (decide (0 < i) && (s.getD (i - 1) 0 != 32))
/-- The part from i on. -/
def partZ (s : List UInt8) (i : Nat) : List UInt8 := (s.drop i).take (stN (s.drop i))
/-- The walk over all places. -/
def rz (l : List Ev) (s : List UInt8) : Nat → Nat → List Int → PAns
  | 0, _, acc => ⟨acc, 0, 0⟩
  | n + 1, i, acc =>
    if passB s i = true then rz l s n (i + 1) acc
    else if 4096 ≤ acc.length then ⟨[], i, 3⟩
    else if fndZ l (partZ s i) < 0 then ⟨[], i, 9⟩
    else rz l s n (i + 1) (acc ++ [fndZ l (partZ s i)])
/-- The walk from part to part. -/
def pz (l : List Ev) (s : List UInt8) : Nat → Nat → List Int → PAns
  | 0, _, acc => ⟨acc, 0, 0⟩
  | n + 1, i, acc =>
    if ptE s i ≤ ptS s i then ⟨acc, 0, 0⟩
    else if acc.length = 4096 then ⟨[], ptS s i, 3⟩
    else if fndZ l (partZ s (ptS s i)) < 0 then ⟨[], ptS s i, 9⟩
    else pz l s n (ptE s i) (acc ++ [fndZ l (partZ s (ptS s i))])
theorem rz_pass {l : List Ev} {s : List UInt8} : ∀ (m n i : Nat) (acc : List Int), (∀ j, i ≤ j → j < i + m → passB s j = true) → rz l s (m + n) i acc = rz l s n (i + m) acc := by
  intro m
  induction m with
  | zero => intro n i acc _; simp
  | succ m ih =>
    intro n i acc h
    rw [show m + 1 + n = (m + n) + 1 from by omega, rz, if_pos (h i (by omega) (by omega)), ih n (i + 1) acc (fun j h1 h2 => h j (by omega) (by omega)), show i + 1 + m = i + (m + 1) from by omega]
theorem takeWhile_all {p : UInt8 → Bool} : ∀ (l : List UInt8) (j : Nat), j < (l.takeWhile p).length → p (l.getD j 0) = true := by
  intro l
  induction l with
  | nil => intro j h; simp at h
  | cons x r ih =>
    intro j h
    rw [List.takeWhile_cons] at h
    by_cases hp : p x = true
    · rw [if_pos hp] at h
      cases j with
      | zero => simpa using hp
      | succ j => simpa using ih j (by simpa using h)
    · rw [if_neg hp] at h; simp at h
theorem takeWhile_stop {p : UInt8 → Bool} : ∀ (l : List UInt8), (l.takeWhile p).length < l.length → p (l.getD (l.takeWhile p).length 0) = false := by
  intro l
  induction l with
  | nil => intro h; simp at h
  | cons x r ih =>
    intro h
    rw [List.takeWhile_cons] at h ⊢
    by_cases hp : p x = true
    · rw [if_pos hp] at h ⊢
      simpa using ih (by simpa using h)
    · rw [if_neg hp]; simpa using hp
theorem takeWhile_le {p : UInt8 → Bool} (l : List UInt8) : (l.takeWhile p).length ≤ l.length := by
  induction l with
  | nil => simp
  | cons x r ih => rw [List.takeWhile_cons]; split <;> simp; exact ih
theorem getD_drop8 (s : List UInt8) (i j : Nat) : (s.drop i).getD j 0 = s.getD (i + j) 0 := by simp [List.getD]
theorem sk_blank {s : List UInt8} {i j : Nat} (h1 : i ≤ j) (h2 : j < ptS s i) : s.getD j 0 = 32 := by
  have := takeWhile_all (p := (· == 32)) (s.drop i) (j - i) (by unfold ptS skN at h2; omega)
  rw [getD_drop8, show i + (j - i) = j from by omega] at this
  simpa using this
theorem st_part {s : List UInt8} {i j : Nat} (h1 : ptS s i ≤ j) (h2 : j < ptE s i) : s.getD j 0 ≠ 32 := by
  have := takeWhile_all (p := (· != 32)) (s.drop (ptS s i)) (j - ptS s i) (by unfold ptE stN at h2; omega)
  rw [getD_drop8, show ptS s i + (j - ptS s i) = j from by omega] at this
  simpa using this
theorem pt_le {s : List UInt8} {i : Nat} (h : i ≤ s.length) : i ≤ ptS s i ∧ ptS s i ≤ s.length ∧ ptS s i ≤ ptE s i ∧ ptE s i ≤ s.length := by
  have h1 := takeWhile_le (p := (· == 32)) (s.drop i)
  have h2 := takeWhile_le (p := (· != 32)) (s.drop (ptS s i))
  rw [List.length_drop] at h1 h2
  have e1 : ptS s i = i + ((s.drop i).takeWhile (· == 32)).length := rfl
  have e2 : ptE s i = ptS s i + ((s.drop (ptS s i)).takeWhile (· != 32)).length := rfl
  omega
theorem pt_none {s : List UInt8} {i : Nat} (h : i ≤ s.length) (he : ptE s i ≤ ptS s i) : ptS s i = s.length := by
  obtain ⟨h1, h2, h3, h4⟩ := pt_le h
  rcases Nat.lt_or_ge (ptS s i) s.length with hlt | hge
  · exfalso
    have hs := takeWhile_stop (p := (· == 32)) (s.drop i) (by rw [List.length_drop]; have : ptS s i = i + ((s.drop i).takeWhile (· == 32)).length := rfl; omega)
    rw [getD_drop8] at hs
    have e2 : ptE s i = ptS s i + stN (s.drop (ptS s i)) := rfl
    have hz : stN (s.drop (ptS s i)) = 0 := by omega
    have h5 := takeWhile_stop (p := (· != 32)) (s.drop (ptS s i)) (by rw [List.length_drop]; unfold stN at hz; omega)
    unfold stN at hz
    rw [hz, getD_drop8] at h5
    have e3 : i + ((s.drop i).takeWhile (· == 32)).length = ptS s i := rfl
    rw [e3] at hs
    simp at hs h5
    exact hs h5
  · omega
theorem pt_stop {s : List UInt8} {i : Nat} (h : ptE s i < s.length) (hi : i ≤ s.length) : s.getD (ptE s i) 0 = 32 := by
  obtain ⟨h1, h2, h3, h4⟩ := pt_le hi
  have h5 := takeWhile_stop (p := (· != 32)) (s.drop (ptS s i)) (by rw [List.length_drop]; have : ptE s i = ptS s i + ((s.drop (ptS s i)).takeWhile (· != 32)).length := rfl; omega)
  rw [getD_drop8] at h5
  have e3 : ptS s i + ((s.drop (ptS s i)).takeWhile (· != 32)).length = ptE s i := rfl
  rw [e3] at h5
  simpa using h5
/-- Where the walk from part to part may stand. -/
def AtP (s : List UInt8) (i : Nat) : Prop := i ≤ s.length ∧ (i = 0 ∨ i = s.length ∨ s.getD i 0 = 32)
theorem pz_rz {l : List Ev} {s : List UInt8} : ∀ (n i : Nat) (acc : List Int), AtP s i → s.length - i < n → acc.length ≤ 4096 → pz l s n i acc = rz l s (s.length - i) i acc := by
  intro n
  induction n with
  | zero => intro i acc _ h; omega
  | succ n ih =>
    intro i acc ⟨hi, hat⟩ hn hacc
    obtain ⟨h1, h2, h3, h4⟩ := pt_le hi
    have hsk : rz l s (s.length - i) i acc = rz l s (s.length - ptS s i) (ptS s i) acc := by
      have := rz_pass (l := l) (s := s) (ptS s i - i) (s.length - ptS s i) i acc (fun j a b => by
        unfold passB; rw [sk_blank a (by omega)]; rfl)
      rw [show ptS s i - i + (s.length - ptS s i) = s.length - i from by omega, show i + (ptS s i - i) = ptS s i from by omega] at this
      exact this
    rw [pz, hsk]
    by_cases he : ptE s i ≤ ptS s i
    · rw [if_pos he, pt_none hi he, Nat.sub_self, rz]
    · rw [if_neg he]
      have hb : s.getD (ptS s i) 0 ≠ 32 := st_part (Nat.le_refl _) (by omega)
      have hp : passB s (ptS s i) = false := by
        unfold passB
        rw [show (s.getD (ptS s i) 0 == 32) = false from by simpa using hb]
        rcases Nat.eq_zero_or_pos (ptS s i) with h0 | h0
        · rw [h0]; rfl
        · have : s.getD (ptS s i - 1) 0 = 32 := by
            rcases Nat.lt_or_ge (ptS s i - 1) i with hlt | hge
            · have e : ptS s i = i := by omega
              rcases hat with h | h | h
              · omega
              · omega
              · rw [e] at hb; exact absurd h hb
            · exact sk_blank hge (by omega)
          rw [this]; simp
      have hm : s.length - ptS s i = (s.length - ptS s i - 1) + 1 := by omega
      rw [hm, rz, hp]
      simp only [Bool.false_eq_true, if_false]
      by_cases hl : acc.length = 4096
      · rw [if_pos hl, if_pos (show 4096 ≤ acc.length by omega)]
      · rw [if_neg hl, if_neg (show ¬ 4096 ≤ acc.length by omega)]
        by_cases hf : fndZ l (partZ s (ptS s i)) < 0
        · rw [if_pos hf, if_pos hf]
        · rw [if_neg hf, if_neg hf]
          have hat2 : AtP s (ptE s i) := ⟨h4, by
            rcases Nat.lt_or_ge (ptE s i) s.length with hlt | hge
            · exact .inr (.inr (pt_stop hlt hi))
            · exact .inr (.inl (by omega))⟩
          rw [ih (ptE s i) _ hat2 (by omega) (by simp; omega)]
          have := rz_pass (l := l) (s := s) (ptE s i - ptS s i - 1) (s.length - ptE s i) (ptS s i + 1) (acc ++ [fndZ l (partZ s (ptS s i))]) (fun j a b => by
            unfold passB
            have : s.getD (j - 1) 0 ≠ 32 := st_part (i := i) (by omega) (by omega)
            simp [show 0 < j from by omega]
            right; simpa [List.getD] using this)
          rw [show ptE s i - ptS s i - 1 + (s.length - ptE s i) = s.length - ptS s i - 1 from by omega, show ptS s i + 1 + (ptE s i - ptS s i - 1) = ptE s i from by omega] at this
          exact this.symm
end Go.Proofs.Ytdccmebkoibkhaa
