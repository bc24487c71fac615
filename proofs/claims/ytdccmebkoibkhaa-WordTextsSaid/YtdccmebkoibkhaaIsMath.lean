/- The math of IsShuffle: the numbers of events of the first word that can have been taken. -/
import Derived.Test.YtdccmebkoibkhaaOwnC
namespace Go.Proofs.Ytdccmebkoibkhaa
open Go.RowKit

def hdIs (x : Int) : List Int → Bool
  | [] => false
  | y :: _ => y == x
/-- Is the first word a shuffle of the two others? -/
def isSh : List Int → List Int → List Int → Bool
  | [], a, b => a.isEmpty && b.isEmpty
  | x :: w, a, b => (hdIs x a && isSh w a.tail b) || (hdIs x b && isSh w a b.tail)
theorem isSh_len : ∀ (w a b : List Int), isSh w a b = true → w.length = a.length + b.length := by
  intro w
  induction w with
  | nil => intro a b h; cases a <;> cases b <;> simp_all [isSh]
  | cons x w ih =>
    intro a b h
    rw [isSh, Bool.or_eq_true] at h
    rcases h with h | h
    · cases a with
      | nil => simp [hdIs] at h
      | cons y a => simp [hdIs] at h; have := ih a b h.2; simp; omega
    · cases b with
      | nil => simp [hdIs] at h
      | cons y b => simp [hdIs] at h; have := ih a b h.2; simp; omega
theorem isSh_no {w a b : List Int} (h : w.length ≠ a.length + b.length) : isSh w a b = false := by
  cases e : isSh w a b with
  | false => rfl
  | true => exact absurd (isSh_len w a b e) h

def cand (w a b : List Int) (k : Nat) (i : Int) : Bool := isSh (w.drop k) (a.drop i.toNat) (b.drop ((k : Int) - i).toNat)
structure OkI (na nb k : Nat) (i : Int) : Prop where
  zero : 0 ≤ i
  left : i ≤ (na : Int)
  most : i ≤ (k : Int)
  right : (k : Int) - i ≤ (nb : Int)
def tkB (b : List Int) (x : Int) (k : Nat) (i : Int) : Bool := decide ((k : Int) - i < (b.length : Int)) && (b.getD ((k : Int) - i).toNat 0 == x)
def tkA (a : List Int) (x : Int) (i : Int) : Bool := decide (i < (a.length : Int)) && (a.getD i.toNat 0 == x)
def lastB (acc : List Int) (i : Int) : Bool := decide (acc.length = 0) || (acc.getD (acc.length - 1) 0 != i)
def stB (b : List Int) (x : Int) (k : Nat) (acc : List Int) (i : Int) : List Int := if (tkB b x k i && lastB acc i) = true then acc ++ [i] else acc
def stA (a : List Int) (x : Int) (acc : List Int) (i : Int) : List Int := if tkA a x i = true then acc ++ [i + 1] else acc
def nxt (a b : List Int) (x : Int) (k : Nat) : List Int → List Int → List Int
  | acc, [] => acc
  | acc, i :: r => nxt a b x k (stA a x (stB b x k acc i) i) r

theorem hd_drop (x : Int) (l : List Int) (i : Nat) : hdIs x (l.drop i) = (decide ((i : Int) < (l.length : Int)) && (l.getD i 0 == x)) := by
  by_cases h : i < l.length
  · rw [List.drop_eq_getElem_cons h]; simp [hdIs, List.getD, h]
  · rw [List.drop_of_length_le (by omega)]; simp [hdIs, h]
theorem cand_step {w a b : List Int} {k : Nat} {i : Int} (ho : OkI a.length b.length k i) (hk : k < w.length) :
    cand w a b k i = ((tkB b (w.getD k 0) k i && cand w a b (k + 1) i) || (tkA a (w.getD k 0) i && cand w a b (k + 1) (i + 1))) := by
  obtain ⟨h0, h1, h2, h3⟩ := ho
  obtain ⟨m, rfl⟩ : ∃ m : Nat, i = m := ⟨i.toNat, by omega⟩
  obtain ⟨q, rfl⟩ : ∃ q, k = m + q := ⟨k - m, by omega⟩
  have e0 : (((m + q : Nat) : Int) - (m : Int)) = (q : Int) := by omega
  have e2 : (((m + q + 1 : Nat) : Int) - (m : Int)).toNat = q + 1 := by omega
  have e3 : (((m + q + 1 : Nat) : Int) - ((m : Int) + 1)).toNat = q := by omega
  have e4 : ((m : Int) + 1).toNat = m + 1 := by omega
  have e5 : ((m : Int)).toNat = m := by omega
  have e6 : ((q : Int)).toNat = q := by omega
  simp only [cand, tkB, tkA, e0, e2, e3, e4, e5, e6]
  have hw : w.drop (m + q) = w.getD (m + q) 0 :: w.drop (m + q + 1) := by
    rw [List.drop_eq_getElem_cons hk]; simp [List.getD, List.getElem?_eq_getElem hk]
  rw [hw, isSh, hd_drop, hd_drop, List.tail_drop, List.tail_drop, Bool.or_comm]
theorem any_stB {b : List Int} {x : Int} {k : Nat} {acc : List Int} {i : Int} (f : Int → Bool) : (stB b x k acc i).any f = (acc.any f || (tkB b x k i && f i)) := by
  unfold stB
  cases hB : tkB b x k i with
  | false => simp
  | true =>
    cases hl : lastB acc i with
    | true => simp
    | false =>
      simp [lastB] at hl
      obtain ⟨h1, h2⟩ := hl
      have hlt : acc.length - 1 < acc.length := by
        have : 0 < acc.length := by cases acc with
          | nil => simp at h1
          | cons _ _ => simp
        omega
      have hm : i ∈ acc := by
        have e : acc.getD (acc.length - 1) 0 = acc[acc.length - 1] := by simp only [List.getD, List.getElem?_eq_getElem hlt, Option.getD_some]
        have h3 : acc.getD (acc.length - 1) 0 ∈ acc := by rw [e]; exact List.getElem_mem _
        have h4 : acc.getD (acc.length - 1) 0 = i := by simpa [List.getD] using h2
        rwa [h4] at h3
      simp only [Bool.and_false, Bool.false_eq_true, if_false, Bool.true_and]
      cases hf : f i with
      | false => simp
      | true => simp; exact ⟨i, hm, hf⟩
theorem any_stA {a : List Int} {x : Int} {acc : List Int} {i : Int} (f : Int → Bool) : (stA a x acc i).any f = (acc.any f || (tkA a x i && f (i + 1))) := by
  unfold stA
  cases tkA a x i <;> simp
theorem any_nxt {w a b : List Int} {k : Nat} (hk : k < w.length) : ∀ (T acc : List Int), (∀ i ∈ T, OkI a.length b.length k i) →
    (nxt a b (w.getD k 0) k acc T).any (cand w a b (k + 1)) = (acc.any (cand w a b (k + 1)) || T.any (cand w a b k)) := by
  intro T
  induction T with
  | nil => intro acc _; simp [nxt]
  | cons i r ih =>
    intro acc h
    rw [nxt, ih _ (fun j hj => h j (by simp [hj])), any_stA, any_stB, List.any_cons, cand_step (h i (by simp)) hk]
    simp only [Bool.or_assoc]
theorem ok_stB {a b : List Int} {x : Int} {k : Nat} {acc : List Int} {i : Int} (h : ∀ j ∈ acc, OkI a.length b.length (k + 1) j) (hi : OkI a.length b.length k i) : ∀ j ∈ stB b x k acc i, OkI a.length b.length (k + 1) j := by
  intro j hj
  unfold stB at hj
  by_cases hc : (tkB b x k i && lastB acc i) = true
  · rw [if_pos hc, List.mem_append, List.mem_singleton] at hj
    rcases hj with hj | rfl
    · exact h j hj
    · simp [tkB] at hc
      obtain ⟨h0, h1, h2, h3⟩ := hi
      exact ⟨h0, h1, by omega, by omega⟩
  · rw [if_neg hc] at hj; exact h j hj
theorem ok_stA {a b : List Int} {x : Int} {k : Nat} {acc : List Int} {i : Int} (h : ∀ j ∈ acc, OkI a.length b.length (k + 1) j) (hi : OkI a.length b.length k i) : ∀ j ∈ stA a x acc i, OkI a.length b.length (k + 1) j := by
  intro j hj
  unfold stA at hj
  by_cases hc : tkA a x i = true
  · rw [if_pos hc, List.mem_append, List.mem_singleton] at hj
    rcases hj with hj | rfl
    · exact h j hj
    · simp [tkA] at hc
      obtain ⟨h0, h1, h2, h3⟩ := hi
      exact ⟨by omega, by omega, by omega, by omega⟩
  · rw [if_neg hc] at hj; exact h j hj
theorem ok_nxt {a b : List Int} {x : Int} {k : Nat} : ∀ (T acc : List Int), (∀ i ∈ T, OkI a.length b.length k i) → (∀ i ∈ acc, OkI a.length b.length (k + 1) i) → ∀ i ∈ nxt a b x k acc T, OkI a.length b.length (k + 1) i := by
  intro T
  induction T with
  | nil => intro acc _ h; exact h
  | cons i r ih =>
    intro acc hT hacc
    rw [nxt]
    exact ih _ (fun j hj => hT j (by simp [hj])) (ok_stA (ok_stB hacc (hT i (by simp))) (hT i (by simp)))
theorem len_stB (b : List Int) (x : Int) (k : Nat) (acc : List Int) (i : Int) : (stB b x k acc i).length ≤ acc.length + 1 := by
  unfold stB; split <;> simp
theorem len_stA (a : List Int) (x : Int) (acc : List Int) (i : Int) : (stA a x acc i).length ≤ acc.length + 1 := by
  unfold stA; split <;> simp
theorem len_nxt (a b : List Int) (x : Int) (k : Nat) : ∀ (T acc : List Int), (nxt a b x k acc T).length ≤ acc.length + 2 * T.length := by
  intro T
  induction T with
  | nil => intro acc; simp [nxt]
  | cons i r ih =>
    intro acc
    rw [nxt]
    have h1 := ih (stA a x (stB b x k acc i) i)
    have h2 := len_stA a x (stB b x k acc i) i
    have h3 := len_stB b x k acc i
    simp; omega

/-- Where a round of the words stands. -/
structure IsInv (w a b : List Int) (k : Nat) (T : List Int) : Prop where
  ok : ∀ i ∈ T, OkI a.length b.length k i
  any : T.any (cand w a b k) = isSh w a b
  len : T.length ≤ 2 ^ k
theorem isInv_zero (w a b : List Int) : IsInv w a b 0 [0] := by
  refine ⟨fun i hi => ?_, by simp [cand], by simp⟩
  rw [List.mem_singleton] at hi
  subst hi
  exact ⟨by omega, by omega, by omega, by omega⟩
theorem isInv_next {w a b : List Int} {k : Nat} {T : List Int} (h : IsInv w a b k T) (hk : k < w.length) : IsInv w a b (k + 1) (nxt a b (w.getD k 0) k [] T) := by
  refine ⟨ok_nxt T [] h.ok (by simp), by rw [any_nxt hk T [] h.ok]; simpa using h.any, ?_⟩
  have := len_nxt a b (w.getD k 0) k T []
  have := h.len
  rw [Nat.pow_succ]
  simp at *
  omega
theorem isInv_no {w a b : List Int} {k : Nat} (h : IsInv w a b k []) : isSh w a b = false := by rw [← h.any]; rfl
theorem isInv_end {w a b : List Int} {T : List Int} (h : IsInv w a b w.length T) (hl : w.length = a.length + b.length) (hT : T ≠ []) : isSh w a b = true := by
  rw [← h.any]
  obtain ⟨i, r, rfl⟩ : ∃ i r, T = i :: r := by
    cases T with
    | nil => exact absurd rfl hT
    | cons i r => exact ⟨i, r, rfl⟩
  obtain ⟨h0, h1, h2, h3⟩ := h.ok i (by simp)
  rw [List.any_cons]
  have e : cand w a b w.length i = true := by
    unfold cand
    rw [List.drop_of_length_le (Nat.le_refl _), List.drop_of_length_le (by omega), List.drop_of_length_le (by omega)]
    rfl
  rw [e]; rfl

theorem stB_out {b acc : List Int} {x i : Int} {k : Nat} (h : ¬ ((k : Int) - i < (b.length : Int))) : stB b x k acc i = acc := by
  unfold stB tkB; simp [h]
theorem stB_ne {b acc : List Int} {x i : Int} {k q : Nat} (hq : (k : Int) - i = (q : Int)) (h : b.getD q 0 ≠ x) : stB b x k acc i = acc := by
  unfold stB tkB
  rw [hq, Int.toNat_natCast, show (b.getD q 0 == x) = false from by simpa using h]
  simp
theorem stB_dup {b acc : List Int} {x i : Int} {k l : Nat} (hl : acc.length = l + 1) (h : acc.getD l 0 = i) : stB b x k acc i = acc := by
  unfold stB lastB
  rw [show acc.length - 1 = l from by omega, h, show decide (acc.length = 0) = false from decide_eq_false (by omega)]
  simp
theorem stB_emp {b acc : List Int} {x i : Int} {k q : Nat} (hq : (k : Int) - i = (q : Int)) (hb : q < b.length) (h : b.getD q 0 = x) (hl : acc.length = 0) : stB b x k acc i = acc ++ [i] := by
  unfold stB tkB lastB
  rw [hq, Int.toNat_natCast, h, hl]
  simp [hb]
theorem stB_app {b acc : List Int} {x i : Int} {k q l : Nat} (hq : (k : Int) - i = (q : Int)) (hb : q < b.length) (h : b.getD q 0 = x) (hl : acc.length = l + 1) (h2 : acc.getD l 0 ≠ i) : stB b x k acc i = acc ++ [i] := by
  unfold stB tkB lastB
  rw [hq, Int.toNat_natCast, h, show acc.length - 1 = l from by omega, show (acc.getD l 0 != i) = true from by simpa using h2]
  simp [hb]
theorem stA_out {a acc : List Int} {x i : Int} (h : ¬ (i < (a.length : Int))) : stA a x acc i = acc := by
  unfold stA tkA; simp [h]
theorem stA_ne {a acc : List Int} {x : Int} {m : Nat} (h : a.getD m 0 ≠ x) : stA a x acc (m : Int) = acc := by
  unfold stA tkA
  rw [Int.toNat_natCast, show (a.getD m 0 == x) = false from by simpa using h]
  simp
theorem stA_app {a acc : List Int} {x : Int} {m : Nat} (hm : m < a.length) (h : a.getD m 0 = x) : stA a x acc (m : Int) = acc ++ [(m : Int) + 1] := by
  unfold stA tkA
  rw [Int.toNat_natCast, h]
  simp [hm]
end Go.Proofs.Ytdccmebkoibkhaa
