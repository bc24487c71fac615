/- More math of shuffles: a further event at the end; the two words exchanged. -/
import Derived.Test.YtdccmebkoibkhaaIsMath
namespace Go.Proofs.Ytdccmebkoibkhaa
open Go.RowKit

theorem isSh_comm : ∀ (w a b : List Int), isSh w a b = isSh w b a := by
  intro w
  induction w with
  | nil => intro a b; rw [isSh, isSh, Bool.and_comm]
  | cons x w ih => intro a b; rw [isSh, isSh, ih a.tail b, ih a b.tail, Bool.or_comm]
theorem isSh_snoc (x : Int) : ∀ (w a b : List Int), isSh w a b = true → isSh (w ++ [x]) (a ++ [x]) b = true := by
  intro w
  induction w with
  | nil =>
    intro a b h
    cases a <;> cases b <;> simp_all [isSh, hdIs]
  | cons y w ih =>
    intro a b h
    rw [isSh, Bool.or_eq_true] at h
    rw [List.cons_append, isSh, Bool.or_eq_true]
    rcases h with h | h
    · left
      cases a with
      | nil => simp [hdIs] at h
      | cons z a =>
        simp [hdIs] at h ⊢
        exact ⟨h.1, ih a b h.2⟩
    · right
      cases b with
      | nil => simp [hdIs] at h
      | cons z b =>
        simp [hdIs] at h ⊢
        exact ⟨h.1, ih a b h.2⟩
theorem isSh_snoc_r (x : Int) (w a b : List Int) (h : isSh w a b = true) : isSh (w ++ [x]) a (b ++ [x]) = true := by
  rw [isSh_comm]; exact isSh_snoc x w b a (by rw [isSh_comm]; exact h)
theorem take_one {l : List Int} {k : Nat} (h : k < l.length) : l.take (k + 1) = l.take k ++ [l.getD k 0] := by
  rw [List.take_succ_eq_append_getElem h]; simp [List.getD, List.getElem?_eq_getElem h]
theorem isSh_left {w a b : List Int} {i k : Nat} (h : isSh w (a.take i) (b.take k) = true) (hi : i < a.length) : isSh (w ++ [a.getD i 0]) (a.take (i + 1)) (b.take k) = true := by
  rw [take_one hi]; exact isSh_snoc _ _ _ _ h
theorem isSh_right {w a b : List Int} {i k : Nat} (h : isSh w (a.take i) (b.take k) = true) (hi : k < b.length) : isSh (w ++ [b.getD k 0]) (a.take i) (b.take (k + 1)) = true := by
  rw [take_one hi]; exact isSh_snoc_r _ _ _ _ h
end Go.Proofs.Ytdccmebkoibkhaa
