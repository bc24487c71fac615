/- A list of words in memory. -/
import Derived.Test.YtdccmebkoibkhaaShRow
namespace Go.Proofs.Ytdccmebkoibkhaa
open Go.RowKit

/-- A slice's address leads, below block B, to slices that hold these words (asked only where there are any). -/
def RdL (w : World) (B : Nat) (A : Option Addr) (zs : List (List Int)) : Prop :=
  0 < zs.length → ∃ b off, A = some ⟨b, off, none⟩ ∧ b < B ∧ ∀ j, j < zs.length → ∃ C c, w.cell? ⟨b, off + j, none⟩ = some (.slice C (zs.getD j []).length c) ∧ RdI w B C (zs.getD j []) ∧ (zs.getD j []).length ≤ c ∧ c ≤ 9223372036854775807
theorem RdL.keep {w w' : World} {B : Nat} {A : Option Addr} {zs : List (List Int)} (h : RdL w B A zs) (hk : ∀ b o, b < B → w'.cell? ⟨b, o, none⟩ = w.cell? ⟨b, o, none⟩) : RdL w' B A zs := fun h0 => by
  obtain ⟨b, off, e, hb, hc⟩ := h h0
  refine ⟨b, off, e, hb, fun j hj => ?_⟩
  obtain ⟨C, c, h1, h2, h3⟩ := hc j hj
  exact ⟨C, c, (hk b _ hb).trans h1, h2.keep hk, h3⟩
theorem RdL.more {w : World} {B B' : Nat} {A : Option Addr} {zs : List (List Int)} (h : RdL w B A zs) (hB : B ≤ B') : RdL w B' A zs := fun h0 => by
  obtain ⟨b, off, e, hb, hc⟩ := h h0
  refine ⟨b, off, e, by omega, fun j hj => ?_⟩
  obtain ⟨C, c, h1, h2, h3⟩ := hc j hj
  exact ⟨C, c, h1, h2.more hB, h3⟩
theorem RdL.below {w w' : World} {B B' : Nat} {A : Option Addr} {zs : List (List Int)} (h : RdL w B A zs) (hb : Below B' w w') (hB : B ≤ B') : RdL w' B A zs :=
  h.keep fun _ _ hlt => hb.cell (by exact Nat.lt_of_lt_of_le hlt hB)
theorem RdL.of_row {w : World} {blk : Nat} {hs : List Hd} (hb : blk < w.heap.size) (hc : ∀ i h, hs[i]? = some h → w.cell? ⟨blk, i, none⟩ = some h.enc) (hg : ∀ h ∈ hs, Good w blk h) : RdL w w.heap.size (some ⟨blk, 0, none⟩) (hs.map (·.z)) := fun _ => by
  refine ⟨blk, 0, rfl, hb, fun j hj => ?_⟩
  rw [List.length_map] at hj
  have e : hs[j]? = some hs[j] := List.getElem?_eq_getElem hj
  have e2 : (hs.map (·.z)).getD j [] = hs[j].z := by simp [List.getD, e]
  have g := hg hs[j] (List.getElem_mem hj)
  rw [e2, Nat.zero_add]
  exact ⟨hs[j].A, hs[j].c, hc j _ e, g.rd, g.cap, g.top⟩
theorem shufL_ne : ∀ (n : Nat) (w a b : List Int), a.length + b.length = n → shufL w a b ≠ [] := by
  intro n
  induction n with
  | zero =>
    intro w a b h
    obtain rfl : a = [] := List.eq_nil_of_length_eq_zero (by omega)
    obtain rfl : b = [] := List.eq_nil_of_length_eq_zero (by omega)
    rw [shufL]; simp
  | succ n ih =>
    intro w a b h
    cases a with
    | nil =>
      cases b with
      | nil => simp at h
      | cons y b => rw [shufL]; exact ih (w ++ [y]) [] b (by simp at h ⊢; omega)
    | cons x a =>
      cases b with
      | nil => rw [shufL]; exact ih (w ++ [x]) a [] (by simp at h ⊢; omega)
      | cons y b =>
        rw [shufL]
        exact fun e => ih (w ++ [x]) a (y :: b) (by simp at h ⊢; omega) (List.append_eq_nil_iff.1 e).1
end Go.Proofs.Ytdccmebkoibkhaa
