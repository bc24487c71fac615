/- Layer 3: the automaton with one state and edges by many events. -/
import Derived.Test.YtcciiikaejjooaaaWds
import Derived.Test.YtcciiikaejjooaaaLang
namespace Go.Proofs.Ytcciiikaejjooaa
open Go.RowKit Go.Sort

def manyE (k : Nat) : List Ed := (List.range k).map fun i : Nat => ⟨0, (i : Int), 0⟩
def manyA (k : Nat) : Au := ⟨rng k, 1, [], manyE k⟩
theorem manyE_succ (k : Nat) : manyE (k + 1) = manyE k ++ [⟨0, (k : Int), 0⟩] := by simp [manyE, List.range_succ]
theorem manyE_len (k : Nat) : (manyE k).length = k := by simp [manyE]
theorem many_right {k : Nat} (hk : k ≤ 32) : Right (manyA k) where
  alr x hx := by
    unfold manyA rng at hx
    simp only [List.mem_map, List.mem_range] at hx
    obtain ⟨i, hi, rfl⟩ := hx; omega
  alo := by
    unfold manyA rng; simp only; rw [List.pairwise_map]; exact List.pairwise_lt_range.imp fun h => by omega
  st0 := by simp [manyA]
  mrr x hx := by simp [manyA] at hx
  mro := by simp [manyA]
  edr x hx := by
    unfold manyA manyE at hx
    simp only [List.mem_map, List.mem_range] at hx
    obtain ⟨i, hi, rfl⟩ := hx
    exact ⟨⟨by simp, by simp [manyA]⟩, ⟨by simp, by simp [manyA]⟩, List.mem_map.2 ⟨i, List.mem_range.2 hi, rfl⟩⟩
  edo := by
    unfold manyA manyE; simp only; rw [List.pairwise_map]
    exact List.pairwise_lt_range.imp fun h => by unfold ltE; simp; omega
  st1 := by simp [manyA]
def manyOk (k : Nat) : Bool := match genO (manyA k) 2 with | none => decide (1024 < 1 + k + k * k) | some l => decide (l.length = 1 + k + k * k) && decide (1 + k + k * k ≤ 1024)
set_option maxRecDepth 100000 in
theorem many_all : ∀ k, k < 33 → manyOk k = true := by decide +kernel
theorem selL_none (mk : Bool) (L : List (List Int × Int)) : (selL [] mk L).length = if mk = true then 0 else L.length := by
  cases mk <;> simp [selL]
/-- How many words there are, and the error. -/
theorem many_words {k : Nat} (hk : k ≤ 32) (mk : Bool) : (wordsR (manyA k) 2 mk).1.length = (if 1024 < 1 + k + k * k then 0 else if mk = true then 0 else 1 + k + k * k) ∧ (wordsR (manyA k) 2 mk).2 = (if 1024 < 1 + k + k * k then 3 else 0) := by
  have h := many_all k (by omega)
  have hc := (many_right hk).chk
  unfold manyOk at h
  rw [wordsR, if_neg (by simp [hc]), if_neg (by omega)]
  cases hg : genO (manyA k) 2 with
  | none =>
    rw [hg] at h
    have h1 : 1024 < 1 + k + k * k := by simpa using h
    simp only [h1, if_true, List.length_nil, and_self]
  | some L =>
    rw [hg] at h
    simp only [Bool.and_eq_true, decide_eq_true_eq] at h
    have h1 : ¬ 1024 < 1 + k + k * k := by omega
    simp only [h1, if_false, and_true]
    show (selL [] mk L).length = _
    rw [selL_none, h.1]
end Go.Proofs.Ytcciiikaejjooaa
