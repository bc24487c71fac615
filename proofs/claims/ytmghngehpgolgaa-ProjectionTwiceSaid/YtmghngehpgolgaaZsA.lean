/- Layer 7, the reference: has, sorted. -/
import Derived.Test.YtmghngehpgolgaaZa9
set_option linter.unusedVariables false
set_option linter.unusedSimpArgs false
set_option linter.unusedSectionVars false
namespace Go.Proofs.Ytmghngehpgolgaa
open Go.RowKit Go.Sort

/-- The states of a list below some number, in order. -/
def soR (l : List Int) (S : Nat) : List Int := (rng S).filter fun q => decide (q ∈ l)
theorem so_take_yes {l : List Int} {k : Nat} (h : (k : Int) ∈ l) : soR l (k + 1) = soR l k ++ [(k : Int)] := by
  unfold soR rng; rw [List.range_succ, List.map_append, List.filter_append]; simp [h]
theorem so_take_no {l : List Int} {k : Nat} (h : (k : Int) ∉ l) : soR l (k + 1) = soR l k := by
  unfold soR rng; rw [List.range_succ, List.map_append, List.filter_append]; simp [h]
theorem so_len (l : List Int) (k : Nat) : (soR l k).length ≤ k := by
  unfold soR; have := List.length_filter_le (fun q => decide (q ∈ l)) (rng k); rw [rng_len] at this; exact this
end Go.Proofs.Ytmghngehpgolgaa
