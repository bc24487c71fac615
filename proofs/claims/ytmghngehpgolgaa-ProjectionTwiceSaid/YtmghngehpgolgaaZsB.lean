/- Layer 7, the reference: the events that are kept, and those that are erased. -/
import Derived.Test.YtmghngehpgolgaaZsA
set_option linter.unusedVariables false
set_option linter.unusedSimpArgs false
set_option linter.unusedSectionVars false
namespace Go.Proofs.Ytmghngehpgolgaa
open Go.RowKit Go.Sort

theorem fl_take_yes {p : Int → Bool} {zs : List Int} {k : Nat} (h : k < zs.length) (hp : p (zs.getD k 0) = true) : (zs.take (k + 1)).filter p = (zs.take k).filter p ++ [zs.getD k 0] := by
  rw [List.take_succ_eq_append_getElem h, List.filter_append]
  have e : zs.getD k 0 = zs[k] := by simp [List.getD, List.getElem?_eq_getElem h]
  rw [e] at hp ⊢
  simp [hp]
theorem fl_take_no {p : Int → Bool} {zs : List Int} {k : Nat} (h : k < zs.length) (hp : p (zs.getD k 0) = false) : (zs.take (k + 1)).filter p = (zs.take k).filter p := by
  rw [List.take_succ_eq_append_getElem h, List.filter_append]
  have e : zs.getD k 0 = zs[k] := by simp [List.getD, List.getElem?_eq_getElem h]
  rw [e] at hp
  simp [hp]
theorem fl_take_le (p : Int → Bool) (zs : List Int) (k : Nat) : ((zs.take k).filter p).length ≤ k := Nat.le_trans (List.length_filter_le _ _) (List.length_take_le _ _)
end Go.Proofs.Ytmghngehpgolgaa
