/- Layer 7: what came in: a list's length and capacity. -/
import Derived.Test.YtmghngehpgolgaaZa13
set_option linter.unusedVariables false
set_option linter.unusedSimpArgs false
set_option linter.unusedSectionVars false
namespace Go.Proofs.Ytmghngehpgolgaa
open Go.ChangeShapes Go.WideShapes Go.ChangeAt Go.RowKit
section
variable {H : Type} {enc : TypeId × Value → H} {W : World} {base : Nat} {v : Value} {d : DataW H} {p : List MemPlace}
theorem cap2_ints {a0 : Option Addr} {len cap : Nat} (h : DataW.Trod enc Try.prog W 0 (fun _ => true) true 22 (.slice a0 len cap) d p) (hlt : ∀ x ∈ p, x.block < W.heap.size) : len ≤ cap ∧ cap ≤ 9223372036854775807 := by
  obtain ⟨fuel, hf⟩ := h
  obtain ⟨A, n, c, z, S⟩ := open_sl (c := .slice a0 len cap) hf hlt
  have e := S.eq
  injection e with e1 e2 e3
  subst e1 e2 e3
  exact ⟨S.cap, S.top⟩
theorem open_set1 {n : Nat} {c : Value} {y : DataW H × List MemPlace} (hf : DataW.trod enc Try.prog W 0 (fun _ => true) true n 42 [c] = some y) : ∃ z, c = .int .u8 z ∧ (Lit.int .u8 z).wf = true := by
  obtain ⟨q, e, _, hq⟩ := DataW.trod_int Try.underlying42 hf
  simp at e
  exact ⟨q, e, hq⟩
end
end Go.Proofs.Ytmghngehpgolgaa
