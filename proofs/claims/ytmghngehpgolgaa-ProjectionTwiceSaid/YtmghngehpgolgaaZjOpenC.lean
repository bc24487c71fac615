/- Layer 7: what came in: three sets. -/
import Derived.Test.YtmghngehpgolgaaZa14
set_option linter.unusedVariables false
set_option linter.unusedSimpArgs false
set_option linter.unusedSectionVars false
namespace Go.Proofs.Ytmghngehpgolgaa
open Go.ChangeShapes Go.WideShapes Go.ChangeAt Go.RowKit
section
variable {H : Type} {enc : TypeId × Value → H} {W : World} {base : Nat} {v : Value} {d : DataW H} {p : List MemPlace}
set_option maxRecDepth 8000 in
theorem open_arr3S (hval : Value.okWide Try.prog W .any base 43 v) (h : DataW.Trod enc Try.prog W 0 (fun _ => true) true 43 v d p) : ∃ x y z : Int, v = .agg #[.int .u8 x, .int .u8 y, .int .u8 z] ∧ (Lit.int .u8 x).wf = true ∧ (Lit.int .u8 y).wf = true ∧ (Lit.int .u8 z).wf = true := by
  simp only [Value.okWide, Try.underlying43] at hval
  obtain ⟨cs, rfl, hsz, _⟩ := hval
  have h2 : Try.prog.cellsOf 43 = 3 := by kernel_rfl
  have h1 : Try.prog.cellsOf 42 = 1 := by kernel_rfl
  rw [h2] at hsz
  obtain ⟨fuel, hf⟩ := h
  obtain ⟨xs, m, _, hx, _, hl, hi⟩ := DataW.trod_array Try.underlying43 hf
  obtain ⟨l⟩ := cs
  match l, hsz with
  | [s0, s1, s2], _ =>
    match xs, hl with
    | [y0, y1, y2], _ =>
      have f0 := hi 0 (by decide)
      have f1 := hi 1 (by decide)
      have f2 := hi 2 (by decide)
      rw [h1] at f0 f1 f2
      have e0 : DataW.trod enc Try.prog W 0 (fun _ => true) true m 42 [s0] = some y0 := f0
      have e1 : DataW.trod enc Try.prog W 0 (fun _ => true) true m 42 [s1] = some y1 := f1
      have e2 : DataW.trod enc Try.prog W 0 (fun _ => true) true m 42 [s2] = some y2 := f2
      obtain ⟨a, rfl, wa⟩ := open_set1 e0
      obtain ⟨b, rfl, wb⟩ := open_set1 e1
      obtain ⟨c, rfl, wc⟩ := open_set1 e2
      exact ⟨a, b, c, rfl, wa, wb, wc⟩
end
end Go.Proofs.Ytmghngehpgolgaa
