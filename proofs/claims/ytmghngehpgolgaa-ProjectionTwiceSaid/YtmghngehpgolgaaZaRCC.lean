/- Layer 3: Complete and Closed of the reference. -/
import Derived.Test.YtmghngehpgolgaaZa7
import Derived.Test.YtmghngehpgolgaaZa13
set_option linter.unusedVariables false
set_option linter.unusedSimpArgs false
set_option linter.unusedSectionVars false
namespace Go.Proofs.Ytmghngehpgolgaa

section
open Go.RowKit Go.Sort
theorem toC_none {a : Au} {q ev : Int} (h : stepO a q ev = none) : toC a q ev = a.st := by rw [toC, h]; rfl
theorem toC_some {a : Au} {q ev t : Int} (h : stepO a q ev = some t) : toC a q ev = t := by rw [toC, h]; rfl

end

section
open Go.RowKit Go.Sort
end
end Go.Proofs.Ytmghngehpgolgaa
