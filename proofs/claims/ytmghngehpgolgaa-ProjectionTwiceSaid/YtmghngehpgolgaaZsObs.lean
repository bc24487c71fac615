/- Layer 7: Observe of the reference. -/
import Derived.Test.YtmghngehpgolgaaZsB
set_option linter.unusedVariables false
set_option linter.unusedSimpArgs false
set_option linter.unusedSectionVars false
namespace Go.Proofs.Ytmghngehpgolgaa
open Go.RowKit Go.Sort

end Go.Proofs.Ytmghngehpgolgaa
