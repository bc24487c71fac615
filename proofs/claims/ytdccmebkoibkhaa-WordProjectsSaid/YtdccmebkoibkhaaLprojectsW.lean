/- The walk of WordProjects, over what comes in. -/
import Derived.Test.YtdccmebkoibkhaaLprojects
import Derived.Test.YtdccmebkoibkhaaOpenB
namespace Go.Proofs.Ytdccmebkoibkhaa
open Go.RowKit
theorem lawProjectsW (A : Option Addr) (n c : Nat) (bs : List Int) (x y : Int) (w : World) (hx : RdB w w.heap.size A bs) (hn : bs.length = n) (hf : ∀ z ∈ bs, (Lit.int .u8 z).wf = true) (h0 : (Lit.int .u8 x).wf = true) (k0 : (Lit.int .u8 y).wf = true) :
    Calls Try.prog 6 #[.slice A n c, .int .u8 x, .int .u8 y] w fun e w' => e = .returned (.bool true) ∧ Below w.heap.size w w' :=
  lawProjects A n c bs x y w hx hn (fun z hz => wf_u8 (hf z hz)) (wf_u8 h0) (wf_u8 k0)
end Go.Proofs.Ytdccmebkoibkhaa
