/- Layer 3: the chapter's examples, as mathematics. -/
import Derived.Test.YtcciiikaejjooaaaRelM
import Derived.Test.YtcciiikaejjooaaaWds
import Derived.Test.YtcciiikaejjooaaaApi
namespace Go.Proofs.Ytcciiikaejjooaa
open Go.RowKit Go.Sort

def exA : Au := ⟨[0, 2], 3, [2], [⟨0, 0, 2⟩, ⟨0, 2, 0⟩, ⟨2, 2, 0⟩]⟩
def cnA : Au := ⟨[0, 2], 2, [1], [⟨0, 0, 1⟩, ⟨0, 2, 0⟩, ⟨1, 2, 0⟩]⟩
def rlA : Au := ⟨[1, 3], 2, [1], [⟨0, 1, 0⟩, ⟨0, 3, 1⟩, ⟨1, 1, 0⟩]⟩
theorem ex_chk : chkE exA = 0 := by decide
theorem ex_can : canR exA = (cnA, 0) := by decide
theorem cn_chk : chkE cnA = 0 := by decide
theorem cn_run : runR cnA 0 [0, 0] = (1, 1, 0) := by decide
theorem cn_gen : genO cnA 2 = some [([], 0), ([0], 1), ([2], 0), ([0, 2], 0), ([2, 0], 1), ([2, 2], 0)] := by decide
theorem cn_words : wordsR cnA 2 true = ([[0], [2, 0]], 0) := by
  unfold wordsR
  rw [cn_chk, cn_gen]
  decide
theorem srt_31 : srtI [3, 1] = [1, 3] := by
  refine lt_ext (srtI_lt (by decide)) (by decide) fun x => ?_
  rw [(srtI_perm _).mem_iff]
  simp
  omega
theorem cn_map : cnA.ed.map (relE cnA.al [3, 1]) = [⟨0, 3, 1⟩, ⟨0, 1, 0⟩, ⟨1, 1, 0⟩] := by decide
theorem srt_ed : srtE [⟨0, 3, 1⟩, ⟨0, 1, 0⟩, ⟨1, 1, 0⟩] = [⟨0, 1, 0⟩, ⟨0, 3, 1⟩, ⟨1, 1, 0⟩] :=
  (srtE_eq (l := [⟨0, 3, 1⟩, ⟨0, 1, 0⟩, ⟨1, 1, 0⟩]) (r := [⟨0, 1, 0⟩, ⟨0, 3, 1⟩, ⟨1, 1, 0⟩]) (by unfold KeyD; decide) (List.Perm.swap _ _ _) (by decide)).symm
theorem cn_rel : relR cnA [3, 1] = (rlA, 0) := by
  have h1 : relA cnA [3, 1] = rlA := by
    unfold relA
    rw [srt_31, cn_map, srt_ed]; rfl
  have h2 : canA rlA = rlA := by decide
  unfold relR
  rw [cn_chk, if_neg (by decide), if_neg (by decide), if_neg (by decide), h1, h2]
end Go.Proofs.Ytcciiikaejjooaa
