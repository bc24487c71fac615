/- A list of ints owned, with its capacity. -/
import Derived.Test.YtdccmebkoibkhaaKeep
namespace Go.Proofs.Ytdccmebkoibkhaa
open Go.RowKit

/-- What a function hands back that makes a list of ints in new memory, the capacity told. -/
def GivesC (w : World) (zs : List Int) (e : Ending) (w' : World) : Prop := ∃ A c, e = .returned (.slice A zs.length c) ∧ RdI w' w'.heap.size A zs ∧ Below w.heap.size w w' ∧ zs.length ≤ c ∧ c ≤ 9223372036854775807
theorem own_rdc {w : World} {base : Nat} {v : Value} {zs : List Int} (h : Own w base v zs) : ∃ A c, v = .slice A zs.length c ∧ RdI w w.heap.size A zs ∧ zs.length ≤ c ∧ c ≤ 9223372036854775807 := by
  obtain ⟨A, c, e, hr⟩ := own_rd h
  refine ⟨A, c, e, hr, ?_⟩
  rcases h.2 with ⟨rfl, h0⟩ | ⟨g, cap, cur, rfl, hg, hh, hn, hcap, hsz, htake⟩
  · injection e with _ e1 e2; omega
  · injection e with _ e1 e2; unfold maxLen at hcap; omega
theorem own_kept {w w' : World} {B : Nat} {v : Value} {zs : List Int} (h : Own w B v zs) (hb : Below w.heap.size w w') : Own w' B v zs :=
  World.ownsRow.kept (row := none) h ⟨hb.os, hb.tape, hb.output, hb.size, fun i hi _ => hb.block i hi⟩ (Classical.em _)
end Go.Proofs.Ytdccmebkoibkhaa
