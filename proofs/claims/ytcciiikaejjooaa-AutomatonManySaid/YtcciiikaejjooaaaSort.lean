/- Layer 3: slices.Sort over a list of ints of the call's own. -/
import Derived.Test.YtcciiikaejjooaaaCanM
import Derived.Test.YtcciiikaejjooaaLaySI
import Derived.Sort.OwnSortedInts
namespace Go.Proofs.Ytcciiikaejjooaa
open Go.RowKit Go.Sort

/-- A list of ints in increasing order. -/
def srtI (zs : List Int) : List Int := zs.mergeSort fun x y => decide (x ≤ y)
theorem srtI_len (zs : List Int) : (srtI zs).length = zs.length := by simp [srtI, List.length_mergeSort]
theorem sort_own {base : Nat} {v : Value} {zs : List Int} (w : World) (h : Own w base v zs) (hl : zs.length ≤ 100000) :
    Calls Try.prog 73 #[v] w fun e w' => e = .returned (.tuple #[]) ∧ Own w' base v (srtI zs) ∧ w.grownBy w' v.ownBlock := by
  rcases h.2 with ⟨rfl, h0⟩ | ⟨g, cap, cur, rfl, hb, hh, hn, hcap, hsz, htake⟩
  · have hz : zs = [] := List.eq_nil_of_length_eq_zero h0
    subst hz
    have hcon := AnyM.slices_Sort_int_none laySI none 0 w
    refine Calls.mono (show Calls Try.prog 73 _ w _ from hcon) ?_
    rintro e w' ⟨rfl, rfl⟩
    exact ⟨rfl, by simpa [srtI] using h, ⟨rfl, rfl, rfl, Nat.le_refl _, fun _ _ _ => rfl⟩⟩
  · rw [Nat.mul_one] at htake hsz
    have hH := holds_of_blockI (ss := zs) hh htake
    have hcon := AnyM.slices_Sort_int laySI g 0 cap zs w hH (h.lt g rfl).2 (by omega)
    refine Calls.mono (show Calls Try.prog 73 _ w _ from hcon) ?_
    rintro e w' ⟨rfl, n, os, rfl⟩
    refine ⟨rfl, ?_, grownBy_sortedI _⟩
    have := ownsRow_sortedI (base := base) (n := n) (os := os) (ss := zs) (ts := srtI zs) (srtI_len zs) hb hh hn hcap (by omega)
    unfold Own
    rw [srtI_len]
    first | exact this | simpa [srtI_len] using this
end Go.Proofs.Ytcciiikaejjooaa
