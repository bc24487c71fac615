/- Layer 6: bytes that came in. -/
import Derived.Test.YtedleffmbddccaaDoorZlQ
import Derived.Test.YtedleffmbddccaaDoorZlH
set_option linter.unusedVariables false
set_option linter.unusedSimpArgs false
set_option linter.unusedSectionVars false
namespace Go.Proofs.YtedleffmbddccaaDoor
open Go.RowKit Go.Sort
section
open Go.ChangeShapes Go.WideShapes Go.ChangeAt Go.RowKit Go.Deep
/-- A slice's address leads, below block B, to cells that hold these bytes (asked only where there are any). -/
def RdB6 (w : World) (B : Nat) (A : Option Addr) (zs : List Int) : Prop :=
  0 < zs.length → ∃ b off, A = some ⟨b, off, none⟩ ∧ b < B ∧ ∀ j, j < zs.length → w.cell? ⟨b, off + j, none⟩ = some (.int .u8 (zs.getD j 0))
variable {H : Type} {enc : TypeId × Value → H} {W : World} {a0 : Option Addr} {len cap : Nat} {d : DataW H} {p : List MemPlace}
set_option maxRecDepth 8000 in
theorem open_rdB6 (h : DataW.Trod enc Tryd.prog W 0 (fun _ => true) true 56 (.slice a0 len cap) d p) (hlt : ∀ x ∈ p, x.block < W.heap.size) :
    ∃ zs : List Int, zs.length = len ∧ RdB6 W W.heap.size a0 zs ∧ (∀ z ∈ zs, (Lit.int .u8 z).wf = true) ∧ len ≤ maxLen := by
  obtain ⟨fuel, hf⟩ := h
  rcases open_ints Tryd.underlying56 Tryd.underlying5 (by kernel_rfl) hf with ⟨hcs, _⟩ | ⟨a, l, c, zs, hcs, _, hl, hm, hz, hx, hcell, hwz⟩
  · simp [Value.cells] at hcs
    obtain ⟨rfl, rfl, rfl⟩ := hcs
    exact ⟨[], rfl, fun h => absurd h (by simp), by simp, by unfold maxLen; omega⟩
  · simp [Value.cells] at hcs
    obtain ⟨rfl, rfl, rfl⟩ := hcs
    simp only [Prod.mk.injEq] at hx
    obtain ⟨rfl, rfl⟩ := hx
    simp only [if_true] at hz
    refine ⟨zs.take len, by rw [List.length_take]; omega, fun h0 => ?_, fun z hz' => hwz z (List.mem_of_mem_take hz'), by omega⟩
    rw [List.length_take] at h0
    obtain ⟨b, off, spot⟩ := a
    have hspot : spot = none := by simpa [Addr.add] using World.cell?_spot (hcell 0 (by omega))
    subst hspot
    refine ⟨b, off, rfl, hlt (.cell b off) (MemPlace.mem_row.2 ⟨0, by omega, by simp⟩), fun j hj => ?_⟩
    rw [List.length_take] at hj
    rw [← add_plain, hcell j (by omega)]
    simp [List.getD, show j < len by omega]
end
theorem RdB6.keep {w w' : World} {B : Nat} {A : Option Addr} {zs : List Int} (h : RdB6 w B A zs) (hk : ∀ b o, b < B → w'.cell? ⟨b, o, none⟩ = w.cell? ⟨b, o, none⟩) : RdB6 w' B A zs := fun h0 => by
  obtain ⟨b, off, e, hb, hc⟩ := h h0
  exact ⟨b, off, e, hb, fun j hj => (hk b _ hb).trans (hc j hj)⟩
theorem RdB6.more {w : World} {B B' : Nat} {A : Option Addr} {zs : List Int} (h : RdB6 w B A zs) (hB : B ≤ B') : RdB6 w B' A zs := fun h0 => by
  obtain ⟨b, off, e, hb, hc⟩ := h h0
  exact ⟨b, off, e, by omega, hc⟩
theorem RdB6.below {w w' : World} {B L : Nat} {A : Option Addr} {zs : List Int} (h : RdB6 w B A zs) (hb : Below L w w') (hB : B ≤ L) : RdB6 w' B A zs := h.keep fun b o hlt => hb.cell (p := ⟨b, o, none⟩) (by show b < L; omega)
theorem wf_b6 {z : Int} (h : (Lit.int .u8 z).wf = true) : 0 ≤ z ∧ z < 256 := by
  simp [Lit.wf, IntKind.min, IntKind.max, IntKind.signed, IntKind.bits] at h; omega
end Go.Proofs.YtedleffmbddccaaDoor
