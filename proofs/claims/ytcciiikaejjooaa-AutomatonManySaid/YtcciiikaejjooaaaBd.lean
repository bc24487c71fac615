/- Layer 3: an automaton that is being built in a box. -/
import Derived.Test.YtcciiikaejjooaaaCno
namespace Go.Proofs.Ytcciiikaejjooaa
open Go.RowKit Go.Sort

/-- An automaton that is being built in box bc: below block b1 all is as it was; its edges and, if mk says so, its marked states lie in rows of its own. -/
structure Bd (w1 : World) (b1 bc : Nat) (mk ke : Bool) (va : Value) (s : Int) (wr : World) (ms : List Int) (vm : Value) (es : List Ed) (ve : Value) : Prop where
  bel : Below b1 w1 wr
  cb : Row wr bc 25 [va, .int .i64 s, vm, ve]
  mo : mk = true → Own wr b1 vm ms
  eo : ke = true → OwnE wr b1 ve es
  h1 : b1 ≤ bc
section
variable {w1 wr w2 : World} {b1 bc : Nat} {mk ke : Bool} {va vm ve vm' ve' : Value} {s : Int} {ms : List Int} {es : List Ed}
theorem Bd.h2 (h : Bd w1 b1 bc mk ke va s wr ms vm es ve) : bc < wr.heap.size := h.cb.lt
theorem Bd.call (h : Bd w1 b1 bc mk ke va s wr ms vm es ve) (hb : Below wr.heap.size wr w2) : Bd w1 b1 bc mk ke va s w2 ms vm es ve :=
  ⟨h.bel.trans (hb.mono (Nat.le_of_lt (Nat.lt_of_le_of_lt h.h1 h.h2))), h.cb.below hb h.h2, fun e => own_below (h.mo e) hb, fun e => own_below (h.eo e) hb, h.h1⟩
theorem Bd.alloc (h : Bd w1 b1 bc mk ke va s wr ms vm es ve) (o : Obj) : Bd w1 b1 bc mk ke va s (wr.alloc o) ms vm es ve := h.call ((Below.refl _ wr).alloc (Nat.le_refl _) o)
theorem Bd.drewN (h : Bd w1 b1 bc mk ke va s wr ms vm es ve) (q : Nat) : Bd w1 b1 bc mk ke va s (wr.drewN q) ms vm es ve := ⟨below_drewN h.bel q, h.cb, h.mo, h.eo, h.h1⟩
theorem Bd.drew (h : Bd w1 b1 bc mk ke va s wr ms vm es ve) : Bd w1 b1 bc mk ke va s wr.drew ms vm es ve := ⟨h.bel.drew, h.cb, h.mo, h.eo, h.h1⟩
theorem Bd.neM (h : Bd w1 b1 bc true ke va s wr ms vm es ve) : some bc ≠ vm.ownBlock := fun e => row_ne_own h.cb (h.mo rfl) (by decide) e.symm
theorem Bd.neE (h : Bd w1 b1 bc mk true va s wr ms vm es ve) : some bc ≠ ve.ownBlock := fun e => row_ne_own h.cb (h.eo rfl) (by decide) e.symm
/-- An edge is appended. -/
theorem Bd.edge {x : Ed} (h : Bd w1 b1 bc mk true va s wr ms vm es ve) (hg : wr.grownBy w2 ve.ownBlock) (ho : OwnE w2 b1 ve' (es ++ [x])) :
    Bd w1 b1 bc mk true va s (w2.setCell ⟨bc, 3, none⟩ ve') ms vm (es ++ [x]) ve' := by
  have g2 := h.h2
  have g1 := h.h1
  have hne := h.neE
  have he := h.eo rfl
  refine ⟨h.bel.trans (((Below.refl b1 wr).grown hg (by omega) (fun k hk => (he.lt k hk).1)).setCell (p := ⟨bc, 3, none⟩) h.h1 _), ?_, fun e => ?_, fun _ => ?_, h.h1⟩
  · exact (h.cb.grown hg (fun e => hne e.symm)).set 3 ve'
  · have h3 := own_row (h.mo e) hg (owns_ne (h.mo e) he (by decide))
    exact ownsRow_setCell_other h3 (a := ⟨bc, 3, none⟩) (row_ne_own (h.cb.grown hg (fun e => hne e.symm)) h3 (by decide)) ve'
  · exact ownsRow_setCell_other ho (a := ⟨bc, 3, none⟩) (row_ne_own (h.cb.grown hg (fun e => hne e.symm)) ho (by decide)) ve'
/-- A number is appended to the marked states. -/
theorem Bd.mark {x : Int} (h : Bd w1 b1 bc true ke va s wr ms vm es ve) (hg : wr.grownBy w2 vm.ownBlock) (ho : Own w2 b1 vm' (ms ++ [x])) :
    Bd w1 b1 bc true ke va s (w2.setCell ⟨bc, 2, none⟩ vm') (ms ++ [x]) vm' es ve := by
  have g2 := h.h2
  have g1 := h.h1
  have hne := h.neM
  have hm := h.mo rfl
  refine ⟨h.bel.trans (((Below.refl b1 wr).grown hg (by omega) (fun k hk => (hm.lt k hk).1)).setCell (p := ⟨bc, 2, none⟩) h.h1 _), ?_, fun e => ?_, fun e => ?_, h.h1⟩
  · exact (h.cb.grown hg (fun e => hne e.symm)).set 2 vm'
  · exact ownsRow_setCell_other ho (a := ⟨bc, 2, none⟩) (row_ne_own (h.cb.grown hg (fun e => hne e.symm)) ho (by decide)) vm'
  · have h3 := own_row (h.eo e) hg (owns_ne (h.eo e) hm (by decide))
    exact ownsRow_setCell_other h3 (a := ⟨bc, 2, none⟩) (row_ne_own (h.cb.grown hg (fun e => hne e.symm)) h3 (by decide)) vm'
/-- The number of the states is stored. -/
theorem Bd.state (h : Bd w1 b1 bc mk ke va s wr ms vm es ve) (s' : Int) : Bd w1 b1 bc mk ke va s' (wr.setCell ⟨bc, 1, none⟩ (.int .i64 s')) ms vm es ve := by
  refine ⟨h.bel.setCell (p := ⟨bc, 1, none⟩) h.h1 _, h.cb.set 1 _, fun e => ownsRow_setCell_other (h.mo e) (a := ⟨bc, 1, none⟩) (row_ne_own h.cb (h.mo e) (by decide)) _, fun e => ownsRow_setCell_other (h.eo e) (a := ⟨bc, 1, none⟩) (row_ne_own h.cb (h.eo e) (by decide)) _, h.h1⟩
end
end Go.Proofs.Ytcciiikaejjooaa
