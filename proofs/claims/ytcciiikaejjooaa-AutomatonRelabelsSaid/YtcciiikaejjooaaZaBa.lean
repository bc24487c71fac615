/- Layer 3: an automaton that is being built in a box, its alphabet too. -/
import Derived.Test.YtcciiikaejjooaaZa5
namespace Go.Proofs.Ytcciiikaejjooaa
open Go.RowKit Go.Sort

/-- An automaton that is being built in box bc: below block b1 all is as it was; its alphabet and its edges lie in rows of its own. -/
structure Ba (w1 : World) (b1 bc : Nat) (s : Int) (vm : Value) (wr : World) (al : List Int) (va : Value) (es : List Ed) (ve : Value) : Prop where
  bel : Below b1 w1 wr
  cb : Row wr bc 25 [va, .int .i64 s, vm, ve]
  ao : Own wr b1 va al
  eo : OwnE wr b1 ve es
  h1 : b1 ≤ bc
section
variable {w1 wr w2 : World} {b1 bc : Nat} {va vm ve va' ve' : Value} {s : Int} {al : List Int} {es : List Ed}
theorem Ba.h2 (h : Ba w1 b1 bc s vm wr al va es ve) : bc < wr.heap.size := h.cb.lt
theorem Ba.call (h : Ba w1 b1 bc s vm wr al va es ve) (hb : Below wr.heap.size wr w2) : Ba w1 b1 bc s vm w2 al va es ve :=
  ⟨h.bel.trans (hb.mono (Nat.le_of_lt (Nat.lt_of_le_of_lt h.h1 h.h2))), h.cb.below hb h.h2, own_below h.ao hb, own_below h.eo hb, h.h1⟩
theorem Ba.alloc (h : Ba w1 b1 bc s vm wr al va es ve) (o : Obj) : Ba w1 b1 bc s vm (wr.alloc o) al va es ve := h.call ((Below.refl _ wr).alloc (Nat.le_refl _) o)
theorem Ba.drew (h : Ba w1 b1 bc s vm wr al va es ve) : Ba w1 b1 bc s vm wr.drew al va es ve := ⟨h.bel.drew, h.cb, h.ao, h.eo, h.h1⟩
theorem Ba.drewN (h : Ba w1 b1 bc s vm wr al va es ve) (q : Nat) : Ba w1 b1 bc s vm (wr.drewN q) al va es ve := ⟨below_drewN h.bel q, h.cb, h.ao, h.eo, h.h1⟩
theorem Ba.neA (h : Ba w1 b1 bc s vm wr al va es ve) : some bc ≠ va.ownBlock := fun e => row_ne_own h.cb h.ao (by decide) e.symm
theorem Ba.neE (h : Ba w1 b1 bc s vm wr al va es ve) : some bc ≠ ve.ownBlock := fun e => row_ne_own h.cb h.eo (by decide) e.symm
/-- An edge is appended. -/
theorem Ba.edge {x : Ed} (h : Ba w1 b1 bc s vm wr al va es ve) (hg : wr.grownBy w2 ve.ownBlock) (ho : OwnE w2 b1 ve' (es ++ [x])) :
    Ba w1 b1 bc s vm (w2.setCell ⟨bc, 3, none⟩ ve') al va (es ++ [x]) ve' := by
  have g2 := h.h2
  have g1 := h.h1
  have hne := h.neE
  refine ⟨h.bel.trans (((Below.refl b1 wr).grown hg (by omega) (fun k hk => (h.eo.lt k hk).1)).setCell (p := ⟨bc, 3, none⟩) h.h1 _), ?_, ?_, ?_, h.h1⟩
  · exact (h.cb.grown hg (fun e => hne e.symm)).set 3 ve'
  · have h3 := own_row h.ao hg (owns_ne h.ao h.eo (by decide))
    exact ownsRow_setCell_other h3 (a := ⟨bc, 3, none⟩) (row_ne_own (h.cb.grown hg (fun e => hne e.symm)) h3 (by decide)) ve'
  · exact ownsRow_setCell_other ho (a := ⟨bc, 3, none⟩) (row_ne_own (h.cb.grown hg (fun e => hne e.symm)) ho (by decide)) ve'
/-- An event is appended. -/
theorem Ba.event {x : Int} (h : Ba w1 b1 bc s vm wr al va es ve) (hg : wr.grownBy w2 va.ownBlock) (ho : Own w2 b1 va' (al ++ [x])) :
    Ba w1 b1 bc s vm (w2.setCell ⟨bc, 0, none⟩ va') (al ++ [x]) va' es ve := by
  have g2 := h.h2
  have g1 := h.h1
  have hne := h.neA
  refine ⟨h.bel.trans (((Below.refl b1 wr).grown hg (by omega) (fun k hk => (h.ao.lt k hk).1)).setCell (p := ⟨bc, 0, none⟩) h.h1 _), ?_, ?_, ?_, h.h1⟩
  · exact (h.cb.grown hg (fun e => hne e.symm)).set 0 va'
  · exact ownsRow_setCell_other ho (a := ⟨bc, 0, none⟩) (row_ne_own (h.cb.grown hg (fun e => hne e.symm)) ho (by decide)) va'
  · have h3 := own_row h.eo hg (owns_ne h.eo h.ao (by decide))
    exact ownsRow_setCell_other h3 (a := ⟨bc, 0, none⟩) (row_ne_own (h.cb.grown hg (fun e => hne e.symm)) h3 (by decide)) va'
end
/-- The values of a number's append, laid open. -/
theorem int_app {w : World} {b1 l : Nat} {v : Value} {K : List Int} {x : Int} (hl : l = K.length) (hown : w.ownsRow b1 3 1 v (l + 1) (K.map (Value.int .i64) ++ [.int .i64 x])) : ∃ A c, v = .slice A (l + 1) c ∧ Own w b1 v (K ++ [x]) := by
  subst hl
  have h : Own w b1 v (K ++ [x]) := by simpa [Own] using hown
  obtain ⟨A, c, e, _, _, _⟩ := own_rdc h
  exact ⟨A, c, by simpa using e, h⟩
theorem ed_app {w : World} {b1 l : Nat} {v : Value} {K : List Ed} {x : Ed} (hl : l = K.length) (hown : w.ownsRow b1 67 3 v (l + 1) (encE K ++ [.int .i64 x.f, .int .i64 x.e, .int .i64 x.t])) : ∃ A c, v = .slice A (l + 1) c ∧ OwnE w b1 v (K ++ [x]) := by
  subst hl
  have h : OwnE w b1 v (K ++ [x]) := by unfold OwnE; rw [encE_app, List.length_append]; exact hown
  obtain ⟨A, c, e, _, _, _⟩ := ownE_rd h
  exact ⟨A, c, by simpa using e, h⟩
end Go.Proofs.Ytcciiikaejjooaa
