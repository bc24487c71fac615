/- Layer 7, the reference: what the loops of Project keep. -/
import Derived.Test.YtaadhpkpekmfoaaGreatZa11
import Derived.Test.YtaadhpkpekmfoaaGreatZa16
import Derived.Test.YtaadhpkpekmfoaaGreatZa8
import Derived.Test.YtaadhpkpekmfoaaGreatZa3
set_option linter.unusedVariables false
set_option linter.unusedSimpArgs false
set_option linter.unusedSectionVars false
namespace Go.Proofs.YtaadhpkpekmfoaaGreat
open Go.RowKit Go.Sort Go.Maps

theorem own_pokeS {w : World} {base n sz bc j : Nat} {e : TypeId} {v u : Value} {xs cs : List Value} (h : w.ownsRow base e sz v n xs) (hb : Row w bc 33 cs) (he : 33 ≠ e) : (w.setCell ⟨bc, j, none⟩ u).ownsRow base e sz v n xs :=
  ownsRow_setCell_other h (row_ne_own hb h he) u
theorem Row.grS {w w' : World} {g : Nat} {e : TypeId} {cs : List Value} {row : Option Nat} (h : Row w g e cs) (hg : w.grownBy w' row) (hne : some g ≠ row) : Row w' g e cs := (hg.block g h.lt hne).trans h
/-- What the loops keep: the automaton's box, its edges and marked states, the estimates. -/
structure RS (w wr : World) (bc : Nat) (va ve : Value) (es : List Ed) (vm : Value) (ms : List Int) (vt : Value) (hs : List Hd) : Prop where
  bel : Below w.heap.size w wr
  bx : Row wr bc 33 [va, .int .i64 0, vm, ve]
  hb : w.heap.size ≤ bc
  eo : OwnE wr w.heap.size ve es
  gl : GL wr w.heap.size vt hs vm ms
section
variable {w wr w0 w1 w' : World} {bc n : Nat} {va ve ve' vm vm' vt vt' : Value} {ms : List Int} {es : List Ed} {hs : List Hd}
theorem RS.call (h : RS w wr bc va ve es vm ms vt hs) (hb : Below wr.heap.size wr w') : RS w w' bc va ve es vm ms vt hs :=
  ⟨h.bel.trans (hb.mono h.bel.size), h.bx.below hb h.bx.lt, h.hb, own_below h.eo hb, h.gl.below hb⟩
theorem RS.alloc (h : RS w wr bc va ve es vm ms vt hs) (o : Obj) : RS w (wr.alloc o) bc va ve es vm ms vt hs := h.call ((Below.refl _ wr).alloc (Nat.le_refl _) o)
theorem RS.drew (h : RS w wr bc va ve es vm ms vt hs) : RS w wr.drew bc va ve es vm ms vt hs := h.call (Below.refl _ _).drew
theorem RS.drewN (h : RS w wr bc va ve es vm ms vt hs) (q : Nat) : RS w (wr.drewN q) bc va ve es vm ms vt hs := h.call (below_drewN (Below.refl _ _) q)
theorem RS.belG {row : Option Nat} {w2 w3 : World} (hb : Below w.heap.size w w2) (hg : w2.grownBy w3 row) (hr : ∀ k, row = some k → w.heap.size ≤ k) : Below w.heap.size w w3 :=
  ⟨hg.os.trans hb.os, hg.tape.trans hb.tape, hg.output.trans hb.output, Nat.le_trans hb.size hg.size, fun k hk => (hg.block k (Nat.lt_of_lt_of_le hk hb.size) (fun e => by have := hr k e.symm; omega)).trans (hb.block k hk)⟩
/-- An estimate in new memory is appended. -/
theorem RS.word {x : Hd} (h : RS w wr bc va ve es vm ms vt hs) (hb : Below wr.heap.size wr w0) (hx : Own w0 wr.heap.size x.enc x.z)
    (hr : w1.ownsRow w.heap.size 27 1 vt' n (hs.map Hd.enc ++ [x.enc])) (hn : n = hs.length + 1) (hg : w0.grownBy w1 vt.ownBlock) : RS w w1 bc va ve es vm ms vt' (hs ++ [x]) := by
  have h0 := h.call hb
  exact ⟨RS.belG h0.bel hg (fun k e => (h0.gl.row.lt k e).1), h0.bx.grS hg (fun e => row_ne_own h0.bx h0.gl.row (by decide) e.symm), h.hb,
    own_row h0.eo hg (owns_ne h0.eo h0.gl.row (by decide)), h.gl.word hb hx h.bel.size hr hn hg⟩
/-- A marked state is appended. -/
theorem RS.mark {o : Obj} {x : Int} (h : RS w wr bc va ve es vm ms vt hs) (ho : Own w1 w.heap.size vm' (ms ++ [x])) (hg : (wr.alloc o).grownBy w1 vm.ownBlock) (hs' : ∀ j, vm'.ownBlock = some j → vm.ownBlock = some j ∨ wr.heap.size ≤ j) :
    RS w (w1.setCell ⟨bc, 2, none⟩ vm') bc va ve es vm' (ms ++ [x]) vt hs := by
  have h0 := h.alloc o
  have hbx : Row w1 bc 33 [va, .int .i64 0, vm, ve] := h0.bx.grS hg (fun e => row_ne_own h0.bx h0.gl.ends (by decide) e.symm)
  have gl1 : GL w1 w.heap.size vt hs vm' (ms ++ [x]) := by
    refine ⟨own_row h0.gl.row hg (owns_ne h0.gl.row h0.gl.ends (by decide)), fun y hy => own_row (h0.gl.own y hy) hg (h0.gl.ne y hy), ho, fun y hy => ?_⟩
    by_cases he : y.enc.ownBlock = none
    · exact .inl he
    · refine .inr fun e => ?_
      obtain ⟨j, hj⟩ := Option.ne_none_iff_exists'.1 he
      have h1 := ((h.gl.own y hy).lt j hj).2
      rcases hs' j (by rw [← e, hj]) with h2 | h2
      · rcases h.gl.ne y hy with h3 | h3
        · exact he h3
        · exact h3 (by rw [hj, h2])
      · omega
  have e1 : OwnE w1 w.heap.size ve es := own_row h0.eo hg (owns_ne h0.eo h0.gl.ends (by decide))
  exact ⟨Below.setCell (p := ⟨bc, 2, none⟩) (RS.belG h0.bel hg (fun k e => (h0.gl.ends.lt k e).1)) h.hb _, hbx.set 2 _, h.hb, own_pokeS e1 hbx (by decide),
    ⟨own_pokeS gl1.row hbx (by decide), fun y hy => own_pokeS (gl1.own y hy) hbx (by decide), own_pokeS gl1.ends hbx (by decide), gl1.ne⟩⟩
/-- An edge is appended. -/
theorem RS.edge {o : Obj} {x : Ed} (h : RS w wr bc va ve es vm ms vt hs) (ho : OwnE w1 w.heap.size ve' (es ++ [x])) (hg : (wr.alloc o).grownBy w1 ve.ownBlock) :
    RS w (w1.setCell ⟨bc, 3, none⟩ ve') bc va ve' (es ++ [x]) vm ms vt hs := by
  have h0 := h.alloc o
  have hbx : Row w1 bc 33 [va, .int .i64 0, vm, ve] := h0.bx.grS hg (fun e => row_ne_own h0.bx h0.eo (by decide) e.symm)
  have gl1 : GL w1 w.heap.size vt hs vm ms :=
    ⟨own_row h0.gl.row hg (owns_ne h0.gl.row h0.eo (by decide)), fun y hy => own_row (h0.gl.own y hy) hg (owns_ne (h0.gl.own y hy) h0.eo (by decide)), own_row h0.gl.ends hg (owns_ne h0.gl.ends h0.eo (by decide)), h0.gl.ne⟩
  exact ⟨Below.setCell (p := ⟨bc, 3, none⟩) (RS.belG h0.bel hg (fun k e => (h0.eo.lt k e).1)) h.hb _, hbx.set 3 _, h.hb, own_pokeS ho hbx (by decide),
    ⟨own_pokeS gl1.row hbx (by decide), fun y hy => own_pokeS (gl1.own y hy) hbx (by decide), own_pokeS gl1.ends hbx (by decide), gl1.ne⟩⟩
theorem RS.start (w : World) (va : Value) : RS w (w.alloc (.cells #[va, .int .i64 0, .slice none 0 0, .slice none 0 0] 33)) w.heap.size va (.slice none 0 0) [] (.slice none 0 0) [] (.slice none 0 0) [] :=
  ⟨(Below.refl _ w).alloc (Nat.le_refl _) _, Row.new w [va, .int .i64 0, .slice none 0 0, .slice none 0 0] 33, Nat.le_refl _, World.ownsRow_nil _ _ _ _,
    ⟨World.ownsRow_nil _ _ _ _, (fun y hy => by cases hy), World.ownsRow_nil _ _ _ _, (fun y hy => by cases hy)⟩⟩
/-- The list of the estimates, as a reader sees it. -/
theorem RS.rd {A : Option Addr} {N c : Nat} (h : RS w wr bc va ve es vm ms (.slice A N c) hs) : RdL wr wr.heap.size A hs := fun h0 => by
  obtain ⟨g, cap, e, h1, h2, h3⟩ := h.gl.len rfl h0
  injection e with e1 e2 e3
  subst e1
  refine ⟨g, 0, rfl, (h.gl.row.lt g rfl).2, fun j x hx => ?_⟩
  obtain ⟨r1, r2, r3⟩ := h.gl.word_rd hx
  exact ⟨by rw [Nat.zero_add]; exact h3 j x hx, r1, r2, r3⟩
end
/-- What the reference's Project hands back. -/
def ProR (a : Au) (onto : List Int) (w w' : World) (e : Ending) : Prop :=
  ∃ (A1 : Option Addr) (n1 c1 : Nat) (s1 : Int) (M1 : Option Addr) (m1 d1 : Nat) (E1 : Option Addr) (k1 g1 : Nat) (V : Option Addr) (nV cV : Nat) (hs : List Hd),
    e = .returned (.tuple #[.agg #[.slice A1 n1 c1, .int .i64 s1, .slice M1 m1 d1, .slice E1 k1 g1], .slice V nV cV]) ∧ AuR w' w'.heap.size A1 n1 c1 s1 M1 m1 d1 E1 k1 g1 (canA (detA a onto)) ∧ RdL w' w'.heap.size V hs ∧ hs.length = nV ∧ hs.map Hd.z = (fnd (detA a onto)).map (deR a onto) ∧ Below w.heap.size w w'
theorem canMn_lt (a : Au) (j : Nat) : (j : Int) ∉ canMn a j := fun h => by
  unfold canMn at h
  simp at h
  obtain ⟨x, ⟨hx, _⟩, he⟩ := h
  omega
/-- Which states mark an estimate. -/
def mkS (zx mr : List Int) (j : Nat) (k : Nat) : List Int := if (mr.take k).any (fun x => decide (x ∈ zx)) then [(j : Int)] else []
theorem mkS_zero (zx mr : List Int) (j : Nat) : mkS zx mr j 0 = [] := by simp [mkS]
theorem any_comm (zx mr : List Int) : mr.any (fun x => decide (x ∈ zx)) = zx.any (fun x => decide (x ∈ mr)) := by
  rw [Bool.eq_iff_iff, List.any_eq_true, List.any_eq_true]
  constructor
  · rintro ⟨x, h1, h2⟩; exact ⟨x, by simpa using h2, by simpa using h1⟩
  · rintro ⟨x, h1, h2⟩; exact ⟨x, by simpa using h2, by simpa using h1⟩
theorem mkS_snoc {zx mr : List Int} {j k : Nat} (hk : k < mr.length) : mkS zx mr j (k + 1) = if (mr.take k).any (fun x => decide (x ∈ zx)) = true ∨ mr.getD k 0 ∈ zx then [(j : Int)] else [] := by
  unfold mkS
  rw [List.take_succ_eq_append_getElem hk, List.any_append]
  have e : mr[k] = mr.getD k 0 := by simp [List.getD, List.getElem?_eq_getElem hk]
  rw [e]
  simp
end Go.Proofs.YtaadhpkpekmfoaaGreat
