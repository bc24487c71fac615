/- What the recursion of Shuffles leaves, and how two calls of it join. -/
import Derived.Test.YtdccmebkoibkhaaShRow
namespace Go.Proofs.Ytdccmebkoibkhaa
open Go.RowKit

/-- Behind a call that appends the clones of these words to the captured list. -/
structure GP (base ba : Nat) (v : Value) (L : List (List Int)) (xs : List Value) (hs : List Hd) (vA : Value) (w w' : World) : Prop where
  cell : w'.cell? ⟨ba, 0, none⟩ = some vA
  frz : w'.frozen? ⟨ba, 0, none⟩ = false
  row : w'.ownsRow base 22 1 vA (xs.length + hs.length) (xs ++ hs.map Hd.enc)
  words : hs.map (·.z) = L
  own : ∀ h ∈ hs, Own w' base h.enc h.z ∧ ∀ k, h.enc.ownBlock = some k → w.heap.size ≤ k
  fr : Fr base ba v w w'
theorem GP.onto {base ba n m : Nat} {v v1 vA : Value} {L : List (List Int)} {xs ys : List Value} {hs : List Hd} {w w1 w2 : World} (h : GP base ba v1 L xs hs vA w1 w2) (f : Fr base ba v w w1) (ho : Onto w v v1 n) (h1 : w1.ownsRow base 3 1 v1 m ys) : GP base ba v L xs hs vA w w2 :=
  ⟨h.cell, h.frz, h.row, h.words, fun x hx => ⟨(h.own x hx).1, fun k hk => Nat.le_trans f.size ((h.own x hx).2 k hk)⟩, f.onto h.fr ho h1⟩
theorem GP.join {base ba n : Nat} {v vA1 vA2 : Value} {L1 L2 : List (List Int)} {xs zs : List Value} {h1 h2 : List Hd} {w w2 w4 : World} (p : GP base ba v L1 xs h1 vA1 w w2) (q : GP base ba v L2 (xs ++ h1.map Hd.enc) h2 vA2 w2 w4) (hv : w.ownsRow base 3 1 v n zs) : GP base ba v (L1 ++ L2) xs (h1 ++ h2) vA2 w w4 := by
  refine ⟨q.cell, q.frz, ?_, by rw [List.map_append, p.words, q.words], fun x hx => ?_, p.fr.trans q.fr⟩
  · have := q.row
    simp only [List.length_append, List.length_map, List.append_assoc, Nat.add_assoc] at this
    simpa only [List.map_append, List.length_append] using this
  · rcases List.mem_append.1 hx with hx | hx
    · obtain ⟨a, b⟩ := p.own x hx
      refine ⟨q.fr.rows _ _ _ a ?_, b⟩
      cases hk : x.enc.ownBlock with
      | none => exact .inl rfl
      | some k =>
        refine .inr fun e => ?_
        have h3 := b k hk
        have h4 := (hv.lt k e.symm).2
        omega
    · obtain ⟨a, b⟩ := q.own x hx
      exact ⟨a, fun k hk => Nat.le_trans p.fr.size (b k hk)⟩
/-- The leaf: a clone, appended. -/
theorem GP.leaf {base ba g cap : Nat} {v va u : Value} {xs : List Value} {zs : List Int} {Ac : Option Addr} {cc : Nat} {w w0 w1 w2 : World} (hb1 : Below w.heap.size w w1) (hoc : Own w1 w.heap.size (.slice Ac zs.length cc) zs) (hB : base ≤ w.heap.size)
    (hxs : w1.ownsRow base 22 1 va xs.length xs) (hba : ba < base) (h0 : Below w1.heap.size w1 w0) (hg : w0.grownBy w2 va.ownBlock) (hrow : w2.ownsRow base 22 1 (.slice (some ⟨g, 0, none⟩) (xs.length + 1) cap) (xs.length + 1) (xs ++ [.slice Ac zs.length cc]))
    (hc : w2.cell? ⟨ba, 0, none⟩ = some u) (hf : w2.frozen? ⟨ba, 0, none⟩ = false) :
    GP base ba v [zs] xs [⟨Ac, cc, zs⟩] (.slice (some ⟨g, 0, none⟩) (xs.length + 1) cap) w (w2.setCell ⟨ba, 0, none⟩ (.slice (some ⟨g, 0, none⟩) (xs.length + 1) cap)) := by
  have hs1 := hb1.size
  have hxs0 : w0.ownsRow base 22 1 va xs.length xs := hxs.kept (row := none) ⟨h0.os, h0.tape, h0.output, h0.size, fun i hi _ => h0.block i hi⟩ (Classical.em _)
  have hoc0 : Own w0 w.heap.size (.slice Ac zs.length cc) zs := own_kept hoc h0
  have hoc2 : Own w2 w.heap.size (.slice Ac zs.length cc) zs := World.ownsRow.kept hoc0 hg (own_types hxs0 hoc0 (by decide))
  have f0 : Fr base ba v w1 w0 := Fr.of_below h0 (by omega)
  have f1 : Fr base ba v w0 w2 := Fr.of_grown hxs0 (by decide) hg (Nat.le_trans hB (Nat.le_trans hs1 h0.size))
  refine ⟨World.cell?_setCell_same _ _ _ hc, by rw [World.frozen?_setCell]; exact hf, by simpa [Hd.enc] using ownsRow_setCell_below hrow hba _, rfl, fun x hx => ?_, (((Fr.of_below hb1 hB).trans f0).trans f1).trans (Fr.of_store hba _)⟩
  rw [List.mem_singleton] at hx
  subst hx
  exact ⟨ownsRow_setCell_below (own_base hoc2 hB) hba _, fun k hk => (hoc2.lt k hk).1⟩
end Go.Proofs.Ytdccmebkoibkhaa
