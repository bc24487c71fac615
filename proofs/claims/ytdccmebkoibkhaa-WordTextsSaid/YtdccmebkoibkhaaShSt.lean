/- The state in which the function value of Shuffles is called, and how it is carried. -/
import Derived.Test.YtdccmebkoibkhaaShGrow
import Derived.Test.YtdccmebkoibkhaaWmerge
namespace Go.Proofs.Ytdccmebkoibkhaa
open Go.RowKit

theorem sl_grow {w w' : World} {B : Nat} {v : Value} {l : List Int} (h : Sl w B v l) (hk : ∀ b o, b < B → w'.cell? ⟨b, o, none⟩ = w.cell? ⟨b, o, none⟩) : Sl w' B v l := by
  obtain ⟨A, c, e, hr, h1, h2⟩ := h
  exact ⟨A, c, e, hr.keep hk, h1, h2⟩

/-- The captured list, the captured function, the two words that are left. -/
structure St (B0 base ba bg : Nat) (va vb vA : Value) (a b : List Int) (xs : List Value) (w : World) : Prop where
  fst : Sl w B0 va a
  snd : Sl w B0 vb b
  cell : w.cell? ⟨ba, 0, none⟩ = some vA
  frz : w.frozen? ⟨ba, 0, none⟩ = false
  row : w.ownsRow base 22 1 vA xs.length xs
  self : w.cell? ⟨bg, 0, none⟩ = some (.func (.func 51) #[] #[.pointer (some ⟨ba, 0, none⟩), .pointer (some ⟨bg, 0, none⟩)])
  size : base ≤ w.heap.size
theorem St.below {B0 base ba bg : Nat} {va vb vA : Value} {a b : List Int} {xs : List Value} {w w' : World} (h : St B0 base ba bg va vb vA a b xs w) (hb : Below w.heap.size w w') (h0 : B0 ≤ ba) (h1 : ba < base) (h2 : bg < base) : St B0 base ba bg va vb vA a b xs w' := by
  have hs := h.size
  exact ⟨sl_grow h.fst fun b o hb' => hb.cell (by show b < _; omega), sl_grow h.snd fun b o hb' => hb.cell (by show b < _; omega), (hb.cell (by show ba < _; omega)).trans h.cell, (hb.frozen (by show ba < _; omega)).trans h.frz, own_below h.row hb, (hb.cell (by show bg < _; omega)).trans h.self, Nat.le_trans hs hb.size⟩
theorem St.app {B0 base ba bg n : Nat} {v va vb vA : Value} {a b : List Int} {xs zs : List Value} {w w' : World} (h : St B0 base ba bg va vb vA a b xs w) (ho : w.ownsRow base 3 1 v n zs) (hg : w.grownBy w' v.ownBlock) (h0 : B0 ≤ ba) (h1 : ba < base) (h2 : bg < base) : St B0 base ba bg va vb vA a b xs w' := by
  have hs := h.size
  have hk : ∀ k, k < base → w'.heap[k]? = w.heap[k]? := fun k hk => hg.block k (by omega) (fun e => by have := (ho.lt k e.symm).1; omega)
  exact ⟨sl_grow h.fst fun b o hb' => World.cell?_of_block (hk b (by omega)), sl_grow h.snd fun b o hb' => World.cell?_of_block (hk b (by omega)), (World.cell?_of_block (hk ba h1)).trans h.cell, (World.frozen?_of_block (hk ba h1)).trans h.frz, h.row.kept hg (own_types ho h.row (by decide)), (World.cell?_of_block (hk bg h2)).trans h.self, Nat.le_trans hs hg.size⟩
theorem St.next {B0 base ba bg : Nat} {v va vb vA vA' : Value} {a b : List Int} {L : List (List Int)} {xs : List Value} {hs : List Hd} {w w' : World} (h : St B0 base ba bg va vb vA a b xs w) (p : GP base ba v L xs hs vA' w w') (h0 : B0 ≤ ba) (h1 : ba < base) (h2 : bg < base) (hne : bg ≠ ba) : St B0 base ba bg va vb vA' a b (xs ++ hs.map Hd.enc) w' := by
  exact ⟨sl_grow h.fst fun b o hb' => p.fr.cell (by omega) (by omega), sl_grow h.snd fun b o hb' => p.fr.cell (by omega) (by omega), p.cell, p.frz, by simpa using p.row, (p.fr.cell h2 hne).trans h.self, Nat.le_trans h.size p.fr.size⟩

/-- The contract at two words of N events together. -/
def GrowAt (B0 base ba bg N : Nat) : Prop := ∀ (v va vb vA : Value) (zs a b : List Int) (xs : List Value) (w : World), a.length + b.length = N → Own w base v zs → St B0 base ba bg va vb vA a b xs w → zs.length + N ≤ 4096 → xs.length + 2 ^ N ≤ 100000 →
  Calls Try.prog 51 #[v, va, vb, .pointer (some ⟨ba, 0, none⟩), .pointer (some ⟨bg, 0, none⟩)] w (Gp base ba v (shufL zs a b) xs w)

/-- Behind an append of an event: the state, the longer row, the frame. -/
structure Apd (B0 base ba bg : Nat) (va vb vA v v1 : Value) (a b zs : List Int) (x : Int) (xs : List Value) (w w1 : World) : Prop where
  st : St B0 base ba bg va vb vA a b xs w1
  own : Own w1 base v1 (zs ++ [x])
  fr : Fr base ba v w w1
  onto : Onto w v v1 zs.length
theorem apd_of {B0 base ba bg g cap : Nat} {va vb vA v : Value} {a b zs : List Int} {x : Int} {xs : List Value} {w w0 w1 : World} (h : St B0 base ba bg va vb vA a b xs w) (ho : Own w base v zs) (hb : Below w.heap.size w w0)
    (h1 : w1.ownsRow base 3 1 (.slice (some ⟨g, 0, none⟩) (zs.length + 1) cap) (zs.length + 1) (zs.map (Value.int .i64) ++ [.int .i64 x])) (hg : w0.grownBy w1 v.ownBlock) (hk : w1.ownsRow base 3 1 v zs.length (zs.map (Value.int .i64)))
    (hat : v = .slice (some ⟨g, 0, none⟩) zs.length cap ∨ (w0.heap.size ≤ g ∧ w0.grownBy w1 none)) (b0 : B0 ≤ ba) (b1 : ba < base) (b2 : bg < base) :
    Apd B0 base ba bg va vb vA v (.slice (some ⟨g, 0, none⟩) (zs.length + 1) cap) a b zs x xs w w1 := by
  have ho0 : Own w0 base v zs := own_below ho hb
  have hs := h.size
  refine ⟨(h.below hb b0 b1 b2).app ho0 hg b0 b1 b2, by simpa [Own] using h1, (Fr.of_below hb hs).trans (Fr.of_app ho0 hg hk (Nat.le_trans hs hb.size)), ?_⟩
  refine onto_of (w' := w1) ?_
  rcases hat with e | ⟨e, f⟩
  · exact .inl e
  · have h2 := hb.size
    exact .inr ⟨by omega, ⟨f.os.trans hb.os, f.tape.trans hb.tape, f.output.trans hb.output, by have := f.size; omega, fun k hk _ => (f.block k (by omega) (by simp)).trans (hb.block k hk)⟩⟩
end Go.Proofs.Ytdccmebkoibkhaa
