/- Layer 3: the reference's Canonical in a law's walk. -/
import Derived.Test.YtcciiikaejjooaaaLw
import Derived.Test.YtcciiikaejjooaaaRCan
namespace Go.Proofs.Ytcciiikaejjooaa
open Go.RowKit Go.Sort

theorem lw_aut {f : FuncId} {args : Array Value} {x : Au} {w W : World} {l : List (Nat × List Value)} (hc : Calls Try.prog f args w fun e w' => ∃ v, e = .returned v ∧ AuF x v w' w.heap.size ∧ Below w.heap.size w w') (h : LW W l w) : Calls Try.prog f args w fun e w' => ∃ A n c s M m d E k g, e = .returned (.agg #[.slice A n c, .int .i64 s, .slice M m d, .slice E k g]) ∧ AuR w' w'.heap.size A n c s M m d E k g x ∧ LW W l w' :=
  hc.mono fun e w' hh => by
    obtain ⟨v, e1, ⟨A, n, c, s, M, m, d, E, k, g, rfl, hr, _⟩, hb⟩ := hh
    exact ⟨A, n, c, s, M, m, d, E, k, g, e1, hr, h.call hb⟩
theorem isC_can {a : Au} (h : chkE a = 0) : isC (canA a) = true := by
  rw [isC, chk_can h, can_can (right_of h).toRightW]; simp
theorem isC_right {a : Au} (h : chkE a = 0) : isC a = decide (a = canA a) := by rw [isC, h]; simp
/-- What a region of many calls keeps. -/
structure GW (W w0 : World) (l : List (Nat × List Value)) (w : World) : Prop where
  lw : LW W l w
  bel : Below w0.heap.size w0 w
section
variable {W w0 w w' : World} {l : List (Nat × List Value)}
theorem GW.call (h : GW W w0 l w) (hb : Below w.heap.size w w') : GW W w0 l w' := ⟨h.lw.call hb, h.bel.trans (hb.mono h.bel.size)⟩
theorem GW.drew (h : GW W w0 l w) : GW W w0 l w.drew := ⟨h.lw.drew, h.bel.drew⟩
theorem GW.aut (h : GW W w0 l w) {a : Au} (A : Option Addr) (n c : Nat) (s : Int) (M : Option Addr) (m d : Nat) (E : Option Addr) (k g : Nat) (ha : AuR w0 w0.heap.size A n c s M m d E k g a) : AuR w w.heap.size A n c s M m d E k g a := (ha.below h.bel (Nat.le_refl _)).more h.bel.size
theorem GW.ints (h : GW W w0 l w) {A : Option Addr} {zs : List Int} (ha : RdI w0 w0.heap.size A zs) : RdI w w.heap.size A zs := (ha.below h.bel (Nat.le_refl _)).more h.bel.size
theorem gw_call {f : FuncId} {args : Array Value} {v : Value} (hc : Calls Try.prog f args w fun e w' => e = .returned v ∧ Below w.heap.size w w') (h : GW W w0 l w) : Calls Try.prog f args w fun e w' => e = .returned v ∧ GW W w0 l w' :=
  hc.mono fun e w' hh => ⟨hh.1, h.call hh.2⟩
theorem gw_same {a b : Au} (A : Option Addr) (n c : Nat) (s : Int) (M : Option Addr) (m d : Nat) (E : Option Addr) (k g : Nat) (A2 : Option Addr) (n2 c2 : Nat) (s2 : Int) (M2 : Option Addr) (m2 d2 : Nat) (E2 : Option Addr) (k2 g2 : Nat) {r : Bool} (h : GW W w0 l w) (ha : AuR w0 w0.heap.size A n c s M m d E k g a) (hb : AuR w0 w0.heap.size A2 n2 c2 s2 M2 m2 d2 E2 k2 g2 b) (hr : decide (a = b) = r) : Calls Try.prog 30 #[.agg #[.slice A n c, .int .i64 s, .slice M m d, .slice E k g], .agg #[.slice A2 n2 c2, .int .i64 s2, .slice M2 m2 d2, .slice E2 k2 g2]] w fun e w' => e = .returned (.bool r) ∧ GW W w0 l w' := by
  have := gw_call (rSame_any A n c s M m d E k g A2 n2 c2 s2 M2 m2 d2 E2 k2 g2 a b w.heap.size w (h.aut A n c s M m d E k g ha) (h.aut A2 n2 c2 s2 M2 m2 d2 E2 k2 g2 hb) (Nat.le_refl _)) h
  rwa [hr] at this
theorem gw_isC {a : Au} (A : Option Addr) (n c : Nat) (s : Int) (M : Option Addr) (m d : Nat) (E : Option Addr) (k g : Nat) {r : Bool} (h : GW W w0 l w) (ha : AuR w0 w0.heap.size A n c s M m d E k g a) (hr : isC a = r) : Calls Try.prog 28 #[.agg #[.slice A n c, .int .i64 s, .slice M m d, .slice E k g]] w fun e w' => e = .returned (.bool r) ∧ GW W w0 l w' := by
  have := gw_call (mIsCanonical_any A n c s M m d E k g a w (h.aut A n c s M m d E k g ha)) h
  rwa [hr] at this
end
end Go.Proofs.Ytcciiikaejjooaa
