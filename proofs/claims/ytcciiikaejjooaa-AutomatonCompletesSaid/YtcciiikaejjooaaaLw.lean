/- Layer 3: what a law's walk keeps: its arguments' memory, its boxes. -/
import Derived.Test.YtcciiikaejjooaaaBx
import Derived.Test.YtcciiikaejjooaaaRChk
import Derived.Test.YtcciiikaejjooaaaLang
namespace Go.Proofs.Ytcciiikaejjooaa
open Go.RowKit Go.Sort

/-- The memory that came in is as it was; the boxes' cells are known. -/
structure LW (W : World) (l : List (Nat × List Value)) (w : World) : Prop where
  bel : Below W.heap.size W w
  bx : Bxs w l
section
variable {W w w' : World} {l : List (Nat × List Value)}
theorem LW.call (h : LW W l w) (hb : Below w.heap.size w w') : LW W l w' := ⟨h.bel.trans (hb.mono h.bel.size), h.bx.below hb⟩
theorem LW.drew (h : LW W l w) : LW W l w.drew := ⟨h.bel.drew, h.bx.drew⟩
theorem LW.drewN (h : LW W l w) (q : Nat) : LW W l (w.drewN q) := ⟨below_drewN h.bel q, h.bx.drewN q⟩
theorem LW.alloc (h : LW W l w) (o : Obj) : LW W l (w.alloc o) := ⟨h.bel.alloc h.bel.size o, h.bx.alloc o⟩
theorem LW.new (h : LW W l w) (cs : List Value) (t : TypeId) : LW W ((w.heap.size, cs) :: l) (w.alloc (.cells cs.toArray t)) := ⟨h.bel.alloc h.bel.size _, h.bx.new cs t⟩
theorem LW.first (W : World) (cs : List Value) (t : TypeId) : LW W [(W.heap.size, cs)] (W.alloc (.cells cs.toArray t)) := LW.new ⟨Below.refl _ _, Bxs.nil _⟩ cs t
theorem LW.start (W : World) : LW W [] W := ⟨Below.refl _ _, Bxs.nil _⟩
theorem LW.tail {x : Nat × List Value} (h : LW W (x :: l) w) : LW W l w := ⟨h.bel, h.bx.tail⟩
theorem LW.aut (h : LW W l w) {a : Au} (A : Option Addr) (n c : Nat) (s : Int) (M : Option Addr) (m d : Nat) (E : Option Addr) (k g : Nat) (ha : AuR W W.heap.size A n c s M m d E k g a) : AuR w w.heap.size A n c s M m d E k g a := (ha.below h.bel (Nat.le_refl _)).more h.bel.size
theorem LW.ints (h : LW W l w) {A : Option Addr} {zs : List Int} (ha : RdI W W.heap.size A zs) : RdI w w.heap.size A zs := (ha.below h.bel (Nat.le_refl _)).more h.bel.size
/-- What reads in a world of the way reads on. -/
theorem LW.aut' {w1 : World} {l1 : List (Nat × List Value)} (h : LW w1 l1 w) {a : Au} (A : Option Addr) (n c : Nat) (s : Int) (M : Option Addr) (m d : Nat) (E : Option Addr) (k g : Nat) (ha : AuR w1 w1.heap.size A n c s M m d E k g a) : AuR w w.heap.size A n c s M m d E k g a := (ha.below h.bel (Nat.le_refl _)).more h.bel.size
theorem lw_call {f : FuncId} {args : Array Value} {v : Value} (hc : Calls Try.prog f args w fun e w' => e = .returned v ∧ Below w.heap.size w w') (h : LW W l w) : Calls Try.prog f args w fun e w' => e = .returned v ∧ LW W l w' :=
  hc.mono fun e w' hh => ⟨hh.1, h.call hh.2⟩
theorem lw_pure {f : FuncId} {args : Array Value} {v : Value} (hc : Calls Try.prog f args w fun e w' => e = .returned v ∧ w = w') (h : LW W l w) : Calls Try.prog f args w fun e w' => e = .returned v ∧ LW W l w' :=
  hc.mono fun e w' hh => ⟨hh.1, hh.2 ▸ h⟩
/-- An automaton in new memory: where it lies, and that it reads. -/
theorem lw_gives {f : FuncId} {args : Array Value} {r : Au × Int} (hc : Calls Try.prog f args w fun e w' => GivesA w r e w') (h : LW W l w) : Calls Try.prog f args w fun e w' => ∃ A n c s M m d E k g, e = .returned (.tuple #[.agg #[.slice A n c, .int .i64 s, .slice M m d, .slice E k g], .int .i64 r.2]) ∧ AuR w' w'.heap.size A n c s M m d E k g r.1 ∧ LW W l w' :=
  hc.mono fun e w' hh => by
    obtain ⟨v, e1, ⟨A, n, c, s, M, m, d, E, k, g, rfl, hr, _⟩, hb⟩ := hh
    exact ⟨A, n, c, s, M, m, d, E, k, g, e1, hr, h.call hb⟩
theorem lw_wds {f : FuncId} {args : Array Value} {r : List (List Int) × Int} (hc : Calls Try.prog f args w fun e w' => WdsR r e w' ∧ Below w.heap.size w w') (h : LW W l w) : Calls Try.prog f args w fun e w' => WdsR r e w' ∧ LW W l w' :=
  hc.mono fun e w' hh => ⟨hh.1, h.call hh.2⟩
theorem lw_zero {f : FuncId} {args : Array Value} {u : Int} (hc : Calls Try.prog f args w fun e w' => GivesA w (zeroA, u) e w') (h : LW W l w) : Calls Try.prog f args w fun e w' => ∃ A c M d E g, e = .returned (.tuple #[.agg #[.slice A 0 c, .int .i64 0, .slice M 0 d, .slice E 0 g], .int .i64 u]) ∧ LW W l w' :=
  hc.mono fun e w' hh => by
    obtain ⟨v, e1, ⟨A, n, c, s, M, m, d, E, k, g, rfl, hr, _⟩, hb⟩ := hh
    obtain rfl : n = 0 := hr.hn.symm
    obtain rfl : s = 0 := hr.st.symm
    obtain rfl : m = 0 := hr.hm.symm
    obtain rfl : k = 0 := hr.hk.symm
    exact ⟨A, c, M, d, E, g, e1, h.call hb⟩
theorem lw_wds_nil {f : FuncId} {args : Array Value} {u : Int} (hc : Calls Try.prog f args w fun e w' => WdsR ([], u) e w' ∧ Below w.heap.size w w') (h : LW W l w) : Calls Try.prog f args w fun e w' => ∃ A c, e = .returned (.tuple #[.slice A 0 c, .int .i64 u]) ∧ LW W l w' :=
  hc.mono fun e w' hh => by
    obtain ⟨⟨A, c, hs, e1, e2, _⟩, hb⟩ := hh
    obtain rfl : hs = [] := by simpa using e2
    exact ⟨A, c, e1, h.call hb⟩
end
end Go.Proofs.Ytcciiikaejjooaa
