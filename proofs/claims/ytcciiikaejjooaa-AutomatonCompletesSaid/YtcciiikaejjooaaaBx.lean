/- Layer 3: boxes whose cells are known; none of the law's package. -/
import Derived.Test.YtcciiikaejjooaaaFew
import Derived.Test.YtcciiikaejjooaaaKn
namespace Go.Proofs.Ytcciiikaejjooaa
open Go.RowKit Go.Sort

/-- Boxes whose cells are known. -/
def Bxs (w : World) (l : List (Nat × List Value)) : Prop := ∀ b cs, (b, cs) ∈ l → b < w.heap.size ∧ ∀ (i : Nat) v, cs[i]? = some v → w.cell? ⟨b, i, none⟩ = some v
theorem Bxs.nil (w : World) : Bxs w [] := fun b cs h => by simp at h
theorem Bxs.below {w w' : World} {l : List (Nat × List Value)} (h : Bxs w l) (hb : Below w.heap.size w w') : Bxs w' l := fun b cs hm =>
  ⟨Nat.lt_of_lt_of_le (h b cs hm).1 hb.size, fun i v hi => (hb.cell (p := ⟨b, i, none⟩) (h b cs hm).1).trans ((h b cs hm).2 i v hi)⟩
theorem Bxs.drew {w : World} {l : List (Nat × List Value)} (h : Bxs w l) : Bxs w.drew l := fun b cs hm => ⟨(h b cs hm).1, fun i v hi => (h b cs hm).2 i v hi⟩
theorem Bxs.drewN {w : World} {l : List (Nat × List Value)} (h : Bxs w l) (q : Nat) : Bxs (w.drewN q) l := fun b cs hm => ⟨(h b cs hm).1, fun i v hi => (h b cs hm).2 i v hi⟩
theorem Bxs.alloc {w : World} {l : List (Nat × List Value)} (h : Bxs w l) (o : Obj) : Bxs (w.alloc o) l := h.below ((Below.refl _ w).alloc (Nat.le_refl _) o)
theorem Bxs.new {w : World} {l : List (Nat × List Value)} (h : Bxs w l) (cs : List Value) (t : TypeId) : Bxs (w.alloc (.cells cs.toArray t)) ((w.heap.size, cs) :: l) := fun b ds hm => by
  rcases List.mem_cons.1 hm with e | hm
  · injection e with e1 e2
    subst e1 e2
    exact ⟨by simp, fun i v hi => (Row.new w ds t).cell i hi⟩
  · exact h.alloc _ b ds hm
theorem Bxs.tail {w : World} {x : Nat × List Value} {l : List (Nat × List Value)} (h : Bxs w (x :: l)) : Bxs w l := fun b cs hm => h b cs (List.mem_cons_of_mem _ hm)
/-- The first box's cells. -/
theorem Bxs.at {w : World} {l : List (Nat × List Value)} (h : Bxs w l) (j : Nat) {b : Nat} {cs : List Value} (hj : l[j]? = some (b, cs)) (i : Nat) {v : Value} (hi : cs[i]? = some v) : w.cell? ⟨b, i, none⟩ = some v :=
  (h b cs (List.mem_of_getElem? hj)).2 i v hi
theorem Bxs.lt {w : World} {l : List (Nat × List Value)} (h : Bxs w l) (j : Nat) {b : Nat} {cs : List Value} (hj : l[j]? = some (b, cs)) : b < w.heap.size := (h b cs (List.mem_of_getElem? hj)).1
/-- The cells of a box that holds an automaton. -/
theorem Bxs.aut {w : World} {l : List (Nat × List Value)} (h : Bxs w l) (j : Nat) {b : Nat} (A : Option Addr) (n c : Nat) (s : Int) (M : Option Addr) (m d : Nat) (E : Option Addr) (k g : Nat) (hj : l[j]? = some (b, [.slice A n c, .int .i64 s, .slice M m d, .slice E k g])) : BoxA w b A n c s M m d E k g :=
  ⟨h.at j hj 0 rfl, h.at j hj 1 rfl, h.at j hj 2 rfl, h.at j hj 3 rfl⟩

def noneB (n : Nat) (s : Int) (m k : Nat) : Bool := decide (n = 0) && (decide (s = 0) && (decide (m = 0) && decide (k = 0)))
set_option maxHeartbeats 800000 in
theorem none_zero (A : Option Addr) (c : Nat) (M : Option Addr) (d : Nat) (E : Option Addr) (g : Nat) (w : World) : Calls Try.prog 27 #[.agg #[.slice A 0 c, .int .i64 0, .slice M 0 d, .slice E 0 g]] w fun e w' => e = .returned (.bool true) ∧ Below w.heap.size w w' := by
  go_enter Try.func27, Try.ntmps27
  go_wp2
  go_ret
  exact ⟨rfl, (Below.refl _ _).alloc (Nat.le_refl _) _⟩
end Go.Proofs.Ytcciiikaejjooaa
