/- Layer 3: blocks known whole; lists of edges of the call's own. -/
import Derived.Test.YtcciiikaejjooaaaApi
import Derived.Deep.RegionHeld3
import Derived.Deep.AppendLies
import Derived.Deep.RegionLaw
import Derived.Laws.OwnMore
namespace Go.Proofs.Ytcciiikaejjooaa
open Go.RowKit Go.Sort

/-- A block holds just these cells. -/
def Row (w : World) (g : Nat) (e : TypeId) (cs : List Value) : Prop := w.heap[g]? = some (.cells cs.toArray e (0, 0))
theorem Row.cell {w : World} {g : Nat} {e : TypeId} {cs : List Value} (h : Row w g e cs) (j : Nat) {v : Value} (hj : cs[j]? = some v) : w.cell? ⟨g, j, none⟩ = some v := by
  rw [cell_of_row w g j cs.toArray e (0, 0) h]; simpa using hj
theorem Row.frozen {w : World} {g : Nat} {e : TypeId} {cs : List Value} (h : Row w g e cs) (j : Nat) : w.frozen? ⟨g, j, none⟩ = false := frozen_of_row w g j cs.toArray e h
theorem Row.lt {w : World} {g : Nat} {e : TypeId} {cs : List Value} (h : Row w g e cs) : g < w.heap.size := (Array.getElem?_eq_some_iff.1 h).1
theorem Row.below {w w' : World} {g B : Nat} {e : TypeId} {cs : List Value} (h : Row w g e cs) (hb : Below B w w') (hB : g < B) : Row w' g e cs := (hb.block g hB).trans h
theorem Row.alloc {w : World} {g : Nat} {e : TypeId} {cs : List Value} (h : Row w g e cs) (o : Obj) : Row (w.alloc o) g e cs := (Below.heap_alloc w o g h.lt).trans h
theorem Row.drewN {w : World} {g : Nat} {e : TypeId} {cs : List Value} (h : Row w g e cs) (q : Nat) : Row (w.drewN q) g e cs := h
theorem Row.new (w : World) (cs : List Value) (e : TypeId) : Row (w.alloc (.cells cs.toArray e)) w.heap.size e cs := heap_alloc_new w _
theorem Row.set {w : World} {g : Nat} {e : TypeId} {cs : List Value} (h : Row w g e cs) (j : Nat) (u : Value) : Row (w.setCell ⟨g, j, none⟩ u) g e (cs.set j u) := by
  have := heap_setCell_same w g j cs.toArray e u h
  unfold Row; rw [this]; simp
theorem Row.setOther {w : World} {g : Nat} {e : TypeId} {cs : List Value} (h : Row w g e cs) {p : Addr} (hp : g ≠ p.block) (u : Value) : Row (w.setCell p u) g e cs := (Below.heap_setCell w p u g hp).trans h
theorem row_of_owns {w : World} {base g n : Nat} {e : TypeId} {xs : List Value} (h : w.ownsRow base e 1 (.slice (some ⟨g, 0, none⟩) n n) n xs) : Row w g e xs ∧ base ≤ g := by
  rcases h.2 with ⟨h', _⟩ | ⟨g', cap', cur, h', hb, hg, _, _, hs, htake⟩
  · simp at h'
  · simp only [Value.slice.injEq, Option.some.injEq, Addr.mk.injEq, and_true, true_and] at h'
    obtain ⟨rfl, rfl⟩ := h'
    refine ⟨?_, hb⟩
    rw [List.take_of_length_le (by simp [hs])] at htake
    unfold Row; rw [hg, ← htake]
theorem Row.rd {w : World} {g : Nat} {zs : List Int} (h : Row w g 3 (zs.map (Value.int .i64))) : RdI w w.heap.size (some ⟨g, 0, none⟩) zs := fun _ =>
  ⟨g, 0, rfl, h.lt, fun j hj => by
    rw [Nat.zero_add]
    exact h.cell j (by simp [List.getD, List.getElem?_eq_getElem hj])⟩
theorem Row.int {w : World} {g : Nat} {zs : List Int} (h : Row w g 3 (zs.map (Value.int .i64))) {j : Nat} (hj : j < zs.length) : w.cell? ⟨g, j, none⟩ = some (.int .i64 (zs.getD j 0)) :=
  h.cell j (by simp [List.getD, List.getElem?_eq_getElem hj])
theorem box_row {w : World} {b : Nat} (A : Option Addr) (n c : Nat) (s : Int) (M : Option Addr) (m d : Nat) (E : Option Addr) (k g : Nat) (h : Row w b 25 [.slice A n c, .int .i64 s, .slice M m d, .slice E k g]) : BoxA w b A n c s M m d E k g :=
  ⟨h.cell 0 rfl, h.cell 1 rfl, h.cell 2 rfl, h.cell 3 rfl⟩

/-- The cells of edges. -/
def encE (l : List Ed) : List Value := l.flatMap fun x => [.int .i64 x.f, .int .i64 x.e, .int .i64 x.t]
theorem encE_len (l : List Ed) : (encE l).length = l.length * 3 := by
  induction l with
  | nil => rfl
  | cons x l ih => simp [encE] at ih ⊢; omega
theorem encE_app (l r : List Ed) : encE (l ++ r) = encE l ++ encE r := by simp [encE]
theorem encE_at : ∀ (l : List Ed) (j : Nat) (x : Ed), l[j]? = some x → (encE l)[j * 3]? = some (.int .i64 x.f) ∧ (encE l)[j * 3 + 1]? = some (.int .i64 x.e) ∧ (encE l)[j * 3 + 2]? = some (.int .i64 x.t)
  | [], j, x, h => by simp at h
  | y :: l, 0, x, h => by simp at h; subst h; exact ⟨rfl, rfl, rfl⟩
  | y :: l, j + 1, x, h => by
    have e : ∀ i, (encE (y :: l))[i + 3]? = (encE l)[i]? := fun i => by
      show ([_, _, _] ++ encE l)[i + 3]? = _
      rw [List.getElem?_append_right (by simp)]; simp
    have ih := encE_at l j x (by simpa using h)
    rw [show (j + 1) * 3 = j * 3 + 3 by omega, show j * 3 + 3 + 1 = j * 3 + 1 + 3 by omega, show j * 3 + 3 + 2 = j * 3 + 2 + 3 by omega, e, e, e]
    exact ih
theorem info_edge : (Try.prog.info? 67).map (fun i => (i.zero, i.size, i.bytes)) = some (some (.agg #[.int .i64 0, .int .i64 0, .int .i64 0]), 3, 24) := by kernel_rfl
/-- The slice value owns, among the blocks from base on, these edges. -/
abbrev OwnE (w : World) (base : Nat) (v : Value) (l : List Ed) : Prop := w.ownsRow base 67 3 v l.length (encE l)
theorem ownE_rd {w : World} {base : Nat} {v : Value} {l : List Ed} (h : OwnE w base v l) : ∃ A c, v = .slice A l.length c ∧ RdG w w.heap.size A l ∧ l.length ≤ c ∧ c ≤ 9223372036854775807 := by
  rcases h.2 with ⟨rfl, h0⟩ | ⟨g, cap, cur, rfl, hg, hh, hn, hcap, hsz, htake⟩
  · rw [h0]; exact ⟨none, 0, rfl, fun h => by omega, Nat.le_refl _, by omega⟩
  · refine ⟨some ⟨g, 0, none⟩, cap, rfl, fun _ => ⟨g, 0, rfl, (h.lt g rfl).2, fun j x hj => ?_⟩, hn, by unfold maxLen at hcap; omega⟩
    have hl := (List.getElem?_eq_some_iff.1 hj).1
    obtain ⟨e0, e1, e2⟩ := encE_at l j x hj
    rw [Nat.zero_add]
    exact ⟨(World.ownsRow.cellAt (cap := cap) h (j * 3) (by omega)).trans e0, (World.ownsRow.cellAt (cap := cap) h (j * 3 + 1) (by omega)).trans e1, (World.ownsRow.cellAt (cap := cap) h (j * 3 + 2) (by omega)).trans e2⟩
/-- Two rows of unlike elements lie in unlike blocks. -/
theorem owns_ne {w : World} {b1 b2 : Nat} {e1 e2 : TypeId} {s1 s2 : Nat} {v1 v2 : Value} {n1 n2 : Nat} {x1 x2 : List Value} (h1 : w.ownsRow b1 e1 s1 v1 n1 x1) (h2 : w.ownsRow b2 e2 s2 v2 n2 x2) (he : e1 ≠ e2) : v1.ownBlock = none ∨ v1.ownBlock ≠ v2.ownBlock := by
  rcases h1.2 with ⟨rfl, _⟩ | ⟨g1, _, _, rfl, _, hg1, _⟩
  · exact .inl rfl
  · refine .inr ?_
    rcases h2.2 with ⟨rfl, _⟩ | ⟨g2, _, _, rfl, _, hg2, _⟩
    · simp [Value.ownBlock]
    · intro h
      simp only [Value.ownBlock, Option.some.injEq] at h
      subst h
      rw [hg1] at hg2
      injection hg2 with hg2
      injection hg2 with _ hg2
      exact he hg2
theorem row_ne_own {w : World} {g b2 : Nat} {e1 e2 : TypeId} {cs : List Value} {s2 : Nat} {v2 : Value} {n2 : Nat} {x2 : List Value} (h1 : Row w g e1 cs) (h2 : w.ownsRow b2 e2 s2 v2 n2 x2) (he : e1 ≠ e2) : v2.ownBlock ≠ some g := by
  rcases h2.2 with ⟨rfl, _⟩ | ⟨g2, _, _, rfl, _, hg2, _⟩
  · simp [Value.ownBlock]
  · intro h
    simp only [Value.ownBlock, Option.some.injEq] at h
    subst h
    rw [show w.heap[g2]? = _ from h1] at hg2
    injection hg2 with hg2
    injection hg2 with _ hg2
    exact he hg2
theorem run_make_rowN {P : Program} (t e : TypeId) (i : TypeInfo) (z : Value) (ht : P.underlying t = some (.slice e)) (hi : P.info? e = some i) (hz : i.zero = some z)
    (kl kc : IntKind) (n c : Nat) (hnc : n ≤ c) (hbytes : i.bytes * c ≤ 281474976710656) (h63 : c ≤ 9223372036854775807) (w : World) :
    (Instr.makeSlice t (.int kl (n : Int)) (.int kc (c : Int))).run P w = .ok (.slice (some ⟨w.heap.size, 0, none⟩) n c) (w.alloc (.cells (madeCells z.cells (c * i.size)) e)) := by
  have hb : (i.bytes : Int) * (c : Int) ≤ 281474976710656 := by
    have h : ((i.bytes * c : Nat) : Int) ≤ 281474976710656 := by omega
    rwa [Int.natCast_mul] at h
  have hr := run_make (P := P) w t e i z ht hi hz kl kc n c (by omega) (by omega) hb (by omega)
  simp only [Int.toNat_natCast] at hr
  exact hr
theorem make_ints (N : Nat) (hN : N ≤ 100000) (w : World) :
    (Instr.makeSlice 22 (.int .i64 (N : Int)) (.int .i64 (N : Int))).run Try.prog w = .ok (.slice (some ⟨w.heap.size, 0, none⟩) N N) (w.alloc (.cells (List.replicate N (Value.int .i64 0)).toArray 3)) := by
  obtain ⟨i0, hi, hz0, hz1, hz2⟩ := info_parts info_int
  have := run_make_rowN 22 3 i0 (.int .i64 0) Try.underlying22 hi hz0 .i64 .i64 N N (Nat.le_refl _) (by rw [hz2]; omega) (by omega) w
  rw [this, hz1, Nat.mul_one]
  have e : madeCells (Value.int .i64 0).cells N = (List.replicate N (Value.int .i64 0)).toArray := by
    rw [← toList_madeCells_one (.int .i64 0) N]; simp [Value.cells]
  rw [e]
end Go.Proofs.Ytcciiikaejjooaa
