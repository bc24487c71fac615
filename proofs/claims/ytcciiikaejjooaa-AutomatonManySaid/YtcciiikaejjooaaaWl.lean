/- Layer 3: lists of words of the call's own; the words of an automaton. -/
import Derived.Test.YtcciiikaejjooaaaW
namespace Go.Proofs.Ytcciiikaejjooaa
open Go.RowKit Go.Sort

theorem info_ints : (Try.prog.info? 22).map (fun i => (i.zero, i.size, i.bytes)) = some (some (.slice none 0 0), 1, 24) := by kernel_rfl
/-- A slice that holds a word: its address, its capacity, the word. -/
structure Hd where
  A : Option Addr
  c : Nat
  z : List Int
def Hd.enc (h : Hd) : Value := .slice h.A h.z.length h.c
instance : Inhabited Hd := ⟨⟨none, 0, []⟩⟩

theorem own_more {w : World} {base base' n : Nat} {e : TypeId} {sz : Nat} {v : Value} {xs : List Value} (h : w.ownsRow base e sz v n xs) (hb : base' ≤ base) : w.ownsRow base' e sz v n xs :=
  ⟨h.1, by
    rcases h.2 with h | ⟨g, cap, cur, e, hge, r⟩
    · exact .inl h
    · exact .inr ⟨g, cap, cur, e, by omega, r⟩⟩
/-- The words and the states to which they lead, in memory of the call's own. -/
structure GL (w : World) (base : Nat) (vw : Value) (hs : List Hd) (ve : Value) (es : List Int) : Prop where
  row : w.ownsRow base 22 1 vw hs.length (hs.map Hd.enc)
  own : ∀ h ∈ hs, Own w base h.enc h.z
  ends : Own w base ve es
  ne : ∀ h ∈ hs, h.enc.ownBlock = none ∨ h.enc.ownBlock ≠ ve.ownBlock
theorem GL.below {w w' : World} {base : Nat} {vw ve : Value} {hs : List Hd} {es : List Int} (h : GL w base vw hs ve es) (hb : Below w.heap.size w w') : GL w' base vw hs ve es :=
  ⟨own_below h.row hb, fun x hx => own_below (h.own x hx) hb, own_below h.ends hb, h.ne⟩
theorem GL.drewN {w : World} {base : Nat} {vw ve : Value} {hs : List Hd} {es : List Int} (h : GL w base vw hs ve es) (q : Nat) : GL (w.drewN q) base vw hs ve es := ⟨h.row, h.own, h.ends, h.ne⟩
theorem GL.base {w : World} {base B : Nat} {vw ve : Value} {hs : List Hd} {es : List Int} (h : GL w base vw hs ve es) (hB : B ≤ base) : GL w B vw hs ve es :=
  ⟨own_more h.row hB, fun x hx => own_more (h.own x hx) hB, own_more h.ends hB, h.ne⟩
theorem GL.drew {w : World} {base : Nat} {vw ve : Value} {hs : List Hd} {es : List Int} (h : GL w base vw hs ve es) : GL w.drew base vw hs ve es := ⟨h.row, h.own, h.ends, h.ne⟩
/-- A word in new memory is appended. -/
theorem GL.word {w w0 w1 : World} {base n : Nat} {vw vw' ve : Value} {hs : List Hd} {es : List Int} {x : Hd} (h : GL w base vw hs ve es) (hb : Below w.heap.size w w0) (hx : Own w0 w.heap.size x.enc x.z) (hbs : base ≤ w.heap.size)
    (hr : w1.ownsRow base 22 1 vw' n (hs.map Hd.enc ++ [x.enc])) (hn : n = hs.length + 1) (hg : w0.grownBy w1 vw.ownBlock) : GL w1 base vw' (hs ++ [x]) ve es := by
  subst hn
  have h0 := h.below hb
  have hxb : Own w0 base x.enc x.z := ⟨hx.1, by
    rcases hx.2 with h | ⟨g, cap, cur, e, hge, r⟩
    · exact .inl h
    · exact .inr ⟨g, cap, cur, e, by omega, r⟩⟩
  refine ⟨by simpa using hr, fun y hy => ?_, own_row h0.ends hg (owns_ne h0.ends h0.row (by decide)), fun y hy => ?_⟩
  · rcases List.mem_append.1 hy with hy | hy
    · exact own_row (h0.own y hy) hg (owns_ne (h0.own y hy) h0.row (by decide))
    · rw [List.mem_singleton] at hy; subst hy
      exact own_row hxb hg (owns_ne hxb h0.row (by decide))
  · rcases List.mem_append.1 hy with hy | hy
    · exact h.ne y hy
    · rw [List.mem_singleton] at hy; subst hy
      by_cases he : y.enc.ownBlock = none
      · exact .inl he
      · refine .inr fun e => ?_
        obtain ⟨j, hj⟩ := Option.ne_none_iff_exists'.1 he
        have h1 := (hx.lt j hj).1
        have h2 := (h.ends.lt j (by rw [← e, hj])).2
        omega
/-- A state is appended to the ends. -/
theorem GL.end_ {w w1 : World} {base : Nat} {vw ve ve' : Value} {hs : List Hd} {es : List Int} {t : Int} (h : GL w base vw hs ve es) (ho : Own w1 base ve' (es ++ [t])) (hg : w.grownBy w1 ve.ownBlock) (hs' : ∀ j, ve'.ownBlock = some j → ve.ownBlock = some j ∨ w.heap.size ≤ j) : GL w1 base vw hs ve' (es ++ [t]) := by
  refine ⟨own_row h.row hg (owns_ne h.row h.ends (by decide)), fun y hy => own_row (h.own y hy) hg (h.ne y hy), ho, fun y hy => ?_⟩
  by_cases he : y.enc.ownBlock = none
  · exact .inl he
  · refine .inr fun e => ?_
    obtain ⟨j, hj⟩ := Option.ne_none_iff_exists'.1 he
    have h1 := ((h.own y hy).lt j hj).2
    rcases hs' j (by rw [← e, hj]) with h2 | h2
    · rcases h.ne y hy with h3 | h3
      · exact he h3
      · exact h3 (by rw [hj, h2])
    · omega
theorem GL.len {w : World} {base : Nat} {vw ve : Value} {hs : List Hd} {es : List Int} {N : Nat} (h : GL w base vw hs ve es) (hN : hs.length = N) (h0 : 0 < N) : ∃ g cap, vw = .slice (some ⟨g, 0, none⟩) N cap ∧ N ≤ cap ∧ cap ≤ 9223372036854775807 ∧ ∀ j x, hs[j]? = some x → w.cell? ⟨g, j, none⟩ = some x.enc := by
  subst hN
  have hr := h.row
  rcases hr.2 with ⟨rfl, h1⟩ | ⟨g, cap, cur, rfl, hg, hh, hn, hcap, hsz, htake⟩
  · omega
  · refine ⟨g, cap, rfl, hn, by unfold maxLen at hcap; omega, fun j x hj => ?_⟩
    have hl := (List.getElem?_eq_some_iff.1 hj).1
    rw [World.ownsRow.cellAt (cap := cap) hr j (by omega), List.getElem?_map, hj]; rfl
theorem GL.word_rd {w : World} {base : Nat} {vw ve : Value} {hs : List Hd} {es : List Int} (h : GL w base vw hs ve es) {j : Nat} {x : Hd} (hj : hs[j]? = some x) : RdI w w.heap.size x.A x.z ∧ x.z.length ≤ x.c ∧ x.c ≤ 9223372036854775807 := by
  have ho := h.own x (List.mem_of_getElem? hj)
  obtain ⟨A, c, e, hrd, h1, h2⟩ := own_rdc ho
  unfold Hd.enc at e
  injection e with e1 e2 e3
  subst e1; subst e3
  exact ⟨hrd, h1, h2⟩

theorem two_made (w : World) {Ax : Option Addr} {lx cx : Nat} {zx : List Int} {xe : Int} (hr : RdI w w.heap.size Ax zx) (hl : zx.length = lx) :
    TwoS ((w.alloc (.cells #[.int .i64 xe] 3)).alloc (.cells #[.slice Ax lx cx, .slice (some ⟨w.heap.size, 0, none⟩) 1 1] 22)) (w.heap.size + 1) 0 Ax lx cx (some ⟨w.heap.size, 0, none⟩) 1 1 zx [xe] := by
  have hR := Row.new (w.alloc (.cells #[.int .i64 xe] 3)) [.slice Ax lx cx, .slice (some ⟨w.heap.size, 0, none⟩) 1 1] 22
  have hb := ((Below.refl w.heap.size w).alloc (Nat.le_refl _) (.cells #[.int .i64 xe] 3)).alloc (by simp) (.cells #[.slice Ax lx cx, .slice (some ⟨w.heap.size, 0, none⟩) 1 1] 22)
  have hI := (Row.new w [.int .i64 xe] 3).alloc (.cells #[.slice Ax lx cx, .slice (some ⟨w.heap.size, 0, none⟩) 1 1] 22)
  simp only [World.size_alloc] at hR
  exact ⟨hR.cell 0 rfl, hR.cell 1 rfl, (hr.below hb (Nat.le_refl _)).more (by simp; omega), fun _ => ⟨w.heap.size, 0, rfl, (by simp; try omega), fun j hj => by
    obtain rfl : j = 0 := by simp at hj; omega
    exact hI.cell 0 rfl⟩, hl, rfl, by simp⟩
/-- The words that go on from one. -/
def extW (a : Au) (p : List Int × Int) : List (List Int × Int) := (succ a.ed p.2).map fun x => (p.1 ++ [x.e], x.t)
/-- The words as they are found, from the i-th on; none if there are more than 1024. -/
def genF (a : Au) (most : Int) : Nat → Nat → List (List Int × Int) → Option (List (List Int × Int))
  | 0, _, _ => none
  | f + 1, i, L =>
    if i < L.length ∧ ((L.getD i ([], 0)).1.length : Int) < most then
      if 1024 < (L ++ extW a (L.getD i ([], 0))).length then none else genF a most f (i + 1) (L ++ extW a (L.getD i ([], 0)))
    else some L
def genO (a : Au) (most : Int) : Option (List (List Int × Int)) := if a.st = 0 then some [] else genF a most 1026 0 [([], 0)]
theorem genF_stop {a : Au} {most : Int} {f i : Nat} {L : List (List Int × Int)} {R : Option (List (List Int × Int))} (hR : genF a most f i L = R) (hf : 0 < f) (h : ¬ (i < L.length ∧ ((L.getD i ([], 0)).1.length : Int) < most)) : R = some L := by
  obtain ⟨g, rfl⟩ : ∃ g, f = g + 1 := ⟨f - 1, by omega⟩
  rw [genF, if_neg h] at hR; exact hR.symm
theorem genF_limit {a : Au} {most : Int} {f i : Nat} {L : List (List Int × Int)} {R : Option (List (List Int × Int))} (hR : genF a most f i L = R) (hf : 0 < f) (h : i < L.length ∧ ((L.getD i ([], 0)).1.length : Int) < most) (hl : 1024 < L.length + (extW a (L.getD i ([], 0))).length) : R = none := by
  obtain ⟨g, rfl⟩ : ∃ g, f = g + 1 := ⟨f - 1, by omega⟩
  rw [genF, if_pos h, if_pos (by rw [List.length_append]; exact hl)] at hR; exact hR.symm
theorem genF_go {a : Au} {most : Int} {f i : Nat} {L : List (List Int × Int)} {R : Option (List (List Int × Int))} (hR : genF a most f i L = R) (hf : 0 < f) (h : i < L.length ∧ ((L.getD i ([], 0)).1.length : Int) < most) (hl : L.length + (extW a (L.getD i ([], 0))).length ≤ 1024) : genF a most (f - 1) (i + 1) (L ++ extW a (L.getD i ([], 0))) = R := by
  obtain ⟨g, rfl⟩ : ∃ g, f = g + 1 := ⟨f - 1, by omega⟩
  rw [genF, if_pos h, if_neg (by rw [List.length_append]; omega)] at hR; exact hR
theorem extW_range {a : Au} (h : RightW a) (p : List Int × Int) : ∀ q ∈ extW a p, 0 ≤ q.2 ∧ q.2 < a.st := fun q hq => by
  obtain ⟨x, hx, rfl⟩ := List.mem_map.1 hq
  exact (h.edr x (mem_succ.1 hx).1).2.1
end Go.Proofs.Ytcciiikaejjooaa
