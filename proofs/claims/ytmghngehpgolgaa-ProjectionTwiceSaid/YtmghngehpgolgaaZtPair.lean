/- Layer 7: lists of pairs; pairs of states that one word reaches. -/
import Derived.Test.YtmghngehpgolgaaZa14
import Derived.Test.YtmghngehpgolgaaZa5
import Derived.Test.YtmghngehpgolgaaZa6
set_option linter.unusedVariables false
set_option linter.unusedSimpArgs false
set_option linter.unusedSectionVars false
namespace Go.Proofs.Ytmghngehpgolgaa
open Go.RowKit Go.Sort

theorem info_arr2 : (Try.prog.info? 91).map (fun i => (i.zero, i.size, i.bytes)) = some (some (.agg #[.int .i64 0, .int .i64 0]), 2, 16) := by kernel_rfl
def encQ (l : List (Int × Int)) : List Value := l.flatMap fun x => [.int .i64 x.1, .int .i64 x.2]
theorem encQ_len (l : List (Int × Int)) : (encQ l).length = l.length * 2 := by
  induction l with
  | nil => rfl
  | cons x l ih => simp [encQ] at ih ⊢; omega
theorem encQ_app (l r : List (Int × Int)) : encQ (l ++ r) = encQ l ++ encQ r := by simp [encQ]
theorem encQ_at : ∀ (l : List (Int × Int)) (j : Nat) (x : Int × Int), l[j]? = some x → (encQ l)[j * 2]? = some (.int .i64 x.1) ∧ (encQ l)[j * 2 + 1]? = some (.int .i64 x.2)
  | [], j, x, h => by simp at h
  | y :: l, 0, x, h => by simp at h; subst h; exact ⟨rfl, rfl⟩
  | y :: l, j + 1, x, h => by
    have e : ∀ i, (encQ (y :: l))[i + 2]? = (encQ l)[i]? := fun i => by
      show ([_, _] ++ encQ l)[i + 2]? = _
      rw [List.getElem?_append_right (by simp)]; simp
    obtain ⟨h0, h1⟩ := encQ_at l j x (by simpa using h)
    have e0 := e (j * 2)
    have e1 := e (j * 2 + 1)
    rw [show (j + 1) * 2 = j * 2 + 2 by omega]
    exact ⟨e0.trans h0, by rw [show j * 2 + 2 + 1 = j * 2 + 1 + 2 by omega]; exact e1.trans h1⟩
def OwnQ (w : World) (base : Nat) (v : Value) (l : List (Int × Int)) : Prop := w.ownsRow base 91 2 v l.length (encQ l)
theorem ownQ_at {w : World} {base : Nat} {v : Value} {l : List (Int × Int)} (h : OwnQ w base v l) {j : Nat} {x : Int × Int} (hj : l[j]? = some x) : ∃ g c, v = .slice (some ⟨g, 0, none⟩) l.length c ∧ base ≤ g ∧ g < w.heap.size ∧ w.cell? ⟨g, j * 2, none⟩ = some (.int .i64 x.1) ∧ w.cell? ⟨g, j * 2 + 1, none⟩ = some (.int .i64 x.2) := by
  have hl := (List.getElem?_eq_some_iff.1 hj).1
  rcases h.2 with ⟨rfl, h0⟩ | ⟨g, cap, cur, rfl, hg, hh, hn, hcap, hsz, htake⟩
  · omega
  · obtain ⟨e0, e1⟩ := encQ_at l j x hj
    have hel := encQ_len l
    refine ⟨g, cap, rfl, hg, (h.lt g rfl).2, ?_, ?_⟩
    · rw [World.ownsRow.cellAt (cap := cap) h (j * 2) (by omega)]; exact e0
    · rw [World.ownsRow.cellAt (cap := cap) h (j * 2 + 1) (by omega)]; exact e1
theorem ownQ_shape {w : World} {base : Nat} {v : Value} {l : List (Int × Int)} (h : OwnQ w base v l) : ∃ A c, v = .slice A l.length c := by
  rcases h.2 with ⟨rfl, h0⟩ | ⟨g, cap, cur, rfl, _⟩
  · rw [h0]; exact ⟨none, 0, rfl⟩
  · exact ⟨_, cap, rfl⟩
/-- A pair that one word reaches. -/
def PrOk (a b : Au) (p : Int × Int) : Prop := (0 ≤ p.1 ∧ p.1 < a.st) ∧ (0 ≤ p.2 ∧ p.2 < b.st) ∧ ∃ ws, (∀ x ∈ ws, x ∈ a.al) ∧ rO a 0 ws = some p.1 ∧ rO b 0 ws = some p.2
structure PsI (a b : Au) (ps : List (Int × Int)) : Prop where
  ok : ∀ p ∈ ps, PrOk a b p
  nd : ps.Nodup
theorem PsI.start {a b : Au} (h0 : 0 < a.st) (h1 : 0 < b.st) : PsI a b [(0, 0)] :=
  ⟨fun p hp => by rw [List.mem_singleton] at hp; subst hp; exact ⟨⟨Int.le_refl _, h0⟩, ⟨Int.le_refl _, h1⟩, [], by simp, rfl, rfl⟩, by simp⟩
theorem PsI.add {a b : Au} {ps : List (Int × Int)} {p : Int × Int} (h : PsI a b ps) (hp : PrOk a b p) (hn : p ∉ ps) : PsI a b (ps ++ [p]) :=
  ⟨fun q hq => by
    rcases List.mem_append.1 hq with hq | hq
    · exact h.ok q hq
    · rw [List.mem_singleton] at hq; subst hq; exact hp,
   by
    rw [List.nodup_append]
    refine ⟨h.nd, by simp, fun x hx y hy => ?_⟩
    rw [List.mem_singleton] at hy
    subst hy
    intro e; subst e; exact hn hx⟩
theorem PsI.len {a b : Au} {ps : List (Int × Int)} (h : PsI a b ps) (sb : b.st ≤ 4096) (_sa : a.st ≤ 4096) : ps.length ≤ a.st.toNat * b.st.toNat := by
  have h1 : (ps.map fun p => p.1 * b.st + p.2).Nodup := by
    rw [List.nodup_iff_pairwise_ne, List.pairwise_map]
    have h2 := h.nd
    rw [List.nodup_iff_pairwise_ne] at h2
    refine h2.imp_of_mem fun {x y} hx hy hne he => hne ?_
    obtain ⟨x1, x2, _⟩ := h.ok x hx
    obtain ⟨y1, y2, _⟩ := h.ok y hy
    have e1 : x.1 = y.1 := by
      have q1 : (x.1 * b.st + x.2) / b.st = x.1 := by rw [Int.add_comm, Int.add_mul_ediv_right _ _ (by omega), Int.ediv_eq_zero_of_lt x2.1 x2.2]; omega
      have q2 : (y.1 * b.st + y.2) / b.st = y.1 := by rw [Int.add_comm, Int.add_mul_ediv_right _ _ (by omega), Int.ediv_eq_zero_of_lt y2.1 y2.2]; omega
      rw [← q1, ← q2, he]
    rw [e1] at he
    exact Prod.ext e1 (by omega)
  have h2 := nodup_len (S := a.st.toNat * b.st.toNat) h1 fun z hz => by
    obtain ⟨p, hp, rfl⟩ := List.mem_map.1 hz
    obtain ⟨x1, x2, _⟩ := h.ok p hp
    have k1 : (p.1 + 1) * b.st ≤ a.st * b.st := Int.mul_le_mul_of_nonneg_right (by omega) (by omega)
    rw [Int.add_mul] at k1
    have k2 : ((a.st.toNat * b.st.toNat : Nat) : Int) = a.st * b.st := by
      rw [Int.natCast_mul]
      rw [show ((a.st.toNat : Nat) : Int) = a.st by omega, show ((b.st.toNat : Nat) : Int) = b.st by omega]
    have k3 : 0 ≤ p.1 * b.st := Int.mul_nonneg (by omega) (by omega)
    omega
  simpa using h2
section
variable {a b : Au} (ha : RightW a) (hb : RightW b) (a0 : a.st ≠ 0) (b0 : b.st ≠ 0) (hE : ∀ ws, (∀ x ∈ ws, x ∈ a.al) → genB a ws = genB b ws ∧ accB a ws = accB b ws) {p : Int × Int} (hp : PrOk a b p)
include a0 b0 hE hp
theorem pr_mark : decide (p.1 ∈ a.mr) = decide (p.2 ∈ b.mr) := by
  obtain ⟨_, _, ws, hw, h1, h2⟩ := hp
  have := (hE ws hw).2
  rw [acc_rO a0, acc_rO b0, h1, h2] at this
  exact this
theorem pr_step {e : Int} (he : e ∈ a.al) : (stepO a p.1 e).isSome = (stepO b p.2 e).isSome := by
  obtain ⟨_, _, ws, hw, h1, h2⟩ := hp
  have := (hE (ws ++ [e]) (fun x hx => by
    rcases List.mem_append.1 hx with hx | hx
    · exact hw x hx
    · rw [List.mem_singleton] at hx; subst hx; exact he)).1
  rw [gen_rO a0, gen_rO b0, rO_snoc', rO_snoc', h1, h2] at this
  exact this
end
theorem pr_next {a b : Au} (ha : RightW a) (hb : RightW b) {p : Int × Int} (hp : PrOk a b p) {e u v : Int} (he : e ∈ a.al) (h1 : stepO a p.1 e = some u) (h2 : stepO b p.2 e = some v) : PrOk a b (u, v) := by
  obtain ⟨_, _, ws, hw, r1, r2⟩ := hp
  refine ⟨step_range ha h1, step_range hb h2, ws ++ [e], fun x hx => ?_, ?_, ?_⟩
  · rcases List.mem_append.1 hx with hx | hx
    · exact hw x hx
    · rw [List.mem_singleton] at hx; subst hx; exact he
  · rw [rO_snoc', r1]; exact h1
  · rw [rO_snoc', r2]; exact h2
end Go.Proofs.Ytmghngehpgolgaa
