/- An append of one word to a list of words of the call's own. -/
import Derived.Test.YtdccmebkoibkhaaShuf
import Derived.Laws.MakeOwn
namespace Go.Proofs.Ytdccmebkoibkhaa
open Go.RowKit

theorem run_app1 {w : World} {base : Nat} {v : Value} {n : Nat} {xs : List Value} (hown : w.ownsRow base 22 1 v n xs) (ad : Addr) (c : Nat) (u : Value) (hx : w.cell? ad = some u) (h1 : u.oneCell' = true)
    (h63 : n + 1 ≤ 100000) (hbase : base ≤ w.heap.size) (ty : TypeId) :
    ∃ v' w', (Builtin.append_ #[37, 37] ty #[v, .slice (some ad) 1 c]).run Try.prog w = .ok v' w' ∧ w'.ownsRow base 22 1 v' (n + 1) (xs ++ [u]) ∧ w.grownBy w' v.ownBlock := by
  obtain ⟨i0, hi, hz0, hz1, hz2⟩ := info_parts info_ints
  have hnews : ∀ j y, [u][j]? = some y → w.cell? (ad.add j) = some y := fun j y hy => by
    have hj : j = 0 := by have := (List.getElem?_eq_some_iff.1 hy).1; simp at this; omega
    subst hj
    have : u = y := by simpa using hy
    subst this
    have : ad.add 0 = ad := by simp [Addr.add]
    rw [this]; exact hx
  obtain ⟨v', w', hr, h2, h3, _⟩ := run_append_own (P := Try.prog) w base 37 ty 22 i0 (.slice none 0 0) 1 24 Try.underlying37 hi hz0 hz1 hz2 rfl (by decide) v n xs hown ad 1 c [u] rfl hnews (fun y hy => by rw [List.mem_singleton] at hy; subst hy; exact h1) (by unfold maxLen; omega) (by omega) hbase
  exact ⟨v', w', hr, h2, h3⟩
theorem wpList_app1 {w : World} {ops : Array Oper} {rest : List Oper} {o : Oper} {a : Act} {Q : Exit → Act → World → Prop} (hgd : o.guard = none) (s x : Operand)
    (ho : o.op = .call { callee := .builtin .append, args := #[s, x], argTypes := #[37, 37] }) (base : Nat) (v : Value) (n : Nat) (xs : List Value) (hs : a.eval s = v) (hown : w.ownsRow base 22 1 v n xs)
    (ad : Addr) (c : Nat) (u : Value) (hx : a.eval x = .slice (some ad) 1 c) (hc : w.cell? ad = some u) (h1 : u.oneCell' = true) (h63 : n + 1 ≤ 100000) (hbase : base ≤ w.heap.size)
    (h : ∀ v' w', w'.ownsRow base 22 1 v' (n + 1) (xs ++ [u]) → w.grownBy w' v.ownBlock → wpList Try.prog ops Q rest (a.put o.dst v') w') : wpList Try.prog ops Q (o :: rest) a w := by
  refine wpList_plain hgd fun K hK => ?_
  obtain ⟨v', w', hrun, h2, h3⟩ := run_app1 hown ad c u hc h1 h63 hbase o.type
  unfold Oper.wp execOp
  simp only [ho, resolve, invoke, builtin, Sem.run_bind, Sem.run_pure, Result.andThen_ok, List.map_toArray, List.map_cons, List.map_nil, hs, hx, hrun]
  exact hK _ _ (h v' w' h2 h3)

/-- A row of words of the call's own, each in memory of its own. -/
structure OwnL (w : World) (base : Nat) (v : Value) (hs : List Hd) : Prop where
  row : w.ownsRow base 22 1 v hs.length (hs.map Hd.enc)
  own : ∀ h ∈ hs, Own w base h.enc h.z
theorem OwnL.below {w w' : World} {base : Nat} {v : Value} {hs : List Hd} (h : OwnL w base v hs) (hb : Below w.heap.size w w') : OwnL w' base v hs :=
  ⟨own_below h.row hb, fun x hx => own_below (h.own x hx) hb⟩
/-- Behind the append of a clone. -/
theorem OwnL.snoc {w w0 w1 : World} {base n : Nat} {v v' : Value} {hs : List Hd} {x : Hd} (h : OwnL w base v hs) (hx : Own w base x.enc x.z) (hb : Below w.heap.size w w0) (hr : w1.ownsRow base 22 1 v' (n + 1) (hs.map Hd.enc ++ [x.enc])) (hn : n = hs.length) (hg : w0.grownBy w1 v.ownBlock) : OwnL w1 base v' (hs ++ [x]) := by
  subst hn
  refine ⟨by simpa using hr, fun y hy => ?_⟩
  have hrow := own_below h.row hb
  have hy2 : Own w base y.enc y.z := by
    rcases List.mem_append.1 hy with hy | hy
    · exact h.own y hy
    · rw [List.mem_singleton] at hy; subst hy; exact hx
  exact World.ownsRow.kept (own_below hy2 hb) hg (own_types hrow (own_below hy2 hb) (by decide))
/-- It reads as its words. -/
theorem OwnL.rd {w : World} {base : Nat} {v : Value} {hs : List Hd} (h : OwnL w base v hs) (hl : ∀ x ∈ hs, x.z.length ≤ 4096) : ∃ A c, v = .slice A hs.length c ∧ RdL w w.heap.size A (hs.map (·.z)) := by
  rcases Nat.eq_zero_or_pos hs.length with h0 | h0
  · have e : hs = [] := List.eq_nil_of_length_eq_zero h0
    subst e
    rcases h.row.2 with ⟨rfl, _⟩ | ⟨g, cap, _, rfl, _⟩
    · exact ⟨none, 0, rfl, fun h => absurd h (by simp)⟩
    · exact ⟨some ⟨g, 0, none⟩, cap, rfl, fun h => absurd h (by simp)⟩
  · obtain ⟨blk, cap, e, hb1, hb2⟩ := h.row.form h0
    refine ⟨some ⟨blk, 0, none⟩, cap, e, RdL.of_row hb2 (fun i x hi => ?_) (fun x hx => Good.of_own (h.own x hx) h.row (by rw [e]; rfl) (hl x hx))⟩
    have := h.row.cells (g := blk) (by rw [e]; rfl) i x.enc (by rw [List.getElem?_map, hi]; rfl)
    have hadd : (⟨blk, 0, none⟩ : Addr).add i = ⟨blk, i, none⟩ := by unfold Addr.add; split <;> simp_all
    rwa [hadd] at this
end Go.Proofs.Ytdccmebkoibkhaa
