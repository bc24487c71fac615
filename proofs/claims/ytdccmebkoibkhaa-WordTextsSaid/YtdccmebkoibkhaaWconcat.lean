/- The contract of Concat; an append of a list, and where the row lies behind it. -/
import Derived.Test.YtdccmebkoibkhaaWset
import Derived.Test.YtdccmebkoibkhaaRdL
import Derived.Maps.AppendAt
namespace Go.Proofs.Ytdccmebkoibkhaa
open Go.RowKit

/-- An append of a slice that reads as a list: the row stays, or lies in a new block. -/
theorem run_app_at {w : World} {base : Nat} {v : Value} {n : Nat} {xs : List Int} (hown : w.ownsRow base 3 1 v n (xs.map (Value.int .i64))) {B : Nat} {A : Option Addr} {m c : Nat} {zs : List Int} (hr : RdI w B A zs) (hm : zs.length = m)
    (h63 : n + m ≤ 1000000) (hbase : base ≤ w.heap.size) (ty : TypeId) :
    ∃ v' w', (Builtin.append_ #[22, 22] ty #[v, .slice A m c]).run Try.prog w = .ok v' w' ∧ w'.ownsRow base 3 1 v' (n + m) ((xs ++ zs).map (Value.int .i64)) ∧ w.grownBy w' v.ownBlock ∧ (v'.ownBlock = v.ownBlock ∨ v'.ownBlock = some w.heap.size) := by
  obtain ⟨i0, hi, hz0, hz1, hz2⟩ := info_parts info_int
  rcases A with _ | ad
  · obtain ⟨v', w', h1, h2, h3⟩ := run_app_rd hown hr hm (by unfold maxLen; omega) (by omega) hbase ty (c := c)
    have hz : zs = [] := by
      rcases Nat.eq_zero_or_pos zs.length with h | h
      · exact List.eq_nil_of_length_eq_zero h
      · obtain ⟨b, o, e, _⟩ := hr h; cases e
    subst hz
    obtain rfl : m = 0 := hm.symm
    have ht := Try.underlying22
    have hrun : (Builtin.append_ #[22, 22] ty #[v, .slice none 0 c]).run Try.prog w = .ok v w := by
      rcases hown.2 with ⟨rfl, rfl⟩ | ⟨g, cap, cur, rfl, _, _, hnc, _⟩
      · simp [Builtin.append_, run_underlying ht, sizeOf, typeInfo, hi, Builtin.lenOf, Builtin.firstCells]
      · simp [Builtin.append_, run_underlying ht, sizeOf, typeInfo, hi, Builtin.lenOf, Builtin.firstCells, hnc, storeCells]
    exact ⟨v, w, hrun, by simpa using hown, World.grownBy.refl w _, .inl rfl⟩
  · have hnews : ∀ j u, (zs.map (Value.int .i64))[j]? = some u → w.cell? (ad.add j) = some u := fun j u hu => by
      have hj : j < zs.length := by simpa using (List.getElem?_eq_some_iff.1 hu).1
      obtain ⟨b, o, e, hb, hc⟩ := hr (by omega)
      cases e
      rw [show ((⟨b, o, none⟩ : Addr).add j) = ⟨b, o + j, none⟩ from by unfold Addr.add; split <;> simp_all, hc j hj]
      rw [List.getElem?_map, List.getElem?_eq_getElem hj] at hu
      simp only [Option.map_some, Option.some.injEq] at hu
      rw [← hu]; simp [List.getD, List.getElem?_eq_getElem hj]
    obtain ⟨v', w', hrun, h2, h3, _, h5⟩ := run_append_own_at (P := Try.prog) w base 22 ty 3 i0 (.int .i64 0) 1 8 Try.underlying22 hi hz0 hz1 hz2 rfl (by decide) v n _ hown ad m c (zs.map (Value.int .i64)) (by simpa using hm) hnews
      (fun u hu => by obtain ⟨x, _, rfl⟩ := List.mem_map.1 hu; rfl) (by unfold maxLen; omega) (by omega) hbase
    exact ⟨v', w', hrun, by rw [List.map_append]; exact h2, h3, h5⟩
theorem wpList_app_at {w : World} {ops : Array Oper} {rest : List Oper} {o : Oper} {a : Act} {Q : Exit → Act → World → Prop} (hgd : o.guard = none) (s x : Operand)
    (ho : o.op = .call { callee := .builtin .append, args := #[s, x], argTypes := #[22, 22] }) (base : Nat) (v : Value) (xs : List Int) (hs : a.eval s = v) (hown : Own w base v xs)
    (B : Nat) (A : Option Addr) (m c : Nat) (zs : List Int) (hx : a.eval x = .slice A m c) (hr : RdI w B A zs) (hm : zs.length = m) (h63 : xs.length + m ≤ 1000000) (hbase : base ≤ w.heap.size)
    (h : ∀ v' w', Own w' base v' (xs ++ zs) → w.grownBy w' v.ownBlock → (v'.ownBlock = v.ownBlock ∨ v'.ownBlock = some w.heap.size) → wpList Try.prog ops Q rest (a.put o.dst v') w') : wpList Try.prog ops Q (o :: rest) a w := by
  refine wpList_plain hgd fun K hK => ?_
  obtain ⟨v', w', hrun, h2, h3, h4⟩ := run_app_at hown hr hm h63 hbase o.type (c := c)
  unfold Oper.wp execOp
  simp only [ho, resolve, invoke, builtin, Sem.run_bind, Sem.run_pure, Result.andThen_ok, List.map_toArray, List.map_cons, List.map_nil, hs, hx, hrun]
  exact hK _ _ (h v' w' (by rw [Own, List.length_append, hm]; exact h2) h3 h4)

theorem flat_succ {ls : List (List Int)} {k : Nat} (h : k < ls.length) : (ls.take (k + 1)).flatten = (ls.take k).flatten ++ ls.getD k [] := by
  rw [take_snoc_w h, List.flatten_append]; simp
theorem flat_le {ls : List (List Int)} {k : Nat} (h : ∀ z ∈ ls, z.length ≤ 1000) (hk : k ≤ ls.length) : ((ls.take k).flatten).length ≤ k * 1000 := by
  induction k with
  | zero => simp
  | succ k ih =>
    rw [flat_succ (by omega), List.length_append]
    have h1 := ih (by omega)
    have h2 : (ls.getD k []).length ≤ 1000 := h _ (by rw [List.getD, List.getElem?_eq_getElem (by omega)]; exact List.getElem_mem _)
    omega

set_option maxHeartbeats 1600000 in
set_option maxRecDepth 4000 in
theorem concat_any (A : Option Addr) (n c : Nat) (ls : List (List Int)) (w : World) (hx : RdL w w.heap.size A ls) (hn : ls.length = n) (hb : n ≤ 100) (hl : ∀ z ∈ ls, z.length ≤ 1000) :
    Calls Try.prog 23 #[.slice A n c] w (GivesD w ls.flatten) := by
  have HX := Lib.hid hx
  have HN := Lib.hid hn
  have HL := Lib.hid hl
  clear hx hn hl
  go_enter Try.func23, Try.ntmps23
  go_wp2_with fail
  go_loopw [3, 8] (fun v i wr => ∃ k : Nat, k ≤ n ∧ i = .int .i64 k ∧ Hid (Own wr w.heap.size v (ls.take k).flatten) ∧ Below w.heap.size w wr) (fun _ i _ => n - (intOf i).toNat)
  case atStart => exact ⟨0, Nat.zero_le _, rfl, World.ownsRow_nil _ _ _ _, Below.refl _ _⟩
  case round =>
    obtain ⟨k, hk, rfl, ho, hnx⟩ := hrel
    by_cases hlt : k < n
    · have k1 : (k : Int) < (n : Int) := by omega
      obtain ⟨b, off, rfl, hbb, hc1⟩ := (HX.out.below hnx (Nat.le_refl _)) (by have := HN.out; omega)
      obtain ⟨C, d, hcell, hrd, _, _⟩ := hc1 k (by have := HN.out; omega)
      have hs := Lib.hid (flat_succ (ls := ls) (k := k) (by have := HN.out; omega))
      have hfl := flat_le (k := k) HL.out (by have := HN.out; omega)
      have hzl : (ls.getD k []).length ≤ 1000 := HL.out _ (by rw [List.getD, List.getElem?_eq_getElem (by have := HN.out; omega)]; exact List.getElem_mem _)
      obtain ⟨m, hm⟩ : ∃ m, (ls.getD k []).length = m := ⟨_, rfl⟩
      rw [hm] at hcell hzl
      have HM := Lib.hid hm
      have HRD := Lib.hid hrd
      have hws := hnx.size
      clear hm hrd hc1
      go_wp2_with (at_builtin; refine wpList_app_at rfl (.tmp 12) (.tmp 13) rfl w.heap.size _ _ rfl ho.out w.heap.size C m d (ls.getD k []) rfl HRD.out HM.out (by omega) hws ?_)
      intro v' w1 hown1 hgrow _
      have HO1 := Lib.hid (show Own w1 w.heap.size v' (ls.take (k + 1)).flatten by rw [hs.out]; exact hown1)
      have HB1 := Lib.hid (hnx.grown hgrow hws (fun j hj => (ho.out.lt j hj).1))
      clear hown1 hgrow hnx hfl
      go_wp2_with fail
      go_roundw
      case rel => exact ⟨k + 1, by omega, by go_num, HO1, HB1.out⟩
      case measure => simp [intOf]; omega
    · have k1 : ¬ (k : Int) < (n : Int) := by omega
      have hf := Lib.hid (show GivesD w ls.flatten (.returned u3) wr by
        have := HN.out
        obtain ⟨A', c', e, hr, h1, h2⟩ := own_rdc ho.out
        rw [List.take_of_length_le (by omega)] at e hr h1
        exact ⟨A', c', by rw [e], hr, hnx, h1, h2⟩)
      go_wp2_with fail
      go_ret
      exact hf.out
end Go.Proofs.Ytdccmebkoibkhaa
