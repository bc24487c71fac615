/- The contracts of the reference's Behind and Put. -/
import Derived.Test.YtdccmebkoibkhaaRsMath
import Derived.Test.YtdccmebkoibkhaaWrmatch
import Derived.Test.YtdccmebkoibkhaaAppW
import Derived.Test.YtdccmebkoibkhaaWconcat
namespace Go.Proofs.Ytdccmebkoibkhaa
open Go.RowKit
set_option linter.unusedVariables false

theorem own_lit0 (w : World) (base : Nat) (hb : base ≤ w.heap.size) : Own (w.alloc (.cells #[] 3)) base (.slice (some ⟨w.heap.size, 0, none⟩) 0 0) [] :=
  World.ownsRow_lit (e := 3) (size := 1) w #[] 0 hb (by unfold maxLen; omega) rfl
set_option maxHeartbeats 1600000 in
set_option maxRecDepth 4000 in
theorem behind_any (A : Option Addr) (n c : Nat) (xs : List Int) (x : Int) (w : World) (hx : RdI w w.heap.size A xs) (hn : xs.length = n) (hb : n ≤ 1000) :
    Calls Try.prog 55 #[.slice A n c, .int .i64 x] w (GivesD w (xs ++ [x])) := by
  have HX := Lib.hid hx
  have HN := Lib.hid hn
  clear hx hn
  go_enter Try.func55, Try.ntmps55
  go_wp2_with (at_builtin; refine wpList_app_at rfl (.tmp 5) (.tmp 6) rfl w.heap.size _ [] rfl (own_lit0 w w.heap.size (Nat.le_refl _)) w.heap.size A n c xs rfl (HX.out.alloc (Nat.le_refl _) _) HN.out (by simp; omega) (by simp) ?_)
  intro v1 w1 hown hgrow _
  have HO := Lib.hid (show Own w1 w.heap.size v1 xs by simpa using hown)
  have HB := Lib.hid (((Below.refl w.heap.size w).alloc (Nat.le_refl _) (.cells #[] 3)).grown hgrow (by simp) (fun j hj => by cases hj; exact Nat.le_refl _))
  have hws := HB.out.size
  have hlx : xs.length + 1 ≤ 1000000 := by have := HN.out; omega
  clear hown hgrow
  go_wp2_with (at_builtin; refine wpList_app_at rfl (.tmp 7) (.tmp 9) rfl w.heap.size _ xs rfl (HO.out.alloc _) (w1.heap.size + 1) (some ⟨w1.heap.size, 0, none⟩) 1 1 [x] rfl (fun _ => ⟨w1.heap.size, 0, rfl, Nat.lt_succ_self _, fun j hj => by
      have hj0 : j = 0 := by simp at hj; omega
      subst hj0
      rw [World.cell?_alloc_at _ _ _ _ rfl]; rfl⟩) rfl hlx (by simp; omega) ?_)
  intro v2 w2 hown hgrow _
  have HO2 := Lib.hid (show Own w2 w.heap.size v2 (xs ++ [x]) from hown)
  have HB2 := Lib.hid ((HB.out.alloc hws (.cells #[.int .i64 x] 3)).grown hgrow (by simp; omega) (fun j hj => (HO.out.lt j hj).1))
  clear hown hgrow
  go_wp2_with fail
  go_ret
  obtain ⟨A', c', e, hr, h1, h2⟩ := own_rdc HO2.out
  exact ⟨A', c', by rw [← e]; rfl, hr, HB2.out, h1, h2⟩

/-- The slices of a list of words, each with its word. -/
def Row (W : World) (B : Nat) (vals : List Value) (zs : List (List Int)) : Prop := vals.length = zs.length ∧ ∀ j, j < zs.length → Sl W B (vals.getD j (.bool false)) (zs.getD j [])
theorem Row.below {W W' : World} {B : Nat} {vals : List Value} {zs : List (List Int)} (h : Row W B vals zs) (hb : Below B W W') : Row W' B vals zs := ⟨h.1, fun j hj => (h.2 j hj).below hb⟩
theorem Row.more {W : World} {B B' : Nat} {vals : List Value} {zs : List (List Int)} (h : Row W B vals zs) (hB : B ≤ B') : Row W B' vals zs := ⟨h.1, fun j hj => by
  obtain ⟨A, c, e, hr, h1, h2⟩ := h.2 j hj
  exact ⟨A, c, e, hr.more hB, h1, h2⟩⟩
theorem Row.app {W : World} {B : Nat} {v1 v2 : List Value} {z1 z2 : List (List Int)} (h1 : Row W B v1 z1) (h2 : Row W B v2 z2) : Row W B (v1 ++ v2) (z1 ++ z2) := by
  refine ⟨by simp [h1.1, h2.1], fun j hj => ?_⟩
  rw [List.length_append] at hj
  by_cases hlt : j < z1.length
  · have e1 : (v1 ++ v2).getD j (.bool false) = v1.getD j (.bool false) := by simp [List.getD, List.getElem?_append_left (show j < v1.length by have := h1.1; omega)]
    have e2 : (z1 ++ z2).getD j [] = z1.getD j [] := by simp [List.getD, List.getElem?_append_left hlt]
    rw [e1, e2]; exact h1.2 j hlt
  · have e1 : (v1 ++ v2).getD j (.bool false) = v2.getD (j - z1.length) (.bool false) := by simp [List.getD, List.getElem?_append_right (show v1.length ≤ j by have := h1.1; omega), h1.1]
    have e2 : (z1 ++ z2).getD j [] = z2.getD (j - z1.length) [] := by simp [List.getD, List.getElem?_append_right (show z1.length ≤ j by omega)]
    rw [e1, e2]; exact h2.2 _ (by omega)
theorem Row.nil (W : World) (B : Nat) : Row W B [] [] := ⟨rfl, fun j hj => by simp at hj⟩
theorem Row.one {W : World} {B : Nat} {v : Value} {z : List Int} (h : Sl W B v z) : Row W B [v] [z] := ⟨rfl, fun j hj => by
  have : j = 0 := by simp at hj; omega
  subst this; exact h⟩
theorem getD_of {vals : List Value} {j : Nat} {u : Value} (h : vals[j]? = some u) : vals.getD j (.bool false) = u := by simp [List.getD, h]
theorem sl_one {W : World} {B : Nat} {v : Value} {z : List Int} (h : Sl W B v z) : v.oneCell' = true := by obtain ⟨A, c, rfl, _⟩ := h; rfl
/-- What lies in memory as a list of words: its slices. -/
theorem rdl_row {W : World} {B : Nat} {A : Option Addr} {zs : List (List Int)} (h : RdL W B A zs) (h0 : 0 < zs.length) :
    ∃ b o vals, A = some ⟨b, o, none⟩ ∧ b < B ∧ Row W B vals zs ∧ ∀ j u, vals[j]? = some u → W.cell? ⟨b, o + j, none⟩ = some u := by
  obtain ⟨b, o, e, hb, hc⟩ := h h0
  refine ⟨b, o, (List.range zs.length).map (fun j => (W.cell? ⟨b, o + j, none⟩).getD (.bool false)), e, hb, ⟨by simp, fun j hj => ?_⟩, fun j u hu => ?_⟩
  · obtain ⟨C, c, h1, h2, h3, h4⟩ := hc j hj
    have : ((List.range zs.length).map (fun j => (W.cell? ⟨b, o + j, none⟩).getD (.bool false))).getD j (.bool false) = .slice C (zs.getD j []).length c := by
      simp only [List.getD, List.getElem?_map, List.getElem?_range hj, Option.map_some, Option.getD_some]
      rw [h1]; simp [List.getD]
    rw [this]
    exact ⟨C, c, rfl, h2, h3, h4⟩
  · have hj : j < zs.length := by simpa using (List.getElem?_eq_some_iff.1 hu).1
    obtain ⟨C, c, h1, _⟩ := hc j hj
    rw [List.getElem?_map, List.getElem?_range hj] at hu
    simp only [Option.map_some, h1, Option.getD_some, Option.some.injEq] at hu
    rw [h1, hu]
theorem row_rdl {W : World} {base : Nat} {v : Value} {vals : List Value} {zs : List (List Int)} (h : W.ownsRow base 22 1 v vals.length vals) (hr : Row W W.heap.size vals zs) : ∃ A c, v = .slice A zs.length c ∧ RdL W W.heap.size A zs ∧ zs.length ≤ c ∧ c ≤ 9223372036854775807 := by
  have hl := hr.1
  rcases h.2 with ⟨rfl, h0⟩ | ⟨g, cap, cur, rfl, hg, hh, hn, hcap, hsz, htake⟩
  · rw [← hl, h0]; exact ⟨none, 0, rfl, fun h => by omega, Nat.le_refl _, by omega⟩
  · refine ⟨some ⟨g, 0, none⟩, cap, by rw [hl], fun _ => ⟨g, 0, rfl, (h.lt g rfl).2, fun j hj => ?_⟩, by omega, by unfold maxLen at hcap; omega⟩
    obtain ⟨C, c, e, h1, h2, h3⟩ := hr.2 j hj
    refine ⟨C, c, ?_, h1, h2, h3⟩
    rw [Nat.zero_add, World.ownsRow.cellAt (cap := cap) h j (by omega)]
    rw [← e, List.getD, List.getElem?_eq_getElem (by omega)]; rfl

theorem run_appL {w : World} {base : Nat} {v : Value} {xs : List Value} (hown : w.ownsRow base 22 1 v xs.length xs) {B : Nat} {A : Option Addr} {m c : Nat} {zs : List (List Int)} (hr : RdL w B A zs) (hm : zs.length = m)
    (h63 : xs.length + m ≤ 100000) (hbase : base ≤ w.heap.size) (ty : TypeId) :
    ∃ v' w' vals, (Builtin.append_ #[37, 37] ty #[v, .slice A m c]).run Try.prog w = .ok v' w' ∧ w'.ownsRow base 22 1 v' (xs ++ vals).length (xs ++ vals) ∧ Row w B vals zs ∧ w.grownBy w' v.ownBlock := by
  obtain ⟨i0, hi, hz0, hz1, hz2⟩ := info_parts info_ints
  rcases Nat.eq_zero_or_pos zs.length with h0 | h0
  · have : zs = [] := List.eq_nil_of_length_eq_zero h0
    subst this
    obtain rfl : m = 0 := hm.symm
    have ht := Try.underlying37
    rcases A with _ | ad
    · refine ⟨v, w, [], ?_, by simpa using hown, Row.nil _ _, World.grownBy.refl w _⟩
      rcases hown.2 with ⟨rfl, e0⟩ | ⟨g, cap, cur, rfl, _, _, hnc, _⟩
      · simp [Builtin.append_, run_underlying ht, sizeOf, typeInfo, hi, Builtin.lenOf, Builtin.firstCells]
      · simp [Builtin.append_, run_underlying ht, sizeOf, typeInfo, hi, Builtin.lenOf, Builtin.firstCells, hnc, storeCells]
    · obtain ⟨v', w', hrun, h2, h3, _⟩ := run_append_own (P := Try.prog) w base 37 ty 22 i0 (.slice none 0 0) 1 24 Try.underlying37 hi hz0 hz1 hz2 rfl (by decide) v xs.length xs hown ad 0 c [] rfl (fun j u hu => by simp at hu) (fun u hu => by simp at hu) (by unfold maxLen; omega) (by omega) hbase
      exact ⟨v', w', [], hrun, by simpa using h2, Row.nil _ _, h3⟩
  · obtain ⟨b, o, vals, rfl, hb, hrow, hcell⟩ := rdl_row hr h0
    have hvl := hrow.1
    obtain ⟨v', w', hrun, h2, h3, _⟩ := run_append_own (P := Try.prog) w base 37 ty 22 i0 (.slice none 0 0) 1 24 Try.underlying37 hi hz0 hz1 hz2 rfl (by decide) v xs.length xs hown ⟨b, o, none⟩ m c vals (by rw [hvl, hm]; omega)
      (fun j u hu => by rw [show ((⟨b, o, none⟩ : Addr).add j) = ⟨b, o + j, none⟩ from by unfold Addr.add; split <;> simp_all]; exact hcell j u hu)
      (fun u hu => by
        obtain ⟨j, hj, rfl⟩ := List.mem_iff_getElem.1 hu
        have := hrow.2 j (by omega)
        rw [getD_of (List.getElem?_eq_getElem hj)] at this
        exact sl_one this) (by unfold maxLen; omega) (by omega) hbase
    exact ⟨v', w', vals, hrun, (show (xs ++ vals).length = xs.length + m by rw [List.length_append, hvl, hm]) ▸ h2, hrow, h3⟩
theorem wpList_appL {w : World} {ops : Array Oper} {rest : List Oper} {o : Oper} {a : Act} {Q : Exit → Act → World → Prop} (hgd : o.guard = none) (s x : Operand)
    (ho : o.op = .call { callee := .builtin .append, args := #[s, x], argTypes := #[37, 37] }) (base : Nat) (v : Value) (xs : List Value) (hs : a.eval s = v) (hown : w.ownsRow base 22 1 v xs.length xs)
    (B : Nat) (A : Option Addr) (m c : Nat) (zs : List (List Int)) (hx : a.eval x = .slice A m c) (hr : RdL w B A zs) (hm : zs.length = m) (h63 : xs.length + m ≤ 100000) (hbase : base ≤ w.heap.size)
    (h : ∀ v' w' vals, w'.ownsRow base 22 1 v' (xs ++ vals).length (xs ++ vals) → Row w B vals zs → w.grownBy w' v.ownBlock → wpList Try.prog ops Q rest (a.put o.dst v') w') : wpList Try.prog ops Q (o :: rest) a w := by
  refine wpList_plain hgd fun K hK => ?_
  obtain ⟨v', w', vals, hrun, h2, h3, h4⟩ := run_appL hown hr hm h63 hbase o.type (c := c)
  unfold Oper.wp execOp
  simp only [ho, resolve, invoke, builtin, Sem.run_bind, Sem.run_pure, Result.andThen_ok, List.map_toArray, List.map_cons, List.map_nil, hs, hx, hrun]
  exact hK _ _ (h v' w' vals h2 h3 h4)
theorem RdL.take {W : World} {B : Nat} {A : Option Addr} {zs : List (List Int)} (h : RdL W B A zs) (k : Nat) : RdL W B A (zs.take k) := fun h0 => by
  rw [List.length_take] at h0
  obtain ⟨b, o, e, hb, hc⟩ := h (by omega)
  refine ⟨b, o, e, hb, fun j hj => ?_⟩
  rw [List.length_take] at hj
  have := hc j (by omega)
  simpa [List.getD, show j < k by omega] using this
theorem RdL.drop {W : World} {B b o : Nat} {zs : List (List Int)} (h : RdL W B (some ⟨b, o, none⟩) zs) (k : Nat) : RdL W B (some ⟨b, o + k, none⟩) (zs.drop k) := fun h0 => by
  rw [List.length_drop] at h0
  obtain ⟨b', o', e, hb, hc⟩ := h (by omega)
  cases e
  refine ⟨b, o + k, rfl, hb, fun j hj => ?_⟩
  rw [List.length_drop] at hj
  have := hc (k + j) (by omega)
  rw [show o + k + j = o + (k + j) from by omega]
  simpa [List.getD] using this
theorem RdL.dr {w : World} {B : Nat} {A : Option Addr} {zs : List (List Int)} (h : RdL w B A zs) (q : Nat) : RdL (w.drewN q) B A zs := h
end Go.Proofs.Ytdccmebkoibkhaa
