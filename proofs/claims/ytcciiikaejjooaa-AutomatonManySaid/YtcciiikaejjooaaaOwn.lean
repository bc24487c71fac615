/- Layer 3, the ground: lists of the call's own: appends, Clone, slices.Equal of ints. -/
import Derived.Test.YtcciiikaejjooaaaBase
import Derived.OwnWalk
namespace Go.Proofs.Ytcciiikaejjooaa
open Go.RowKit


theorem info_int : (Try.prog.info? 3).map (fun i => (i.zero, i.size, i.bytes)) = some (some (.int .i64 0), 1, 8) := by kernel_rfl

/-- The slice value owns, among the blocks from base on, these ints. -/
abbrev Own (w : World) (base : Nat) (v : Value) (zs : List Int) : Prop := w.ownsRow base 3 1 v zs.length (zs.map (Value.int .i64))

theorem filter_take_yes {p : Int → Bool} {zs : List Int} {k : Nat} (h : k < zs.length) (hp : p (zs.getD k 0) = true) : (zs.take (k + 1)).filter p = (zs.take k).filter p ++ [zs.getD k 0] := by
  rw [List.take_succ_eq_append_getElem h, List.filter_append]
  have e : zs.getD k 0 = zs[k] := by simp [List.getD, List.getElem?_eq_getElem h]
  rw [e] at hp ⊢
  simp [hp]
theorem filter_take_no {p : Int → Bool} {zs : List Int} {k : Nat} (h : k < zs.length) (hp : p (zs.getD k 0) = false) : (zs.take (k + 1)).filter p = (zs.take k).filter p := by
  rw [List.take_succ_eq_append_getElem h, List.filter_append]
  have e : zs.getD k 0 = zs[k] := by simp [List.getD, List.getElem?_eq_getElem h]
  rw [e] at hp
  simp [hp]
theorem filter_take_le (p : Int → Bool) (zs : List Int) (k : Nat) : ((zs.take k).filter p).length ≤ k := Nat.le_trans (List.length_filter_le _ _) (List.length_take_le _ _)
theorem filter_take_all {p : Int → Bool} {zs : List Int} {k : Nat} (h : zs.length = k) : (zs.take k).filter p = zs.filter p := by
  rw [List.take_of_length_le (by omega)]
/-- What an append of one number, which first lies in a new block, leaves. -/
theorem own_app {B : Nat} {K K' : List Int} {x : Int} {w wr w1 : World} {u v' : Value} {o : Obj} (hK : K' = K ++ [x]) (hnx : Below B w wr) (hown : Own wr B u K)
    (hown' : w1.ownsRow B 3 1 v' (K.length + 1) (K.map (Value.int .i64) ++ [.int .i64 x])) (hgrow : (wr.alloc o).grownBy w1 u.ownBlock) (hB : B ≤ w.heap.size) : Own w1 B v' K' ∧ Below B w w1 := by
  subst hK
  have := hnx.size
  exact ⟨by simpa [Own] using hown', (hnx.alloc (by omega) o).grown hgrow (by simp; omega) (fun j hj => by have := (hown.lt j hj).1; omega)⟩
theorem own_one {w : World} {x : Int} : ∀ j u, [Value.int .i64 x][j]? = some u → (w.alloc (.cells #[.int .i64 x] 3)).cell? ((⟨w.heap.size, 0, none⟩ : Addr).add j) = some u := by
  intro j u hj
  match j, hj with
  | 0, hj => simp at hj; subst hj; simp [Addr.add]

theorem own_rd {w : World} {base : Nat} {v : Value} {zs : List Int} (h : Own w base v zs) : ∃ A c, v = .slice A zs.length c ∧ RdI w w.heap.size A zs := by
  rcases h.2 with ⟨rfl, h0⟩ | ⟨g, cap, cur, rfl, hg, hh, hn, hcap, hsz, htake⟩
  · rw [h0]; exact ⟨none, 0, rfl, fun h => by omega⟩
  · refine ⟨some ⟨g, 0, none⟩, cap, rfl, fun _ => ⟨g, 0, rfl, (h.lt g rfl).2, fun j hj => ?_⟩⟩
    rw [Nat.zero_add, World.ownsRow.cellAt (cap := cap) h j (by omega), List.getElem?_map, List.getElem?_eq_getElem hj]
    simp [List.getD, List.getElem?_eq_getElem hj]

/-- What a function hands back that makes a list of ints in new memory. -/
def Gives (w : World) (zs : List Int) (e : Ending) (w' : World) : Prop := ∃ A c, e = .returned (.slice A zs.length c) ∧ RdI w' w'.heap.size A zs ∧ Below w.heap.size w w'


/-- What a function hands back that makes a list of ints in new memory, the capacity told. -/
def GivesC (w : World) (zs : List Int) (e : Ending) (w' : World) : Prop := ∃ A c, e = .returned (.slice A zs.length c) ∧ RdI w' w'.heap.size A zs ∧ Below w.heap.size w w' ∧ zs.length ≤ c ∧ c ≤ 9223372036854775807
theorem own_rdc {w : World} {base : Nat} {v : Value} {zs : List Int} (h : Own w base v zs) : ∃ A c, v = .slice A zs.length c ∧ RdI w w.heap.size A zs ∧ zs.length ≤ c ∧ c ≤ 9223372036854775807 := by
  obtain ⟨A, c, e, hr⟩ := own_rd h
  refine ⟨A, c, e, hr, ?_⟩
  rcases h.2 with ⟨rfl, h0⟩ | ⟨g, cap, cur, rfl, hg, hh, hn, hcap, hsz, htake⟩
  · injection e with _ e1 e2; omega
  · injection e with _ e1 e2; unfold maxLen at hcap; omega
theorem own_kept {w w' : World} {B : Nat} {v : Value} {zs : List Int} (h : Own w B v zs) (hb : Below w.heap.size w w') : Own w' B v zs :=
  World.ownsRow.kept (row := none) h ⟨hb.os, hb.tape, hb.output, hb.size, fun i hi _ => hb.block i hi⟩ (Classical.em _)

theorem own_dr {w : World} {base n : Nat} {e : TypeId} {sz : Nat} {v : Value} {xs : List Value} (h : w.ownsRow base e sz v n xs) (q : Nat) : (w.drewN q).ownsRow base e sz v n xs := h
theorem RdI.dr {w : World} {B : Nat} {A : Option Addr} {zs : List Int} (h : RdI w B A zs) (q : Nat) : RdI (w.drewN q) B A zs := h

/-- An append of a slice that reads as a list, nil and empty let in. -/
theorem run_app_rd {w : World} {base : Nat} {v : Value} {n : Nat} {xs : List Int} (hown : w.ownsRow base 3 1 v n (xs.map (Value.int .i64))) {B : Nat} {A : Option Addr} {m c : Nat} {zs : List Int} (hr : RdI w B A zs) (hm : zs.length = m)
    (h63 : n + m ≤ maxLen) (hbytes : (n + m) * 8 ≤ 140737488355328) (hbase : base ≤ w.heap.size) (ty : TypeId) :
    ∃ v' w', (Builtin.append_ #[22, 22] ty #[v, .slice A m c]).run Try.prog w = .ok v' w' ∧ w'.ownsRow base 3 1 v' (n + m) ((xs ++ zs).map (Value.int .i64)) ∧ w.grownBy w' v.ownBlock := by
  obtain ⟨i0, hi, hz0, hz1, hz2⟩ := info_parts info_int
  rcases A with _ | ad
  · have hz : zs = [] := by
      rcases Nat.eq_zero_or_pos zs.length with h | h
      · exact List.eq_nil_of_length_eq_zero h
      · obtain ⟨b, o, e, _⟩ := hr h; cases e
    subst hz
    obtain rfl : m = 0 := hm.symm
    refine ⟨v, w, ?_, by simpa using hown, World.grownBy.refl w _⟩
    have ht := Try.underlying22
    rcases hown.2 with ⟨rfl, rfl⟩ | ⟨g, cap, cur, rfl, _, _, hnc, _⟩
    · simp [Builtin.append_, run_underlying ht, sizeOf, typeInfo, hi, Builtin.lenOf, Builtin.firstCells]
    · simp [Builtin.append_, run_underlying ht, sizeOf, typeInfo, hi, Builtin.lenOf, Builtin.firstCells, hnc, storeCells]
  · have hnews : ∀ j u, (zs.map (Value.int .i64))[j]? = some u → w.cell? (ad.add j) = some u := fun j u hu => by
      have hj : j < zs.length := by simpa using (List.getElem?_eq_some_iff.1 hu).1
      obtain ⟨b, o, e, hb, hc⟩ := hr (by omega)
      cases e
      rw [show ((⟨b, o, none⟩ : Addr).add j) = ⟨b, o + j, none⟩ from by unfold Addr.add; split <;> simp_all, hc j hj]
      rw [List.getElem?_map, List.getElem?_eq_getElem hj] at hu
      simp only [Option.map_some, Option.some.injEq] at hu
      rw [← hu]; simp [List.getD, List.getElem?_eq_getElem hj]
    obtain ⟨v', w', hrun, h2, h3, _⟩ := run_append_own (P := Try.prog) w base 22 ty 3 i0 (.int .i64 0) 1 8 Try.underlying22 hi hz0 hz1 hz2 rfl (by decide) v n _ hown ad m c (zs.map (Value.int .i64)) (by simpa using hm) hnews
      (fun u hu => by obtain ⟨x, _, rfl⟩ := List.mem_map.1 hu; rfl) h63 hbytes hbase
    exact ⟨v', w', hrun, by rw [List.map_append]; exact h2, h3⟩
theorem wpList_app_rd {w : World} {ops : Array Oper} {rest : List Oper} {o : Oper} {a : Act} {Q : Exit → Act → World → Prop} (hgd : o.guard = none) (s x : Operand)
    (ho : o.op = .call { callee := .builtin .append, args := #[s, x], argTypes := #[22, 22] }) (base : Nat) (v : Value) (n : Nat) (xs : List Int) (hs : a.eval s = v) (hown : w.ownsRow base 3 1 v n (xs.map (Value.int .i64)))
    (B : Nat) (A : Option Addr) (m c : Nat) (zs : List Int) (hx : a.eval x = .slice A m c) (hr : RdI w B A zs) (hm : zs.length = m) (h63 : n + m ≤ maxLen) (hbytes : (n + m) * 8 ≤ 140737488355328) (hbase : base ≤ w.heap.size)
    (h : ∀ v' w', w'.ownsRow base 3 1 v' (n + m) ((xs ++ zs).map (Value.int .i64)) → w.grownBy w' v.ownBlock → wpList Try.prog ops Q rest (a.put o.dst v') w') : wpList Try.prog ops Q (o :: rest) a w := by
  refine wpList_plain hgd fun K hK => ?_
  obtain ⟨v', w', hrun, h2, h3⟩ := run_app_rd hown hr hm h63 hbytes hbase o.type (c := c)
  unfold Oper.wp execOp
  simp only [ho, resolve, invoke, builtin, Sem.run_bind, Sem.run_pure, Result.andThen_ok, List.map_toArray, List.map_cons, List.map_nil, hs, hx, hrun]
  exact hK _ _ (h v' w' h2 h3)

theorem below_gr {B n : Nat} {wr w1 : World} {v : Value} {xs : List Value} (hown : wr.ownsRow B 3 1 v n xs) (hg : wr.grownBy w1 v.ownBlock) (hB : B ≤ wr.heap.size) : Below B wr w1 :=
  (Below.refl _ _).grown hg hB (fun k hk => (hown.lt k hk).1)

theorem sliceNil_yes (n c : Nat) (W : World) : (binOp .eql 22 (.slice none n c) (.slice none 0 0)).run Try.prog W = .ok (.bool true) W := by kernel_rfl
theorem sliceNil_no (ad : Addr) (n c : Nat) (W : World) : (binOp .eql 22 (.slice (some ad) n c) (.slice none 0 0)).run Try.prog W = .ok (.bool false) W := by kernel_rfl

set_option maxHeartbeats 800000 in
set_option maxRecDepth 4000 in
theorem clone_own (A : Option Addr) (n c : Nat) (zs : List Int) (w : World) (hx : RdI w w.heap.size A zs) (hn : zs.length = n) (hb : n * 8 ≤ 140737488351232) :
    Calls Try.prog 71 #[.slice A n c] w fun e w' => ∃ v, e = .returned v ∧ Own w' w.heap.size v zs ∧ Below w.heap.size w w' := by
  rcases A with _ | ad
  · have hz : zs = [] := by
      rcases Nat.eq_zero_or_pos zs.length with h | h
      · exact List.eq_nil_of_length_eq_zero h
      · obtain ⟨b, o, e, _⟩ := hx h; cases e
    subst hz
    obtain rfl : n = 0 := hn.symm
    clear hx hn
    have hq := sliceNil_yes 0 c
    go_enter Try.func71, Try.ntmps71
    go_wp2_with fail
    go_ret
    exact ⟨_, rfl, World.ownsRow_nil _ _ _ _, Below.refl _ _⟩
  · have HX := Lib.hid hx
    have HN := Lib.hid hn
    clear hx hn
    have hq := sliceNil_no ad n c
    go_enter Try.func71, Try.ntmps71
    have hb1 : Below w.heap.size w (w.alloc (.cells #[] 3)) := (Below.refl _ _).alloc (Nat.le_refl _) _
    have hown0 := World.ownsRow_lit (e := 3) (size := 1) w #[] 0 (Nat.le_refl w.heap.size) (by unfold maxLen; omega) rfl
    have HO := Lib.hid hown0
    have HB1 := Lib.hid hb1
    clear hb1 hown0
    go_wp2_with (at_builtin; refine wpList_app_rd rfl (.tmp 5) (.tmp 6) rfl w.heap.size _ 0 [] rfl HO.out w.heap.size (some ad) n c zs rfl (HX.out.below HB1.out (Nat.le_refl _)) HN.out (by unfold maxLen; omega) (by omega) (by simp) ?_)
    intro v' w1 hown1 hgrow
    have R := HB1.out.trans ((Below.refl w.heap.size _).grown hgrow (by simp) (fun k hk => (HO.out.lt k hk).1))
    have R1 := Lib.hid (show Own w1 w.heap.size v' zs by unfold Own; rw [HN.out]; simpa using hown1)
    clear hown1 hgrow
    go_wp2_with fail
    go_ret
    exact ⟨v', rfl, R1.out, R⟩
theorem clone_any (A : Option Addr) (n c : Nat) (zs : List Int) (w : World) (hx : RdI w w.heap.size A zs) (hn : zs.length = n) (hb : n * 8 ≤ 140737488351232) :
    Calls Try.prog 71 #[.slice A n c] w fun e w' => GivesC w zs e w' :=
  (clone_own A n c zs w hx hn hb).mono fun e w' ⟨v, e1, ho, hbel⟩ => by
    obtain ⟨A', c', e', hr, h1, h2⟩ := own_rdc ho
    exact ⟨A', c', by rw [e1, e'], hr, hbel, h1, h2⟩
theorem clone_sl (A : Option Addr) (n c : Nat) (zs : List Int) (w : World) (hx : RdI w w.heap.size A zs) (hn : zs.length = n) (hb : n * 8 ≤ 140737488351232) :
    Calls Try.prog 71 #[.slice A n c] w fun e w' => ∃ A' c', e = .returned (.slice A' zs.length c') ∧ Own w' w.heap.size (.slice A' zs.length c') zs ∧ Below w.heap.size w w' :=
  (clone_own A n c zs w hx hn hb).mono fun e w' ⟨v, e1, ho, hbel⟩ => by
    obtain ⟨A', c', e', hr, h1, h2⟩ := own_rdc ho
    exact ⟨A', c', by rw [e1, e'], by rw [← e']; exact ho, hbel⟩

set_option maxHeartbeats 400000 in
theorem equalInt_any (A B : Option Addr) (n m c d Bx By : Nat) (xs ys : List Int) (w : World) (hx : RdI w Bx A xs) (hy : RdI w By B ys) (hn : xs.length = n) (hm : ys.length = m) (hb : n ≤ 140737488355328) (hb' : m ≤ 140737488355328) :
    Calls Try.prog 68 #[.slice A n c, .slice B m d] w fun e w' => e = .returned (.bool (decide (xs = ys))) ∧ ∃ q, w' = w.drewN q := by
  by_cases hnm : n = m
  · subst hnm
    have HN := Lib.hid hn
    have HM := Lib.hid hm
    clear hn hm
    go_enter Try.func68, Try.ntmps68
    go_wp2
    go_loopw [13] (fun i wr => ∃ k : Nat, k ≤ n ∧ i = .int .i64 k ∧ Hid (xs.take k = ys.take k) ∧ ∃ q, wr = w.drewN q) (fun i _ => n - (intOf i).toNat)
    case atStart => exact ⟨0, Nat.zero_le _, rfl, rfl, 0, rfl⟩
    case round =>
      obtain ⟨k, hk, rfl, ht, q, rfl⟩ := hrel
      by_cases hlt : k < n
      · obtain ⟨b1, o1, rfl, _, hc1⟩ := hx (by rw [HN.out]; omega)
        obtain ⟨b2, o2, rfl, _, hc2⟩ := hy (by rw [HM.out]; omega)
        have h1 := hc1 k (by rw [HN.out]; exact hlt)
        have h2 := hc2 k (by rw [HM.out]; exact hlt)
        clear hc1 hc2 hx hy
        obtain ⟨x, hx⟩ : ∃ x, x = xs.getD k 0 := ⟨_, rfl⟩
        obtain ⟨y, hy⟩ : ∃ y, y = ys.getD k 0 := ⟨_, rfl⟩
        rw [← hx] at h1
        rw [← hy] at h2
        by_cases hxy : x = y
        · have hs := Lib.hid (eq_take_step (by rw [HN.out]; exact hlt) (by rw [HM.out]; exact hlt) ht.out (by rw [← hx, ← hy]; exact hxy))
          have hne : (x != y) = false := by simp [hxy]
          clear hx hy hxy ht
          go_wp2
          go_quiet (fail)
          go_wp2
          go_roundw
          case rel => exact ⟨k + 1, by omega, by go_num, hs, by first | exact ⟨_, rfl⟩ | exact dr_add _ _ _⟩
          case measure => simp [intOf]; omega
        · have hf := Lib.hid (ne_of_getD (xs := xs) (ys := ys) (k := k) (by rw [← hx, ← hy]; exact hxy))
          have hne : (x != y) = true := by simp [hxy]
          clear hx hy hxy ht
          go_wp2
          go_quiet (fail)
          go_wp2
          go_ret
          exact ⟨ret_bool hf.out.symm, by first | exact ⟨_, rfl⟩ | exact dr_add _ _ _⟩
      · have hkn : k = n := by omega
        have hf := Lib.hid (eq_of_take (xs := xs) (ys := ys) (by rw [HN.out, HM.out]) (by rw [HN.out, ← hkn]; exact ht.out))
        clear hkn ht
        go_wp2
        go_ret
        exact ⟨ret_bool hf.out.symm, _, rfl⟩
  · have hf : decide (xs = ys) = false := by simp only [decide_eq_false_iff_not]; rintro rfl; omega
    have hne : ((n : Int) != (m : Int)) = true := by simp; omega
    clear hn hm
    go_enter Try.func68, Try.ntmps68
    go_wp2
    go_ret
    exact ⟨ret_bool hf.symm, 0, rfl⟩

theorem RdI.take {w : World} {B : Nat} {A : Option Addr} {zs : List Int} (h : RdI w B A zs) (k : Nat) : RdI w B A (zs.take k) := fun h0 => by
  rw [List.length_take] at h0
  obtain ⟨b, o, e, hb, hc⟩ := h (by omega)
  refine ⟨b, o, e, hb, fun j hj => ?_⟩
  rw [List.length_take] at hj
  rw [hc j (by omega), List.getD, List.getD, List.getElem?_take_of_lt (by omega)]

end Go.Proofs.Ytcciiikaejjooaa
