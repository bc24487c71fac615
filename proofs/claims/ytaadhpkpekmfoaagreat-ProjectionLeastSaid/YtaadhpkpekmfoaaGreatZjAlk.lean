/- Layer 7: Alike. -/
import Derived.Test.YtaadhpkpekmfoaaGreatZa10
import Derived.Test.YtaadhpkpekmfoaaGreatZa5
import Derived.Maps.OwnOps
import Derived.Maps.Views
import Derived.Lib.SliceRun
import Derived.Laws.IdiomCopy
import Derived.Deep.RegionHeld3
set_option linter.unusedVariables false
set_option linter.unusedSimpArgs false
set_option linter.unusedSectionVars false
namespace Go.Proofs.YtaadhpkpekmfoaaGreat
open Go.RowKit Go.Sort Go.Maps Go.WideMaps

theorem zeroBoolJ (w : World) : (zeroValue 4).run Tryz.prog w = .ok (.bool false) w := by kernel_rfl
theorem zeroIntA (w : World) : (zeroValue 3).run Tryz.prog w = .ok (.int .i64 0) w := by kernel_rfl
theorem lawInt : Keyed Tryz.prog 3 := int_keyed Tryz.underlying3
theorem mk_hintA {P : Program} (t k e : TypeId) (kd : IntKind) (n : Int) (ht : P.underlying t = some (.map k e)) (w : World) :
    (Instr.makeMap t (some (.int kd n))).run P w = .ok (.map (some w.heap.size)) (w.alloc (.map #[] 0)) := by
  simp [Instr.makeMap, run_underlying ht]; rfl
theorem gr_of_belowA {w w' : World} (hb : Below w.heap.size w w') : w.grownBy w' none := ⟨hb.os, hb.tape, hb.output, hb.size, fun i hi _ => hb.block i hi⟩
/-- A map that tells of each number whether it is in a list. -/
structure KB (w : World) (B M n : Nat) (on : List Int) : Prop where
  bx : Row w B 118 [.map (some M)]
  mp : ∃ D : DataW Unit, w.ownsMap Tryz.prog 3 (plainElem Tryz.prog 4) M n D ∧ IsMap D ∧ ∀ x : Int, D.atKey (.int .i64 x) (.lit (.bool false)) = .lit (.bool (decide (x ∈ on)))
theorem KB.below {w w' : World} {B M n : Nat} {on : List Int} (h : KB w B M n on) (hb : Below w.heap.size w w') : KB w' B M n on := by
  obtain ⟨D, h1, h2, h3⟩ := h.mp
  exact ⟨h.bx.below hb h.bx.lt, D, h1.kept (gr_of_belowA hb) (by simp), h2, h3⟩
theorem KB.below2 {w w' : World} {B M n C : Nat} {on : List Int} (h : KB w B M n on) (hb : Below C w w') (hB : B < C) (hM : M < C) : KB w' B M n on := by
  obtain ⟨D, h1, h2, h3⟩ := h.mp
  refine ⟨h.bx.below hb hB, D, ?_, h2, h3⟩
  obtain ⟨es, clock, hm, r⟩ := h1
  exact ⟨es, clock, by rw [hb.block M hM]; exact hm, r⟩
theorem KB.lt {w : World} {B M n : Nat} {on : List Int} (h : KB w B M n on) : B < w.heap.size ∧ M < w.heap.size := by
  obtain ⟨D, h1, _, _⟩ := h.mp
  exact ⟨h.bx.lt, h1.lt⟩
theorem look_kb {w : World} {B M n : Nat} {on : List Int} (h : KB w B M n on) {x : Int} (hx : (Lit.int .i64 x).wf = true) : (Instr.lookup 118 (.map (some M)) (.int .i64 x) false).run Tryz.prog w = .ok (.bool (decide (x ∈ on))) w := by
  obtain ⟨D, h1, h2, h3⟩ := h.mp
  obtain ⟨v, ps, hr, hv⟩ := h1.lookup (t := 118) lawInt Tryz.underlying118 (zeroBoolJ w) (plainElem_bool Tryz.underlying4 false) (keyOf_int_mk Tryz.underlying3 hx)
  rw [h3 x] at hv
  rw [hr]
  cases v with
  | bool b =>
    rw [plainElem_bool Tryz.underlying4 b] at hv
    simp only [Option.some.injEq, Prod.mk.injEq, DataW.lit.injEq, Lit.bool.injEq] at hv
    rw [hv.1]
  | _ => simp [plainElem, Tryz.underlying4] at hv
set_option maxHeartbeats 4000000 in
theorem alikeP_any (B M n : Nat) (on : List Int) (x : Int) (w : World) (h : KB w B M n on) (hx : (Lit.int .i64 x).wf = true) :
    Calls Tryz.prog 79 #[.int .i64 x, .pointer (some ⟨B, 0, none⟩)] w fun e w' => e = .returned (.bool (!decide (x ∈ on))) ∧ w = w' := by
  have hl := look_kb h hx
  have h0 := h.bx.cell 0 rfl
  obtain ⟨r, hr⟩ : ∃ r, r = decide (x ∈ on) := ⟨_, rfl⟩
  rw [← hr] at hl ⊢
  clear h hr
  go_enter Tryz.func79, Tryz.ntmps79
  go_wp2_with fail
  go_ret
  exact ⟨rfl, rfl⟩
theorem callA_any (args : Array Value) (W : World) : (callFunc 79 args).run Tryz.prog W = .ok (.enter 79 args) W := by
  go_simp
set_option maxHeartbeats 4000000 in
set_option maxRecDepth 100000 in
theorem indexA_any (b : Nat) (A : Option Addr) (n c B : Nat) (zs : List Int) (p : Int → Bool) (w : World) (hp : ∀ x ∈ zs, ∀ W, Below B w W → Calls Tryz.prog 79 #[.int .i64 x, .pointer (some ⟨b, 0, none⟩)] W fun e w' => e = .returned (.bool (p x)) ∧ W = w') (hx : RdI w B A zs) (hn : zs.length = n) (hb : n ≤ 100000) :
    Calls Tryz.prog 92 #[.slice A n c, .func (.func 79) #[] #[.pointer (some ⟨b, 0, none⟩)]] w fun e w' => ((e = .returned (.int .i64 (-1)) ∧ ∀ x ∈ zs, p x = false) ∨ ∃ t : Nat, t < n ∧ e = .returned (.int .i64 (t : Int)) ∧ p (zs.getD t 0) = true ∧ ∀ x ∈ zs.take t, p x = false) ∧ w = w' := by
  have HP := Lib.hid hp
  have HX := Lib.hid hx
  have HN := Lib.hid hn
  clear hp hx hn
  go_enter Tryz.func92, Tryz.ntmps92
  go_wp2_with fail
  go_loopw [8] (fun iv wr => ∃ k : Nat, k ≤ n ∧ iv = .int .i64 k ∧ Hid (∀ x ∈ zs.take k, p x = false) ∧ wr = w) (fun i _ => n - (intOf i).toNat)
  case atStart => exact ⟨0, Nat.zero_le _, rfl, Lib.hid (by simp), rfl⟩
  case round =>
    obtain ⟨k, hk, rfl, ha, rfl⟩ := hrel
    by_cases hlt : k < n
    · obtain ⟨b1, o1, rfl, hb1, hc1⟩ := HX.out (by rw [HN.out]; omega)
      have hz : k < zs.length := by rw [HN.out]; exact hlt
      have h1 := hc1 k hz
      have hm := getD_mem hz
      obtain ⟨x, hxe⟩ : ∃ x, x = zs.getD k 0 := ⟨_, rfl⟩
      rw [← hxe] at h1 hm
      have HC := Lib.hid (HP.out x hm _ (Below.refl _ _))
      obtain ⟨r, hr⟩ : ∃ r, p x = r := ⟨_, rfl⟩
      rw [hr] at HC
      have z0 : (k : Int) < (n : Int) := by omega
      have z1 : (0 : Int) ≤ (k : Int) := by omega
      cases r
      · have ha2 := Lib.hid (show ∀ y ∈ zs.take (k + 1), p y = false from fun y hy => by
          rw [List.take_succ_eq_append_getElem hz, List.mem_append, List.mem_singleton] at hy
          rcases hy with hy | hy
          · exact ha.out y hy
          · rw [hy, ← hr, hxe, List.getD, List.getElem?_eq_getElem hz]; rfl)
        clear hc1 hz hxe hr ha hm
        go_wp2_with fail
        refine HC.out.mono ?_
        rintro e w5 ⟨rfl, hw5⟩
        subst hw5
        go_wp2_with fail
        go_roundw
        case rel => exact ⟨k + 1, by omega, by go_num, ha2, by first | rfl | trivial⟩
        case measure => simp [intOf]; omega
      · have ha2 := Lib.hid (show p (zs.getD k 0) = true by rw [← hxe]; exact hr)
        clear hc1 hz hxe hr hm
        go_wp2_with fail
        refine HC.out.mono ?_
        rintro e w5 ⟨rfl, hw5⟩
        subst hw5
        go_wp2_with fail
        go_ret
        exact ⟨.inr ⟨k, hlt, rfl, ha2.out, ha.out⟩, rfl⟩
    · have hkn : k = n := by omega
      have ha2 := Lib.hid (show ∀ x ∈ zs, p x = false from fun x hx => ha.out x (by rw [List.take_of_length_le (by rw [HN.out]; omega)]; exact hx))
      have z0 : (n : Int) ≤ (k : Int) := by omega
      clear ha
      go_wp2_with fail
      go_ret
      exact ⟨.inl ⟨rfl, ha2.out⟩, rfl⟩
/-- Memory while elements are struck out of a list. -/
structure DI (base : Nat) (w wr : World) (g n : Nat) (ws : List Int) (kp : Int → Bool) (i j : Nat) (cs : List Int) : Prop where
  bel : Below base w wr
  len : cs.length = n
  wln : ws.length = n
  cel : ∀ t, t < n → wr.cell? ⟨g, t, none⟩ = some (.int .i64 (cs.getD t 0)) ∧ wr.frozen? ⟨g, t, none⟩ = false
  lo : cs.take i = (ws.take j).filter kp
  hi : cs.drop j = ws.drop j
  ij : i < j
  jn : j ≤ n
  gb : base ≤ g
theorem getD_drop {l r : List Int} {j : Nat} (h : l.drop j = r.drop j) : l.getD j 0 = r.getD j 0 := by
  have h1 := congrArg (fun z => z[0]?) h
  simp only [List.getElem?_drop, Nat.add_zero] at h1
  rw [List.getD, List.getD, h1]
theorem drop_succ_eq {l r : List Int} {j : Nat} (h : l.drop j = r.drop j) : l.drop (j + 1) = r.drop (j + 1) := by
  have h1 := congrArg (fun z => z.drop 1) h
  simpa [List.drop_drop] using h1
theorem DI.skip {base : Nat} {w wr : World} {g n : Nat} {ws : List Int} {kp : Int → Bool} {i j : Nat} {cs : List Int} (h : DI base w wr g n ws kp i j cs) (hj : j < n) (hk : kp (ws.getD j 0) = false) : DI base w wr g n ws kp i (j + 1) cs := by
  have hw : j < ws.length := by rw [h.wln]; exact hj
  have e : ws[j] = ws.getD j 0 := by simp [List.getD, List.getElem?_eq_getElem hw]
  refine ⟨h.bel, h.len, h.wln, h.cel, ?_, drop_succ_eq h.hi, Nat.lt_succ_of_lt h.ij, hj, h.gb⟩
  rw [h.lo, List.take_succ_eq_append_getElem hw, List.filter_append, e, List.filter_cons_of_neg (by rw [hk]; decide), List.filter_nil, List.append_nil]
theorem DI.keep {base : Nat} {w wr : World} {g n : Nat} {ws : List Int} {kp : Int → Bool} {i j : Nat} {cs : List Int} (h : DI base w wr g n ws kp i j cs) (hj : j < n) (hk : kp (ws.getD j 0) = true) :
    DI base w (wr.setCell ⟨g, i, none⟩ (.int .i64 (ws.getD j 0))) g n ws kp (i + 1) (j + 1) (cs.set i (ws.getD j 0)) := by
  have hw : j < ws.length := by rw [h.wln]; exact hj
  have hij := h.ij
  have hln := h.len
  have e : ws[j] = ws.getD j 0 := by simp [List.getD, List.getElem?_eq_getElem hw]
  obtain ⟨y, hy⟩ : ∃ y, ws.getD j 0 = y := ⟨_, rfl⟩
  rw [hy] at e hk ⊢
  refine ⟨h.bel.setCell (p := ⟨g, i, none⟩) h.gb _, by rw [List.length_set]; exact h.len, h.wln, fun t ht => ?_, ?_, ?_, by omega, hj, h.gb⟩
  · obtain ⟨h1, h2⟩ := h.cel t ht
    refine ⟨?_, by rw [World.frozen?_setCell]; exact h2⟩
    by_cases hti : i = t
    · subst hti
      rw [World.cell?_setCell_same _ _ _ h1, show (cs.set i y).getD i 0 = y by rw [List.getD_eq_getElem?_getD, List.getElem?_set_self (by omega)]; rfl]
    · rw [World.cell?_setCell_other _ _ _ _ (by simp; try exact hti), h1, List.getD_eq_getElem?_getD, List.getD_eq_getElem?_getD, List.getElem?_set_ne hti]
  · rw [List.take_succ_eq_append_getElem (by rw [List.length_set]; omega), List.getElem_set_self, List.take_set_of_le (Nat.le_refl i), h.lo, List.take_succ_eq_append_getElem hw, List.filter_append, e, List.filter_cons_of_pos hk, List.filter_nil]
  · rw [List.drop_set, if_pos (by omega)]; exact drop_succ_eq h.hi
theorem below_setCellsA {B g : Nat} {a : World} (hb : B ≤ g) : ∀ (vs : List Value) (o : Nat) (w : World), Below B a w → Below B a (w.setCells g o vs)
  | [], _, _, h => h
  | v :: vs, o, w, h => below_setCellsA hb vs (o + 1) (w.setCell ⟨g, o, none⟩ v) (h.setCell (p := ⟨g, o, none⟩) hb v)
theorem DI.start {base : Nat} {w : World} {A : Option Addr} {n c : Nat} {ws : List Int} {kp : Int → Bool} {t : Nat} (ho : Own w base (.slice A n c) ws) (hn : ws.length = n) (ht : t < n) (hk : kp (ws.getD t 0) = false) (ha : ∀ x ∈ ws.take t, kp x = true) :
    ∃ g, A = some ⟨g, 0, none⟩ ∧ n ≤ c ∧ c ≤ 9223372036854775807 ∧ g < w.heap.size ∧ DI base w w g n ws kp t (t + 1) ws := by
  obtain ⟨g, cap, e, hg, hc, h1, h2⟩ := own_shape ho hn.symm (by omega)
  injection e with e1 e2 e3
  subst e1 e3
  have hlt := ho.lt g rfl
  have hw : t < ws.length := by rw [hn]; exact ht
  have ee : ws[t] = ws.getD t 0 := by simp [List.getD, List.getElem?_eq_getElem hw]
  refine ⟨g, rfl, h1, h2, hg, Below.refl _ _, hn, hn, fun j hj => ⟨hc j hj, ?_⟩, ?_, rfl, Nat.lt_succ_self _, ht, hlt.1⟩
  · rcases ho.2 with ⟨h', _⟩ | ⟨g', cap', cur, h', hb, hg', _⟩
    · simp at h'
    · simp only [Value.slice.injEq, Option.some.injEq, Addr.mk.injEq, and_true] at h'
      obtain ⟨rfl, _⟩ := h'
      exact frozen_of_row w g j _ _ hg'
  · rw [List.take_succ_eq_append_getElem hw, List.filter_append, ee, List.filter_eq_self.2 ha, List.filter_cons_of_neg (by rw [hk]; decide), List.filter_nil, List.append_nil]
set_option maxHeartbeats 8000000 in
set_option maxRecDepth 100000 in
theorem deleteA_any (B M nm base : Nat) (on : List Int) (A : Option Addr) (n c : Nat) (ws : List Int) (w : World) (hk : KB w B M nm on) (hB : B < base) (hM : M < base) (ho : Own w base (.slice A n c) ws) (hn : ws.length = n) (hb : n ≤ 100000) (hbw : base ≤ w.heap.size) (hwf : ∀ x ∈ ws, (Lit.int .i64 x).wf = true) :
    Calls Tryz.prog 77 #[.slice A n c, .func (.func 79) #[] #[.pointer (some ⟨B, 0, none⟩)]] w fun e w' => ∃ A' n' c', e = .returned (.slice A' n' c') ∧ RdI w' w'.heap.size A' (ws.filter fun x => decide (x ∈ on)) ∧ (ws.filter fun x => decide (x ∈ on)).length = n' ∧ Below base w w' := by
  have HKB := Lib.hid (fun W (hW : Below base w W) => hk.below2 hW hB hM)
  have HP := Lib.hid (fun x (hx : x ∈ ws) W (hW : Below base w W) => alikeP_any B M nm on x W (HKB.out W hW) (hwf x hx))
  have hrd : RdI w w.heap.size A ws ∧ n ≤ c ∧ c ≤ 9223372036854775807 := by
    obtain ⟨A', c', e, h1, h2, h3⟩ := own_rdc ho
    injection e with e1 e2 e3
    subst e1 e3
    exact ⟨h1, by omega, h3⟩
  have HRD := Lib.hid hrd.1
  have HIX := Lib.hid (indexA_any B A n c w.heap.size ws (fun x => !decide (x ∈ on)) w (fun x hx W hW => HP.out x hx W (hW.mono hbw)) hrd.1 hn hb)
  have HO := Lib.hid ho
  have HN := Lib.hid hn
  have hnc := hrd.2
  clear hk ho hn hwf hrd HKB
  go_enter Tryz.func77, Tryz.ntmps77
  go_wp2_with fail
  refine HIX.out.mono ?_
  rintro e w1 ⟨h1, hw1⟩
  subst hw1
  rcases h1 with ⟨rfl, hall⟩ | ⟨t, ht, rfl, hpt, hpa⟩
  · have hf : ws.filter (fun x => decide (x ∈ on)) = ws := List.filter_eq_self.2 fun x hx => by simpa using hall x hx
    have HF := Lib.hid hf
    clear hall hf HIX
    go_wp2_with fail
    go_ret
    exact ⟨A, n, c, rfl, by rw [HF.out]; exact HRD.out, by rw [HF.out]; exact HN.out, Below.refl _ _⟩
  · obtain ⟨g, rfl, _, _, hg, hdi⟩ := DI.start (kp := fun x => decide (x ∈ on)) HO.out HN.out ht (by simpa using hpt) (fun x hx => by simpa using hpa x hx)
    have HDI := Lib.hid hdi
    have z0 : ((t : Int) == -1) = false := beq_eq_false_iff_ne.2 (by omega)
    clear hpt hpa HIX hdi
    go_wp2_with fail
    go_loopw [5, 6, 7] (fun iv jv _ wr => ∃ (i j : Nat) (cs : List Int), iv = .int .i64 i ∧ jv = .int .i64 j ∧ Hid (DI base w wr g n ws (fun x => decide (x ∈ on)) i j cs)) (fun _ jv _ _ => n - (intOf jv).toNat)
    case atStart => exact ⟨t, t + 1, ws, rfl, by go_num, HDI⟩
    case round =>
      clear HDI
      obtain ⟨i, j, cs, rfl, rfl, hdi⟩ := hrel
      have hij := hdi.out.ij
      have hjn := hdi.out.jn
      by_cases hlt : j < n
      · have hz : j < ws.length := by rw [HN.out]; exact hlt
        obtain ⟨cj, _⟩ := hdi.out.cel j hlt
        obtain ⟨ci, fi⟩ := hdi.out.cel i (by omega)
        rw [getD_drop hdi.out.hi] at cj
        obtain ⟨x, hx⟩ : ∃ x, x = ws.getD j 0 := ⟨_, rfl⟩
        have hm := getD_mem hz
        rw [← hx] at cj hm
        have HX := Lib.hid hx
        have HC := Lib.hid (HP.out x hm wr hdi.out.bel)
        obtain ⟨r, hr⟩ : ∃ r, r = decide (x ∈ on) := ⟨_, rfl⟩
        rw [← hr] at HC
        have HR := Lib.hid hr
        have y0 : (j : Int) < (n : Int) := by omega
        have y1 : (0 : Int) ≤ (j : Int) := by omega
        have y2 : (i : Int) < (n : Int) := by omega
        have y3 : (0 : Int) ≤ (i : Int) := by omega
        clear hx hm hr hz
        cases r
        · go_wp2_with fail
          refine HC.out.mono ?_
          rintro e w5 ⟨rfl, hw5⟩
          subst hw5
          go_wp2_with fail
          go_roundw
          case rel => exact ⟨i, j + 1, cs, rfl, by go_num, Lib.hid (hdi.out.skip hlt (by rw [← HX.out]; exact HR.out.symm))⟩
          case measure => simp [intOf]; omega
        · go_wp2_with fail
          refine HC.out.mono ?_
          rintro e w5 ⟨rfl, hw5⟩
          subst hw5
          go_wp2_with fail
          go_roundw
          case rel => exact ⟨i + 1, j + 1, _, by go_num, by go_num, Lib.hid (by rw [HX.out]; exact hdi.out.keep hlt (by rw [← HX.out]; exact HR.out.symm))⟩
          case measure => simp [intOf]; omega
      · have hje : j = n := by omega
        have hcl : ∀ ty, (Builtin.clear_ #[27] ty #[.slice (some ⟨g, i, none⟩) (n - i) (c - i)]).run Tryz.prog wr = .ok (.tuple #[]) (wr.setCells g i (List.replicate (n - i) (.int .i64 0))) :=
          fun ty => Lib.run_clear_slice wr _ 3 ty _ Tryz.underlying27 zeroIntA rfl rfl g i _ _ (by omega) (fun t ht => by rw [(hdi.out.cel (i + t) (by omega)).1]; rfl) (fun t ht => (hdi.out.cel (i + t) (by omega)).2)
        have y0 : (n : Int) ≤ (j : Int) := by omega
        have y2 : (i : Int) ≤ (n : Int) := by omega
        have y3 : (0 : Int) ≤ (i : Int) := by omega
        have y4 : (i : Int) ≤ (c : Int) := by omega
        have HF := Lib.hid (show cs.take i = ws.filter fun x => decide (x ∈ on) from by
          rw [hdi.out.lo, List.take_of_length_le (by rw [hdi.out.wln]; omega)])
        have hil : (cs.take i).length = i := by rw [List.length_take, hdi.out.len]; omega
        have HIL := Lib.hid hil
        have HJE := Lib.hid hje
        clear hje hil
        go_wp2_with fail
        go_ret
        refine ⟨some ⟨g, 0, none⟩, i, c, rfl, ?_, by rw [← HF.out]; exact HIL.out, below_setCellsA hdi.out.gb _ _ _ hdi.out.bel⟩
        have hb9 := below_setCellsA (Nat.zero_le g) (List.replicate (n - i) (.int .i64 0)) i wr (Below.refl 0 wr)
        rw [← HF.out]
        intro _
        refine ⟨g, 0, rfl, Nat.lt_of_lt_of_le hg (Nat.le_trans hdi.out.bel.size hb9.size), fun q hq => ?_⟩
        rw [HIL.out] at hq
        rw [World.cell?_setCells_out g _ i wr _ (fun _ _ => Or.inl (by simp; exact hq)), Nat.zero_add, (hdi.out.cel q (by omega)).1]
        rw [List.getD_eq_getElem?_getD, List.getD_eq_getElem?_getD, List.getElem?_take_of_lt hq]
set_option maxHeartbeats 4000000 in
set_option maxRecDepth 100000 in
theorem alikeO_any (B M nm : Nat) (on : List Int) (A : Option Addr) (n c : Nat) (ws : List Int) (w : World) (hk : KB w B M nm on) (hx : RdI w w.heap.size A ws) (hn : ws.length = n) (hb : n ≤ 100000) (hwf : ∀ x ∈ ws, (Lit.int .i64 x).wf = true) :
    Calls Tryz.prog 76 #[.slice A n c, .pointer (some ⟨B, 0, none⟩)] w fun e w' => ∃ A' n' c', e = .returned (.slice A' n' c') ∧ RdI w' w'.heap.size A' (ws.filter fun x => decide (x ∈ on)) ∧ (ws.filter fun x => decide (x ∈ on)).length = n' ∧ Below w.heap.size w w' := by
  have HC := Lib.hid (clone_own A n c ws w hx hn (by omega))
  have HK := Lib.hid hk
  have HN := Lib.hid hn
  have HWF := Lib.hid hwf
  clear hk hx hn hwf
  go_enter Tryz.func76, Tryz.ntmps76
  go_wp2_with fail
  refine HC.out.mono ?_
  rintro e w1 ⟨v1, rfl, ho1, hb1⟩
  obtain ⟨A1, c1, rfl, _, _, _⟩ := own_rdc ho1
  rw [HN.out]
  rw [HN.out] at ho1
  have HD := Lib.hid (deleteA_any B M nm w.heap.size on A1 n c1 ws w1 (HK.out.below hb1) HK.out.lt.1 HK.out.lt.2 ho1 HN.out hb hb1.size HWF.out)
  have HB1 := Lib.hid hb1
  clear ho1 hb1 HC
  go_wp2_with fail
  refine HD.out.mono ?_
  rintro e w2 ⟨A2, n2, c2, rfl, hr2, hn2, hb2⟩
  have HR2 := Lib.hid hr2
  have HN2 := Lib.hid hn2
  have HB2 := Lib.hid (HB1.out.trans hb2)
  clear hr2 hn2 hb2 HD
  go_wp2_with fail
  go_ret
  exact ⟨A2, n2, c2, rfl, HR2.out, HN2.out, HB2.out⟩
theorem KB.put {w w1 : World} {B M n : Nat} {on : List Int} {x : Int} (hx : (Lit.int .i64 x).wf = true) {D : DataW Unit} (hm : IsMap D) (ha : ∀ x : Int, D.atKey (.int .i64 x) (.lit (.bool false)) = .lit (.bool (decide (x ∈ on))))
    (hb : Row w B 118 [.map (some M)]) (hne : B ≠ M) (ho : w1.ownsMap Tryz.prog 3 (plainElem Tryz.prog 4) M (n + 1) (D.put (.int .i64 x) (.lit (.bool true)))) (hg : w.grownBy w1 (some M)) : KB w1 B M (n + 1) (on ++ [x]) := by
  refine ⟨hb.grown hg (by simp; exact fun e => hne e.symm), _, ho, hm.put _ _, fun y => ?_⟩
  by_cases hyx : y = x
  · subst hyx
    rw [atKey_put_same hm (lawInt.key (keyOf_int_mk Tryz.underlying3 hx))]
    simp
  · rw [atKey_put_other (by simpa using hyx), ha y]
    simp [hyx]
set_option maxHeartbeats 8000000 in
set_option maxRecDepth 100000 in
theorem jAlike_any (A3 : Option Addr) (n3 c3 : Nat) (on : List Int) (A : Option Addr) (n c : Nat) (vs : List Int) (A2 : Option Addr) (n2 c2 : Nat) (ws : List Int) (w : World) (h3 : RdI w w.heap.size A3 on) (hn3 : on.length = n3) (hb3 : n3 ≤ 100000)
    (h1 : RdI w w.heap.size A vs) (hn1 : vs.length = n) (hb1 : n ≤ 100000) (h2 : RdI w w.heap.size A2 ws) (hn2 : ws.length = n2) (hb2 : n2 ≤ 100000) (hf3 : ∀ x ∈ on, (Lit.int .i64 x).wf = true) (hf1 : ∀ x ∈ vs, (Lit.int .i64 x).wf = true) (hf2 : ∀ x ∈ ws, (Lit.int .i64 x).wf = true) :
    Calls Tryz.prog 35 #[.slice A3 n3 c3, .slice A n c, .slice A2 n2 c2] w fun e w' => e = .returned (.bool (decide ((vs.filter fun x => decide (x ∈ on)) = ws.filter fun x => decide (x ∈ on)))) ∧ Below w.heap.size w w' := by
  have hmm := mk_hintA (P := Tryz.prog) 118 3 4 .i64 n3 Tryz.underlying118
  have H3 := Lib.hid h3
  have HN3 := Lib.hid hn3
  have HF3 := Lib.hid hf3
  have HO1 := Lib.hid (fun W (hW : Below w.heap.size w W) B M nm (hk : KB W B M nm on) => alikeO_any B M nm on A n c vs W hk ((h1.below hW (Nat.le_refl _)).more hW.size) hn1 hb1 hf1)
  have HO2 := Lib.hid (fun W (hW : Below w.heap.size w W) B M nm (hk : KB W B M nm on) => alikeO_any B M nm on A2 n2 c2 ws W hk ((h2.below hW (Nat.le_refl _)).more hW.size) hn2 hb2 hf2)
  have HL1 := Lib.hid (show (vs.filter fun x => decide (x ∈ on)).length ≤ 100000 from Nat.le_trans (List.length_filter_le _ _) (by omega))
  have HL2 := Lib.hid (show (ws.filter fun x => decide (x ∈ on)).length ≤ 100000 from Nat.le_trans (List.length_filter_le _ _) (by omega))
  have hbel0 := Lib.hid (((Below.refl w.heap.size w).alloc (Nat.le_refl _) (.map #[] 0)).alloc (by simp) (.cells #[.map (some w.heap.size)] 118))
  have hkb0 := Lib.hid (show KB ((w.alloc (.map #[] 0)).alloc (.cells #[.map (some w.heap.size)] 118)) (w.heap.size + 1) w.heap.size 0 (on.take 0) from by
    refine ⟨?_, .map [], (World.ownsMap_made w Tryz.prog 3 _).alloc _, ⟨_, rfl⟩, fun x => ?_⟩
    · have := Row.new (w.alloc (.map #[] 0)) [.map (some w.heap.size)] 118
      simpa using this
    · simp [DataW.atKey])
  clear h3 hn3 hf3 h1 hn1 h2 hn2 hf1 hf2
  go_enter Tryz.func35, Tryz.ntmps35
  go_wp2_with fail
  generalize ((w.alloc (.map #[] 0)).alloc (.cells #[.map (some w.heap.size)] 118)) = w1 at *
  go_loopw [16] (fun iv wr => ∃ k : Nat, k ≤ n3 ∧ iv = .int .i64 k ∧ Hid (KB wr (w.heap.size + 1) w.heap.size k (on.take k)) ∧ Hid (Below w.heap.size w wr)) (fun i _ => n3 - (intOf i).toNat)
  case atStart => exact ⟨0, Nat.zero_le _, rfl, hkb0, hbel0⟩
  case round =>
    clear hkb0 hbel0
    obtain ⟨k, hk, rfl, hkb, hbel⟩ := hrel
    have b0 := hkb.out.bx.cell 0 rfl
    by_cases hlt : k < n3
    · obtain ⟨b1, o1, rfl, hb1, hc1⟩ := H3.out (by rw [HN3.out]; omega)
      have hz : k < on.length := by rw [HN3.out]; exact hlt
      have c1 := (hbel.out.cell (p := ⟨b1, o1 + k, none⟩) hb1).trans (hc1 k hz)
      obtain ⟨x, hxe⟩ : ∃ x, x = on.getD k 0 := ⟨_, rfl⟩
      have hxw : (Lit.int .i64 x).wf = true := HF3.out x (by rw [hxe]; exact getD_mem hz)
      rw [← hxe] at c1
      have HTK := Lib.hid (show on.take (k + 1) = on.take k ++ [x] by rw [List.take_succ_eq_append_getElem hz, hxe, List.getD, List.getElem?_eq_getElem hz]; rfl)
      obtain ⟨D, ho, hm, ha⟩ := hkb.out.mp
      have HOW := Lib.hid ho
      have HMA := Lib.hid hm
      have HAT := Lib.hid ha
      have HBX := Lib.hid hkb.out.bx
      have HKY := Lib.hid (keyOf_int_mk Tryz.underlying3 hxw)
      have HXW := Lib.hid hxw
      have z0 : (k : Int) < (n3 : Int) := by omega
      have z1 : (0 : Int) ≤ (k : Int) := by omega
      clear hc1 hz hxe ho hm ha hxw hkb
      go_wp2_with (at_mapUpdate; refine wpList_mapUpdate_own _ rfl _ _ _ 118 rfl 3 4 lawInt Tryz.underlying118 _ w.heap.size k D rfl HOW.out (by unfold maxLen; omega) _ _ _ rfl rfl HKY.out (.lit (.bool true)) [] (plainElem_bool Tryz.underlying4 true) ?_)
      intro w2 hown2 hg2
      have HK2 := Lib.hid (show KB w2 (w.heap.size + 1) w.heap.size (k + 1) (on.take (k + 1)) from by rw [HTK.out]; exact KB.put HXW.out HMA.out HAT.out HBX.out (by omega) hown2 hg2)
      have HB2 := Lib.hid (hbel.out.grown hg2 hbel.out.size (fun j hj => by cases hj; exact Nat.le_refl _))
      clear hown2 hg2
      go_wp2_with fail
      go_roundw
      case rel => exact ⟨k + 1, by omega, by go_num, HK2, HB2⟩
      case measure => simp [intOf]; omega
    · have hto : on.take k = on := List.take_of_length_le (by rw [HN3.out]; omega)
      rw [hto] at hkb
      have z0 : (n3 : Int) ≤ (k : Int) := by omega
      have HE1 := Lib.hid (HO1.out wr hbel.out _ _ _ hkb.out)
      clear hto
      go_wp2_with fail
      refine HE1.out.mono ?_
      rintro e w3 ⟨A5, n5, c5, rfl, hr5, hn5, hb5⟩
      have HB3 := Lib.hid (hbel.out.trans (hb5.mono hbel.out.size))
      have HE2 := Lib.hid (HO2.out w3 HB3.out _ _ _ (hkb.out.below hb5))
      have HR5 := Lib.hid hr5
      have HN5 := Lib.hid hn5
      clear hr5 hn5 hb5 HE1
      go_wp2_with fail
      refine HE2.out.mono ?_
      rintro e w4 ⟨A6, n6, c6, rfl, hr6, hn6, hb6⟩
      have HB4 := Lib.hid (HB3.out.trans (hb6.mono HB3.out.size))
      have HEQ := Lib.hid (equalInt_b A5 A6 n5 n6 c5 c6 w4.heap.size _ _ w4 ((HR5.out.below hb6 (Nat.le_refl _)).more hb6.size) hr6 HN5.out hn6 (by rw [← HN5.out]; exact HL1.out) (by rw [← hn6]; exact HL2.out))
      clear hr6 hn6 hb6 HE2
      go_wp2_with fail
      refine HEQ.out.mono ?_
      rintro e w5 ⟨rfl, hb7⟩
      have HB5 := Lib.hid (HB4.out.trans (hb7.mono HB4.out.size))
      clear hb7 HEQ
      go_wp2_with fail
      go_ret
      exact ⟨rfl, HB5.out⟩
end Go.Proofs.YtaadhpkpekmfoaaGreat
