/- Texts merged: what follows were texts of their own. -/
import Derived.Test.YtmghngehpgolgaaZa4
import Derived.Test.YtmghngehpgolgaaZa2
import Derived.Test.YtmghngehpgolgaaZa3
import Derived.Deep.RegionHeld3
import Derived.Test.YtmghngehpgolgaaZa1
set_option linter.unusedVariables false
set_option linter.unusedSimpArgs false
set_option linter.unusedSectionVars false
/- Layer 3: Step, index, Empty of the reference. -/
namespace Go.Proofs.Ytmghngehpgolgaa
open Go.RowKit Go.Sort

/-- The state to which an event leads; -1 if it is not possible. -/
def stepI (a : Au) (q ev : Int) : Int := (stepO a q ev).getD (-1)
theorem edge_first {l : List Ed} {k : Nat} {q ev : Int} {x : Ed} (hx : l[k]? = some x) (h : ∀ y ∈ l.take k, ¬ (y.f = q ∧ y.e = ev)) (h1 : x.f = q) (h2 : x.e = ev) : edgeO l q ev = some x := by
  unfold edgeO
  have hl := (List.getElem?_eq_some_iff.1 hx)
  obtain ⟨hk, e⟩ := hl
  have e2 : l = l.take k ++ x :: l.drop (k + 1) := by
    rw [← e, List.getElem_cons_drop, List.take_append_drop]
  conv => lhs; rw [e2]
  rw [List.find?_append, List.find?_eq_none.2 (fun y hy => by simpa using h y hy)]
  simp [h1, h2]
theorem step_first {a : Au} {k : Nat} {q ev : Int} {x : Ed} (hx : a.ed[k]? = some x) (h : ∀ y ∈ a.ed.take k, ¬ (y.f = q ∧ y.e = ev)) (h1 : x.f = q) (h2 : x.e = ev) : stepI a q ev = x.t := by
  rw [stepI, stepO, edge_first hx h h1 h2]; rfl
theorem step_never {a : Au} {q ev : Int} {n : Nat} (hn : a.ed.length = n) (h : ∀ y ∈ a.ed.take n, ¬ (y.f = q ∧ y.e = ev)) : stepI a q ev = -1 := by
  rw [List.take_of_length_le (by omega)] at h
  rw [stepI, stepO, edgeO_none.2 h]; rfl
theorem not_next {l : List Ed} {k : Nat} {q ev : Int} {x : Ed} (hx : l[k]? = some x) (h : ∀ y ∈ l.take k, ¬ (y.f = q ∧ y.e = ev)) (hn : ¬ (x.f = q ∧ x.e = ev)) : ∀ y ∈ l.take (k + 1), ¬ (y.f = q ∧ y.e = ev) := fun y hy => by
  rw [take_succ_ed hx, List.mem_append] at hy
  rcases hy with hy | hy
  · exact h y hy
  · rw [List.mem_singleton] at hy; subst hy; exact hn

set_option maxHeartbeats 1600000 in
theorem rStep_any (A : Option Addr) (n c : Nat) (s : Int) (M : Option Addr) (m d : Nat) (E : Option Addr) (k g : Nat) (a : Au) (q ev : Int) (B : Nat) (w : World) (h : AuR w B A n c s M m d E k g a) (hB : B ≤ w.heap.size) :
    Calls Try.prog 50 #[.agg #[.slice A n c, .int .i64 s, .slice M m d, .slice E k g], .int .i64 q, .int .i64 ev] w fun e w' => e = .returned (.int .i64 (stepI a q ev)) ∧ Below w.heap.size w w' := by
  have HB1 := Lib.hid ((Below.refl w.heap.size w).alloc (Nat.le_refl _) (.cells #[.slice A n c, .int .i64 s, .slice M m d, .slice E k g] 25))
  have HR := Lib.hid h
  have HX := Lib.hid (BoxA.made w A n c s M m d E k g 25)
  have HB0 := Lib.hid hB
  have hk1 := h.bk
  have hk2 := Lib.hid h.hk
  obtain ⟨v, hv⟩ : ∃ v, v = stepI a q ev := ⟨_, rfl⟩
  have HV := Lib.hid hv
  rw [← hv]
  clear h hB hv
  go_enter Try.func50, Try.ntmps50
  go_wp2_with fail
  go_loopw [7] (fun i wr => ∃ j : Nat, j ≤ k ∧ i = .int .i64 j ∧ Hid (∀ y ∈ a.ed.take j, ¬ (y.f = q ∧ y.e = ev)) ∧ Hid (Below w.heap.size w wr ∧ BoxA wr w.heap.size A n c s M m d E k g ∧ w.heap.size < wr.heap.size)) (fun i _ => k - (intOf i).toNat)
  case atStart => exact ⟨0, Nat.zero_le _, rfl, by simp [Hid], HB1.out, HX.out, by simp⟩
  case round =>
    obtain ⟨j, hj, rfl, ht, hbel⟩ := hrel
    obtain ⟨p0, p1, p2, p3⟩ := hbel.out.2.1
    by_cases hlt : j < k
    · obtain ⟨b1, o1, rfl, hb1, hc1⟩ := HR.out.ed (by rw [hk2.out]; omega)
      obtain ⟨x, hx⟩ := edAt (l := a.ed) (k := j) (by rw [hk2.out]; exact hlt)
      obtain ⟨x0, x1, x2⟩ : EdAt wr b1 (o1 + j * 3) x := (hc1 j x hx).keep fun o => hbel.out.1.cell (p := ⟨b1, o, none⟩) (Nat.lt_of_lt_of_le hb1 HB0.out)
      have HX := Lib.hid hx
      obtain ⟨xf, xe, xt⟩ := x
      simp only at x0 x1 x2
      clear hc1 hx
      by_cases h1 : xf = q
      · have hq : (xf == q) = true := by simp [h1]
        by_cases h2 : xe = ev
        · have hq2 : (xe == ev) = true := by simp [h2]
          have hf := Lib.hid (show xt = v by rw [HV.out, step_first HX.out ht.out h1 h2])
          clear h1 h2 ht
          go_wp2_with fail
          go_ret
          exact ⟨ret_int hf.out, by first | exact hbel.out.1 | exact below_drewN hbel.out.1 _⟩
        · have hq2 : (xe == ev) = false := by simp [h2]
          have hn := Lib.hid (not_next HX.out ht.out (fun h => h2 h.2))
          clear h1 h2 ht
          go_wp2_with fail
          go_roundw
          case rel => exact ⟨j + 1, by omega, by go_num, hn, by first | exact hbel.out | exact ⟨below_drewN hbel.out.1 _, hbel.out.2.1.drewN _, hbel.out.2.2⟩⟩
          case measure => simp [intOf]; omega
      · have hq : (xf == q) = false := by simp [h1]
        have hn := Lib.hid (not_next HX.out ht.out (fun h => h1 h.1))
        clear h1 ht
        go_wp2_with fail
        go_roundw
        case rel => exact ⟨j + 1, by omega, by go_num, hn, by first | exact hbel.out | exact ⟨below_drewN hbel.out.1 _, hbel.out.2.1.drewN _, hbel.out.2.2⟩⟩
        case measure => simp [intOf]; omega
    · obtain rfl : j = k := by omega
      have hf := Lib.hid (show (-1 : Int) = v by rw [HV.out, step_never hk2.out ht.out])
      clear ht
      go_wp2_with fail
      go_ret
      exact ⟨ret_int hf.out, hbel.out.1⟩
end Go.Proofs.Ytmghngehpgolgaa

/- Layer 3: an automaton that is being built in a box. -/
namespace Go.Proofs.Ytmghngehpgolgaa
open Go.RowKit Go.Sort

/-- An automaton that is being built in box bc: below block b1 all is as it was; its edges and, if mk says so, its marked states lie in rows of its own. -/
structure Bd (w1 : World) (b1 bc : Nat) (mk ke : Bool) (va : Value) (s : Int) (wr : World) (ms : List Int) (vm : Value) (es : List Ed) (ve : Value) : Prop where
  bel : Below b1 w1 wr
  cb : Row wr bc 25 [va, .int .i64 s, vm, ve]
  mo : mk = true → Own wr b1 vm ms
  eo : ke = true → OwnE wr b1 ve es
  h1 : b1 ≤ bc
section
variable {w1 wr w2 : World} {b1 bc : Nat} {mk ke : Bool} {va vm ve vm' ve' : Value} {s : Int} {ms : List Int} {es : List Ed}
theorem Bd.h2 (h : Bd w1 b1 bc mk ke va s wr ms vm es ve) : bc < wr.heap.size := h.cb.lt
theorem Bd.call (h : Bd w1 b1 bc mk ke va s wr ms vm es ve) (hb : Below wr.heap.size wr w2) : Bd w1 b1 bc mk ke va s w2 ms vm es ve :=
  ⟨h.bel.trans (hb.mono (Nat.le_of_lt (Nat.lt_of_le_of_lt h.h1 h.h2))), h.cb.below hb h.h2, fun e => own_below (h.mo e) hb, fun e => own_below (h.eo e) hb, h.h1⟩
theorem Bd.alloc (h : Bd w1 b1 bc mk ke va s wr ms vm es ve) (o : Obj) : Bd w1 b1 bc mk ke va s (wr.alloc o) ms vm es ve := h.call ((Below.refl _ wr).alloc (Nat.le_refl _) o)
theorem Bd.drewN (h : Bd w1 b1 bc mk ke va s wr ms vm es ve) (q : Nat) : Bd w1 b1 bc mk ke va s (wr.drewN q) ms vm es ve := ⟨below_drewN h.bel q, h.cb, h.mo, h.eo, h.h1⟩
theorem Bd.drew (h : Bd w1 b1 bc mk ke va s wr ms vm es ve) : Bd w1 b1 bc mk ke va s wr.drew ms vm es ve := ⟨h.bel.drew, h.cb, h.mo, h.eo, h.h1⟩
theorem Bd.neM (h : Bd w1 b1 bc true ke va s wr ms vm es ve) : some bc ≠ vm.ownBlock := fun e => row_ne_own h.cb (h.mo rfl) (by decide) e.symm
theorem Bd.neE (h : Bd w1 b1 bc mk true va s wr ms vm es ve) : some bc ≠ ve.ownBlock := fun e => row_ne_own h.cb (h.eo rfl) (by decide) e.symm
/-- An edge is appended. -/
theorem Bd.edge {x : Ed} (h : Bd w1 b1 bc mk true va s wr ms vm es ve) (hg : wr.grownBy w2 ve.ownBlock) (ho : OwnE w2 b1 ve' (es ++ [x])) :
    Bd w1 b1 bc mk true va s (w2.setCell ⟨bc, 3, none⟩ ve') ms vm (es ++ [x]) ve' := by
  have g2 := h.h2
  have g1 := h.h1
  have hne := h.neE
  have he := h.eo rfl
  refine ⟨h.bel.trans (((Below.refl b1 wr).grown hg (by omega) (fun k hk => (he.lt k hk).1)).setCell (p := ⟨bc, 3, none⟩) h.h1 _), ?_, fun e => ?_, fun _ => ?_, h.h1⟩
  · exact (h.cb.grown hg (fun e => hne e.symm)).set 3 ve'
  · have h3 := own_row (h.mo e) hg (owns_ne (h.mo e) he (by decide))
    exact ownsRow_setCell_other h3 (a := ⟨bc, 3, none⟩) (row_ne_own (h.cb.grown hg (fun e => hne e.symm)) h3 (by decide)) ve'
  · exact ownsRow_setCell_other ho (a := ⟨bc, 3, none⟩) (row_ne_own (h.cb.grown hg (fun e => hne e.symm)) ho (by decide)) ve'
/-- A number is appended to the marked states. -/
theorem Bd.mark {x : Int} (h : Bd w1 b1 bc true ke va s wr ms vm es ve) (hg : wr.grownBy w2 vm.ownBlock) (ho : Own w2 b1 vm' (ms ++ [x])) :
    Bd w1 b1 bc true ke va s (w2.setCell ⟨bc, 2, none⟩ vm') (ms ++ [x]) vm' es ve := by
  have g2 := h.h2
  have g1 := h.h1
  have hne := h.neM
  have hm := h.mo rfl
  refine ⟨h.bel.trans (((Below.refl b1 wr).grown hg (by omega) (fun k hk => (hm.lt k hk).1)).setCell (p := ⟨bc, 2, none⟩) h.h1 _), ?_, fun e => ?_, fun e => ?_, h.h1⟩
  · exact (h.cb.grown hg (fun e => hne e.symm)).set 2 vm'
  · exact ownsRow_setCell_other ho (a := ⟨bc, 2, none⟩) (row_ne_own (h.cb.grown hg (fun e => hne e.symm)) ho (by decide)) vm'
  · have h3 := own_row (h.eo e) hg (owns_ne (h.eo e) hm (by decide))
    exact ownsRow_setCell_other h3 (a := ⟨bc, 2, none⟩) (row_ne_own (h.cb.grown hg (fun e => hne e.symm)) h3 (by decide)) vm'
/-- The number of the states is stored. -/
theorem Bd.state (h : Bd w1 b1 bc mk ke va s wr ms vm es ve) (s' : Int) : Bd w1 b1 bc mk ke va s' (wr.setCell ⟨bc, 1, none⟩ (.int .i64 s')) ms vm es ve := by
  refine ⟨h.bel.setCell (p := ⟨bc, 1, none⟩) h.h1 _, h.cb.set 1 _, fun e => ownsRow_setCell_other (h.mo e) (a := ⟨bc, 1, none⟩) (row_ne_own h.cb (h.mo e) (by decide)) _, fun e => ownsRow_setCell_other (h.eo e) (a := ⟨bc, 1, none⟩) (row_ne_own h.cb (h.eo e) (by decide)) _, h.h1⟩
end
end Go.Proofs.Ytmghngehpgolgaa

/- Layer 3: Found and index of the reference. -/
namespace Go.Proofs.Ytmghngehpgolgaa
open Go.RowKit Go.Sort

/-- Where a number is in a list; -1 if it isn't. -/
def idxI (l : List Int) (x : Int) : Int := if x ∈ l then (l.idxOf x : Int) else -1
theorem idx_yes {zs : List Int} {k : Nat} {x : Int} (h : k < zs.length) (ht : x ∉ zs.take k) (he : zs.getD k 0 = x) : idxI zs x = (k : Int) := by
  have hm : x ∈ zs := by rw [← he]; exact getD_mem h
  rw [idxI, if_pos hm]
  have e : zs = zs.take k ++ zs.drop k := (List.take_append_drop k zs).symm
  rw [e, List.idxOf_append, if_neg ht, drop_step zs k h, he]
  simp; omega
theorem idx_no {zs : List Int} {n : Nat} {x : Int} (hn : zs.length = n) (h : x ∉ zs.take n) : idxI zs x = -1 := by
  rw [List.take_of_length_le (by omega)] at h; rw [idxI, if_neg h]

set_option maxHeartbeats 800000 in
theorem rIndex_any (A : Option Addr) (n c Bx : Nat) (zs : List Int) (x : Int) (w : World) (hx : RdI w Bx A zs) (hn : zs.length = n) (hb : n ≤ 140737488355328) :
    Calls Try.prog 71 #[.slice A n c, .int .i64 x] w fun e w' => e = .returned (.int .i64 (idxI zs x)) ∧ w = w' := by
  have HN := Lib.hid hn
  clear hn
  obtain ⟨v, hv⟩ : ∃ v, v = idxI zs x := ⟨_, rfl⟩
  have HV := Lib.hid hv
  rw [← hv]
  clear hv
  go_enter Try.func71, Try.ntmps71
  go_wp2
  go_loop [5] (fun i => ∃ k : Nat, k ≤ n ∧ i = .int .i64 k ∧ Hid (x ∉ zs.take k)) (fun i => n - (intOf i).toNat)
  case atStart => exact ⟨0, Nat.zero_le _, rfl, by simp [Hid]⟩
  case round =>
    obtain ⟨k, hk, rfl, ht⟩ := hrel
    by_cases hlt : k < n
    · obtain ⟨b1, o1, rfl, _, hc1⟩ := hx (by rw [HN.out]; omega)
      have hz : k < zs.length := by rw [HN.out]; exact hlt
      have h1 := hc1 k hz
      obtain ⟨y, hye⟩ : ∃ y, y = zs.getD k 0 := ⟨_, rfl⟩
      rw [← hye] at h1
      clear hc1 hx
      by_cases hyx : y = x
      · have hr := Lib.hid (show (k : Int) = v by rw [HV.out, idx_yes hz ht.out (by rw [← hye]; exact hyx)])
        have hb1 : (y == x) = true := by simpa using hyx
        clear hyx hye ht hz
        go_wp2
        go_ret
        exact ⟨ret_int hr.out, rfl⟩
      · have hr := Lib.hid (show x ∉ zs.take (k + 1) by rw [mem_snoc_take hz, not_or]; exact ⟨ht.out, by rw [← hye]; exact hyx⟩)
        have hb1 : (y == x) = false := by simpa using hyx
        clear hyx hye ht hz
        go_wp2
        go_round
        case rel => exact ⟨k + 1, by omega, by go_num, hr⟩
        case measure => simp [intOf]; omega
    · have hkn : k = n := by omega
      rw [hkn] at ht
      have hr := Lib.hid (show (-1 : Int) = v by rw [HV.out, idx_no HN.out ht.out])
      clear hkn ht
      go_wp2
      go_ret
      exact ⟨ret_int hr.out, rfl⟩

/-- The edges of a state by the first events. -/
def succK (a : Au) (q : Int) (k : Nat) : List Ed := (a.al.take k).filterMap (edgeO a.ed q)
theorem succK_zero (a : Au) (q : Int) : succK a q 0 = [] := by simp [succK]
theorem take_getD {zs : List Int} {k : Nat} (h : k < zs.length) : zs.take (k + 1) = zs.take k ++ [zs.getD k 0] := by
  rw [List.take_add_one]; simp [List.getD, List.getElem?_eq_getElem h]
theorem succK_some {a : Au} {q : Int} {k : Nat} {x : Ed} (hk : k < a.al.length) (h : edgeO a.ed q (a.al.getD k 0) = some x) : succK a q (k + 1) = succK a q k ++ [x] := by
  unfold succK; rw [take_getD hk, List.filterMap_append]; simp only [List.filterMap_cons, h, List.filterMap_nil, List.append_nil]
theorem succK_none {a : Au} {q : Int} {k : Nat} (hk : k < a.al.length) (h : edgeO a.ed q (a.al.getD k 0) = none) : succK a q (k + 1) = succK a q k := by
  unfold succK; rw [take_getD hk, List.filterMap_append]; simp only [List.filterMap_cons, h, List.filterMap_nil, List.append_nil]
theorem succK_all {a : Au} (h : RightW a) {q : Int} {n : Nat} (hn : a.al.length = n) : succK a q n = succ a.ed q := by
  unfold succK; rw [List.take_of_length_le (by omega), succ_eq h]
theorem succK_pre {a : Au} (h : RightW a) (q : Int) (k : Nat) : succK a q k <+: succ a.ed q := by
  rw [succ_eq h, succK]
  conv => rhs; rw [← List.take_append_drop k a.al, List.filterMap_append]
  exact List.prefix_append _ _
theorem stepI_of {a : Au} {q ev : Int} {x : Ed} (h : edgeO a.ed q ev = some x) : stepI a q ev = x.t := by rw [stepI, stepO, h]; rfl
theorem stepI_no {a : Au} {q ev : Int} (h : edgeO a.ed q ev = none) : stepI a q ev = -1 := by rw [stepI, stepO, h]; rfl

/-- What Found keeps: the call's memory, its list. -/
structure FP (W1 : World) (v : Value) (fl : List Int) (wr : World) : Prop where
  bel : Below W1.heap.size W1 wr
  ow : Own wr W1.heap.size v fl
theorem FP.call {W1 wr w2 : World} {v : Value} {fl : List Int} (h : FP W1 v fl wr) (hb : Below wr.heap.size wr w2) : FP W1 v fl w2 := ⟨h.bel.trans (hb.mono h.bel.size), own_kept h.ow hb⟩
theorem FP.drew {W1 wr : World} {v : Value} {fl : List Int} (h : FP W1 v fl wr) : FP W1 v fl wr.drew := ⟨h.bel.drew, h.ow⟩
/-- The cells that a step's arguments are loaded from. -/
structure StC (H : Nat) (A : Option Addr) (n c : Nat) (s : Int) (M : Option Addr) (m d : Nat) (E : Option Addr) (k g : Nat) (gF j : Nat) (q : Int) (bA iA : Nat) (ev : Int) (wr : World) : Prop where
  bx : BoxA wr H A n c s M m d E k g
  cf : wr.cell? ⟨gF, j, none⟩ = some (.int .i64 q)
  ca : wr.cell? ⟨bA, iA, none⟩ = some (.int .i64 ev)
  l1 : H < wr.heap.size
  l2 : gF < wr.heap.size
  l3 : bA < wr.heap.size
section
variable {H : Nat} {A : Option Addr} {n c : Nat} {s : Int} {M : Option Addr} {m d : Nat} {E : Option Addr} {k g : Nat} {gF j : Nat} {q : Int} {bA iA : Nat} {ev : Int} {wr w2 : World}
theorem StC.call (h : StC H A n c s M m d E k g gF j q bA iA ev wr) (hb : Below wr.heap.size wr w2) : StC H A n c s M m d E k g gF j q bA iA ev w2 :=
  ⟨h.bx.below hb h.l1, (hb.cell (p := ⟨gF, j, none⟩) h.l2).trans h.cf, (hb.cell (p := ⟨bA, iA, none⟩) h.l3).trans h.ca, Nat.lt_of_lt_of_le h.l1 hb.size, Nat.lt_of_lt_of_le h.l2 hb.size, Nat.lt_of_lt_of_le h.l3 hb.size⟩
theorem StC.drew (h : StC H A n c s M m d E k g gF j q bA iA ev wr) : StC H A n c s M m d E k g gF j q bA iA ev wr.drew := ⟨⟨h.bx.c0, h.bx.c1, h.bx.c2, h.bx.c3⟩, h.cf, h.ca, h.l1, h.l2, h.l3⟩
end

set_option maxHeartbeats 4000000 in
set_option maxRecDepth 100000 in
theorem rFound_any (A : Option Addr) (n c : Nat) (s : Int) (M : Option Addr) (m d : Nat) (E : Option Addr) (k g : Nat) (a : Au) (B : Nat) (w : World) (h : AuR w B A n c s M m d E k g a) (hB : B ≤ w.heap.size) (hr : RightW a) (hS : s ≤ 5000) :
    Calls Try.prog 70 #[.agg #[.slice A n c, .int .i64 s, .slice M m d, .slice E k g]] w fun e w' => GivesC w (fnd a) e w' := by
  have HB1 := Lib.hid ((Below.refl w.heap.size w).alloc (Nat.le_refl _) (.cells #[.slice A n c, .int .i64 s, .slice M m d, .slice E k g] 25))
  have HBX := Lib.hid (BoxA.made w A n c s M m d E k g 25)
  have HST := Lib.hid h.st
  have HR := Lib.hid h
  have HRI := Lib.hid hr
  have HBw := Lib.hid hB
  have hs0 := hr.st0
  rw [h.st] at hs0
  obtain ⟨i0, hi, hz0, hz1, hz2⟩ := info_parts info_int
  obtain ⟨W1, hW1⟩ : ∃ W1, W1 = w.alloc (.cells #[.slice A n c, .int .i64 s, .slice M m d, .slice E k g] 25) := ⟨_, rfl⟩
  have hsz1 : W1.heap.size = w.heap.size + 1 := by rw [hW1]; simp
  have HB1l := HB1
  have HBXl := HBX
  rw [← hW1] at HB1 HBX
  have HW1 := Lib.hid hW1
  have HSZ := Lib.hid hsz1
  have HBT := Lib.hid (fun W (hW : Below W1.heap.size W1 W) => HB1.out.trans (hW.mono (by omega)))
  clear h hr hsz1 hW1 hB
  by_cases h0 : s = 0
  · subst h0
    have hf := Lib.hid (show fnd a = [] from fnd_zero HST.out)
    rw [hf.out]
    obtain ⟨p0, p1, p2, p3⟩ := HBXl.out
    go_enter Try.func70, Try.ntmps70
    go_wp2_with fail
    go_loop [3, 4] (fun v i => v = .slice none 0 0 ∧ i = .int .i64 0) (fun _ i => 0)
    case atStart => exact ⟨rfl, rfl⟩
    case round =>
      obtain ⟨rfl, rfl⟩ := hrel
      go_wp2_with fail
      go_ret
      exact ⟨none, 0, rfl, RdI.nil _ _ _, HB1l.out, Nat.le_refl _, by omega⟩
  · have hs1 : 0 < s := by omega
    obtain ⟨S, rfl⟩ : ∃ S : Nat, s = (S : Int) := ⟨s.toNat, by omega⟩
    have hst1 := Lib.hid (show 0 < a.st by rw [HST.out]; exact hs1)
    obtain ⟨p0, p1, p2, p3⟩ := HBXl.out
    go_enter Try.func70, Try.ntmps70
    go_wp2_with (at_builtin; refine wpList_append_own _ rfl _ _ 22 rfl (w.heap.size + 1) 3 i0 (.int .i64 0) 1 8 Try.underlying22 hi hz0 hz1 hz2 rfl (by decide) _ _ _ rfl (World.ownsRow_nil _ _ _ _) ⟨w.heap.size + 1, 0, none⟩ 1 1 [.int .i64 0] rfl rfl ?c1 ?c2 ?c3 ?c4 ?c5 ?_)
    case c1 => exact news_one (by simp)
    case c2 => intro u hu; simp at hu; subst hu; rfl
    case c3 => unfold maxLen; omega
    case c4 => omega
    case c5 => simp
    intro v1 w1 hown1 hgrow1 _
    rw [← HW1.out] at hgrow1
    rw [← HSZ.out] at hown1
    have hO1 := own_app (K := []) (K' := [0]) rfl (Below.refl W1.heap.size W1) (World.ownsRow_nil _ _ _ _) hown1 hgrow1 (Nat.le_refl _)
    have hF1 := Lib.hid (show FP W1 v1 (Fd a 0) w1 from ⟨hO1.2, hO1.1⟩)
    clear hown1 hgrow1 hO1 p0 p1 p2 p3
    go_wp2_with fail
    go_loopw [3, 4] (fun v i wr => ∃ j : Nat, i = .int .i64 j ∧ j ≤ S ∧ Hid (j ≤ (Fd a j).length) ∧ Hid (FP W1 v (Fd a j) wr)) (fun _ i _ => S - (intOf i).toNat)
    case atStart => exact ⟨0, rfl, Nat.zero_le _, Nat.zero_le _, hF1⟩
    case round =>
      clear hF1
      obtain ⟨j, rfl, hjS, hjl, hfp⟩ := hrel
      have hlenS := Fd_len HRI.out hst1.out j
      rw [HST.out, Int.toNat_natCast] at hlenS
      have HPR := Lib.hid (Fd_fnd HRI.out hst1.out j)
      obtain ⟨L, hL⟩ : ∃ L, L = (Fd a j).length := ⟨_, rfl⟩
      have HL := Lib.hid hL
      have hL1 : 1 ≤ L := by have := (Fd_mono a 0 j).length_le; rw [Nat.zero_add, ← hL] at this; simpa [Fd] using this
      rw [← hL] at hlenS
      by_cases hlt : j < L
      · obtain ⟨gF, cF, rfl, hgF, hcF, hcap, hcap2⟩ := own_shape hfp.out.ow hL hL1
        obtain ⟨q, hq⟩ : ∃ q, q = (Fd a j).getD j 0 := ⟨_, rfl⟩
        have HQ := Lib.hid hq
        have HFP := Lib.hid hfp.out
        clear hcF hL hq hfp
        go_wp2_with fail
        go_loopw [3, 5] (fun v i wx => ∃ t : Nat, i = .int .i64 t ∧ t ≤ n ∧ Hid (FP W1 v (visitL (Fd a j) (succK a q t)) wx)) (fun _ i _ => n - (intOf i).toNat)
        case atStart => exact ⟨0, rfl, Nat.zero_le _, by rw [succK_zero, visitL_nil]; exact HFP⟩
        case round =>
          clear hgF hcap hcap2
          obtain ⟨t, rfl, htn, hfp⟩ := hrel
          obtain ⟨p0, p1, p2, p3⟩ := HBX.out.below hfp.out.bel (by have := HSZ.out; omega)
          have hWz := hfp.out.bel.size
          have hSZ := HSZ.out
          by_cases htl : t < n
          · obtain ⟨bA, oA, rfl, hbA, hcA⟩ := HR.out.al (by rw [HR.out.hn]; omega)
            have hz : t < a.al.length := by rw [HR.out.hn]; exact htl
            have ca := hcA t hz
            obtain ⟨ev, hev⟩ : ∃ ev, ev = a.al.getD t 0 := ⟨_, rfl⟩
            rw [← hev] at ca
            have ca' : wr.cell? ⟨bA, oA + t, none⟩ = some (.int .i64 ev) := ((HBT.out wr hfp.out.bel).cell (p := ⟨bA, oA + t, none⟩) (Nat.lt_of_lt_of_le hbA HBw.out)).trans ca
            obtain ⟨fl, hfl⟩ : ∃ fl, fl = visitL (Fd a j) (succK a q t) := ⟨_, rfl⟩
            have hfpre : Fd a j <+: fl := by rw [hfl]; exact visitL_pre _ _
            obtain ⟨L2, hL2⟩ : ∃ L2, L2 = fl.length := ⟨_, rfl⟩
            have HL2 := Lib.hid hL2
            have hLL : L ≤ L2 := by have := hfpre.length_le; rw [← HL.out, ← hL2] at this; exact this
            rw [← hfl] at hfp
            have hflS : L2 ≤ S := by
              have hpre2 : visitL (Fd a j) (succK a q t) <+: fnd a := by
                obtain ⟨r, hr⟩ := succK_pre HRI.out q t
                have h1 : visitL (Fd a j) (succK a q t) <+: visitL (Fd a j) (succ a.ed q) := by
                  rw [← hr, visitL_app]; exact visitL_pre _ _
                rw [HQ.out, ← Fd_go (by rw [← HL.out]; exact hlt), ← HQ.out] at h1
                exact h1.trans (Fd_fnd HRI.out hst1.out (j + 1))
              have h2 := hpre2.length_le
              have h3 := fnd_len HRI.out
              rw [← hfl, ← hL2] at h2
              rw [HST.out, Int.toNat_natCast] at h3
              omega
            obtain ⟨gF2, cF2, rfl, hgF2, hcF2, hcap3, hcap4⟩ := own_shape hfp.out.ow hL2 (by omega)
            have cf : wr.cell? ⟨gF2, j, none⟩ = some (.int .i64 q) := by
              have h1 := hcF2 j (by omega)
              have h2 := getD_pre hfpre (i := j) (by rw [← HL.out]; exact hlt)
              rw [h2, ← HQ.out] at h1
              exact h1
            have z1 : (j : Int) < (L2 : Int) := by omega
            have z2 : (t : Int) < (n : Int) := by omega
            have z3 : (0 : Int) ≤ (j : Int) := by omega
            have z4 : (0 : Int) ≤ (t : Int) := by omega
            have hbn := HR.out.bn
            have HST4 := Lib.hid (show StC w.heap.size (some ⟨bA, oA, none⟩) n c (S : Int) M m d E k g gF2 j q bA (oA + t) ev wr from ⟨⟨p0, p1, p2, p3⟩, cf, ca', by omega, hgF2, by have := HBw.out; omega⟩)
            have HST4d := Lib.hid HST4.out.drew
            have hfpd := Lib.hid hfp.out.drew
            obtain ⟨tt, hto⟩ : ∃ tt, tt = stepI a q ev := ⟨_, rfl⟩
            have HTO := Lib.hid hto
            have HS := Lib.hid (fun W (hF : FP W1 (.slice (some ⟨gF2, 0, none⟩) L2 cF2) fl W) (hC : StC w.heap.size (some ⟨bA, oA, none⟩) n c (S : Int) M m d E k g gF2 j q bA (oA + t) ev W) => (rStep_any (some ⟨bA, oA, none⟩) n c (S : Int) M m d E k g a q ev B W (HR.out.below (HBT.out W hF.bel) HBw.out) (Nat.le_trans HBw.out (HBT.out W hF.bel).size)).mono (R' := fun e w'' => e = .returned (.int .i64 tt) ∧ FP W1 (.slice (some ⟨gF2, 0, none⟩) L2 cF2) fl w'' ∧ StC w.heap.size (some ⟨bA, oA, none⟩) n c (S : Int) M m d E k g gF2 j q bA (oA + t) ev w'') fun e w'' hh => ⟨by rw [hh.1, hto], hF.call hh.2, hC.call hh.2⟩)
            have HEV := Lib.hid hev
            have HFL := Lib.hid hfl
            clear hto hcF2 hcA ca hev hfl hL2
            go_wp2_with fail
            go_region_held3 (fun w' => w'.cell? ⟨w.heap.size, 0, none⟩ = some (.slice (some ⟨bA, oA, none⟩) n c) ∧ w'.cell? ⟨w.heap.size, 1, none⟩ = some (.int .i64 (S : Int)) ∧ w'.cell? ⟨w.heap.size, 2, none⟩ = some (.slice M m d) ∧ w'.cell? ⟨w.heap.size, 3, none⟩ = some (.slice E k g) ∧ w'.cell? ⟨gF2, j, none⟩ = some (.int .i64 q) ∧ w'.cell? ⟨bA, oA + t, none⟩ = some (.int .i64 ev)) (first | with_reducible exact ⟨p0, p1, p2, p3, cf, ca'⟩ | go_keep)
              (first
              | (go_simp; go_at_call 50; (first | with_reducible refine (HS.out _ hfp.out HST4.out).mono ?_ | with_reducible refine (HS.out _ hfpd.out HST4d.out).mono ?_); rintro e w4 ⟨rfl, hF4, hC4⟩
                 have HF4 := Lib.hid hF4
                 have HC4 := Lib.hid hC4
                 obtain ⟨⟨p0, p1, p2, p3⟩, cf, ca', _, _, _⟩ := hC4
                 clear hF4))
            all_goals
              cases he : edgeO a.ed q ev with
              | none =>
                have hto := stepI_no he
                rw [← HTO.out] at hto
                subst hto
                have hnx := Lib.hid (show visitL (Fd a j) (succK a q (t + 1)) = fl by rw [succK_none hz (by rw [← HEV.out]; exact he), HFL.out])
                clear he
                go_wp2_with fail
                go_roundw
                case rel => exact ⟨t + 1, by go_num, by omega, by rw [hnx.out]; first | exact HF4 | exact Lib.hid HF4.out.drew⟩
                case measure => simp [intOf]; omega
              | some x =>
                have hto := stepI_of he
                rw [← HTO.out] at hto
                have hxr := (HRI.out.edr x ((edgeO_some HRI.out.edo).1 he).1).2.1
                rw [← hto] at hxr
                have hnx := Lib.hid (show visitL (Fd a j) (succK a q (t + 1)) = visit fl tt by rw [succK_some hz (by rw [← HEV.out]; exact he), visitL_snoc, ← HFL.out, hto])
                have hto0 : 0 ≤ tt := hxr.1
                obtain ⟨A', c', e', hrd, _, _⟩ := own_rdc HF4.out.ow
                rw [← HL2.out] at e'
                injection e' with e1 e2 e3
                subst e1; subst e3
                have HRD := Lib.hid hrd
                clear he hxr hto hrd
                obtain ⟨r, hr⟩ : ∃ r, r = decide (tt ∈ fl) := ⟨_, rfl⟩
                have HH := Lib.hid (fun W (hW : RdI W W.heap.size (some ⟨gF2, 0, none⟩) fl) => by
                  have := rHas_any (some ⟨gF2, 0, none⟩) L2 cF2 W.heap.size fl tt W hW HL2.out.symm (by omega)
                  rw [← hr] at this; exact this)
                have HRr := Lib.hid hr
                clear hr
                have HRDd := Lib.hid (HRD.out.dr 1)
                cases r
                · have hni := Lib.hid (show tt ∉ fl by have := HRr.out; simpa using this.symm)
                  go_wp2_with fail
                  refine (HH.out _ (by first | exact HRD.out | exact HRDd.out)).mono ?_
                  rintro e w5 ⟨rfl, rfl⟩
                  have HO4 := Lib.hid (show w4.ownsRow W1.heap.size 3 1 (.slice (some ⟨gF2, 0, none⟩) L2 cF2) L2 (fl.map (Value.int .i64)) by have := HF4.out.ow; unfold Own at this; rwa [← HL2.out] at this)
                  have hb4 := HF4.out.bel.size
                  go_wp2_with (at_builtin; refine wpList_append_own _ rfl _ _ 22 rfl W1.heap.size 3 i0 (.int .i64 0) 1 8 Try.underlying22 hi hz0 hz1 hz2 rfl (by decide) _ _ _ rfl (HO4.out.alloc _) ⟨w4.heap.size, 0, none⟩ 1 1 [.int .i64 tt] rfl rfl ?c1 ?c2 ?c3 ?c4 ?c5 ?_)
                  case c1 => exact own_one
                  case c2 => intro u hu; simp at hu; subst hu; rfl
                  case c3 => unfold maxLen; omega
                  case c4 => omega
                  case c5 => simp; omega
                  intro v5 w5 hown5 hgrow5 _
                  rw [HL2.out, ← HSZ.out] at hown5
                  have hO5 := own_app (K' := fl ++ [tt]) rfl HF4.out.bel HF4.out.ow hown5 hgrow5 (Nat.le_refl _)
                  have hF6 := Lib.hid (show FP W1 v5 (fl ++ [tt]) w5 from ⟨hO5.2, hO5.1⟩)
                  clear hown5 hgrow5 hO5
                  go_wp2_with fail
                  go_roundw
                  case rel => exact ⟨t + 1, by go_num, by omega, by rw [hnx.out, visit_new hni.out]; exact hF6⟩
                  case measure => simp [intOf]; omega
                · have hin := Lib.hid (show tt ∈ fl by have := HRr.out; simpa using this.symm)
                  go_wp2_with fail
                  refine (HH.out _ (by first | exact HRD.out | exact HRDd.out)).mono ?_
                  rintro e w5 ⟨rfl, rfl⟩
                  go_wp2_with fail
                  go_roundw
                  case rel => exact ⟨t + 1, by go_num, by omega, by rw [hnx.out, visit_in hin.out]; first | exact HF4 | exact Lib.hid HF4.out.drew⟩
                  case measure => simp [intOf]; omega
          · obtain rfl : t = n := by omega
            have hFs : visitL (Fd a j) (succK a q t) = Fd a (j + 1) := by
              rw [succK_all HRI.out HR.out.hn, Fd_go (by rw [← HL.out]; exact hlt), HQ.out]
            rw [hFs] at hfp
            have hln := Lib.hid (show j + 1 ≤ (Fd a (j + 1)).length by have := (Fd_pre a j).length_le; rw [← HL.out] at this; omega)
            clear hFs
            go_wp2_with fail
            go_roundw
            case rel => exact ⟨j + 1, by go_num, by omega, hln, hfp⟩
            case measure => simp [intOf]; omega
      · obtain rfl : j = L := by have := hjl.out; rw [← HL.out] at this; omega
        have hfn : fnd a = Fd a j := fnd_at HRI.out hst1.out (by rw [← HL.out]; exact Nat.le_refl _) (by rw [HST.out]; simp; omega)
        rw [← hfn] at hfp HL
        obtain ⟨A', c', rfl, hrd, hc1, hc2⟩ := own_rdc hfp.out.ow
        have HF := Lib.hid hfp.out
        have HRD := Lib.hid hrd
        rw [← HL.out] at HF hc1
        clear hfp hrd hfn hL
        have HL9 := Lib.hid HL.out.symm
        rw [HL9.out]
        go_wp2_with fail
        go_ret
        exact ⟨A', c', by rw [HL9.out]; rfl, HRD.out, HBT.out _ HF.out.bel, by rw [HL9.out]; exact hc1, hc2⟩
end Go.Proofs.Ytmghngehpgolgaa

/- Layer 3: Enabled and IsCanonical of the program. -/
namespace Go.Proofs.Ytmghngehpgolgaa
open Go.RowKit Go.Sort

/-- What Enabled hands back. -/
def enR (a : Au) (q : Int) : List Int × Int := if plE a q ≠ 0 then ([], plE a q) else ((succ a.ed q).map Ed.e, 0)
/-- A list in new memory and an error. -/
def GivesP (w : World) (r : List Int × Int) (e : Ending) (w' : World) : Prop := ∃ A c, e = .returned (.tuple #[.slice A r.1.length c, .int .i64 r.2]) ∧ RdI w' w'.heap.size A r.1 ∧ Below w.heap.size w w' ∧ r.1.length ≤ c ∧ c ≤ 9223372036854775807
theorem succ_take_yes {l : List Ed} {t : Nat} {x : Ed} {q : Int} (h : l[t]? = some x) (hq : x.f = q) : (succ (l.take (t + 1)) q).map Ed.e = (succ (l.take t) q).map Ed.e ++ [x.e] := by
  rw [take_succ_ed h]; unfold succ; rw [List.filter_append, List.map_append]; simp [hq]
theorem succ_take_no {l : List Ed} {t : Nat} {x : Ed} {q : Int} (h : l[t]? = some x) (hq : ¬ x.f = q) : (succ (l.take (t + 1)) q).map Ed.e = (succ (l.take t) q).map Ed.e := by
  rw [take_succ_ed h]; unfold succ; rw [List.filter_append]; simp [hq]
theorem succ_take_len (l : List Ed) (t : Nat) (q : Int) : ((succ (l.take t) q).map Ed.e).length ≤ t := by
  rw [List.length_map]; unfold succ
  exact Nat.le_trans (List.length_filter_le _ _) (List.length_take_le _ _)

/-- Whether an automaton is right and its own canonical form. -/
def isC (a : Au) : Bool := decide (chkE a = 0) && decide (a = canA a)
/-- The argument's box. -/
structure IB (w : World) (A : Option Addr) (n c : Nat) (s : Int) (M : Option Addr) (m d : Nat) (E : Option Addr) (k g : Nat) (w' : World) : Prop where
  bel : Below w.heap.size w w'
  bx : BoxA w' w.heap.size A n c s M m d E k g
  lt : w.heap.size < w'.heap.size
section
variable {w w1 w2 : World} {A : Option Addr} {n c : Nat} {s : Int} {M : Option Addr} {m d : Nat} {E : Option Addr} {k g : Nat}
theorem IB.call (h : IB w A n c s M m d E k g w1) (hb : Below w1.heap.size w1 w2) : IB w A n c s M m d E k g w2 := ⟨h.bel.trans (hb.mono h.bel.size), h.bx.below hb h.lt, Nat.lt_of_lt_of_le h.lt hb.size⟩
theorem IB.drew (h : IB w A n c s M m d E k g w1) : IB w A n c s M m d E k g w1.drew := ⟨h.bel.drew, ⟨h.bx.c0, h.bx.c1, h.bx.c2, h.bx.c3⟩, h.lt⟩
theorem IB.made (w : World) : IB w A n c s M m d E k g (w.alloc (.cells #[.slice A n c, .int .i64 s, .slice M m d, .slice E k g] 25)) := ⟨(Below.refl _ _).alloc (Nat.le_refl _) _, BoxA.made w A n c s M m d E k g 25, by simp⟩
end

end Go.Proofs.Ytmghngehpgolgaa

/- Layer 3: Closed of the program. -/
namespace Go.Proofs.Ytmghngehpgolgaa
open Go.RowKit Go.Sort

/-- The canonical form with all states marked. -/
def clsA (a : Au) : Au := ⟨a.al, ((fnd a).length : Int), rng (fnd a).length, canEn a (fnd a).length⟩
def clsR (a : Au) : Au × Int := if chkE a ≠ 0 then (zeroA, chkE a) else (clsA a, 0)
theorem rng_succ (t : Nat) : rng (t + 1) = rng t ++ [(t : Int)] := by simp [rng, List.range_succ]

end Go.Proofs.Ytmghngehpgolgaa

/- Layer 3: Complete of the program. -/
namespace Go.Proofs.Ytmghngehpgolgaa
open Go.RowKit Go.Sort

/-- Where an event leads when the further state is there. -/
def toC (a : Au) (q ev : Int) : Int := (stepO a q ev).getD a.st
def rowC (a : Au) (q : Int) : List Ed := a.al.map fun ev => ⟨q, ev, toC a q ev⟩
def compE (a : Au) (n : Nat) : List Ed := (List.range n).flatMap fun (q : Nat) => rowC a (q : Int)
/-- An automaton with a further state to which all events lead that aren't possible. -/
def compA (a : Au) : Au := ⟨a.al, a.st + 1, a.mr, compE a (a.st.toNat + 1)⟩
def cmpR (a : Au) : Au × Int := if chkE a ≠ 0 then (zeroA, chkE a) else (canA (compA a), 0)
theorem compE_succ (a : Au) (n : Nat) : compE a (n + 1) = compE a n ++ rowC a (n : Int) := by simp [compE, List.range_succ]
theorem rowC_len (a : Au) (q : Int) : (rowC a q).length = a.al.length := by simp [rowC]
theorem compE_len (a : Au) : ∀ n, (compE a n).length = n * a.al.length
  | 0 => by simp [compE]
  | n + 1 => by rw [compE_succ, List.length_append, compE_len a n, rowC_len, Nat.add_mul, Nat.one_mul]
theorem rowC_take {a : Au} {q : Int} {t : Nat} (h : t < a.al.length) : (rowC a q).take (t + 1) = (rowC a q).take t ++ [⟨q, a.al.getD t 0, toC a q (a.al.getD t 0)⟩] := by
  unfold rowC
  rw [← List.map_take, ← List.map_take, take_getD h, List.map_append]; rfl
theorem rowC_all {a : Au} {q : Int} {n : Nat} (h : a.al.length = n) : (rowC a q).take n = rowC a q := List.take_of_length_le (by rw [rowC_len]; omega)
theorem mem_compE {a : Au} {n : Nat} {y : Ed} : y ∈ compE a n ↔ ∃ q : Nat, q < n ∧ ∃ ev ∈ a.al, y = ⟨(q : Int), ev, toC a q ev⟩ := by
  unfold compE rowC
  simp only [List.mem_flatMap, List.mem_range, List.mem_map]
  constructor
  · rintro ⟨i, hi, x, hx, e⟩; exact ⟨i, hi, x, hx, e.symm⟩
  · rintro ⟨i, hi, x, hx, e⟩; exact ⟨i, hi, x, hx, e.symm⟩
theorem toC_range {a : Au} (h : RightW a) (q ev : Int) : 0 ≤ toC a q ev ∧ toC a q ev < a.st + 1 := by
  unfold toC
  cases hs : stepO a q ev with
  | none => have := h.st0; simp; omega
  | some t => have := step_range h hs; simp; omega
theorem compE_sorted {a : Au} (h : RightW a) : ∀ n, (compE a n).Pairwise ltE
  | 0 => by simp [compE]
  | n + 1 => by
    rw [compE_succ, List.pairwise_append]
    refine ⟨compE_sorted h n, ?_, fun x hx y hy => ?_⟩
    · unfold rowC
      rw [List.pairwise_map]
      exact h.alo.imp fun hlt => by unfold ltE; simp; exact hlt
    · obtain ⟨i, hi, z, _, rfl⟩ := mem_compE.1 hx
      unfold rowC at hy
      obtain ⟨z2, _, rfl⟩ := List.mem_map.1 hy
      unfold ltE; simp; omega
theorem comp_right {a : Au} (h : RightW a) : RightW (compA a) where
  alr := h.alr
  alo := h.alo
  st0 := by have := h.st0; simp [compA]; omega
  mrr x hx := by have := h.mrr x hx; simp only [compA]; omega
  mro := h.mro
  edr y hy := by
    obtain ⟨q, hq, ev, hev, rfl⟩ := mem_compE.1 hy
    have := toC_range h q ev
    have := h.st0
    exact ⟨by simp only [compA]; omega, by simp only [compA]; omega, hev⟩
  edo := compE_sorted h _
theorem al_len {a : Au} (h : RightW a) : a.al.length ≤ 32 := nodup_len (lt_nodup h.alo) fun x hx => by have := h.alr x hx; omega
theorem news_three {W : World} {x y z : Value} {T : TypeId} {b : Nat} (hb : W.heap.size = b) : ∀ j u, [x, y, z][j]? = some u → (W.alloc (.cells #[x, y, z] T)).cell? ((⟨b, 0, none⟩ : Addr).add j) = some u := by
  subst hb
  intro j u hj
  rw [show ((⟨W.heap.size, 0, none⟩ : Addr).add j) = ⟨W.heap.size, j, none⟩ by (simp [Addr.add]; try exact fun h => h.symm)]
  exact (Row.new W [x, y, z] T).cell j hj

end Go.Proofs.Ytmghngehpgolgaa

/- Layer 3, the mathematics of automata whose states or events have other names. -/
namespace Go.Proofs.Ytmghngehpgolgaa
open Go.RowKit Go.Sort

theorem edge_step {a : Au} (h : RightW a) (q ev : Int) : edgeO a.ed q ev = (stepO a q ev).map fun t => ⟨q, ev, t⟩ := by
  unfold stepO
  cases he : edgeO a.ed q ev with
  | none => rfl
  | some x =>
    obtain ⟨_, h1, h2⟩ := (edgeO_some h.edo).1 he
    subst h1 h2; rfl
theorem succ_step {a : Au} (h : RightW a) (q : Int) : succ a.ed q = a.al.filterMap fun ev => (stepO a q ev).map fun t => ⟨q, ev, t⟩ := by
  rw [succ_eq h]
  exact congrArg (fun f => a.al.filterMap f) (funext fun ev => edge_step h q ev)
/-- The second automaton is the first one with other names for the states that are found. -/
structure IsoA (b b' : Au) (f : Int → Int) : Prop where
  h : RightW b
  h' : RightW b'
  al : b'.al = b.al
  z : f 0 = 0
  p : 0 < b.st
  p' : 0 < b'.st
  inj : ∀ x y, x ∈ fnd b → y ∈ fnd b → f x = f y → x = y
  st : ∀ q ∈ fnd b, ∀ ev, stepO b' (f q) ev = (stepO b q ev).map f
  mq : ∀ q ∈ fnd b, (f q ∈ b'.mr ↔ q ∈ b.mr)
section
variable {b b' : Au} {f : Int → Int}
theorem iso_succ (H : IsoA b b' f) {q : Int} (hq : q ∈ fnd b) : succ b'.ed (f q) = (succ b.ed q).map fun x => ⟨f q, x.e, f x.t⟩ := by
  rw [succ_step H.h', succ_step H.h, H.al, List.map_filterMap]
  refine congrArg (fun g => b.al.filterMap g) (funext fun ev => ?_)
  rw [H.st q hq ev]
  cases stepO b q ev <;> rfl
theorem getD_map0 {l : List Int} {f : Int → Int} {i : Nat} (h : i < l.length) : (l.map f).getD i 0 = f (l.getD i 0) := by
  simp [List.getD, List.getElem?_eq_getElem h]
theorem Fd_iso (H : IsoA b b' f) : ∀ n, Fd b' n = (Fd b n).map f
  | 0 => by simp [Fd, H.z]
  | n + 1 => by
    have ih := Fd_iso H n
    have hp := Fd_fnd H.h H.p n
    by_cases hn : n < (Fd b n).length
    · rw [Fd_go hn, Fd_go (by rw [ih, List.length_map]; exact hn), ih, getD_map0 hn]
      have hnl : n < (fnd b).length := Nat.lt_of_lt_of_le hn hp.length_le
      have hq : (Fd b n).getD n 0 ∈ fnd b := hp.subset (getD_mem hn)
      rw [iso_succ H hq]
      refine visitL_map (fl := fnd b) H.inj _ _ hp.subset fun x hx => ⟨?_, rfl⟩
      rw [← getD_pre hp hn] at hx
      exact fnd_closed H.h hnl hx
    · rw [Fd_stop hn, Fd_stop (by rw [ih, List.length_map]; exact hn), ih]
theorem fnd_far {a : Au} (h : RightW a) (h0 : 0 < a.st) {n : Nat} (hn : a.st.toNat ≤ n) : Fd a n = fnd a := by
  have := Fd_still (a := a) (n := a.st.toNat) (Fd_len h h0 _) (n - a.st.toNat)
  rw [show a.st.toNat + (n - a.st.toNat) = n by omega] at this
  rw [this, fnd_pos h0]
theorem fnd_iso (H : IsoA b b' f) : fnd b' = (fnd b).map f := by
  rw [← fnd_far H.h' H.p' (n := b.st.toNat + b'.st.toNat) (by omega), ← fnd_far H.h H.p (n := b.st.toNat + b'.st.toNat) (by omega), Fd_iso H]
theorem idxOf_map {f : Int → Int} : ∀ {l : List Int} {x : Int}, (∀ a c, a ∈ l → c ∈ l → f a = f c → a = c) → x ∈ l → (l.map f).idxOf (f x) = l.idxOf x
  | [], x, _, h => by simp at h
  | y :: l, x, hi, h => by
    rw [List.map_cons, List.idxOf_cons, List.idxOf_cons]
    by_cases e : y = x
    · subst e; simp
    · have h1 : x ∈ l := (List.mem_cons.1 h).resolve_left fun h => e h.symm
      have h2 : ¬ f y = f x := fun e2 => e (hi y x (by simp) (by simp [h1]) e2)
      have e1 : (y == x) = false := by simpa using e
      have e2 : (f y == f x) = false := by simpa using h2
      rw [e1, e2, cond_false, cond_false, idxOf_map (fun a c ha hc => hi a c (by simp [ha]) (by simp [hc])) h1]
/-- The canonical forms are one. -/
theorem can_iso (H : IsoA b b' f) : canA b' = canA b := by
  have hf := fnd_iso H
  have hlen : (fnd b').length = (fnd b).length := by rw [hf, List.length_map]
  have hM : canM b' = canM b := by
    unfold canM
    rw [hlen]
    refine congrArg _ (List.filter_congr fun i hi => ?_)
    have hi' : i < (fnd b).length := List.mem_range.1 hi
    rw [hf, getD_map0 hi']
    exact decide_eq_decide.2 (H.mq _ (getD_mem hi'))
  have hE : canEn b' (fnd b').length = canEn b (fnd b).length := by
    unfold canEn
    rw [hlen, List.flatMap_def, List.flatMap_def]
    refine congrArg List.flatten (List.map_congr_left fun i hi => ?_)
    have hi' : i < (fnd b).length := List.mem_range.1 hi
    unfold outE
    rw [hf, getD_map0 hi', iso_succ H (getD_mem hi'), List.map_map]
    refine List.map_congr_left fun x hx => ?_
    rw [Function.comp_apply, idxOf_map H.inj (fnd_closed H.h hi' hx)]
  unfold canA
  rw [hlen, hM, H.al]
  rw [hlen] at hE
  rw [hE]
end
theorem can_zero {a : Au} (h : a.st = 0) : canA a = ⟨a.al, 0, [], []⟩ := by
  have hf : fnd a = [] := by rw [fnd, if_pos (by omega)]
  simp [canA, canM, canEn, hf]
/-- What is found is the least closed set. -/
theorem fnd_least {a : Au} (h : RightW a) (h0 : 0 < a.st) {S : List Int} (hz : (0 : Int) ∈ S) (hs : ∀ q ∈ S, ∀ ev t, stepO a q ev = some t → t ∈ S) : ∀ q ∈ fnd a, q ∈ S := by
  have : ∀ n, ∀ q ∈ Fd a n, q ∈ S := fun n => by
    induction n with
    | zero => intro q hq; simp [Fd] at hq; subst hq; exact hz
    | succ n ih =>
      intro q hq
      by_cases hn : n < (Fd a n).length
      · rw [Fd_go hn, mem_visitL] at hq
        rcases hq with hq | ⟨x, hx, rfl⟩
        · exact ih q hq
        · obtain ⟨h1, h2⟩ := mem_succ.1 hx
          exact hs _ (ih _ (getD_mem hn)) x.e x.t (stepO_some ((edgeO_some h.edo).2 ⟨h1, h2, rfl⟩))
      · rw [Fd_stop hn] at hq; exact ih q hq
  rw [fnd_pos h0]; exact this _

/-- The event that stands where a new one comes from. -/
def oldE (al tl : List Int) (e : Int) : Int := al.getD (tl.idxOf e) 0
section
variable {a : Au} {tl : List Int}
theorem mem_relE (h : RightW a) (hl : tl.length = a.al.length) (hd : tl.Nodup) {y : Ed} : y ∈ (relA a tl).ed ↔ y.e ∈ tl ∧ stepO a y.f (oldE a.al tl y.e) = some y.t := by
  show y ∈ srtE _ ↔ _
  rw [(srtE_perm _).mem_iff, List.mem_map]
  constructor
  · rintro ⟨x, hx, rfl⟩
    have hm := (h.edr x hx).2.2
    have hi : a.al.idxOf x.e < tl.length := by rw [hl]; exact List.idxOf_lt_length_iff.2 hm
    refine ⟨getD_mem hi, ?_⟩
    show stepO a x.f (a.al.getD (tl.idxOf (tl.getD (a.al.idxOf x.e) 0)) 0) = some x.t
    rw [idxOf_getD hd hi, getD_idxOf hm]
    exact stepO_some ((edgeO_some h.edo).2 ⟨hx, rfl, rfl⟩)
  · rintro ⟨h1, h2⟩
    have hi : tl.idxOf y.e < a.al.length := by rw [← hl]; exact List.idxOf_lt_length_iff.2 h1
    unfold stepO at h2
    cases he : edgeO a.ed y.f (oldE a.al tl y.e) with
    | none => rw [he] at h2; simp at h2
    | some x =>
      rw [he] at h2
      obtain ⟨g1, g2, g3⟩ := (edgeO_some h.edo).1 he
      refine ⟨x, g1, ?_⟩
      have e3 : tl.getD (a.al.idxOf x.e) 0 = y.e := by rw [g3]; unfold oldE; rw [idxOf_getD (lt_nodup h.alo) hi, getD_idxOf h1]
      have e2 : x.t = y.t := by simpa using h2
      unfold relE
      rw [e3, g2, e2]
theorem rel_step (h : RightW a) (hl : tl.length = a.al.length) (hr : ∀ x ∈ tl, 0 ≤ x ∧ x < 32) (hd : tl.Nodup) (q e : Int) : stepO (relA a tl) q e = if e ∈ tl then stepO a q (oldE a.al tl e) else none := by
  have hR := rel_right h hl hr hd
  by_cases he : e ∈ tl
  · rw [if_pos he]
    cases hs : stepO a q (oldE a.al tl e) with
    | some t => exact stepO_some (x := ⟨q, e, t⟩) ((edgeO_some hR.edo).2 ⟨(mem_relE h hl hd).2 ⟨he, hs⟩, rfl, rfl⟩)
    | none =>
      refine stepO_none (edgeO_none.2 fun y hy ⟨h1, h2⟩ => ?_)
      have := ((mem_relE h hl hd).1 hy).2
      rw [h1, h2, hs] at this; cases this
  · rw [if_neg he]
    refine stepO_none (edgeO_none.2 fun y hy ⟨h1, h2⟩ => ?_)
    have := ((mem_relE h hl hd).1 hy).1
    rw [h2] at this; exact he this
/-- The events that lead back. -/
def backL (al tl : List Int) : List Int := (srtI tl).map (oldE al tl)
theorem oldE_mem (hl : tl.length = a.al.length) {e : Int} (he : e ∈ tl) : oldE a.al tl e ∈ a.al := getD_mem (by rw [← hl]; exact List.idxOf_lt_length_iff.2 he)
theorem oldE_inj (h : RightW a) (hl : tl.length = a.al.length) {x y : Int} (hx : x ∈ tl) (hy : y ∈ tl) (e : oldE a.al tl x = oldE a.al tl y) : x = y := by
  have h1 : tl.idxOf x < a.al.length := by rw [← hl]; exact List.idxOf_lt_length_iff.2 hx
  have h2 : tl.idxOf y < a.al.length := by rw [← hl]; exact List.idxOf_lt_length_iff.2 hy
  exact idx_inj hx hy (getD_inj (lt_nodup h.alo) h1 h2 e)
theorem oldE_of (hl : tl.length = a.al.length) (hd : tl.Nodup) {ev : Int} (he : ev ∈ a.al) : ∃ e ∈ tl, oldE a.al tl e = ev := by
  have hi : a.al.idxOf ev < tl.length := by rw [hl]; exact List.idxOf_lt_length_iff.2 he
  refine ⟨tl.getD (a.al.idxOf ev) 0, getD_mem hi, ?_⟩
  unfold oldE
  rw [idxOf_getD hd hi, getD_idxOf he]
theorem back_nodup (h : RightW a) (hl : tl.length = a.al.length) (hd : tl.Nodup) : (backL a.al tl).Nodup := by
  unfold backL
  rw [List.nodup_iff_pairwise_ne, List.pairwise_map]
  refine (List.nodup_iff_pairwise_ne.1 (lt_nodup (srtI_lt hd))).imp_of_mem fun hx hy hne e => hne ?_
  exact oldE_inj h hl ((srtI_perm tl).mem_iff.1 hx) ((srtI_perm tl).mem_iff.1 hy) e
theorem mem_back (hl : tl.length = a.al.length) (hd : tl.Nodup) {ev : Int} : ev ∈ backL a.al tl ↔ ev ∈ a.al := by
  unfold backL
  rw [List.mem_map]
  constructor
  · rintro ⟨e, he, rfl⟩; exact oldE_mem hl ((srtI_perm tl).mem_iff.1 he)
  · intro h
    obtain ⟨e, he, rfl⟩ := oldE_of hl hd h
    exact ⟨e, (srtI_perm tl).mem_iff.2 he, rfl⟩
theorem back_len {al tl : List Int} : (backL al tl).length = (srtI tl).length := by unfold backL; rw [List.length_map]
theorem neE_mk : ∀ {zs seen : List Int}, (∀ x ∈ zs, 0 ≤ x ∧ x < 32) → zs.Nodup → (∀ x ∈ zs, x ∉ seen) → neGo seen zs = 0
  | [], seen, _, _, _ => by rw [neGo]
  | x :: r, seen, h1, h2, h3 => by
    rw [List.nodup_cons] at h2
    rw [neGo, if_neg (by have := h1 x (by simp); omega), if_neg (h3 x (by simp))]
    refine neE_mk (fun y hy => h1 y (by simp [hy])) h2.2 fun y hy hm => ?_
    first
    | (rcases List.mem_append.1 hm with hm | hm
       · exact h3 y (by simp [hy]) hm
       · simp at hm; subst hm; exact h2.1 hy)
    | (rcases List.mem_cons.1 hm with hm | hm
       · subst hm; exact h2.1 hy
       · exact h3 y (by simp [hy]) hm)
/-- The event that stands for an old one. -/
theorem oldE_back (h : RightW a) (hl : tl.length = a.al.length) (hd : tl.Nodup) {e : Int} (he : e ∈ tl) : oldE (srtI tl) (backL a.al tl) (oldE a.al tl e) = e := by
  have hm : e ∈ srtI tl := (srtI_perm tl).mem_iff.2 he
  have := idxOf_map (f := oldE a.al tl) (l := srtI tl) (x := e) (fun x y hx hy e => oldE_inj h hl ((srtI_perm tl).mem_iff.1 hx) ((srtI_perm tl).mem_iff.1 hy) e) hm
  show (srtI tl).getD ((backL a.al tl).idxOf (oldE a.al tl e)) 0 = e
  unfold backL
  rw [this, getD_idxOf hm]
/-- Relabelling back gives the automaton. -/
theorem rel_back (h : Right a) (hc : canA a = a) (hl : tl.length = a.al.length) (hr : ∀ x ∈ tl, 0 ≤ x ∧ x < 32) (hd : tl.Nodup) : relR (canA (relA a tl)) (backL a.al tl) = (a, 0) := by
  have hw := h.toRightW
  have hA1 := rel_right hw hl hr hd
  have hRi : Right (relA a tl) := { hA1 with st1 := h.st1 }
  have hR := hRi.can
  have hbl : (backL a.al tl).length = (canA (relA a tl)).al.length := back_len
  have hbd := back_nodup hw hl hd
  have hbr : ∀ x ∈ backL a.al tl, 0 ≤ x ∧ x < 32 := fun x hx => h.alr x ((mem_back hl hd).1 hx)
  have hB := rel_right hR.toRightW hbl hbr hbd
  have hal : (relA (canA (relA a tl)) (backL a.al tl)).al = a.al := lt_ext (srtI_lt hbd) h.alo fun x => (srtI_perm (backL a.al tl)).mem_iff.trans (mem_back hl hd)
  rw [relR, if_neg (by rw [hR.chk]; simp), if_neg (by rw [hbl]; simp), if_neg (by unfold neE; rw [neE_mk hbr hbd (by simp)]; simp)]
  congr 1
  by_cases h0 : a.st = 0
  · have h1 : (relA a tl).st = 0 := h0
    have h2 : (canA (relA a tl)).st = 0 := by rw [can_zero h1]
    rw [can_zero (a := relA (canA (relA a tl)) (backL a.al tl)) h2, hal]
    rw [← hc, can_zero h0]
  · have hp : 0 < a.st := by have := h.st0; omega
    have hp1 : 0 < (relA a tl).st := hp
    have hst : ∀ q e, stepO (relA a tl) q e = if e ∈ tl then stepO a q (oldE a.al tl e) else none := rel_step hw hl hr hd
    have hsub : ∀ q ∈ fnd a, q ∈ fnd (relA a tl) := fnd_least hw hp (zero_fnd hA1 hp1).1 fun q hq ev t hs => by
      obtain ⟨e, he, hoe⟩ := oldE_of hl hd (step_event hw hs).1
      refine step_in hA1 hq (ev := e) ?_
      rw [hst, if_pos he, hoe]; exact hs
    have hlen := List.length_pos_of_mem (zero_fnd hA1 hp1).1
    have hH : IsoA a (relA (canA (relA a tl)) (backL a.al tl)) (fun q => ((fnd (relA a tl)).idxOf q : Int)) := by
      refine { h := hw, h' := hB, al := hal, z := by rw [(zero_fnd hA1 hp1).2]; rfl, p := hp, p' := ?_, inj := fun x y hx hy e => idx_inj (hsub x hx) (hsub y hy) (by omega), st := fun q hq ev => ?_, mq := fun q hq => ?_ }
      · show (0 : Int) < ((fnd (relA a tl)).length : Int); omega
      · have hqi := List.idxOf_lt_length_iff.2 (hsub q hq)
        rw [rel_step hR.toRightW hbl hbr hbd]
        by_cases hev : ev ∈ a.al
        · rw [if_pos ((mem_back hl hd).2 hev)]
          obtain ⟨e, he, hoe⟩ := oldE_of hl hd hev
          have h3 : oldE (canA (relA a tl)).al (backL a.al tl) ev = e := by rw [← hoe]; exact oldE_back hw hl hd he
          rw [h3, step_can hA1 hqi, getD_idxOf (hsub q hq), hst, if_pos he, hoe]
        · rw [if_neg (fun hm => hev ((mem_back hl hd).1 hm))]
          cases hs : stepO a q ev with
          | none => rfl
          | some t => exact absurd (step_event hw hs).1 hev
      · show ((fnd (relA a tl)).idxOf q : Int) ∈ canM (relA a tl) ↔ q ∈ a.mr
        rw [mem_canM]
        have hqm := hsub q hq
        constructor
        · rintro ⟨i, h1, h2, h3⟩
          have : i = (fnd (relA a tl)).idxOf q := by omega
          rw [this, getD_idxOf hqm] at h2; exact h2
        · intro h1
          exact ⟨_, List.idxOf_lt_length_iff.2 hqm, by rw [getD_idxOf hqm]; exact h1, rfl⟩
    rw [can_iso hH, hc]
end
/-- The reference's edges of the first states, with the new events. -/
def relK (a : Au) (tl : List Int) (q : Int) : List Ed := (srtI tl).filterMap fun e => (stepO a q (oldE a.al tl e)).map fun t => ⟨q, e, t⟩
theorem relK_eq {a : Au} {tl : List Int} (h : RightW a) (hl : tl.length = a.al.length) (hr : ∀ x ∈ tl, 0 ≤ x ∧ x < 32) (hd : tl.Nodup) (q : Int) : relK a tl q = succ (relA a tl).ed q := by
  rw [succ_step (rel_right h hl hr hd)]
  have key : ∀ l : List Int, (∀ e ∈ l, e ∈ tl) → (l.filterMap fun e => (stepO a q (oldE a.al tl e)).map fun t => (⟨q, e, t⟩ : Ed)) = l.filterMap fun e => (stepO (relA a tl) q e).map fun t => ⟨q, e, t⟩ := fun l => by
    induction l with
    | nil => intro _; rfl
    | cons x l ih =>
      intro hm
      rw [List.filterMap_cons, List.filterMap_cons, ih fun e he => hm e (by simp [he]), rel_step h hl hr hd, if_pos (hm x (by simp))]
  exact key _ fun e he => (srtI_perm tl).mem_iff.1 he
/-- All edges, state by state. -/
theorem all_succ {a : Au} (h : RightW a) : a.ed = (List.range a.st.toNat).flatMap fun q : Nat => succ a.ed (q : Int) := by
  refine sorted_ext (r := ltE) ltE_irrefl (fun x y z => ltE_trans) _ _ h.edo ?_ fun x => ?_
  · rw [List.pairwise_flatMap]
    refine ⟨fun q _ => h.edo.sublist List.filter_sublist, ?_⟩
    refine List.pairwise_lt_range.imp fun hlt x hx y hy => ?_
    have h1 := (mem_succ.1 hx).2
    have h2 := (mem_succ.1 hy).2
    exact .inl (by omega)
  · rw [List.mem_flatMap]
    constructor
    · intro hx
      have := (h.edr x hx).1
      exact ⟨x.f.toNat, List.mem_range.2 (by omega), mem_succ.2 ⟨hx, by omega⟩⟩
    · rintro ⟨q, _, hx⟩; exact (mem_succ.1 hx).1

section
variable {a : Au}
theorem comp_step (h : RightW a) {q ev : Int} (hq : 0 ≤ q ∧ q ≤ a.st) (he : ev ∈ a.al) : stepO (compA a) q ev = some (toC a q ev) := by
  have hR := comp_right h
  refine stepO_some (x := ⟨q, ev, toC a q ev⟩) ((edgeO_some hR.edo).2 ⟨?_, rfl, rfl⟩)
  exact mem_compE.2 ⟨q.toNat, by omega, ev, he, by rw [show (q.toNat : Int) = q by omega]⟩
/-- In the further state a word stays. -/
theorem comp_sink (h : RightW a) : ∀ (ws : List Int), inB a.al ws = true → runE (compA a) a.st ws = (a.st, ws.length)
  | [], _ => by rw [runE_nil]; rfl
  | x :: r, hi => by
    unfold inB at hi
    rw [List.all_cons, Bool.and_eq_true] at hi
    have hx : x ∈ a.al := by simpa using hi.1
    have ht : toC a a.st x = a.st := by
      unfold toC
      cases hs : stepO a a.st x with
      | none => rfl
      | some t => have := step_event h hs; omega
    rw [runE_go (comp_step h ⟨h.st0, by omega⟩ hx), ht, comp_sink h r hi.2]; simp
theorem comp_run (h : RightW a) : ∀ (ws : List Int) (q : Int), 0 ≤ q → q < a.st → inB a.al ws = true → runE (compA a) q ws = (if (runE a q ws).2 = ws.length then (runE a q ws).1 else a.st, ws.length)
  | [], q, _, _, _ => by rw [runE_nil, runE_nil]; simp
  | x :: r, q, h0, h1, hi => by
    have hi0 := hi
    unfold inB at hi
    rw [List.all_cons, Bool.and_eq_true] at hi
    have hx : x ∈ a.al := by simpa using hi.1
    rw [runE_go (comp_step h ⟨h0, by omega⟩ hx)]
    unfold toC
    cases hs : stepO a q x with
    | none =>
      rw [runE_stop hs]
      show ((runE (compA a) a.st r).1, (runE (compA a) a.st r).2 + 1) = _
      rw [comp_sink h r hi.2, if_neg (by simp)]; simp
    | some t =>
      have ht := step_range h hs
      rw [runE_go hs]
      show ((runE (compA a) t r).1, (runE (compA a) t r).2 + 1) = _
      rw [comp_run h r t ht.1 ht.2 hi.2]
      simp
theorem comp_gen (h : RightW a) {ws : List Int} (hi : inB a.al ws = true) : genB (compA a) ws = true := by
  have h0 := h.st0
  have hs : ¬ (compA a).st = 0 := by show ¬ a.st + 1 = 0; omega
  unfold genB
  by_cases hz : a.st = 0
  · have := comp_sink h ws hi
    rw [hz] at this
    rw [this]; simp [hs]
  · rw [comp_run h ws 0 (by omega) (by omega) hi]; simp [hs]
theorem comp_acc (h : RightW a) {ws : List Int} (hi : inB a.al ws = true) : accB (compA a) ws = accB a ws := by
  have h0 := h.st0
  have hnm : a.st ∉ a.mr := fun hm => by have := h.mrr _ hm; omega
  unfold accB
  rw [comp_gen h hi]
  by_cases hz : a.st = 0
  · have := comp_sink h ws hi
    rw [hz] at this hnm
    rw [this]
    have hg : genB a ws = false := by simp [genB, hz]
    rw [hg]
    show (true && decide ((0 : Int) ∈ a.mr)) = (false && _)
    simp [hnm]
  · rw [comp_run h ws 0 (by omega) (by omega) hi]
    show (true && decide (_ ∈ a.mr)) = _
    by_cases hr : (runE a 0 ws).2 = ws.length
    · rw [if_pos hr]
      simp [genB, hz, hr]
    · rw [if_neg hr]
      simp [genB, hr, hnm]
theorem runE_ed {b : Au} (he : a.ed = b.ed) : ∀ (ws : List Int) (q : Int), runE a q ws = runE b q ws
  | [], q => by rw [runE_nil, runE_nil]
  | x :: r, q => by
    have hs : stepO a q x = stepO b q x := by unfold stepO; rw [he]
    cases e : stepO b q x with
    | none => rw [runE_stop (hs.trans e), runE_stop e]
    | some t => rw [runE_go (hs.trans e), runE_go e, runE_ed he r t]
theorem cls_acc (h : RightW a) (ws : List Int) : accB (clsA a) ws = genB a ws := by
  have hr := runE_ed (a := clsA a) (b := canA a) rfl ws 0
  have hg : genB (clsA a) ws = genB a ws := by rw [← gen_can h]; unfold genB; rw [hr]; rfl
  unfold accB
  rw [hg]
  by_cases hz : a.st = 0
  · simp [genB, hz]
  · have h0 := h.st0
    obtain ⟨hm, hi⟩ := zero_fnd h (by omega)
    obtain ⟨h1, h2⟩ := run_can h ws 0 hm
    rw [hi] at h2
    have h3 : (runE (clsA a) 0 ws).1 ∈ (clsA a).mr := by
      rw [hr, show ((0 : Int)) = ((0 : Nat) : Int) from rfl, h2]
      show _ ∈ rng _
      unfold rng
      exact List.mem_map.2 ⟨_, List.mem_range.2 (List.idxOf_lt_length_iff.2 h1), rfl⟩
    simp [h3]
end
end Go.Proofs.Ytmghngehpgolgaa

/- Layer 7: if all events are kept the projected automaton is the automaton itself. -/
namespace Go.Proofs.Ytmghngehpgolgaa

theorem step_alQ {b : Au} (h : RightW b) {q e t : Int} (hs : stepO b q e = some t) : e ∈ b.al ∧ 0 ≤ q ∧ q < b.st := by
  cases he : edgeO b.ed q e with
  | none => rw [stepO, he] at hs; cases hs
  | some y =>
    obtain ⟨hy, h1, h2⟩ := (edgeO_some h.edo).1 he
    have := h.edr y hy
    rw [← h2, ← h1]; exact ⟨this.2.2, this.1⟩
theorem er_all (a : Au) : erR a a.al = [] := List.filter_eq_nil_iff.2 fun x hx => by simp [hx]
theorem kp_all (a : Au) : kpR a a.al = a.al := List.filter_eq_self.2 fun x hx => by simp [hx]
theorem rc_none {a : Au} {fr : List Int} {q : Int} (h : Rc a [] fr q) : q ∈ fr := by
  cases h with
  | base h => exact h
  | step _ _ h => cases h
theorem one_ok {n : Nat} {q : Int} (h0 : 0 ≤ q) (h1 : q < (n : Int)) : SubOk n [q] := ⟨by simp, fun x hx => by simp at hx; omega⟩
theorem re_one {a : Au} (h : RightW a) {fr : List Int} {q : Int} (hq : 0 ≤ q ∧ q < a.st) (hf : ∀ x, x ∈ fr ↔ x = q) : reR a [] fr = [q] := by
  have hr : ∀ x ∈ fr, 0 ≤ x ∧ x < a.st := fun x hx => by rw [(hf x).1 hx]; exact hq
  refine (reR_of h hr (by simp) fun x => ?_).symm
  rw [List.mem_singleton, ← hf]
  exact ⟨.base, rc_none⟩
theorem fs_all {a : Au} (h : RightW a) (h0 : a.st ≠ 0) : fsR a a.al = [0] := by
  have := h.st0
  rw [fsR, if_neg h0, er_all]
  exact re_one h (by omega) fun x => by simp
theorem all_iso {a : Au} (h : RightW a) (h0 : a.st ≠ 0) : IsoA a (detA a a.al) fun q => (detC a a.al).en [q] := by
  have hst := h.st0
  have hin : ∀ q ∈ fnd a, SubOk a.st.toNat [q] := fun q hq => by
    have := fnd_range h q hq
    exact one_ok this.1 (by omega)
  exact {
    h := h
    h' := det_right h _
    al := by
      unfold detA; rw [if_neg h0]; exact kp_all a
    z := by
      have := det_zero a a.al
      rw [fs_all h h0] at this; exact this
    p := by omega
    p' := by
      unfold detA; rw [if_neg h0]
      show 0 < ((prT (twos a.st.toNat)).toNat : Int)
      have := two_pos a.st.toNat
      omega
    inj := fun x y hx hy e => by
      have h1 := (det_ok h a.al).den _ (hin x hx)
      have h2 := (det_ok h a.al).den _ (hin y hy)
      have e' : (detC a a.al).en [x] = (detC a a.al).en [y] := e
      rw [e', h2] at h1
      simpa using h1.symm
    st := fun q hq ev => by
      show stepO (detA a a.al) ((detC a a.al).en [q]) ev = _
      by_cases he : ev ∈ a.al
      · rw [det_step h h0 (hin q hq) (by rw [kp_all]; exact he)]
        cases hs : stepO a q ev with
        | none =>
          rw [if_pos]
          · rfl
          · cases ht : tgR a [q] ev with
            | nil => rfl
            | cons t l =>
              obtain ⟨y, hy, h1, h2, h3⟩ := mem_tgR.1 (show t ∈ tgR a [q] ev by rw [ht]; simp)
              rw [List.mem_singleton] at h2
              rw [stepO, (edgeO_some h.edo).2 ⟨hy, h2, h1⟩] at hs
              cases hs
        | some t =>
          cases hy : edgeO a.ed q ev with
          | none => rw [stepO, hy] at hs; cases hs
          | some y =>
            rw [stepO, hy] at hs
            injection hs with hs
            obtain ⟨k1, k2, k3⟩ := (edgeO_some h.edo).1 hy
            have hmem : ∀ x, x ∈ tgR a [q] ev ↔ x = t := fun x => by
              rw [mem_tgR]
              constructor
              · rintro ⟨z, hz, g1, g2, g3⟩
                rw [List.mem_singleton] at g2
                have : edgeO a.ed q ev = some z := (edgeO_some h.edo).2 ⟨hz, g2, g1⟩
                rw [hy] at this
                injection this with this
                rw [← g3, ← this]; exact hs
              · rintro rfl
                exact ⟨y, k1, k3, by rw [k2]; simp, hs⟩
            have htr : 0 ≤ t ∧ t < a.st := by rw [← hs]; exact (h.edr y k1).2.1
            rw [if_neg (fun e => by have := (hmem t).2 rfl; rw [e] at this; cases this)]
            show some ((detC a a.al).en (nxR a a.al [q] ev)) = some ((detC a a.al).en [t])
            rw [nxR, er_all, re_one h htr hmem]
      · have h1 : stepO a q ev = none := by
          cases hs : stepO a q ev with
          | none => rfl
          | some t => exact absurd (step_alQ h hs).1 he
        have h2 : stepO (detA a a.al) ((detC a a.al).en [q]) ev = none := by
          cases hs : stepO (detA a a.al) ((detC a a.al).en [q]) ev with
          | none => rfl
          | some t =>
            have := (step_alQ (det_right h a.al) hs).1
            unfold detA at this
            rw [if_neg h0] at this
            exact absurd (show ev ∈ a.al by rw [← kp_all a]; exact this) he
        rw [h1, h2]; rfl
    mq := fun q hq => by
      show (detC a a.al).en [q] ∈ (detA a a.al).mr ↔ _
      rw [det_mark h h0 (hin q hq)]
      simp }
/-- The projected automaton, and the estimates. -/
theorem can_all {a : Au} (h : RightW a) (h0 : a.st ≠ 0) : canA (detA a a.al) = canA a := can_iso (all_iso h h0)
theorem ests_all {a : Au} (h : RightW a) (h0 : a.st ≠ 0) : (fnd (detA a a.al)).map (detC a a.al).de = (fnd a).map fun q => [q] := by
  rw [fnd_iso (all_iso h h0), List.map_map]
  refine List.map_congr_left fun q hq => ?_
  have hr := fnd_range h q hq
  exact (det_ok h a.al).den _ (one_ok hr.1 (by have := h.st0; omega))
end Go.Proofs.Ytmghngehpgolgaa

/- Layer 7: the inverse projection, and its projection back. -/
namespace Go.Proofs.Ytmghngehpgolgaa

theorem tg_one {b : Au} (h : RightW b) {q ev x : Int} : x ∈ tgR b [q] ev ↔ stepO b q ev = some x := by
  rw [mem_tgR]
  constructor
  · rintro ⟨z, hz, g1, g2, g3⟩
    rw [List.mem_singleton] at g2
    rw [stepO, (edgeO_some h.edo).2 ⟨hz, g2, g1⟩, ← g3]; rfl
  · intro hs
    cases hy : edgeO b.ed q ev with
    | none => rw [stepO, hy] at hs; cases hs
    | some y =>
      rw [stepO, hy] at hs
      injection hs with hs
      obtain ⟨k1, k2, k3⟩ := (edgeO_some h.edo).1 hy
      exact ⟨y, k1, k3, by rw [k2]; simp, hs⟩
/-- Where erased edges are loops the closure of a state is the state. -/
theorem re_loop {b : Au} (h : RightW b) {ev fr : List Int} (hl : ∀ x ∈ b.ed, x.e ∈ ev → x.t = x.f) {q : Int} (hq : 0 ≤ q ∧ q < b.st) (hf : ∀ x, x ∈ fr ↔ x = q) : reR b ev fr = [q] := by
  have hr : ∀ x ∈ fr, 0 ≤ x ∧ x < b.st := fun x hx => by rw [(hf x).1 hx]; exact hq
  refine (reR_of h hr (by simp) fun x => ?_).symm
  rw [List.mem_singleton]
  constructor
  · rintro rfl; exact .base ((hf _).2 rfl)
  · intro hx
    induction hx with
    | base hx => exact (hf _).1 hx
    | step _ hx he ih => rw [hl _ hx he]; exact ih
/-- An automaton's projection that loses loops alone is the automaton. -/
theorem loop_iso {a b : Au} (ha : RightW a) (hb : RightW b) {onto : List Int} (a0 : a.st ≠ 0) (b0 : b.st ≠ 0) (hk : kpR b onto = a.al) {g : Int → Int} (g0 : g 0 = 0) (gr : ∀ q ∈ fnd a, 0 ≤ g q ∧ g q < b.st)
    (gi : ∀ x y, x ∈ fnd a → y ∈ fnd a → g x = g y → x = y) (gs : ∀ q ∈ fnd a, ∀ e ∈ a.al, stepO b (g q) e = (stepO a q e).map g) (gm : ∀ q ∈ fnd a, (g q ∈ b.mr ↔ q ∈ a.mr)) (hl : ∀ x ∈ b.ed, x.e ∈ erR b onto → x.t = x.f) :
    IsoA a (detA b onto) fun q => (detC b onto).en [g q] := by
  have hst := ha.st0
  have hsb := hb.st0
  have hin : ∀ q ∈ fnd a, SubOk b.st.toNat [g q] := fun q hq => by
    have := gr q hq
    exact one_ok this.1 (by omega)
  have hfs : fsR b onto = [0] := by
    rw [fsR, if_neg b0]
    exact re_loop hb hl (by omega) fun x => by simp
  exact {
    h := ha
    h' := det_right hb _
    al := by
      unfold detA; rw [if_neg b0]; exact hk
    z := by
      have := det_zero b onto
      rw [hfs] at this
      show (detC b onto).en [g 0] = 0
      rw [g0]; exact this
    p := by omega
    p' := by
      unfold detA; rw [if_neg b0]
      show 0 < ((prT (twos b.st.toNat)).toNat : Int)
      have := two_pos b.st.toNat
      omega
    inj := fun x y hx hy e => by
      have h1 := (det_ok hb onto).den _ (hin x hx)
      have h2 := (det_ok hb onto).den _ (hin y hy)
      have e' : (detC b onto).en [g x] = (detC b onto).en [g y] := e
      rw [e', h2] at h1
      exact gi x y hx hy (by simpa using h1.symm)
    st := fun q hq ev => by
      show stepO (detA b onto) ((detC b onto).en [g q]) ev = _
      by_cases he : ev ∈ a.al
      · rw [det_step hb b0 (hin q hq) (by rw [hk]; exact he)]
        have hs := gs q hq ev he
        cases ht : stepO a q ev with
        | none =>
          rw [ht] at hs
          rw [if_pos]
          · rfl
          · cases hh : tgR b [g q] ev with
            | nil => rfl
            | cons t l =>
              have := (tg_one hb).1 (show t ∈ tgR b [g q] ev by rw [hh]; simp)
              rw [this] at hs; cases hs
        | some t =>
          rw [ht] at hs
          have hs' : stepO b (g q) ev = some (g t) := hs
          have htf : t ∈ fnd a := step_in ha hq ht
          have hmem : ∀ x, x ∈ tgR b [g q] ev ↔ x = g t := fun x => by
            rw [tg_one hb, hs']
            exact ⟨fun e => by injection e with e; exact e.symm, fun e => by rw [e]⟩
          rw [if_neg (fun e => by have := (hmem (g t)).2 rfl; rw [e] at this; cases this)]
          show some ((detC b onto).en (nxR b onto [g q] ev)) = some ((detC b onto).en [g t])
          rw [nxR, re_loop hb hl (gr t htf) hmem]
      · have h1 : stepO a q ev = none := by
          cases hs : stepO a q ev with
          | none => rfl
          | some t => exact absurd (step_alQ ha hs).1 he
        have h2 : stepO (detA b onto) ((detC b onto).en [g q]) ev = none := by
          cases hs : stepO (detA b onto) ((detC b onto).en [g q]) ev with
          | none => rfl
          | some t =>
            have := (step_alQ (det_right hb onto) hs).1
            unfold detA at this
            rw [if_neg b0] at this
            exact absurd (show ev ∈ a.al by rw [← hk]; exact this) he
        rw [h1, h2]; rfl
    mq := fun q hq => by
      show (detC b onto).en [g q] ∈ (detA b onto).mr ↔ _
      rw [det_mark hb b0 (hin q hq), ← gm q hq]
      simp }
/-- The inverse projection: loops by the new events. -/
def invC (a : Au) (al2 : List Int) : Cod Int where
  al := (rng 32).filter fun x => decide (x ∈ a.al) || decide (x ∈ al2)
  n := a.st.toNat
  en q := q
  de q := q
  st q e := if e ∈ a.al then stepO a q e else some q
  mq q := decide (q ∈ a.mr)
def InS (a : Au) (q : Int) : Prop := 0 ≤ q ∧ q < a.st
theorem inv_ok {a : Au} (h : RightW a) (al2 : List Int) : CodOk (invC a al2) (InS a) where
  alr x hx := by have := mem_rng.1 (List.mem_filter.1 hx).1; omega
  alo := (rng_up 32).sublist List.filter_sublist
  enr s hs := ⟨hs.1, by have := hs.2; have := hs.1; show s < (a.st.toNat : Int); omega⟩
  den _ _ := rfl
  edn _ _ _ := rfl
  okd x h0 h1 := ⟨h0, by have h1 : x < (a.st.toNat : Int) := h1; show x < a.st; omega⟩
  sto s e t hs ht := by
    have ht : (if e ∈ a.al then stepO a s e else some s) = some t := ht
    split at ht
    · cases hy : edgeO a.ed s e with
      | none => rw [stepO, hy] at ht; cases ht
      | some y =>
        rw [stepO, hy] at ht
        injection ht with ht
        rw [← ht]; exact (h.edr y ((edgeO_some h.edo).1 hy).1).2.1
    · injection ht with ht; rw [← ht]; exact hs
def invA (a : Au) (al2 : List Int) : Au := codA (invC a al2)
theorem inv_right {a : Au} (h : RightW a) (al2 : List Int) : RightW (invA a al2) := cod_right (inv_ok h al2)
theorem mem_inv_al {a : Au} (h : RightW a) {al2 : List Int} (h2 : ∀ x ∈ al2, 0 ≤ x ∧ x < 32) {x : Int} : x ∈ (invA a al2).al ↔ x ∈ a.al ∨ x ∈ al2 := by
  show x ∈ (rng 32).filter (fun x => decide (x ∈ a.al) || decide (x ∈ al2)) ↔ _
  rw [List.mem_filter, mem_rng]
  simp only [Bool.or_eq_true, decide_eq_true_eq]
  constructor
  · exact fun h' => h'.2
  · intro h'
    refine ⟨?_, h'⟩
    rcases h' with h' | h'
    · have := h.alr x h'; omega
    · have := h2 x h'; omega
theorem inv_step {a : Au} (h : RightW a) {al2 : List Int} {q e : Int} (hq : InS a q) (he : e ∈ (invA a al2).al) : stepO (invA a al2) q e = if e ∈ a.al then stepO a q e else some q := by
  have := cod_step (inv_ok h al2) hq he
  refine this.trans ?_
  show Option.map (fun q => q) _ = _
  rw [Option.map_id']
  rfl
theorem inv_st {a : Au} (h : RightW a) (al2 : List Int) : (invA a al2).st = a.st := by
  have := h.st0
  show (a.st.toNat : Int) = a.st
  omega
theorem inv_found {a : Au} (h : RightW a) (h0 : a.st ≠ 0) {al2 : List Int} (h2 : ∀ x ∈ al2, 0 ≤ x ∧ x < 32) : ∀ q ∈ fnd a, q ∈ fnd (invA a al2) := by
  have hst := h.st0
  have hr := inv_right h al2
  refine fnd_least h (by omega) (zero_fnd hr (by rw [inv_st h]; omega)).1 fun q hq ev t hs => ?_
  have hin := step_alQ h hs
  refine step_in hr hq (ev := ev) ?_
  rw [inv_step h hin.2 ((mem_inv_al h h2).2 (.inl hin.1)), if_pos hin.1]; exact hs
/-- Projected back, the inverse projection is the automaton. -/
theorem inv_back {a : Au} (h : RightW a) (h0 : a.st ≠ 0) {al2 : List Int} (h2 : ∀ x ∈ al2, 0 ≤ x ∧ x < 32) : canA (detA (canA (invA a al2)) a.al) = canA a := by
  have hst := h.st0
  have hr := inv_right h al2
  have hc := can_right hr
  have hf := inv_found h h0 h2
  have hz := zero_fnd hr (by rw [inv_st h]; omega)
  have hlen := List.length_pos_of_mem hz.1
  refine can_iso (loop_iso (g := fun q => ((fnd (invA a al2)).idxOf q : Int)) h hc h0 ?_ ?_ ?_ ?_ ?_ ?_ ?_ ?_)
  · show ((fnd (invA a al2)).length : Int) ≠ 0; omega
  · refine sub_ext (hc.alo.sublist List.filter_sublist) h.alo fun x => ?_
    rw [mem_kpR]
    show x ∈ (invA a al2).al ∧ _ ↔ _
    rw [mem_inv_al h h2]
    exact ⟨fun h' => h'.2, fun h' => ⟨.inl h', h'⟩⟩
  · show ((fnd (invA a al2)).idxOf 0 : Int) = 0
    rw [hz.2]; rfl
  · intro q hq
    have := List.idxOf_lt_length_iff.2 (hf q hq)
    refine ⟨by omega, ?_⟩
    show ((fnd (invA a al2)).idxOf q : Int) < ((fnd (invA a al2)).length : Int)
    omega
  · intro x y hx hy e
    have e : ((fnd (invA a al2)).idxOf x : Int) = ((fnd (invA a al2)).idxOf y : Int) := e
    rw [← getD_idxOf (hf x hx), Int.ofNat_inj.1 e, getD_idxOf (hf y hy)]
  · intro q hq e he
    have hi := List.idxOf_lt_length_iff.2 (hf q hq)
    have hs := step_can hr hi e
    rw [getD_idxOf (hf q hq)] at hs
    show stepO (canA (invA a al2)) ((fnd (invA a al2)).idxOf q : Int) e = _
    have hq' := fnd_range h q hq
    rw [hs, inv_step h hq' ((mem_inv_al h h2).2 (.inl he)), if_pos he]
  · intro q hq
    have hi := List.idxOf_lt_length_iff.2 (hf q hq)
    have hq' := fnd_range h q hq
    show ((fnd (invA a al2)).idxOf q : Int) ∈ canM (invA a al2) ↔ _
    rw [mem_canM]
    have hmk : q ∈ (invA a al2).mr ↔ q ∈ a.mr := by
      have := cod_mark (inv_ok h al2) hq'
      refine (show q ∈ (invA a al2).mr ↔ decide (q ∈ a.mr) = true from this).trans ?_
      simp
    constructor
    · rintro ⟨i, h1, h3, h4⟩
      have : i = (fnd (invA a al2)).idxOf q := by omega
      rw [this, getD_idxOf (hf q hq)] at h3
      exact hmk.1 h3
    · intro h3
      exact ⟨_, hi, by rw [getD_idxOf (hf q hq)]; exact hmk.2 h3, rfl⟩
  · intro x hx he
    obtain ⟨i, hi, y, hy, e⟩ := mem_canEn.1 (show x ∈ canEn (invA a al2) (fnd (invA a al2)).length from hx)
    obtain ⟨hy1, hy2⟩ := mem_succ.1 hy
    subst e
    have hm := mem_erR.1 he
    have hye : y.e ∉ a.al := hm.2
    have hyr := (inv_right h al2).edr y hy1
    have hys : stepO (invA a al2) y.f y.e = some y.t := by rw [stepO, (edgeO_some (inv_right h al2).edo).2 ⟨hy1, rfl, rfl⟩]; rfl
    rw [inv_step h ⟨hyr.1.1, by rw [← inv_st h al2]; exact hyr.1.2⟩ hyr.2.2, if_neg hye] at hys
    injection hys with hys
    show ((fnd (invA a al2)).idxOf y.t : Int) = (i : Int)
    rw [← hys, hy2, idxOf_getD (fnd_nodup _) hi]
end Go.Proofs.Ytmghngehpgolgaa

/- Layer 7: marked words of a projection; projecting twice. -/
namespace Go.Proofs.Ytmghngehpgolgaa

theorem det_st {a : Au} (h0 : a.st ≠ 0) (onto : List Int) : (detA a onto).st ≠ 0 := by
  unfold detA; rw [if_neg h0]
  show ((prT (twos a.st.toNat)).toNat : Int) ≠ 0
  have := two_pos a.st.toNat
  omega
theorem det_rO {a : Au} (h : RightW a) (h0 : a.st ≠ 0) {onto ws : List Int} (hw : ∀ x ∈ ws, x ∈ kpR a onto) : rO (detA a onto) 0 ws = (rC (detC a onto) (fsR a onto) ws).map (detC a onto).en ∧ ∀ t, rC (detC a onto) (fsR a onto) ws = some t → SubOk a.st.toNat t := by
  have := cod_rO (det_ok h onto) ws (fsR a onto) (fs_ok onto) hw
  rw [det_zero] at this
  refine ⟨?_, this.2⟩
  unfold detA; rw [if_neg h0]; exact this.1
theorem fs_rc {a : Au} (h : RightW a) (h0 : a.st ≠ 0) {onto : List Int} {q : Int} (hq : q ∈ fsR a onto) : ∃ v, rO a 0 v = some q ∧ (v.filter fun x => decide (x ∈ onto)) = [] ∧ ∀ x ∈ v, x ∈ a.al := by
  unfold fsR at hq
  rw [if_neg h0] at hq
  have := h.st0
  obtain ⟨p, hp, v, k⟩ := rc_word h ((mem_reR h fun y hy => by simp at hy; omega).1 hq)
  rw [List.mem_singleton] at hp
  subst hp
  exact ⟨v, k⟩
theorem mO_some {a : Au} {o : Option Int} : mO a o = true ↔ ∃ t, o = some t ∧ t ∈ a.mr := by
  cases o with
  | none => simp [mO]
  | some t => simp [mO]
theorem det_acc {a : Au} (h : RightW a) (h0 : a.st ≠ 0) {onto ws : List Int} (hw : ∀ x ∈ ws, x ∈ kpR a onto) : accB (detA a onto) ws = true ↔ ∃ w, (∀ x ∈ w, x ∈ a.al) ∧ (w.filter fun x => decide (x ∈ onto)) = ws ∧ accB a w = true := by
  obtain ⟨hd, hok⟩ := det_rO h h0 hw
  rw [acc_rO (det_st h0 onto), hd, mO_some]
  constructor
  · rintro ⟨t, ht, hm⟩
    cases hs : rC (detC a onto) (fsR a onto) ws with
    | none => rw [hs] at ht; cases ht
    | some s' =>
      rw [hs] at ht
      injection ht with ht
      rw [← ht] at hm
      obtain ⟨y, hy, hym⟩ := (det_mark h h0 (hok s' hs)).1 hm
      obtain ⟨q, hq, w, g1, g2, g3⟩ := est_has h ws _ s' y (fun x hx => (mem_kpR.1 (hw x hx)).2) hs hy
      obtain ⟨v, k1, k2, k3⟩ := fs_rc h h0 hq
      refine ⟨v ++ w, fun x hx => (List.mem_append.1 hx).elim (k3 x) (g3 x), by rw [List.filter_append, k2, g2]; rfl, ?_⟩
      rw [acc_rO h0, mO_some, rO_app, k1]
      exact ⟨y, g1, hym⟩
  · rintro ⟨w, _, h2, h3⟩
    rw [acc_rO h0, mO_some] at h3
    obtain ⟨t, ht, hm⟩ := h3
    obtain ⟨s', hs', hts, _⟩ := est_word h w 0 t _ (fs_cls h onto) (zero_fs h h0 onto) ht
    rw [h2] at hs'
    rw [hs']
    exact ⟨_, rfl, (det_mark h h0 (hok s' hs')).2 ⟨t, hts, hm⟩⟩
theorem filter_two {onto part w : List Int} (hp : ∀ x ∈ part, x ∈ onto) : ((w.filter fun x => decide (x ∈ onto)).filter fun x => decide (x ∈ part)) = w.filter fun x => decide (x ∈ part) := by
  rw [List.filter_filter]
  refine List.filter_congr fun x _ => ?_
  by_cases hx : x ∈ part
  · simp [hx, hp x hx]
  · simp [hx]
theorem can_al (a : Au) : (canA a).al = a.al := rfl
theorem det_al {a : Au} (onto : List Int) : (detA a onto).al = kpR a onto := by
  unfold detA; split <;> rfl
theorem can_st0 {a : Au} (h : RightW a) (h0 : a.st ≠ 0) : (canA a).st ≠ 0 := by
  have := h.st0
  have := List.length_pos_of_mem (zero_fnd h (by omega)).1
  show ((fnd a).length : Int) ≠ 0
  omega
section
variable {a : Au} (h : RightW a) (h0 : a.st ≠ 0) {onto part ws : List Int} (hp : ∀ x ∈ part, x ∈ onto) (hw : ∀ x ∈ ws, x ∈ kpR a part)
include h h0 hp hw
omit h h0 in
theorem twice_kp : ∀ x ∈ ws, x ∈ kpR (canA (detA a onto)) part := fun x hx => by
  have := mem_kpR.1 (hw x hx)
  exact mem_kpR.2 ⟨by rw [can_al, det_al]; exact mem_kpR.2 ⟨this.1, hp x this.2⟩, this.2⟩
/-- Projecting twice generates, and marks, what projecting once does. -/
theorem twice_gen : genB (detA (canA (detA a onto)) part) ws = genB (detA a part) ws := by
  have hd := det_right h onto
  have key : genB (detA (canA (detA a onto)) part) ws = true ↔ genB (detA a part) ws = true := by
    rw [det_gen (can_right hd) (can_st0 hd (det_st h0 onto)) (twice_kp hp hw), det_gen h h0 hw]
    constructor
    · rintro ⟨v, hv, e1, hg⟩
      rw [gen_can hd, det_gen h h0 (fun x hx => by have := hv x hx; rwa [can_al, det_al] at this)] at hg
      obtain ⟨w, g1, g2, g3⟩ := hg
      exact ⟨w, g1, by rw [← e1, ← g2, filter_two hp], g3⟩
    · rintro ⟨w, g1, g2, g3⟩
      have hv : ∀ x ∈ w.filter fun x => decide (x ∈ onto), x ∈ kpR a onto := fun x hx => by
        obtain ⟨k1, k2⟩ := List.mem_filter.1 hx
        exact mem_kpR.2 ⟨g1 x k1, by simpa using k2⟩
      refine ⟨w.filter fun x => decide (x ∈ onto), fun x hx => by rw [can_al, det_al]; exact hv x hx, by rw [filter_two hp, g2], ?_⟩
      rw [gen_can hd, det_gen h h0 hv]
      exact ⟨w, g1, rfl, g3⟩
  cases h1 : genB (detA (canA (detA a onto)) part) ws <;> cases h2 : genB (detA a part) ws <;> simp [h1, h2] at key ⊢
theorem twice_acc : accB (detA (canA (detA a onto)) part) ws = accB (detA a part) ws := by
  have hd := det_right h onto
  have key : accB (detA (canA (detA a onto)) part) ws = true ↔ accB (detA a part) ws = true := by
    rw [det_acc (can_right hd) (can_st0 hd (det_st h0 onto)) (twice_kp hp hw), det_acc h h0 hw]
    constructor
    · rintro ⟨v, hv, e1, hg⟩
      rw [acc_can hd, det_acc h h0 (fun x hx => by have := hv x hx; rwa [can_al, det_al] at this)] at hg
      obtain ⟨w, g1, g2, g3⟩ := hg
      exact ⟨w, g1, by rw [← e1, ← g2, filter_two hp], g3⟩
    · rintro ⟨w, g1, g2, g3⟩
      have hv : ∀ x ∈ w.filter fun x => decide (x ∈ onto), x ∈ kpR a onto := fun x hx => by
        obtain ⟨k1, k2⟩ := List.mem_filter.1 hx
        exact mem_kpR.2 ⟨g1 x k1, by simpa using k2⟩
      refine ⟨w.filter fun x => decide (x ∈ onto), fun x hx => by rw [can_al, det_al]; exact hv x hx, by rw [filter_two hp, g2], ?_⟩
      rw [acc_can hd, det_acc h h0 hv]
      exact ⟨w, g1, rfl, g3⟩
  cases h1 : accB (detA (canA (detA a onto)) part) ws <;> cases h2 : accB (detA a part) ws <;> simp [h1, h2] at key ⊢
end
end Go.Proofs.Ytmghngehpgolgaa
