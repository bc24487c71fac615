/- Texts merged: what follows were texts of their own. -/
import Derived.Test.YtaadhpkpekmfoaaGreatZa9
import Derived.Test.YtaadhpkpekmfoaaGreatZa8
import Derived.Test.YtaadhpkpekmfoaaGreatZa6
import Derived.Deep.CutRange
import Derived.Carry
import Derived.Deep.Upon
import Derived.Deep.RegionHeld3
set_option linter.unusedVariables false
set_option linter.unusedSimpArgs false
set_option linter.unusedSectionVars false
/- Layer 7: slices.ContainsFunc over the closures of keeps and Project; keeps. -/
namespace Go.Proofs.YtaadhpkpekmfoaaGreat
open Go.RowKit Go.Sort

theorem any_take {p : Int → Bool} {zs : List Int} {k : Nat} (h : k < zs.length) (ha : (zs.take k).any p = false) (hp : p (zs.getD k 0) = false) : (zs.take (k + 1)).any p = false := by
  rw [List.take_succ_eq_append_getElem h, List.any_append, ha]
  have e : zs.getD k 0 = zs[k] := by simp [List.getD, List.getElem?_eq_getElem h]
  rw [e] at hp
  simp [hp]
theorem any_all (p : Int → Bool) : ∀ zs : List Int, (zs.any fun x => !p x) = !(zs.all p)
  | [] => rfl
  | x :: zs => by rw [List.any_cons, List.all_cons, any_all p zs]; cases p x <;> rfl
theorem any_at {p : Int → Bool} {zs : List Int} {k : Nat} (h : k < zs.length) (hp : p (zs.getD k 0) = true) : zs.any p = true := by
  rw [List.any_eq_true]
  exact ⟨_, getD_mem h, hp⟩
theorem callK_any (args : Array Value) (W : World) : (callFunc 99 args).run Tryz.prog W = .ok (.enter 99 args) W := by
  go_simp
set_option maxHeartbeats 4000000 in
set_option maxRecDepth 100000 in
theorem indexK_any (b : Nat) (A : Option Addr) (n c B : Nat) (zs : List Int) (p : Int → Bool) (w : World) (hp : ∀ x ∈ zs, ∀ W, Below B w W → Calls Tryz.prog 99 #[.int .i64 x, .pointer (some ⟨b, 0, none⟩)] W fun e w' => e = .returned (.bool (p x)) ∧ W = w') (hx : RdI w B A zs) (hn : zs.length = n) (hnb : n ≤ 140737488355328) :
    Calls Tryz.prog 92 #[.slice A n c, .func (.func 99) #[] #[.pointer (some ⟨b, 0, none⟩)]] w fun e w' => (∃ k : Int, e = .returned (.int .i64 k) ∧ -1 ≤ k ∧ (0 ≤ k ↔ zs.any p = true)) ∧ w = w' := by
  have HP := Lib.hid hp
  have HX := Lib.hid hx
  have HN := Lib.hid hn
  clear hp hx hn
  go_enter Tryz.func92, Tryz.ntmps92
  go_wp2_with fail
  go_loopw [8] (fun iv wr => ∃ k : Nat, k ≤ n ∧ iv = .int .i64 k ∧ Hid ((zs.take k).any p = false) ∧ wr = w) (fun i _ => n - (intOf i).toNat)
  case atStart => exact ⟨0, Nat.zero_le _, rfl, Lib.hid (by simp), rfl⟩
  case round =>
    obtain ⟨k, hk, rfl, ha, rfl⟩ := hrel
    by_cases hlt : k < n
    · obtain ⟨b1, o1, rfl, hb1, hc1⟩ := HX.out (by rw [HN.out]; omega)
      have hz : k < zs.length := by rw [HN.out]; exact hlt
      have h1 := hc1 k hz
      have hm := getD_mem hz
      obtain ⟨x, hxe⟩ : ∃ x, x = zs.getD k 0 := ⟨_, rfl⟩
      rw [← hxe] at h1 hm
      have HC := Lib.hid (HP.out x hm _ (Below.refl _ _))
      obtain ⟨r, hr⟩ : ∃ r, p x = r := ⟨_, rfl⟩
      rw [hr] at HC
      have z0 : (k : Int) < (n : Int) := by omega
      have z1 : (0 : Int) ≤ (k : Int) := by omega
      cases r
      · have ha2 := Lib.hid (any_take (p := p) hz ha.out (by rw [← hxe]; exact hr))
        clear hc1 hz hxe hr ha hm
        go_wp2_with fail
        refine HC.out.mono ?_
        rintro e w5 ⟨rfl, hw5⟩
        subst hw5
        go_wp2_with fail
        go_roundw
        case rel => exact ⟨k + 1, by omega, by go_num, ha2, by first | rfl | trivial⟩
        case measure => simp [intOf]; omega
      · have ha2 := Lib.hid (any_at (p := p) hz (by rw [← hxe]; exact hr))
        clear hc1 hz hxe hr ha hm
        go_wp2_with fail
        refine HC.out.mono ?_
        rintro e w5 ⟨rfl, hw5⟩
        subst hw5
        go_wp2_with fail
        go_ret
        exact ⟨⟨_, rfl, by omega, by rw [ha2.out]; simp⟩, rfl⟩
    · have hF0 : zs.take k = zs := List.take_of_length_le (by rw [HN.out]; omega)
      rw [hF0] at ha
      clear hF0
      go_wp2_with fail
      go_ret
      exact ⟨⟨_, rfl, by omega, by rw [ha.out]; simp⟩, rfl⟩
set_option maxHeartbeats 4000000 in
theorem containsK_any (b : Nat) (A : Option Addr) (n c B : Nat) (zs : List Int) (p : Int → Bool) (w : World) (hp : ∀ x ∈ zs, ∀ W, Below B w W → Calls Tryz.prog 99 #[.int .i64 x, .pointer (some ⟨b, 0, none⟩)] W fun e w' => e = .returned (.bool (p x)) ∧ W = w') (hx : RdI w B A zs) (hn : zs.length = n) (hnb : n ≤ 140737488355328) :
    Calls Tryz.prog 47 #[.slice A n c, .func (.func 99) #[] #[.pointer (some ⟨b, 0, none⟩)]] w fun e w' => e = .returned (.bool (zs.any p)) ∧ w = w' := by
  have H := Lib.hid (indexK_any b A n c B zs p w hp hx hn hnb)
  obtain ⟨r, hr⟩ : ∃ r, zs.any p = r := ⟨_, rfl⟩
  rw [hr] at H ⊢
  clear hp hx hn hr
  go_enter Tryz.func47, Tryz.ntmps47
  go_wp2_with fail
  refine H.out.mono ?_
  rintro e w5 ⟨⟨k, rfl, hk1, hk2⟩, hw5⟩
  subst hw5
  cases r
  · have z : decide ((0 : Int) ≤ k) = false := decide_eq_false fun h => by have := hk2.1 h; cases this
    clear hk2
    go_wp2_with fail
    go_ret
    exact ⟨by rw [← z]; rfl, rfl⟩
  · have z : decide ((0 : Int) ≤ k) = true := decide_eq_true (hk2.2 rfl)
    clear hk2
    go_wp2_with fail
    go_ret
    exact ⟨by rw [← z]; rfl, rfl⟩
theorem callP_any (args : Array Value) (W : World) : (callFunc 45 args).run Tryz.prog W = .ok (.enter 45 args) W := by
  go_simp
set_option maxHeartbeats 4000000 in
set_option maxRecDepth 100000 in
theorem indexP_any (b : Nat) (A : Option Addr) (n c B : Nat) (zs : List Int) (p : Int → Bool) (w : World) (hp : ∀ x ∈ zs, ∀ W, Below B w W → Calls Tryz.prog 45 #[.int .i64 x, .pointer (some ⟨b, 0, none⟩)] W fun e w' => e = .returned (.bool (p x)) ∧ W = w') (hx : RdI w B A zs) (hn : zs.length = n) (hnb : n ≤ 140737488355328) :
    Calls Tryz.prog 92 #[.slice A n c, .func (.func 45) #[] #[.pointer (some ⟨b, 0, none⟩)]] w fun e w' => (∃ k : Int, e = .returned (.int .i64 k) ∧ -1 ≤ k ∧ (0 ≤ k ↔ zs.any p = true)) ∧ w = w' := by
  have HP := Lib.hid hp
  have HX := Lib.hid hx
  have HN := Lib.hid hn
  clear hp hx hn
  go_enter Tryz.func92, Tryz.ntmps92
  go_wp2_with fail
  go_loopw [8] (fun iv wr => ∃ k : Nat, k ≤ n ∧ iv = .int .i64 k ∧ Hid ((zs.take k).any p = false) ∧ wr = w) (fun i _ => n - (intOf i).toNat)
  case atStart => exact ⟨0, Nat.zero_le _, rfl, Lib.hid (by simp), rfl⟩
  case round =>
    obtain ⟨k, hk, rfl, ha, rfl⟩ := hrel
    by_cases hlt : k < n
    · obtain ⟨b1, o1, rfl, hb1, hc1⟩ := HX.out (by rw [HN.out]; omega)
      have hz : k < zs.length := by rw [HN.out]; exact hlt
      have h1 := hc1 k hz
      have hm := getD_mem hz
      obtain ⟨x, hxe⟩ : ∃ x, x = zs.getD k 0 := ⟨_, rfl⟩
      rw [← hxe] at h1 hm
      have HC := Lib.hid (HP.out x hm _ (Below.refl _ _))
      obtain ⟨r, hr⟩ : ∃ r, p x = r := ⟨_, rfl⟩
      rw [hr] at HC
      have z0 : (k : Int) < (n : Int) := by omega
      have z1 : (0 : Int) ≤ (k : Int) := by omega
      cases r
      · have ha2 := Lib.hid (any_take (p := p) hz ha.out (by rw [← hxe]; exact hr))
        clear hc1 hz hxe hr ha hm
        go_wp2_with fail
        refine HC.out.mono ?_
        rintro e w5 ⟨rfl, hw5⟩
        subst hw5
        go_wp2_with fail
        go_roundw
        case rel => exact ⟨k + 1, by omega, by go_num, ha2, by first | rfl | trivial⟩
        case measure => simp [intOf]; omega
      · have ha2 := Lib.hid (any_at (p := p) hz (by rw [← hxe]; exact hr))
        clear hc1 hz hxe hr ha hm
        go_wp2_with fail
        refine HC.out.mono ?_
        rintro e w5 ⟨rfl, hw5⟩
        subst hw5
        go_wp2_with fail
        go_ret
        exact ⟨⟨_, rfl, by omega, by rw [ha2.out]; simp⟩, rfl⟩
    · have hF0 : zs.take k = zs := List.take_of_length_le (by rw [HN.out]; omega)
      rw [hF0] at ha
      clear hF0
      go_wp2_with fail
      go_ret
      exact ⟨⟨_, rfl, by omega, by rw [ha.out]; simp⟩, rfl⟩
set_option maxHeartbeats 4000000 in
theorem containsP_any (b : Nat) (A : Option Addr) (n c B : Nat) (zs : List Int) (p : Int → Bool) (w : World) (hp : ∀ x ∈ zs, ∀ W, Below B w W → Calls Tryz.prog 45 #[.int .i64 x, .pointer (some ⟨b, 0, none⟩)] W fun e w' => e = .returned (.bool (p x)) ∧ W = w') (hx : RdI w B A zs) (hn : zs.length = n) (hnb : n ≤ 140737488355328) :
    Calls Tryz.prog 47 #[.slice A n c, .func (.func 45) #[] #[.pointer (some ⟨b, 0, none⟩)]] w fun e w' => e = .returned (.bool (zs.any p)) ∧ w = w' := by
  have H := Lib.hid (indexP_any b A n c B zs p w hp hx hn hnb)
  obtain ⟨r, hr⟩ : ∃ r, zs.any p = r := ⟨_, rfl⟩
  rw [hr] at H ⊢
  clear hp hx hn hr
  go_enter Tryz.func47, Tryz.ntmps47
  go_wp2_with fail
  refine H.out.mono ?_
  rintro e w5 ⟨⟨k, rfl, hk1, hk2⟩, hw5⟩
  subst hw5
  cases r
  · have z : decide ((0 : Int) ≤ k) = false := decide_eq_false fun h => by have := hk2.1 h; cases this
    clear hk2
    go_wp2_with fail
    go_ret
    exact ⟨by rw [← z]; rfl, rfl⟩
  · have z : decide ((0 : Int) ≤ k) = true := decide_eq_true (hk2.2 rfl)
    clear hk2
    go_wp2_with fail
    go_ret
    exact ⟨by rw [← z]; rfl, rfl⟩
set_option maxHeartbeats 2000000 in
set_option maxRecDepth 100000 in
theorem keeps1_any (b : Nat) (gv : Value) (Ak : Option Addr) (nk ck : Nat) (kp er : List Int) (x : Int) (W : World) (hb : Row W b 88 (obL gv (.slice Ak nk ck) er)) (hk : RdI W W.heap.size Ak kp) (hn : kp.length = nk) (hnb : nk ≤ 100000) (hup : Up kp) :
    Calls Tryz.prog 99 #[.int .i64 x, .pointer (some ⟨b, 0, none⟩)] W fun e w' => e = .returned (.bool (!decide (x ∈ kp))) ∧ W = w' := by
  have c1 := hb.cell 1 (show (obL gv (.slice Ak nk ck) er)[1]? = some (.slice Ak nk ck) from rfl)
  have HC := Lib.hid (jContains_any Ak nk ck W.heap.size kp x W hk hn (by omega) hup)
  obtain ⟨r, hr⟩ : ∃ r, decide (x ∈ kp) = r := ⟨_, rfl⟩
  rw [hr] at HC ⊢
  clear hb hk hn hup hr
  go_enter Tryz.func99, Tryz.ntmps99
  go_wp2_with fail
  refine HC.out.mono ?_
  rintro e w5 ⟨rfl, hw5⟩
  subst hw5
  go_wp2_with fail
  go_ret
  exact ⟨rfl, rfl⟩
set_option maxHeartbeats 2000000 in
set_option maxRecDepth 100000 in
theorem jKeeps_any (gv : Value) (Ak : Option Addr) (nk ck : Nat) (kp er : List Int) (A : Option Addr) (n c : Nat) (zs : List Int) (w : World) (hk : RdI w w.heap.size Ak kp) (hkn : kp.length = nk) (hnb : nk ≤ 100000) (hup : Up kp) (hx : RdI w w.heap.size A zs) (hn : zs.length = n) (hb : n ≤ 1000000) :
    Calls Tryz.prog 59 #[.agg (obL gv (.slice Ak nk ck) er).toArray, .slice A n c] w fun e w' => e = .returned (.bool (zs.all fun x => decide (x ∈ kp))) ∧ Below w.heap.size w w' := by
  have hbox := ob_box w gv (.slice Ak nk ck) er
  have hB1 := (Below.refl w.heap.size w).alloc (Nat.le_refl _) (.cells (obL gv (.slice Ak nk ck) er).toArray 88)
  have HB1 := Lib.hid hB1
  have HC := Lib.hid (containsK_any w.heap.size A n c (w.alloc (.cells (obL gv (.slice Ak nk ck) er).toArray 88)).heap.size zs (fun x => !decide (x ∈ kp)) (w.alloc (.cells (obL gv (.slice Ak nk ck) er).toArray 88)) (fun x _ W hW => keeps1_any w.heap.size gv Ak nk ck kp er x W (hbox.below hW hbox.lt) ((hk.below (hB1.trans (hW.mono hB1.size)) (Nat.le_refl _)).more (Nat.le_trans hB1.size hW.size)) hkn hnb hup) ((hx.below hB1 (Nat.le_refl _)).more hB1.size) hn (by omega))
  have hall : (zs.any fun x => !decide (x ∈ kp)) = !(zs.all fun x => decide (x ∈ kp)) := any_all _ zs
  rw [hall] at HC
  obtain ⟨r, hr⟩ : ∃ r, (zs.all fun x => decide (x ∈ kp)) = r := ⟨_, rfl⟩
  rw [hr] at HC ⊢
  clear hk hkn hup hx hn hbox hB1 hall hr
  go_enter Tryz.func59, Tryz.ntmps59
  go_wp2_with fail
  refine HC.out.mono ?_
  rintro e w5 ⟨rfl, hw5⟩
  subst hw5
  go_wp2_with fail
  go_ret
  exact ⟨by simp, HB1.out⟩
end Go.Proofs.YtaadhpkpekmfoaaGreat

/- Layer 7: what explore keeps; bounds. -/
namespace Go.Proofs.YtaadhpkpekmfoaaGreat
open Go.RowKit Go.Sort Go.Maps

theorem kp_row {w w' : World} {F B M base g : Nat} {v : Value} {hs : List Hd} {e : TypeId} {cs : List Value} (hf : FS w F B M base v hs) (hk : KpS w w' F M v) (hr : Row w g e cs) (h1 : e ≠ 36) (h2 : e ≠ 27) : Row w' g e cs :=
  (hk.block g hr.lt (row_ne_rowS hr hf.fo h1) (fun e' => ownsMap_ne_rowS hf.mp hr e'.symm) (row_ne_own hr hf.ow h2)).trans hr
theorem kp_own {w w' : World} {F B M base base' n sz : Nat} {v u : Value} {hs : List Hd} {e : TypeId} {xs : List Value} (hf : FS w F B M base v hs) (hk : KpS w w' F M v) (hr : w.ownsRow base' e sz u n xs) (h1 : e ≠ 36) (h2 : e ≠ 27) : w'.ownsRow base' e sz u n xs :=
  ownsRow_same' hr fun g hg => hk.block g (hr.lt g hg).2 (fun e' => row_ne_own hf.fo hr (fun e'' => h1 e''.symm) (by rw [hg, e'])) (fun e' => ownsMap_ne_ownS hf.mp hr (by rw [hg, e'])) (fun e' => by
    rcases owns_ne hf.ow hr (fun e'' => h2 e''.symm) with h | h
    · rw [h] at e'; cases e'
    · exact h (by rw [e', hg]))
/-- What explore keeps. -/
structure EO (w wr : World) (gv vk : Value) (er : List Int) (v : Value) (hs : List Hd) (ve : Value) (es : List Ed) : Prop where
  bel : Below w.heap.size w wr
  ob : Row wr w.heap.size 88 (obL gv vk er)
  fn : FS wr (w.heap.size + 1) (w.heap.size + 1 + 1 + 1) (w.heap.size + 1 + 1) w.heap.size v hs
  edg : OwnE wr w.heap.size ve es
section
variable {w wr w' w1 : World} {gv vk : Value} {er : List Int} {v v' : Value} {hs hs' : List Hd} {ve ve' : Value} {es es' : List Ed}
theorem EO.call (h : EO w wr gv vk er v hs ve es) (hb : Below wr.heap.size wr w') : EO w w' gv vk er v hs ve es :=
  ⟨h.bel.trans (hb.mono h.bel.size), h.ob.below hb h.ob.lt, h.fn.below hb, own_below h.edg hb⟩
theorem EO.num (h : EO w wr gv vk er v hs ve es) (hf : FS w' (w.heap.size + 1) (w.heap.size + 1 + 1 + 1) (w.heap.size + 1 + 1) w.heap.size v' hs') (hk : KpS wr w' (w.heap.size + 1) (w.heap.size + 1 + 1) v) : EO w w' gv vk er v' hs' ve es := by
  have hz := h.bel.size
  have key : ∀ k, k < w.heap.size → w'.heap[k]? = wr.heap[k]? := fun k hk1 => hk.block k (by omega) (by omega) (by omega) (fun e => by have := (h.fn.ow.lt k e).1; omega)
  exact ⟨⟨hk.os.trans h.bel.os, hk.tape.trans h.bel.tape, hk.output.trans h.bel.output, Nat.le_trans hz hk.size, fun k hk1 => (key k hk1).trans (h.bel.block k hk1)⟩, kp_row h.fn hk h.ob (by decide) (by decide), hf, kp_own h.fn hk h.edg (by decide) (by decide)⟩
theorem EO.edge (h : EO w wr gv vk er v hs ve es) (hg : wr.grownBy w1 ve.ownBlock) (ho : OwnE w1 w.heap.size ve' es') : EO w w1 gv vk er v hs ve' es' := by
  have hz := h.bel.size
  refine ⟨⟨hg.os.trans h.bel.os, hg.tape.trans h.bel.tape, hg.output.trans h.bel.output, Nat.le_trans hz hg.size, fun k hk => (hg.block k (by omega) (fun e => by have := (h.edg.lt k e.symm).1; omega)).trans (h.bel.block k hk)⟩, h.ob.grown hg (row_ne_own h.ob h.edg (by decide)), ⟨h.fn.nu.grown hg (row_ne_own h.fn.nu h.edg (by decide)), h.fn.fo.grown hg (row_ne_own h.fn.fo h.edg (by decide)), h.fn.mp.kept hg (fun e => ownsMap_ne_ownS h.fn.mp h.edg e.symm), h.fn.ow.kept hg (owns_ne h.fn.ow h.edg (by decide)), fun x hx => World.ownsRow.kept (h.fn.rw x hx) hg (owns_ne (h.fn.rw x hx) h.edg (by decide)), h.fn.ok, h.fn.nd, Nat.le_trans h.fn.hb hg.size⟩, ho⟩
end
/-- The lists of targets in their box. -/
structure TB (wr : World) (base bt : Nat) (vs : List Value) (Ls : Int → List Int) : Prop where
  row : Row wr bt 131 vs
  len : vs.length = 32
  ow : ∀ e : Nat, e < 32 → Own wr base (vs.getD e undef) (Ls (e : Int))
section
variable {wr w' : World} {base bt : Nat} {vs : List Value} {Ls : Int → List Int}
theorem TB.call (h : TB wr base bt vs Ls) (hb : Below wr.heap.size wr w') : TB w' base bt vs Ls := ⟨h.row.below hb h.row.lt, h.len, fun e he => own_below (h.ow e he) hb⟩
theorem TB.num {F B M b0 : Nat} {v : Value} {hs : List Hd} (h : TB wr base bt vs Ls) (hf : FS wr F B M b0 v hs) (hk : KpS wr w' F M v) : TB w' base bt vs Ls := ⟨kp_row hf hk h.row (by decide) (by decide), h.len, fun e he => kp_own hf hk (h.ow e he) (by decide) (by decide)⟩
theorem TB.edge {b0 : Nat} {ve : Value} {es : List Ed} (h : TB wr base bt vs Ls) (he : OwnE wr b0 ve es) (hg : wr.grownBy w' ve.ownBlock) : TB w' base bt vs Ls := ⟨h.row.grown hg (row_ne_own h.row he (by decide)), h.len, fun e h' => World.ownsRow.kept (h.ow e h') hg (owns_ne (h.ow e h') he (by decide))⟩
end
theorem visitL_lenJ : ∀ (l : List Ed) (fl : List Int), (visitL fl l).length ≤ fl.length + l.length
  | [], fl => Nat.le_refl _
  | x :: l, fl => by
    have := visitL_lenJ l (visit fl x.t)
    have h2 : (visit fl x.t).length ≤ fl.length + 1 := by unfold visit; split <;> simp
    rw [visitL_cons, List.length_cons]; omega
theorem succK_lenJ (a : Au) (q : Int) (k : Nat) : (succK a q k).length ≤ a.al.length := by
  unfold succK
  exact Nat.le_trans (List.length_filterMap_le _ _) (by simp; omega)
theorem canEn_leJ {a : Au} (h : RightW a) : ∀ j, (canEn a j).length ≤ j * a.al.length
  | 0 => by simp [canEn]
  | j + 1 => by
    have := canEn_leJ h j
    have h2 : (outE a (fnd a) j).length ≤ a.al.length := by
      unfold outE; rw [List.length_map, succ_eq h]; exact List.length_filterMap_le _ _
    rw [canEn_succ, List.length_append, Nat.add_mul, Nat.one_mul]; omega
theorem visK_preJ {a : Au} (h : RightW a) (h0 : 0 < a.st) {j k : Nat} (hj : j < (Fd a j).length) {q : Int} (hq : q = (Fd a j).getD j 0) : visitL (Fd a j) (succK a q k) <+: fnd a := by
  obtain ⟨r, hr⟩ := succK_pre h q k
  have h1 : visitL (Fd a j) (succK a q k) <+: visitL (Fd a j) (succ a.ed q) := by
    rw [← hr, visitL_app]; exact visitL_pre _ _
  rw [hq, ← Fd_go hj, ← hq] at h1
  exact h1.trans (Fd_fnd h h0 (j + 1))
theorem info_edgeEJ : ∃ iE, Tryz.prog.info? 79 = some iE ∧ iE.zero = some (.agg #[.int .i64 0, .int .i64 0, .int .i64 0]) ∧ iE.size = 3 ∧ iE.bytes = 24 := by
  obtain ⟨i0, hi, hz0, hz1, hz2⟩ := info_parts info_edge
  exact ⟨i0, hi, hz0, hz1, hz2⟩
theorem idxOf_map_injJ {f : Int → List Int} {x : Int} : ∀ {fl : List Int}, (∀ y ∈ fl, f y = f x → y = x) → (fl.map f).idxOf (f x) = fl.idxOf x
  | [], _ => rfl
  | y :: fl, h => by
    rw [List.map_cons, List.idxOf_cons, List.idxOf_cons, idxOf_map_injJ fun z hz => h z (List.mem_cons_of_mem _ hz)]
    by_cases e : y = x
    · subst e; simp
    · have : f y ≠ f x := fun hh => e (h y (by simp) hh)
      rw [beq_eq_false_iff_ne.2 e, beq_eq_false_iff_ne.2 this]
theorem addS_map {f : Int → List Int} {t : Int} {fl : List Int} {hs : List Hd} {x : Hd} (hm : hs.map Hd.z = fl.map f) (hx : x.z = f t) (h : ∀ y ∈ fl, f y = f t → y = t) : (addS hs x).map Hd.z = (visit fl t).map f ∧ ((addS hs x).map Hd.z).idxOf x.z = (visit fl t).idxOf t := by
  have hmm : f t ∈ fl.map f ↔ t ∈ fl := by
    constructor
    · intro hh; obtain ⟨y, hy, e⟩ := List.mem_map.1 hh; rw [← h y hy e]; exact hy
    · intro hh; exact List.mem_map.2 ⟨t, hh, rfl⟩
  have e1 : (addS hs x).map Hd.z = (visit fl t).map f := by
    unfold addS visit
    rw [hx, hm]
    by_cases ht : t ∈ fl
    · rw [if_pos (hmm.2 ht), if_pos ht, hm]
    · rw [if_neg (fun hh => ht (hmm.1 hh)), if_neg ht, List.map_append, hm]; simp [hx]
  refine ⟨e1, ?_⟩
  rw [e1, hx]
  refine idxOf_map_injJ fun y hy e => ?_
  rcases mem_visit.1 hy with hy | hy
  · exact h y hy e
  · exact hy
theorem kp_len {a : Au} (h : RightW a) (onto : List Int) : (kpR a onto).length ≤ 32 :=
  nodup_len ((h.alo.sublist List.filter_sublist).imp fun h => by omega) fun x hx => by have := h.alr x (mem_kpR.1 hx).1; omega
/-- The automaton of the estimates, where there is a state. -/
noncomputable def dtA (a : Au) (onto : List Int) : Au := codA (detC a onto)
noncomputable def deR (a : Au) (onto : List Int) (q : Int) : List Int := (detC a onto).de q
theorem det_dt {a : Au} (h0 : a.st ≠ 0) (onto : List Int) : detA a onto = dtA a onto := by unfold detA dtA; rw [if_neg h0]
theorem dt_right {a : Au} (h : RightW a) (onto : List Int) : RightW (dtA a onto) := cod_right (det_ok h onto)
theorem dt_pos (a : Au) (onto : List Int) : 0 < (dtA a onto).st := by
  have h := (nm_range a.st.toNat (fsR a onto) (fsR a onto))
  show (0 : Int) < (((prT (twos a.st.toNat)).toNat : Nat) : Int)
  omega
theorem de_zero {a : Au} (h : RightW a) (onto : List Int) : deR a onto 0 = fsR a onto := by
  have := (det_ok h onto).den (fsR a onto) (fs_ok onto)
  rw [det_zero] at this; exact this
theorem de_ok {a : Au} (h : RightW a) (onto : List Int) {q : Int} (hq : 0 ≤ q ∧ q < (dtA a onto).st) : SubOk a.st.toNat (deR a onto q) := (det_ok h onto).okd q hq.1 hq.2
theorem de_inj {a : Au} (h : RightW a) (onto : List Int) {x y : Int} (hx : 0 ≤ x ∧ x < (dtA a onto).st) (hy : 0 ≤ y ∧ y < (dtA a onto).st) (e : deR a onto x = deR a onto y) : x = y := by
  have h1 := (det_ok h onto).edn x hx.1 hx.2
  have h2 := (det_ok h onto).edn y hy.1 hy.2
  rw [← h1, ← h2]; exact congrArg _ e
/-- One step of explore is an edge of the numbers. -/
theorem dt_link {a : Au} (h : RightW a) (onto : List Int) {q e : Int} (hq : 0 ≤ q ∧ q < (dtA a onto).st) (he : e ∈ kpR a onto) :
    (tgL a (deR a onto q) e = [] ∧ edgeO (dtA a onto).ed q e = none) ∨ (tgL a (deR a onto q) e ≠ [] ∧ ∃ t, edgeO (dtA a onto).ed q e = some ⟨q, e, t⟩ ∧ (0 ≤ t ∧ t < (dtA a onto).st) ∧ deR a onto t = nxR a onto (deR a onto q) e) := by
  have hl := cod_link (det_ok h onto) (q := q) (e := e) hq he
  have hst : (detC a onto).st ((detC a onto).de q) e = if tgR a (deR a onto q) e = [] then none else some (nxR a onto (deR a onto q) e) := rfl
  rw [hst] at hl
  by_cases h1 : tgR a (deR a onto q) e = []
  · rw [if_pos h1] at hl
    rcases hl with ⟨_, h2⟩ | ⟨t, h2, _⟩
    · exact .inl ⟨tgL_nil.2 h1, h2⟩
    · cases h2
  · rw [if_neg h1] at hl
    rcases hl with ⟨h2, _⟩ | ⟨t, h2, h3, h4, h5, h6⟩
    · cases h2
    · injection h2 with h2
      exact .inr ⟨fun h' => h1 (tgL_nil.1 h'), (detC a onto).en t, h6, h4, by rw [h2]; exact h5⟩
theorem one_le {e : Int} : ∀ {l : List Ed}, (l.Pairwise fun x y => x.e < y.e) → (l.filter fun x => decide (x.e = e)).length ≤ 1
  | [], _ => by simp
  | x :: l, h => by
    rw [List.pairwise_cons] at h
    by_cases hx : x.e = e
    · have : l.filter (fun y => decide (y.e = e)) = [] := List.filter_eq_nil_iff.2 fun y hy => by have := h.1 y hy; simp; omega
      rw [List.filter_cons_of_pos (by simpa using hx), this]; simp
    · rw [List.filter_cons_of_neg (by simpa using hx)]; exact one_le h.2
theorem tgL_le {a : Au} (h : RightW a) (e : Int) : ∀ s : List Int, (tgL a s e).length ≤ s.length
  | [] => by simp [tgL]
  | q :: s => by
    have ih := tgL_le h e s
    have h1 := one_le (e := e) (succ_sorted h.edo q)
    have e1 : tgL a (q :: s) e = ((succ a.ed q).filter fun x => decide (x.e = e)).map Ed.t ++ tgL a s e := rfl
    rw [e1, List.length_append, List.length_map, List.length_cons]; omega
theorem skey_of {a : Au} {S : Nat} (hS : a.st = (S : Int)) (hSb : S ≤ 4096) {s : List Int} (h : SubOk a.st.toNat s) : SKey s :=
  ⟨fun x hx => by have := h.2 x hx; rw [hS] at this; simp at this; omega, by have := sub_len h; rw [hS] at this; simp at this; omega⟩
end Go.Proofs.YtaadhpkpekmfoaaGreat

/- Layer 7: the values of the chapter's first example. -/
namespace Go.Proofs.YtaadhpkpekmfoaaGreat

def exA7 : Au := ⟨[0, 1], 3, [2], [⟨0, 0, 1⟩, ⟨0, 1, 0⟩, ⟨1, 1, 2⟩, ⟨2, 0, 0⟩]⟩
def exP7 : Au := ⟨[1], 2, [1], [⟨0, 1, 1⟩, ⟨1, 1, 1⟩]⟩
theorem exA7_chk : chkE exA7 = 0 := by decide
theorem exP7_chk : chkE exP7 = 0 := by decide
theorem exA7_right : RightW exA7 := (right_of exA7_chk).toRightW
theorem exP7_right : RightW exP7 := (right_of exP7_chk).toRightW
theorem exP7_fnd : fnd exP7 = [0, 1] := by first | decide | rfl | kernel_rfl
theorem exP7_can : canA exP7 = exP7 := by first | decide | rfl | kernel_rfl
theorem ex_er : erR exA7 [1] = [0] := by decide
theorem ex_kp : kpR exA7 [1] = [1] := by decide
theorem ex_fs : fsR exA7 [1] = [0, 1] := by
  unfold fsR
  rw [if_neg (by decide), ex_er]
  refine (reR_of exA7_right (by decide) (by decide) (rc_found (by decide) ?_ (by decide))).symm
  have h0 : Rc exA7 [0] [0] 0 := .base (by decide)
  have h1 : Rc exA7 [0] [0] 1 := .step (x := ⟨0, 0, 1⟩) h0 (by decide) (by decide)
  intro q hq
  simp at hq
  rcases hq with rfl | rfl
  · exact h0
  · exact h1
theorem ex_re : reR exA7 [0] [0, 2] = [0, 1, 2] := by
  refine (reR_of exA7_right (by decide) (by decide) (rc_found (by decide) ?_ (by decide))).symm
  have h0 : Rc exA7 [0] [0, 2] 0 := .base (by decide)
  have h1 : Rc exA7 [0] [0, 2] 1 := .step (x := ⟨0, 0, 1⟩) h0 (by decide) (by decide)
  have h2 : Rc exA7 [0] [0, 2] 2 := .base (by decide)
  intro q hq
  simp at hq
  rcases hq with rfl | rfl | rfl
  · exact h0
  · exact h1
  · exact h2
theorem ex_nx1 : nxR exA7 [1] [0, 1] 1 = [0, 1, 2] := by unfold nxR; rw [ex_er, show tgR exA7 [0, 1] 1 = [0, 2] by decide, ex_re]
theorem ex_nx2 : nxR exA7 [1] [0, 1, 2] 1 = [0, 1, 2] := by unfold nxR; rw [ex_er, show tgR exA7 [0, 1, 2] 1 = [0, 2] by decide, ex_re]
theorem ex_ok1 : SubOk exA7.st.toNat [0, 1] := ⟨by decide, by decide⟩
theorem ex_ok2 : SubOk exA7.st.toNat [0, 1, 2] := ⟨by decide, by decide⟩
noncomputable def exG (q : Int) : Int := (detC exA7 [1]).en (if q = 0 then [0, 1] else [0, 1, 2])
theorem ex_iso : IsoA exP7 (detA exA7 [1]) exG where
  h := exP7_right
  h' := det_right exA7_right _
  al := by rw [det_al, ex_kp]; rfl
  z := by
    have := det_zero exA7 [1]
    rw [ex_fs] at this
    unfold exG; rw [if_pos rfl]; exact this
  p := by decide
  p' := by
    have h1 := (det_right exA7_right [1]).st0
    have h2 := det_st (show exA7.st ≠ 0 by decide) [1]
    omega
  inj x y hx hy e := by
    have hd := det_ok exA7_right [1]
    have k1 := hd.den _ ex_ok1
    have k2 := hd.den _ ex_ok2
    rw [exP7_fnd] at hx hy
    simp at hx hy
    unfold exG at e
    rcases hx with rfl | rfl <;> rcases hy with rfl | rfl
    · rfl
    · rw [if_pos rfl, if_neg (by decide)] at e; rw [e, k2] at k1; simp at k1
    · rw [if_pos rfl, if_neg (by decide)] at e; rw [← e, k2] at k1; simp at k1
    · rfl
  st q hq ev := by
    rw [exP7_fnd] at hq
    by_cases he : ev = 1
    · subst he
      have hk : (1 : Int) ∈ kpR exA7 [1] := by decide
      have s1 := det_step exA7_right (show exA7.st ≠ 0 by decide) ex_ok1 hk
      have s2 := det_step exA7_right (show exA7.st ≠ 0 by decide) ex_ok2 hk
      rw [if_neg (by decide), ex_nx1] at s1
      rw [if_neg (by decide), ex_nx2] at s2
      simp at hq
      rcases hq with rfl | rfl
      · rw [show stepO exP7 0 1 = some 1 by decide]
        exact s1
      · rw [show stepO exP7 1 1 = some 1 by decide]
        exact s2
    · have h1 : stepO exP7 q ev = none := by
        cases h : stepO exP7 q ev with
        | none => rfl
        | some t => exact absurd (by simpa [exP7] using (step_alQ exP7_right h).1) he
      have h2 : stepO (detA exA7 [1]) (exG q) ev = none := by
        cases h : stepO (detA exA7 [1]) (exG q) ev with
        | none => rfl
        | some t =>
          have := (step_alQ (det_right exA7_right [1]) h).1
          rw [det_al, ex_kp] at this
          exact absurd (by simpa using this) he
      rw [h1, h2]; rfl
  mq q hq := by
    rw [exP7_fnd] at hq
    have s1 := det_mark exA7_right (show exA7.st ≠ 0 by decide) (onto := [1]) ex_ok1
    have s2 := det_mark exA7_right (show exA7.st ≠ 0 by decide) (onto := [1]) ex_ok2
    simp at hq
    rcases hq with rfl | rfl
    · refine s1.trans ⟨fun ⟨q, h1, h2⟩ => ?_, fun h => absurd h (by decide)⟩
      simp [exA7] at h1 h2
      omega
    · exact s2.trans ⟨fun _ => by decide, fun _ => ⟨2, by decide, by decide⟩⟩
theorem ex7_can : canA (detA exA7 [1]) = exP7 := (can_iso ex_iso).trans exP7_can
theorem ex_ests : (fnd (detA exA7 [1])).map (deR exA7 [1]) = [[0, 1], [0, 1, 2]] := by
  have hd := det_ok exA7_right [1]
  rw [fnd_iso ex_iso, exP7_fnd]
  show [deR exA7 [1] (exG 0), deR exA7 [1] (exG 1)] = _
  unfold deR exG
  rw [if_pos rfl, if_neg (by decide), hd.den _ ex_ok1, hd.den _ ex_ok2]
theorem ex_lift : lfO exA7 [1] [1] true = some [0, 1] := by first | rfl | decide | kernel_rfl
theorem ex_inv : (canA (invA ⟨[1], 1, [], []⟩ [0, 1])).ed.length = 1 := by first | rfl | decide | kernel_rfl
theorem ex_invc : chkE ⟨[1], 1, [], []⟩ = 0 := by decide
end Go.Proofs.YtaadhpkpekmfoaaGreat

/- Layer 7: explore. -/
namespace Go.Proofs.YtaadhpkpekmfoaaGreat
open Go.RowKit Go.Sort Go.Maps

theorem fs_start (w : World) : FS (((w.alloc (.cells #[.slice none 0 0] 36)).alloc (.map #[] 0)).alloc (.cells #[.map (some (w.heap.size + 1))] 128)) w.heap.size (w.heap.size + 1 + 1) (w.heap.size + 1) w.heap.size (.slice none 0 0) [] where
  nu := by
    have := Row.new ((w.alloc (.cells #[.slice none 0 0] 36)).alloc (.map #[] 0)) [.map (some (w.heap.size + 1))] 128
    simpa using this
  fo := ((Row.new w [.slice none 0 0] 36).alloc _).alloc _
  mp := by
    have := (World.ownsMap_made (w.alloc (.cells #[.slice none 0 0] 36)) Tryz.prog 9 (plainElem (H := Unit) Tryz.prog 3)).alloc (.cells #[.map (some (w.heap.size + 1))] 128)
    rw [show (mpS (([] : List Hd).map Hd.z) : DataW Unit) = .map [] from rfl]
    simpa using this
  ow := World.ownsRow_nil _ _ _ _
  rw := by simp
  ok := by simp
  nd := List.nodup_nil
  hb := by simp; omega
theorem FS.base {w : World} {F B M base base' : Nat} {v : Value} {hs : List Hd} (h : FS w F B M base v hs) (hb : base' ≤ base) : FS w F B M base' v hs :=
  ⟨h.nu, h.fo, h.mp, own_more h.ow hb, fun x hx => own_more (h.rw x hx) hb, h.ok, h.nd, Nat.le_trans hb h.hb⟩
theorem eo_start (w : World) (gv vk : Value) (er : List Int) : EO w ((((w.alloc (.cells (obL gv vk er).toArray 88)).alloc (.cells #[.slice none 0 0] 36)).alloc (.map #[] 0)).alloc (.cells #[.map (some (w.heap.size + 1 + 1))] 128)) gv vk er (.slice none 0 0) [] (.slice none 0 0) [] where
  bel := ((((Below.refl _ w).alloc (Nat.le_refl _) _).alloc (by simp) _).alloc (by simp; omega) _).alloc (by simp; omega) _
  ob := (((ob_box w gv vk er).alloc _).alloc _).alloc _
  fn := by
    have h := fs_start (w.alloc (.cells (obL gv vk er).toArray 88))
    have hz : (w.alloc (.cells (obL gv vk er).toArray 88)).heap.size = w.heap.size + 1 := World.size_alloc _ _
    rw [hz] at h
    exact h.base (by omega)
  edg := World.ownsRow_nil _ _ _ _
/-- What explore hands back. -/
def ExV (a : Au) (onto : List Int) (w w' : World) (e : Ending) : Prop :=
  (4096 < (fnd (detA a onto)).length ∧ e = .returned (.tuple #[.slice none 0 0, .slice none 0 0, .int .i64 3])) ∨
  ((fnd (detA a onto)).length ≤ 4096 ∧ ∃ (v ve : Value) (hs : List Hd), e = .returned (.tuple #[v, ve, .int .i64 0]) ∧ w'.ownsRow w.heap.size 27 1 v hs.length (hs.map Hd.enc) ∧ (∀ x ∈ hs, Own w' w.heap.size x.enc x.z) ∧ hs.map Hd.z = (fnd (detA a onto)).map (deR a onto) ∧ OwnE w' w.heap.size ve (canEn (detA a onto) (fnd (detA a onto)).length))
set_option maxHeartbeats 8000000 in
set_option maxRecDepth 100000 in
theorem jExplore0_any (bg : Nat) (a : Au) (onto : List Int) (Ak : Option Addr) (nk ck : Nat) (w : World) (hg : RdGr w w.heap.size bg a) (hr : RightW a) (hS : a.st = ((0 : Nat) : Int)) :
    Calls Tryz.prog 44 #[.agg (obL (.slice (some ⟨bg, 0, none⟩) 0 0) (.slice Ak nk ck) (erR a onto)).toArray] w fun e w' => Below w.heap.size w w' ∧ ExV a onto w w' e := by
  have hf0 : fnd (detA a onto) = [] := by
    have : (detA a onto).st = 0 := by unfold detA; rw [if_pos (show a.st = 0 by rw [hS]; rfl)]
    rw [fnd, if_pos (by omega)]
  have HF0 := Lib.hid hf0
  have h0 : fsR a onto = [] := by unfold fsR; rw [if_pos (show a.st = 0 by rw [hS]; rfl)]
  have hmm := run_makeMap (P := Tryz.prog) 128
  have HE0 := Lib.hid (eo_start w (.slice (some ⟨bg, 0, none⟩) 0 0) (.slice Ak nk ck) (erR a onto))
  have HFi := Lib.hid (fun W (hW : Below w.heap.size w W) => jFirst_any bg 0 a onto (.slice Ak nk ck) W (hg.keep hW) hr hS (by omega))
  rw [h0] at HFi
  have hrg := Lib.hid (show World.rangeAt _ w.heap.size 0 (obL (.slice (some ⟨bg, 0, none⟩) 0 0) (.slice Ak nk ck) (erR a onto)) from fun i v hi => by rw [Nat.zero_add]; exact HE0.out.ob.cell i hi)
  have hsz := Lib.hid (show (Tryz.prog.info? 88).map (·.size) = some (obL (.slice (some ⟨bg, 0, none⟩) 0 0) (.slice Ak nk ck) (erR a onto)).length by rw [obs_size, ob_len])
  clear hg hr hf0 h0 hS
  go_enter Tryz.func44, Tryz.ntmps44
  go_wp2_with (first | refine wpList_load_mid rfl 88 (.tmp 1) rfl w.heap.size 0 rfl (obL (.slice (some ⟨bg, 0, none⟩) 0 0) (.slice Ak nk ck) (erR a onto)) _ hrg.out Tryz.underlying88 rfl hsz.out ?_)
  refine (HFi.out _ HE0.out.bel).mono ?_
  rintro e w4 ⟨v, rfl, ho, hb4⟩
  obtain ⟨Av, cv, rfl, _, _, _⟩ := own_rdc ho
  have HE4 := Lib.hid (HE0.out.call hb4)
  clear ho hb4 HE0 hrg
  have hF := HE4.out.fn.fo.cell 0 rfl
  go_wp2_with fail
  go_loopw [9, 10] (fun ve i wr => ve = .slice none 0 0 ∧ i = .int .i64 0 ∧ wr = w4) (fun _ _ _ => 0)
  case atStart => exact ⟨rfl, rfl, rfl⟩
  case round =>
    obtain ⟨rfl, rfl, rfl⟩ := hrel
    go_wp2_with fail
    go_ret3
    refine ⟨HE4.out.bel, .inr ⟨by rw [HF0.out]; simp, _, _, [], rfl, World.ownsRow_nil _ _ _ _, by simp, by rw [HF0.out]; rfl, by rw [HF0.out]; exact World.ownsRow_nil _ _ _ _⟩⟩
theorem Row.setCells {g : Nat} {e : TypeId} : ∀ (vs : List Value) (o : Nat) (w : World) (cs : List Value), Row w g e cs → o + vs.length ≤ cs.length → Row (w.setCells g o vs) g e (cs.take o ++ vs ++ cs.drop (o + vs.length))
  | [], o, w, cs, h, _ => by
    show Row w g e _
    simpa using h
  | v :: r, o, w, cs, h, hl => by
    rw [List.length_cons] at hl
    have ih := Row.setCells r (o + 1) (w.setCell ⟨g, o, none⟩ v) (cs.set o v) (h.set o v) (by rw [List.length_set]; omega)
    have e1 : (cs.set o v).take (o + 1) = cs.take o ++ [v] := by
      rw [List.take_succ_eq_append_getElem (by rw [List.length_set]; omega), List.getElem_set_self, List.take_set_of_le (Nat.le_refl _)]
    have e2 : (cs.set o v).drop (o + 1 + r.length) = cs.drop (o + (v :: r).length) := by
      rw [List.drop_set_of_lt (by omega), List.length_cons]; congr 1; omega
    rw [e1, e2] at ih
    show Row ((w.setCell ⟨g, o, none⟩ v).setCells g (o + 1) r) g e _
    simpa using ih
theorem below_setCells {B b : Nat} (hb : B ≤ b) : ∀ (vs : List Value) (o : Nat) {w0 w : World}, Below B w0 w → Below B w0 (w.setCells b o vs)
  | [], _, _, _, h => h
  | v :: r, o, _, _, h => below_setCells hb r (o + 1) (h.setCell (p := ⟨b, o, none⟩) hb v)
theorem TgV.alloc {w2 : World} {base : Nat} {vs : List Value} {Ls : Int → List Int} (h : TgV w2 base vs Ls) (o : Obj) : TgV (w2.alloc o) base vs Ls := ⟨h.len, fun e he => (h.ow e he).alloc o⟩
theorem TgV.base {w2 : World} {base b2 : Nat} {vs : List Value} {Ls : Int → List Int} (h : TgV w2 base vs Ls) (hb : b2 ≤ base) : TgV w2 b2 vs Ls := ⟨h.len, fun e he => own_more (h.ow e he) hb⟩
theorem TB.drew {w2 : World} {base bt : Nat} {vs : List Value} {Ls : Int → List Int} (h : TB w2 base bt vs Ls) : TB w2.drew base bt vs Ls := ⟨h.row, h.len, h.ow⟩
theorem EO.drew {w wr : World} {gv vk : Value} {er : List Int} {v : Value} {hs : List Hd} {ve : Value} {es : List Ed} (h : EO w wr gv vk er v hs ve es) : EO w wr.drew gv vk er v hs ve es := h.call (Below.drew (Below.refl _ _))
/-- What the targets are, behind the store into their box. -/
theorem tb_set {w2 : World} {base b : Nat} {vs : List Value} {Ls : Int → List Int} (hz : Row w2 b 131 [.slice none 0 0, .slice none 0 0, .slice none 0 0, .slice none 0 0, .slice none 0 0, .slice none 0 0, .slice none 0 0, .slice none 0 0, .slice none 0 0, .slice none 0 0, .slice none 0 0, .slice none 0 0, .slice none 0 0, .slice none 0 0, .slice none 0 0, .slice none 0 0, .slice none 0 0, .slice none 0 0, .slice none 0 0, .slice none 0 0, .slice none 0 0, .slice none 0 0, .slice none 0 0, .slice none 0 0, .slice none 0 0, .slice none 0 0, .slice none 0 0, .slice none 0 0, .slice none 0 0, .slice none 0 0, .slice none 0 0, .slice none 0 0]) (h : TgV w2 base vs Ls) : TB (w2.setCells b 0 vs) base b vs Ls := by
  have h1 := Row.setCells vs 0 w2 _ hz (by rw [h.len]; exact Nat.le_refl _)
  rw [show ([.slice none 0 0, .slice none 0 0, .slice none 0 0, .slice none 0 0, .slice none 0 0, .slice none 0 0, .slice none 0 0, .slice none 0 0, .slice none 0 0, .slice none 0 0, .slice none 0 0, .slice none 0 0, .slice none 0 0, .slice none 0 0, .slice none 0 0, .slice none 0 0, .slice none 0 0, .slice none 0 0, .slice none 0 0, .slice none 0 0, .slice none 0 0, .slice none 0 0, .slice none 0 0, .slice none 0 0, .slice none 0 0, .slice none 0 0, .slice none 0 0, .slice none 0 0, .slice none 0 0, .slice none 0 0, .slice none 0 0, .slice none 0 0] : List Value).drop (0 + vs.length) = [] from by rw [h.len]; rfl] at h1
  exact ⟨by simpa using h1, h.len, fun e he => ownsRow_same' (h.ow e he) fun g hg => World.heap_setCells_other w2 b 0 vs ((h.ow e he).lt g hg).2 (fun e' => row_ne_own hz (h.ow e he) (by decide) (by rw [hg, e']))⟩
theorem there_row {w : World} {b : Nat} {e : TypeId} {cs : List Value} (h : Row w b e cs) : w.there b 0 cs.length := fun j hj => by
  rw [Nat.zero_add]
  exact ⟨by rw [h.cell j (List.getElem?_eq_getElem hj)]; rfl, h.frozen j⟩
theorem cell_setCells {w : World} {b c o p : Nat} {vs : List Value} {v : Value} (h : w.cell? ⟨c, p, none⟩ = some v) (hne : c ≠ b) : (w.setCells b o vs).cell? ⟨c, p, none⟩ = some v := by
  rw [World.cell?_setCells_out b vs o w ⟨c, p, none⟩ (fun e _ => absurd e hne)]; exact h
set_option maxHeartbeats 16000000 in
set_option maxRecDepth 100000 in
theorem jExplore1_any (bg S : Nat) (a : Au) (onto : List Int) (Ak : Option Addr) (nk ck : Nat) (w : World) (hg : RdGr w w.heap.size bg a) (hr : RightW a) (hS : a.st = (S : Int)) (hSb : S ≤ 4096) (hS0 : 0 < S) (hel : a.ed.length ≤ 1000000) (hk : RdI w w.heap.size Ak (kpR a onto)) (hn : (kpR a onto).length = nk) :
    Calls Tryz.prog 44 #[.agg (obL (.slice (some ⟨bg, 0, none⟩) S S) (.slice Ak nk ck) (erR a onto)).toArray] w fun e w' => Below w.heap.size w w' ∧ ExV a onto w w' e := by
  have hdt := det_dt (show a.st ≠ 0 by omega) onto
  have HDT := Lib.hid hdt
  have HPR := Lib.hid (dt_right hr onto)
  have HST0 := Lib.hid (dt_pos a onto)
  have HW := Lib.hid hr
  have HSS := Lib.hid hS
  have HEL := Lib.hid hel
  have hmm := run_makeMap (P := Tryz.prog) 128
  have HE0 := Lib.hid (eo_start w (.slice (some ⟨bg, 0, none⟩) S S) (.slice Ak nk ck) (erR a onto))
  have HGK := Lib.hid (fun W (hW : Below w.heap.size w W) => hg.keep hW)
  have HKK := Lib.hid (fun W (hW : Below w.heap.size w W) => (hk.below hW (Nat.le_refl _)).more hW.size)
  have HKN := Lib.hid hn
  have hnk : nk ≤ 32 := by rw [← hn]; exact kp_len hr onto
  have HFi := Lib.hid (fun W (hW : Below w.heap.size w W) => jFirst_any bg S a onto (.slice Ak nk ck) W (hg.keep hW) hr hS (by omega))
  have hrg := Lib.hid (show World.rangeAt _ w.heap.size 0 (obL (.slice (some ⟨bg, 0, none⟩) S S) (.slice Ak nk ck) (erR a onto)) from fun i v hi => by rw [Nat.zero_add]; exact HE0.out.ob.cell i hi)
  have hsz := Lib.hid (show (Tryz.prog.info? 88).map (·.size) = some (obL (.slice (some ⟨bg, 0, none⟩) S S) (.slice Ak nk ck) (erR a onto)).length by rw [obs_size, ob_len])
  have hfne : 0 < (fsR a onto).length := by
    have : (0 : Int) ∈ fsR a onto := by
      unfold fsR; rw [if_neg (by omega)]
      exact (mem_reR hr (fun q hq => by rw [List.mem_singleton.1 hq]; omega)).2 (.base (by simp))
    exact List.length_pos_of_mem this
  obtain ⟨fl0, hfl0⟩ : ∃ l, l = (fsR a onto).length := ⟨_, rfl⟩
  rw [← hfl0] at hfne
  have HFL0 := Lib.hid hfl0
  have z9 : (0 : Int) < (fl0 : Int) := by omega
  clear hg hr hdt hS hel hk hn hfl0
  go_enter Tryz.func44, Tryz.ntmps44
  go_wp2_with (first | refine wpList_load_mid rfl 88 (.tmp 1) rfl w.heap.size 0 rfl (obL (.slice (some ⟨bg, 0, none⟩) S S) (.slice Ak nk ck) (erR a onto)) _ hrg.out Tryz.underlying88 rfl hsz.out ?_)
  refine (HFi.out _ HE0.out.bel).mono ?_
  rintro e w4 ⟨v, rfl, ho, hb4⟩
  have ho' := own_more (base' := w.heap.size) ho HE0.out.bel.size
  obtain ⟨A4, c4, rfl, _, _, _⟩ := own_rdc ho
  rw [← HFL0.out] at ho' ⊢
  have HE4 := Lib.hid (HE0.out.call hb4)
  have HNum := Lib.hid (jNumber_any (w.heap.size + 1) (w.heap.size + 1 + 1 + 1) (w.heap.size + 1 + 1) w.heap.size (.slice none 0 0) [] ⟨A4, c4, fsR a onto⟩ w4 HE4.out.fn (by show w4.ownsRow w.heap.size 3 1 (.slice A4 (fsR a onto).length c4) (fsR a onto).length ((fsR a onto).map (Value.int .i64)); rw [← HFL0.out]; exact ho') (skey_of HSS.out hSb (fs_ok onto)) (by simp))
  rw [show (addS [] (⟨A4, c4, fsR a onto⟩ : Hd)) = [⟨A4, c4, fsR a onto⟩] from rfl] at HNum
  simp only [← HFL0.out] at HNum
  clear ho ho' hb4 HE0 hrg hsz HFi
  go_wp2_with fail
  refine HNum.out.mono ?_
  rintro e w5 ⟨rfl, v5, hf5, hk5⟩
  have HE5 := Lib.hid (HE4.out.num hf5 hk5)
  clear hf5 hk5 HE4 HNum
  go_wp2_with fail
  go_loopw [9, 10] (fun ve i wr => ∃ (j : Nat) (v : Value) (hs : List Hd), i = .int .i64 j ∧ Hid (j ≤ (Fd (dtA a onto) j).length) ∧ Hid ((Fd (dtA a onto) j).length ≤ 4096) ∧ Hid (hs.map Hd.z = (Fd (dtA a onto) j).map (deR a onto)) ∧ Hid (EO w wr (.slice (some ⟨bg, 0, none⟩) S S) (.slice Ak nk ck) (erR a onto) v hs ve (canEn (dtA a onto) j))) (fun _ i _ => 5000 - (intOf i).toNat)
  case atStart => exact ⟨0, v5, _, rfl, Lib.hid (Nat.zero_le _), Lib.hid (by simp [Fd]), Lib.hid (by simp [Fd, de_zero HW.out]), HE5⟩
  case round =>
    clear HE5
    obtain ⟨j, v, hs, rfl, hjl, hj4, hmap, hex⟩ := hrel
    obtain ⟨L, hL⟩ : ∃ L, L = (Fd (dtA a onto) j).length := ⟨_, rfl⟩
    have HLn := Lib.hid hL
    have hsl : hs.length = L := by have := congrArg List.length hmap.out; rw [List.length_map, List.length_map] at this; rw [this, hL]
    have HSL := Lib.hid hsl
    obtain ⟨Av, cv, hv⟩ := own_shapeS hex.out.fn.ow
    rw [hsl] at hv
    subst hv
    have hF := hex.out.fn.fo.cell 0 rfl
    have hjL : j ≤ L := by rw [hL]; exact hjl.out
    have hL4 : L ≤ 4096 := by rw [hL]; exact hj4.out
    clear hL hjl hj4 hsl
    by_cases hlt : j < L
    · obtain ⟨q, hq⟩ : ∃ q, q = (Fd (dtA a onto) j).getD j 0 := ⟨_, rfl⟩
      have HQ := Lib.hid hq
      have hjF : j < (Fd (dtA a onto) j).length := by rw [← HLn.out]; exact hlt
      have hqr : 0 ≤ q ∧ q < (dtA a onto).st := by
        rw [hq]
        refine Fd_range HPR.out HST0.out j _ ?_
        rw [List.getD, List.getElem?_eq_getElem hjF]; exact List.getElem_mem _
      have HQR := Lib.hid hqr
      have hqf : (fnd (dtA a onto)).getD j 0 = q := by rw [hq]; exact getD_pre (Fd_fnd HPR.out HST0.out j) hjF
      have HQF := Lib.hid hqf
      have hzp := Lib.hid (fun k => visK_preJ HPR.out HST0.out (j := j) (k := k) hjF hq)
      obtain ⟨x, hx⟩ : ∃ x, hs[j]? = some x := ⟨_, List.getElem?_eq_getElem (by rw [HSL.out]; exact hlt)⟩
      have hxz : x.z = deR a onto q := by
        have h1 : (hs.map Hd.z)[j]? = some x.z := by rw [List.getElem?_map, hx]; rfl
        rw [hmap.out, List.getElem?_map, List.getElem?_eq_getElem hjF] at h1
        rw [hq, List.getD, List.getElem?_eq_getElem hjF]
        simpa using h1.symm
      have hxm := List.mem_of_getElem? hx
      have hxo := hex.out.fn.rw x hxm
      obtain ⟨s, hs'⟩ : ∃ s, s = deR a onto q := ⟨_, rfl⟩
      have HSQ := Lib.hid hs'
      have hsok := de_ok HW.out onto hqr
      rw [← hs'] at hxz hsok
      obtain ⟨A5, c5, hxe, hxr, _, _⟩ := own_rdc hxo
      rw [hxz] at hxe hxr
      obtain ⟨sl, hsl⟩ : ∃ l, l = s.length := ⟨_, rfl⟩
      rw [← hsl] at hxe
      have HSLn := Lib.hid hsl
      have hsl4 : sl ≤ 4096 := by rw [hsl]; have := sub_len hsok; rw [HSS.out] at this; simp at this; omega
      obtain ⟨gA, rfl⟩ : ∃ gA, Av = some ⟨gA, 0, none⟩ := by
        rcases hex.out.fn.ow.2 with ⟨h1, h2⟩ | ⟨g, cap, cur, h1, _⟩
        · rw [HSL.out] at h2; omega
        · injection h1 with h1; exact ⟨g, h1⟩
      have hgA : gA < wr.heap.size := (hex.out.fn.ow.lt gA rfl).2
      have hcx : wr.cell? ⟨gA, j, none⟩ = some (.slice A5 sl c5) := by
        have h1 := hex.out.fn.ow
        rw [HSL.out] at h1
        rw [World.ownsRow.cellAt h1 j (by omega), List.getElem?_map, hx]
        simpa using hxe
      have hc0 := hex.out.ob.cell 0 (show (obL (.slice (some ⟨bg, 0, none⟩) S S) (.slice Ak nk ck) (erR a onto))[0]? = some (.slice (some ⟨bg, 0, none⟩) S S) from rfl)
      have hob := hex.out.ob.lt
      have hfo := hex.out.fn.fo.lt
      have hbel := hex.out.bel.size
      have HSR := Lib.hid (show ∀ q ∈ s, 0 ≤ q ∧ q < (S : Int) from fun q hq => by have := hsok.2 q hq; rw [HSS.out] at this; simpa using this)
      have HTG := Lib.hid (fun W (hW : Below wr.heap.size wr W) => jTargets_any bg S a A5 sl c5 s W (HGK.out _ (hex.out.bel.trans (hW.mono hbel))) HW.out HSS.out hSb ((hxr.below hW (Nat.le_refl _)).more hW.size) HSLn.out.symm hsl4 HSR.out HEL.out)
      have hjz : (0 : Int) ≤ (j : Int) := by omega
      have hjLz : (j : Int) < (L : Int) := by omega
      have hgF : gA ≠ w.heap.size + 1 := fun e' => row_ne_own hex.out.fn.fo hex.out.fn.ow (by decide) (by rw [← e']; rfl)
      clear hq hqr hqf hx hxz hxm hxo hs' hsok hxe hxr hsl hjF
      go_wp2_with fail
      go_upto_region 11 with fail
      go_cut [11] from 30 to 36 (fun v11 wx => ∃ (bt : Nat) (vs : List Value), v11 = .pointer (some ⟨bt, 0, none⟩) ∧ Hid (EO w wx (.slice (some ⟨bg, 0, none⟩) S S) (.slice Ak nk ck) (erR a onto) (.slice (some ⟨gA, 0, none⟩) L cv) hs u9 (canEn (dtA a onto) j)) ∧ Hid (TB wx w.heap.size bt vs (tgL a s)))
      case first =>
        have a0 := fun cs : Array Value => fun ty => (World.cell?_alloc_lt wr (.cells cs ty) ⟨w.heap.size, 0, none⟩ hob).trans hc0
        have a1 := fun cs : Array Value => fun ty => (World.cell?_alloc_lt wr (.cells cs ty) ⟨w.heap.size + 1, 0, none⟩ hfo).trans hF
        have a2 := fun cs : Array Value => fun ty => (World.cell?_alloc_lt wr (.cells cs ty) ⟨gA, j, none⟩ hgA).trans hcx
        go_region_held3 (fun w' => w'.cell? ⟨w.heap.size, 0, none⟩ = some (.slice (some ⟨bg, 0, none⟩) S S) ∧ w'.cell? ⟨w.heap.size + 1, 0, none⟩ = some (.slice (some ⟨gA, 0, none⟩) L cv) ∧ w'.cell? ⟨gA, j, none⟩ = some (.slice A5 sl c5)) (first | exact ⟨hc0, hF, hcx⟩ | exact ⟨a0 _ _, a1 _ _, a2 _ _⟩ | exact ⟨d0, d1, d2⟩ | exact ⟨d3 _ _, d4 _ _, d5 _ _⟩ | exact ⟨cell_setCells d0 (by omega), cell_setCells d1 (by omega), cell_setCells d2 (by omega)⟩ | exact ⟨cell_setCells (d3 _ _) (by omega), cell_setCells (d4 _ _) (by omega), cell_setCells (d5 _ _) (by omega)⟩)
          (first
          | (go_simp; go_at_call 90; with_reducible refine (HTG.out wr.drew (Below.drew (Below.refl _ _))).mono ?_; rintro r w2 ⟨vs, rfl, htv, hb2⟩
             have HB2 := Lib.hid (show Below wr.heap.size wr w2 from (Below.drew (Below.refl wr.heap.size wr)).trans hb2)
             have HTV := Lib.hid (show TgV w2 w.heap.size vs (tgL a s) from htv.base hbel)
             have d0 := (HB2.out.cell (p := ⟨w.heap.size, 0, none⟩) hob).trans hc0
             have d1 := (HB2.out.cell (p := ⟨w.heap.size + 1, 0, none⟩) hfo).trans hF
             have d2 := (HB2.out.cell (p := ⟨gA, j, none⟩) hgA).trans hcx
             have hz2 := HB2.out.size
             have d3 := fun cs : Array Value => fun ty => (World.cell?_alloc_lt w2 (.cells cs ty) ⟨w.heap.size, 0, none⟩ (by show w.heap.size < w2.heap.size; omega)).trans d0
             have d4 := fun cs : Array Value => fun ty => (World.cell?_alloc_lt w2 (.cells cs ty) ⟨w.heap.size + 1, 0, none⟩ (by show w.heap.size + 1 < w2.heap.size; omega)).trans d1
             have d5 := fun cs : Array Value => fun ty => (World.cell?_alloc_lt w2 (.cells cs ty) ⟨gA, j, none⟩ (by show gA < w2.heap.size; omega)).trans d2
             have hrz := Row.new w2 [.slice none 0 0, .slice none 0 0, .slice none 0 0, .slice none 0 0, .slice none 0 0, .slice none 0 0, .slice none 0 0, .slice none 0 0, .slice none 0 0, .slice none 0 0, .slice none 0 0, .slice none 0 0, .slice none 0 0, .slice none 0 0, .slice none 0 0, .slice none 0 0, .slice none 0 0, .slice none 0 0, .slice none 0 0, .slice none 0 0, .slice none 0 0, .slice none 0 0, .slice none 0 0, .slice none 0 0, .slice none 0 0, .slice none 0 0, .slice none 0 0, .slice none 0 0, .slice none 0 0, .slice none 0 0, .slice none 0 0, .slice none 0 0] 131
             have HRZ := Lib.hid hrz
             have hth := there_row hrz
             have hth2 : ((w2.alloc (.cells #[.slice none 0 0, .slice none 0 0, .slice none 0 0, .slice none 0 0, .slice none 0 0, .slice none 0 0, .slice none 0 0, .slice none 0 0, .slice none 0 0, .slice none 0 0, .slice none 0 0, .slice none 0 0, .slice none 0 0, .slice none 0 0, .slice none 0 0, .slice none 0 0, .slice none 0 0, .slice none 0 0, .slice none 0 0, .slice none 0 0, .slice none 0 0, .slice none 0 0, .slice none 0 0, .slice none 0 0, .slice none 0 0, .slice none 0 0, .slice none 0 0, .slice none 0 0, .slice none 0 0, .slice none 0 0, .slice none 0 0, .slice none 0 0] 131)).drew).there w2.heap.size 0 32 := hth
             have hsv : (Tryz.prog.info? 131).map (·.size) = some vs.length := by rw [arr32_size, htv.len]
             have hlv := htv.len
             have hov : ∀ v ∈ vs, v.oneCell' = true := fun v hv => by
               obtain ⟨e, he, rfl⟩ := List.getElem_of_mem hv
               have := own_one' (htv.ow e (by rw [← hlv]; exact he))
               rwa [List.getD, List.getElem?_eq_getElem he] at this
             clear htv hb2 hrz)
          | (go_simp; go_at_call 90; with_reducible refine (HTG.out ((wr.alloc (.cells #[.slice none 0 0, .slice none 0 0, .slice none 0 0, .slice none 0 0, .slice none 0 0, .slice none 0 0, .slice none 0 0, .slice none 0 0, .slice none 0 0, .slice none 0 0, .slice none 0 0, .slice none 0 0, .slice none 0 0, .slice none 0 0, .slice none 0 0, .slice none 0 0, .slice none 0 0, .slice none 0 0, .slice none 0 0, .slice none 0 0, .slice none 0 0, .slice none 0 0, .slice none 0 0, .slice none 0 0, .slice none 0 0, .slice none 0 0, .slice none 0 0, .slice none 0 0, .slice none 0 0, .slice none 0 0, .slice none 0 0, .slice none 0 0] 131)).drew) (Below.drew (Below.alloc (Below.refl _ _) (Nat.le_refl _) _))).mono ?_; rintro r w2 ⟨vs, rfl, htv, hb2⟩
             have HB2 := Lib.hid (show Below wr.heap.size wr w2 from (Below.drew (Below.alloc (Below.refl wr.heap.size wr) (Nat.le_refl _) _)).trans (hb2.mono (by simp)))
             have HTV := Lib.hid (show TgV w2 w.heap.size vs (tgL a s) from htv.base (by simp; omega))
             have d0 := (HB2.out.cell (p := ⟨w.heap.size, 0, none⟩) hob).trans hc0
             have d1 := (HB2.out.cell (p := ⟨w.heap.size + 1, 0, none⟩) hfo).trans hF
             have d2 := (HB2.out.cell (p := ⟨gA, j, none⟩) hgA).trans hcx
             have hz2 := HB2.out.size
             have hrz : Row w2 wr.heap.size 131 [.slice none 0 0, .slice none 0 0, .slice none 0 0, .slice none 0 0, .slice none 0 0, .slice none 0 0, .slice none 0 0, .slice none 0 0, .slice none 0 0, .slice none 0 0, .slice none 0 0, .slice none 0 0, .slice none 0 0, .slice none 0 0, .slice none 0 0, .slice none 0 0, .slice none 0 0, .slice none 0 0, .slice none 0 0, .slice none 0 0, .slice none 0 0, .slice none 0 0, .slice none 0 0, .slice none 0 0, .slice none 0 0, .slice none 0 0, .slice none 0 0, .slice none 0 0, .slice none 0 0, .slice none 0 0, .slice none 0 0, .slice none 0 0] := Row.below (show Row ((wr.alloc (.cells #[.slice none 0 0, .slice none 0 0, .slice none 0 0, .slice none 0 0, .slice none 0 0, .slice none 0 0, .slice none 0 0, .slice none 0 0, .slice none 0 0, .slice none 0 0, .slice none 0 0, .slice none 0 0, .slice none 0 0, .slice none 0 0, .slice none 0 0, .slice none 0 0, .slice none 0 0, .slice none 0 0, .slice none 0 0, .slice none 0 0, .slice none 0 0, .slice none 0 0, .slice none 0 0, .slice none 0 0, .slice none 0 0, .slice none 0 0, .slice none 0 0, .slice none 0 0, .slice none 0 0, .slice none 0 0, .slice none 0 0, .slice none 0 0] 131)).drew) wr.heap.size 131 [.slice none 0 0, .slice none 0 0, .slice none 0 0, .slice none 0 0, .slice none 0 0, .slice none 0 0, .slice none 0 0, .slice none 0 0, .slice none 0 0, .slice none 0 0, .slice none 0 0, .slice none 0 0, .slice none 0 0, .slice none 0 0, .slice none 0 0, .slice none 0 0, .slice none 0 0, .slice none 0 0, .slice none 0 0, .slice none 0 0, .slice none 0 0, .slice none 0 0, .slice none 0 0, .slice none 0 0, .slice none 0 0, .slice none 0 0, .slice none 0 0, .slice none 0 0, .slice none 0 0, .slice none 0 0, .slice none 0 0, .slice none 0 0] from Row.new wr [.slice none 0 0, .slice none 0 0, .slice none 0 0, .slice none 0 0, .slice none 0 0, .slice none 0 0, .slice none 0 0, .slice none 0 0, .slice none 0 0, .slice none 0 0, .slice none 0 0, .slice none 0 0, .slice none 0 0, .slice none 0 0, .slice none 0 0, .slice none 0 0, .slice none 0 0, .slice none 0 0, .slice none 0 0, .slice none 0 0, .slice none 0 0, .slice none 0 0, .slice none 0 0, .slice none 0 0, .slice none 0 0, .slice none 0 0, .slice none 0 0, .slice none 0 0, .slice none 0 0, .slice none 0 0, .slice none 0 0, .slice none 0 0] 131) hb2 (by simp)
             have HRZ := Lib.hid hrz
             have hth := there_row hrz
             have hsv : (Tryz.prog.info? 131).map (·.size) = some vs.length := by rw [arr32_size, htv.len]
             have hlv := htv.len
             have hov : ∀ v ∈ vs, v.oneCell' = true := fun v hv => by
               obtain ⟨e, he, rfl⟩ := List.getElem_of_mem hv
               have := own_one' (htv.ow e (by rw [← hlv]; exact he))
               rwa [List.getD, List.getElem?_eq_getElem he] at this
             clear htv hb2 hrz))
        all_goals
          go_wp2_with fail
          go_meet
          case rel =>
            first
            | exact ⟨_, vs, rfl, Lib.hid (hex.out.call (below_setCells (Nat.le_refl _) vs 0 HB2.out)), Lib.hid (tb_set HRZ.out HTV.out)⟩
            | exact ⟨_, vs, rfl, Lib.hid (hex.out.call (below_setCells (Nat.le_refl _) vs 0 HB2.out)).drew, Lib.hid (tb_set HRZ.out HTV.out).drew⟩
            | exact ⟨_, vs, rfl, Lib.hid (hex.out.call (below_setCells HB2.out.size vs 0 (HB2.out.alloc HB2.out.size _))), Lib.hid (tb_set HRZ.out (HTV.out.alloc _))⟩
            | exact ⟨_, vs, rfl, Lib.hid (hex.out.call (below_setCells HB2.out.size vs 0 (HB2.out.alloc HB2.out.size _))).drew, Lib.hid (tb_set HRZ.out (HTV.out.alloc _)).drew⟩
      case rest =>
        obtain ⟨bt, vs, rfl, hexx, htb⟩ := hcut
        clear hc0 hF hcx HTG hex hob hfo hbel hgA hgF
        have hex := hexx
        clear hexx
        have c1 := hex.out.ob.cell 1 (show (obL (.slice (some ⟨bg, 0, none⟩) S S) (.slice Ak nk ck) (erR a onto))[1]? = some (.slice Ak nk ck) from rfl)
        go_wp2_with fail
        go_loopw [9, 40] (fun ve i wx => ∃ (k : Nat) (v : Value) (hs : List Hd), i = .int .i64 k ∧ k ≤ nk ∧ Hid (hs.map Hd.z = (visitL (Fd (dtA a onto) j) (succK (dtA a onto) q k)).map (deR a onto)) ∧ Hid (EO w wx (.slice (some ⟨bg, 0, none⟩) S S) (.slice Ak nk ck) (erR a onto) v hs ve (canEn (dtA a onto) j ++ outK (dtA a onto) j k)) ∧ Hid (TB wx w.heap.size bt vs (tgL a s))) (fun _ i _ => nk - (intOf i).toNat)
        case atStart => exact ⟨0, _, hs, rfl, Nat.zero_le _, by rw [succK_zero, visitL_nil]; exact hmap, by rw [outK_zero, List.append_nil]; exact hex, htb⟩
        case round =>
          clear hex htb c1 hmap HSL
          obtain ⟨k, v, hs, rfl, hkm, hmap, hex, htb⟩ := hrel
          obtain ⟨fl, hfl⟩ : ∃ fl, fl = visitL (Fd (dtA a onto) j) (succK (dtA a onto) q k) := ⟨_, rfl⟩
          rw [← hfl] at hmap
          obtain ⟨L2, hL2⟩ : ∃ L2, L2 = fl.length := ⟨_, rfl⟩
          have HFL := Lib.hid hfl
          have HL2 := Lib.hid hL2
          have hsl : hs.length = L2 := by have := congrArg List.length hmap.out; rw [List.length_map, List.length_map] at this; rw [this, hL2]
          have HSL := Lib.hid hsl
          obtain ⟨es, hes⟩ : ∃ es, es = canEn (dtA a onto) j ++ outK (dtA a onto) j k := ⟨_, rfl⟩
          have HES := Lib.hid hes
          rw [← hes] at hex
          have hpre : Fd (dtA a onto) j <+: fl := by rw [hfl]; exact visitL_pre _ _
          have hLL : L ≤ L2 := by have := hpre.length_le; rw [← HLn.out, ← hL2] at this; exact this
          have hal : (dtA a onto).al.length = nk := by rw [← HKN.out]; rfl
          have hL2b : L2 ≤ 4096 + 32 := by
            have h1 := visitL_lenJ (succK (dtA a onto) q k) (Fd (dtA a onto) j)
            have h2 := succK_lenJ (dtA a onto) q k
            rw [hal] at h2
            rw [← HLn.out, ← hfl, ← hL2] at h1
            omega
          clear hfl hes
          by_cases hlk : k < nk
          · have hkl : k < (kpR a onto).length := by rw [HKN.out]; exact hlk
            obtain ⟨bk, ok, rfl, hbk, hck⟩ := HKK.out wr hex.out.bel (by omega)
            have hce := hck k hkl
            have hevm := getD_mem hkl
            have hevr := HW.out.alr _ (mem_kpR.1 hevm).1
            obtain ⟨e, he⟩ : ∃ e : Nat, (kpR a onto).getD k 0 = (e : Int) := ⟨((kpR a onto).getD k 0).toNat, by omega⟩
            rw [he] at hce hevm hevr
            have HEV := Lib.hid he
            have he32 : e < 32 := by omega
            have HLK := Lib.hid (dt_link HW.out onto HQR.out hevm)
            rw [← HSQ.out] at HLK
            have howe := htb.out.ow e he32
            obtain ⟨A6, c6, hv6, hr6, _, _⟩ := own_rdc howe
            obtain ⟨n6, hn6⟩ : ∃ n, n = (tgL a s (e : Int)).length := ⟨_, rfl⟩
            rw [← hn6] at hv6
            have HN6 := Lib.hid hn6
            have cbt := htb.out.row.cell e (v := .slice A6 n6 c6) (by rw [← hv6, List.getD, List.getElem?_eq_getElem (by rw [htb.out.len]; exact he32)]; rfl)
            have CV := Lib.hid (show vs[e]? = some (.slice A6 n6 c6) by rw [← hv6, List.getD, List.getElem?_eq_getElem (by rw [htb.out.len]; exact he32)]; rfl)
            have hkal : k < (dtA a onto).al.length := by rw [hal]; exact hlk
            have hev2 : (dtA a onto).al.getD k 0 = (e : Int) := HEV.out
            have z0 : (k : Int) < (nk : Int) := by omega
            have z1 : (0 : Int) ≤ (k : Int) := by omega
            have z2 : (0 : Int) ≤ (e : Int) := by omega
            have z3 : (e : Int) < 32 := by omega
            have HR6 := Lib.hid hr6
            clear hck hevm hevr he howe hv6 hn6 hr6
            rcases HLK.out with ⟨hnil, hed⟩ | ⟨hne, t, hed, htr, hT⟩
            · obtain rfl : n6 = 0 := by rw [HN6.out, hnil]; rfl
              have HVIS := Lib.hid (show visitL (Fd (dtA a onto) j) (succK (dtA a onto) q (k + 1)) = fl by rw [succK_none hkal (by rw [hev2]; exact hed), ← HFL.out])
              have HOUT := Lib.hid (show canEn (dtA a onto) j ++ outK (dtA a onto) j (k + 1) = es by rw [outK_none hkal (by rw [HQF.out, hev2]; exact hed), ← HES.out])
              clear hnil hed HLK hev2
              go_wp2_with fail
              go_roundw
              case rel => exact ⟨k + 1, v, hs, by go_num, by omega, by rw [HVIS.out]; exact hmap, by rw [HOUT.out]; exact hex, htb⟩
              case measure => simp [intOf]; omega
            · have hn0 : 0 < n6 := by rw [HN6.out]; exact List.length_pos_iff.2 hne
              have hvis : visitL (Fd (dtA a onto) j) (succK (dtA a onto) q (k + 1)) = visit fl t := by
                rw [succK_some hkal (x := ⟨q, (e : Int), t⟩) (by rw [hev2]; exact hed), visitL_snoc, ← HFL.out]
              have hpr1 := hzp.out (k + 1)
              rw [hvis] at hpr1
              have hrange : ∀ y ∈ visit fl t, 0 ≤ y ∧ y < (dtA a onto).st := fun y hy => fnd_range HPR.out y (hpr1.subset hy)
              have hidx : (visit fl t).idxOf t = (fnd (dtA a onto)).idxOf t := (idx_pre hpr1 (mem_visit.2 (.inr rfl))).symm
              obtain ⟨I, hI⟩ : ∃ I, I = (fnd (dtA a onto)).idxOf t := ⟨_, rfl⟩
              have hout : canEn (dtA a onto) j ++ outK (dtA a onto) j (k + 1) = es ++ [⟨(j : Int), (e : Int), (I : Int)⟩] := by
                rw [outK_some hkal (x := ⟨q, (e : Int), t⟩) (by rw [HQF.out, hev2]; exact hed), ← List.append_assoc, ← HES.out, hI]
              have HVIS := Lib.hid hvis
              have HOUT := Lib.hid hout
              have hnx : reR a (erR a onto) (tgL a s (e : Int)) = deR a onto t := by rw [hT, nx_tgL HW.out]
              have hnok := de_ok HW.out onto htr
              have HSK := Lib.hid (skey_of HSS.out hSb hnok)
              have hbel := hex.out.bel.size
              have hob := hex.out.ob.lt
              have hbt := htb.out.row.lt
              have HSP := Lib.hid (fun W (hW : Below wr.heap.size wr W) => jSpread_any bg S a A6 n6 c6 (tgL a s (e : Int)) (erR a onto) W (HGK.out _ (hex.out.bel.trans (hW.mono hbel))) HW.out HSS.out hSb ((HR6.out.below hW (Nat.le_refl _)).more hW.size) HN6.out.symm (by
                have := tgL_le HW.out (e : Int) s
                have h8 := HSLn.out
                have h9 := HN6.out
                omega) (fun x hx => by have := tgR_range HW.out x (mem_tgL.1 hx); rw [HSS.out] at this; exact this))
              rw [hnx] at HSP
              have HNUM := Lib.hid (fun (W : World) (A8 : Option Addr) (c8 : Nat) (hE : EO w W (.slice (some ⟨bg, 0, none⟩) S S) (.slice (some ⟨bk, ok, none⟩) nk ck) (erR a onto) v hs u9 es) (ho : Own W w.heap.size (.slice A8 (deR a onto t).length c8) (deR a onto t)) => jNumber_any (w.heap.size + 1) (w.heap.size + 1 + 1 + 1) (w.heap.size + 1 + 1) w.heap.size v hs ⟨A8, c8, deR a onto t⟩ W hE.fn ho HSK.out (by rw [HSL.out]; omega))
              have HADD := Lib.hid (fun (x : Hd) (hx : x.z = deR a onto t) => by
                have := addS_map (x := x) hmap.out hx (fun y hy e' => de_inj HW.out onto (hrange y (mem_visit.2 (.inl hy))) htr e')
                rw [hidx, ← hI] at this
                exact this)
              have hc0 := hex.out.ob.cell 0 (show (obL (.slice (some ⟨bg, 0, none⟩) S S) (.slice (some ⟨bk, ok, none⟩) nk ck) (erR a onto))[0]? = some (.slice (some ⟨bg, 0, none⟩) S S) from rfl)
              have hrg := ob_flags hex.out.ob
              have hul := Tryz.underlying86
              have hsz : (Tryz.prog.info? 86).map (·.size) = some (flR (erR a onto)).length := by rw [flags_size, fl_len]
              clear hne hed htr hT hvis hpr1 hrange hidx hI hout HLK hev2 hnx hnok
              have z4 : (0 : Int) < (n6 : Int) := by omega
              have d3 := fun cs : Array Value => fun ty => fun W : World => fun (hW : W.cell? ⟨w.heap.size, 0, none⟩ = some (.slice (some ⟨bg, 0, none⟩) S S)) => (World.cell?_alloc_lt W (.cells cs ty) ⟨w.heap.size, 0, none⟩ (World.block_lt_of_cell? W _ hW)).trans hW
              have d4 := fun cs : Array Value => fun ty => fun W : World => fun (hW : W.cell? ⟨bt, e, none⟩ = some (.slice A6 n6 c6)) => (World.cell?_alloc_lt W (.cells cs ty) ⟨bt, e, none⟩ (World.block_lt_of_cell? W _ hW)).trans hW
              obtain ⟨iE, iE0, iE1, iE2, iE3⟩ := info_edgeEJ
              have hele : es.length ≤ 140000 := by
                have h1 := canEn_leJ HPR.out j
                have h2 := succK_lenJ (dtA a onto) ((fnd (dtA a onto)).getD j 0) k
                have h3 : (outK (dtA a onto) j k).length ≤ (dtA a onto).al.length := by unfold outK; rw [List.length_map]; exact h2
                rw [HES.out, List.length_append]
                rw [hal] at h1 h3
                have h4 : j * nk ≤ 4096 * 32 := Nat.mul_le_mul (by omega) hnk
                omega
              go_wp2_with fail
              go_region_held3 (fun w' => w'.cell? ⟨w.heap.size, 0, none⟩ = some (.slice (some ⟨bg, 0, none⟩) S S) ∧ w'.cell? ⟨bt, e, none⟩ = some (.slice A6 n6 c6) ∧ w'.rangeAt w.heap.size 2 (flR (erR a onto))) (first | exact ⟨hc0, cbt, hrg⟩ | exact ⟨e0, e1, e2⟩ | exact ⟨f0, f1, f2⟩ | exact ⟨d3 _ _ _ f0, d4 _ _ _ f1, rangeAt_below f2 (Below.alloc (Below.refl _ _) (Nat.le_refl _) _) flt⟩ | exact ⟨g0, g1, g2⟩)
                (first
                | (go_simp; go_at_call 56; with_reducible refine (HSP.out _ (by first | exact Below.refl _ _ | exact Below.drew (Below.refl _ _))).mono ?_; rintro r w8 ⟨v8, rfl, ho8, hb8⟩
                   obtain ⟨A8, c8, rfl, _, _, _⟩ := own_rdc ho8
                   have HB8 := Lib.hid (show Below wr.heap.size wr w8 from by first | exact hb8 | exact (Below.drew (Below.refl wr.heap.size wr)).trans hb8)
                   have HO8 := Lib.hid (show Own w8 w.heap.size (.slice A8 (deR a onto t).length c8) (deR a onto t) from own_more ho8 hbel)
                   have HEX8 := Lib.hid (hex.out.call HB8.out)
                   have HTB8 := Lib.hid (htb.out.call HB8.out)
                   have e0 := (HB8.out.cell (p := ⟨w.heap.size, 0, none⟩) hob).trans hc0
                   have e1 := (HB8.out.cell (p := ⟨bt, e, none⟩) hbt).trans cbt
                   have e2 := rangeAt_below hrg HB8.out hob
                   clear ho8 hb8)
                | (go_simp; go_at_call 88; with_reducible refine (HNUM.out _ A8 c8 (by first | exact HEX8.out | exact HEX8.out.drew) (by exact HO8.out)).mono ?_; rintro r w10 ⟨rfl, v10, hf10, hk10⟩
                   have HEX10 := Lib.hid (show EO w w10 (.slice (some ⟨bg, 0, none⟩) S S) (.slice (some ⟨bk, ok, none⟩) nk ck) (erR a onto) v10 (addS hs ⟨A8, c8, deR a onto t⟩) u9 es from by first | exact HEX8.out.num hf10 hk10 | exact HEX8.out.drew.num hf10 hk10)
                   have HTB10 := Lib.hid (show TB w10 w.heap.size bt vs (tgL a s) from by first | exact HTB8.out.num HEX8.out.fn hk10 | exact HTB8.out.drew.num HEX8.out.drew.fn hk10)
                   rw [show ((addS hs ⟨A8, c8, deR a onto t⟩).map Hd.z).idxOf (deR a onto t) = I from (HADD.out ⟨A8, c8, deR a onto t⟩ rfl).2]
                   have f0 := HEX10.out.ob.cell 0 (show (obL (.slice (some ⟨bg, 0, none⟩) S S) (.slice (some ⟨bk, ok, none⟩) nk ck) (erR a onto))[0]? = some (.slice (some ⟨bg, 0, none⟩) S S) from rfl)
                   have f1 := HTB10.out.row.cell e (v := .slice A6 n6 c6) CV.out
                   have f2 := ob_flags HEX10.out.ob
                   have flt := HEX10.out.ob.lt
                   have hz10 := HEX10.out.bel.size
                   have HEB := Lib.hid HEX10.out.edg
                   clear hf10 hk10)
                | (refine step_append_lies _ (by rfl) (.tmp 49) (.tmp 63) _ (by rfl) w.heap.size 79 iE (.agg #[.int .i64 0, .int .i64 0, .int .i64 0]) 3 24 Tryz.underlying31 iE0 iE1 iE2 iE3 rfl (by omega) u9 es.length (encE es) (by rfl) (by first | exact (HEB.out.alloc _).drew | exact (HEB.out.alloc _)) ⟨w10.heap.size, 0, none⟩ 1 1 [.int .i64 (j : Int), .int .i64 (e : Int), .int .i64 (I : Int)] (by rfl) (by rfl) (World.news_of_block (cs := #[.int .i64 (j : Int), .int .i64 (e : Int), .int .i64 (I : Int)]) (t := 79) (fr := (0, 0)) (heap_alloc_new w10 _)) (by simp [Value.oneCell']) (by omega) (by unfold maxLen; omega) (by omega) (by simp; omega) (w10.heap.size + 1) (by simp) ?_; intro gg cap w11 hown11 hgrow hat hlt1
                   have HO11 := Lib.hid (show OwnE w11 w.heap.size (.slice (some ⟨gg, 0, none⟩) (es.length + 1) cap) (es ++ [⟨(j : Int), (e : Int), (I : Int)⟩]) from by unfold OwnE; rw [encE_app, List.length_append]; exact hown11)
                   have HEX11 := Lib.hid (show EO w w11 (.slice (some ⟨bg, 0, none⟩) S S) (.slice (some ⟨bk, ok, none⟩) nk ck) (erR a onto) v10 (addS hs ⟨A8, c8, deR a onto t⟩) (.slice (some ⟨gg, 0, none⟩) (es.length + 1) cap) (es ++ [⟨(j : Int), (e : Int), (I : Int)⟩]) from by
                     first
                     | exact (HEX10.out.call (Below.alloc (Below.refl _ _) (Nat.le_refl _) _)).edge hgrow HO11.out
                     | exact (HEX10.out.call (Below.drew (Below.alloc (Below.refl _ _) (Nat.le_refl _) _))).edge hgrow HO11.out)
                   have HTB11 := Lib.hid (show TB w11 w.heap.size bt vs (tgL a s) from by
                     first
                     | exact (HTB10.out.call (Below.alloc (Below.refl _ _) (Nat.le_refl _) _)).edge (HEX10.out.call (Below.alloc (Below.refl _ _) (Nat.le_refl _) _)).edg hgrow
                     | exact (HTB10.out.call (Below.drew (Below.alloc (Below.refl _ _) (Nat.le_refl _) _))).edge (HEX10.out.call (Below.drew (Below.alloc (Below.refl _ _) (Nat.le_refl _) _))).edg hgrow)
                   have g0 := HEX11.out.ob.cell 0 (show (obL (.slice (some ⟨bg, 0, none⟩) S S) (.slice (some ⟨bk, ok, none⟩) nk ck) (erR a onto))[0]? = some (.slice (some ⟨bg, 0, none⟩) S S) from rfl)
                   have g1 := HTB11.out.row.cell e (v := .slice A6 n6 c6) CV.out
                   have g2 := ob_flags HEX11.out.ob
                   clear hown11 hgrow hat))
              all_goals
                go_wp2_with fail
                go_roundw
                case rel => exact ⟨k + 1, v10, addS hs ⟨A8, c8, deR a onto t⟩, by go_num, by omega, by rw [HVIS.out]; exact Lib.hid (HADD.out ⟨A8, c8, deR a onto t⟩ rfl).1, by rw [HOUT.out]; first | exact HEX11 | exact Lib.hid HEX11.out.drew, by first | exact HTB11 | exact Lib.hid HTB11.out.drew⟩
                case measure => simp [intOf]; omega
          · obtain rfl : k = nk := by omega
            have hFs : fl = Fd (dtA a onto) (j + 1) := by
              rw [HFL.out, succK_all HPR.out hal, Fd_go (by rw [← HLn.out]; exact hlt), HQ.out]
            have hEs : es = canEn (dtA a onto) (j + 1) := by rw [HES.out, outK_all HPR.out hal]
            rw [hEs] at hex
            rw [hFs] at hL2 hmap
            have HL3 := Lib.hid hL2
            have hj1 := Lib.hid (show j + 1 ≤ (Fd (dtA a onto) (j + 1)).length by rw [← hL2]; omega)
            obtain ⟨Av2, cv2, hv⟩ := own_shapeS hex.out.fn.ow
            rw [hsl] at hv
            subst hv
            have hF := hex.out.fn.fo.cell 0 rfl
            clear hFs hEs hL2 hpre hsl
            by_cases hbig : 4096 < L2
            · have hbz : (4096 : Int) < (L2 : Int) := by omega
              have hfl := (Fd_fnd HPR.out HST0.out (j + 1)).length_le
              rw [← HL3.out] at hfl
              have HBG := Lib.hid (show 4096 < (fnd (dtA a onto)).length by omega)
              clear hbig hfl
              go_wp2_with fail
              go_ret3
              exact ⟨hex.out.bel, .inl ⟨by rw [HDT.out]; exact HBG.out, rfl⟩⟩
            · have hbz : ¬ (4096 : Int) < (L2 : Int) := by omega
              have HSM := Lib.hid (show (Fd (dtA a onto) (j + 1)).length ≤ 4096 by rw [← HL3.out]; omega)
              clear hbig
              go_wp2_with fail
              go_roundw
              case rel => exact ⟨j + 1, _, hs, by go_num, hj1, HSM, hmap, hex⟩
              case measure => simp [intOf]; omega
    · obtain rfl : j = L := by omega
      have hfn : fnd (dtA a onto) = Fd (dtA a onto) j := fnd_at HPR.out HST0.out (by rw [← HLn.out]; exact Nat.le_refl _) (by
        have := Fd_len HPR.out HST0.out j
        rw [← HLn.out] at this; exact this)
      have HFN := Lib.hid hfn
      have hsl := HSL.out
      clear hfn
      go_wp2_with fail
      go_ret3
      have hlen : (fnd (dtA a onto)).length = j := by rw [HFN.out]; exact HLn.out.symm
      refine ⟨hex.out.bel, .inr ?_⟩
      rw [HDT.out]
      exact ⟨by rw [hlen]; exact hL4, _, _, hs, rfl, by rw [← hsl] at hex ⊢; exact hex.out.fn.ow, hex.out.fn.rw, by rw [HFN.out]; exact hmap.out, by rw [hlen]; exact hex.out.edg⟩
end Go.Proofs.YtaadhpkpekmfoaaGreat

/- Layer 7: Reach. -/
namespace Go.Proofs.YtaadhpkpekmfoaaGreat
open Go.RowKit Go.Sort

theorem fst_zero {x y : Int} : fstE [x, y] = 0 ↔ x = 0 ∧ y = 0 := by
  simp only [fstE]
  by_cases hx : x = 0
  · by_cases hy : y = 0 <;> simp [hx, hy]
  · simp [hx]
theorem ev_range {ev : List Int} (h : chkE ⟨ev, 0, [], []⟩ = 0) : ∀ x ∈ ev, 0 ≤ x ∧ x < 32 := (right_of h).alr
theorem cwe_zero {a : Au} {ev : List Int} (h : cweE a ev = 0) : Right a ∧ ∀ x ∈ ev, 0 ≤ x ∧ x < 32 := by
  have := fst_zero.1 h
  exact ⟨right_of this.1, ev_range this.2⟩
theorem cst_zero {s : Int} {zs : List Int} (h : cstE s zs = 0) : ∀ x ∈ zs, 0 ≤ x ∧ x < s := (right_of h).mrr
/-- The error of Reach. -/
def rchE (a : Au) (fr ev : List Int) : Int := fstE [cweE a ev, cstE a.st fr]
theorem own_moreR {w : World} {B B' : Nat} {v : Value} {zs : List Int} (h : Own w B v zs) (hB : B' ≤ B) : Own w B' v zs := by
  refine ⟨h.1, ?_⟩
  rcases h.2 with h0 | ⟨g, cap, cur, h1, h2, h3⟩
  · exact .inl h0
  · exact .inr ⟨g, cap, cur, h1, Nat.le_trans hB h2, h3⟩
set_option maxHeartbeats 4000000 in
set_option maxRecDepth 100000 in
theorem jReach_any (A : Option Addr) (n c : Nat) (s : Int) (M : Option Addr) (m d : Nat) (E : Option Addr) (k g : Nat) (a : Au) (A2 : Option Addr) (n2 c2 : Nat) (fr : List Int) (A3 : Option Addr) (n3 c3 : Nat) (ev : List Int) (w : World) (h : AuR w w.heap.size A n c s M m d E k g a) (hx : RdI w w.heap.size A2 fr) (hn : fr.length = n2) (hc : n2 ≤ c2 ∧ c2 ≤ 9223372036854775807) (hb : n2 ≤ 100000)
    (hx3 : RdI w w.heap.size A3 ev) (hn3 : ev.length = n3) (hc3 : n3 ≤ c3 ∧ c3 ≤ 9223372036854775807) (hb3 : n3 ≤ 100000) :
    Calls Tryz.prog 20 #[.agg #[.slice A n c, .int .i64 s, .slice M m d, .slice E k g], .slice A2 n2 c2, .slice A3 n3 c3] w fun e w' => ∃ v, e = .returned (.tuple #[v, .int .i64 (rchE a fr ev)]) ∧ Own w' w.heap.size v (if rchE a fr ev = 0 then reR a ev fr else []) ∧ Below w.heap.size w w' := by
  have hb1 := (Below.refl w.heap.size w).alloc (Nat.le_refl _) (.cells #[.slice A n c, .int .i64 s, .slice M m d, .slice E k g] 33)
  have HB1 := Lib.hid hb1
  have HCE := Lib.hid (fun W (hW : Below w.heap.size w W) => jCheckEvents_any A n c s M m d E k g a A3 n3 c3 ev W ((h.below hW (Nat.le_refl _)).more hW.size) ((hx3.below hW (Nat.le_refl _)).more hW.size) hn3 hc3 hb3)
  have HCS := Lib.hid (fun W (hW : Below w.heap.size w W) => jCheckStates_any A n c s M m d E k g a A2 n2 c2 fr W ((h.below hW (Nat.le_refl _)).more hW.size) ((hx.below hW (Nat.le_refl _)).more hW.size) hn hc hb)
  have HX := Lib.hid (BoxA.made w A n c s M m d E k g 33)
  have HR := Lib.hid h
  have HI := Lib.hid hx
  have HI3 := Lib.hid hx3
  have HN := Lib.hid hn
  have HN3 := Lib.hid hn3
  have hst := h.st
  obtain ⟨u, hu⟩ : ∃ u, u = cweE a ev := ⟨_, rfl⟩
  obtain ⟨v, hv⟩ : ∃ v, v = cstE s fr := ⟨_, rfl⟩
  obtain ⟨r, hr⟩ : ∃ r, r = rchE a fr ev := ⟨_, rfl⟩
  have HRE := Lib.hid (show r = fstE [u, v] by rw [hr, rchE, hu, hv, hst])
  have HST := Lib.hid hst
  rw [← hu] at HCE
  rw [← hv] at HCS
  rw [← hr]
  have HU := Lib.hid hu
  have HV := Lib.hid hv
  clear h hx hn hx3 hn3 hu hv hr hb1 hst
  go_enter Tryz.func20, Tryz.ntmps20
  obtain ⟨p0, p1, p2, p3⟩ := HX.out
  have HB1d := Lib.hid HB1.out.drew
  go_wp2_with fail
  go_cut [8] from 9 to 16 (fun ev wx => ev = .int .i64 r ∧ Hid (Below w.heap.size w wx ∧ BoxA wx w.heap.size A n c s M m d E k g))
  case first =>
    go_region_held3 (fun w' => w'.cell? ⟨w.heap.size, 0, none⟩ = some (.slice A n c) ∧ w'.cell? ⟨w.heap.size, 1, none⟩ = some (.int .i64 s) ∧ w'.cell? ⟨w.heap.size, 2, none⟩ = some (.slice M m d) ∧ w'.cell? ⟨w.heap.size, 3, none⟩ = some (.slice E k g)) (first | with_reducible exact ⟨p0, p1, p2, p3⟩ | go_keep)
      (first
      | (go_simp; go_at_call 42; (first | with_reducible refine (HCE.out _ HB1.out).mono ?_ | with_reducible refine (HCE.out _ HB1d.out).mono ?_); rintro e w2 ⟨rfl, hb2⟩
         have HB2 := Lib.hid (show Below w.heap.size w w2 by first | exact HB1.out.trans (hb2.mono HB1.out.size) | exact HB1d.out.trans (hb2.mono HB1d.out.size))
         have HX2 := Lib.hid (show BoxA w2 w.heap.size A n c s M m d E k g by first | exact HX.out.below hb2 (by simp) | exact (HX.out.drewN 1).below hb2 (by simp))
         have hsz2 : w.heap.size < w2.heap.size := by have h9 := hb2.size; simp at h9; omega
         obtain ⟨p0, p1, p2, p3⟩ := HX2.out
         clear hb2)
      | (go_simp; go_at_call 54; (first | with_reducible refine (HCS.out _ HB2.out).mono ?_ | with_reducible refine (HCS.out _ HB2.out.drew).mono ?_); rintro e w4 ⟨rfl, hb4⟩
         have HB4 := Lib.hid (show Below w.heap.size w w4 by first | exact HB2.out.trans (hb4.mono HB2.out.size) | exact HB2.out.drew.trans (hb4.mono HB2.out.drew.size))
         have HX4 := Lib.hid (show BoxA w4 w.heap.size A n c s M m d E k g by first | exact HX2.out.below hb4 hsz2 | exact (HX2.out.drewN 1).below hb4 hsz2)
         have hsz4 : w.heap.size < w4.heap.size := by have h9 := hb4.size; (try simp at h9); omega
         obtain ⟨p0, p1, p2, p3⟩ := HX4.out
         clear hb4)
      | (go_simp; go_at_call 53; (first | with_reducible refine (cmpOr_any _ 2 2 _ [u, v] _ rd_two rfl (by omega)).mono ?_); rintro e w6 ⟨rfl, rfl⟩))
    all_goals
      go_wp2_with fail
      go_meet
      case rel => exact ⟨by rw [HRE.out], Lib.hid ⟨by first | exact HB4.out.alloc HB4.out.size _ | exact (HB4.out.alloc HB4.out.size _).drew, by first | exact HX4.out.below ((Below.refl _ w4).alloc (Nat.le_refl _) _) hsz4 | exact (HX4.out.below ((Below.refl _ w4).alloc (Nat.le_refl _) _) hsz4).drewN 1⟩⟩
  case rest =>
    obtain ⟨rfl, hbx⟩ := hcut
    obtain ⟨hB, hX⟩ := hbx.out
    obtain ⟨p0, p1, p2, p3⟩ := hX
    have HB := Lib.hid hB
    clear hB hbx
    by_cases h0 : r = 0
    · have huv := fst_zero.1 (HRE.out.symm.trans h0)
      have hru := cwe_zero (a := a) (ev := ev) (by rw [← HU.out]; exact huv.1)
      have hfr := cst_zero (s := s) (zs := fr) (by rw [← HV.out]; exact huv.2)
      have hri := hru.1
      have hev := hru.2
      obtain ⟨S, hS⟩ : ∃ S : Nat, s = (S : Int) := ⟨s.toNat, by have := hri.st0; rw [HST.out] at this; omega⟩
      have hS4 : S ≤ 4096 := by have := hri.st1; rw [HST.out] at this; omega
      subst hS
      have HGr := Lib.hid (fun W (hW : Below w.heap.size w W) => graphOf_any A n c (S : Int) M m d E k g a S W ((HR.out.below hW (Nat.le_refl _)).more hW.size) hri.toRightW rfl hS4)
      have HFl := Lib.hid (fun W (hW : Below w.heap.size w W) => jFlags_any A3 n3 c3 ev W ((HI3.out.below hW (Nat.le_refl _)).more hW.size) HN3.out hb3 hev)
      have HSp := Lib.hid (fun W bg (hg : RdGr W W.heap.size bg a) (hW : Below w.heap.size w W) => jSpread_any bg S a A2 n2 c2 fr ev W hg hri.toRightW HST.out hS4 ((HI.out.below hW (Nat.le_refl _)).more hW.size) HN.out (by omega) hfr)
      subst h0
      clear hri hev hru hfr huv
      go_wp2_with fail
      refine (HGr.out _ HB.out).mono ?_
      rintro e w7 ⟨bg, rfl, hbg, hgr, hb7⟩
      have hB7 := Lib.hid (HB.out.trans (hb7.mono HB.out.size))
      have hG7 := Lib.hid hgr
      clear hb7 hgr
      go_wp2_with fail
      refine (HFl.out _ hB7.out).mono ?_
      rintro e w8 ⟨rfl, hb8⟩
      have hB8 := Lib.hid (hB7.out.trans (hb8.mono hB7.out.size))
      have hG8 := Lib.hid (show RdGr w8 w8.heap.size bg a from ⟨Nat.lt_of_lt_of_le hG7.out.1 hb8.size, fun q hq => by
        obtain ⟨v, k1, A5, c5, e5, k2, k3, k4⟩ := hG7.out.2 q hq
        exact ⟨v, (hb8.cell (p := ⟨bg, q, none⟩) hG7.out.1).trans k1, A5, c5, e5, (k2.below hb8 (Nat.le_refl _)).more hb8.size, k3, k4⟩⟩)
      clear hb8
      go_wp2_with fail
      refine (HSp.out _ _ hG8.out hB8.out).mono ?_
      rintro e w9 ⟨v9, rfl, hown, hb9⟩
      go_wp2_with fail
      go_ret2
      exact ⟨v9, rfl, own_moreR hown hB8.out.size, hB8.out.trans (hb9.mono hB8.out.size)⟩
    · have hbn : (r != 0) = true := by simp [h0]
      go_wp2_with fail
      go_ret2
      exact ⟨_, rfl, World.ownsRow_nil _ _ _ _, HB.out⟩
end Go.Proofs.YtaadhpkpekmfoaaGreat
