/- Texts merged: what follows were texts of their own. -/
import Derived.Test.YtaadhpkpekmfoaaGreatZa3
import Derived.Test.YtaadhpkpekmfoaaGreatZa4
import Derived.Test.YtaadhpkpekmfoaaGreatZa2
import Derived.Test.YtaadhpkpekmfoaaGreatZa1
import Derived.Deep.RegionHeld3
set_option linter.unusedVariables false
set_option linter.unusedSimpArgs false
set_option linter.unusedSectionVars false
/- Layer 3: slices.Grow from nil, slices.Concat of two lists; words held by slices; lists of words of the call's own. -/
namespace Go.Proofs.YtaadhpkpekmfoaaGreat
open Go.RowKit Go.Sort

set_option maxHeartbeats 1000000 in
theorem grow_nil (N : Nat) (hN : N ≤ 100000) (w : World) :
    Calls Tryz.prog 102 #[.slice none 0 0, .int .i64 (N : Int)] w fun e w' => ∃ v, e = .returned v ∧ Own w' w.heap.size v [] ∧ Below w.heap.size w w' := by
  rcases Nat.eq_zero_or_pos N with h0 | h0
  · subst h0
    refine Calls.mono (show Calls Tryz.prog 102 _ w _ from Any8.slices_Grow_room layGr none 0 0 0 w (Nat.le_refl _) (by omega) (by omega) (by omega)) ?_
    rintro e w' ⟨rfl, rfl⟩
    exact ⟨_, rfl, World.ownsRow_nil _ _ _ _, Below.refl _ _⟩
  · obtain ⟨i0, hi, hz0, hz1, hz2⟩ := info_parts info_int
    refine Calls.mono (show Calls Tryz.prog 102 _ w _ from Any8.slices_Grow_grow layGr i0 (.int .i64 0) hi hz0 (by rw [hz1]; omega) none 0 0 N [] w (Nat.le_refl _) (by omega) (by rw [hz2]; omega) (by omega) (by simp) (fun _ => rfl) (fun a h => by cases h)) ?_
    rintro e w' ⟨rfl, rfl⟩
    have hge := grownCap_ge w (0 + N) 0 3
    have hle := grownCap_le_maxLen w (0 + N) 0 3 (by unfold maxLen; omega)
    refine ⟨_, rfl, ?_, (Below.refl _ w).drew.alloc (Nat.le_refl _) _⟩
    refine ⟨rfl, .inr ⟨w.heap.size, _, _, rfl, Nat.le_refl _, heap_alloc_new w.drew _, Nat.zero_le _, hle, ?_, ?_⟩⟩
    · simp only [Array.size_append, size_zeroCells, List.size_toArray, List.length_nil, Value.cells, Nat.mul_one]
      have e : layGr_ren.t 25 = 3 := rfl
      rw [e]
      simp only [Nat.zero_add, Nat.sub_zero] at hge ⊢
      simp
      omega
    · simp

/-- The two slices that Concat takes. -/
structure TwoS (w : World) (b o : Nat) (A1 : Option Addr) (n1 c1 : Nat) (A2 : Option Addr) (n2 c2 : Nat) (xs ys : List Int) : Prop where
  c0 : w.cell? ⟨b, o, none⟩ = some (.slice A1 n1 c1)
  c1 : w.cell? ⟨b, o + 1, none⟩ = some (.slice A2 n2 c2)
  r0 : RdI w w.heap.size A1 xs
  r1 : RdI w w.heap.size A2 ys
  l0 : xs.length = n1
  l1 : ys.length = n2
  bb : b < w.heap.size
theorem TwoS.below {w w' : World} {b o : Nat} {A1 : Option Addr} {n1 c1 : Nat} {A2 : Option Addr} {n2 c2 : Nat} {xs ys : List Int} (h : TwoS w b o A1 n1 c1 A2 n2 c2 xs ys) (hb : Below w.heap.size w w') : TwoS w' b o A1 n1 c1 A2 n2 c2 xs ys :=
  ⟨(hb.cell (p := ⟨b, o, none⟩) h.bb).trans h.c0, (hb.cell (p := ⟨b, o + 1, none⟩) h.bb).trans h.c1, (h.r0.below hb (Nat.le_refl _)).more hb.size, (h.r1.below hb (Nat.le_refl _)).more hb.size, h.l0, h.l1, Nat.lt_of_lt_of_le h.bb hb.size⟩

set_option maxHeartbeats 2000000 in
theorem concat_any (b o cp : Nat) (A1 : Option Addr) (n1 c1 : Nat) (A2 : Option Addr) (n2 c2 : Nat) (xs ys : List Int) (w : World) (h : TwoS w b o A1 n1 c1 A2 n2 c2 xs ys) (hb1 : n1 ≤ 50000) (hb2 : n2 ≤ 50000) :
    Calls Tryz.prog 66 #[.slice (some ⟨b, o, none⟩) 2 cp] w fun e w' => ∃ A c, e = .returned (.slice A (n1 + n2) c) ∧ Own w' w.heap.size (.slice A (n1 + n2) c) (xs ++ ys) ∧ Below w.heap.size w w' := by
  have HT := Lib.hid h
  have HG := Lib.hid (grow_nil (n1 + n2) (by omega) w)
  have c0 := h.c0
  have c1' := h.c1
  clear h
  go_enter Tryz.func66, Tryz.ntmps66
  go_wp2_with fail
  go_loop [3, 11] (fun u i => (i = .int .i64 0 ∧ u = .int .i64 0) ∨ (i = .int .i64 1 ∧ u = .int .i64 (n1 : Int)) ∨ (i = .int .i64 2 ∧ u = .int .i64 ((n1 + n2 : Nat) : Int))) (fun _ i => 2 - (intOf i).toNat)
  case atStart => exact .inl ⟨rfl, rfl⟩
  case round =>
    rcases hrel with ⟨rfl, rfl⟩ | ⟨rfl, rfl⟩ | ⟨rfl, rfl⟩
    · have hn : ¬ ((n1 : Int) < 0) := by omega
      go_wp2_with fail
      go_round
      case rel => exact .inr (.inl ⟨rfl, by go_num⟩)
      case measure => simp [intOf]
    · have hn : ¬ ((n1 : Int) + (n2 : Int) < 0) := by omega
      go_wp2_with fail
      go_round
      case rel => exact .inr (.inr ⟨rfl, by go_num⟩)
      case measure => simp [intOf]
    · go_wp2_with fail
      refine HG.out.mono ?_
      rintro e w1 ⟨v1, rfl, ho1, hbw1⟩
      have HO1 := Lib.hid ho1
      have HB1 := Lib.hid hbw1
      have HT1 := Lib.hid (HT.out.below hbw1)
      clear c0 c1' ho1 hbw1
      go_wp2_with fail
      go_loopw [6, 27] (fun v i wr => Hid (Below w.heap.size w wr) ∧ Hid (TwoS wr b o A1 n1 c1 A2 n2 c2 xs ys) ∧ ((i = .int .i64 0 ∧ Hid (Own wr w.heap.size v [])) ∨ (i = .int .i64 1 ∧ Hid (Own wr w.heap.size v xs)) ∨ (i = .int .i64 2 ∧ Hid (Own wr w.heap.size v (xs ++ ys))))) (fun _ i _ => 2 - (intOf i).toNat)
      case atStart => exact ⟨HB1, HT1, .inl ⟨rfl, HO1⟩⟩
      case round =>
        clear HB1 HT1 HO1
        obtain ⟨hbel, ht, hor⟩ := hrel
        have c0 := ht.out.c0
        have c1' := ht.out.c1
        have hsz := hbel.out.size
        rcases hor with ⟨rfl, ho⟩ | ⟨rfl, ho⟩ | ⟨rfl, ho⟩
        · go_wp2_with (at_builtin; refine wpList_app_rd rfl (.tmp 31) (.tmp 32) rfl w.heap.size _ 0 [] rfl ho.out wr.heap.size A1 n1 c1 xs rfl ht.out.r0 ht.out.l0 (by unfold maxLen; omega) (by omega) hsz ?_)
          intro v' w2 hown hgrow
          have HB2 := Lib.hid (hbel.out.grown hgrow hsz (fun k hk => (ho.out.lt k hk).1))
          have HO2 := Lib.hid (show Own w2 w.heap.size v' xs by unfold Own; rw [ht.out.l0]; simpa using hown)
          have HT2 := Lib.hid (show TwoS w2 b o A1 n1 c1 A2 n2 c2 xs ys from HT.out.below HB2.out)
          clear hown hgrow
          go_wp2_with fail
          go_roundw
          case rel => exact ⟨HB2, HT2, .inr (.inl ⟨rfl, HO2⟩)⟩
          case measure => simp [intOf]
        · have ho' : wr.ownsRow w.heap.size 3 1 u6 n1 (xs.map (Value.int .i64)) := by have := ho.out; unfold Own at this; rwa [ht.out.l0] at this
          have HO := Lib.hid ho'
          clear ho'
          go_wp2_with (at_builtin; refine wpList_app_rd rfl (.tmp 31) (.tmp 32) rfl w.heap.size _ n1 xs rfl HO.out wr.heap.size A2 n2 c2 ys rfl ht.out.r1 ht.out.l1 (by unfold maxLen; omega) (by omega) hsz ?_)
          intro v' w2 hown hgrow
          have HB2 := Lib.hid (hbel.out.grown hgrow hsz (fun k hk => (ho.out.lt k hk).1))
          have HO2 := Lib.hid (show Own w2 w.heap.size v' (xs ++ ys) by unfold Own; rw [List.length_append, ht.out.l0, ht.out.l1, List.map_append]; first | exact hown | simpa using hown)
          have HT2 := Lib.hid (show TwoS w2 b o A1 n1 c1 A2 n2 c2 xs ys from HT.out.below HB2.out)
          clear hown hgrow
          go_wp2_with fail
          go_roundw
          case rel => exact ⟨HB2, HT2, .inr (.inr ⟨rfl, HO2⟩)⟩
          case measure => simp [intOf]
        · obtain ⟨A3, c3, rfl, _⟩ := own_rd ho.out
          have HO3 := Lib.hid (show Own wr w.heap.size (.slice A3 (n1 + n2) c3) (xs ++ ys) by have := ho.out; rwa [List.length_append, ht.out.l0, ht.out.l1] at this)
          have hlen := Lib.hid (show (xs ++ ys).length = n1 + n2 by rw [List.length_append, ht.out.l0, ht.out.l1])
          go_wp2_with fail
          go_ret
          exact ⟨A3, c3, congrArg (fun k : Nat => Ending.returned (.slice A3 k c3)) hlen.out, HO3.out, hbel.out⟩
end Go.Proofs.YtaadhpkpekmfoaaGreat

/- Layer 3: lists of words of the call's own; the words of an automaton. -/
namespace Go.Proofs.YtaadhpkpekmfoaaGreat
open Go.RowKit Go.Sort

theorem info_ints : (Tryz.prog.info? 27).map (fun i => (i.zero, i.size, i.bytes)) = some (some (.slice none 0 0), 1, 24) := by kernel_rfl
/-- A slice that holds a word: its address, its capacity, the word. -/
structure Hd where
  A : Option Addr
  c : Nat
  z : List Int
def Hd.enc (h : Hd) : Value := .slice h.A h.z.length h.c
instance : Inhabited Hd := ⟨⟨none, 0, []⟩⟩

theorem own_more {w : World} {base base' n : Nat} {e : TypeId} {sz : Nat} {v : Value} {xs : List Value} (h : w.ownsRow base e sz v n xs) (hb : base' ≤ base) : w.ownsRow base' e sz v n xs :=
  ⟨h.1, by
    rcases h.2 with h | ⟨g, cap, cur, e, hge, r⟩
    · exact .inl h
    · exact .inr ⟨g, cap, cur, e, by omega, r⟩⟩
/-- The words and the states to which they lead, in memory of the call's own. -/
structure GL (w : World) (base : Nat) (vw : Value) (hs : List Hd) (ve : Value) (es : List Int) : Prop where
  row : w.ownsRow base 27 1 vw hs.length (hs.map Hd.enc)
  own : ∀ h ∈ hs, Own w base h.enc h.z
  ends : Own w base ve es
  ne : ∀ h ∈ hs, h.enc.ownBlock = none ∨ h.enc.ownBlock ≠ ve.ownBlock
theorem GL.below {w w' : World} {base : Nat} {vw ve : Value} {hs : List Hd} {es : List Int} (h : GL w base vw hs ve es) (hb : Below w.heap.size w w') : GL w' base vw hs ve es :=
  ⟨own_below h.row hb, fun x hx => own_below (h.own x hx) hb, own_below h.ends hb, h.ne⟩
theorem GL.drewN {w : World} {base : Nat} {vw ve : Value} {hs : List Hd} {es : List Int} (h : GL w base vw hs ve es) (q : Nat) : GL (w.drewN q) base vw hs ve es := ⟨h.row, h.own, h.ends, h.ne⟩
theorem GL.base {w : World} {base B : Nat} {vw ve : Value} {hs : List Hd} {es : List Int} (h : GL w base vw hs ve es) (hB : B ≤ base) : GL w B vw hs ve es :=
  ⟨own_more h.row hB, fun x hx => own_more (h.own x hx) hB, own_more h.ends hB, h.ne⟩
theorem GL.drew {w : World} {base : Nat} {vw ve : Value} {hs : List Hd} {es : List Int} (h : GL w base vw hs ve es) : GL w.drew base vw hs ve es := ⟨h.row, h.own, h.ends, h.ne⟩
/-- A word in new memory is appended. -/
theorem GL.word {w w0 w1 : World} {base n : Nat} {vw vw' ve : Value} {hs : List Hd} {es : List Int} {x : Hd} (h : GL w base vw hs ve es) (hb : Below w.heap.size w w0) (hx : Own w0 w.heap.size x.enc x.z) (hbs : base ≤ w.heap.size)
    (hr : w1.ownsRow base 27 1 vw' n (hs.map Hd.enc ++ [x.enc])) (hn : n = hs.length + 1) (hg : w0.grownBy w1 vw.ownBlock) : GL w1 base vw' (hs ++ [x]) ve es := by
  subst hn
  have h0 := h.below hb
  have hxb : Own w0 base x.enc x.z := ⟨hx.1, by
    rcases hx.2 with h | ⟨g, cap, cur, e, hge, r⟩
    · exact .inl h
    · exact .inr ⟨g, cap, cur, e, by omega, r⟩⟩
  refine ⟨by simpa using hr, fun y hy => ?_, own_row h0.ends hg (owns_ne h0.ends h0.row (by decide)), fun y hy => ?_⟩
  · rcases List.mem_append.1 hy with hy | hy
    · exact own_row (h0.own y hy) hg (owns_ne (h0.own y hy) h0.row (by decide))
    · rw [List.mem_singleton] at hy; subst hy
      exact own_row hxb hg (owns_ne hxb h0.row (by decide))
  · rcases List.mem_append.1 hy with hy | hy
    · exact h.ne y hy
    · rw [List.mem_singleton] at hy; subst hy
      by_cases he : y.enc.ownBlock = none
      · exact .inl he
      · refine .inr fun e => ?_
        obtain ⟨j, hj⟩ := Option.ne_none_iff_exists'.1 he
        have h1 := (hx.lt j hj).1
        have h2 := (h.ends.lt j (by rw [← e, hj])).2
        omega
/-- A state is appended to the ends. -/
theorem GL.end_ {w w1 : World} {base : Nat} {vw ve ve' : Value} {hs : List Hd} {es : List Int} {t : Int} (h : GL w base vw hs ve es) (ho : Own w1 base ve' (es ++ [t])) (hg : w.grownBy w1 ve.ownBlock) (hs' : ∀ j, ve'.ownBlock = some j → ve.ownBlock = some j ∨ w.heap.size ≤ j) : GL w1 base vw hs ve' (es ++ [t]) := by
  refine ⟨own_row h.row hg (owns_ne h.row h.ends (by decide)), fun y hy => own_row (h.own y hy) hg (h.ne y hy), ho, fun y hy => ?_⟩
  by_cases he : y.enc.ownBlock = none
  · exact .inl he
  · refine .inr fun e => ?_
    obtain ⟨j, hj⟩ := Option.ne_none_iff_exists'.1 he
    have h1 := ((h.own y hy).lt j hj).2
    rcases hs' j (by rw [← e, hj]) with h2 | h2
    · rcases h.ne y hy with h3 | h3
      · exact he h3
      · exact h3 (by rw [hj, h2])
    · omega
theorem GL.len {w : World} {base : Nat} {vw ve : Value} {hs : List Hd} {es : List Int} {N : Nat} (h : GL w base vw hs ve es) (hN : hs.length = N) (h0 : 0 < N) : ∃ g cap, vw = .slice (some ⟨g, 0, none⟩) N cap ∧ N ≤ cap ∧ cap ≤ 9223372036854775807 ∧ ∀ j x, hs[j]? = some x → w.cell? ⟨g, j, none⟩ = some x.enc := by
  subst hN
  have hr := h.row
  rcases hr.2 with ⟨rfl, h1⟩ | ⟨g, cap, cur, rfl, hg, hh, hn, hcap, hsz, htake⟩
  · omega
  · refine ⟨g, cap, rfl, hn, by unfold maxLen at hcap; omega, fun j x hj => ?_⟩
    have hl := (List.getElem?_eq_some_iff.1 hj).1
    rw [World.ownsRow.cellAt (cap := cap) hr j (by omega), List.getElem?_map, hj]; rfl
theorem GL.word_rd {w : World} {base : Nat} {vw ve : Value} {hs : List Hd} {es : List Int} (h : GL w base vw hs ve es) {j : Nat} {x : Hd} (hj : hs[j]? = some x) : RdI w w.heap.size x.A x.z ∧ x.z.length ≤ x.c ∧ x.c ≤ 9223372036854775807 := by
  have ho := h.own x (List.mem_of_getElem? hj)
  obtain ⟨A, c, e, hrd, h1, h2⟩ := own_rdc ho
  unfold Hd.enc at e
  injection e with e1 e2 e3
  subst e1; subst e3
  exact ⟨hrd, h1, h2⟩

theorem two_made (w : World) {Ax : Option Addr} {lx cx : Nat} {zx : List Int} {xe : Int} (hr : RdI w w.heap.size Ax zx) (hl : zx.length = lx) :
    TwoS ((w.alloc (.cells #[.int .i64 xe] 3)).alloc (.cells #[.slice Ax lx cx, .slice (some ⟨w.heap.size, 0, none⟩) 1 1] 27)) (w.heap.size + 1) 0 Ax lx cx (some ⟨w.heap.size, 0, none⟩) 1 1 zx [xe] := by
  have hR := Row.new (w.alloc (.cells #[.int .i64 xe] 3)) [.slice Ax lx cx, .slice (some ⟨w.heap.size, 0, none⟩) 1 1] 27
  have hb := ((Below.refl w.heap.size w).alloc (Nat.le_refl _) (.cells #[.int .i64 xe] 3)).alloc (by simp) (.cells #[.slice Ax lx cx, .slice (some ⟨w.heap.size, 0, none⟩) 1 1] 27)
  have hI := (Row.new w [.int .i64 xe] 3).alloc (.cells #[.slice Ax lx cx, .slice (some ⟨w.heap.size, 0, none⟩) 1 1] 27)
  simp only [World.size_alloc] at hR
  exact ⟨hR.cell 0 rfl, hR.cell 1 rfl, (hr.below hb (Nat.le_refl _)).more (by simp; omega), fun _ => ⟨w.heap.size, 0, rfl, (by simp; try omega), fun j hj => by
    obtain rfl : j = 0 := by simp at hj; omega
    exact hI.cell 0 rfl⟩, hl, rfl, by simp⟩
/-- The words that go on from one. -/
def extW (a : Au) (p : List Int × Int) : List (List Int × Int) := (succ a.ed p.2).map fun x => (p.1 ++ [x.e], x.t)
/-- The words as they are found, from the i-th on; none if there are more than 1024. -/
def genF (a : Au) (most : Int) : Nat → Nat → List (List Int × Int) → Option (List (List Int × Int))
  | 0, _, _ => none
  | f + 1, i, L =>
    if i < L.length ∧ ((L.getD i ([], 0)).1.length : Int) < most then
      if 1024 < (L ++ extW a (L.getD i ([], 0))).length then none else genF a most f (i + 1) (L ++ extW a (L.getD i ([], 0)))
    else some L
def genO (a : Au) (most : Int) : Option (List (List Int × Int)) := if a.st = 0 then some [] else genF a most 1026 0 [([], 0)]
theorem genF_stop {a : Au} {most : Int} {f i : Nat} {L : List (List Int × Int)} {R : Option (List (List Int × Int))} (hR : genF a most f i L = R) (hf : 0 < f) (h : ¬ (i < L.length ∧ ((L.getD i ([], 0)).1.length : Int) < most)) : R = some L := by
  obtain ⟨g, rfl⟩ : ∃ g, f = g + 1 := ⟨f - 1, by omega⟩
  rw [genF, if_neg h] at hR; exact hR.symm
theorem genF_limit {a : Au} {most : Int} {f i : Nat} {L : List (List Int × Int)} {R : Option (List (List Int × Int))} (hR : genF a most f i L = R) (hf : 0 < f) (h : i < L.length ∧ ((L.getD i ([], 0)).1.length : Int) < most) (hl : 1024 < L.length + (extW a (L.getD i ([], 0))).length) : R = none := by
  obtain ⟨g, rfl⟩ : ∃ g, f = g + 1 := ⟨f - 1, by omega⟩
  rw [genF, if_pos h, if_pos (by rw [List.length_append]; exact hl)] at hR; exact hR.symm
theorem genF_go {a : Au} {most : Int} {f i : Nat} {L : List (List Int × Int)} {R : Option (List (List Int × Int))} (hR : genF a most f i L = R) (hf : 0 < f) (h : i < L.length ∧ ((L.getD i ([], 0)).1.length : Int) < most) (hl : L.length + (extW a (L.getD i ([], 0))).length ≤ 1024) : genF a most (f - 1) (i + 1) (L ++ extW a (L.getD i ([], 0))) = R := by
  obtain ⟨g, rfl⟩ : ∃ g, f = g + 1 := ⟨f - 1, by omega⟩
  rw [genF, if_pos h, if_neg (by rw [List.length_append]; omega)] at hR; exact hR
theorem extW_range {a : Au} (h : RightW a) (p : List Int × Int) : ∀ q ∈ extW a p, 0 ≤ q.2 ∧ q.2 < a.st := fun q hq => by
  obtain ⟨x, hx, rfl⟩ := List.mem_map.1 hq
  exact (h.edr x (mem_succ.1 hx).1).2.1
end Go.Proofs.YtaadhpkpekmfoaaGreat

/- Layer 3, the mathematics of relabelling. -/
namespace Go.Proofs.YtaadhpkpekmfoaaGreat
open Go.RowKit Go.Sort

/-- An edge with its event replaced. -/
def relE (al tl : List Int) (x : Ed) : Ed := ⟨x.f, tl.getD (al.idxOf x.e) 0, x.t⟩
/-- Edges in increasing order. -/
def srtE (l : List Ed) : List Ed := l.mergeSort fun x y => !decide (ltE y x)
theorem srtE_perm (l : List Ed) : (srtE l).Perm l := List.mergeSort_perm l _
theorem srtE_sorted (l : List Ed) : (srtE l).Pairwise fun x y => ¬ ltE y x := by
  have := List.pairwise_mergeSort (le := fun x y : Ed => !decide (ltE y x)) (fun x y z h1 h2 => by simp at *; unfold ltE at *; omega) (fun x y => by simp; unfold ltE; omega) l
  exact this.imp fun h => by simpa using h
/-- No two edges have one state and one event. -/
def KeyD (l : List Ed) : Prop := l.Pairwise fun x y => ¬ (x.f = y.f ∧ x.e = y.e)
theorem keyD_perm {l r : List Ed} (h : KeyD l) (hp : r.Perm l) : KeyD r :=
  (hp.pairwise_iff (R := fun x y : Ed => ¬ (x.f = y.f ∧ x.e = y.e)) (fun {x y} h h' => h ⟨h'.1.symm, h'.2.symm⟩)).2 h
theorem strict_of {l : List Ed} (h : l.Pairwise fun x y => ¬ ltE y x) (hk : KeyD l) : l.Pairwise ltE := by
  refine (h.and hk).imp fun h => ?_
  obtain ⟨h1, h2⟩ := h
  unfold ltE at *; omega
theorem srtE_eq {l r : List Ed} (hk : KeyD l) (hp : r.Perm l) (hs : r.Pairwise fun x y => ¬ ltE y x) : r = srtE l :=
  sorted_ext (r := ltE) ltE_irrefl (fun x y z => ltE_trans) _ _ (strict_of hs (keyD_perm hk hp)) (strict_of (srtE_sorted l) (keyD_perm hk (srtE_perm l))) fun x => by rw [hp.mem_iff, (srtE_perm l).mem_iff]
/-- The automaton with other events, ahead of its canonical form. -/
def relA (a : Au) (tl : List Int) : Au := ⟨srtI tl, a.st, a.mr, srtE (a.ed.map (relE a.al tl))⟩
theorem neGo_ok : ∀ (zs seen : List Int), neGo seen zs = 0 → (∀ x ∈ zs, 0 ≤ x ∧ x < 32) ∧ zs.Nodup ∧ ∀ x ∈ zs, x ∉ seen
  | [], seen, _ => ⟨by simp, List.nodup_nil, by simp⟩
  | x :: r, seen, h => by
    rw [neGo] at h
    by_cases h1 : x < 0 ∨ 32 ≤ x
    · rw [if_pos h1] at h; omega
    · rw [if_neg h1] at h
      by_cases h2 : x ∈ seen
      · rw [if_pos h2] at h; omega
      · rw [if_neg h2] at h
        obtain ⟨a, b, c⟩ := neGo_ok r (seen ++ [x]) h
        refine ⟨fun y hy => ?_, ?_, fun y hy => ?_⟩
        · rcases List.mem_cons.1 hy with rfl | hy
          · omega
          · exact a y hy
        · rw [List.nodup_cons]
          exact ⟨fun hm => c x hm (by simp), b⟩
        · rcases List.mem_cons.1 hy with rfl | hy
          · exact h2
          · exact fun hm => c y hy (by simp [hm])
theorem neE_ok {zs : List Int} (h : neE zs = 0) : (∀ x ∈ zs, 0 ≤ x ∧ x < 32) ∧ zs.Nodup := ⟨(neGo_ok zs [] h).1, (neGo_ok zs [] h).2.1⟩
theorem getD_inj {zs : List Int} (hd : zs.Nodup) {i j : Nat} (hi : i < zs.length) (hj : j < zs.length) (h : zs.getD i 0 = zs.getD j 0) : i = j := by
  rw [← idxOf_getD hd hi, h, idxOf_getD hd hj]
theorem rel_keys {a : Au} (h : RightW a) {tl : List Int} (hl : tl.length = a.al.length) (hd : tl.Nodup) : KeyD (a.ed.map (relE a.al tl)) := by
  unfold KeyD
  rw [List.pairwise_map]
  refine h.edo.imp_of_mem fun {x y} hx hy hlt => ?_
  rintro ⟨h1, h2⟩
  simp only [relE] at h1 h2
  have mx := (h.edr x hx).2.2
  have my := (h.edr y hy).2.2
  have e1 := getD_inj hd (by rw [hl]; exact List.idxOf_lt_length_iff.2 mx) (by rw [hl]; exact List.idxOf_lt_length_iff.2 my) h2
  have e2 := idx_inj mx my e1
  unfold ltE at hlt; omega
theorem rel_right {a : Au} (h : RightW a) {tl : List Int} (hl : tl.length = a.al.length) (hr : ∀ x ∈ tl, 0 ≤ x ∧ x < 32) (hd : tl.Nodup) : RightW (relA a tl) where
  alr x hx := hr x ((srtI_perm tl).mem_iff.1 hx)
  alo := srtI_lt hd
  st0 := h.st0
  mrr := h.mrr
  mro := h.mro
  edr x hx := by
    obtain ⟨y, hy, rfl⟩ := List.mem_map.1 ((srtE_perm _).mem_iff.1 hx)
    have := h.edr y hy
    exact ⟨this.1, this.2.1, (srtI_perm tl).mem_iff.2 (getD_mem (by rw [hl]; exact List.idxOf_lt_length_iff.2 this.2.2))⟩
  edo := strict_of (srtE_sorted _) (keyD_perm (rel_keys h hl hd) (srtE_perm _))
/-- What Relabel hands back. -/
def relR (a : Au) (tl : List Int) : Au × Int :=
  if chkE a ≠ 0 then (zeroA, chkE a) else if tl.length ≠ a.al.length then (zeroA, 4) else if neE tl ≠ 0 then (zeroA, neE tl) else (canA (relA a tl), 0)
theorem at_idx {zs : List Int} (hup : Up zs) {x : Int} {i : Nat} (h : At zs x i) (hm : x ∈ zs) : i = zs.idxOf x ∧ i < zs.length := by
  have hlt := List.idxOf_lt_length_iff.2 hm
  have hx := getD_idxOf hm
  obtain ⟨h1, h2, h3⟩ := h
  rcases Nat.lt_trichotomy i (zs.idxOf x) with hi | hi | hi
  · have := hup i _ hi hlt
    have := h3 (by omega)
    omega
  · exact ⟨hi, by omega⟩
  · have := h2 _ hi; omega

theorem grown_set {w : World} {blk i : Nat} (u : Value) : w.grownBy (w.setCell ⟨blk, i, none⟩ u) (some blk) :=
  ⟨rfl, rfl, rfl, by simp [World.setCell], fun k _ hne => Below.heap_setCell _ _ _ _ (fun e => hne (by rw [e]))⟩
/-- Relabel's new automaton while its edges are made. -/
structure RB (w1 : World) (bb : Nat) (As : Option Addr) (n cs : Nat) (s : Int) (M : Option Addr) (m d : Nat) (al : List Int) (wr : World) (es : List Ed) (ve : Value) : Prop where
  bel : Below w1.heap.size w1 wr
  row : Row wr bb 33 [.slice As n cs, .int .i64 s, .slice M m d, ve]
  so : Own wr w1.heap.size (.slice As n cs) al
  eo : OwnE wr w1.heap.size ve es
  h1 : w1.heap.size ≤ bb
section
variable {w1 : World} {bb : Nat} {As : Option Addr} {n cs : Nat} {s : Int} {M : Option Addr} {m d : Nat} {al : List Int} {wr w2 w3 : World} {es : List Ed} {ve ve' : Value}
theorem RB.alloc (h : RB w1 bb As n cs s M m d al wr es ve) (o : Obj) : RB w1 bb As n cs s M m d al (wr.alloc o) es ve :=
  ⟨h.bel.alloc h.bel.size o, h.row.alloc o, h.so.alloc o, h.eo.alloc o, h.h1⟩
theorem RB.drew (h : RB w1 bb As n cs s M m d al wr es ve) : RB w1 bb As n cs s M m d al wr.drew es ve := ⟨h.bel.drew, h.row, h.so, h.eo, h.h1⟩
theorem RB.below (h : RB w1 bb As n cs s M m d al wr es ve) (hb : Below wr.heap.size wr w2) : RB w1 bb As n cs s M m d al w2 es ve :=
  ⟨h.bel.trans (hb.mono h.bel.size), h.row.below hb h.row.lt, own_below h.so hb, own_below h.eo hb, h.h1⟩
theorem RB.grown (h : RB w1 bb As n cs s M m d al wr es ve) (hg : wr.grownBy w2 ve.ownBlock) : Below w1.heap.size w1 w2 ∧ Row w2 bb 33 [.slice As n cs, .int .i64 s, .slice M m d, ve] ∧ Own w2 w1.heap.size (.slice As n cs) al :=
  ⟨h.bel.grown hg h.bel.size (fun k hk => (h.eo.lt k hk).1), h.row.grown hg (row_ne_own h.row h.eo (by decide)), own_row h.so hg (owns_ne h.so h.eo (by decide))⟩
theorem RB.edge {x : Ed} (h : RB w1 bb As n cs s M m d al wr es ve) (hg : wr.grownBy w2 ve.ownBlock) (ho : OwnE w2 w1.heap.size ve' (es ++ [x])) :
    RB w1 bb As n cs s M m d al (w2.setCell ⟨bb, 3, none⟩ ve') (es ++ [x]) ve' := by
  obtain ⟨b1, b2, b3⟩ := h.grown hg
  exact ⟨b1.setCell (p := ⟨bb, 3, none⟩) h.h1 _, b2.set 3 ve', own_row b3 (grown_set ve') (.inr (row_ne_own b2 b3 (by decide))), own_row ho (grown_set ve') (.inr (row_ne_own b2 ho (by decide))), h.h1⟩
theorem RB.start1 (hb : Below w1.heap.size w1 w3) (ho : Own w3 w1.heap.size (.slice As n cs) al) : RB w1 w3.heap.size As n cs s M m d al (w3.alloc (.cells #[.slice As n cs, .int .i64 s, .slice M m d, .slice none 0 0] 33)) [] (.slice none 0 0) :=
  ⟨hb.alloc hb.size _, Row.new w3 [.slice As n cs, .int .i64 s, .slice M m d, .slice none 0 0] 33, ho.alloc _, World.ownsRow_nil _ _ _ _, hb.size⟩
theorem own_set4 {X base N : Nat} {v v0 v1 v2 v3 : Value} {xs : List Value} (h : w3.ownsRow base 3 1 v N xs) (hr : v.ownBlock ≠ some X) :
    ((((w3.setCell ⟨X, 0, none⟩ v0).setCell ⟨X, 1, none⟩ v1).setCell ⟨X, 2, none⟩ v2).setCell ⟨X, 3, none⟩ v3).ownsRow base 3 1 v N xs :=
  own_row (own_row (own_row (own_row h (grown_set v0) (.inr hr)) (grown_set v1) (.inr hr)) (grown_set v2) (.inr hr)) (grown_set v3) (.inr hr)
theorem RB.start2 (hb : Below w1.heap.size w1 w3) (ho : Own w3 w1.heap.size (.slice As n cs) al) {X : Nat} (hr : Row w3 X 33 [.slice none 0 0, .int .i64 0, .slice none 0 0, .slice none 0 0]) (hX : w1.heap.size ≤ X) :
    RB w1 X As n cs s M m d al ((((w3.setCell ⟨X, 0, none⟩ (.slice As n cs)).setCell ⟨X, 1, none⟩ (.int .i64 s)).setCell ⟨X, 2, none⟩ (.slice M m d)).setCell ⟨X, 3, none⟩ (.slice none 0 0)) [] (.slice none 0 0) :=
  ⟨below_set4 hb hX _ _ _ _, (((hr.set 0 (.slice As n cs)).set 1 (.int .i64 s)).set 2 (.slice M m d)).set 3 (.slice none 0 0), own_set4 ho (row_ne_own hr ho (by decide)), World.ownsRow_nil _ _ _ _, hX⟩
end
end Go.Proofs.YtaadhpkpekmfoaaGreat

/- Layer 3: slices.Equal of edges, Equal of the program, Same of the reference, few. -/
namespace Go.Proofs.YtaadhpkpekmfoaaGreat
open Go.RowKit Go.Sort

theorem edAt {l : List Ed} {k : Nat} (h : k < l.length) : ∃ x, l[k]? = some x := ⟨_, List.getElem?_eq_getElem h⟩
theorem eqE_step {xs ys : List Ed} {k : Nat} {x : Ed} (hx : xs[k]? = some x) (hy : ys[k]? = some x) (h : xs.take k = ys.take k) : xs.take (k + 1) = ys.take (k + 1) := by
  rw [take_succ_ed hx, take_succ_ed hy, h]
theorem neE_of {xs ys : List Ed} {k : Nat} {x y : Ed} (hx : xs[k]? = some x) (hy : ys[k]? = some y) (h : ¬ x = y) : decide (xs = ys) = false := by
  simp only [decide_eq_false_iff_not]; rintro rfl; rw [hx] at hy; injection hy with hy; exact h hy
theorem eqE_all {xs ys : List Ed} (hl : ys.length = xs.length) (h : xs.take xs.length = ys.take xs.length) : decide (xs = ys) = true := by
  rw [List.take_of_length_le (Nat.le_refl _), List.take_of_length_le (by omega)] at h
  simpa using h
theorem ed_ne {x y : Ed} (h : ¬ x = y) : ¬ (x.f = y.f ∧ x.e = y.e ∧ x.t = y.t) := fun ⟨h1, h2, h3⟩ => h (by cases x; cases y; simp_all)
set_option maxHeartbeats 800000 in
theorem equalEd_any (A B : Option Addr) (n m c d Bx By : Nat) (xs ys : List Ed) (w : World) (hx : RdG w Bx A xs) (hy : RdG w By B ys) (hn : xs.length = n) (hm : ys.length = m) (hb : n ≤ 1000000) (hb' : m ≤ 1000000) :
    Calls Tryz.prog 95 #[.slice A n c, .slice B m d] w fun e w' => e = .returned (.bool (decide (xs = ys))) ∧ ∃ q, w' = w.drewN q := by
  by_cases hnm : n = m
  · subst hnm
    have HN := Lib.hid hn
    have HM := Lib.hid hm
    clear hn hm
    go_enter Tryz.func95, Tryz.ntmps95
    go_wp2
    go_loopw [13] (fun i wr => ∃ k : Nat, k ≤ n ∧ i = .int .i64 k ∧ Hid (xs.take k = ys.take k) ∧ ∃ q, wr = w.drewN q) (fun i _ => n - (intOf i).toNat)
    case atStart => exact ⟨0, Nat.zero_le _, rfl, rfl, 0, rfl⟩
    case round =>
      obtain ⟨k, hk, rfl, ht, q, rfl⟩ := hrel
      by_cases hlt : k < n
      · obtain ⟨b1, o1, rfl, _, hc1⟩ := hx (by rw [HN.out]; omega)
        obtain ⟨b2, o2, rfl, _, hc2⟩ := hy (by rw [HM.out]; omega)
        obtain ⟨x, hx1⟩ := edAt (l := xs) (k := k) (by rw [HN.out]; exact hlt)
        obtain ⟨y, hy1⟩ := edAt (l := ys) (k := k) (by rw [HM.out]; exact hlt)
        obtain ⟨u0, u1, u2⟩ := hc1 k x hx1
        obtain ⟨v0, v1, v2⟩ := hc2 k y hy1
        clear hc1 hc2 hx hy
        by_cases hxy : x = y
        · subst hxy
          have hs := Lib.hid (eqE_step hx1 hy1 ht.out)
          obtain ⟨xf, xe, xt⟩ := x
          clear hx1 hy1 ht
          go_wp2
          go_quiet (fail)
          go_wp2
          go_roundw
          case rel => exact ⟨k + 1, by omega, by go_num, hs, by first | exact ⟨_, rfl⟩ | exact dr_add _ _ _⟩
          case measure => simp [intOf]; omega
        · have hf := Lib.hid (neE_of hx1 hy1 hxy)
          have hne := ed_ne hxy
          obtain ⟨xf, xe, xt⟩ := x
          obtain ⟨yf, ye, yt⟩ := y
          simp only at hne u0 u1 u2 v0 v1 v2
          clear hx1 hy1 ht hxy
          by_cases h1 : xf = yf
          · by_cases h2 : xe = ye
            · have h3 : ¬ xt = yt := fun h3 => hne ⟨h1, h2, h3⟩
              subst h1; subst h2
              clear hne
              go_wp2
              go_quiet (fail)
              go_wp2
              go_ret
              exact ⟨ret_bool hf.out.symm, by first | exact ⟨_, rfl⟩ | exact dr_add _ _ _⟩
            · subst h1
              clear hne
              go_wp2
              go_quiet (fail)
              go_wp2
              go_ret
              exact ⟨ret_bool hf.out.symm, by first | exact ⟨_, rfl⟩ | exact dr_add _ _ _⟩
          · clear hne
            go_wp2
            go_quiet (fail)
            go_wp2
            go_ret
            exact ⟨ret_bool hf.out.symm, by first | exact ⟨_, rfl⟩ | exact dr_add _ _ _⟩
      · have hkn : k = n := by omega
        have hf := Lib.hid (eqE_all (xs := xs) (ys := ys) (by rw [HN.out, HM.out]) (by rw [HN.out, ← hkn]; exact ht.out))
        clear hkn ht
        go_wp2
        go_ret
        exact ⟨ret_bool hf.out.symm, _, rfl⟩
  · have hf : decide (xs = ys) = false := by simp only [decide_eq_false_iff_not]; rintro rfl; omega
    have hne : ((n : Int) != (m : Int)) = true := by simp; omega
    clear hn hm
    go_enter Tryz.func95, Tryz.ntmps95
    go_wp2
    go_ret
    exact ⟨ret_bool hf.symm, 0, rfl⟩

theorem au_eq (a b : Au) : decide (a = b) = (decide (a.al = b.al) && (decide (a.st = b.st) && (decide (a.mr = b.mr) && decide (a.ed = b.ed)))) := by
  cases a; cases b; simp [Bool.decide_and]
/-- The calls that compare lists, told by Below. -/
theorem equalInt_b (A B : Option Addr) (n m c d Bx : Nat) (xs ys : List Int) (w : World) (hx : RdI w Bx A xs) (hy : RdI w Bx B ys) (hn : xs.length = n) (hm : ys.length = m) (hb : n ≤ 100000) (hb' : m ≤ 100000) :
    Calls Tryz.prog 80 #[.slice A n c, .slice B m d] w fun e w' => e = .returned (.bool (decide (xs = ys))) ∧ Below w.heap.size w w' :=
  (equalInt_any A B n m c d Bx Bx xs ys w hx hy hn hm (by omega) (by omega)).mono fun e w' ⟨h, q, e2⟩ => ⟨h, by rw [e2]; exact below_drewN (Below.refl _ _) q⟩
theorem sameInts_b (A B : Option Addr) (n m c d Bx : Nat) (xs ys : List Int) (w : World) (hx : RdI w Bx A xs) (hy : RdI w Bx B ys) (hn : xs.length = n) (hm : ys.length = m) (hb : n ≤ 100000) (hb' : m ≤ 100000) :
    Calls Tryz.prog 21 #[.slice A n c, .slice B m d] w fun e w' => e = .returned (.bool (decide (xs = ys))) ∧ Below w.heap.size w w' :=
  (sameInts_any A B n m c d Bx Bx xs ys w hx hy hn hm (by omega) (by omega)).mono fun e w' ⟨h, q, e2⟩ => ⟨h, by rw [e2]; exact below_drewN (Below.refl _ _) q⟩
theorem equalEd_b (A B : Option Addr) (n m c d Bx : Nat) (xs ys : List Ed) (w : World) (hx : RdG w Bx A xs) (hy : RdG w Bx B ys) (hn : xs.length = n) (hm : ys.length = m) (hb : n ≤ 1000000) (hb' : m ≤ 1000000) :
    Calls Tryz.prog 95 #[.slice A n c, .slice B m d] w fun e w' => e = .returned (.bool (decide (xs = ys))) ∧ Below w.heap.size w w' :=
  (equalEd_any A B n m c d Bx Bx xs ys w hx hy hn hm hb hb').mono fun e w' ⟨h, q, e2⟩ => ⟨h, by rw [e2]; exact below_drewN (Below.refl _ _) q⟩

set_option maxHeartbeats 1600000 in
theorem mEqual_any (A : Option Addr) (n c : Nat) (s : Int) (M : Option Addr) (m d : Nat) (E : Option Addr) (k g : Nat) (A2 : Option Addr) (n2 c2 : Nat) (s2 : Int) (M2 : Option Addr) (m2 d2 : Nat) (E2 : Option Addr) (k2 g2 : Nat) (a b : Au) (B : Nat) (w : World) (h : AuR w B A n c s M m d E k g a) (h2 : AuR w B A2 n2 c2 s2 M2 m2 d2 E2 k2 g2 b) (hB : B ≤ w.heap.size) :
    Calls Tryz.prog 51 #[.agg #[.slice A n c, .int .i64 s, .slice M m d, .slice E k g], .agg #[.slice A2 n2 c2, .int .i64 s2, .slice M2 m2 d2, .slice E2 k2 g2]] w fun e w' => e = .returned (.bool (decide (a = b))) ∧ Below w.heap.size w w' := by
  have hb1 := ((Below.refl w.heap.size w).alloc (Nat.le_refl _) (.cells #[.slice A n c, .int .i64 s, .slice M m d, .slice E k g] 33)).alloc (by simp) (.cells #[.slice A2 n2 c2, .int .i64 s2, .slice M2 m2 d2, .slice E2 k2 g2] 33)
  have HB1 := Lib.hid hb1
  have HX := Lib.hid (box_row A n c s M m d E k g ((Row.new w [.slice A n c, .int .i64 s, .slice M m d, .slice E k g] 33).alloc (.cells #[.slice A2 n2 c2, .int .i64 s2, .slice M2 m2 d2, .slice E2 k2 g2] 33)))
  have HX2 := Lib.hid (show BoxA ((w.alloc (.cells #[.slice A n c, .int .i64 s, .slice M m d, .slice E k g] 33)).alloc (.cells #[.slice A2 n2 c2, .int .i64 s2, .slice M2 m2 d2, .slice E2 k2 g2] 33)) (w.heap.size + 1) A2 n2 c2 s2 M2 m2 d2 E2 k2 g2 by
    have := box_row A2 n2 c2 s2 M2 m2 d2 E2 k2 g2 (Row.new (w.alloc (.cells #[.slice A n c, .int .i64 s, .slice M m d, .slice E k g] 33)) [.slice A2 n2 c2, .int .i64 s2, .slice M2 m2 d2, .slice E2 k2 g2] 33)
    simpa using this)
  have HC1 := Lib.hid (equalInt_b A A2 n n2 c c2 B a.al b.al _ (h.al.below hb1 hB) (h2.al.below hb1 hB) h.hn h2.hn h.bn h2.bn)
  have HC2 := Lib.hid (fun W (hW : Below w.heap.size w W) => equalInt_b M M2 m m2 d d2 B a.mr b.mr W (h.mr.below hW hB) (h2.mr.below hW hB) h.hm h2.hm h.bm h2.bm)
  have HC3 := Lib.hid (fun W (hW : Below w.heap.size w W) => equalEd_b E E2 k k2 g g2 B a.ed b.ed W (h.ed.below hW hB) (h2.ed.below hW hB) h.hk h2.hk h.bk h2.bk)
  have HST := Lib.hid h.st
  have HST2 := Lib.hid h2.st
  obtain ⟨r1, hr1⟩ : ∃ r, r = decide (a.al = b.al) := ⟨_, rfl⟩
  obtain ⟨r2, hr2⟩ : ∃ r, r = decide (a.mr = b.mr) := ⟨_, rfl⟩
  obtain ⟨r3, hr3⟩ : ∃ r, r = decide (a.ed = b.ed) := ⟨_, rfl⟩
  rw [← hr1] at HC1
  rw [← hr2] at HC2
  rw [← hr3] at HC3
  obtain ⟨v, hv⟩ : ∃ v, v = decide (a = b) := ⟨_, rfl⟩
  have HV := Lib.hid (show v = (r1 && (decide (s = s2) && (r2 && r3))) by rw [hv, au_eq, ← hr1, ← hr2, ← hr3, HST.out, HST2.out])
  rw [← hv]
  clear h h2 hb1 hr1 hr2 hr3 hv
  cases r1
  · have hf := Lib.hid (show v = false by rw [HV.out]; rfl)
    go_enter Tryz.func51, Tryz.ntmps51
    go_wp2_with fail
    refine HC1.out.mono ?_
    rintro e w1 ⟨rfl, hbw⟩
    have hB := HB1.out.trans (hbw.mono (by simp; omega))
    go_wp2_with fail
    go_ret
    exact ⟨ret_bool hf.out.symm, hB⟩
  · by_cases hs : s = s2
    · have hd : decide (s = s2) = true := by simp [hs]
      subst hs
      cases r2
      · have hf := Lib.hid (show v = false by rw [HV.out, hd]; rfl)
        go_enter Tryz.func51, Tryz.ntmps51
        go_wp2_with fail
        refine HC1.out.mono ?_
        rintro e w1 ⟨rfl, hbw⟩
        have hB := Lib.hid (HB1.out.trans (hbw.mono (by simp; omega)))
        obtain ⟨p0, p1, p2, p3⟩ := HX.out.below hbw (by simp; omega)
        obtain ⟨q0, q1, q2, q3⟩ := HX2.out.below hbw (by simp)
        clear hbw
        go_wp2_with fail
        refine (HC2.out w1 hB.out).mono ?_
        rintro e w2 ⟨rfl, hbw⟩
        have hB2 := Lib.hid (hB.out.trans (hbw.mono hB.out.size))
        go_wp2_with fail
        go_ret
        exact ⟨ret_bool hf.out.symm, hB2.out⟩
      · have hf := Lib.hid (show v = r3 by rw [HV.out, hd]; rfl)
        go_enter Tryz.func51, Tryz.ntmps51
        go_wp2_with fail
        refine HC1.out.mono ?_
        rintro e w1 ⟨rfl, hbw⟩
        have hB := Lib.hid (HB1.out.trans (hbw.mono (by simp; omega)))
        have hX1 := Lib.hid (HX.out.below hbw (by simp; omega))
        have hX2 := Lib.hid (HX2.out.below hbw (by simp))
        have hz := hbw.size
        simp only [World.size_alloc] at hz
        obtain ⟨p0, p1, p2, p3⟩ := hX1.out
        obtain ⟨q0, q1, q2, q3⟩ := hX2.out
        clear hbw
        go_wp2_with fail
        refine (HC2.out w1 hB.out).mono ?_
        rintro e w2 ⟨rfl, hbw⟩
        have hB2 := Lib.hid (hB.out.trans (hbw.mono hB.out.size))
        clear p0 p1 p2 p3 q0 q1 q2 q3
        obtain ⟨p0, p1, p2, p3⟩ := hX1.out.below hbw (by omega)
        obtain ⟨q0, q1, q2, q3⟩ := hX2.out.below hbw (by omega)
        clear hbw
        go_wp2_with fail
        refine (HC3.out w2 hB2.out).mono ?_
        rintro e w3 ⟨rfl, hbw⟩
        have hB3 := Lib.hid (hB2.out.trans (hbw.mono hB2.out.size))
        go_wp2_with fail
        go_ret
        exact ⟨ret_bool hf.out.symm, hB3.out⟩
    · have hd : decide (s = s2) = false := by simp [hs]
      have hf := Lib.hid (show v = false by rw [HV.out, hd]; rfl)
      have hd2 : (s == s2) = false := by simp [hs]
      go_enter Tryz.func51, Tryz.ntmps51
      go_wp2_with fail
      refine HC1.out.mono ?_
      rintro e w1 ⟨rfl, hbw⟩
      have hB := Lib.hid (HB1.out.trans (hbw.mono (by simp; omega)))
      obtain ⟨p0, p1, p2, p3⟩ := HX.out.below hbw (by simp; omega)
      obtain ⟨q0, q1, q2, q3⟩ := HX2.out.below hbw (by simp)
      clear hbw
      go_wp2_with fail
      go_ret
      exact ⟨ret_bool hf.out.symm, hB.out⟩
end Go.Proofs.YtaadhpkpekmfoaaGreat

/- Layer 3: Check of the reference. -/
namespace Go.Proofs.YtaadhpkpekmfoaaGreat
open Go.RowKit Go.Sort

end Go.Proofs.YtaadhpkpekmfoaaGreat

/- Layer 3: Step, index, Empty of the reference. -/
namespace Go.Proofs.YtaadhpkpekmfoaaGreat
open Go.RowKit Go.Sort

/-- The state to which an event leads; -1 if it is not possible. -/
def stepI (a : Au) (q ev : Int) : Int := (stepO a q ev).getD (-1)
theorem edge_first {l : List Ed} {k : Nat} {q ev : Int} {x : Ed} (hx : l[k]? = some x) (h : ∀ y ∈ l.take k, ¬ (y.f = q ∧ y.e = ev)) (h1 : x.f = q) (h2 : x.e = ev) : edgeO l q ev = some x := by
  unfold edgeO
  have hl := (List.getElem?_eq_some_iff.1 hx)
  obtain ⟨hk, e⟩ := hl
  have e2 : l = l.take k ++ x :: l.drop (k + 1) := by
    rw [← e, List.getElem_cons_drop, List.take_append_drop]
  conv => lhs; rw [e2]
  rw [List.find?_append, List.find?_eq_none.2 (fun y hy => by simpa using h y hy)]
  simp [h1, h2]
theorem step_first {a : Au} {k : Nat} {q ev : Int} {x : Ed} (hx : a.ed[k]? = some x) (h : ∀ y ∈ a.ed.take k, ¬ (y.f = q ∧ y.e = ev)) (h1 : x.f = q) (h2 : x.e = ev) : stepI a q ev = x.t := by
  rw [stepI, stepO, edge_first hx h h1 h2]; rfl
theorem step_never {a : Au} {q ev : Int} {n : Nat} (hn : a.ed.length = n) (h : ∀ y ∈ a.ed.take n, ¬ (y.f = q ∧ y.e = ev)) : stepI a q ev = -1 := by
  rw [List.take_of_length_le (by omega)] at h
  rw [stepI, stepO, edgeO_none.2 h]; rfl
theorem not_next {l : List Ed} {k : Nat} {q ev : Int} {x : Ed} (hx : l[k]? = some x) (h : ∀ y ∈ l.take k, ¬ (y.f = q ∧ y.e = ev)) (hn : ¬ (x.f = q ∧ x.e = ev)) : ∀ y ∈ l.take (k + 1), ¬ (y.f = q ∧ y.e = ev) := fun y hy => by
  rw [take_succ_ed hx, List.mem_append] at hy
  rcases hy with hy | hy
  · exact h y hy
  · rw [List.mem_singleton] at hy; subst hy; exact hn

set_option maxHeartbeats 1600000 in
theorem rStep_any (A : Option Addr) (n c : Nat) (s : Int) (M : Option Addr) (m d : Nat) (E : Option Addr) (k g : Nat) (a : Au) (q ev : Int) (B : Nat) (w : World) (h : AuR w B A n c s M m d E k g a) (hB : B ≤ w.heap.size) :
    Calls Tryz.prog 71 #[.agg #[.slice A n c, .int .i64 s, .slice M m d, .slice E k g], .int .i64 q, .int .i64 ev] w fun e w' => e = .returned (.int .i64 (stepI a q ev)) ∧ Below w.heap.size w w' := by
  have HB1 := Lib.hid ((Below.refl w.heap.size w).alloc (Nat.le_refl _) (.cells #[.slice A n c, .int .i64 s, .slice M m d, .slice E k g] 33))
  have HR := Lib.hid h
  have HX := Lib.hid (BoxA.made w A n c s M m d E k g 33)
  have HB0 := Lib.hid hB
  have hk1 := h.bk
  have hk2 := Lib.hid h.hk
  obtain ⟨v, hv⟩ : ∃ v, v = stepI a q ev := ⟨_, rfl⟩
  have HV := Lib.hid hv
  rw [← hv]
  clear h hB hv
  go_enter Tryz.func71, Tryz.ntmps71
  go_wp2_with fail
  go_loopw [7] (fun i wr => ∃ j : Nat, j ≤ k ∧ i = .int .i64 j ∧ Hid (∀ y ∈ a.ed.take j, ¬ (y.f = q ∧ y.e = ev)) ∧ Hid (Below w.heap.size w wr ∧ BoxA wr w.heap.size A n c s M m d E k g ∧ w.heap.size < wr.heap.size)) (fun i _ => k - (intOf i).toNat)
  case atStart => exact ⟨0, Nat.zero_le _, rfl, by simp [Hid], HB1.out, HX.out, by simp⟩
  case round =>
    obtain ⟨j, hj, rfl, ht, hbel⟩ := hrel
    obtain ⟨p0, p1, p2, p3⟩ := hbel.out.2.1
    by_cases hlt : j < k
    · obtain ⟨b1, o1, rfl, hb1, hc1⟩ := HR.out.ed (by rw [hk2.out]; omega)
      obtain ⟨x, hx⟩ := edAt (l := a.ed) (k := j) (by rw [hk2.out]; exact hlt)
      obtain ⟨x0, x1, x2⟩ : EdAt wr b1 (o1 + j * 3) x := (hc1 j x hx).keep fun o => hbel.out.1.cell (p := ⟨b1, o, none⟩) (Nat.lt_of_lt_of_le hb1 HB0.out)
      have HX := Lib.hid hx
      obtain ⟨xf, xe, xt⟩ := x
      simp only at x0 x1 x2
      clear hc1 hx
      by_cases h1 : xf = q
      · have hq : (xf == q) = true := by simp [h1]
        by_cases h2 : xe = ev
        · have hq2 : (xe == ev) = true := by simp [h2]
          have hf := Lib.hid (show xt = v by rw [HV.out, step_first HX.out ht.out h1 h2])
          clear h1 h2 ht
          go_wp2_with fail
          go_ret
          exact ⟨ret_int hf.out, by first | exact hbel.out.1 | exact below_drewN hbel.out.1 _⟩
        · have hq2 : (xe == ev) = false := by simp [h2]
          have hn := Lib.hid (not_next HX.out ht.out (fun h => h2 h.2))
          clear h1 h2 ht
          go_wp2_with fail
          go_roundw
          case rel => exact ⟨j + 1, by omega, by go_num, hn, by first | exact hbel.out | exact ⟨below_drewN hbel.out.1 _, hbel.out.2.1.drewN _, hbel.out.2.2⟩⟩
          case measure => simp [intOf]; omega
      · have hq : (xf == q) = false := by simp [h1]
        have hn := Lib.hid (not_next HX.out ht.out (fun h => h1 h.1))
        clear h1 ht
        go_wp2_with fail
        go_roundw
        case rel => exact ⟨j + 1, by omega, by go_num, hn, by first | exact hbel.out | exact ⟨below_drewN hbel.out.1 _, hbel.out.2.1.drewN _, hbel.out.2.2⟩⟩
        case measure => simp [intOf]; omega
    · obtain rfl : j = k := by omega
      have hf := Lib.hid (show (-1 : Int) = v by rw [HV.out, step_never hk2.out ht.out])
      clear ht
      go_wp2_with fail
      go_ret
      exact ⟨ret_int hf.out, hbel.out.1⟩
end Go.Proofs.YtaadhpkpekmfoaaGreat

/- Layer 3: an automaton that is being built in a box. -/
namespace Go.Proofs.YtaadhpkpekmfoaaGreat
open Go.RowKit Go.Sort

/-- An automaton that is being built in box bc: below block b1 all is as it was; its edges and, if mk says so, its marked states lie in rows of its own. -/
structure Bd (w1 : World) (b1 bc : Nat) (mk ke : Bool) (va : Value) (s : Int) (wr : World) (ms : List Int) (vm : Value) (es : List Ed) (ve : Value) : Prop where
  bel : Below b1 w1 wr
  cb : Row wr bc 33 [va, .int .i64 s, vm, ve]
  mo : mk = true → Own wr b1 vm ms
  eo : ke = true → OwnE wr b1 ve es
  h1 : b1 ≤ bc
section
variable {w1 wr w2 : World} {b1 bc : Nat} {mk ke : Bool} {va vm ve vm' ve' : Value} {s : Int} {ms : List Int} {es : List Ed}
theorem Bd.h2 (h : Bd w1 b1 bc mk ke va s wr ms vm es ve) : bc < wr.heap.size := h.cb.lt
theorem Bd.call (h : Bd w1 b1 bc mk ke va s wr ms vm es ve) (hb : Below wr.heap.size wr w2) : Bd w1 b1 bc mk ke va s w2 ms vm es ve :=
  ⟨h.bel.trans (hb.mono (Nat.le_of_lt (Nat.lt_of_le_of_lt h.h1 h.h2))), h.cb.below hb h.h2, fun e => own_below (h.mo e) hb, fun e => own_below (h.eo e) hb, h.h1⟩
theorem Bd.alloc (h : Bd w1 b1 bc mk ke va s wr ms vm es ve) (o : Obj) : Bd w1 b1 bc mk ke va s (wr.alloc o) ms vm es ve := h.call ((Below.refl _ wr).alloc (Nat.le_refl _) o)
theorem Bd.drewN (h : Bd w1 b1 bc mk ke va s wr ms vm es ve) (q : Nat) : Bd w1 b1 bc mk ke va s (wr.drewN q) ms vm es ve := ⟨below_drewN h.bel q, h.cb, h.mo, h.eo, h.h1⟩
theorem Bd.drew (h : Bd w1 b1 bc mk ke va s wr ms vm es ve) : Bd w1 b1 bc mk ke va s wr.drew ms vm es ve := ⟨h.bel.drew, h.cb, h.mo, h.eo, h.h1⟩
theorem Bd.neM (h : Bd w1 b1 bc true ke va s wr ms vm es ve) : some bc ≠ vm.ownBlock := fun e => row_ne_own h.cb (h.mo rfl) (by decide) e.symm
theorem Bd.neE (h : Bd w1 b1 bc mk true va s wr ms vm es ve) : some bc ≠ ve.ownBlock := fun e => row_ne_own h.cb (h.eo rfl) (by decide) e.symm
/-- An edge is appended. -/
theorem Bd.edge {x : Ed} (h : Bd w1 b1 bc mk true va s wr ms vm es ve) (hg : wr.grownBy w2 ve.ownBlock) (ho : OwnE w2 b1 ve' (es ++ [x])) :
    Bd w1 b1 bc mk true va s (w2.setCell ⟨bc, 3, none⟩ ve') ms vm (es ++ [x]) ve' := by
  have g2 := h.h2
  have g1 := h.h1
  have hne := h.neE
  have he := h.eo rfl
  refine ⟨h.bel.trans (((Below.refl b1 wr).grown hg (by omega) (fun k hk => (he.lt k hk).1)).setCell (p := ⟨bc, 3, none⟩) h.h1 _), ?_, fun e => ?_, fun _ => ?_, h.h1⟩
  · exact (h.cb.grown hg (fun e => hne e.symm)).set 3 ve'
  · have h3 := own_row (h.mo e) hg (owns_ne (h.mo e) he (by decide))
    exact ownsRow_setCell_other h3 (a := ⟨bc, 3, none⟩) (row_ne_own (h.cb.grown hg (fun e => hne e.symm)) h3 (by decide)) ve'
  · exact ownsRow_setCell_other ho (a := ⟨bc, 3, none⟩) (row_ne_own (h.cb.grown hg (fun e => hne e.symm)) ho (by decide)) ve'
/-- A number is appended to the marked states. -/
theorem Bd.mark {x : Int} (h : Bd w1 b1 bc true ke va s wr ms vm es ve) (hg : wr.grownBy w2 vm.ownBlock) (ho : Own w2 b1 vm' (ms ++ [x])) :
    Bd w1 b1 bc true ke va s (w2.setCell ⟨bc, 2, none⟩ vm') (ms ++ [x]) vm' es ve := by
  have g2 := h.h2
  have g1 := h.h1
  have hne := h.neM
  have hm := h.mo rfl
  refine ⟨h.bel.trans (((Below.refl b1 wr).grown hg (by omega) (fun k hk => (hm.lt k hk).1)).setCell (p := ⟨bc, 2, none⟩) h.h1 _), ?_, fun e => ?_, fun e => ?_, h.h1⟩
  · exact (h.cb.grown hg (fun e => hne e.symm)).set 2 vm'
  · exact ownsRow_setCell_other ho (a := ⟨bc, 2, none⟩) (row_ne_own (h.cb.grown hg (fun e => hne e.symm)) ho (by decide)) vm'
  · have h3 := own_row (h.eo e) hg (owns_ne (h.eo e) hm (by decide))
    exact ownsRow_setCell_other h3 (a := ⟨bc, 2, none⟩) (row_ne_own (h.cb.grown hg (fun e => hne e.symm)) h3 (by decide)) vm'
/-- The number of the states is stored. -/
theorem Bd.state (h : Bd w1 b1 bc mk ke va s wr ms vm es ve) (s' : Int) : Bd w1 b1 bc mk ke va s' (wr.setCell ⟨bc, 1, none⟩ (.int .i64 s')) ms vm es ve := by
  refine ⟨h.bel.setCell (p := ⟨bc, 1, none⟩) h.h1 _, h.cb.set 1 _, fun e => ownsRow_setCell_other (h.mo e) (a := ⟨bc, 1, none⟩) (row_ne_own h.cb (h.mo e) (by decide)) _, fun e => ownsRow_setCell_other (h.eo e) (a := ⟨bc, 1, none⟩) (row_ne_own h.cb (h.eo e) (by decide)) _, h.h1⟩
end
end Go.Proofs.YtaadhpkpekmfoaaGreat

/- Layer 3: Found and index of the reference. -/
namespace Go.Proofs.YtaadhpkpekmfoaaGreat
open Go.RowKit Go.Sort

/-- Where a number is in a list; -1 if it isn't. -/
def idxI (l : List Int) (x : Int) : Int := if x ∈ l then (l.idxOf x : Int) else -1
theorem idx_yes {zs : List Int} {k : Nat} {x : Int} (h : k < zs.length) (ht : x ∉ zs.take k) (he : zs.getD k 0 = x) : idxI zs x = (k : Int) := by
  have hm : x ∈ zs := by rw [← he]; exact getD_mem h
  rw [idxI, if_pos hm]
  have e : zs = zs.take k ++ zs.drop k := (List.take_append_drop k zs).symm
  rw [e, List.idxOf_append, if_neg ht, drop_step zs k h, he]
  simp; omega
theorem idx_no {zs : List Int} {n : Nat} {x : Int} (hn : zs.length = n) (h : x ∉ zs.take n) : idxI zs x = -1 := by
  rw [List.take_of_length_le (by omega)] at h; rw [idxI, if_neg h]

set_option maxHeartbeats 800000 in
theorem rIndex_any (A : Option Addr) (n c Bx : Nat) (zs : List Int) (x : Int) (w : World) (hx : RdI w Bx A zs) (hn : zs.length = n) (hb : n ≤ 140737488355328) :
    Calls Tryz.prog 87 #[.slice A n c, .int .i64 x] w fun e w' => e = .returned (.int .i64 (idxI zs x)) ∧ w = w' := by
  have HN := Lib.hid hn
  clear hn
  obtain ⟨v, hv⟩ : ∃ v, v = idxI zs x := ⟨_, rfl⟩
  have HV := Lib.hid hv
  rw [← hv]
  clear hv
  go_enter Tryz.func87, Tryz.ntmps87
  go_wp2
  go_loop [5] (fun i => ∃ k : Nat, k ≤ n ∧ i = .int .i64 k ∧ Hid (x ∉ zs.take k)) (fun i => n - (intOf i).toNat)
  case atStart => exact ⟨0, Nat.zero_le _, rfl, by simp [Hid]⟩
  case round =>
    obtain ⟨k, hk, rfl, ht⟩ := hrel
    by_cases hlt : k < n
    · obtain ⟨b1, o1, rfl, _, hc1⟩ := hx (by rw [HN.out]; omega)
      have hz : k < zs.length := by rw [HN.out]; exact hlt
      have h1 := hc1 k hz
      obtain ⟨y, hye⟩ : ∃ y, y = zs.getD k 0 := ⟨_, rfl⟩
      rw [← hye] at h1
      clear hc1 hx
      by_cases hyx : y = x
      · have hr := Lib.hid (show (k : Int) = v by rw [HV.out, idx_yes hz ht.out (by rw [← hye]; exact hyx)])
        have hb1 : (y == x) = true := by simpa using hyx
        clear hyx hye ht hz
        go_wp2
        go_ret
        exact ⟨ret_int hr.out, rfl⟩
      · have hr := Lib.hid (show x ∉ zs.take (k + 1) by rw [mem_snoc_take hz, not_or]; exact ⟨ht.out, by rw [← hye]; exact hyx⟩)
        have hb1 : (y == x) = false := by simpa using hyx
        clear hyx hye ht hz
        go_wp2
        go_round
        case rel => exact ⟨k + 1, by omega, by go_num, hr⟩
        case measure => simp [intOf]; omega
    · have hkn : k = n := by omega
      rw [hkn] at ht
      have hr := Lib.hid (show (-1 : Int) = v by rw [HV.out, idx_no HN.out ht.out])
      clear hkn ht
      go_wp2
      go_ret
      exact ⟨ret_int hr.out, rfl⟩

/-- The edges of a state by the first events. -/
def succK (a : Au) (q : Int) (k : Nat) : List Ed := (a.al.take k).filterMap (edgeO a.ed q)
theorem succK_zero (a : Au) (q : Int) : succK a q 0 = [] := by simp [succK]
theorem take_getD {zs : List Int} {k : Nat} (h : k < zs.length) : zs.take (k + 1) = zs.take k ++ [zs.getD k 0] := by
  rw [List.take_add_one]; simp [List.getD, List.getElem?_eq_getElem h]
theorem succK_some {a : Au} {q : Int} {k : Nat} {x : Ed} (hk : k < a.al.length) (h : edgeO a.ed q (a.al.getD k 0) = some x) : succK a q (k + 1) = succK a q k ++ [x] := by
  unfold succK; rw [take_getD hk, List.filterMap_append]; simp only [List.filterMap_cons, h, List.filterMap_nil, List.append_nil]
theorem succK_none {a : Au} {q : Int} {k : Nat} (hk : k < a.al.length) (h : edgeO a.ed q (a.al.getD k 0) = none) : succK a q (k + 1) = succK a q k := by
  unfold succK; rw [take_getD hk, List.filterMap_append]; simp only [List.filterMap_cons, h, List.filterMap_nil, List.append_nil]
theorem succK_all {a : Au} (h : RightW a) {q : Int} {n : Nat} (hn : a.al.length = n) : succK a q n = succ a.ed q := by
  unfold succK; rw [List.take_of_length_le (by omega), succ_eq h]
theorem succK_pre {a : Au} (h : RightW a) (q : Int) (k : Nat) : succK a q k <+: succ a.ed q := by
  rw [succ_eq h, succK]
  conv => rhs; rw [← List.take_append_drop k a.al, List.filterMap_append]
  exact List.prefix_append _ _
theorem stepI_of {a : Au} {q ev : Int} {x : Ed} (h : edgeO a.ed q ev = some x) : stepI a q ev = x.t := by rw [stepI, stepO, h]; rfl
theorem stepI_no {a : Au} {q ev : Int} (h : edgeO a.ed q ev = none) : stepI a q ev = -1 := by rw [stepI, stepO, h]; rfl

/-- What Found keeps: the call's memory, its list. -/
structure FP (W1 : World) (v : Value) (fl : List Int) (wr : World) : Prop where
  bel : Below W1.heap.size W1 wr
  ow : Own wr W1.heap.size v fl
theorem FP.call {W1 wr w2 : World} {v : Value} {fl : List Int} (h : FP W1 v fl wr) (hb : Below wr.heap.size wr w2) : FP W1 v fl w2 := ⟨h.bel.trans (hb.mono h.bel.size), own_kept h.ow hb⟩
theorem FP.drew {W1 wr : World} {v : Value} {fl : List Int} (h : FP W1 v fl wr) : FP W1 v fl wr.drew := ⟨h.bel.drew, h.ow⟩
/-- The cells that a step's arguments are loaded from. -/
structure StC (H : Nat) (A : Option Addr) (n c : Nat) (s : Int) (M : Option Addr) (m d : Nat) (E : Option Addr) (k g : Nat) (gF j : Nat) (q : Int) (bA iA : Nat) (ev : Int) (wr : World) : Prop where
  bx : BoxA wr H A n c s M m d E k g
  cf : wr.cell? ⟨gF, j, none⟩ = some (.int .i64 q)
  ca : wr.cell? ⟨bA, iA, none⟩ = some (.int .i64 ev)
  l1 : H < wr.heap.size
  l2 : gF < wr.heap.size
  l3 : bA < wr.heap.size
section
variable {H : Nat} {A : Option Addr} {n c : Nat} {s : Int} {M : Option Addr} {m d : Nat} {E : Option Addr} {k g : Nat} {gF j : Nat} {q : Int} {bA iA : Nat} {ev : Int} {wr w2 : World}
theorem StC.call (h : StC H A n c s M m d E k g gF j q bA iA ev wr) (hb : Below wr.heap.size wr w2) : StC H A n c s M m d E k g gF j q bA iA ev w2 :=
  ⟨h.bx.below hb h.l1, (hb.cell (p := ⟨gF, j, none⟩) h.l2).trans h.cf, (hb.cell (p := ⟨bA, iA, none⟩) h.l3).trans h.ca, Nat.lt_of_lt_of_le h.l1 hb.size, Nat.lt_of_lt_of_le h.l2 hb.size, Nat.lt_of_lt_of_le h.l3 hb.size⟩
theorem StC.drew (h : StC H A n c s M m d E k g gF j q bA iA ev wr) : StC H A n c s M m d E k g gF j q bA iA ev wr.drew := ⟨⟨h.bx.c0, h.bx.c1, h.bx.c2, h.bx.c3⟩, h.cf, h.ca, h.l1, h.l2, h.l3⟩
end

set_option maxHeartbeats 4000000 in
set_option maxRecDepth 100000 in
theorem rFound_any (A : Option Addr) (n c : Nat) (s : Int) (M : Option Addr) (m d : Nat) (E : Option Addr) (k g : Nat) (a : Au) (B : Nat) (w : World) (h : AuR w B A n c s M m d E k g a) (hB : B ≤ w.heap.size) (hr : RightW a) (hS : s ≤ 5000) :
    Calls Tryz.prog 85 #[.agg #[.slice A n c, .int .i64 s, .slice M m d, .slice E k g]] w fun e w' => GivesC w (fnd a) e w' := by
  have HB1 := Lib.hid ((Below.refl w.heap.size w).alloc (Nat.le_refl _) (.cells #[.slice A n c, .int .i64 s, .slice M m d, .slice E k g] 33))
  have HBX := Lib.hid (BoxA.made w A n c s M m d E k g 33)
  have HST := Lib.hid h.st
  have HR := Lib.hid h
  have HRI := Lib.hid hr
  have HBw := Lib.hid hB
  have hs0 := hr.st0
  rw [h.st] at hs0
  obtain ⟨i0, hi, hz0, hz1, hz2⟩ := info_parts info_int
  obtain ⟨W1, hW1⟩ : ∃ W1, W1 = w.alloc (.cells #[.slice A n c, .int .i64 s, .slice M m d, .slice E k g] 33) := ⟨_, rfl⟩
  have hsz1 : W1.heap.size = w.heap.size + 1 := by rw [hW1]; simp
  have HB1l := HB1
  have HBXl := HBX
  rw [← hW1] at HB1 HBX
  have HW1 := Lib.hid hW1
  have HSZ := Lib.hid hsz1
  have HBT := Lib.hid (fun W (hW : Below W1.heap.size W1 W) => HB1.out.trans (hW.mono (by omega)))
  clear h hr hsz1 hW1 hB
  by_cases h0 : s = 0
  · subst h0
    have hf := Lib.hid (show fnd a = [] from fnd_zero HST.out)
    rw [hf.out]
    obtain ⟨p0, p1, p2, p3⟩ := HBXl.out
    go_enter Tryz.func85, Tryz.ntmps85
    go_wp2_with fail
    go_loop [3, 4] (fun v i => v = .slice none 0 0 ∧ i = .int .i64 0) (fun _ i => 0)
    case atStart => exact ⟨rfl, rfl⟩
    case round =>
      obtain ⟨rfl, rfl⟩ := hrel
      go_wp2_with fail
      go_ret
      exact ⟨none, 0, rfl, RdI.nil _ _ _, HB1l.out, Nat.le_refl _, by omega⟩
  · have hs1 : 0 < s := by omega
    obtain ⟨S, rfl⟩ : ∃ S : Nat, s = (S : Int) := ⟨s.toNat, by omega⟩
    have hst1 := Lib.hid (show 0 < a.st by rw [HST.out]; exact hs1)
    obtain ⟨p0, p1, p2, p3⟩ := HBXl.out
    go_enter Tryz.func85, Tryz.ntmps85
    go_wp2_with (at_builtin; refine wpList_append_own _ rfl _ _ 27 rfl (w.heap.size + 1) 3 i0 (.int .i64 0) 1 8 Tryz.underlying27 hi hz0 hz1 hz2 rfl (by decide) _ _ _ rfl (World.ownsRow_nil _ _ _ _) ⟨w.heap.size + 1, 0, none⟩ 1 1 [.int .i64 0] rfl rfl ?c1 ?c2 ?c3 ?c4 ?c5 ?_)
    case c1 => exact news_one (by simp)
    case c2 => intro u hu; simp at hu; subst hu; rfl
    case c3 => unfold maxLen; omega
    case c4 => omega
    case c5 => simp
    intro v1 w1 hown1 hgrow1 _
    rw [← HW1.out] at hgrow1
    rw [← HSZ.out] at hown1
    have hO1 := own_app (K := []) (K' := [0]) rfl (Below.refl W1.heap.size W1) (World.ownsRow_nil _ _ _ _) hown1 hgrow1 (Nat.le_refl _)
    have hF1 := Lib.hid (show FP W1 v1 (Fd a 0) w1 from ⟨hO1.2, hO1.1⟩)
    clear hown1 hgrow1 hO1 p0 p1 p2 p3
    go_wp2_with fail
    go_loopw [3, 4] (fun v i wr => ∃ j : Nat, i = .int .i64 j ∧ j ≤ S ∧ Hid (j ≤ (Fd a j).length) ∧ Hid (FP W1 v (Fd a j) wr)) (fun _ i _ => S - (intOf i).toNat)
    case atStart => exact ⟨0, rfl, Nat.zero_le _, Nat.zero_le _, hF1⟩
    case round =>
      clear hF1
      obtain ⟨j, rfl, hjS, hjl, hfp⟩ := hrel
      have hlenS := Fd_len HRI.out hst1.out j
      rw [HST.out, Int.toNat_natCast] at hlenS
      have HPR := Lib.hid (Fd_fnd HRI.out hst1.out j)
      obtain ⟨L, hL⟩ : ∃ L, L = (Fd a j).length := ⟨_, rfl⟩
      have HL := Lib.hid hL
      have hL1 : 1 ≤ L := by have := (Fd_mono a 0 j).length_le; rw [Nat.zero_add, ← hL] at this; simpa [Fd] using this
      rw [← hL] at hlenS
      by_cases hlt : j < L
      · obtain ⟨gF, cF, rfl, hgF, hcF, hcap, hcap2⟩ := own_shape hfp.out.ow hL hL1
        obtain ⟨q, hq⟩ : ∃ q, q = (Fd a j).getD j 0 := ⟨_, rfl⟩
        have HQ := Lib.hid hq
        have HFP := Lib.hid hfp.out
        clear hcF hL hq hfp
        go_wp2_with fail
        go_loopw [3, 5] (fun v i wx => ∃ t : Nat, i = .int .i64 t ∧ t ≤ n ∧ Hid (FP W1 v (visitL (Fd a j) (succK a q t)) wx)) (fun _ i _ => n - (intOf i).toNat)
        case atStart => exact ⟨0, rfl, Nat.zero_le _, by rw [succK_zero, visitL_nil]; exact HFP⟩
        case round =>
          clear hgF hcap hcap2
          obtain ⟨t, rfl, htn, hfp⟩ := hrel
          obtain ⟨p0, p1, p2, p3⟩ := HBX.out.below hfp.out.bel (by have := HSZ.out; omega)
          have hWz := hfp.out.bel.size
          have hSZ := HSZ.out
          by_cases htl : t < n
          · obtain ⟨bA, oA, rfl, hbA, hcA⟩ := HR.out.al (by rw [HR.out.hn]; omega)
            have hz : t < a.al.length := by rw [HR.out.hn]; exact htl
            have ca := hcA t hz
            obtain ⟨ev, hev⟩ : ∃ ev, ev = a.al.getD t 0 := ⟨_, rfl⟩
            rw [← hev] at ca
            have ca' : wr.cell? ⟨bA, oA + t, none⟩ = some (.int .i64 ev) := ((HBT.out wr hfp.out.bel).cell (p := ⟨bA, oA + t, none⟩) (Nat.lt_of_lt_of_le hbA HBw.out)).trans ca
            obtain ⟨fl, hfl⟩ : ∃ fl, fl = visitL (Fd a j) (succK a q t) := ⟨_, rfl⟩
            have hfpre : Fd a j <+: fl := by rw [hfl]; exact visitL_pre _ _
            obtain ⟨L2, hL2⟩ : ∃ L2, L2 = fl.length := ⟨_, rfl⟩
            have HL2 := Lib.hid hL2
            have hLL : L ≤ L2 := by have := hfpre.length_le; rw [← HL.out, ← hL2] at this; exact this
            rw [← hfl] at hfp
            have hflS : L2 ≤ S := by
              have hpre2 : visitL (Fd a j) (succK a q t) <+: fnd a := by
                obtain ⟨r, hr⟩ := succK_pre HRI.out q t
                have h1 : visitL (Fd a j) (succK a q t) <+: visitL (Fd a j) (succ a.ed q) := by
                  rw [← hr, visitL_app]; exact visitL_pre _ _
                rw [HQ.out, ← Fd_go (by rw [← HL.out]; exact hlt), ← HQ.out] at h1
                exact h1.trans (Fd_fnd HRI.out hst1.out (j + 1))
              have h2 := hpre2.length_le
              have h3 := fnd_len HRI.out
              rw [← hfl, ← hL2] at h2
              rw [HST.out, Int.toNat_natCast] at h3
              omega
            obtain ⟨gF2, cF2, rfl, hgF2, hcF2, hcap3, hcap4⟩ := own_shape hfp.out.ow hL2 (by omega)
            have cf : wr.cell? ⟨gF2, j, none⟩ = some (.int .i64 q) := by
              have h1 := hcF2 j (by omega)
              have h2 := getD_pre hfpre (i := j) (by rw [← HL.out]; exact hlt)
              rw [h2, ← HQ.out] at h1
              exact h1
            have z1 : (j : Int) < (L2 : Int) := by omega
            have z2 : (t : Int) < (n : Int) := by omega
            have z3 : (0 : Int) ≤ (j : Int) := by omega
            have z4 : (0 : Int) ≤ (t : Int) := by omega
            have hbn := HR.out.bn
            have HST4 := Lib.hid (show StC w.heap.size (some ⟨bA, oA, none⟩) n c (S : Int) M m d E k g gF2 j q bA (oA + t) ev wr from ⟨⟨p0, p1, p2, p3⟩, cf, ca', by omega, hgF2, by have := HBw.out; omega⟩)
            have HST4d := Lib.hid HST4.out.drew
            have hfpd := Lib.hid hfp.out.drew
            obtain ⟨tt, hto⟩ : ∃ tt, tt = stepI a q ev := ⟨_, rfl⟩
            have HTO := Lib.hid hto
            have HS := Lib.hid (fun W (hF : FP W1 (.slice (some ⟨gF2, 0, none⟩) L2 cF2) fl W) (hC : StC w.heap.size (some ⟨bA, oA, none⟩) n c (S : Int) M m d E k g gF2 j q bA (oA + t) ev W) => (rStep_any (some ⟨bA, oA, none⟩) n c (S : Int) M m d E k g a q ev B W (HR.out.below (HBT.out W hF.bel) HBw.out) (Nat.le_trans HBw.out (HBT.out W hF.bel).size)).mono (R' := fun e w'' => e = .returned (.int .i64 tt) ∧ FP W1 (.slice (some ⟨gF2, 0, none⟩) L2 cF2) fl w'' ∧ StC w.heap.size (some ⟨bA, oA, none⟩) n c (S : Int) M m d E k g gF2 j q bA (oA + t) ev w'') fun e w'' hh => ⟨by rw [hh.1, hto], hF.call hh.2, hC.call hh.2⟩)
            have HEV := Lib.hid hev
            have HFL := Lib.hid hfl
            clear hto hcF2 hcA ca hev hfl hL2
            go_wp2_with fail
            go_region_held3 (fun w' => w'.cell? ⟨w.heap.size, 0, none⟩ = some (.slice (some ⟨bA, oA, none⟩) n c) ∧ w'.cell? ⟨w.heap.size, 1, none⟩ = some (.int .i64 (S : Int)) ∧ w'.cell? ⟨w.heap.size, 2, none⟩ = some (.slice M m d) ∧ w'.cell? ⟨w.heap.size, 3, none⟩ = some (.slice E k g) ∧ w'.cell? ⟨gF2, j, none⟩ = some (.int .i64 q) ∧ w'.cell? ⟨bA, oA + t, none⟩ = some (.int .i64 ev)) (first | with_reducible exact ⟨p0, p1, p2, p3, cf, ca'⟩ | go_keep)
              (first
              | (go_simp; go_at_call 71; (first | with_reducible refine (HS.out _ hfp.out HST4.out).mono ?_ | with_reducible refine (HS.out _ hfpd.out HST4d.out).mono ?_); rintro e w4 ⟨rfl, hF4, hC4⟩
                 have HF4 := Lib.hid hF4
                 have HC4 := Lib.hid hC4
                 obtain ⟨⟨p0, p1, p2, p3⟩, cf, ca', _, _, _⟩ := hC4
                 clear hF4))
            all_goals
              cases he : edgeO a.ed q ev with
              | none =>
                have hto := stepI_no he
                rw [← HTO.out] at hto
                subst hto
                have hnx := Lib.hid (show visitL (Fd a j) (succK a q (t + 1)) = fl by rw [succK_none hz (by rw [← HEV.out]; exact he), HFL.out])
                clear he
                go_wp2_with fail
                go_roundw
                case rel => exact ⟨t + 1, by go_num, by omega, by rw [hnx.out]; first | exact HF4 | exact Lib.hid HF4.out.drew⟩
                case measure => simp [intOf]; omega
              | some x =>
                have hto := stepI_of he
                rw [← HTO.out] at hto
                have hxr := (HRI.out.edr x ((edgeO_some HRI.out.edo).1 he).1).2.1
                rw [← hto] at hxr
                have hnx := Lib.hid (show visitL (Fd a j) (succK a q (t + 1)) = visit fl tt by rw [succK_some hz (by rw [← HEV.out]; exact he), visitL_snoc, ← HFL.out, hto])
                have hto0 : 0 ≤ tt := hxr.1
                obtain ⟨A', c', e', hrd, _, _⟩ := own_rdc HF4.out.ow
                rw [← HL2.out] at e'
                injection e' with e1 e2 e3
                subst e1; subst e3
                have HRD := Lib.hid hrd
                clear he hxr hto hrd
                obtain ⟨r, hr⟩ : ∃ r, r = decide (tt ∈ fl) := ⟨_, rfl⟩
                have HH := Lib.hid (fun W (hW : RdI W W.heap.size (some ⟨gF2, 0, none⟩) fl) => by
                  have := rHas_any (some ⟨gF2, 0, none⟩) L2 cF2 W.heap.size fl tt W hW HL2.out.symm (by omega)
                  rw [← hr] at this; exact this)
                have HRr := Lib.hid hr
                clear hr
                have HRDd := Lib.hid (HRD.out.dr 1)
                cases r
                · have hni := Lib.hid (show tt ∉ fl by have := HRr.out; simpa using this.symm)
                  go_wp2_with fail
                  refine (HH.out _ (by first | exact HRD.out | exact HRDd.out)).mono ?_
                  rintro e w5 ⟨rfl, rfl⟩
                  have HO4 := Lib.hid (show w4.ownsRow W1.heap.size 3 1 (.slice (some ⟨gF2, 0, none⟩) L2 cF2) L2 (fl.map (Value.int .i64)) by have := HF4.out.ow; unfold Own at this; rwa [← HL2.out] at this)
                  have hb4 := HF4.out.bel.size
                  go_wp2_with (at_builtin; refine wpList_append_own _ rfl _ _ 27 rfl W1.heap.size 3 i0 (.int .i64 0) 1 8 Tryz.underlying27 hi hz0 hz1 hz2 rfl (by decide) _ _ _ rfl (HO4.out.alloc _) ⟨w4.heap.size, 0, none⟩ 1 1 [.int .i64 tt] rfl rfl ?c1 ?c2 ?c3 ?c4 ?c5 ?_)
                  case c1 => exact own_one
                  case c2 => intro u hu; simp at hu; subst hu; rfl
                  case c3 => unfold maxLen; omega
                  case c4 => omega
                  case c5 => simp; omega
                  intro v5 w5 hown5 hgrow5 _
                  rw [HL2.out, ← HSZ.out] at hown5
                  have hO5 := own_app (K' := fl ++ [tt]) rfl HF4.out.bel HF4.out.ow hown5 hgrow5 (Nat.le_refl _)
                  have hF6 := Lib.hid (show FP W1 v5 (fl ++ [tt]) w5 from ⟨hO5.2, hO5.1⟩)
                  clear hown5 hgrow5 hO5
                  go_wp2_with fail
                  go_roundw
                  case rel => exact ⟨t + 1, by go_num, by omega, by rw [hnx.out, visit_new hni.out]; exact hF6⟩
                  case measure => simp [intOf]; omega
                · have hin := Lib.hid (show tt ∈ fl by have := HRr.out; simpa using this.symm)
                  go_wp2_with fail
                  refine (HH.out _ (by first | exact HRD.out | exact HRDd.out)).mono ?_
                  rintro e w5 ⟨rfl, rfl⟩
                  go_wp2_with fail
                  go_roundw
                  case rel => exact ⟨t + 1, by go_num, by omega, by rw [hnx.out, visit_in hin.out]; first | exact HF4 | exact Lib.hid HF4.out.drew⟩
                  case measure => simp [intOf]; omega
          · obtain rfl : t = n := by omega
            have hFs : visitL (Fd a j) (succK a q t) = Fd a (j + 1) := by
              rw [succK_all HRI.out HR.out.hn, Fd_go (by rw [← HL.out]; exact hlt), HQ.out]
            rw [hFs] at hfp
            have hln := Lib.hid (show j + 1 ≤ (Fd a (j + 1)).length by have := (Fd_pre a j).length_le; rw [← HL.out] at this; omega)
            clear hFs
            go_wp2_with fail
            go_roundw
            case rel => exact ⟨j + 1, by go_num, by omega, hln, hfp⟩
            case measure => simp [intOf]; omega
      · obtain rfl : j = L := by have := hjl.out; rw [← HL.out] at this; omega
        have hfn : fnd a = Fd a j := fnd_at HRI.out hst1.out (by rw [← HL.out]; exact Nat.le_refl _) (by rw [HST.out]; simp; omega)
        rw [← hfn] at hfp HL
        obtain ⟨A', c', rfl, hrd, hc1, hc2⟩ := own_rdc hfp.out.ow
        have HF := Lib.hid hfp.out
        have HRD := Lib.hid hrd
        rw [← HL.out] at HF hc1
        clear hfp hrd hfn hL
        have HL9 := Lib.hid HL.out.symm
        rw [HL9.out]
        go_wp2_with fail
        go_ret
        exact ⟨A', c', by rw [HL9.out]; rfl, HRD.out, HBT.out _ HF.out.bel, by rw [HL9.out]; exact hc1, hc2⟩
end Go.Proofs.YtaadhpkpekmfoaaGreat

/- Layer 3: Enabled and IsCanonical of the program. -/
namespace Go.Proofs.YtaadhpkpekmfoaaGreat
open Go.RowKit Go.Sort

/-- What Enabled hands back. -/
def enR (a : Au) (q : Int) : List Int × Int := if plE a q ≠ 0 then ([], plE a q) else ((succ a.ed q).map Ed.e, 0)
/-- A list in new memory and an error. -/
def GivesP (w : World) (r : List Int × Int) (e : Ending) (w' : World) : Prop := ∃ A c, e = .returned (.tuple #[.slice A r.1.length c, .int .i64 r.2]) ∧ RdI w' w'.heap.size A r.1 ∧ Below w.heap.size w w' ∧ r.1.length ≤ c ∧ c ≤ 9223372036854775807
theorem succ_take_yes {l : List Ed} {t : Nat} {x : Ed} {q : Int} (h : l[t]? = some x) (hq : x.f = q) : (succ (l.take (t + 1)) q).map Ed.e = (succ (l.take t) q).map Ed.e ++ [x.e] := by
  rw [take_succ_ed h]; unfold succ; rw [List.filter_append, List.map_append]; simp [hq]
theorem succ_take_no {l : List Ed} {t : Nat} {x : Ed} {q : Int} (h : l[t]? = some x) (hq : ¬ x.f = q) : (succ (l.take (t + 1)) q).map Ed.e = (succ (l.take t) q).map Ed.e := by
  rw [take_succ_ed h]; unfold succ; rw [List.filter_append]; simp [hq]
theorem succ_take_len (l : List Ed) (t : Nat) (q : Int) : ((succ (l.take t) q).map Ed.e).length ≤ t := by
  rw [List.length_map]; unfold succ
  exact Nat.le_trans (List.length_filter_le _ _) (List.length_take_le _ _)

/-- Whether an automaton is right and its own canonical form. -/
def isC (a : Au) : Bool := decide (chkE a = 0) && decide (a = canA a)
/-- The argument's box. -/
structure IB (w : World) (A : Option Addr) (n c : Nat) (s : Int) (M : Option Addr) (m d : Nat) (E : Option Addr) (k g : Nat) (w' : World) : Prop where
  bel : Below w.heap.size w w'
  bx : BoxA w' w.heap.size A n c s M m d E k g
  lt : w.heap.size < w'.heap.size
section
variable {w w1 w2 : World} {A : Option Addr} {n c : Nat} {s : Int} {M : Option Addr} {m d : Nat} {E : Option Addr} {k g : Nat}
theorem IB.call (h : IB w A n c s M m d E k g w1) (hb : Below w1.heap.size w1 w2) : IB w A n c s M m d E k g w2 := ⟨h.bel.trans (hb.mono h.bel.size), h.bx.below hb h.lt, Nat.lt_of_lt_of_le h.lt hb.size⟩
theorem IB.drew (h : IB w A n c s M m d E k g w1) : IB w A n c s M m d E k g w1.drew := ⟨h.bel.drew, ⟨h.bx.c0, h.bx.c1, h.bx.c2, h.bx.c3⟩, h.lt⟩
theorem IB.made (w : World) : IB w A n c s M m d E k g (w.alloc (.cells #[.slice A n c, .int .i64 s, .slice M m d, .slice E k g] 33)) := ⟨(Below.refl _ _).alloc (Nat.le_refl _) _, BoxA.made w A n c s M m d E k g 33, by simp⟩
end

set_option maxHeartbeats 4000000 in
set_option maxRecDepth 100000 in
theorem mIsCanonical_any (A : Option Addr) (n c : Nat) (s : Int) (M : Option Addr) (m d : Nat) (E : Option Addr) (k g : Nat) (a : Au) (w : World) (h : AuR w w.heap.size A n c s M m d E k g a) :
    Calls Tryz.prog 18 #[.agg #[.slice A n c, .int .i64 s, .slice M m d, .slice E k g]] w fun e w' => e = .returned (.bool (isC a)) ∧ Below w.heap.size w w' := by
  have HI0 := Lib.hid (IB.made (A := A) (n := n) (c := c) (s := s) (M := M) (m := m) (d := d) (E := E) (k := k) (g := g) w)
  have HI0d := Lib.hid HI0.out.drew
  have HAt := Lib.hid (fun W (hW : Below w.heap.size w W) => (h.below hW (Nat.le_refl _)).more hW.size)
  obtain ⟨u, hu⟩ : ∃ u, u = chkE a := ⟨_, rfl⟩
  have HC := Lib.hid (fun W (hI : IB w A n c s M m d E k g W) => (mCheck_any A n c s M m d E k g a W (HAt.out W hI.bel)).mono (R' := fun e w' => e = .returned (.int .i64 u) ∧ IB w A n c s M m d E k g w') fun e w' hh => ⟨by rw [hh.1, hu], hI.call hh.2⟩)
  have HU := Lib.hid hu
  obtain ⟨p0, p1, p2, p3⟩ := HI0.out.bx
  by_cases h0 : u = 0
  · have hri := Lib.hid (right_of (a := a) (by rw [← hu, h0]))
    obtain ⟨r, hr⟩ : ∃ r, r = decide (a = canA a) := ⟨_, rfl⟩
    have hisC := Lib.hid (show isC a = r by rw [isC, ← hu, ← hr, h0]; simp)
    rw [hisC.out]
    have HCan := Lib.hid (fun W (hI : IB w A n c s M m d E k g W) => (canon_all A n c s M m d E k g a W.heap.size W (HAt.out W hI.bel) (Nat.le_refl _) hri.out.toRightW (by have := hri.out.st1; omega)).mono (R' := fun e w' => ∃ A2 n2 c2 s2 M2 m2 d2 E2 k2 g2, e = .returned (.agg #[.slice A2 n2 c2, .int .i64 s2, .slice M2 m2 d2, .slice E2 k2 g2]) ∧ AuR w' w'.heap.size A2 n2 c2 s2 M2 m2 d2 E2 k2 g2 (canA a) ∧ IB w A n c s M m d E k g w') fun e w' hh => by
      obtain ⟨v, e1, ⟨A2, n2, c2, s2, M2, m2, d2, E2, k2, g2, rfl, hx, _⟩, hb⟩ := hh
      exact ⟨A2, n2, c2, s2, M2, m2, d2, E2, k2, g2, e1, hx, hI.call hb⟩)
    have HRr := Lib.hid hr
    have hd : (u == 0) = true := by simp [h0]
    clear h hu hr h0
    go_enter Tryz.func18, Tryz.ntmps18
    go_wp2_with fail
    go_region_held3 (fun w' => w'.cell? ⟨w.heap.size, 0, none⟩ = some (.slice A n c) ∧ w'.cell? ⟨w.heap.size, 1, none⟩ = some (.int .i64 s) ∧ w'.cell? ⟨w.heap.size, 2, none⟩ = some (.slice M m d) ∧ w'.cell? ⟨w.heap.size, 3, none⟩ = some (.slice E k g)) (first | with_reducible exact ⟨p0, p1, p2, p3⟩ | go_keep)
      (first
      | (go_simp; go_at_call 50; (first | with_reducible refine (HC.out _ HI0.out).mono ?_ | with_reducible refine (HC.out _ HI0d.out).mono ?_); rintro e w3 ⟨rfl, hI3⟩
         have HI3 := Lib.hid hI3
         have HI3d := Lib.hid hI3.drew
         obtain ⟨p0, p1, p2, p3⟩ := hI3.bx
         clear hI3)
      | (go_simp; go_at_call 52; (first | with_reducible refine (HCan.out _ HI3.out).mono ?_ | with_reducible refine (HCan.out _ HI3d.out).mono ?_); rintro e w4 ⟨A2, n2, c2, s2, M2, m2, d2, E2, k2, g2, rfl, hau, hI4⟩
         have HI4 := Lib.hid hI4
         have HI4d := Lib.hid hI4.drew
         have HE4 := Lib.hid ((mEqual_any A n c s M m d E k g A2 n2 c2 s2 M2 m2 d2 E2 k2 g2 a (canA a) w4.heap.size w4 (HAt.out w4 hI4.bel) hau (Nat.le_refl _)).mono (R' := fun e w' => e = .returned (.bool r) ∧ IB w A n c s M m d E k g w') fun e w' hh => ⟨by rw [hh.1, ← HRr.out], hI4.call hh.2⟩)
         have HE4d := Lib.hid ((mEqual_any A n c s M m d E k g A2 n2 c2 s2 M2 m2 d2 E2 k2 g2 a (canA a) w4.heap.size w4.drew (HAt.out w4.drew hI4.drew.bel) (AuR.keep hau fun b o _ => rfl) (Nat.le_refl _)).mono (R' := fun e w' => e = .returned (.bool r) ∧ IB w A n c s M m d E k g w') fun e w' hh => ⟨by rw [hh.1, ← HRr.out], hI4.drew.call hh.2⟩)
         obtain ⟨p0, p1, p2, p3⟩ := hI4.bx
         clear hI4 hau)
      | (go_simp; go_at_call 51; (first | with_reducible refine HE4.out.mono ?_ | with_reducible refine HE4d.out.mono ?_); rintro e w5 ⟨rfl, hI5⟩
         have HI5 := Lib.hid hI5
         obtain ⟨p0, p1, p2, p3⟩ := hI5.bx
         clear hI5))
    all_goals
      go_wp2_with fail
      go_ret
      exact ⟨rfl, by first | exact HI5.out.bel | exact HI5.out.bel.drew⟩
  · have hisC := Lib.hid (show isC a = false by rw [isC, ← hu]; simp [h0])
    rw [hisC.out]
    have hd : (u == 0) = false := by simp [h0]
    clear h hu h0
    go_enter Tryz.func18, Tryz.ntmps18
    go_wp2_with fail
    go_region_law (first
      | (go_simp; go_at_call 50; refine (HC.out _ HI0d.out).mono ?_; rintro e w3 ⟨rfl, hI3⟩
         have HI3 := Lib.hid hI3
         obtain ⟨p0, p1, p2, p3⟩ := hI3.bx
         clear hI3))
    all_goals
      go_wp2_with fail
      go_ret
      exact ⟨rfl, by first | exact HI3.out.bel | exact HI3.out.bel.drew⟩
end Go.Proofs.YtaadhpkpekmfoaaGreat

/- Layer 3: Closed of the program. -/
namespace Go.Proofs.YtaadhpkpekmfoaaGreat
open Go.RowKit Go.Sort

/-- The canonical form with all states marked. -/
def clsA (a : Au) : Au := ⟨a.al, ((fnd a).length : Int), rng (fnd a).length, canEn a (fnd a).length⟩
def clsR (a : Au) : Au × Int := if chkE a ≠ 0 then (zeroA, chkE a) else (clsA a, 0)
theorem rng_succ (t : Nat) : rng (t + 1) = rng t ++ [(t : Int)] := by simp [rng, List.range_succ]

end Go.Proofs.YtaadhpkpekmfoaaGreat

/- Layer 3: Complete of the program. -/
namespace Go.Proofs.YtaadhpkpekmfoaaGreat
open Go.RowKit Go.Sort

/-- Where an event leads when the further state is there. -/
def toC (a : Au) (q ev : Int) : Int := (stepO a q ev).getD a.st
def rowC (a : Au) (q : Int) : List Ed := a.al.map fun ev => ⟨q, ev, toC a q ev⟩
def compE (a : Au) (n : Nat) : List Ed := (List.range n).flatMap fun (q : Nat) => rowC a (q : Int)
/-- An automaton with a further state to which all events lead that aren't possible. -/
def compA (a : Au) : Au := ⟨a.al, a.st + 1, a.mr, compE a (a.st.toNat + 1)⟩
def cmpR (a : Au) : Au × Int := if chkE a ≠ 0 then (zeroA, chkE a) else (canA (compA a), 0)
theorem compE_succ (a : Au) (n : Nat) : compE a (n + 1) = compE a n ++ rowC a (n : Int) := by simp [compE, List.range_succ]
theorem rowC_len (a : Au) (q : Int) : (rowC a q).length = a.al.length := by simp [rowC]
theorem compE_len (a : Au) : ∀ n, (compE a n).length = n * a.al.length
  | 0 => by simp [compE]
  | n + 1 => by rw [compE_succ, List.length_append, compE_len a n, rowC_len, Nat.add_mul, Nat.one_mul]
theorem rowC_take {a : Au} {q : Int} {t : Nat} (h : t < a.al.length) : (rowC a q).take (t + 1) = (rowC a q).take t ++ [⟨q, a.al.getD t 0, toC a q (a.al.getD t 0)⟩] := by
  unfold rowC
  rw [← List.map_take, ← List.map_take, take_getD h, List.map_append]; rfl
theorem rowC_all {a : Au} {q : Int} {n : Nat} (h : a.al.length = n) : (rowC a q).take n = rowC a q := List.take_of_length_le (by rw [rowC_len]; omega)
theorem mem_compE {a : Au} {n : Nat} {y : Ed} : y ∈ compE a n ↔ ∃ q : Nat, q < n ∧ ∃ ev ∈ a.al, y = ⟨(q : Int), ev, toC a q ev⟩ := by
  unfold compE rowC
  simp only [List.mem_flatMap, List.mem_range, List.mem_map]
  constructor
  · rintro ⟨i, hi, x, hx, e⟩; exact ⟨i, hi, x, hx, e.symm⟩
  · rintro ⟨i, hi, x, hx, e⟩; exact ⟨i, hi, x, hx, e.symm⟩
theorem toC_range {a : Au} (h : RightW a) (q ev : Int) : 0 ≤ toC a q ev ∧ toC a q ev < a.st + 1 := by
  unfold toC
  cases hs : stepO a q ev with
  | none => have := h.st0; simp; omega
  | some t => have := step_range h hs; simp; omega
theorem compE_sorted {a : Au} (h : RightW a) : ∀ n, (compE a n).Pairwise ltE
  | 0 => by simp [compE]
  | n + 1 => by
    rw [compE_succ, List.pairwise_append]
    refine ⟨compE_sorted h n, ?_, fun x hx y hy => ?_⟩
    · unfold rowC
      rw [List.pairwise_map]
      exact h.alo.imp fun hlt => by unfold ltE; simp; exact hlt
    · obtain ⟨i, hi, z, _, rfl⟩ := mem_compE.1 hx
      unfold rowC at hy
      obtain ⟨z2, _, rfl⟩ := List.mem_map.1 hy
      unfold ltE; simp; omega
theorem comp_right {a : Au} (h : RightW a) : RightW (compA a) where
  alr := h.alr
  alo := h.alo
  st0 := by have := h.st0; simp [compA]; omega
  mrr x hx := by have := h.mrr x hx; simp only [compA]; omega
  mro := h.mro
  edr y hy := by
    obtain ⟨q, hq, ev, hev, rfl⟩ := mem_compE.1 hy
    have := toC_range h q ev
    have := h.st0
    exact ⟨by simp only [compA]; omega, by simp only [compA]; omega, hev⟩
  edo := compE_sorted h _
theorem al_len {a : Au} (h : RightW a) : a.al.length ≤ 32 := nodup_len (lt_nodup h.alo) fun x hx => by have := h.alr x hx; omega
theorem news_three {W : World} {x y z : Value} {T : TypeId} {b : Nat} (hb : W.heap.size = b) : ∀ j u, [x, y, z][j]? = some u → (W.alloc (.cells #[x, y, z] T)).cell? ((⟨b, 0, none⟩ : Addr).add j) = some u := by
  subst hb
  intro j u hj
  rw [show ((⟨W.heap.size, 0, none⟩ : Addr).add j) = ⟨W.heap.size, j, none⟩ by (simp [Addr.add]; try exact fun h => h.symm)]
  exact (Row.new W [x, y, z] T).cell j hj

end Go.Proofs.YtaadhpkpekmfoaaGreat
