/- Layer 3: slices.Grow from nil, slices.Concat of two lists; words held by slices; lists of words of the call's own. -/
import Derived.Test.YtcciiikaejjooaaaMk
import Derived.Test.YtcciiikaejjooaaLayGr
namespace Go.Proofs.Ytcciiikaejjooaa
open Go.RowKit Go.Sort

set_option maxHeartbeats 1000000 in
theorem grow_nil (N : Nat) (hN : N ≤ 100000) (w : World) :
    Calls Try.prog 85 #[.slice none 0 0, .int .i64 (N : Int)] w fun e w' => ∃ v, e = .returned v ∧ Own w' w.heap.size v [] ∧ Below w.heap.size w w' := by
  rcases Nat.eq_zero_or_pos N with h0 | h0
  · subst h0
    refine Calls.mono (show Calls Try.prog 85 _ w _ from Any8.slices_Grow_room layGr none 0 0 0 w (Nat.le_refl _) (by omega) (by omega) (by omega)) ?_
    rintro e w' ⟨rfl, rfl⟩
    exact ⟨_, rfl, World.ownsRow_nil _ _ _ _, Below.refl _ _⟩
  · obtain ⟨i0, hi, hz0, hz1, hz2⟩ := info_parts info_int
    refine Calls.mono (show Calls Try.prog 85 _ w _ from Any8.slices_Grow_grow layGr i0 (.int .i64 0) hi hz0 (by rw [hz1]; omega) none 0 0 N [] w (Nat.le_refl _) (by omega) (by rw [hz2]; omega) (by omega) (by simp) (fun _ => rfl) (fun a h => by cases h)) ?_
    rintro e w' ⟨rfl, rfl⟩
    have hge := grownCap_ge w (0 + N) 0 3
    have hle := grownCap_le_maxLen w (0 + N) 0 3 (by unfold maxLen; omega)
    refine ⟨_, rfl, ?_, (Below.refl _ w).drew.alloc (Nat.le_refl _) _⟩
    refine ⟨rfl, .inr ⟨w.heap.size, _, _, rfl, Nat.le_refl _, heap_alloc_new w.drew _, Nat.zero_le _, hle, ?_, ?_⟩⟩
    · simp only [Array.size_append, size_zeroCells, List.size_toArray, List.length_nil, Value.cells, Nat.mul_one]
      have e : layGr_ren.t 25 = 3 := rfl
      rw [e]
      simp only [Nat.zero_add, Nat.sub_zero] at hge ⊢
      simp
      omega
    · simp

/-- The two slices that Concat takes. -/
structure TwoS (w : World) (b o : Nat) (A1 : Option Addr) (n1 c1 : Nat) (A2 : Option Addr) (n2 c2 : Nat) (xs ys : List Int) : Prop where
  c0 : w.cell? ⟨b, o, none⟩ = some (.slice A1 n1 c1)
  c1 : w.cell? ⟨b, o + 1, none⟩ = some (.slice A2 n2 c2)
  r0 : RdI w w.heap.size A1 xs
  r1 : RdI w w.heap.size A2 ys
  l0 : xs.length = n1
  l1 : ys.length = n2
  bb : b < w.heap.size
theorem TwoS.below {w w' : World} {b o : Nat} {A1 : Option Addr} {n1 c1 : Nat} {A2 : Option Addr} {n2 c2 : Nat} {xs ys : List Int} (h : TwoS w b o A1 n1 c1 A2 n2 c2 xs ys) (hb : Below w.heap.size w w') : TwoS w' b o A1 n1 c1 A2 n2 c2 xs ys :=
  ⟨(hb.cell (p := ⟨b, o, none⟩) h.bb).trans h.c0, (hb.cell (p := ⟨b, o + 1, none⟩) h.bb).trans h.c1, (h.r0.below hb (Nat.le_refl _)).more hb.size, (h.r1.below hb (Nat.le_refl _)).more hb.size, h.l0, h.l1, Nat.lt_of_lt_of_le h.bb hb.size⟩

set_option maxHeartbeats 2000000 in
theorem concat_any (b o cp : Nat) (A1 : Option Addr) (n1 c1 : Nat) (A2 : Option Addr) (n2 c2 : Nat) (xs ys : List Int) (w : World) (h : TwoS w b o A1 n1 c1 A2 n2 c2 xs ys) (hb1 : n1 ≤ 50000) (hb2 : n2 ≤ 50000) :
    Calls Try.prog 75 #[.slice (some ⟨b, o, none⟩) 2 cp] w fun e w' => ∃ A c, e = .returned (.slice A (n1 + n2) c) ∧ Own w' w.heap.size (.slice A (n1 + n2) c) (xs ++ ys) ∧ Below w.heap.size w w' := by
  have HT := Lib.hid h
  have HG := Lib.hid (grow_nil (n1 + n2) (by omega) w)
  have c0 := h.c0
  have c1' := h.c1
  clear h
  go_enter Try.func75, Try.ntmps75
  go_wp2_with fail
  go_loop [3, 11] (fun u i => (i = .int .i64 0 ∧ u = .int .i64 0) ∨ (i = .int .i64 1 ∧ u = .int .i64 (n1 : Int)) ∨ (i = .int .i64 2 ∧ u = .int .i64 ((n1 + n2 : Nat) : Int))) (fun _ i => 2 - (intOf i).toNat)
  case atStart => exact .inl ⟨rfl, rfl⟩
  case round =>
    rcases hrel with ⟨rfl, rfl⟩ | ⟨rfl, rfl⟩ | ⟨rfl, rfl⟩
    · have hn : ¬ ((n1 : Int) < 0) := by omega
      go_wp2_with fail
      go_round
      case rel => exact .inr (.inl ⟨rfl, by go_num⟩)
      case measure => simp [intOf]
    · have hn : ¬ ((n1 : Int) + (n2 : Int) < 0) := by omega
      go_wp2_with fail
      go_round
      case rel => exact .inr (.inr ⟨rfl, by go_num⟩)
      case measure => simp [intOf]
    · go_wp2_with fail
      refine HG.out.mono ?_
      rintro e w1 ⟨v1, rfl, ho1, hbw1⟩
      have HO1 := Lib.hid ho1
      have HB1 := Lib.hid hbw1
      have HT1 := Lib.hid (HT.out.below hbw1)
      clear c0 c1' ho1 hbw1
      go_wp2_with fail
      go_loopw [6, 27] (fun v i wr => Hid (Below w.heap.size w wr) ∧ Hid (TwoS wr b o A1 n1 c1 A2 n2 c2 xs ys) ∧ ((i = .int .i64 0 ∧ Hid (Own wr w.heap.size v [])) ∨ (i = .int .i64 1 ∧ Hid (Own wr w.heap.size v xs)) ∨ (i = .int .i64 2 ∧ Hid (Own wr w.heap.size v (xs ++ ys))))) (fun _ i _ => 2 - (intOf i).toNat)
      case atStart => exact ⟨HB1, HT1, .inl ⟨rfl, HO1⟩⟩
      case round =>
        clear HB1 HT1 HO1
        obtain ⟨hbel, ht, hor⟩ := hrel
        have c0 := ht.out.c0
        have c1' := ht.out.c1
        have hsz := hbel.out.size
        rcases hor with ⟨rfl, ho⟩ | ⟨rfl, ho⟩ | ⟨rfl, ho⟩
        · go_wp2_with (at_builtin; refine wpList_app_rd rfl (.tmp 31) (.tmp 32) rfl w.heap.size _ 0 [] rfl ho.out wr.heap.size A1 n1 c1 xs rfl ht.out.r0 ht.out.l0 (by unfold maxLen; omega) (by omega) hsz ?_)
          intro v' w2 hown hgrow
          have HB2 := Lib.hid (hbel.out.grown hgrow hsz (fun k hk => (ho.out.lt k hk).1))
          have HO2 := Lib.hid (show Own w2 w.heap.size v' xs by unfold Own; rw [ht.out.l0]; simpa using hown)
          have HT2 := Lib.hid (show TwoS w2 b o A1 n1 c1 A2 n2 c2 xs ys from HT.out.below HB2.out)
          clear hown hgrow
          go_wp2_with fail
          go_roundw
          case rel => exact ⟨HB2, HT2, .inr (.inl ⟨rfl, HO2⟩)⟩
          case measure => simp [intOf]
        · have ho' : wr.ownsRow w.heap.size 3 1 u6 n1 (xs.map (Value.int .i64)) := by have := ho.out; unfold Own at this; rwa [ht.out.l0] at this
          have HO := Lib.hid ho'
          clear ho'
          go_wp2_with (at_builtin; refine wpList_app_rd rfl (.tmp 31) (.tmp 32) rfl w.heap.size _ n1 xs rfl HO.out wr.heap.size A2 n2 c2 ys rfl ht.out.r1 ht.out.l1 (by unfold maxLen; omega) (by omega) hsz ?_)
          intro v' w2 hown hgrow
          have HB2 := Lib.hid (hbel.out.grown hgrow hsz (fun k hk => (ho.out.lt k hk).1))
          have HO2 := Lib.hid (show Own w2 w.heap.size v' (xs ++ ys) by unfold Own; rw [List.length_append, ht.out.l0, ht.out.l1, List.map_append]; first | exact hown | simpa using hown)
          have HT2 := Lib.hid (show TwoS w2 b o A1 n1 c1 A2 n2 c2 xs ys from HT.out.below HB2.out)
          clear hown hgrow
          go_wp2_with fail
          go_roundw
          case rel => exact ⟨HB2, HT2, .inr (.inr ⟨rfl, HO2⟩)⟩
          case measure => simp [intOf]
        · obtain ⟨A3, c3, rfl, _⟩ := own_rd ho.out
          have HO3 := Lib.hid (show Own wr w.heap.size (.slice A3 (n1 + n2) c3) (xs ++ ys) by have := ho.out; rwa [List.length_append, ht.out.l0, ht.out.l1] at this)
          have hlen := Lib.hid (show (xs ++ ys).length = n1 + n2 by rw [List.length_append, ht.out.l0, ht.out.l1])
          go_wp2_with fail
          go_ret
          exact ⟨A3, c3, congrArg (fun k : Nat => Ending.returned (.slice A3 k c3)) hlen.out, HO3.out, hbel.out⟩
end Go.Proofs.Ytcciiikaejjooaa
