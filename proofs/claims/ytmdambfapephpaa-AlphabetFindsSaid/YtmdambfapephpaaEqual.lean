/- Contracts of the functions that compare lists of events: they answer whether the lists are the same. -/
import Derived.Test.YtmdambfapephpaaLfaults
import Derived.Deep.QuietTactic
import Derived.BigQuiet
import Derived.Laws.StructEq
namespace Go.Proofs.Ytmdambfapephpaa
open Go.RowKit Go.WideMaps Go.Maps

theorem ba_eq {a b : ByteArray} (h : a.data.toList = b.data.toList) : a = b := by
  obtain ⟨⟨x⟩⟩ := a
  obtain ⟨⟨y⟩⟩ := b
  simp at h
  rw [h]
def evB (x y : Ev) : Bool := x.name.toList == y.name.toList && (x.con == y.con && (x.obs == y.obs && (x.frc == y.frc && x.fault == y.fault)))
theorem evB_iff (x y : Ev) : evB x y = true ↔ x = y := by
  obtain ⟨a, b, c, d, e⟩ := x
  obtain ⟨a', b', c', d', e'⟩ := y
  unfold evB
  simp only [Bool.and_eq_true, beq_iff_eq, Lib.toList_data, Ev.mk.injEq]
  exact ⟨fun ⟨h, r⟩ => ⟨ba_eq h, r⟩, fun ⟨h, r⟩ => ⟨by rw [h], r⟩⟩
theorem noGuard : Try.prog.eqGuardType Try.prog.depth 31 = false := by kernel_rfl
theorem neqEv (x y : Ev) (w : World) : (binOp .neq 31 (evV x) (evV y)).run Try.prog w = .ok (.bool (!evB x y)) w := by
  have u3 := Try.underlying3
  have u9 := Try.underlying9
  have u4 := Try.underlying4
  have a3 := Try.isAgg3
  have a4 := Try.isAgg4
  have a9 := Try.isAgg9
  have z3 := Try.sizeOf3
  have z4 := Try.sizeOf4
  have z9 := Try.sizeOf9
  have hS : Try.prog.underlying 31 = some (.struct (Try.prog.fieldsOf 31)) := by kernel_rfl
  have hp : Try.prog.stoodInHeld 31 = false := by kernel_rfl
  unfold evV
  rw [run_neq_struct, show (10000 : Nat) = 9999 + 1 from rfl, run_equalIn_agg w 9999 31 _ _ hS hp]
  simp only [Program.fieldsOf, Try.underlying31]
  go_simp
  unfold evB
  cases h1 : (x.name.toList == y.name.toList) <;> cases h2 : (x.con == y.con) <;> cases h3 : (x.obs == y.obs) <;> cases h4 : (x.frc == y.frc) <;> cases h5 : (x.fault == y.fault) <;> simp_all
theorem evl_step {xs ys : List Ev} {k : Nat} {x y : Ev} (hx : xs[k]? = some x) (hy : ys[k]? = some y) (h : xs.take k = ys.take k) (he : x = y) : xs.take (k + 1) = ys.take (k + 1) := by
  rw [take_snoc_ev hx, take_snoc_ev hy, h, he]
theorem evl_ne {xs ys : List Ev} {k : Nat} {x y : Ev} (hx : xs[k]? = some x) (hy : ys[k]? = some y) (he : x ≠ y) : xs ≠ ys := by
  rintro rfl; rw [hx] at hy; exact he (Option.some.inj hy)
theorem evl_eq {xs ys : List Ev} {n : Nat} (hx : xs.length = n) (hy : ys.length = n) (h : xs.take n = ys.take n) : xs = ys := by
  rwa [List.take_of_length_le (by omega), List.take_of_length_le (by omega)] at h
/-- A comparison's answer. -/
def Tells (xs ys : List Ev) (e : Ending) : Prop := ∃ r : Bool, e = .returned (.bool r) ∧ (r = true ↔ xs = ys)

set_option maxHeartbeats 800000 in
theorem slEqualEv_any (A B : Option Addr) (n m c d Bx By : Nat) (xs ys : List Ev) (w : World) (hx : RdE w Bx A xs) (hy : RdE w By B ys) (hn : xs.length = n) (hm : ys.length = m) (hb : n * 40 ≤ 140737488355328) :
    Calls Try.prog 46 #[.slice A n c, .slice B m d] w fun e w' => Tells xs ys e ∧ ∃ q, w' = w.drewN q := by
  by_cases hnm : n = m
  · subst hnm
    have HN := Lib.hid hn
    have HM := Lib.hid hm
    clear hn hm
    go_enter Try.func46, Try.ntmps46
    go_wp2
    go_loopw [13] (fun i wr => ∃ k : Nat, k ≤ n ∧ i = .int .i64 k ∧ Hid (xs.take k = ys.take k) ∧ ∃ q, wr = w.drewN q) (fun i _ => n - (intOf i).toNat)
    case atStart => exact ⟨0, Nat.zero_le _, rfl, rfl, 0, rfl⟩
    case round =>
      obtain ⟨k, hk, rfl, ht, q, rfl⟩ := hrel
      by_cases hlt : k < n
      · obtain ⟨b1, o1, rfl, _, hc1⟩ := hx (by rw [HN.out]; omega)
        obtain ⟨b2, o2, rfl, _, hc2⟩ := hy (by rw [HM.out]; omega)
        obtain ⟨x, hxe⟩ : ∃ x, xs[k]? = some x := ⟨_, List.getElem?_eq_getElem (by rw [HN.out]; exact hlt)⟩
        obtain ⟨y, hye⟩ : ∃ y, ys[k]? = some y := ⟨_, List.getElem?_eq_getElem (by rw [HM.out]; exact hlt)⟩
        have h1 := hc1 k x hxe
        have h2 := hc2 k y hye
        have HX := Lib.hid hxe
        have HY := Lib.hid hye
        clear hc1 hc2 hx hy hxe hye
        have hq := fun W => neqEv x y W
        obtain ⟨bb, hbb⟩ : ∃ bb, bb = evB x y := ⟨_, rfl⟩
        rw [← hbb] at hq
        have hbi : bb = true ↔ x = y := by rw [hbb]; exact evB_iff x y
        have HBI := Lib.hid hbi
        clear hbb hbi
        obtain ⟨nm, cn, ob, fr, fl⟩ := x
        obtain ⟨nm2, cn2, ob2, fr2, fl2⟩ := y
        obtain ⟨g1, g2, g3, g4, g5⟩ := h1
        obtain ⟨j1, j2, j3, j4, j5⟩ := h2
        dsimp only at g1 g2 g3 g4 g5 j1 j2 j3 j4 j5
        simp only [evV] at hq
        have hg := noGuard
        cases bb
        · have hf := Lib.hid (evl_ne HX.out HY.out (fun h => by have := HBI.out.2 h; simp at this))
          clear HBI ht
          go_wp2
          go_quiet (fail)
          go_wp2
          go_ret
          exact ⟨⟨false, rfl, by simp [hf.out]⟩, by first | exact ⟨_, rfl⟩ | exact dr_add _ _ _⟩
        · have hs := Lib.hid (evl_step HX.out HY.out ht.out (HBI.out.1 rfl))
          clear HBI ht
          go_wp2
          go_quiet (fail)
          go_wp2
          go_roundw
          case rel => exact ⟨k + 1, by omega, by go_num, hs, by first | exact ⟨_, rfl⟩ | exact dr_add _ _ _⟩
          case measure => simp [intOf]; omega
      · have hkn : k = n := by omega
        have hf := Lib.hid (evl_eq HN.out HM.out (by rw [← hkn]; exact ht.out))
        clear hkn ht
        go_wp2
        go_ret
        exact ⟨⟨true, rfl, by simp [hf.out]⟩, _, rfl⟩
  · have hf : xs ≠ ys := by rintro rfl; omega
    have hne : ((n : Int) != (m : Int)) = true := by simp; omega
    have HF := Lib.hid hf
    clear hn hm hf
    go_enter Try.func46, Try.ntmps46
    go_wp2
    go_ret
    exact ⟨⟨false, rfl, by simp [HF.out]⟩, 0, rfl⟩

set_option maxHeartbeats 800000 in
theorem r1Equal_any (A B : Option Addr) (n m c d Bx By : Nat) (xs ys : List Ev) (w : World) (hx : RdE w Bx A xs) (hy : RdE w By B ys) (hn : xs.length = n) (hm : ys.length = m) (hb : n * 40 ≤ 140737488355328) :
    Calls Try.prog 21 #[.slice A n c, .slice B m d] w fun e w' => Tells xs ys e ∧ ∃ q, w' = w.drewN q := by
  by_cases hnm : n = m
  · subst hnm
    have HN := Lib.hid hn
    have HM := Lib.hid hm
    clear hn hm
    go_enter Try.func21, Try.ntmps21
    go_wp2
    go_loopw [5] (fun i wr => ∃ k : Nat, k ≤ n ∧ i = .int .i64 k ∧ Hid (xs.take k = ys.take k) ∧ ∃ q, wr = w.drewN q) (fun i _ => n - (intOf i).toNat)
    case atStart => exact ⟨0, Nat.zero_le _, rfl, rfl, 0, rfl⟩
    case round =>
      obtain ⟨k, hk, rfl, ht, q, rfl⟩ := hrel
      by_cases hlt : k < n
      · obtain ⟨b1, o1, rfl, _, hc1⟩ := hx (by rw [HN.out]; omega)
        obtain ⟨b2, o2, rfl, _, hc2⟩ := hy (by rw [HM.out]; omega)
        obtain ⟨x, hxe⟩ : ∃ x, xs[k]? = some x := ⟨_, List.getElem?_eq_getElem (by rw [HN.out]; exact hlt)⟩
        obtain ⟨y, hye⟩ : ∃ y, ys[k]? = some y := ⟨_, List.getElem?_eq_getElem (by rw [HM.out]; exact hlt)⟩
        have h1 := hc1 k x hxe
        have h2 := hc2 k y hye
        have HX := Lib.hid hxe
        have HY := Lib.hid hye
        clear hc1 hc2 hx hy hxe hye
        have hq := fun W => neqEv x y W
        obtain ⟨bb, hbb⟩ : ∃ bb, bb = evB x y := ⟨_, rfl⟩
        rw [← hbb] at hq
        have hbi : bb = true ↔ x = y := by rw [hbb]; exact evB_iff x y
        have HBI := Lib.hid hbi
        clear hbb hbi
        obtain ⟨nm, cn, ob, fr, fl⟩ := x
        obtain ⟨nm2, cn2, ob2, fr2, fl2⟩ := y
        obtain ⟨g1, g2, g3, g4, g5⟩ := h1
        obtain ⟨j1, j2, j3, j4, j5⟩ := h2
        dsimp only at g1 g2 g3 g4 g5 j1 j2 j3 j4 j5
        simp only [evV] at hq
        have hg := noGuard
        cases bb
        · have hf := Lib.hid (evl_ne HX.out HY.out (fun h => by have := HBI.out.2 h; simp at this))
          clear HBI ht
          go_wp2
          go_quiet (fail)
          go_wp2
          go_ret
          exact ⟨⟨false, rfl, by simp [hf.out]⟩, by first | exact ⟨_, rfl⟩ | exact dr_add _ _ _⟩
        · have hs := Lib.hid (evl_step HX.out HY.out ht.out (HBI.out.1 rfl))
          clear HBI ht
          go_wp2
          go_quiet (fail)
          go_wp2
          go_roundw
          case rel => exact ⟨k + 1, by omega, by go_num, hs, by first | exact ⟨_, rfl⟩ | exact dr_add _ _ _⟩
          case measure => simp [intOf]; omega
      · have hkn : k = n := by omega
        have hf := Lib.hid (evl_eq HN.out HM.out (by rw [← hkn]; exact ht.out))
        clear hkn ht
        go_wp2
        go_ret
        exact ⟨⟨true, rfl, by simp [hf.out]⟩, _, rfl⟩
  · have hf : xs ≠ ys := by rintro rfl; omega
    have hne : ((n : Int) != (m : Int)) = true := by simp; omega
    have HF := Lib.hid hf
    clear hn hm hf
    go_enter Try.func21, Try.ntmps21
    go_wp2
    go_ret
    exact ⟨⟨false, rfl, by simp [HF.out]⟩, 0, rfl⟩

theorem aEqual_any (A B : Option Addr) (n m c d Bx By : Nat) (xs ys : List Ev) (w : World) (hx : RdE w Bx A xs) (hy : RdE w By B ys) (hn : xs.length = n) (hm : ys.length = m) (hb : n * 40 ≤ 140737488355328) :
    Calls Try.prog 20 #[.slice A n c, .slice B m d] w fun e w' => Tells xs ys e ∧ ∃ q, w' = w.drewN q := by
  have H := Lib.hid (slEqualEv_any A B n m c d Bx By xs ys w hx hy hn hm hb)
  clear hn hm hx hy
  go_enter Try.func20, Try.ntmps20
  go_wp2_with (go_at_call 46; refine H.out.mono ?_; rintro e w' ⟨⟨r, rfl, hr⟩, hq⟩; have HR := Lib.hid hr; have HQ := Lib.hid hq; clear hr hq)
  go_ret
  exact ⟨⟨r, rfl, HR.out⟩, HQ.out⟩
end Go.Proofs.Ytmdambfapephpaa
