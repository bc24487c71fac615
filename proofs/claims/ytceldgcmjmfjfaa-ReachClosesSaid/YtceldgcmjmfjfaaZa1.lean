/- Texts merged: what follows were texts of their own. -/
import Derived.Test.YtceldgcmjmfjfaaRows
import Derived.WalkKit
import Derived.WalkSpells
import Derived.WalkLawsBesides
import Derived.Outline
import Derived.Lib.Hide
import Derived.Deep.QuietTactic
import Derived.BigQuiet
import Derived.OwnWalk
import Derived.Sort.Grow
import Derived.Shelf.SlSortCmp.QuietGrown
import Derived.IntWalk
set_option linter.unusedVariables false
set_option linter.unusedSimpArgs false
set_option linter.unusedSectionVars false
/- Layer 3, the ground: slices of ints as they are read; checkSet, the search, contains, cmp.Compare. -/
namespace Go.Proofs.Ytceldgcmjmfjfaa
open Go.RowKit

theorem ret_bool {a b : Bool} (h : a = b) : Ending.returned (.bool a) = .returned (.bool b) := by rw [h]

/-- A slice's address leads, below block B, to cells that hold these ints (asked only where there are any). -/
def RdI (w : World) (B : Nat) (A : Option Addr) (zs : List Int) : Prop :=
  0 < zs.length → ∃ b off, A = some ⟨b, off, none⟩ ∧ b < B ∧ ∀ j, j < zs.length → w.cell? ⟨b, off + j, none⟩ = some (.int .i64 (zs.getD j 0))

theorem RdI.keep {w w' : World} {B : Nat} {A : Option Addr} {zs : List Int} (h : RdI w B A zs) (hk : ∀ b o, b < B → w'.cell? ⟨b, o, none⟩ = w.cell? ⟨b, o, none⟩) : RdI w' B A zs := fun h0 => by
  obtain ⟨b, off, e, hb, hc⟩ := h h0
  exact ⟨b, off, e, hb, fun j hj => (hk b _ hb).trans (hc j hj)⟩
theorem RdI.more {w : World} {B B' : Nat} {A : Option Addr} {zs : List Int} (h : RdI w B A zs) (hB : B ≤ B') : RdI w B' A zs := fun h0 => by
  obtain ⟨b, off, e, hb, hc⟩ := h h0
  exact ⟨b, off, e, by omega, hc⟩
theorem RdI.below {w w' : World} {B B' : Nat} {A : Option Addr} {zs : List Int} (h : RdI w B A zs) (hb : Below B' w w') (hB : B ≤ B') : RdI w' B A zs :=
  h.keep fun _ _ hlt => hb.cell (by exact Nat.lt_of_lt_of_le hlt hB)
theorem RdI.nil (w : World) (B : Nat) (A : Option Addr) : RdI w B A [] := fun h => absurd h (by simp)

theorem below_drewN {B : Nat} {a w : World} (h : Below B a w) (n : Nat) : Below B a (w.drewN n) := ⟨h.os, h.tape, h.output, h.size, h.block⟩
theorem below_of_draws {w w' : World} {B : Nat} (h : ∃ q, w' = w.drewN q) : Below B w w' := by
  obtain ⟨q, rfl⟩ := h
  exact below_drewN (Below.refl _ _) q

theorem dr_add (w : World) (q n : Nat) : ∃ r, (w.drewN q).drewN n = w.drewN r := ⟨q + n, by rw [World.drewN_drewN]⟩
theorem eq_take_step {xs ys : List Int} {k : Nat} (hx : k < xs.length) (hy : k < ys.length) (h : xs.take k = ys.take k) (he : xs.getD k 0 = ys.getD k 0) : xs.take (k + 1) = ys.take (k + 1) := by
  rw [List.take_succ_eq_append_getElem hx, List.take_succ_eq_append_getElem hy, h]
  simp [List.getD, List.getElem?_eq_getElem hx, List.getElem?_eq_getElem hy] at he
  rw [he]
theorem ne_of_getD {xs ys : List Int} {k : Nat} (he : ¬ xs.getD k 0 = ys.getD k 0) : decide (xs = ys) = false := by
  simp only [decide_eq_false_iff_not]; rintro rfl; exact he rfl
theorem eq_of_take {xs ys : List Int} (hl : ys.length = xs.length) (h : xs.take xs.length = ys.take xs.length) : decide (xs = ys) = true := by
  rw [List.take_of_length_le (Nat.le_refl _), List.take_of_length_le (by omega)] at h
  simpa using h

/-- The first error of a list as a set of numbers below n: 2 out of range, 5 not increasing, 0 none. -/
def ordB : Option Int → Int → Bool
  | some y, x => decide (x ≤ y)
  | none, _ => false
def csGo (n : Int) : Option Int → List Int → Int
  | _, [] => 0
  | p, x :: r => if x < 0 ∨ n ≤ x then 2 else if ordB p x = true then 5 else csGo n (some x) r
def csE (n : Int) (zs : List Int) : Int := csGo n none zs
def prev (zs : List Int) (k : Nat) : Option Int := if k = 0 then none else some (zs.getD (k - 1) 0)
theorem prev_succ (zs : List Int) (k : Nat) : prev zs (k + 1) = some (zs.getD k 0) := by simp [prev]
theorem drop_step (zs : List Int) (k : Nat) (h : k < zs.length) : zs.drop k = zs.getD k 0 :: zs.drop (k + 1) := by
  rw [List.drop_eq_getElem_cons h]; simp [List.getD, List.getElem?_eq_getElem h]
theorem cs_range {n : Int} {zs : List Int} {k : Nat} (h : k < zs.length) {v : Int} (hv : csGo n (prev zs k) (zs.drop k) = v) (hx : zs.getD k 0 < 0 ∨ n ≤ zs.getD k 0) : v = 2 := by
  rw [← hv, drop_step zs k h, csGo, if_pos hx]
theorem cs_order {n : Int} {zs : List Int} {k : Nat} (h : k < zs.length) {v : Int} (hv : csGo n (prev zs k) (zs.drop k) = v) (h0 : 0 ≤ zs.getD k 0) (h1 : zs.getD k 0 < n) (hk : 0 < k) (hx : zs.getD k 0 ≤ zs.getD (k - 1) 0) : v = 5 := by
  rw [← hv, drop_step zs k h, csGo, if_neg (by omega)]
  simp only [prev, Nat.ne_of_gt hk, if_false, ordB]
  rw [if_pos (by simpa using hx)]
theorem cs_next {n : Int} {zs : List Int} {k : Nat} (h : k < zs.length) {v : Int} (hv : csGo n (prev zs k) (zs.drop k) = v) (h0 : 0 ≤ zs.getD k 0) (h1 : zs.getD k 0 < n) (hx : 0 < k → zs.getD (k - 1) 0 < zs.getD k 0) : csGo n (prev zs (k + 1)) (zs.drop (k + 1)) = v := by
  rw [← hv, drop_step zs k h, csGo, if_neg (by omega), prev_succ]
  rcases Nat.eq_zero_or_pos k with rfl | hk
  · simp [prev, ordB]
  · have := hx hk
    simp only [prev, Nat.ne_of_gt hk, if_false, ordB]
    rw [if_neg (by simp only [decide_eq_true_eq]; omega)]
theorem cs_end {n : Int} {zs : List Int} {v : Int} (hv : csGo n (prev zs zs.length) (zs.drop zs.length) = v) : v = 0 := by
  rw [← hv, List.drop_of_length_le (Nat.le_refl _), csGo]
theorem ret_int {k : IntKind} {a b : Int} (h : a = b) : Ending.returned (.int k a) = .returned (.int k b) := by rw [h]

set_option maxHeartbeats 400000 in
theorem checkSet_any (A : Option Addr) (n c Bx : Nat) (zs : List Int) (m : Int) (w : World) (hx : RdI w Bx A zs) (hn : zs.length = n) (hb : n ≤ 140737488355328) :
    Calls Try.prog 77 #[.slice A n c, .int .i64 m] w fun e w' => e = .returned (.int .i64 (csE m zs)) ∧ w = w' := by
  have HN := Lib.hid hn
  clear hn
  obtain ⟨v, hv⟩ : ∃ v, v = csE m zs := ⟨_, rfl⟩
  rw [← hv]
  have HV := Lib.hid hv
  clear hv
  go_enter Try.func77, Try.ntmps77
  go_wp2
  go_loop [9] (fun i => ∃ k : Nat, k ≤ n ∧ i = .int .i64 k ∧ Hid (csGo m (prev zs k) (zs.drop k) = v)) (fun i => n - (intOf i).toNat)
  case atStart => exact ⟨0, Nat.zero_le _, rfl, HV.out.symm⟩
  case round =>
    obtain ⟨k, hk, rfl, ht⟩ := hrel
    by_cases hlt : k < n
    · obtain ⟨b1, o1, rfl, _, hc1⟩ := hx (by rw [HN.out]; omega)
      have hz : k < zs.length := by rw [HN.out]; exact hlt
      have h1 := hc1 k hz
      obtain ⟨x, hxe⟩ : ∃ x, x = zs.getD k 0 := ⟨_, rfl⟩
      rw [← hxe] at h1
      by_cases hx0 : x < 0 ∨ m ≤ x
      · have hr := Lib.hid (cs_range hz ht.out (by rw [← hxe]; exact hx0))
        clear ht hxe hc1 hx hz
        by_cases hx1 : x < 0
        · go_wp2
          go_ret
          exact ⟨ret_int hr.out.symm, rfl⟩
        · have hx2 : m ≤ x := by omega
          clear hx0
          go_wp2
          go_ret
          exact ⟨ret_int hr.out.symm, rfl⟩
      · have hx1 : 0 ≤ x := by omega
        have hx2 : x < m := by omega
        clear hx0
        rcases Nat.eq_zero_or_pos k with rfl | hk0
        · have hr := Lib.hid (cs_next hz ht.out (by rw [← hxe]; exact hx1) (by rw [← hxe]; exact hx2) (fun h => absurd h (by omega)))
          clear ht hxe hc1 hx hz
          rw [Nat.add_zero] at h1
          go_wp2
          go_round
          case rel => exact ⟨1, by omega, by go_num, hr⟩
          case measure => simp [intOf]; omega
        · have h2 := hc1 (k - 1) (by omega)
          obtain ⟨y, hye⟩ : ∃ y, y = zs.getD (k - 1) 0 := ⟨_, rfl⟩
          rw [← hye] at h2
          by_cases hxy : x ≤ y
          · have hr := Lib.hid (cs_order hz ht.out (by rw [← hxe]; exact hx1) (by rw [← hxe]; exact hx2) hk0 (by rw [← hxe, ← hye]; exact hxy))
            clear ht hxe hye hc1 hx hz
            go_wp2
            go_ret
            exact ⟨ret_int hr.out.symm, rfl⟩
          · have hr := Lib.hid (cs_next hz ht.out (by rw [← hxe]; exact hx1) (by rw [← hxe]; exact hx2) (fun _ => by rw [← hxe, ← hye]; omega))
            clear ht hxe hye hc1 hx hz
            go_wp2
            go_round
            case rel => exact ⟨k + 1, by omega, by go_num, hr⟩
            case measure => simp [intOf]; omega
    · have hkn : k = zs.length := by rw [HN.out]; omega
      rw [hkn] at ht
      have hr := Lib.hid (cs_end ht.out)
      clear hkn ht
      go_wp2
      go_ret
      exact ⟨ret_int hr.out.symm, rfl⟩

theorem sIsNaN_any (x : Int) (w : World) : Calls Try.prog 110 #[.int .i64 x] w fun e w' => e = .returned (.bool false) ∧ w = w' := by
  go_enter Try.func110, Try.ntmps110
  go_wp2
  go_ret
  exact ⟨rfl, rfl⟩
theorem cIsNaN_any (x : Int) (w : World) : Calls Try.prog 106 #[.int .i64 x] w fun e w' => e = .returned (.bool false) ∧ w = w' := by
  go_enter Try.func106, Try.ntmps106
  go_wp2
  go_ret
  exact ⟨rfl, rfl⟩
theorem less_any (x y : Int) (w : World) : Calls Try.prog 109 #[.int .i64 x, .int .i64 y] w fun e w' => e = .returned (.bool (decide (x < y))) ∧ w = w' := by
  by_cases h : x < y
  all_goals
    go_enter Try.func109, Try.ntmps109
    go_wp2_with (go_at_call 106; refine (cIsNaN_any _ _).mono ?_; rintro e w' ⟨rfl, rfl⟩)
    go_ret
    exact ⟨ret_bool (by simp; try omega), rfl⟩

theorem ret_ib {i : Int} {a b : Bool} (h : a = b) : Ending.returned (.tuple #[.int .i64 i, .bool a]) = .returned (.tuple #[.int .i64 i, .bool b]) := by rw [h]
/-- Where a number belongs in the increasing list: all before i are smaller, that at i is not. -/
def At (zs : List Int) (x : Int) (i : Nat) : Prop := i ≤ zs.length ∧ (∀ t, t < i → zs.getD t 0 < x) ∧ (i < zs.length → x ≤ zs.getD i 0)
def Up (zs : List Int) : Prop := ∀ s t, s < t → t < zs.length → zs.getD s 0 < zs.getD t 0
theorem mem_getD {zs : List Int} {x : Int} (h : x ∈ zs) : ∃ t, t < zs.length ∧ zs.getD t 0 = x := by
  obtain ⟨t, ht, he⟩ := List.mem_iff_getElem.1 h
  exact ⟨t, ht, by simp [List.getD, List.getElem?_eq_getElem ht, he]⟩
theorem getD_mem {zs : List Int} {t : Nat} (h : t < zs.length) : zs.getD t 0 ∈ zs := by
  simp [List.getD, List.getElem?_eq_getElem h]
theorem At.found {zs : List Int} {x : Int} {i : Nat} (_h : At zs x i) (hi : i < zs.length) (he : zs.getD i 0 = x) : decide (x ∈ zs) = true := by
  simp only [decide_eq_true_eq]; rw [← he]; exact getD_mem hi
theorem At.absent {zs : List Int} {x : Int} {i : Nat} (up : Up zs) (h : At zs x i) (hi : i < zs.length → zs.getD i 0 ≠ x) : decide (x ∈ zs) = false := by
  simp only [decide_eq_false_iff_not]
  intro hm
  obtain ⟨t, ht, he⟩ := mem_getD hm
  rcases Nat.lt_trichotomy t i with h1 | h1 | h1
  · have := h.2.1 t h1; omega
  · subst h1; exact hi ht he
  · have h2 := up i t h1 ht
    have h3 := h.2.2 (by omega)
    omega

set_option maxHeartbeats 800000 in
theorem search_any (A : Option Addr) (n c Bx : Nat) (zs : List Int) (x : Int) (w : World) (hx : RdI w Bx A zs) (hn : zs.length = n) (hb : n ≤ 140737488355328) (hup : Up zs) :
    Calls Try.prog 96 #[.slice A n c, .int .i64 x] w fun e w' => (∃ i : Nat, At zs x i ∧ e = .returned (.tuple #[.int .i64 i, .bool (decide (x ∈ zs))])) ∧ w = w' := by
  have HN := Lib.hid hn
  have HU := Lib.hid hup
  clear hn hup
  go_enter Try.func96, Try.ntmps96
  go_wp2
  go_loop [7, 8] (fun a b => ∃ i j : Nat, i ≤ j ∧ j ≤ n ∧ a = .int .i64 i ∧ b = .int .i64 j ∧ Hid (∀ t, t < i → zs.getD t 0 < x) ∧ Hid (∀ t, j ≤ t → t < zs.length → x ≤ zs.getD t 0)) (fun a b => (intOf b).toNat - (intOf a).toNat)
  case atStart => exact ⟨0, n, by omega, by omega, rfl, rfl, fun t h => absurd h (by omega), fun t h' h => by rw [HN.out] at h; omega⟩
  case round =>
    obtain ⟨i, j, hij, hjn, rfl, rfl, hl, hr⟩ := hrel
    by_cases hlt : i < j
    · obtain ⟨b1, o1, rfl, _, hc1⟩ := hx (by rw [HN.out]; omega)
      have hm : (i + j) / 2 < zs.length := by rw [HN.out]; omega
      have hc := hc1 ((i + j) / 2) hm
      obtain ⟨y, hy⟩ : ∃ y, y = zs.getD ((i + j) / 2) 0 := ⟨_, rfl⟩
      rw [← hy] at hc
      clear hc1 hx
      by_cases hxy : y < x
      · have hl' := Lib.hid (show ∀ t, t < (i + j) / 2 + 1 → zs.getD t 0 < x from fun t ht => by
          by_cases e : t = (i + j) / 2
          · rw [e, ← hy]; exact hxy
          · have := HU.out t ((i + j) / 2) (by omega) hm; rw [← hy] at this; omega)
        clear hy hl hm
        go_wp2_with (go_at_call 109; refine (less_any _ _ _).mono ?_; rintro e w' ⟨rfl, rfl⟩)
        go_round
        case rel => exact ⟨(i + j) / 2 + 1, j, by omega, by omega, by go_num, rfl, hl', hr⟩
        case measure => simp [intOf]; omega
      · have hr' := Lib.hid (show ∀ t, (i + j) / 2 ≤ t → t < zs.length → x ≤ zs.getD t 0 from fun t ht h2 => by
          by_cases e : t = (i + j) / 2
          · rw [e, ← hy]; omega
          · have := HU.out ((i + j) / 2) t (by omega) h2; rw [← hy] at this; omega)
        clear hy hr hm
        go_wp2_with (go_at_call 109; refine (less_any _ _ _).mono ?_; rintro e w' ⟨rfl, rfl⟩)
        go_round
        case rel => exact ⟨i, (i + j) / 2, by omega, by omega, rfl, by go_num, hl, hr'⟩
        case measure => simp [intOf]; omega
    · have hij' : i = j := by omega
      subst hij'
      have hat : At zs x i := ⟨by rw [HN.out]; exact hjn, hl.out, fun h => hr.out i (Nat.le_refl _) h⟩
      clear hl hr
      by_cases hin : i < n
      · obtain ⟨b1, o1, rfl, _, hc1⟩ := hx (by rw [HN.out]; omega)
        have hm : i < zs.length := by rw [HN.out]; omega
        have hc := hc1 i hm
        obtain ⟨y, hy⟩ : ∃ y, y = zs.getD i 0 := ⟨_, rfl⟩
        rw [← hy] at hc
        clear hc1 hx
        by_cases hyx : y = x
        · have hf := Lib.hid (hat.found hm (by rw [← hy]; exact hyx))
          have hb1 : (y == x) = true := by simpa using hyx
          have HA := Lib.hid hat
          clear hy hat hm hyx
          go_wp2_with (go_at_call 110; refine (sIsNaN_any _ _).mono ?_; rintro e w' ⟨rfl, rfl⟩)
          go_ret2
          exact ⟨⟨i, HA.out, ret_ib hf.out.symm⟩, rfl⟩
        · have hf := Lib.hid (hat.absent HU.out (fun _ => by rw [← hy]; exact hyx))
          have hb1 : (y == x) = false := by simpa using hyx
          have HA := Lib.hid hat
          clear hy hat hm hyx
          go_wp2_with (go_at_call 110; refine (sIsNaN_any _ _).mono ?_; rintro e w' ⟨rfl, rfl⟩)
          go_ret2
          exact ⟨⟨i, HA.out, ret_ib hf.out.symm⟩, rfl⟩
      · have hf := Lib.hid (hat.absent HU.out (fun h => by rw [HN.out] at h; omega))
        have HA := Lib.hid hat
        clear hat
        go_wp2
        go_ret2
        exact ⟨⟨i, HA.out, ret_ib hf.out.symm⟩, rfl⟩

set_option maxHeartbeats 400000 in
theorem mContains_any (A : Option Addr) (n c Bx : Nat) (zs : List Int) (x : Int) (w : World) (hx : RdI w Bx A zs) (hn : zs.length = n) (hb : n ≤ 140737488355328) (hup : Up zs) :
    Calls Try.prog 76 #[.slice A n c, .int .i64 x] w fun e w' => e = .returned (.bool (decide (x ∈ zs))) ∧ w = w' := by
  have H := Lib.hid (fun W (h : RdI W Bx A zs) => search_any A n c Bx zs x W h hn hb hup)
  obtain ⟨v, hv⟩ : ∃ v, v = decide (x ∈ zs) := ⟨_, rfl⟩
  clear hn hup
  go_enter Try.func76, Try.ntmps76
  go_wp2_with (go_at_call 96; refine (H.out _ hx).mono ?_; rintro e w' ⟨⟨i, _, rfl⟩, rfl⟩)
  go_ret
  exact ⟨rfl, rfl⟩

theorem mem_snoc_take {zs : List Int} {k : Nat} {x : Int} (h : k < zs.length) : x ∈ zs.take (k + 1) ↔ x ∈ zs.take k ∨ zs.getD k 0 = x := by
  rw [List.take_succ_eq_append_getElem h, List.mem_append]
  simp [List.getD, List.getElem?_eq_getElem h, eq_comm]
theorem con_yes {zs : List Int} {k : Nat} {x : Int} (h : k < zs.length) (he : zs.getD k 0 = x) : decide (x ∈ zs) = true := by
  simp only [decide_eq_true_eq]; rw [← he]; exact getD_mem h
theorem con_no {zs : List Int} {n : Nat} {x : Int} (hn : zs.length = n) (h : x ∉ zs.take n) : decide (x ∈ zs) = false := by
  rw [List.take_of_length_le (by omega)] at h; simpa using h

theorem csGo_ok {m : Int} : ∀ (zs : List Int) (p : Option Int), csGo m p zs = 0 → (∀ x ∈ zs, 0 ≤ x ∧ x < m) ∧ zs.Pairwise (· < ·) ∧ ∀ y, p = some y → ∀ x ∈ zs, y < x
  | [], p, _ => ⟨by simp, List.Pairwise.nil, by simp⟩
  | x :: r, p, h => by
    rw [csGo] at h
    by_cases h1 : x < 0 ∨ m ≤ x
    · rw [if_pos h1] at h; omega
    · rw [if_neg h1] at h
      by_cases h2 : ordB p x = true
      · rw [if_pos h2] at h; omega
      · rw [if_neg h2] at h
        obtain ⟨a, b, c⟩ := csGo_ok r (some x) h
        have hlt : ∀ z ∈ r, x < z := c x rfl
        refine ⟨fun z hz => ?_, List.pairwise_cons.2 ⟨hlt, b⟩, fun y hy z hz => ?_⟩
        · rcases List.mem_cons.1 hz with rfl | hz
          · omega
          · exact a z hz
        · subst hy
          have hyx : y < x := by simpa [ordB] using h2
          rcases List.mem_cons.1 hz with rfl | hz
          · exact hyx
          · have := hlt z hz; omega
theorem cs_range_ok {m : Int} {zs : List Int} (h : csE m zs = 0) : ∀ t, t < zs.length → 0 ≤ zs.getD t 0 ∧ zs.getD t 0 < m := fun t ht => by
  have := (csGo_ok zs none h).1 (zs.getD t 0) (getD_mem ht)
  exact this
theorem cs_up {m : Int} {zs : List Int} (h : csE m zs = 0) : Up zs := fun s t hst ht => by
  have := (List.pairwise_iff_getElem.1 (csGo_ok zs none h).2.1) s t (by omega) ht hst
  simpa [List.getD, List.getElem?_eq_getElem ht, List.getElem?_eq_getElem (show s < zs.length by omega)] using this
/-- Two numbers compared. -/
def cmp1 (x y : Int) : Int := if x < y then -1 else if y < x then 1 else 0

set_option maxHeartbeats 400000 in
theorem cmpCompare_any (x y : Int) (w : World) : Calls Try.prog 91 #[.int .i64 x, .int .i64 y] w fun e w' => e = .returned (.int .i64 (cmp1 x y)) ∧ w = w' := by
  have H := Lib.hid cIsNaN_any
  by_cases h1 : x < y
  · have e := Lib.hid (show cmp1 x y = -1 by rw [cmp1, if_pos h1])
    rw [e.out]
    go_enter Try.func91, Try.ntmps91
    go_wp2_with (go_at_call 106; refine (H.out _ _).mono ?_; rintro e w' ⟨rfl, rfl⟩)
    go_ret
    exact ⟨rfl, rfl⟩
  · by_cases h2 : y < x
    · have e := Lib.hid (show cmp1 x y = 1 by rw [cmp1, if_neg h1, if_pos h2])
      rw [e.out]
      go_enter Try.func91, Try.ntmps91
      go_wp2_with (go_at_call 106; refine (H.out _ _).mono ?_; rintro e w' ⟨rfl, rfl⟩)
      go_ret
      exact ⟨rfl, rfl⟩
    · have e := Lib.hid (show cmp1 x y = 0 by rw [cmp1, if_neg h1, if_neg h2])
      rw [e.out]
      go_enter Try.func91, Try.ntmps91
      go_wp2_with (go_at_call 106; refine (H.out _ _).mono ?_; rintro e w' ⟨rfl, rfl⟩)
      go_ret
      exact ⟨rfl, rfl⟩

end Go.Proofs.Ytceldgcmjmfjfaa

/- Layer 3, the ground: lists of the call's own: appends, Clone, slices.Equal of ints. -/
namespace Go.Proofs.Ytceldgcmjmfjfaa
open Go.RowKit


theorem info_int : (Try.prog.info? 3).map (fun i => (i.zero, i.size, i.bytes)) = some (some (.int .i64 0), 1, 8) := by kernel_rfl

/-- The slice value owns, among the blocks from base on, these ints. -/
abbrev Own (w : World) (base : Nat) (v : Value) (zs : List Int) : Prop := w.ownsRow base 3 1 v zs.length (zs.map (Value.int .i64))

theorem filter_take_yes {p : Int → Bool} {zs : List Int} {k : Nat} (h : k < zs.length) (hp : p (zs.getD k 0) = true) : (zs.take (k + 1)).filter p = (zs.take k).filter p ++ [zs.getD k 0] := by
  rw [List.take_succ_eq_append_getElem h, List.filter_append]
  have e : zs.getD k 0 = zs[k] := by simp [List.getD, List.getElem?_eq_getElem h]
  rw [e] at hp ⊢
  simp [hp]
theorem filter_take_no {p : Int → Bool} {zs : List Int} {k : Nat} (h : k < zs.length) (hp : p (zs.getD k 0) = false) : (zs.take (k + 1)).filter p = (zs.take k).filter p := by
  rw [List.take_succ_eq_append_getElem h, List.filter_append]
  have e : zs.getD k 0 = zs[k] := by simp [List.getD, List.getElem?_eq_getElem h]
  rw [e] at hp
  simp [hp]
theorem filter_take_le (p : Int → Bool) (zs : List Int) (k : Nat) : ((zs.take k).filter p).length ≤ k := Nat.le_trans (List.length_filter_le _ _) (List.length_take_le _ _)
theorem filter_take_all {p : Int → Bool} {zs : List Int} {k : Nat} (h : zs.length = k) : (zs.take k).filter p = zs.filter p := by
  rw [List.take_of_length_le (by omega)]
/-- What an append of one number, which first lies in a new block, leaves. -/
theorem own_app {B : Nat} {K K' : List Int} {x : Int} {w wr w1 : World} {u v' : Value} {o : Obj} (hK : K' = K ++ [x]) (hnx : Below B w wr) (hown : Own wr B u K)
    (hown' : w1.ownsRow B 3 1 v' (K.length + 1) (K.map (Value.int .i64) ++ [.int .i64 x])) (hgrow : (wr.alloc o).grownBy w1 u.ownBlock) (hB : B ≤ w.heap.size) : Own w1 B v' K' ∧ Below B w w1 := by
  subst hK
  have := hnx.size
  exact ⟨by simpa [Own] using hown', (hnx.alloc (by omega) o).grown hgrow (by simp; omega) (fun j hj => by have := (hown.lt j hj).1; omega)⟩
theorem own_one {w : World} {x : Int} : ∀ j u, [Value.int .i64 x][j]? = some u → (w.alloc (.cells #[.int .i64 x] 3)).cell? ((⟨w.heap.size, 0, none⟩ : Addr).add j) = some u := by
  intro j u hj
  match j, hj with
  | 0, hj => simp at hj; subst hj; simp [Addr.add]

theorem own_rd {w : World} {base : Nat} {v : Value} {zs : List Int} (h : Own w base v zs) : ∃ A c, v = .slice A zs.length c ∧ RdI w w.heap.size A zs := by
  rcases h.2 with ⟨rfl, h0⟩ | ⟨g, cap, cur, rfl, hg, hh, hn, hcap, hsz, htake⟩
  · rw [h0]; exact ⟨none, 0, rfl, fun h => by omega⟩
  · refine ⟨some ⟨g, 0, none⟩, cap, rfl, fun _ => ⟨g, 0, rfl, (h.lt g rfl).2, fun j hj => ?_⟩⟩
    rw [Nat.zero_add, World.ownsRow.cellAt (cap := cap) h j (by omega), List.getElem?_map, List.getElem?_eq_getElem hj]
    simp [List.getD, List.getElem?_eq_getElem hj]

/-- What a function hands back that makes a list of ints in new memory. -/
def Gives (w : World) (zs : List Int) (e : Ending) (w' : World) : Prop := ∃ A c, e = .returned (.slice A zs.length c) ∧ RdI w' w'.heap.size A zs ∧ Below w.heap.size w w'


/-- What a function hands back that makes a list of ints in new memory, the capacity told. -/
def GivesC (w : World) (zs : List Int) (e : Ending) (w' : World) : Prop := ∃ A c, e = .returned (.slice A zs.length c) ∧ RdI w' w'.heap.size A zs ∧ Below w.heap.size w w' ∧ zs.length ≤ c ∧ c ≤ 9223372036854775807
theorem own_rdc {w : World} {base : Nat} {v : Value} {zs : List Int} (h : Own w base v zs) : ∃ A c, v = .slice A zs.length c ∧ RdI w w.heap.size A zs ∧ zs.length ≤ c ∧ c ≤ 9223372036854775807 := by
  obtain ⟨A, c, e, hr⟩ := own_rd h
  refine ⟨A, c, e, hr, ?_⟩
  rcases h.2 with ⟨rfl, h0⟩ | ⟨g, cap, cur, rfl, hg, hh, hn, hcap, hsz, htake⟩
  · injection e with _ e1 e2; omega
  · injection e with _ e1 e2; unfold maxLen at hcap; omega
theorem own_kept {w w' : World} {B : Nat} {v : Value} {zs : List Int} (h : Own w B v zs) (hb : Below w.heap.size w w') : Own w' B v zs :=
  World.ownsRow.kept (row := none) h ⟨hb.os, hb.tape, hb.output, hb.size, fun i hi _ => hb.block i hi⟩ (Classical.em _)

theorem own_dr {w : World} {base n : Nat} {e : TypeId} {sz : Nat} {v : Value} {xs : List Value} (h : w.ownsRow base e sz v n xs) (q : Nat) : (w.drewN q).ownsRow base e sz v n xs := h
theorem RdI.dr {w : World} {B : Nat} {A : Option Addr} {zs : List Int} (h : RdI w B A zs) (q : Nat) : RdI (w.drewN q) B A zs := h

/-- An append of a slice that reads as a list, nil and empty let in. -/
theorem run_app_rd {w : World} {base : Nat} {v : Value} {n : Nat} {xs : List Int} (hown : w.ownsRow base 3 1 v n (xs.map (Value.int .i64))) {B : Nat} {A : Option Addr} {m c : Nat} {zs : List Int} (hr : RdI w B A zs) (hm : zs.length = m)
    (h63 : n + m ≤ maxLen) (hbytes : (n + m) * 8 ≤ 140737488355328) (hbase : base ≤ w.heap.size) (ty : TypeId) :
    ∃ v' w', (Builtin.append_ #[27, 27] ty #[v, .slice A m c]).run Try.prog w = .ok v' w' ∧ w'.ownsRow base 3 1 v' (n + m) ((xs ++ zs).map (Value.int .i64)) ∧ w.grownBy w' v.ownBlock := by
  obtain ⟨i0, hi, hz0, hz1, hz2⟩ := info_parts info_int
  rcases A with _ | ad
  · have hz : zs = [] := by
      rcases Nat.eq_zero_or_pos zs.length with h | h
      · exact List.eq_nil_of_length_eq_zero h
      · obtain ⟨b, o, e, _⟩ := hr h; cases e
    subst hz
    obtain rfl : m = 0 := hm.symm
    refine ⟨v, w, ?_, by simpa using hown, World.grownBy.refl w _⟩
    have ht := Try.underlying27
    rcases hown.2 with ⟨rfl, rfl⟩ | ⟨g, cap, cur, rfl, _, _, hnc, _⟩
    · simp [Builtin.append_, run_underlying ht, sizeOf, typeInfo, hi, Builtin.lenOf, Builtin.firstCells]
    · simp [Builtin.append_, run_underlying ht, sizeOf, typeInfo, hi, Builtin.lenOf, Builtin.firstCells, hnc, storeCells]
  · have hnews : ∀ j u, (zs.map (Value.int .i64))[j]? = some u → w.cell? (ad.add j) = some u := fun j u hu => by
      have hj : j < zs.length := by simpa using (List.getElem?_eq_some_iff.1 hu).1
      obtain ⟨b, o, e, hb, hc⟩ := hr (by omega)
      cases e
      rw [show ((⟨b, o, none⟩ : Addr).add j) = ⟨b, o + j, none⟩ from by unfold Addr.add; split <;> simp_all, hc j hj]
      rw [List.getElem?_map, List.getElem?_eq_getElem hj] at hu
      simp only [Option.map_some, Option.some.injEq] at hu
      rw [← hu]; simp [List.getD, List.getElem?_eq_getElem hj]
    obtain ⟨v', w', hrun, h2, h3, _⟩ := run_append_own (P := Try.prog) w base 27 ty 3 i0 (.int .i64 0) 1 8 Try.underlying27 hi hz0 hz1 hz2 rfl (by decide) v n _ hown ad m c (zs.map (Value.int .i64)) (by simpa using hm) hnews
      (fun u hu => by obtain ⟨x, _, rfl⟩ := List.mem_map.1 hu; rfl) h63 hbytes hbase
    exact ⟨v', w', hrun, by rw [List.map_append]; exact h2, h3⟩
theorem wpList_app_rd {w : World} {ops : Array Oper} {rest : List Oper} {o : Oper} {a : Act} {Q : Exit → Act → World → Prop} (hgd : o.guard = none) (s x : Operand)
    (ho : o.op = .call { callee := .builtin .append, args := #[s, x], argTypes := #[27, 27] }) (base : Nat) (v : Value) (n : Nat) (xs : List Int) (hs : a.eval s = v) (hown : w.ownsRow base 3 1 v n (xs.map (Value.int .i64)))
    (B : Nat) (A : Option Addr) (m c : Nat) (zs : List Int) (hx : a.eval x = .slice A m c) (hr : RdI w B A zs) (hm : zs.length = m) (h63 : n + m ≤ maxLen) (hbytes : (n + m) * 8 ≤ 140737488355328) (hbase : base ≤ w.heap.size)
    (h : ∀ v' w', w'.ownsRow base 3 1 v' (n + m) ((xs ++ zs).map (Value.int .i64)) → w.grownBy w' v.ownBlock → wpList Try.prog ops Q rest (a.put o.dst v') w') : wpList Try.prog ops Q (o :: rest) a w := by
  refine wpList_plain hgd fun K hK => ?_
  obtain ⟨v', w', hrun, h2, h3⟩ := run_app_rd hown hr hm h63 hbytes hbase o.type (c := c)
  unfold Oper.wp execOp
  simp only [ho, resolve, invoke, builtin, Sem.run_bind, Sem.run_pure, Result.andThen_ok, List.map_toArray, List.map_cons, List.map_nil, hs, hx, hrun]
  exact hK _ _ (h v' w' h2 h3)

theorem below_gr {B n : Nat} {wr w1 : World} {v : Value} {xs : List Value} (hown : wr.ownsRow B 3 1 v n xs) (hg : wr.grownBy w1 v.ownBlock) (hB : B ≤ wr.heap.size) : Below B wr w1 :=
  (Below.refl _ _).grown hg hB (fun k hk => (hown.lt k hk).1)

theorem sliceNil_yes (n c : Nat) (W : World) : (binOp .eql 27 (.slice none n c) (.slice none 0 0)).run Try.prog W = .ok (.bool true) W := by kernel_rfl
theorem sliceNil_no (ad : Addr) (n c : Nat) (W : World) : (binOp .eql 27 (.slice (some ad) n c) (.slice none 0 0)).run Try.prog W = .ok (.bool false) W := by kernel_rfl

set_option maxHeartbeats 800000 in
set_option maxRecDepth 4000 in
theorem clone_own (A : Option Addr) (n c : Nat) (zs : List Int) (w : World) (hx : RdI w w.heap.size A zs) (hn : zs.length = n) (hb : n * 8 ≤ 140737488351232) :
    Calls Try.prog 83 #[.slice A n c] w fun e w' => ∃ v, e = .returned v ∧ Own w' w.heap.size v zs ∧ Below w.heap.size w w' := by
  rcases A with _ | ad
  · have hz : zs = [] := by
      rcases Nat.eq_zero_or_pos zs.length with h | h
      · exact List.eq_nil_of_length_eq_zero h
      · obtain ⟨b, o, e, _⟩ := hx h; cases e
    subst hz
    obtain rfl : n = 0 := hn.symm
    clear hx hn
    have hq := sliceNil_yes 0 c
    go_enter Try.func83, Try.ntmps83
    go_wp2_with fail
    go_ret
    exact ⟨_, rfl, World.ownsRow_nil _ _ _ _, Below.refl _ _⟩
  · have HX := Lib.hid hx
    have HN := Lib.hid hn
    clear hx hn
    have hq := sliceNil_no ad n c
    go_enter Try.func83, Try.ntmps83
    have hb1 : Below w.heap.size w (w.alloc (.cells #[] 3)) := (Below.refl _ _).alloc (Nat.le_refl _) _
    have hown0 := World.ownsRow_lit (e := 3) (size := 1) w #[] 0 (Nat.le_refl w.heap.size) (by unfold maxLen; omega) rfl
    have HO := Lib.hid hown0
    have HB1 := Lib.hid hb1
    clear hb1 hown0
    go_wp2_with (at_builtin; refine wpList_app_rd rfl (.tmp 5) (.tmp 6) rfl w.heap.size _ 0 [] rfl HO.out w.heap.size (some ad) n c zs rfl (HX.out.below HB1.out (Nat.le_refl _)) HN.out (by unfold maxLen; omega) (by omega) (by simp) ?_)
    intro v' w1 hown1 hgrow
    have R := HB1.out.trans ((Below.refl w.heap.size _).grown hgrow (by simp) (fun k hk => (HO.out.lt k hk).1))
    have R1 := Lib.hid (show Own w1 w.heap.size v' zs by unfold Own; rw [HN.out]; simpa using hown1)
    clear hown1 hgrow
    go_wp2_with fail
    go_ret
    exact ⟨v', rfl, R1.out, R⟩
theorem clone_any (A : Option Addr) (n c : Nat) (zs : List Int) (w : World) (hx : RdI w w.heap.size A zs) (hn : zs.length = n) (hb : n * 8 ≤ 140737488351232) :
    Calls Try.prog 83 #[.slice A n c] w fun e w' => GivesC w zs e w' :=
  (clone_own A n c zs w hx hn hb).mono fun e w' ⟨v, e1, ho, hbel⟩ => by
    obtain ⟨A', c', e', hr, h1, h2⟩ := own_rdc ho
    exact ⟨A', c', by rw [e1, e'], hr, hbel, h1, h2⟩
theorem clone_sl (A : Option Addr) (n c : Nat) (zs : List Int) (w : World) (hx : RdI w w.heap.size A zs) (hn : zs.length = n) (hb : n * 8 ≤ 140737488351232) :
    Calls Try.prog 83 #[.slice A n c] w fun e w' => ∃ A' c', e = .returned (.slice A' zs.length c') ∧ Own w' w.heap.size (.slice A' zs.length c') zs ∧ Below w.heap.size w w' :=
  (clone_own A n c zs w hx hn hb).mono fun e w' ⟨v, e1, ho, hbel⟩ => by
    obtain ⟨A', c', e', hr, h1, h2⟩ := own_rdc ho
    exact ⟨A', c', by rw [e1, e'], by rw [← e']; exact ho, hbel⟩

set_option maxHeartbeats 400000 in
theorem equalInt_any (A B : Option Addr) (n m c d Bx By : Nat) (xs ys : List Int) (w : World) (hx : RdI w Bx A xs) (hy : RdI w By B ys) (hn : xs.length = n) (hm : ys.length = m) (hb : n ≤ 140737488355328) (hb' : m ≤ 140737488355328) :
    Calls Try.prog 81 #[.slice A n c, .slice B m d] w fun e w' => e = .returned (.bool (decide (xs = ys))) ∧ ∃ q, w' = w.drewN q := by
  by_cases hnm : n = m
  · subst hnm
    have HN := Lib.hid hn
    have HM := Lib.hid hm
    clear hn hm
    go_enter Try.func81, Try.ntmps81
    go_wp2
    go_loopw [13] (fun i wr => ∃ k : Nat, k ≤ n ∧ i = .int .i64 k ∧ Hid (xs.take k = ys.take k) ∧ ∃ q, wr = w.drewN q) (fun i _ => n - (intOf i).toNat)
    case atStart => exact ⟨0, Nat.zero_le _, rfl, rfl, 0, rfl⟩
    case round =>
      obtain ⟨k, hk, rfl, ht, q, rfl⟩ := hrel
      by_cases hlt : k < n
      · obtain ⟨b1, o1, rfl, _, hc1⟩ := hx (by rw [HN.out]; omega)
        obtain ⟨b2, o2, rfl, _, hc2⟩ := hy (by rw [HM.out]; omega)
        have h1 := hc1 k (by rw [HN.out]; exact hlt)
        have h2 := hc2 k (by rw [HM.out]; exact hlt)
        clear hc1 hc2 hx hy
        obtain ⟨x, hx⟩ : ∃ x, x = xs.getD k 0 := ⟨_, rfl⟩
        obtain ⟨y, hy⟩ : ∃ y, y = ys.getD k 0 := ⟨_, rfl⟩
        rw [← hx] at h1
        rw [← hy] at h2
        by_cases hxy : x = y
        · have hs := Lib.hid (eq_take_step (by rw [HN.out]; exact hlt) (by rw [HM.out]; exact hlt) ht.out (by rw [← hx, ← hy]; exact hxy))
          have hne : (x != y) = false := by simp [hxy]
          clear hx hy hxy ht
          go_wp2
          go_quiet (fail)
          go_wp2
          go_roundw
          case rel => exact ⟨k + 1, by omega, by go_num, hs, by first | exact ⟨_, rfl⟩ | exact dr_add _ _ _⟩
          case measure => simp [intOf]; omega
        · have hf := Lib.hid (ne_of_getD (xs := xs) (ys := ys) (k := k) (by rw [← hx, ← hy]; exact hxy))
          have hne : (x != y) = true := by simp [hxy]
          clear hx hy hxy ht
          go_wp2
          go_quiet (fail)
          go_wp2
          go_ret
          exact ⟨ret_bool hf.out.symm, by first | exact ⟨_, rfl⟩ | exact dr_add _ _ _⟩
      · have hkn : k = n := by omega
        have hf := Lib.hid (eq_of_take (xs := xs) (ys := ys) (by rw [HN.out, HM.out]) (by rw [HN.out, ← hkn]; exact ht.out))
        clear hkn ht
        go_wp2
        go_ret
        exact ⟨ret_bool hf.out.symm, _, rfl⟩
  · have hf : decide (xs = ys) = false := by simp only [decide_eq_false_iff_not]; rintro rfl; omega
    have hne : ((n : Int) != (m : Int)) = true := by simp; omega
    clear hn hm
    go_enter Try.func81, Try.ntmps81
    go_wp2
    go_ret
    exact ⟨ret_bool hf.symm, 0, rfl⟩

theorem RdI.take {w : World} {B : Nat} {A : Option Addr} {zs : List Int} (h : RdI w B A zs) (k : Nat) : RdI w B A (zs.take k) := fun h0 => by
  rw [List.length_take] at h0
  obtain ⟨b, o, e, hb, hc⟩ := h (by omega)
  refine ⟨b, o, e, hb, fun j hj => ?_⟩
  rw [List.length_take] at hj
  rw [hc j (by omega), List.getD, List.getD, List.getElem?_take_of_lt (by omega)]

end Go.Proofs.Ytceldgcmjmfjfaa

/- Layer 3: the reference's SameInts, has, List, and the law's Has. -/
namespace Go.Proofs.Ytceldgcmjmfjfaa
open Go.RowKit


end Go.Proofs.Ytceldgcmjmfjfaa

/- Layer 3: edges and automata as they are read; isState, contains, hasEvent, compareEdges. -/
namespace Go.Proofs.Ytceldgcmjmfjfaa
open Go.RowKit Go.Sort

structure Ed where
  f : Int
  e : Int
  t : Int
  deriving DecidableEq

/-- At this address lie the three cells of an edge. -/
def EdAt (w : World) (b o : Nat) (x : Ed) : Prop :=
  w.cell? ⟨b, o, none⟩ = some (.int .i64 x.f) ∧ w.cell? ⟨b, o + 1, none⟩ = some (.int .i64 x.e) ∧ w.cell? ⟨b, o + 2, none⟩ = some (.int .i64 x.t)
/-- A slice's address leads, below block B, to these edges (asked only where there are any). -/
def RdG (w : World) (B : Nat) (A : Option Addr) (l : List Ed) : Prop :=
  0 < l.length → ∃ b off, A = some ⟨b, off, none⟩ ∧ b < B ∧ ∀ j x, l[j]? = some x → EdAt w b (off + j * 3) x
theorem EdAt.keep {w w' : World} {b o : Nat} {x : Ed} (h : EdAt w b o x) (hk : ∀ o, w'.cell? ⟨b, o, none⟩ = w.cell? ⟨b, o, none⟩) : EdAt w' b o x :=
  ⟨(hk _).trans h.1, (hk _).trans h.2.1, (hk _).trans h.2.2⟩
theorem RdG.keep {w w' : World} {B : Nat} {A : Option Addr} {l : List Ed} (h : RdG w B A l) (hk : ∀ b o, b < B → w'.cell? ⟨b, o, none⟩ = w.cell? ⟨b, o, none⟩) : RdG w' B A l := fun h0 => by
  obtain ⟨b, off, e, hb, hc⟩ := h h0
  exact ⟨b, off, e, hb, fun j x hj => (hc j x hj).keep fun o => hk b o hb⟩
theorem RdG.more {w : World} {B B' : Nat} {A : Option Addr} {l : List Ed} (h : RdG w B A l) (hB : B ≤ B') : RdG w B' A l := fun h0 => by
  obtain ⟨b, off, e, hb, hc⟩ := h h0
  exact ⟨b, off, e, by omega, hc⟩
theorem RdG.below {w w' : World} {B B' : Nat} {A : Option Addr} {l : List Ed} (h : RdG w B A l) (hb : Below B' w w') (hB : B ≤ B') : RdG w' B A l :=
  h.keep fun _ _ hlt => hb.cell (by exact Nat.lt_of_lt_of_le hlt hB)
theorem RdG.nil (w : World) (B : Nat) (A : Option Addr) : RdG w B A [] := fun h => absurd h (by simp)
theorem RdG.dr {w : World} {B : Nat} {A : Option Addr} {l : List Ed} (h : RdG w B A l) (q : Nat) : RdG (w.drewN q) B A l := h

structure Au where
  al : List Int
  st : Int
  mr : List Int
  ed : List Ed
  deriving DecidableEq

/-- These cells read, below block B, as this automaton. -/
structure AuR (w : World) (B : Nat) (A : Option Addr) (n c : Nat) (s : Int) (M : Option Addr) (m d : Nat) (E : Option Addr) (k g : Nat) (a : Au) : Prop where
  al : RdI w B A a.al
  mr : RdI w B M a.mr
  ed : RdG w B E a.ed
  hn : a.al.length = n
  hm : a.mr.length = m
  hk : a.ed.length = k
  st : a.st = s
  cn : n ≤ c ∧ c ≤ 9223372036854775807
  cm : m ≤ d ∧ d ≤ 9223372036854775807
  ck : k ≤ g ∧ g ≤ 9223372036854775807
  bn : n ≤ 100000
  bm : m ≤ 100000
  bk : k ≤ 1000000
theorem AuR.keep {w w' : World} {B : Nat} {A : Option Addr} {n c : Nat} {s : Int} {M : Option Addr} {m d : Nat} {E : Option Addr} {k g : Nat} {a : Au} (h : AuR w B A n c s M m d E k g a) (hk : ∀ b o, b < B → w'.cell? ⟨b, o, none⟩ = w.cell? ⟨b, o, none⟩) : AuR w' B A n c s M m d E k g a :=
  { h with al := h.al.keep hk, mr := h.mr.keep hk, ed := h.ed.keep hk }
theorem AuR.more {w : World} {B B' : Nat} {A : Option Addr} {n c : Nat} {s : Int} {M : Option Addr} {m d : Nat} {E : Option Addr} {k g : Nat} {a : Au} (h : AuR w B A n c s M m d E k g a) (hB : B ≤ B') : AuR w B' A n c s M m d E k g a :=
  { h with al := h.al.more hB, mr := h.mr.more hB, ed := h.ed.more hB }
theorem AuR.below {w w' : World} {B B' : Nat} {A : Option Addr} {n c : Nat} {s : Int} {M : Option Addr} {m d : Nat} {E : Option Addr} {k g : Nat} {a : Au} (h : AuR w B A n c s M m d E k g a) (hb : Below B' w w') (hB : B ≤ B') : AuR w' B A n c s M m d E k g a :=
  h.keep fun _ _ hlt => hb.cell (by exact Nat.lt_of_lt_of_le hlt hB)
/-- What a function hands back that makes an automaton in new memory. -/
def AuV (a : Au) (v : Value) (w : World) : Prop := ∃ A n c s M m d E k g, v = .agg #[.slice A n c, .int .i64 s, .slice M m d, .slice E k g] ∧ AuR w w.heap.size A n c s M m d E k g a

/-- Whether a number is one of n. -/
def inSt (s x : Int) : Bool := decide (0 ≤ x) && decide (x < s)
theorem isState_any (A : Option Addr) (n c : Nat) (s : Int) (M : Option Addr) (m d : Nat) (E : Option Addr) (k g : Nat) (x : Int) (w : World) :
    Calls Try.prog 97 #[.agg #[.slice A n c, .int .i64 s, .slice M m d, .slice E k g], .int .i64 x] w fun e w' => e = .returned (.bool (inSt s x)) ∧ Below w.heap.size w w' := by
  by_cases h1 : 0 ≤ x
  · by_cases h2 : x < s
    · have hr := Lib.hid (show inSt s x = true by simp [inSt, h1, h2])
      rw [hr.out]
      go_enter Try.func97, Try.ntmps97
      go_wp2
      go_ret
      exact ⟨rfl, (Below.refl _ _).alloc (Nat.le_refl _) _⟩
    · have hr := Lib.hid (show inSt s x = false by simp [inSt, h2])
      rw [hr.out]
      go_enter Try.func97, Try.ntmps97
      go_wp2
      go_ret
      exact ⟨rfl, (Below.refl _ _).alloc (Nat.le_refl _) _⟩
  · have hr := Lib.hid (show inSt s x = false by simp [inSt, h1])
    rw [hr.out]
    go_enter Try.func97, Try.ntmps97
    go_wp2
    go_ret
    exact ⟨rfl, (Below.refl _ _).alloc (Nat.le_refl _) _⟩

theorem hasEvent_any (A : Option Addr) (n c : Nat) (s : Int) (M : Option Addr) (m d : Nat) (E : Option Addr) (k g : Nat) (x : Int) (B : Nat) (zs : List Int) (w : World) (hx : RdI w B A zs) (hB : B ≤ w.heap.size) (hn : zs.length = n) (hb : n ≤ 100000) (hup : Up zs) :
    Calls Try.prog 98 #[.agg #[.slice A n c, .int .i64 s, .slice M m d, .slice E k g], .int .i64 x] w fun e w' => e = .returned (.bool (decide (x ∈ zs))) ∧ Below w.heap.size w w' := by
  have hb1 : ∀ o, Below w.heap.size w (w.alloc o) := fun o => (Below.refl _ _).alloc (Nat.le_refl _) o
  have H := Lib.hid (fun o => mContains_any A n c B zs x (w.alloc o) (hx.below (hb1 o) hB) hn (by omega) hup)
  have HB := Lib.hid hb1
  obtain ⟨v, hv⟩ : ∃ v, v = decide (x ∈ zs) := ⟨_, rfl⟩
  rw [← hv] at H ⊢
  clear hn hup hx hv hb1
  go_enter Try.func98, Try.ntmps98
  go_wp2_with (go_at_call 76; refine (H.out _).mono ?_; rintro e w' ⟨rfl, rfl⟩)
  go_ret
  exact ⟨rfl, HB.out _⟩

/-- Two edges compared, by From, then Event. -/
def cmpE (x y : Ed) : Int := if cmp1 x.f y.f ≠ 0 then cmp1 x.f y.f else cmp1 x.e y.e
theorem compareEdges_any (f1 e1 t1 f2 e2 t2 : Int) (w : World) :
    Calls Try.prog 99 #[.agg #[.int .i64 f1, .int .i64 e1, .int .i64 t1], .agg #[.int .i64 f2, .int .i64 e2, .int .i64 t2]] w fun e w' => e = .returned (.int .i64 (cmpE ⟨f1, e1, t1⟩ ⟨f2, e2, t2⟩)) ∧ ∃ q os', w' = grow (w.drewN q) os' := by
  have H := Lib.hid cmpCompare_any
  obtain ⟨u, hu⟩ : ∃ u, u = cmp1 f1 f2 := ⟨_, rfl⟩
  obtain ⟨v, hv⟩ : ∃ v, v = cmp1 e1 e2 := ⟨_, rfl⟩
  have H1 := Lib.hid (fun W => by have h := H.out f1 f2 W; rw [← hu] at h; exact h)
  have H2 := Lib.hid (fun W => by have h := H.out e1 e2 W; rw [← hv] at h; exact h)
  by_cases h0 : u = 0
  · have hr := Lib.hid (show cmpE ⟨f1, e1, t1⟩ ⟨f2, e2, t2⟩ = v by simp [cmpE, ← hu, ← hv, h0])
    rw [hr.out]
    have hb : (u != 0) = false := by simp [h0]
    clear hu hv h0
    go_enter Try.func99, Try.ntmps99
    go_wp2_with fail
    refine (H1.out _).mono ?_
    rintro e w' ⟨rfl, rfl⟩
    go_wp2_with fail
    refine (H2.out _).mono ?_
    rintro e w' ⟨rfl, rfl⟩
    go_wp2
    go_ret
    exact ⟨rfl, 0, _, by rw [alloc_eq_grow, alloc_eq_grow, grow_grow]; rfl⟩
  · have hr := Lib.hid (show cmpE ⟨f1, e1, t1⟩ ⟨f2, e2, t2⟩ = u by simp [cmpE, ← hu, h0])
    rw [hr.out]
    have hb : (u != 0) = true := by simp [h0]
    clear hu hv h0
    go_enter Try.func99, Try.ntmps99
    go_wp2_with fail
    refine (H1.out _).mono ?_
    rintro e w' ⟨rfl, rfl⟩
    go_wp2
    go_ret
    exact ⟨rfl, 0, _, by rw [alloc_eq_grow, alloc_eq_grow, grow_grow]; rfl⟩
theorem below_grow (w : World) (q : Nat) (os : Array Obj) : Below w.heap.size w (grow (w.drewN q) os) :=
  ⟨rfl, rfl, rfl, by simp [grow], fun i hi => by simp [grow, Array.getElem?_append, show i < w.heap.size from hi]⟩
end Go.Proofs.Ytceldgcmjmfjfaa

/- Layer 3: Check of the program: the first error of an automaton. -/
namespace Go.Proofs.Ytceldgcmjmfjfaa
open Go.RowKit Go.Sort

/-- The four cells of an automaton in a box. -/
structure BoxA (w : World) (b : Nat) (A : Option Addr) (n c : Nat) (s : Int) (M : Option Addr) (m d : Nat) (E : Option Addr) (k g : Nat) : Prop where
  c0 : w.cell? ⟨b, 0, none⟩ = some (.slice A n c)
  c1 : w.cell? ⟨b, 1, none⟩ = some (.int .i64 s)
  c2 : w.cell? ⟨b, 2, none⟩ = some (.slice M m d)
  c3 : w.cell? ⟨b, 3, none⟩ = some (.slice E k g)
theorem BoxA.below {w w' : World} {b B : Nat} {A : Option Addr} {n c : Nat} {s : Int} {M : Option Addr} {m d : Nat} {E : Option Addr} {k g : Nat} (h : BoxA w b A n c s M m d E k g) (hb : Below B w w') (hB : b < B) : BoxA w' b A n c s M m d E k g :=
  ⟨(hb.cell (p := ⟨b, 0, none⟩) hB).trans h.c0, (hb.cell (p := ⟨b, 1, none⟩) hB).trans h.c1, (hb.cell (p := ⟨b, 2, none⟩) hB).trans h.c2, (hb.cell (p := ⟨b, 3, none⟩) hB).trans h.c3⟩
theorem BoxA.made (w : World) (A : Option Addr) (n c : Nat) (s : Int) (M : Option Addr) (m d : Nat) (E : Option Addr) (k g : Nat) (t : TypeId) : BoxA (w.alloc (.cells #[.slice A n c, .int .i64 s, .slice M m d, .slice E k g] t)) w.heap.size A n c s M m d E k g :=
  ⟨by rw [World.cell?_alloc_at _ _ _ _ rfl]; rfl, by rw [World.cell?_alloc_at _ _ _ _ rfl]; rfl, by rw [World.cell?_alloc_at _ _ _ _ rfl]; rfl, by rw [World.cell?_alloc_at _ _ _ _ rfl]; rfl⟩
theorem BoxA.drewN {w : World} {b : Nat} {A : Option Addr} {n c : Nat} {s : Int} {M : Option Addr} {m d : Nat} {E : Option Addr} {k g : Nat} (h : BoxA w b A n c s M m d E k g) (q : Nat) : BoxA (w.drewN q) b A n c s M m d E k g := ⟨h.c0, h.c1, h.c2, h.c3⟩
theorem bcell {W w1 : World} (hb : Below W.heap.size W w1) : (∀ b o, b < W.heap.size → w1.cell? ⟨b, o, none⟩ = W.cell? ⟨b, o, none⟩) ∧ (∀ b o, b < W.heap.size → w1.frozen? ⟨b, o, none⟩ = W.frozen? ⟨b, o, none⟩) :=
  ⟨fun b o h => hb.cell (p := ⟨b, o, none⟩) h, fun b o h => hb.frozen (p := ⟨b, o, none⟩) h⟩

theorem EdAt.below {w w' : World} {b o B : Nat} {x : Ed} (h : EdAt w b o x) (hb : Below B w w') (hB : b < B) : EdAt w' b o x := h.keep fun o => hb.cell (p := ⟨b, o, none⟩) hB
theorem EdAt.made (w : World) (f e t : Int) (T : TypeId) : EdAt (w.alloc (.cells #[.int .i64 f, .int .i64 e, .int .i64 t] T)) w.heap.size 0 ⟨f, e, t⟩ :=
  ⟨by rw [World.cell?_alloc_at _ _ _ _ rfl]; rfl, by rw [World.cell?_alloc_at _ _ _ _ rfl]; rfl, by rw [World.cell?_alloc_at _ _ _ _ rfl]; rfl⟩
theorem EdAt.shift0 {w : World} {b : Nat} {x : Ed} (h : EdAt w b 0 x) : w.cell? ⟨b, 0, none⟩ = some (.int .i64 x.f) ∧ w.cell? ⟨b, 1, none⟩ = some (.int .i64 x.e) ∧ w.cell? ⟨b, 2, none⟩ = some (.int .i64 x.t) := h
def ordE : Option Ed → Ed → Bool
  | some y, x => decide (cmpE x y ≤ 0)
  | none, _ => false
/-- The first error of edges behind an edge. -/
def egGo (al : List Int) (s : Int) : Option Ed → List Ed → Int
  | _, [] => 0
  | p, x :: r => if inSt s x.f = false ∨ inSt s x.t = false then 2 else if x.e ∉ al then 9 else if ordE p x = true then 5 else egGo al s (some x) r
def egE (a : Au) : Int := egGo a.al a.st none a.ed
def prevE (l : List Ed) (j : Nat) : Option Ed := if j = 0 then none else l[j - 1]?
def edZ : Ed := ⟨0, 0, 0⟩
theorem drop_stepE {l : List Ed} {j : Nat} {x : Ed} (h : l[j]? = some x) : l.drop j = x :: l.drop (j + 1) := by
  obtain ⟨hk, e⟩ := List.getElem?_eq_some_iff.1 h
  rw [List.drop_eq_getElem_cons hk, e]
theorem eg_range {al : List Int} {s : Int} {l : List Ed} {j : Nat} {x : Ed} {p : Option Ed} {v : Int} (h : l[j]? = some x) (hv : egGo al s p (l.drop j) = v) (hx : inSt s x.f = false ∨ inSt s x.t = false) : v = 2 := by
  rw [← hv, drop_stepE h, egGo, if_pos hx]
theorem eg_unknown {al : List Int} {s : Int} {l : List Ed} {j : Nat} {x : Ed} {p : Option Ed} {v : Int} (h : l[j]? = some x) (hv : egGo al s p (l.drop j) = v) (h1 : inSt s x.f = true) (h2 : inSt s x.t = true) (hx : decide (x.e ∈ al) = false) : v = 9 := by
  rw [← hv, drop_stepE h, egGo, if_neg (by simp [h1, h2]), if_pos (by simpa using hx)]
theorem prevE_some {l : List Ed} {j : Nat} {y : Ed} (hj : 0 < j) (hy : l[j - 1]? = some y) : prevE l j = some y := by
  rw [prevE, if_neg (Nat.ne_of_gt hj), hy]
theorem eg_order {al : List Int} {s : Int} {l : List Ed} {j : Nat} {x y : Ed} {v : Int} (h : l[j]? = some x) (hv : egGo al s (prevE l j) (l.drop j) = v) (h1 : inSt s x.f = true) (h2 : inSt s x.t = true) (h3 : decide (x.e ∈ al) = true) (hj : 0 < j) (hy : l[j - 1]? = some y) (hx : cmpE x y ≤ 0) : v = 5 := by
  rw [← hv, prevE_some hj hy, drop_stepE h, egGo, if_neg (by simp [h1, h2]), if_neg (by simpa using h3), if_pos (by simpa [ordE] using hx)]
theorem eg_next {al : List Int} {s : Int} {l : List Ed} {j : Nat} {x : Ed} {v : Int} (h : l[j]? = some x) (hv : egGo al s (prevE l j) (l.drop j) = v) (h1 : inSt s x.f = true) (h2 : inSt s x.t = true) (h3 : decide (x.e ∈ al) = true) (hx : ∀ y, 0 < j → l[j - 1]? = some y → ¬ cmpE x y ≤ 0) : egGo al s (prevE l (j + 1)) (l.drop (j + 1)) = v := by
  have e : prevE l (j + 1) = some x := by simp [prevE, h]
  rw [e, ← hv, drop_stepE h, egGo, if_neg (by simp [h1, h2]), if_neg (by simpa using h3)]
  rcases Nat.eq_zero_or_pos j with rfl | hj
  · simp [prevE, ordE]
  · cases hy : l[j - 1]? with
    | none => simp [prevE, hy, ordE, Nat.ne_of_gt hj]
    | some y => rw [prevE_some hj hy, if_neg (by simpa [ordE] using hx y hj hy)]
theorem eg_end {al : List Int} {s : Int} {l : List Ed} {j : Nat} {p : Option Ed} {v : Int} (hj : l.length = j) (hv : egGo al s p (l.drop j) = v) : v = 0 := by
  rw [← hv, List.drop_of_length_le (by omega), egGo]

set_option maxHeartbeats 1600000 in
theorem checkEdges_any (A : Option Addr) (n c : Nat) (s : Int) (M : Option Addr) (m d : Nat) (E : Option Addr) (k g : Nat) (a : Au) (w : World) (h : AuR w w.heap.size A n c s M m d E k g a) (hup : Up a.al) :
    Calls Try.prog 78 #[.agg #[.slice A n c, .int .i64 s, .slice M m d, .slice E k g]] w fun e w' => e = .returned (.int .i64 (egE a)) ∧ Below w.heap.size w w' := by
  obtain ⟨b0, hb0⟩ : ∃ b0, b0 = w.heap.size := ⟨_, rfl⟩
  have HR := Lib.hid h
  have hk1 := h.bk
  obtain ⟨v, hv⟩ : ∃ v, v = egE a := ⟨_, rfl⟩
  rw [← hv]
  have HV := Lib.hid (show egGo a.al s (prevE a.ed 0) (a.ed.drop 0) = v by rw [hv, egE, h.st]; rfl)
  have HS := Lib.hid (fun x W => isState_any A n c s M m d E k g x W)
  have HE := Lib.hid (fun x W (hw : Below w.heap.size w W) => hasEvent_any A n c s M m d E k g x w.heap.size a.al W (h.al.below hw (Nat.le_refl _)) hw.size h.hn h.bn hup)
  have HC := Lib.hid compareEdges_any
  have HX := Lib.hid (BoxA.made w A n c s M m d E k g 30)
  have HB1 := Lib.hid ((Below.refl w.heap.size w).alloc (Nat.le_refl _) (.cells #[.slice A n c, .int .i64 s, .slice M m d, .slice E k g] 30))
  clear h hup hv
  go_enter Try.func78, Try.ntmps78
  go_wp2_with fail
  go_loopw [8] (fun i wr => ∃ j : Nat, j ≤ k ∧ i = .int .i64 j ∧ Hid (egGo a.al s (prevE a.ed j) (a.ed.drop j) = v) ∧ Below w.heap.size w wr ∧ Hid (BoxA wr w.heap.size A n c s M m d E k g) ∧ w.heap.size < wr.heap.size) (fun i _ => k - (intOf i).toNat)
  case atStart => exact ⟨0, Nat.zero_le _, rfl, HV, HB1.out, HX, by simp⟩
  case round =>
    obtain ⟨j, hj, rfl, ht, hbel, hbx, hlt0⟩ := hrel
    have hk2 := Lib.hid HR.out.hk
    by_cases hlt : j < k
    · have hz : j < a.ed.length := by rw [hk2.out]; exact hlt
      obtain ⟨b1, o1, rfl, hb1, hc1⟩ := HR.out.ed (by omega)
      obtain ⟨x, hx⟩ : ∃ x, a.ed[j]? = some x := ⟨_, List.getElem?_eq_getElem hz⟩
      have hxa := (hc1 j x hx)
      have hxr : EdAt wr b1 (o1 + j * 3) x := hxa.keep fun o => hbel.cell (p := ⟨b1, o, none⟩) hb1
      obtain ⟨x0, x1, x2⟩ := hxr
      have hX := Lib.hid hx
      clear hx hxa hz hc1
      obtain ⟨xf, xe, xt⟩ := x
      obtain ⟨u0, hu0⟩ : ∃ u0, inSt s xf = u0 := ⟨_, rfl⟩
      have H0 := Lib.hid (fun W => by have h := HS.out xf W; rw [hu0] at h; exact h)
      simp only at x0 x1 x2
      have hl1 : Below wr.heap.size wr (wr.alloc (.cells #[.int .i64 xf, .int .i64 xe, .int .i64 xt] 70)) := (Below.refl _ _).alloc (Nat.le_refl _) _
      have HL1 := Lib.hid hl1
      have BX := Lib.hid (hbx.out.below hl1 hlt0)
      have XX := Lib.hid (EdAt.made wr xf xe xt 70)
      obtain ⟨y0, y1, y2, y3⟩ := hbx.out
      clear hl1
      cases u0
      · have hr := Lib.hid (eg_range hX.out ht.out (.inl hu0))
        clear hu0
        go_wp2_with fail
        refine (H0.out _).mono ?_
        rintro e w1 ⟨rfl, hbw⟩
        have hz1 := hbw.size
        simp only [World.size_alloc] at hz1
        have BX1 := Lib.hid (BX.out.below hbw (by simp; omega))
        have XX1 := Lib.hid (XX.out.below hbw (by simp))
        have hB1 := hbel.trans ((HL1.out.trans (hbw.mono (by simp))).mono (Nat.le_of_lt hlt0))
        obtain ⟨p0, p1, p2, p3⟩ := BX1.out
        obtain ⟨q0, q1, q2⟩ := XX1.out.shift0
        clear hbw
        go_wp2_with fail
        go_ret
        exact ⟨ret_int hr.out.symm, hB1⟩
      · obtain ⟨u1, hu1⟩ : ∃ u1, inSt s xt = u1 := ⟨_, rfl⟩
        have H1 := Lib.hid (fun W => by have h := HS.out xt W; rw [hu1] at h; exact h)
        cases u1
        · have hr := Lib.hid (eg_range hX.out ht.out (.inr hu1))
          clear hu0 hu1
          go_wp2_with fail
          refine (H0.out _).mono ?_
          rintro e w1 ⟨rfl, hbw⟩
          have hz1 := hbw.size
          simp only [World.size_alloc] at hz1
          have BX1 := Lib.hid (BX.out.below hbw (by simp; omega))
          have XX1 := Lib.hid (XX.out.below hbw (by simp))
          have hB1 := hbel.trans ((HL1.out.trans (hbw.mono (by simp))).mono (Nat.le_of_lt hlt0))
          obtain ⟨p0, p1, p2, p3⟩ := BX1.out
          obtain ⟨q0, q1, q2⟩ := XX1.out.shift0
          clear hbw
          go_wp2_with fail
          refine (H1.out _).mono ?_
          rintro e w2 ⟨rfl, hbw⟩
          have hz2 := hbw.size
          have BX2 := Lib.hid (BX1.out.below hbw (by omega))
          have XX2 := Lib.hid (XX1.out.below hbw (by omega))
          have hB2 := hB1.trans (hbw.mono hB1.size)
          clear p0 p1 p2 p3 q0 q1 q2 hbw
          obtain ⟨p0, p1, p2, p3⟩ := BX2.out
          obtain ⟨q0, q1, q2⟩ := XX2.out.shift0
          go_wp2_with fail
          go_ret
          exact ⟨ret_int hr.out.symm, hB2⟩
        · obtain ⟨r, hr0⟩ : ∃ r, decide (xe ∈ a.al) = r := ⟨_, rfl⟩
          have H2 := Lib.hid (fun W (hw : Below w.heap.size w W) => by have h := HE.out xe W hw; rw [hr0] at h; exact h)
          cases r
          · have hr := Lib.hid (eg_unknown hX.out ht.out hu0 hu1 hr0)
            clear hu0 hu1 hr0
            go_wp2_with fail
            refine (H0.out _).mono ?_
            rintro e w1 ⟨rfl, hbw⟩
            have hz1 := hbw.size
            simp only [World.size_alloc] at hz1
            have BX1 := Lib.hid (BX.out.below hbw (by simp; omega))
            have XX1 := Lib.hid (XX.out.below hbw (by simp))
            have hB1 := hbel.trans ((HL1.out.trans (hbw.mono (by simp))).mono (Nat.le_of_lt hlt0))
            obtain ⟨p0, p1, p2, p3⟩ := BX1.out
            obtain ⟨q0, q1, q2⟩ := XX1.out.shift0
            clear hbw
            go_wp2_with fail
            refine (H1.out _).mono ?_
            rintro e w2 ⟨rfl, hbw⟩
            have hz2 := hbw.size
            have BX2 := Lib.hid (BX1.out.below hbw (by omega))
            have XX2 := Lib.hid (XX1.out.below hbw (by omega))
            have hB2 := hB1.trans (hbw.mono hB1.size)
            clear p0 p1 p2 p3 q0 q1 q2 hbw
            obtain ⟨p0, p1, p2, p3⟩ := BX2.out
            obtain ⟨q0, q1, q2⟩ := XX2.out.shift0
            go_wp2_with fail
            refine (H2.out _ hB2).mono ?_
            rintro e w3 ⟨rfl, hbw⟩
            have hz3 := hbw.size
            have BX3 := Lib.hid (BX2.out.below hbw (by omega))
            have XX3 := Lib.hid (XX2.out.below hbw (by omega))
            have hB3 := hB2.trans (hbw.mono hB2.size)
            clear p0 p1 p2 p3 q0 q1 q2 hbw
            obtain ⟨p0, p1, p2, p3⟩ := BX3.out
            obtain ⟨q0, q1, q2⟩ := XX3.out.shift0
            go_wp2_with fail
            go_ret
            exact ⟨ret_int hr.out.symm, hB3⟩
          · have hU0 := Lib.hid hu0
            have hU1 := Lib.hid hu1
            have hR0 := Lib.hid hr0
            clear hu0 hu1 hr0
            rcases Nat.eq_zero_or_pos j with hj0 | hj0
            · have hn := Lib.hid (eg_next hX.out ht.out hU0.out hU1.out hR0.out (fun y hy => absurd hy (by omega)))
              have hd : decide (0 < j) = false := by simp; omega
              clear hj0
              go_wp2_with fail
              refine (H0.out _).mono ?_
              rintro e w1 ⟨rfl, hbw⟩
              have hz1 := hbw.size
              simp only [World.size_alloc] at hz1
              have BX1 := Lib.hid (BX.out.below hbw (by simp; omega))
              have XX1 := Lib.hid (XX.out.below hbw (by simp))
              have hB1 := hbel.trans ((HL1.out.trans (hbw.mono (by simp))).mono (Nat.le_of_lt hlt0))
              obtain ⟨p0, p1, p2, p3⟩ := BX1.out
              obtain ⟨q0, q1, q2⟩ := XX1.out.shift0
              clear hbw
              go_wp2_with fail
              refine (H1.out _).mono ?_
              rintro e w2 ⟨rfl, hbw⟩
              have hz2 := hbw.size
              have BX2 := Lib.hid (BX1.out.below hbw (by omega))
              have XX2 := Lib.hid (XX1.out.below hbw (by omega))
              have hB2 := hB1.trans (hbw.mono hB1.size)
              clear p0 p1 p2 p3 q0 q1 q2 hbw
              obtain ⟨p0, p1, p2, p3⟩ := BX2.out
              obtain ⟨q0, q1, q2⟩ := XX2.out.shift0
              go_wp2_with fail
              refine (H2.out _ hB2).mono ?_
              rintro e w3 ⟨rfl, hbw⟩
              have hz3 := hbw.size
              have BX3 := Lib.hid (BX2.out.below hbw (by omega))
              have XX3 := Lib.hid (XX2.out.below hbw (by omega))
              have hB3 := hB2.trans (hbw.mono hB2.size)
              clear p0 p1 p2 p3 q0 q1 q2 hbw
              obtain ⟨p0, p1, p2, p3⟩ := BX3.out
              obtain ⟨q0, q1, q2⟩ := XX3.out.shift0
              go_wp2_with fail
              go_quiet (fail)
              go_wp2
              go_roundw
              case rel => exact ⟨j + 1, by omega, by go_num, hn, below_drewN hB3 _, Lib.hid (BX3.out.drewN _), by simp; omega⟩
              case measure => simp [intOf]; omega
            · obtain ⟨t, ht1⟩ : ∃ t, t + 1 = j := ⟨j - 1, by omega⟩
              have HT := Lib.hid ht1
              have HT2 := Lib.hid (show j - 1 = t by omega)
              clear ht1
              obtain ⟨y, hy⟩ : ∃ y, a.ed[j - 1]? = some y := ⟨_, List.getElem?_eq_getElem (by rw [hk2.out]; omega)⟩
              have hd : decide (0 < j) = true := by simp; omega
              obtain ⟨b2, o2, e2, hb2, hc2⟩ := HR.out.ed (by rw [hk2.out]; omega)
              injection e2 with e2
              injection e2 with e2 e3
              subst e2
              subst e3
              have hya := Lib.hid (show EdAt w b1 (o1 + t * 3) y by rw [← HT2.out]; exact hc2 (j - 1) y hy)
              have HB1b := Lib.hid hb2
              have hY := Lib.hid hy
              clear hy hc2 hb2
              obtain ⟨yf, ye, yt⟩ := y
              obtain ⟨u, hu⟩ : ∃ u, cmpE ⟨xf, xe, xt⟩ ⟨yf, ye, yt⟩ = u := ⟨_, rfl⟩
              have HC2 := Lib.hid (fun W => by have h := HC.out xf xe xt yf ye yt W; rw [hu] at h; exact h)
              have HU := Lib.hid hu
              clear hu
              by_cases hc0 : u ≤ 0
              · have hr := Lib.hid (eg_order hX.out ht.out hU0.out hU1.out hR0.out hj0 hY.out (by rw [HU.out]; exact hc0))
                go_wp2_with fail
                refine (H0.out _).mono ?_
                rintro e w1 ⟨rfl, hbw⟩
                have hz1 := hbw.size
                simp only [World.size_alloc] at hz1
                have BX1 := Lib.hid (BX.out.below hbw (by simp; omega))
                have XX1 := Lib.hid (XX.out.below hbw (by simp))
                have hB1 := hbel.trans ((HL1.out.trans (hbw.mono (by simp))).mono (Nat.le_of_lt hlt0))
                obtain ⟨p0, p1, p2, p3⟩ := BX1.out
                obtain ⟨q0, q1, q2⟩ := XX1.out.shift0
                clear hbw
                go_wp2_with fail
                refine (H1.out _).mono ?_
                rintro e w2 ⟨rfl, hbw⟩
                have hz2 := hbw.size
                have BX2 := Lib.hid (BX1.out.below hbw (by omega))
                have XX2 := Lib.hid (XX1.out.below hbw (by omega))
                have hB2 := hB1.trans (hbw.mono hB1.size)
                clear p0 p1 p2 p3 q0 q1 q2 hbw
                obtain ⟨p0, p1, p2, p3⟩ := BX2.out
                obtain ⟨q0, q1, q2⟩ := XX2.out.shift0
                go_wp2_with fail
                refine (H2.out _ hB2).mono ?_
                rintro e w3 ⟨rfl, hbw⟩
                have hz3 := hbw.size
                have BX3 := Lib.hid (BX2.out.below hbw (by omega))
                have XX3 := Lib.hid (XX2.out.below hbw (by omega))
                have hB3 := hB2.trans (hbw.mono hB2.size)
                clear p0 p1 p2 p3 q0 q1 q2 hbw
                obtain ⟨p0, p1, p2, p3⟩ := BX3.out
                obtain ⟨q0, q1, q2⟩ := XX3.out.shift0
                go_wp2_with fail
                have hyw : EdAt w3 b1 (o1 + t * 3) ⟨yf, ye, yt⟩ := hya.out.keep fun o => hB3.cell (p := ⟨b1, o, none⟩) (HB1b.out)
                obtain ⟨r0, r1, r2⟩ := hyw
                have hbb : b1 < w3.heap.size := Nat.lt_of_lt_of_le HB1b.out hB3.size
                have g3 := fun n os => cell_grown (show w.heap.size < w3.heap.size by omega) p3 n os
                have k0 := fun n os => cell_grown (show wr.heap.size < w3.heap.size by omega) q0 n os
                have k1 := fun n os => cell_grown (show wr.heap.size < w3.heap.size by omega) q1 n os
                have k2 := fun n os => cell_grown (show wr.heap.size < w3.heap.size by omega) q2 n os
                have l0 := fun n os => cell_grown hbb r0 n os
                have l1 := fun n os => cell_grown hbb r1 n os
                have l2 := fun n os => cell_grown hbb r2 n os
                clear p0 p1 p2 p3 q0 q1 q2 r0 r1 r2
                have hwr : IntKind.i64.wrap ((j : Int) - 1) = (t : Int) := by rw [IntWalk.i64_in _ (by omega)]; have := HT.out; omega
                have htk : t < k := by have := HT.out; omega
                have hmix : Try.prog.follows .mixedOrders = true := by kernel_rfl
                go_quiet_grown ((go_at_call 99; exact Calls.grown_of (HC2.out _)))
                go_wp2_with fail
                go_ret
                exact ⟨ret_int hr.out.symm, hB3.trans ((below_grow _ _ _).mono hB3.size)⟩
              · have hn := Lib.hid (eg_next hX.out ht.out hU0.out hU1.out hR0.out (fun y _ hy => by
                  rw [hY.out] at hy; injection hy with hy; rw [← hy, HU.out]; exact hc0))
                go_wp2_with fail
                refine (H0.out _).mono ?_
                rintro e w1 ⟨rfl, hbw⟩
                have hz1 := hbw.size
                simp only [World.size_alloc] at hz1
                have BX1 := Lib.hid (BX.out.below hbw (by simp; omega))
                have XX1 := Lib.hid (XX.out.below hbw (by simp))
                have hB1 := hbel.trans ((HL1.out.trans (hbw.mono (by simp))).mono (Nat.le_of_lt hlt0))
                obtain ⟨p0, p1, p2, p3⟩ := BX1.out
                obtain ⟨q0, q1, q2⟩ := XX1.out.shift0
                clear hbw
                go_wp2_with fail
                refine (H1.out _).mono ?_
                rintro e w2 ⟨rfl, hbw⟩
                have hz2 := hbw.size
                have BX2 := Lib.hid (BX1.out.below hbw (by omega))
                have XX2 := Lib.hid (XX1.out.below hbw (by omega))
                have hB2 := hB1.trans (hbw.mono hB1.size)
                clear p0 p1 p2 p3 q0 q1 q2 hbw
                obtain ⟨p0, p1, p2, p3⟩ := BX2.out
                obtain ⟨q0, q1, q2⟩ := XX2.out.shift0
                go_wp2_with fail
                refine (H2.out _ hB2).mono ?_
                rintro e w3 ⟨rfl, hbw⟩
                have hz3 := hbw.size
                have BX3 := Lib.hid (BX2.out.below hbw (by omega))
                have XX3 := Lib.hid (XX2.out.below hbw (by omega))
                have hB3 := hB2.trans (hbw.mono hB2.size)
                clear p0 p1 p2 p3 q0 q1 q2 hbw
                obtain ⟨p0, p1, p2, p3⟩ := BX3.out
                obtain ⟨q0, q1, q2⟩ := XX3.out.shift0
                go_wp2_with fail
                have hyw : EdAt w3 b1 (o1 + t * 3) ⟨yf, ye, yt⟩ := hya.out.keep fun o => hB3.cell (p := ⟨b1, o, none⟩) (HB1b.out)
                obtain ⟨r0, r1, r2⟩ := hyw
                have hbb : b1 < w3.heap.size := Nat.lt_of_lt_of_le HB1b.out hB3.size
                have g3 := fun n os => cell_grown (show w.heap.size < w3.heap.size by omega) p3 n os
                have k0 := fun n os => cell_grown (show wr.heap.size < w3.heap.size by omega) q0 n os
                have k1 := fun n os => cell_grown (show wr.heap.size < w3.heap.size by omega) q1 n os
                have k2 := fun n os => cell_grown (show wr.heap.size < w3.heap.size by omega) q2 n os
                have l0 := fun n os => cell_grown hbb r0 n os
                have l1 := fun n os => cell_grown hbb r1 n os
                have l2 := fun n os => cell_grown hbb r2 n os
                clear p0 p1 p2 p3 q0 q1 q2 r0 r1 r2
                have hwr : IntKind.i64.wrap ((j : Int) - 1) = (t : Int) := by rw [IntWalk.i64_in _ (by omega)]; have := HT.out; omega
                have htk : t < k := by have := HT.out; omega
                have hmix : Try.prog.follows .mixedOrders = true := by kernel_rfl
                go_quiet_grown ((go_at_call 99; exact Calls.grown_of (HC2.out _)))
                go_wp2_with fail
                go_roundw
                case rel => exact ⟨j + 1, by omega, by go_num, hn, hB3.trans ((below_grow _ _ _).mono hB3.size), Lib.hid (BX3.out.below (below_grow _ _ _) (by omega)), by have := (below_grow w3 nq osq).size; omega⟩
                case measure => simp [intOf]; omega
    · have hr := Lib.hid (eg_end (j := j) (by rw [hk2.out]; omega) ht.out)
      go_wp2
      go_ret
      exact ⟨ret_int hr.out.symm, hbel⟩
end Go.Proofs.Ytceldgcmjmfjfaa

/- Layer 3, the mathematics: what Check means, steps and runs. -/
namespace Go.Proofs.Ytceldgcmjmfjfaa
open Go.RowKit

theorem cmp1_lt {x y : Int} : cmp1 x y < 0 ↔ x < y := by unfold cmp1; split <;> (try split) <;> omega
theorem cmp1_eq {x y : Int} : cmp1 x y = 0 ↔ x = y := by unfold cmp1; split <;> (try split) <;> omega
theorem cmp1_le {x y : Int} : cmp1 x y ≤ 0 ↔ x ≤ y := by unfold cmp1; split <;> (try split) <;> omega
/-- An edge is ahead of another one. -/
def ltE (x y : Ed) : Prop := x.f < y.f ∨ (x.f = y.f ∧ x.e < y.e)
instance (x y : Ed) : Decidable (ltE x y) := by unfold ltE; infer_instance
theorem cmpE_lt {x y : Ed} : cmpE x y < 0 ↔ ltE x y := by
  unfold cmpE ltE
  by_cases h : cmp1 x.f y.f = 0
  · rw [if_neg (by simpa using h), cmp1_lt]; rw [cmp1_eq] at h; omega
  · rw [if_pos h, cmp1_lt]; rw [cmp1_eq] at h; omega
theorem cmpE_eq {x y : Ed} : cmpE x y = 0 ↔ x.f = y.f ∧ x.e = y.e := by
  unfold cmpE
  by_cases h : cmp1 x.f y.f = 0
  · rw [if_neg (by simpa using h), cmp1_eq]; rw [cmp1_eq] at h; simp [h]
  · rw [if_pos h]; rw [cmp1_eq] at h; simp [h, cmp1_eq]
theorem cmpE_le {x y : Ed} : cmpE x y ≤ 0 ↔ ¬ ltE y x := by
  unfold cmpE ltE
  by_cases h : cmp1 x.f y.f = 0
  · rw [if_neg (by simpa using h), cmp1_le]; rw [cmp1_eq] at h; omega
  · rw [if_pos h, cmp1_le]; rw [cmp1_eq] at h; omega
theorem ltE_trans {x y z : Ed} (h1 : ltE x y) (h2 : ltE y z) : ltE x z := by unfold ltE at *; omega
theorem ltE_irrefl (x : Ed) : ¬ ltE x x := by unfold ltE; omega
theorem inSt_iff {s x : Int} : inSt s x = true ↔ 0 ≤ x ∧ x < s := by simp [inSt]

/-- The first error of an automaton. -/
def chkE (a : Au) : Int :=
  if csE 32 a.al ≠ 0 then csE 32 a.al else if a.st < 0 then 2 else if 4096 < a.st then 3 else if csE a.st a.mr ≠ 0 then csE a.st a.mr else egE a

theorem egGo_ok {al : List Int} {s : Int} : ∀ (l : List Ed) (p : Option Ed), egGo al s p l = 0 → (∀ x ∈ l, inSt s x.f = true ∧ inSt s x.t = true ∧ x.e ∈ al) ∧ l.Pairwise ltE ∧ ∀ y, p = some y → ∀ x ∈ l, ltE y x
  | [], p, _ => ⟨by simp, List.Pairwise.nil, by simp⟩
  | x :: r, p, h => by
    rw [egGo] at h
    by_cases h1 : inSt s x.f = false ∨ inSt s x.t = false
    · rw [if_pos h1] at h; omega
    · rw [if_neg h1] at h
      by_cases h2 : x.e ∉ al
      · rw [if_pos h2] at h; omega
      · rw [if_neg h2] at h
        by_cases h3 : ordE p x = true
        · rw [if_pos h3] at h; omega
        · rw [if_neg h3] at h
          obtain ⟨a, b, c⟩ := egGo_ok r (some x) h
          have hlt : ∀ z ∈ r, ltE x z := c x rfl
          have hx : inSt s x.f = true ∧ inSt s x.t = true ∧ x.e ∈ al := by
            rw [not_or] at h1
            exact ⟨by simpa using h1.1, by simpa using h1.2, by simpa using h2⟩
          refine ⟨fun z hz => ?_, List.pairwise_cons.2 ⟨hlt, b⟩, fun y hy z hz => ?_⟩
          · rcases List.mem_cons.1 hz with rfl | hz
            · exact hx
            · exact a z hz
          · subst hy
            have hyx : ltE y x := by
              have : ¬ cmpE x y ≤ 0 := by simpa [ordE] using h3
              rw [cmpE_le] at this
              exact Decidable.not_not.1 this
            rcases List.mem_cons.1 hz with rfl | hz
            · exact hyx
            · exact ltE_trans hyx (hlt z hz)

/-- What Check's OK says, but for the greatest number of states. -/
structure RightW (a : Au) : Prop where
  alr : ∀ x ∈ a.al, 0 ≤ x ∧ x < 32
  alo : a.al.Pairwise (· < ·)
  st0 : 0 ≤ a.st
  mrr : ∀ x ∈ a.mr, 0 ≤ x ∧ x < a.st
  mro : a.mr.Pairwise (· < ·)
  edr : ∀ x ∈ a.ed, (0 ≤ x.f ∧ x.f < a.st) ∧ (0 ≤ x.t ∧ x.t < a.st) ∧ x.e ∈ a.al
  edo : a.ed.Pairwise ltE
/-- What Check's OK says. -/
structure Right (a : Au) : Prop extends RightW a where
  st1 : a.st ≤ 4096
theorem right_of {a : Au} (h : chkE a = 0) : Right a := by
  unfold chkE at h
  by_cases h1 : csE 32 a.al ≠ 0
  · rw [if_pos h1] at h; exact absurd h h1
  · rw [if_neg h1] at h
    by_cases h2 : a.st < 0
    · rw [if_pos h2] at h; omega
    · rw [if_neg h2] at h
      by_cases h3 : 4096 < a.st
      · rw [if_pos h3] at h; omega
      · rw [if_neg h3] at h
        by_cases h4 : csE a.st a.mr ≠ 0
        · rw [if_pos h4] at h; exact absurd h h4
        · rw [if_neg h4] at h
          have c1 := csGo_ok a.al none (by simpa [csE] using h1)
          have c2 := csGo_ok a.mr none (by simpa [csE] using h4)
          have c3 := egGo_ok a.ed none h
          exact ⟨⟨c1.1, c1.2.1, by omega, c2.1, c2.2.1, fun x hx => ⟨inSt_iff.1 (c3.1 x hx).1, inSt_iff.1 (c3.1 x hx).2.1, (c3.1 x hx).2.2⟩, c3.2.1⟩, by omega⟩
theorem csGo_mk {m : Int} : ∀ (zs : List Int) (p : Option Int), (∀ x ∈ zs, 0 ≤ x ∧ x < m) → zs.Pairwise (· < ·) → (∀ y, p = some y → ∀ x ∈ zs, y < x) → csGo m p zs = 0
  | [], p, _, _, _ => by rw [csGo]
  | x :: r, p, h1, h2, h3 => by
    rw [csGo, if_neg (by have := h1 x (by simp); omega), if_neg ?_]
    · rw [List.pairwise_cons] at h2
      exact csGo_mk r (some x) (fun z hz => h1 z (by simp [hz])) h2.2 (fun y hy z hz => by injection hy with hy; subst hy; exact h2.1 z hz)
    · cases p with
      | none => simp [ordB]
      | some y => simpa [ordB] using h3 y rfl x (by simp)
theorem egGo_mk {al : List Int} {s : Int} : ∀ (l : List Ed) (p : Option Ed), (∀ x ∈ l, (0 ≤ x.f ∧ x.f < s) ∧ (0 ≤ x.t ∧ x.t < s) ∧ x.e ∈ al) → l.Pairwise ltE → (∀ y, p = some y → ∀ x ∈ l, ltE y x) → egGo al s p l = 0
  | [], p, _, _, _ => by rw [egGo]
  | x :: r, p, h1, h2, h3 => by
    have hx := h1 x (by simp)
    rw [egGo, if_neg (by simp [inSt_iff.2 hx.1, inSt_iff.2 hx.2.1]), if_neg (by simp [hx.2.2]), if_neg ?_]
    · rw [List.pairwise_cons] at h2
      exact egGo_mk r (some x) (fun z hz => h1 z (by simp [hz])) h2.2 (fun y hy z hz => by injection hy with hy; subst hy; exact h2.1 z hz)
    · cases p with
      | none => simp [ordE]
      | some y => simpa [ordE, cmpE_le] using h3 y rfl x (by simp)
theorem Right.chk {a : Au} (h : Right a) : chkE a = 0 := by
  have c1 : csE 32 a.al = 0 := csGo_mk a.al none h.alr h.alo (by simp)
  have c2 : csE a.st a.mr = 0 := csGo_mk a.mr none h.mrr h.mro (by simp)
  have c3 : egE a = 0 := egGo_mk a.ed none h.edr h.edo (by simp)
  have := h.st0; have := h.st1
  unfold chkE
  rw [if_neg (by simp [c1]), if_neg (by omega), if_neg (by omega), if_neg (by simp [c2]), c3]
theorem up_of {zs : List Int} (h : zs.Pairwise (· < ·)) : Up zs := fun s t hst ht => by
  have := (List.pairwise_iff_getElem.1 h) s t (by omega) ht hst
  simpa [List.getD, List.getElem?_eq_getElem ht, List.getElem?_eq_getElem (show s < zs.length by omega)] using this
theorem RightW.up {a : Au} (h : RightW a) : Up a.al := up_of h.alo

/-- The edge of a state by an event. -/
def edgeO (l : List Ed) (q ev : Int) : Option Ed := l.find? fun x => decide (x.f = q) && decide (x.e = ev)
/-- The state to which an event leads. -/
def stepO (a : Au) (q ev : Int) : Option Int := (edgeO a.ed q ev).map Ed.t
theorem edgeO_some {l : List Ed} (ho : l.Pairwise ltE) {q ev : Int} {x : Ed} : edgeO l q ev = some x ↔ x ∈ l ∧ x.f = q ∧ x.e = ev := by
  unfold edgeO
  constructor
  · intro h
    have h1 := List.find?_some h
    simp only [Bool.and_eq_true, decide_eq_true_eq] at h1
    exact ⟨List.mem_of_find?_eq_some h, h1.1, h1.2⟩
  · rintro ⟨hm, rfl, rfl⟩
    cases hf : l.find? fun y => decide (y.f = x.f) && decide (y.e = x.e) with
    | none =>
      rw [List.find?_eq_none] at hf
      exact absurd (by simp) (hf x hm)
    | some y =>
      have h1 := List.find?_some hf
      simp only [Bool.and_eq_true, decide_eq_true_eq] at h1
      have h2 := List.mem_of_find?_eq_some hf
      obtain ⟨i, hi, rfl⟩ := List.mem_iff_getElem.1 hm
      obtain ⟨j, hj, rfl⟩ := List.mem_iff_getElem.1 h2
      rw [List.pairwise_iff_getElem] at ho
      rcases Nat.lt_trichotomy i j with h | h | h
      · have := ho i j hi hj h; unfold ltE at this; omega
      · subst h; rfl
      · have := ho j i hj hi h; unfold ltE at this; omega
theorem edgeO_none {l : List Ed} {q ev : Int} : edgeO l q ev = none ↔ ∀ x ∈ l, ¬ (x.f = q ∧ x.e = ev) := by
  unfold edgeO; rw [List.find?_eq_none]; simp
/-- Where an edge belongs among increasing ones. -/
def AtE (l : List Ed) (y : Ed) (i : Nat) : Prop := i ≤ l.length ∧ (∀ t x, t < i → l[t]? = some x → ltE x y) ∧ (∀ x, l[i]? = some x → ¬ ltE x y)
theorem AtE.found {l : List Ed} (ho : l.Pairwise ltE) {y x : Ed} {i : Nat} (hx : l[i]? = some x) (h0 : cmpE x y = 0) : edgeO l y.f y.e = some x := by
  rw [cmpE_eq] at h0
  exact (edgeO_some ho).2 ⟨List.mem_of_getElem? hx, h0.1, h0.2⟩
theorem AtE.absent {l : List Ed} (ho : l.Pairwise ltE) {y : Ed} {i : Nat} (h : AtE l y i) (hx : ∀ x, l[i]? = some x → cmpE x y ≠ 0) : edgeO l y.f y.e = none := by
  rw [edgeO_none]
  rintro x hm ⟨h1, h2⟩
  obtain ⟨j, hj, rfl⟩ := List.mem_iff_getElem.1 hm
  rw [List.pairwise_iff_getElem] at ho
  rcases Nat.lt_trichotomy j i with hji | hji | hji
  · have := h.2.1 j _ hji (List.getElem?_eq_getElem hj); unfold ltE at this; omega
  · subst hji; exact hx _ (List.getElem?_eq_getElem hj) (cmpE_eq.2 ⟨h1, h2⟩)
  · have hi : i < l.length := by omega
    have := ho i j hi hj hji
    have h3 := h.2.2 _ (List.getElem?_eq_getElem hi)
    unfold ltE at *; omega

/-- A word followed as far as it is possible: where it ends, and how many events were possible. -/
def runE (a : Au) : Int → List Int → Int × Nat
  | q, [] => (q, 0)
  | q, x :: r => match stepO a q x with | none => (q, 0) | some t => ((runE a t r).1, (runE a t r).2 + 1)
theorem runE_nil (a : Au) (q : Int) : runE a q [] = (q, 0) := by rw [runE]
theorem runE_stop {a : Au} {q x : Int} {r : List Int} (h : stepO a q x = none) : runE a q (x :: r) = (q, 0) := by rw [runE, h]
theorem runE_go {a : Au} {q x t : Int} {r : List Int} (h : stepO a q x = some t) : runE a q (x :: r) = ((runE a t r).1, (runE a t r).2 + 1) := by rw [runE, h]
theorem runE_le (a : Au) : ∀ (ws : List Int) (q : Int), (runE a q ws).2 ≤ ws.length
  | [], q => by rw [runE_nil]; simp
  | x :: r, q => by
    cases h : stepO a q x with
    | none => rw [runE_stop h]; simp
    | some t => rw [runE_go h]; have := runE_le a r t; simp; omega
theorem step_range {a : Au} (h : RightW a) {q x t : Int} (hs : stepO a q x = some t) : 0 ≤ t ∧ t < a.st := by
  unfold stepO at hs
  cases he : edgeO a.ed q x with
  | none => rw [he] at hs; simp at hs
  | some y => rw [he] at hs; simp at hs; subst hs; exact (h.edr y ((edgeO_some h.edo).1 he).1).2.1
theorem step_event {a : Au} (h : RightW a) {q x t : Int} (hs : stepO a q x = some t) : x ∈ a.al ∧ 0 ≤ q ∧ q < a.st := by
  unfold stepO at hs
  cases he : edgeO a.ed q x with
  | none => rw [he] at hs; simp at hs
  | some y =>
    obtain ⟨h1, h2, h3⟩ := (edgeO_some h.edo).1 he
    have := h.edr y h1
    rw [← h2, ← h3]; exact ⟨this.2.2, this.1⟩
end Go.Proofs.Ytceldgcmjmfjfaa

/- Layer 3: Check, checkPlace, the search for an edge, step, Step. -/
namespace Go.Proofs.Ytceldgcmjmfjfaa
open Go.RowKit Go.Sort

set_option maxHeartbeats 800000 in
theorem mCheck_any (A : Option Addr) (n c : Nat) (s : Int) (M : Option Addr) (m d : Nat) (E : Option Addr) (k g : Nat) (a : Au) (w : World) (h : AuR w w.heap.size A n c s M m d E k g a) :
    Calls Try.prog 42 #[.agg #[.slice A n c, .int .i64 s, .slice M m d, .slice E k g]] w fun e w' => e = .returned (.int .i64 (chkE a)) ∧ Below w.heap.size w w' := by
  have HB1 := Lib.hid ((Below.refl w.heap.size w).alloc (Nat.le_refl _) (.cells #[.slice A n c, .int .i64 s, .slice M m d, .slice E k g] 30))
  have hR1 := (h.below HB1.out (Nat.le_refl _))
  have HC1 := Lib.hid (checkSet_any A n c w.heap.size a.al 32 _ hR1.al hR1.hn (by have := h.bn; omega))
  have HC2 := Lib.hid (checkSet_any M m d w.heap.size a.mr s _ hR1.mr hR1.hm (by have := h.bm; omega))
  have HC3 := Lib.hid (fun hup => checkEdges_any A n c s M m d E k g a _ (hR1.more (by simp)) hup)
  have HST := Lib.hid h.st
  obtain ⟨u, hu⟩ : ∃ u, u = csE 32 a.al := ⟨_, rfl⟩
  rw [← hu] at HC1
  obtain ⟨v, hv⟩ : ∃ v, v = csE s a.mr := ⟨_, rfl⟩
  rw [← hv] at HC2
  have HU := Lib.hid hu
  have HV := Lib.hid hv
  clear h hR1 hu hv
  by_cases h0 : u = 0
  · have hb0 : (u != 0) = false := by simp [h0]
    have h0' := Lib.hid h0
    clear h0
    by_cases h1 : s < 0
    · have hr := Lib.hid (show chkE a = 2 by rw [chkE, HST.out, ← HU.out, if_neg (by simp [h0'.out]), if_pos h1])
      rw [hr.out]
      go_enter Try.func42, Try.ntmps42
      go_wp2_with fail
      refine HC1.out.mono ?_
      rintro e w' ⟨rfl, rfl⟩
      go_wp2
      go_ret
      exact ⟨rfl, HB1.out⟩
    · by_cases h2 : 4096 < s
      · have hr := Lib.hid (show chkE a = 3 by rw [chkE, HST.out, ← HU.out, if_neg (by simp [h0'.out]), if_neg h1, if_pos h2])
        rw [hr.out]
        go_enter Try.func42, Try.ntmps42
        go_wp2_with fail
        refine HC1.out.mono ?_
        rintro e w' ⟨rfl, rfl⟩
        go_wp2
        go_ret
        exact ⟨rfl, HB1.out⟩
      · by_cases h3 : v = 0
        · have hr := Lib.hid (show chkE a = egE a by rw [chkE, HST.out, ← HU.out, if_neg (by simp [h0'.out]), if_neg h1, if_neg h2, ← HV.out, if_neg (by simp [h3])])
          rw [hr.out]
          have HC4 := Lib.hid (HC3.out (cs_up (m := 32) (by rw [← HU.out, h0'.out])))
          have hb3 : (v != 0) = false := by simp [h3]
          clear h3
          go_enter Try.func42, Try.ntmps42
          go_wp2_with fail
          refine HC1.out.mono ?_
          rintro e w' ⟨rfl, rfl⟩
          go_wp2_with fail
          refine HC2.out.mono ?_
          rintro e w' ⟨rfl, rfl⟩
          go_wp2_with fail
          refine HC4.out.mono ?_
          rintro e w' ⟨rfl, hbw⟩
          go_wp2
          go_ret
          exact ⟨rfl, HB1.out.trans (hbw.mono (by simp))⟩
        · have hr := Lib.hid (show chkE a = v by rw [chkE, HST.out, ← HU.out, if_neg (by simp [h0'.out]), if_neg h1, if_neg h2, ← HV.out, if_pos h3])
          rw [hr.out]
          have hb3 : (v != 0) = true := by simp [h3]
          clear h3
          go_enter Try.func42, Try.ntmps42
          go_wp2_with fail
          refine HC1.out.mono ?_
          rintro e w' ⟨rfl, rfl⟩
          go_wp2_with fail
          refine HC2.out.mono ?_
          rintro e w' ⟨rfl, rfl⟩
          go_wp2
          go_ret
          exact ⟨rfl, HB1.out⟩
  · have hb0 : (u != 0) = true := by simp [h0]
    have hr := Lib.hid (show chkE a = u by rw [chkE, ← HU.out, if_pos h0])
    rw [hr.out]
    clear h0
    go_enter Try.func42, Try.ntmps42
    go_wp2_with fail
    refine HC1.out.mono ?_
    rintro e w' ⟨rfl, rfl⟩
    go_wp2
    go_ret
    exact ⟨rfl, HB1.out⟩

/-- The first error of an automaton and one of its states. -/
def plE (a : Au) (x : Int) : Int := if chkE a ≠ 0 then chkE a else if inSt a.st x = true then 0 else 2
end Go.Proofs.Ytceldgcmjmfjfaa

/- Layer 3: slices.BinarySearchFunc over edges. -/
namespace Go.Proofs.Ytceldgcmjmfjfaa
open Go.RowKit Go.Sort

theorem callCmpEd (args : Array Value) (W : World) : (callFunc 99 args).run Try.prog W = .ok (.enter 99 args) W := by
  go_simp

set_option maxHeartbeats 1600000 in
theorem searchEd_any (E : Option Addr) (k g B : Nat) (l : List Ed) (yf ye yt : Int) (w : World) (hx : RdG w B E l) (hB : B ≤ w.heap.size) (hn : l.length = k) (hb : k ≤ 1000000) (ho : l.Pairwise ltE) :
    Calls Try.prog 129 #[.slice E k g, .agg #[.int .i64 yf, .int .i64 ye, .int .i64 yt], .func (.func 99) #[] #[]] w fun e w' =>
      (∃ i : Nat, e = .returned (.tuple #[.int .i64 i, .bool (edgeO l yf ye).isSome]) ∧ ∀ x, edgeO l yf ye = some x → l[i]? = some x) ∧ Below w.heap.size w w' := by
  have HN := Lib.hid hn
  have HO := Lib.hid ho
  have HC := Lib.hid compareEdges_any
  have HB1 := Lib.hid ((Below.refl w.heap.size w).alloc (Nat.le_refl _) (.cells #[.int .i64 yf, .int .i64 ye, .int .i64 yt] 70))
  have HX := Lib.hid (EdAt.made w yf ye yt 70)
  have HR := Lib.hid hx
  have hcf := callCmpEd
  clear hn ho hx
  go_enter Try.func129, Try.ntmps129
  go_wp2_with fail
  go_loopw [9, 10] (fun a b wr => ∃ i j : Nat, i ≤ j ∧ j ≤ k ∧ a = .int .i64 i ∧ b = .int .i64 j ∧ Hid (∀ t x, t < i → l[t]? = some x → ltE x ⟨yf, ye, yt⟩) ∧ Hid (∀ t x, j ≤ t → l[t]? = some x → ¬ ltE x ⟨yf, ye, yt⟩) ∧ Below w.heap.size w wr ∧ Hid (EdAt wr w.heap.size 0 ⟨yf, ye, yt⟩) ∧ w.heap.size < wr.heap.size) (fun a b _ => (intOf b).toNat - (intOf a).toNat)
  case atStart => exact ⟨0, k, by omega, by omega, rfl, rfl, fun t x h => absurd h (by omega), fun t x h h' => by
    have := (List.getElem?_eq_some_iff.1 h').1; rw [HN.out] at this; omega, HB1.out, HX, by simp⟩
  case round =>
    obtain ⟨i, j, hij, hjn, rfl, rfl, hl, hr, hbel, hyx, hlt0⟩ := hrel
    by_cases hlt : i < j
    · obtain ⟨t, ht1⟩ : ∃ t, t = (i + j) / 2 := ⟨_, rfl⟩
      have HT := Lib.hid ht1
      have htk : t < k := by omega
      have hti : i ≤ t := by omega
      have htj : t < j := by omega
      clear ht1
      have hz : t < l.length := by rw [HN.out]; exact htk
      obtain ⟨b1, o1, rfl, hb1, hc1⟩ := HR.out (by omega)
      obtain ⟨x, hx⟩ : ∃ x, l[t]? = some x := ⟨_, List.getElem?_eq_getElem hz⟩
      have hxr : EdAt wr b1 (o1 + t * 3) x := (hc1 _ x hx).keep fun o => hbel.cell (p := ⟨b1, o, none⟩) (Nat.lt_of_lt_of_le hb1 hB)
      have hX := Lib.hid hx
      clear hx hz hc1
      obtain ⟨xf, xe, xt⟩ := x
      obtain ⟨u, hu⟩ : ∃ u, cmpE ⟨xf, xe, xt⟩ ⟨yf, ye, yt⟩ = u := ⟨_, rfl⟩
      have HC2 := Lib.hid (fun W => by have h := HC.out xf xe xt yf ye yt W; rw [hu] at h; exact h)
      have HU := Lib.hid hu
      have hbb : b1 < wr.heap.size := Nat.lt_of_lt_of_le hb1 (Nat.le_trans hB (by omega))
      obtain ⟨r0, r1, r2⟩ := hxr
      obtain ⟨q0, q1, q2⟩ := hyx.out.shift0
      have l0 := fun n os => cell_grown hbb r0 n os
      have l1 := fun n os => cell_grown hbb r1 n os
      have l2 := fun n os => cell_grown hbb r2 n os
      have k0 := fun n os => cell_grown hlt0 q0 n os
      have k1 := fun n os => cell_grown hlt0 q1 n os
      have k2 := fun n os => cell_grown hlt0 q2 n os
      have hmix : Try.prog.follows .mixedOrders = true := by kernel_rfl
      clear r0 r1 r2 q0 q1 q2 hu
      by_cases hxy : u < 0
      · have hl' := Lib.hid (show ∀ t' x, t' < t + 1 → l[t']? = some x → ltE x ⟨yf, ye, yt⟩ from fun t' x' ht' hx' => by
          have h0 : ltE ⟨xf, xe, xt⟩ ⟨yf, ye, yt⟩ := cmpE_lt.1 (by rw [HU.out]; exact hxy)
          by_cases e : t' = t
          · subst e; rw [hX.out] at hx'; injection hx' with hx'; rw [← hx']; exact h0
          · obtain ⟨h1, e1⟩ := List.getElem?_eq_some_iff.1 hx'
            obtain ⟨h2, e2⟩ := List.getElem?_eq_some_iff.1 hX.out
            have := (List.pairwise_iff_getElem.1 HO.out) t' _ h1 h2 (by omega)
            rw [e1, e2] at this
            exact ltE_trans this h0)
        clear hl
        go_wp2_with fail
        rw [show ((i : Int) + (j : Int)) / 2 = (t : Int) by rw [HT.out]; omega]
        go_quiet_grown ((go_at_call 99; exact Calls.grown_of (HC2.out _)))
        go_wp2_with fail
        go_roundw
        case rel => exact ⟨t + 1, j, by omega, by omega, by go_num, rfl, hl', hr, hbel.trans ((below_grow _ _ _).mono hbel.size), Lib.hid (hyx.out.below (below_grow _ _ _) hlt0), by have := (below_grow wr nq osq).size; omega⟩
        case measure => simp [intOf]; omega
      · have hr' := Lib.hid (show ∀ t' x, t ≤ t' → l[t']? = some x → ¬ ltE x ⟨yf, ye, yt⟩ from fun t' x' ht' hx' h3 => by
          have h0 : ¬ ltE ⟨xf, xe, xt⟩ ⟨yf, ye, yt⟩ := fun h => hxy (by rw [← HU.out]; exact cmpE_lt.2 h)
          by_cases e : t' = t
          · subst e; rw [hX.out] at hx'; injection hx' with hx'; rw [← hx'] at h3; exact h0 h3
          · obtain ⟨h1, e1⟩ := List.getElem?_eq_some_iff.1 hx'
            obtain ⟨h2, e2⟩ := List.getElem?_eq_some_iff.1 hX.out
            have := (List.pairwise_iff_getElem.1 HO.out) _ t' h2 h1 (by omega)
            rw [e1, e2] at this
            exact h0 (ltE_trans this h3))
        clear hr
        go_wp2_with fail
        rw [show ((i : Int) + (j : Int)) / 2 = (t : Int) by rw [HT.out]; omega]
        go_quiet_grown ((go_at_call 99; exact Calls.grown_of (HC2.out _)))
        go_wp2_with fail
        go_roundw
        case rel => exact ⟨i, t, by omega, by omega, rfl, by go_num, hl, hr', hbel.trans ((below_grow _ _ _).mono hbel.size), Lib.hid (hyx.out.below (below_grow _ _ _) hlt0), by have := (below_grow wr nq osq).size; omega⟩
        case measure => simp [intOf]; omega
    · have hij' : i = j := by omega
      subst hij'
      have hat : AtE l ⟨yf, ye, yt⟩ i := ⟨by rw [HN.out]; exact hjn, hl.out, fun x h => hr.out i x (Nat.le_refl _) h⟩
      have HA := Lib.hid hat
      clear hl hr hat
      by_cases hin : i < k
      · have hz : i < l.length := by rw [HN.out]; exact hin
        obtain ⟨b1, o1, rfl, hb1, hc1⟩ := HR.out (by omega)
        obtain ⟨x, hx⟩ : ∃ x, l[i]? = some x := ⟨_, List.getElem?_eq_getElem hz⟩
        have hxr : EdAt wr b1 (o1 + i * 3) x := (hc1 _ x hx).keep fun o => hbel.cell (p := ⟨b1, o, none⟩) (Nat.lt_of_lt_of_le hb1 hB)
        have hX := Lib.hid hx
        clear hx hz hc1
        obtain ⟨xf, xe, xt⟩ := x
        obtain ⟨u, hu⟩ : ∃ u, cmpE ⟨xf, xe, xt⟩ ⟨yf, ye, yt⟩ = u := ⟨_, rfl⟩
        have HC2 := Lib.hid (fun W => by have h := HC.out xf xe xt yf ye yt W; rw [hu] at h; exact h)
        have HU := Lib.hid hu
        have hbb : b1 < wr.heap.size := Nat.lt_of_lt_of_le hb1 (Nat.le_trans hB (by omega))
        obtain ⟨r0, r1, r2⟩ := hxr
        obtain ⟨q0, q1, q2⟩ := hyx.out.shift0
        have l0 := fun n os => cell_grown hbb r0 n os
        have l1 := fun n os => cell_grown hbb r1 n os
        have l2 := fun n os => cell_grown hbb r2 n os
        have k0 := fun n os => cell_grown hlt0 q0 n os
        have k1 := fun n os => cell_grown hlt0 q1 n os
        have k2 := fun n os => cell_grown hlt0 q2 n os
        have hmix : Try.prog.follows .mixedOrders = true := by kernel_rfl
        have hd : decide (i < k) = true := by simp; omega
        clear r0 r1 r2 q0 q1 q2 hu
        by_cases hxy : u = 0
        · have hf := Lib.hid (AtE.found (y := ⟨yf, ye, yt⟩) HO.out hX.out (by rw [HU.out]; exact hxy))
          have hs := Lib.hid (show (edgeO l yf ye).isSome = true by rw [hf.out]; rfl)
          have hb1 : (u == 0) = true := by simpa using hxy
          clear hxy
          go_wp2_with fail
          go_quiet_grown ((go_at_call 99; exact Calls.grown_of (HC2.out _)))
          go_wp2_with fail
          go_ret2
          exact ⟨⟨i, ret_ib hs.out.symm, fun x hx => by rw [hf.out] at hx; injection hx with hx; rw [← hx]; exact hX.out⟩, hbel.trans ((below_grow _ _ _).mono hbel.size)⟩
        · have hf := Lib.hid (AtE.absent HO.out HA.out (fun x hx => by rw [hX.out] at hx; injection hx with hx; rw [← hx, HU.out]; exact hxy))
          have hs := Lib.hid (show (edgeO l yf ye).isSome = false by rw [hf.out]; rfl)
          have hb1 : (u == 0) = false := by simpa using hxy
          clear hxy
          go_wp2_with fail
          go_quiet_grown ((go_at_call 99; exact Calls.grown_of (HC2.out _)))
          go_wp2_with fail
          go_ret2
          exact ⟨⟨i, ret_ib hs.out.symm, fun x hx => by rw [hf.out] at hx; cases hx⟩, hbel.trans ((below_grow _ _ _).mono hbel.size)⟩
      · have hf := Lib.hid (AtE.absent HO.out HA.out (fun x hx => by have := (List.getElem?_eq_some_iff.1 hx).1; rw [HN.out] at this; omega))
        have hs := Lib.hid (show (edgeO l yf ye).isSome = false by rw [hf.out]; rfl)
        have hd : decide (i < k) = false := by simp; omega
        go_wp2_with fail
        go_quiet (fail)
        go_wp2_with fail
        go_ret2
        exact ⟨⟨i, ret_ib hs.out.symm, fun x hx => by rw [hf.out] at hx; cases hx⟩, below_drewN hbel _⟩
end Go.Proofs.Ytceldgcmjmfjfaa
