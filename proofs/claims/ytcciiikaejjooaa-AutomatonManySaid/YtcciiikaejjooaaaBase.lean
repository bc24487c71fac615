/- Layer 3, the ground: slices of ints as they are read; checkSet, the search, contains, cmp.Compare. -/
import Derived.Test.YtcciiikaejjooaaRows
import Derived.WalkKit
import Derived.WalkSpells
import Derived.WalkLawsBesides
import Derived.Outline
import Derived.Lib.Hide
import Derived.Deep.QuietTactic
import Derived.BigQuiet
namespace Go.Proofs.Ytcciiikaejjooaa
open Go.RowKit

theorem ret_bool {a b : Bool} (h : a = b) : Ending.returned (.bool a) = .returned (.bool b) := by rw [h]

/-- A slice's address leads, below block B, to cells that hold these ints (asked only where there are any). -/
def RdI (w : World) (B : Nat) (A : Option Addr) (zs : List Int) : Prop :=
  0 < zs.length → ∃ b off, A = some ⟨b, off, none⟩ ∧ b < B ∧ ∀ j, j < zs.length → w.cell? ⟨b, off + j, none⟩ = some (.int .i64 (zs.getD j 0))

theorem RdI.keep {w w' : World} {B : Nat} {A : Option Addr} {zs : List Int} (h : RdI w B A zs) (hk : ∀ b o, b < B → w'.cell? ⟨b, o, none⟩ = w.cell? ⟨b, o, none⟩) : RdI w' B A zs := fun h0 => by
  obtain ⟨b, off, e, hb, hc⟩ := h h0
  exact ⟨b, off, e, hb, fun j hj => (hk b _ hb).trans (hc j hj)⟩
theorem RdI.more {w : World} {B B' : Nat} {A : Option Addr} {zs : List Int} (h : RdI w B A zs) (hB : B ≤ B') : RdI w B' A zs := fun h0 => by
  obtain ⟨b, off, e, hb, hc⟩ := h h0
  exact ⟨b, off, e, by omega, hc⟩
theorem RdI.below {w w' : World} {B B' : Nat} {A : Option Addr} {zs : List Int} (h : RdI w B A zs) (hb : Below B' w w') (hB : B ≤ B') : RdI w' B A zs :=
  h.keep fun _ _ hlt => hb.cell (by exact Nat.lt_of_lt_of_le hlt hB)
theorem RdI.nil (w : World) (B : Nat) (A : Option Addr) : RdI w B A [] := fun h => absurd h (by simp)

theorem below_drewN {B : Nat} {a w : World} (h : Below B a w) (n : Nat) : Below B a (w.drewN n) := ⟨h.os, h.tape, h.output, h.size, h.block⟩
theorem below_of_draws {w w' : World} {B : Nat} (h : ∃ q, w' = w.drewN q) : Below B w w' := by
  obtain ⟨q, rfl⟩ := h
  exact below_drewN (Below.refl _ _) q

theorem dr_add (w : World) (q n : Nat) : ∃ r, (w.drewN q).drewN n = w.drewN r := ⟨q + n, by rw [World.drewN_drewN]⟩
theorem eq_take_step {xs ys : List Int} {k : Nat} (hx : k < xs.length) (hy : k < ys.length) (h : xs.take k = ys.take k) (he : xs.getD k 0 = ys.getD k 0) : xs.take (k + 1) = ys.take (k + 1) := by
  rw [List.take_succ_eq_append_getElem hx, List.take_succ_eq_append_getElem hy, h]
  simp [List.getD, List.getElem?_eq_getElem hx, List.getElem?_eq_getElem hy] at he
  rw [he]
theorem ne_of_getD {xs ys : List Int} {k : Nat} (he : ¬ xs.getD k 0 = ys.getD k 0) : decide (xs = ys) = false := by
  simp only [decide_eq_false_iff_not]; rintro rfl; exact he rfl
theorem eq_of_take {xs ys : List Int} (hl : ys.length = xs.length) (h : xs.take xs.length = ys.take xs.length) : decide (xs = ys) = true := by
  rw [List.take_of_length_le (Nat.le_refl _), List.take_of_length_le (by omega)] at h
  simpa using h

/-- The first error of a list as a set of numbers below n: 2 out of range, 5 not increasing, 0 none. -/
def ordB : Option Int → Int → Bool
  | some y, x => decide (x ≤ y)
  | none, _ => false
def csGo (n : Int) : Option Int → List Int → Int
  | _, [] => 0
  | p, x :: r => if x < 0 ∨ n ≤ x then 2 else if ordB p x = true then 5 else csGo n (some x) r
def csE (n : Int) (zs : List Int) : Int := csGo n none zs
def prev (zs : List Int) (k : Nat) : Option Int := if k = 0 then none else some (zs.getD (k - 1) 0)
theorem prev_succ (zs : List Int) (k : Nat) : prev zs (k + 1) = some (zs.getD k 0) := by simp [prev]
theorem drop_step (zs : List Int) (k : Nat) (h : k < zs.length) : zs.drop k = zs.getD k 0 :: zs.drop (k + 1) := by
  rw [List.drop_eq_getElem_cons h]; simp [List.getD, List.getElem?_eq_getElem h]
theorem cs_range {n : Int} {zs : List Int} {k : Nat} (h : k < zs.length) {v : Int} (hv : csGo n (prev zs k) (zs.drop k) = v) (hx : zs.getD k 0 < 0 ∨ n ≤ zs.getD k 0) : v = 2 := by
  rw [← hv, drop_step zs k h, csGo, if_pos hx]
theorem cs_order {n : Int} {zs : List Int} {k : Nat} (h : k < zs.length) {v : Int} (hv : csGo n (prev zs k) (zs.drop k) = v) (h0 : 0 ≤ zs.getD k 0) (h1 : zs.getD k 0 < n) (hk : 0 < k) (hx : zs.getD k 0 ≤ zs.getD (k - 1) 0) : v = 5 := by
  rw [← hv, drop_step zs k h, csGo, if_neg (by omega)]
  simp only [prev, Nat.ne_of_gt hk, if_false, ordB]
  rw [if_pos (by simpa using hx)]
theorem cs_next {n : Int} {zs : List Int} {k : Nat} (h : k < zs.length) {v : Int} (hv : csGo n (prev zs k) (zs.drop k) = v) (h0 : 0 ≤ zs.getD k 0) (h1 : zs.getD k 0 < n) (hx : 0 < k → zs.getD (k - 1) 0 < zs.getD k 0) : csGo n (prev zs (k + 1)) (zs.drop (k + 1)) = v := by
  rw [← hv, drop_step zs k h, csGo, if_neg (by omega), prev_succ]
  rcases Nat.eq_zero_or_pos k with rfl | hk
  · simp [prev, ordB]
  · have := hx hk
    simp only [prev, Nat.ne_of_gt hk, if_false, ordB]
    rw [if_neg (by simp only [decide_eq_true_eq]; omega)]
theorem cs_end {n : Int} {zs : List Int} {v : Int} (hv : csGo n (prev zs zs.length) (zs.drop zs.length) = v) : v = 0 := by
  rw [← hv, List.drop_of_length_le (Nat.le_refl _), csGo]
theorem ret_int {k : IntKind} {a b : Int} (h : a = b) : Ending.returned (.int k a) = .returned (.int k b) := by rw [h]

set_option maxHeartbeats 400000 in
theorem checkSet_any (A : Option Addr) (n c Bx : Nat) (zs : List Int) (m : Int) (w : World) (hx : RdI w Bx A zs) (hn : zs.length = n) (hb : n ≤ 140737488355328) :
    Calls Try.prog 49 #[.slice A n c, .int .i64 m] w fun e w' => e = .returned (.int .i64 (csE m zs)) ∧ w = w' := by
  have HN := Lib.hid hn
  clear hn
  obtain ⟨v, hv⟩ : ∃ v, v = csE m zs := ⟨_, rfl⟩
  rw [← hv]
  have HV := Lib.hid hv
  clear hv
  go_enter Try.func49, Try.ntmps49
  go_wp2
  go_loop [9] (fun i => ∃ k : Nat, k ≤ n ∧ i = .int .i64 k ∧ Hid (csGo m (prev zs k) (zs.drop k) = v)) (fun i => n - (intOf i).toNat)
  case atStart => exact ⟨0, Nat.zero_le _, rfl, HV.out.symm⟩
  case round =>
    obtain ⟨k, hk, rfl, ht⟩ := hrel
    by_cases hlt : k < n
    · obtain ⟨b1, o1, rfl, _, hc1⟩ := hx (by rw [HN.out]; omega)
      have hz : k < zs.length := by rw [HN.out]; exact hlt
      have h1 := hc1 k hz
      obtain ⟨x, hxe⟩ : ∃ x, x = zs.getD k 0 := ⟨_, rfl⟩
      rw [← hxe] at h1
      by_cases hx0 : x < 0 ∨ m ≤ x
      · have hr := Lib.hid (cs_range hz ht.out (by rw [← hxe]; exact hx0))
        clear ht hxe hc1 hx hz
        by_cases hx1 : x < 0
        · go_wp2
          go_ret
          exact ⟨ret_int hr.out.symm, rfl⟩
        · have hx2 : m ≤ x := by omega
          clear hx0
          go_wp2
          go_ret
          exact ⟨ret_int hr.out.symm, rfl⟩
      · have hx1 : 0 ≤ x := by omega
        have hx2 : x < m := by omega
        clear hx0
        rcases Nat.eq_zero_or_pos k with rfl | hk0
        · have hr := Lib.hid (cs_next hz ht.out (by rw [← hxe]; exact hx1) (by rw [← hxe]; exact hx2) (fun h => absurd h (by omega)))
          clear ht hxe hc1 hx hz
          rw [Nat.add_zero] at h1
          go_wp2
          go_round
          case rel => exact ⟨1, by omega, by go_num, hr⟩
          case measure => simp [intOf]; omega
        · have h2 := hc1 (k - 1) (by omega)
          obtain ⟨y, hye⟩ : ∃ y, y = zs.getD (k - 1) 0 := ⟨_, rfl⟩
          rw [← hye] at h2
          by_cases hxy : x ≤ y
          · have hr := Lib.hid (cs_order hz ht.out (by rw [← hxe]; exact hx1) (by rw [← hxe]; exact hx2) hk0 (by rw [← hxe, ← hye]; exact hxy))
            clear ht hxe hye hc1 hx hz
            go_wp2
            go_ret
            exact ⟨ret_int hr.out.symm, rfl⟩
          · have hr := Lib.hid (cs_next hz ht.out (by rw [← hxe]; exact hx1) (by rw [← hxe]; exact hx2) (fun _ => by rw [← hxe, ← hye]; omega))
            clear ht hxe hye hc1 hx hz
            go_wp2
            go_round
            case rel => exact ⟨k + 1, by omega, by go_num, hr⟩
            case measure => simp [intOf]; omega
    · have hkn : k = zs.length := by rw [HN.out]; omega
      rw [hkn] at ht
      have hr := Lib.hid (cs_end ht.out)
      clear hkn ht
      go_wp2
      go_ret
      exact ⟨ret_int hr.out.symm, rfl⟩

theorem sIsNaN_any (x : Int) (w : World) : Calls Try.prog 80 #[.int .i64 x] w fun e w' => e = .returned (.bool false) ∧ w = w' := by
  go_enter Try.func80, Try.ntmps80
  go_wp2
  go_ret
  exact ⟨rfl, rfl⟩
theorem cIsNaN_any (x : Int) (w : World) : Calls Try.prog 88 #[.int .i64 x] w fun e w' => e = .returned (.bool false) ∧ w = w' := by
  go_enter Try.func88, Try.ntmps88
  go_wp2
  go_ret
  exact ⟨rfl, rfl⟩
theorem less_any (x y : Int) (w : World) : Calls Try.prog 79 #[.int .i64 x, .int .i64 y] w fun e w' => e = .returned (.bool (decide (x < y))) ∧ w = w' := by
  by_cases h : x < y
  all_goals
    go_enter Try.func79, Try.ntmps79
    go_wp2_with (go_at_call 88; refine (cIsNaN_any _ _).mono ?_; rintro e w' ⟨rfl, rfl⟩)
    go_ret
    exact ⟨ret_bool (by simp; try omega), rfl⟩

theorem ret_ib {i : Int} {a b : Bool} (h : a = b) : Ending.returned (.tuple #[.int .i64 i, .bool a]) = .returned (.tuple #[.int .i64 i, .bool b]) := by rw [h]
/-- Where a number belongs in the increasing list: all before i are smaller, that at i is not. -/
def At (zs : List Int) (x : Int) (i : Nat) : Prop := i ≤ zs.length ∧ (∀ t, t < i → zs.getD t 0 < x) ∧ (i < zs.length → x ≤ zs.getD i 0)
def Up (zs : List Int) : Prop := ∀ s t, s < t → t < zs.length → zs.getD s 0 < zs.getD t 0
theorem mem_getD {zs : List Int} {x : Int} (h : x ∈ zs) : ∃ t, t < zs.length ∧ zs.getD t 0 = x := by
  obtain ⟨t, ht, he⟩ := List.mem_iff_getElem.1 h
  exact ⟨t, ht, by simp [List.getD, List.getElem?_eq_getElem ht, he]⟩
theorem getD_mem {zs : List Int} {t : Nat} (h : t < zs.length) : zs.getD t 0 ∈ zs := by
  simp [List.getD, List.getElem?_eq_getElem h]
theorem At.found {zs : List Int} {x : Int} {i : Nat} (_h : At zs x i) (hi : i < zs.length) (he : zs.getD i 0 = x) : decide (x ∈ zs) = true := by
  simp only [decide_eq_true_eq]; rw [← he]; exact getD_mem hi
theorem At.absent {zs : List Int} {x : Int} {i : Nat} (up : Up zs) (h : At zs x i) (hi : i < zs.length → zs.getD i 0 ≠ x) : decide (x ∈ zs) = false := by
  simp only [decide_eq_false_iff_not]
  intro hm
  obtain ⟨t, ht, he⟩ := mem_getD hm
  rcases Nat.lt_trichotomy t i with h1 | h1 | h1
  · have := h.2.1 t h1; omega
  · subst h1; exact hi ht he
  · have h2 := up i t h1 ht
    have h3 := h.2.2 (by omega)
    omega

set_option maxHeartbeats 800000 in
theorem search_any (A : Option Addr) (n c Bx : Nat) (zs : List Int) (x : Int) (w : World) (hx : RdI w Bx A zs) (hn : zs.length = n) (hb : n ≤ 140737488355328) (hup : Up zs) :
    Calls Try.prog 62 #[.slice A n c, .int .i64 x] w fun e w' => (∃ i : Nat, At zs x i ∧ e = .returned (.tuple #[.int .i64 i, .bool (decide (x ∈ zs))])) ∧ w = w' := by
  have HN := Lib.hid hn
  have HU := Lib.hid hup
  clear hn hup
  go_enter Try.func62, Try.ntmps62
  go_wp2
  go_loop [7, 8] (fun a b => ∃ i j : Nat, i ≤ j ∧ j ≤ n ∧ a = .int .i64 i ∧ b = .int .i64 j ∧ Hid (∀ t, t < i → zs.getD t 0 < x) ∧ Hid (∀ t, j ≤ t → t < zs.length → x ≤ zs.getD t 0)) (fun a b => (intOf b).toNat - (intOf a).toNat)
  case atStart => exact ⟨0, n, by omega, by omega, rfl, rfl, fun t h => absurd h (by omega), fun t h' h => by rw [HN.out] at h; omega⟩
  case round =>
    obtain ⟨i, j, hij, hjn, rfl, rfl, hl, hr⟩ := hrel
    by_cases hlt : i < j
    · obtain ⟨b1, o1, rfl, _, hc1⟩ := hx (by rw [HN.out]; omega)
      have hm : (i + j) / 2 < zs.length := by rw [HN.out]; omega
      have hc := hc1 ((i + j) / 2) hm
      obtain ⟨y, hy⟩ : ∃ y, y = zs.getD ((i + j) / 2) 0 := ⟨_, rfl⟩
      rw [← hy] at hc
      clear hc1 hx
      by_cases hxy : y < x
      · have hl' := Lib.hid (show ∀ t, t < (i + j) / 2 + 1 → zs.getD t 0 < x from fun t ht => by
          by_cases e : t = (i + j) / 2
          · rw [e, ← hy]; exact hxy
          · have := HU.out t ((i + j) / 2) (by omega) hm; rw [← hy] at this; omega)
        clear hy hl hm
        go_wp2_with (go_at_call 79; refine (less_any _ _ _).mono ?_; rintro e w' ⟨rfl, rfl⟩)
        go_round
        case rel => exact ⟨(i + j) / 2 + 1, j, by omega, by omega, by go_num, rfl, hl', hr⟩
        case measure => simp [intOf]; omega
      · have hr' := Lib.hid (show ∀ t, (i + j) / 2 ≤ t → t < zs.length → x ≤ zs.getD t 0 from fun t ht h2 => by
          by_cases e : t = (i + j) / 2
          · rw [e, ← hy]; omega
          · have := HU.out ((i + j) / 2) t (by omega) h2; rw [← hy] at this; omega)
        clear hy hr hm
        go_wp2_with (go_at_call 79; refine (less_any _ _ _).mono ?_; rintro e w' ⟨rfl, rfl⟩)
        go_round
        case rel => exact ⟨i, (i + j) / 2, by omega, by omega, rfl, by go_num, hl, hr'⟩
        case measure => simp [intOf]; omega
    · have hij' : i = j := by omega
      subst hij'
      have hat : At zs x i := ⟨by rw [HN.out]; exact hjn, hl.out, fun h => hr.out i (Nat.le_refl _) h⟩
      clear hl hr
      by_cases hin : i < n
      · obtain ⟨b1, o1, rfl, _, hc1⟩ := hx (by rw [HN.out]; omega)
        have hm : i < zs.length := by rw [HN.out]; omega
        have hc := hc1 i hm
        obtain ⟨y, hy⟩ : ∃ y, y = zs.getD i 0 := ⟨_, rfl⟩
        rw [← hy] at hc
        clear hc1 hx
        by_cases hyx : y = x
        · have hf := Lib.hid (hat.found hm (by rw [← hy]; exact hyx))
          have hb1 : (y == x) = true := by simpa using hyx
          have HA := Lib.hid hat
          clear hy hat hm hyx
          go_wp2_with (go_at_call 80; refine (sIsNaN_any _ _).mono ?_; rintro e w' ⟨rfl, rfl⟩)
          go_ret2
          exact ⟨⟨i, HA.out, ret_ib hf.out.symm⟩, rfl⟩
        · have hf := Lib.hid (hat.absent HU.out (fun _ => by rw [← hy]; exact hyx))
          have hb1 : (y == x) = false := by simpa using hyx
          have HA := Lib.hid hat
          clear hy hat hm hyx
          go_wp2_with (go_at_call 80; refine (sIsNaN_any _ _).mono ?_; rintro e w' ⟨rfl, rfl⟩)
          go_ret2
          exact ⟨⟨i, HA.out, ret_ib hf.out.symm⟩, rfl⟩
      · have hf := Lib.hid (hat.absent HU.out (fun h => by rw [HN.out] at h; omega))
        have HA := Lib.hid hat
        clear hat
        go_wp2
        go_ret2
        exact ⟨⟨i, HA.out, ret_ib hf.out.symm⟩, rfl⟩

set_option maxHeartbeats 400000 in
theorem mContains_any (A : Option Addr) (n c Bx : Nat) (zs : List Int) (x : Int) (w : World) (hx : RdI w Bx A zs) (hn : zs.length = n) (hb : n ≤ 140737488355328) (hup : Up zs) :
    Calls Try.prog 57 #[.slice A n c, .int .i64 x] w fun e w' => e = .returned (.bool (decide (x ∈ zs))) ∧ w = w' := by
  have H := Lib.hid (fun W (h : RdI W Bx A zs) => search_any A n c Bx zs x W h hn hb hup)
  obtain ⟨v, hv⟩ : ∃ v, v = decide (x ∈ zs) := ⟨_, rfl⟩
  clear hn hup
  go_enter Try.func57, Try.ntmps57
  go_wp2_with (go_at_call 62; refine (H.out _ hx).mono ?_; rintro e w' ⟨⟨i, _, rfl⟩, rfl⟩)
  go_ret
  exact ⟨rfl, rfl⟩

theorem mem_snoc_take {zs : List Int} {k : Nat} {x : Int} (h : k < zs.length) : x ∈ zs.take (k + 1) ↔ x ∈ zs.take k ∨ zs.getD k 0 = x := by
  rw [List.take_succ_eq_append_getElem h, List.mem_append]
  simp [List.getD, List.getElem?_eq_getElem h, eq_comm]
theorem con_yes {zs : List Int} {k : Nat} {x : Int} (h : k < zs.length) (he : zs.getD k 0 = x) : decide (x ∈ zs) = true := by
  simp only [decide_eq_true_eq]; rw [← he]; exact getD_mem h
theorem con_no {zs : List Int} {n : Nat} {x : Int} (hn : zs.length = n) (h : x ∉ zs.take n) : decide (x ∈ zs) = false := by
  rw [List.take_of_length_le (by omega)] at h; simpa using h

theorem csGo_ok {m : Int} : ∀ (zs : List Int) (p : Option Int), csGo m p zs = 0 → (∀ x ∈ zs, 0 ≤ x ∧ x < m) ∧ zs.Pairwise (· < ·) ∧ ∀ y, p = some y → ∀ x ∈ zs, y < x
  | [], p, _ => ⟨by simp, List.Pairwise.nil, by simp⟩
  | x :: r, p, h => by
    rw [csGo] at h
    by_cases h1 : x < 0 ∨ m ≤ x
    · rw [if_pos h1] at h; omega
    · rw [if_neg h1] at h
      by_cases h2 : ordB p x = true
      · rw [if_pos h2] at h; omega
      · rw [if_neg h2] at h
        obtain ⟨a, b, c⟩ := csGo_ok r (some x) h
        have hlt : ∀ z ∈ r, x < z := c x rfl
        refine ⟨fun z hz => ?_, List.pairwise_cons.2 ⟨hlt, b⟩, fun y hy z hz => ?_⟩
        · rcases List.mem_cons.1 hz with rfl | hz
          · omega
          · exact a z hz
        · subst hy
          have hyx : y < x := by simpa [ordB] using h2
          rcases List.mem_cons.1 hz with rfl | hz
          · exact hyx
          · have := hlt z hz; omega
theorem cs_range_ok {m : Int} {zs : List Int} (h : csE m zs = 0) : ∀ t, t < zs.length → 0 ≤ zs.getD t 0 ∧ zs.getD t 0 < m := fun t ht => by
  have := (csGo_ok zs none h).1 (zs.getD t 0) (getD_mem ht)
  exact this
theorem cs_up {m : Int} {zs : List Int} (h : csE m zs = 0) : Up zs := fun s t hst ht => by
  have := (List.pairwise_iff_getElem.1 (csGo_ok zs none h).2.1) s t (by omega) ht hst
  simpa [List.getD, List.getElem?_eq_getElem ht, List.getElem?_eq_getElem (show s < zs.length by omega)] using this
/-- Two numbers compared. -/
def cmp1 (x y : Int) : Int := if x < y then -1 else if y < x then 1 else 0

set_option maxHeartbeats 400000 in
theorem cmpCompare_any (x y : Int) (w : World) : Calls Try.prog 83 #[.int .i64 x, .int .i64 y] w fun e w' => e = .returned (.int .i64 (cmp1 x y)) ∧ w = w' := by
  have H := Lib.hid cIsNaN_any
  by_cases h1 : x < y
  · have e := Lib.hid (show cmp1 x y = -1 by rw [cmp1, if_pos h1])
    rw [e.out]
    go_enter Try.func83, Try.ntmps83
    go_wp2_with (go_at_call 88; refine (H.out _ _).mono ?_; rintro e w' ⟨rfl, rfl⟩)
    go_ret
    exact ⟨rfl, rfl⟩
  · by_cases h2 : y < x
    · have e := Lib.hid (show cmp1 x y = 1 by rw [cmp1, if_neg h1, if_pos h2])
      rw [e.out]
      go_enter Try.func83, Try.ntmps83
      go_wp2_with (go_at_call 88; refine (H.out _ _).mono ?_; rintro e w' ⟨rfl, rfl⟩)
      go_ret
      exact ⟨rfl, rfl⟩
    · have e := Lib.hid (show cmp1 x y = 0 by rw [cmp1, if_neg h1, if_neg h2])
      rw [e.out]
      go_enter Try.func83, Try.ntmps83
      go_wp2_with (go_at_call 88; refine (H.out _ _).mono ?_; rintro e w' ⟨rfl, rfl⟩)
      go_ret
      exact ⟨rfl, rfl⟩

end Go.Proofs.Ytcciiikaejjooaa
