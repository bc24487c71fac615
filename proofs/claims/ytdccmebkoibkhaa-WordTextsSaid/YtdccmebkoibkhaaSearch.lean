/- Contracts of the search in an increasing slice of ints: slices.BinarySearch tells whether the number is there and where it belongs; Contains answers whether it is there. -/
import Derived.Test.YtdccmebkoibkhaaRdI
namespace Go.Proofs.Ytdccmebkoibkhaa
open Go.RowKit

theorem sIsNaN_any (x : Int) (w : World) : Calls Try.prog 79 #[.int .i64 x] w fun e w' => e = .returned (.bool false) ∧ w = w' := by
  go_enter Try.func79, Try.ntmps79
  go_wp2
  go_ret
  exact ⟨rfl, rfl⟩
theorem cIsNaN_any (x : Int) (w : World) : Calls Try.prog 64 #[.int .i64 x] w fun e w' => e = .returned (.bool false) ∧ w = w' := by
  go_enter Try.func64, Try.ntmps64
  go_wp2
  go_ret
  exact ⟨rfl, rfl⟩
theorem less_any (x y : Int) (w : World) : Calls Try.prog 78 #[.int .i64 x, .int .i64 y] w fun e w' => e = .returned (.bool (decide (x < y))) ∧ w = w' := by
  by_cases h : x < y
  all_goals
    go_enter Try.func78, Try.ntmps78
    go_wp2_with (go_at_call 64; refine (cIsNaN_any _ _).mono ?_; rintro e w' ⟨rfl, rfl⟩)
    go_ret
    exact ⟨ret_bool (by simp; try omega), rfl⟩

theorem ret_ib {i : Int} {a b : Bool} (h : a = b) : Ending.returned (.tuple #[.int .i64 i, .bool a]) = .returned (.tuple #[.int .i64 i, .bool b]) := by rw [h]
/-- Where a number belongs in the increasing list: all before i are smaller, that at i is not. -/
def At (zs : List Int) (x : Int) (i : Nat) : Prop := i ≤ zs.length ∧ (∀ t, t < i → zs.getD t 0 < x) ∧ (i < zs.length → x ≤ zs.getD i 0)
def Up (zs : List Int) : Prop := ∀ s t, s < t → t < zs.length → zs.getD s 0 < zs.getD t 0
theorem mem_getD {zs : List Int} {x : Int} (h : x ∈ zs) : ∃ t, t < zs.length ∧ zs.getD t 0 = x := by
  obtain ⟨t, ht, he⟩ := List.mem_iff_getElem.1 h
  exact ⟨t, ht, by simp [List.getD, List.getElem?_eq_getElem ht, he]⟩
theorem getD_mem {zs : List Int} {t : Nat} (h : t < zs.length) : zs.getD t 0 ∈ zs := by
  simp [List.getD, List.getElem?_eq_getElem h]
theorem At.found {zs : List Int} {x : Int} {i : Nat} (_h : At zs x i) (hi : i < zs.length) (he : zs.getD i 0 = x) : decide (x ∈ zs) = true := by
  simp only [decide_eq_true_eq]; rw [← he]; exact getD_mem hi
theorem At.absent {zs : List Int} {x : Int} {i : Nat} (up : Up zs) (h : At zs x i) (hi : i < zs.length → zs.getD i 0 ≠ x) : decide (x ∈ zs) = false := by
  simp only [decide_eq_false_iff_not]
  intro hm
  obtain ⟨t, ht, he⟩ := mem_getD hm
  rcases Nat.lt_trichotomy t i with h1 | h1 | h1
  · have := h.2.1 t h1; omega
  · subst h1; exact hi ht he
  · have h2 := up i t h1 ht
    have h3 := h.2.2 (by omega)
    omega

set_option maxHeartbeats 800000 in
theorem search_any (A : Option Addr) (n c Bx : Nat) (zs : List Int) (x : Int) (w : World) (hx : RdI w Bx A zs) (hn : zs.length = n) (hb : n ≤ 140737488355328) (hup : Up zs) :
    Calls Try.prog 65 #[.slice A n c, .int .i64 x] w fun e w' => (∃ i : Nat, At zs x i ∧ e = .returned (.tuple #[.int .i64 i, .bool (decide (x ∈ zs))])) ∧ w = w' := by
  have HN := Lib.hid hn
  have HU := Lib.hid hup
  clear hn hup
  go_enter Try.func65, Try.ntmps65
  go_wp2
  go_loop [7, 8] (fun a b => ∃ i j : Nat, i ≤ j ∧ j ≤ n ∧ a = .int .i64 i ∧ b = .int .i64 j ∧ Hid (∀ t, t < i → zs.getD t 0 < x) ∧ Hid (∀ t, j ≤ t → t < zs.length → x ≤ zs.getD t 0)) (fun a b => (intOf b).toNat - (intOf a).toNat)
  case atStart => exact ⟨0, n, by omega, by omega, rfl, rfl, fun t h => absurd h (by omega), fun t h' h => by rw [HN.out] at h; omega⟩
  case round =>
    obtain ⟨i, j, hij, hjn, rfl, rfl, hl, hr⟩ := hrel
    by_cases hlt : i < j
    · obtain ⟨b1, o1, rfl, _, hc1⟩ := hx (by rw [HN.out]; omega)
      have hm : (i + j) / 2 < zs.length := by rw [HN.out]; omega
      have hc := hc1 ((i + j) / 2) hm
      obtain ⟨y, hy⟩ : ∃ y, y = zs.getD ((i + j) / 2) 0 := ⟨_, rfl⟩
      rw [← hy] at hc
      clear hc1 hx
      by_cases hxy : y < x
      · have hl' := Lib.hid (show ∀ t, t < (i + j) / 2 + 1 → zs.getD t 0 < x from fun t ht => by
          by_cases e : t = (i + j) / 2
          · rw [e, ← hy]; exact hxy
          · have := HU.out t ((i + j) / 2) (by omega) hm; rw [← hy] at this; omega)
        clear hy hl hm
        go_wp2_with (go_at_call 78; refine (less_any _ _ _).mono ?_; rintro e w' ⟨rfl, rfl⟩)
        go_round
        case rel => exact ⟨(i + j) / 2 + 1, j, by omega, by omega, by go_num, rfl, hl', hr⟩
        case measure => simp [intOf]; omega
      · have hr' := Lib.hid (show ∀ t, (i + j) / 2 ≤ t → t < zs.length → x ≤ zs.getD t 0 from fun t ht h2 => by
          by_cases e : t = (i + j) / 2
          · rw [e, ← hy]; omega
          · have := HU.out ((i + j) / 2) t (by omega) h2; rw [← hy] at this; omega)
        clear hy hr hm
        go_wp2_with (go_at_call 78; refine (less_any _ _ _).mono ?_; rintro e w' ⟨rfl, rfl⟩)
        go_round
        case rel => exact ⟨i, (i + j) / 2, by omega, by omega, rfl, by go_num, hl, hr'⟩
        case measure => simp [intOf]; omega
    · have hij' : i = j := by omega
      subst hij'
      have hat : At zs x i := ⟨by rw [HN.out]; exact hjn, hl.out, fun h => hr.out i (Nat.le_refl _) h⟩
      clear hl hr
      by_cases hin : i < n
      · obtain ⟨b1, o1, rfl, _, hc1⟩ := hx (by rw [HN.out]; omega)
        have hm : i < zs.length := by rw [HN.out]; omega
        have hc := hc1 i hm
        obtain ⟨y, hy⟩ : ∃ y, y = zs.getD i 0 := ⟨_, rfl⟩
        rw [← hy] at hc
        clear hc1 hx
        by_cases hyx : y = x
        · have hf := Lib.hid (hat.found hm (by rw [← hy]; exact hyx))
          have hb1 : (y == x) = true := by simpa using hyx
          have HA := Lib.hid hat
          clear hy hat hm hyx
          go_wp2_with (go_at_call 79; refine (sIsNaN_any _ _).mono ?_; rintro e w' ⟨rfl, rfl⟩)
          go_ret2
          exact ⟨⟨i, HA.out, ret_ib hf.out.symm⟩, rfl⟩
        · have hf := Lib.hid (hat.absent HU.out (fun _ => by rw [← hy]; exact hyx))
          have hb1 : (y == x) = false := by simpa using hyx
          have HA := Lib.hid hat
          clear hy hat hm hyx
          go_wp2_with (go_at_call 79; refine (sIsNaN_any _ _).mono ?_; rintro e w' ⟨rfl, rfl⟩)
          go_ret2
          exact ⟨⟨i, HA.out, ret_ib hf.out.symm⟩, rfl⟩
      · have hf := Lib.hid (hat.absent HU.out (fun h => by rw [HN.out] at h; omega))
        have HA := Lib.hid hat
        clear hat
        go_wp2
        go_ret2
        exact ⟨⟨i, HA.out, ret_ib hf.out.symm⟩, rfl⟩

set_option maxHeartbeats 400000 in
theorem aContains_any (A : Option Addr) (n c Bx : Nat) (zs : List Int) (x : Int) (w : World) (hx : RdI w Bx A zs) (hn : zs.length = n) (hb : n ≤ 140737488355328) (hup : Up zs) :
    Calls Try.prog 49 #[.slice A n c, .int .i64 x] w fun e w' => e = .returned (.bool (decide (x ∈ zs))) ∧ w = w' := by
  have H := Lib.hid (fun W (h : RdI W Bx A zs) => search_any A n c Bx zs x W h hn hb hup)
  obtain ⟨v, hv⟩ : ∃ v, v = decide (x ∈ zs) := ⟨_, rfl⟩
  clear hn hup
  go_enter Try.func49, Try.ntmps49
  go_wp2_with (go_at_call 65; refine (H.out _ hx).mono ?_; rintro e w' ⟨⟨i, _, rfl⟩, rfl⟩)
  go_ret
  exact ⟨rfl, rfl⟩
end Go.Proofs.Ytdccmebkoibkhaa
