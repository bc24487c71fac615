/- Contracts of the reference's Has and Set. -/
import Derived.Test.YtdccmebkoibkhaaMemb
import Derived.Deep.QuietTactic
import Derived.BigQuiet
namespace Go.Proofs.Ytdccmebkoibkhaa
open Go.RowKit

set_option maxHeartbeats 800000 in
theorem r2Has_any (A : Option Addr) (n c Bx : Nat) (zs : List Int) (x : Int) (w : World) (hx : RdI w Bx A zs) (hn : zs.length = n) (hb : n ≤ 140737488355328) :
    Calls Try.prog 45 #[.slice A n c, .int .i64 x] w fun e w' => e = .returned (.bool (decide (x ∈ zs))) ∧ w = w' := by
  have HN := Lib.hid hn
  clear hn
  go_enter Try.func45, Try.ntmps45
  go_wp2
  go_loop [5] (fun i => ∃ k : Nat, k ≤ n ∧ i = .int .i64 k ∧ Hid (x ∉ zs.take k)) (fun i => n - (intOf i).toNat)
  case atStart => exact ⟨0, Nat.zero_le _, rfl, by simp [Hid]⟩
  case round =>
    obtain ⟨k, hk, rfl, ht⟩ := hrel
    by_cases hlt : k < n
    · obtain ⟨b1, o1, rfl, _, hc1⟩ := hx (by rw [HN.out]; omega)
      have hz : k < zs.length := by rw [HN.out]; exact hlt
      have h1 := hc1 k hz
      obtain ⟨y, hye⟩ : ∃ y, y = zs.getD k 0 := ⟨_, rfl⟩
      rw [← hye] at h1
      clear hc1 hx
      by_cases hyx : y = x
      · have hr := Lib.hid (con_yes (x := x) hz (by rw [← hye]; exact hyx))
        have hb1 : (y == x) = true := by simpa using hyx
        clear hyx hye ht hz
        go_wp2
        go_ret
        exact ⟨ret_bool hr.out.symm, rfl⟩
      · have hr := Lib.hid (show x ∉ zs.take (k + 1) by rw [mem_snoc_take hz, not_or]; exact ⟨ht.out, by rw [← hye]; exact hyx⟩)
        have hb1 : (y == x) = false := by simpa using hyx
        clear hyx hye ht hz
        go_wp2
        go_round
        case rel => exact ⟨k + 1, by omega, by go_num, hr⟩
        case measure => simp [intOf]; omega
    · have hkn : k = n := by omega
      rw [hkn] at ht
      have hr := Lib.hid (con_no HN.out ht.out)
      clear hkn ht
      go_wp2
      go_ret
      exact ⟨ret_bool hr.out.symm, rfl⟩

set_option maxHeartbeats 800000 in
theorem r2Set_any (A : Option Addr) (n c Bx : Nat) (zs : List Int) (m : Int) (w : World) (hx : RdI w Bx A zs) (hn : zs.length = n) (hb : n ≤ 140737488355328) :
    Calls Try.prog 44 #[.slice A n c, .int .i64 m] w fun e w' => e = .returned (.int .i64 (csE m zs)) ∧ ∃ q, w' = w.drewN q := by
  have HN := Lib.hid hn
  clear hn
  obtain ⟨v, hv⟩ : ∃ v, v = csE m zs := ⟨_, rfl⟩
  rw [← hv]
  have HV := Lib.hid hv
  clear hv
  go_enter Try.func44, Try.ntmps44
  go_wp2
  go_loopw [5] (fun i wr => ∃ k : Nat, k ≤ n ∧ i = .int .i64 k ∧ Hid (csGo m (prev zs k) (zs.drop k) = v) ∧ ∃ q, wr = w.drewN q) (fun i _ => n - (intOf i).toNat)
  case atStart => exact ⟨0, Nat.zero_le _, rfl, HV.out.symm, 0, rfl⟩
  case round =>
    obtain ⟨k, hk, rfl, ht, q, rfl⟩ := hrel
    by_cases hlt : k < n
    · obtain ⟨b1, o1, rfl, _, hc1⟩ := hx (by rw [HN.out]; omega)
      have hz : k < zs.length := by rw [HN.out]; exact hlt
      have h1 := hc1 k hz
      obtain ⟨x, hxe⟩ : ∃ x, x = zs.getD k 0 := ⟨_, rfl⟩
      rw [← hxe] at h1
      by_cases hx0 : x < 0 ∨ m ≤ x
      · have hr := Lib.hid (cs_range hz ht.out (by rw [← hxe]; exact hx0))
        clear ht hxe hc1 hx hz
        by_cases hx1 : x < 0
        · go_wp2
          go_ret
          exact ⟨ret_int hr.out.symm, _, rfl⟩
        · have hx2 : m ≤ x := by omega
          clear hx0
          go_wp2
          go_ret
          exact ⟨ret_int hr.out.symm, _, rfl⟩
      · have hx1 : 0 ≤ x := by omega
        have hx2 : x < m := by omega
        clear hx0
        rcases Nat.eq_zero_or_pos k with hk0 | hk0
        · have hr := Lib.hid (cs_next hz ht.out (by rw [← hxe]; exact hx1) (by rw [← hxe]; exact hx2) (fun h => absurd h (by omega)))
          have hd : decide (0 < k) = false := by simp; omega
          clear ht hxe hc1 hx hz hk0
          go_wp2
          go_quiet (fail)
          go_wp2
          go_roundw
          case rel => exact ⟨k + 1, by omega, by go_num, hr, by first | exact ⟨_, rfl⟩ | exact dr_add _ _ _⟩
          case measure => simp [intOf]; omega
        · have h2 := hc1 (k - 1) (by omega)
          obtain ⟨y, hye⟩ : ∃ y, y = zs.getD (k - 1) 0 := ⟨_, rfl⟩
          rw [← hye] at h2
          have hd : decide (0 < k) = true := by simp; omega
          by_cases hxy : x ≤ y
          · have hr := Lib.hid (cs_order hz ht.out (by rw [← hxe]; exact hx1) (by rw [← hxe]; exact hx2) hk0 (by rw [← hxe, ← hye]; exact hxy))
            clear ht hxe hye hc1 hx hz
            go_wp2
            go_quiet (fail)
            go_wp2
            go_ret
            exact ⟨ret_int hr.out.symm, by first | exact ⟨_, rfl⟩ | exact dr_add _ _ _⟩
          · have hr := Lib.hid (cs_next hz ht.out (by rw [← hxe]; exact hx1) (by rw [← hxe]; exact hx2) (fun _ => by rw [← hxe, ← hye]; omega))
            clear ht hxe hye hc1 hx hz
            go_wp2
            go_quiet (fail)
            go_wp2
            go_roundw
            case rel => exact ⟨k + 1, by omega, by go_num, hr, by first | exact ⟨_, rfl⟩ | exact dr_add _ _ _⟩
            case measure => simp [intOf]; omega
    · have hkn : k = zs.length := by rw [HN.out]; omega
      rw [hkn] at ht
      have hr := Lib.hid (cs_end ht.out)
      clear hkn ht
      go_wp2
      go_ret
      exact ⟨ret_int hr.out.symm, _, rfl⟩
end Go.Proofs.Ytdccmebkoibkhaa
