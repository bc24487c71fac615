/- Layer 3: the reference's SameInts, has, List, and the law's Has. -/
import Derived.Test.YtcciiikaejjooaaaOwn
namespace Go.Proofs.Ytcciiikaejjooaa
open Go.RowKit


set_option maxHeartbeats 400000 in
theorem sameInts_any (A B : Option Addr) (n m c d Bx By : Nat) (xs ys : List Int) (w : World) (hx : RdI w Bx A xs) (hy : RdI w By B ys) (hn : xs.length = n) (hm : ys.length = m) (hb : n ≤ 140737488355328) (hb' : m ≤ 140737488355328) :
    Calls Try.prog 34 #[.slice A n c, .slice B m d] w fun e w' => e = .returned (.bool (decide (xs = ys))) ∧ ∃ q, w' = w.drewN q := by
  by_cases hnm : n = m
  · subst hnm
    have HN := Lib.hid hn
    have HM := Lib.hid hm
    clear hn hm
    go_enter Try.func34, Try.ntmps34
    go_wp2
    go_loopw [5] (fun i wr => ∃ k : Nat, k ≤ n ∧ i = .int .i64 k ∧ Hid (xs.take k = ys.take k) ∧ ∃ q, wr = w.drewN q) (fun i _ => n - (intOf i).toNat)
    case atStart => exact ⟨0, Nat.zero_le _, rfl, rfl, 0, rfl⟩
    case round =>
      obtain ⟨k, hk, rfl, ht, q, rfl⟩ := hrel
      by_cases hlt : k < n
      · obtain ⟨b1, o1, rfl, _, hc1⟩ := hx (by rw [HN.out]; omega)
        obtain ⟨b2, o2, rfl, _, hc2⟩ := hy (by rw [HM.out]; omega)
        have h1 := hc1 k (by rw [HN.out]; exact hlt)
        have h2 := hc2 k (by rw [HM.out]; exact hlt)
        clear hc1 hc2 hx hy
        obtain ⟨x, hx⟩ : ∃ x, x = xs.getD k 0 := ⟨_, rfl⟩
        obtain ⟨y, hy⟩ : ∃ y, y = ys.getD k 0 := ⟨_, rfl⟩
        rw [← hx] at h1
        rw [← hy] at h2
        by_cases hxy : x = y
        · have hs := Lib.hid (eq_take_step (by rw [HN.out]; exact hlt) (by rw [HM.out]; exact hlt) ht.out (by rw [← hx, ← hy]; exact hxy))
          have hne : (x != y) = false := by simp [hxy]
          clear hx hy hxy ht
          go_wp2
          go_quiet (fail)
          go_wp2
          go_roundw
          case rel => exact ⟨k + 1, by omega, by go_num, hs, by first | exact ⟨_, rfl⟩ | exact dr_add _ _ _⟩
          case measure => simp [intOf]; omega
        · have hf := Lib.hid (ne_of_getD (xs := xs) (ys := ys) (k := k) (by rw [← hx, ← hy]; exact hxy))
          have hne : (x != y) = true := by simp [hxy]
          clear hx hy hxy ht
          go_wp2
          go_quiet (fail)
          go_wp2
          go_ret
          exact ⟨ret_bool hf.out.symm, by first | exact ⟨_, rfl⟩ | exact dr_add _ _ _⟩
      · have hkn : k = n := by omega
        have hf := Lib.hid (eq_of_take (xs := xs) (ys := ys) (by rw [HN.out, HM.out]) (by rw [HN.out, ← hkn]; exact ht.out))
        clear hkn ht
        go_wp2
        go_ret
        exact ⟨ret_bool hf.out.symm, _, rfl⟩
  · have hf : decide (xs = ys) = false := by simp only [decide_eq_false_iff_not]; rintro rfl; omega
    have hne : ((n : Int) != (m : Int)) = true := by simp; omega
    clear hn hm
    go_enter Try.func34, Try.ntmps34
    go_wp2
    go_ret
    exact ⟨ret_bool hf.symm, 0, rfl⟩

set_option maxHeartbeats 800000 in
theorem rHas_any (A : Option Addr) (n c Bx : Nat) (zs : List Int) (x : Int) (w : World) (hx : RdI w Bx A zs) (hn : zs.length = n) (hb : n ≤ 140737488355328) :
    Calls Try.prog 48 #[.slice A n c, .int .i64 x] w fun e w' => e = .returned (.bool (decide (x ∈ zs))) ∧ w = w' := by
  have HN := Lib.hid hn
  clear hn
  go_enter Try.func48, Try.ntmps48
  go_wp2
  go_loop [5] (fun i => ∃ k : Nat, k ≤ n ∧ i = .int .i64 k ∧ Hid (x ∉ zs.take k)) (fun i => n - (intOf i).toNat)
  case atStart => exact ⟨0, Nat.zero_le _, rfl, by simp [Hid]⟩
  case round =>
    obtain ⟨k, hk, rfl, ht⟩ := hrel
    by_cases hlt : k < n
    · obtain ⟨b1, o1, rfl, _, hc1⟩ := hx (by rw [HN.out]; omega)
      have hz : k < zs.length := by rw [HN.out]; exact hlt
      have h1 := hc1 k hz
      obtain ⟨y, hye⟩ : ∃ y, y = zs.getD k 0 := ⟨_, rfl⟩
      rw [← hye] at h1
      clear hc1 hx
      by_cases hyx : y = x
      · have hr := Lib.hid (con_yes (x := x) hz (by rw [← hye]; exact hyx))
        have hb1 : (y == x) = true := by simpa using hyx
        clear hyx hye ht hz
        go_wp2
        go_ret
        exact ⟨ret_bool hr.out.symm, rfl⟩
      · have hr := Lib.hid (show x ∉ zs.take (k + 1) by rw [mem_snoc_take hz, not_or]; exact ⟨ht.out, by rw [← hye]; exact hyx⟩)
        have hb1 : (y == x) = false := by simpa using hyx
        clear hyx hye ht hz
        go_wp2
        go_round
        case rel => exact ⟨k + 1, by omega, by go_num, hr⟩
        case measure => simp [intOf]; omega
    · have hkn : k = n := by omega
      rw [hkn] at ht
      have hr := Lib.hid (con_no HN.out ht.out)
      clear hkn ht
      go_wp2
      go_ret
      exact ⟨ret_bool hr.out.symm, rfl⟩

set_option maxHeartbeats 800000 in
theorem rList_any (A : Option Addr) (n c Bx : Nat) (zs : List Int) (m : Int) (w : World) (hx : RdI w Bx A zs) (hn : zs.length = n) (hb : n ≤ 140737488355328) :
    Calls Try.prog 47 #[.slice A n c, .int .i64 m] w fun e w' => e = .returned (.int .i64 (csE m zs)) ∧ ∃ q, w' = w.drewN q := by
  have HN := Lib.hid hn
  clear hn
  obtain ⟨v, hv⟩ : ∃ v, v = csE m zs := ⟨_, rfl⟩
  rw [← hv]
  have HV := Lib.hid hv
  clear hv
  go_enter Try.func47, Try.ntmps47
  go_wp2
  go_loopw [5] (fun i wr => ∃ k : Nat, k ≤ n ∧ i = .int .i64 k ∧ Hid (csGo m (prev zs k) (zs.drop k) = v) ∧ ∃ q, wr = w.drewN q) (fun i _ => n - (intOf i).toNat)
  case atStart => exact ⟨0, Nat.zero_le _, rfl, HV.out.symm, 0, rfl⟩
  case round =>
    obtain ⟨k, hk, rfl, ht, q, rfl⟩ := hrel
    by_cases hlt : k < n
    · obtain ⟨b1, o1, rfl, _, hc1⟩ := hx (by rw [HN.out]; omega)
      have hz : k < zs.length := by rw [HN.out]; exact hlt
      have h1 := hc1 k hz
      obtain ⟨x, hxe⟩ : ∃ x, x = zs.getD k 0 := ⟨_, rfl⟩
      rw [← hxe] at h1
      by_cases hx0 : x < 0 ∨ m ≤ x
      · have hr := Lib.hid (cs_range hz ht.out (by rw [← hxe]; exact hx0))
        clear ht hxe hc1 hx hz
        by_cases hx1 : x < 0
        · go_wp2
          go_ret
          exact ⟨ret_int hr.out.symm, _, rfl⟩
        · have hx2 : m ≤ x := by omega
          clear hx0
          go_wp2
          go_ret
          exact ⟨ret_int hr.out.symm, _, rfl⟩
      · have hx1 : 0 ≤ x := by omega
        have hx2 : x < m := by omega
        clear hx0
        rcases Nat.eq_zero_or_pos k with hk0 | hk0
        · have hr := Lib.hid (cs_next hz ht.out (by rw [← hxe]; exact hx1) (by rw [← hxe]; exact hx2) (fun h => absurd h (by omega)))
          have hd : decide (0 < k) = false := by simp; omega
          clear ht hxe hc1 hx hz hk0
          go_wp2
          go_quiet (fail)
          go_wp2
          go_roundw
          case rel => exact ⟨k + 1, by omega, by go_num, hr, by first | exact ⟨_, rfl⟩ | exact dr_add _ _ _⟩
          case measure => simp [intOf]; omega
        · have h2 := hc1 (k - 1) (by omega)
          obtain ⟨y, hye⟩ : ∃ y, y = zs.getD (k - 1) 0 := ⟨_, rfl⟩
          rw [← hye] at h2
          have hd : decide (0 < k) = true := by simp; omega
          by_cases hxy : x ≤ y
          · have hr := Lib.hid (cs_order hz ht.out (by rw [← hxe]; exact hx1) (by rw [← hxe]; exact hx2) hk0 (by rw [← hxe, ← hye]; exact hxy))
            clear ht hxe hye hc1 hx hz
            go_wp2
            go_quiet (fail)
            go_wp2
            go_ret
            exact ⟨ret_int hr.out.symm, by first | exact ⟨_, rfl⟩ | exact dr_add _ _ _⟩
          · have hr := Lib.hid (cs_next hz ht.out (by rw [← hxe]; exact hx1) (by rw [← hxe]; exact hx2) (fun _ => by rw [← hxe, ← hye]; omega))
            clear ht hxe hye hc1 hx hz
            go_wp2
            go_quiet (fail)
            go_wp2
            go_roundw
            case rel => exact ⟨k + 1, by omega, by go_num, hr, by first | exact ⟨_, rfl⟩ | exact dr_add _ _ _⟩
            case measure => simp [intOf]; omega
    · have hkn : k = zs.length := by rw [HN.out]; omega
      rw [hkn] at ht
      have hr := Lib.hid (cs_end ht.out)
      clear hkn ht
      go_wp2
      go_ret
      exact ⟨ret_int hr.out.symm, _, rfl⟩

set_option maxHeartbeats 800000 in
theorem lHas_any (A : Option Addr) (n c Bx : Nat) (zs : List Int) (x : Int) (w : World) (hx : RdI w Bx A zs) (hn : zs.length = n) (hb : n ≤ 140737488355328) :
    Calls Try.prog 36 #[.slice A n c, .int .i64 x] w fun e w' => e = .returned (.bool (decide (x ∈ zs))) ∧ w = w' := by
  have HN := Lib.hid hn
  clear hn
  go_enter Try.func36, Try.ntmps36
  go_wp2
  go_loop [5] (fun i => ∃ k : Nat, k ≤ n ∧ i = .int .i64 k ∧ Hid (x ∉ zs.take k)) (fun i => n - (intOf i).toNat)
  case atStart => exact ⟨0, Nat.zero_le _, rfl, by simp [Hid]⟩
  case round =>
    obtain ⟨k, hk, rfl, ht⟩ := hrel
    by_cases hlt : k < n
    · obtain ⟨b1, o1, rfl, _, hc1⟩ := hx (by rw [HN.out]; omega)
      have hz : k < zs.length := by rw [HN.out]; exact hlt
      have h1 := hc1 k hz
      obtain ⟨y, hye⟩ : ∃ y, y = zs.getD k 0 := ⟨_, rfl⟩
      rw [← hye] at h1
      clear hc1 hx
      by_cases hyx : y = x
      · have hr := Lib.hid (con_yes (x := x) hz (by rw [← hye]; exact hyx))
        have hb1 : (y == x) = true := by simpa using hyx
        clear hyx hye ht hz
        go_wp2
        go_ret
        exact ⟨ret_bool hr.out.symm, rfl⟩
      · have hr := Lib.hid (show x ∉ zs.take (k + 1) by rw [mem_snoc_take hz, not_or]; exact ⟨ht.out, by rw [← hye]; exact hyx⟩)
        have hb1 : (y == x) = false := by simpa using hyx
        clear hyx hye ht hz
        go_wp2
        go_round
        case rel => exact ⟨k + 1, by omega, by go_num, hr⟩
        case measure => simp [intOf]; omega
    · have hkn : k = n := by omega
      rw [hkn] at ht
      have hr := Lib.hid (con_no HN.out ht.out)
      clear hkn ht
      go_wp2
      go_ret
      exact ⟨ret_bool hr.out.symm, rfl⟩

end Go.Proofs.Ytcciiikaejjooaa
