/- The contract of the reference's IsName, and the law AlphabetNames: program and reference agree on names. -/
import Derived.Test.YtdccmebkoibkhaaCheck
namespace Go.Proofs.Ytdccmebkoibkhaa
open Go.RowKit

theorem okB_let1 {c : UInt8} (h1 : 97 ≤ (c.toNat : Int)) (h2 : (c.toNat : Int) ≤ 122) : okB c = true := by simp only [okB, letB, Bool.or_eq_true, Bool.and_eq_true, decide_eq_true_eq]; omega
theorem okB_let2 {c : UInt8} (h1 : 65 ≤ (c.toNat : Int)) (h2 : (c.toNat : Int) ≤ 90) : okB c = true := by simp only [okB, letB, Bool.or_eq_true, Bool.and_eq_true, decide_eq_true_eq]; omega
theorem okB_us {c : UInt8} (h1 : (c.toNat : Int) = 95) : okB c = true := by simp only [okB, Bool.or_eq_true, decide_eq_true_eq]; omega
theorem okB_dig {c : UInt8} (h1 : 48 ≤ (c.toNat : Int)) (h2 : (c.toNat : Int) ≤ 57) : okB c = true := by simp only [okB, digB, Bool.or_eq_true, Bool.and_eq_true, decide_eq_true_eq]; omega
theorem okB_not {c : UInt8} (h1 : (c.toNat : Int) < 48 ∨ 57 < (c.toNat : Int)) (h2 : (c.toNat : Int) < 65 ∨ 90 < (c.toNat : Int)) (h3 : (c.toNat : Int) ≠ 95) (h4 : (c.toNat : Int) < 97 ∨ 122 < (c.toNat : Int)) : okB c = false := by
  simp only [okB, digB, letB, Bool.or_eq_false_iff, Bool.and_eq_false_iff, decide_eq_false_iff_not]; omega
theorem digB_yes {c : UInt8} (h1 : 48 ≤ (c.toNat : Int)) (h2 : (c.toNat : Int) ≤ 57) : digB c = true := by simp only [digB, Bool.and_eq_true, decide_eq_true_eq]; omega
theorem digB_no {c : UInt8} (h1 : (c.toNat : Int) < 48 ∨ 57 < (c.toNat : Int)) : digB c = false := by simp only [digB, Bool.and_eq_false_iff, decide_eq_false_iff_not]; omega
theorem first_dig {s : ByteArray} {k : Nat} (hk : k < s.size) (hd : 0 < k → digB (s.data.toList.headD 0) = false) (h : (s[k].toNat : Int) < 48 ∨ 57 < (s[k].toNat : Int)) : digB (s.data.toList.headD 0) = false := by
  rcases Nat.eq_zero_or_pos k with rfl | h0
  · rw [headD_data s hk]; exact digB_no h
  · exact hd h0

set_option maxHeartbeats 3200000 in
theorem r1IsName_any (s : ByteArray) (w : World) (hs : s.size ≤ maxLen) :
    Calls Try.prog 71 #[.string s] w fun e w' => e = .returned (.bool (nameB s.data.toList)) ∧ w = w' := by
  unfold maxLen at hs
  by_cases h0 : 0 < s.size
  · by_cases h1 : s.size ≤ 32
    · go_enter Try.func71, Try.ntmps71
      go_wp2
      go_loop [3] (fun i => ∃ k : Nat, k ≤ s.size ∧ i = .int .i64 k ∧ Hid ((s.data.toList.take k).all okB = true) ∧ Hid (0 < k → digB (s.data.toList.headD 0) = false)) (fun i => s.size - (intOf i).toNat)
      case atStart => exact ⟨0, Nat.zero_le _, rfl, by simp [Hid], fun h => absurd h (by omega)⟩
      case round =>
        obtain ⟨k, hk, rfl, hall, hd0⟩ := hrel
        by_cases hlt : k < s.size
        · rcases (show (s[k].toNat : Int) < 48 ∨ (48 ≤ (s[k].toNat : Int) ∧ (s[k].toNat : Int) ≤ 57) ∨ (57 < (s[k].toNat : Int) ∧ (s[k].toNat : Int) < 65) ∨ (65 ≤ (s[k].toNat : Int) ∧ (s[k].toNat : Int) ≤ 90) ∨ (90 < (s[k].toNat : Int) ∧ (s[k].toNat : Int) < 95) ∨ (s[k].toNat : Int) = 95 ∨ (95 < (s[k].toNat : Int) ∧ (s[k].toNat : Int) < 97) ∨ (97 ≤ (s[k].toNat : Int) ∧ (s[k].toNat : Int) ≤ 122) ∨ 122 < (s[k].toNat : Int) from by omega) with g | ⟨g, g'⟩ | ⟨g, g'⟩ | ⟨g, g'⟩ | ⟨g, g'⟩ | g | ⟨g, g'⟩ | ⟨g, g'⟩ | g
          · have hn := Lib.hid (nameB_bad k hlt (okB_not (by omega) (by omega) (by omega) (by omega)))
            clear hall hd0
            go_wp2
            go_ret
            exact ⟨ret_bool hn.out.symm, rfl⟩
          · rcases Nat.eq_zero_or_pos k with hk0 | hk0
            · have hn := Lib.hid (nameB_digit h0 (show digB s[0] = true from by subst hk0; exact digB_yes g g'))
              have hb : ((k : Int) == 0) = true := by simp [hk0]
              clear hall hd0 hk0
              go_wp2
              go_ret
              exact ⟨ret_bool hn.out.symm, rfl⟩
            · have hall' := Lib.hid (okB_step k hlt hall.out (okB_dig g g'))
              have hd' := Lib.hid (show 0 < k + 1 → digB (s.data.toList.headD 0) = false from fun _ => hd0.out hk0)
              have hb : ((k : Int) == 0) = false := by simp; omega
              clear hall hd0
              go_wp2
              go_round
              case rel => exact ⟨k + 1, by omega, by go_num, hall', hd'⟩
              case measure => simp [intOf]; omega
          · have hn := Lib.hid (nameB_bad k hlt (okB_not (by omega) (by omega) (by omega) (by omega)))
            clear hall hd0
            go_wp2
            go_ret
            exact ⟨ret_bool hn.out.symm, rfl⟩
          · have hall' := Lib.hid (okB_step k hlt hall.out (okB_let2 g g'))
            have hd' := Lib.hid (show 0 < k + 1 → digB (s.data.toList.headD 0) = false from fun _ => first_dig hlt hd0.out (by omega))
            clear hall hd0
            go_wp2
            go_round
            case rel => exact ⟨k + 1, by omega, by go_num, hall', hd'⟩
            case measure => simp [intOf]; omega
          · have hn := Lib.hid (nameB_bad k hlt (okB_not (by omega) (by omega) (by omega) (by omega)))
            clear hall hd0
            go_wp2
            go_ret
            exact ⟨ret_bool hn.out.symm, rfl⟩
          · have hall' := Lib.hid (okB_step k hlt hall.out (okB_us g))
            have hd' := Lib.hid (show 0 < k + 1 → digB (s.data.toList.headD 0) = false from fun _ => first_dig hlt hd0.out (by omega))
            have g1 : 95 ≤ (s[k].toNat : Int) := by omega
            have g2 : (s[k].toNat : Int) ≤ 95 := by omega
            have hb : ((s[k].toNat : Int) == 95) = true := by simpa using g
            clear hall hd0 g
            go_wp2
            go_round
            case rel => exact ⟨k + 1, by omega, by go_num, hall', hd'⟩
            case measure => simp [intOf]; omega
          · have hn := Lib.hid (nameB_bad k hlt (okB_not (by omega) (by omega) (by omega) (by omega)))
            clear hall hd0
            go_wp2
            go_ret
            exact ⟨ret_bool hn.out.symm, rfl⟩
          · have hall' := Lib.hid (okB_step k hlt hall.out (okB_let1 g g'))
            have hd' := Lib.hid (show 0 < k + 1 → digB (s.data.toList.headD 0) = false from fun _ => first_dig hlt hd0.out (by omega))
            clear hall hd0
            go_wp2
            go_round
            case rel => exact ⟨k + 1, by omega, by go_num, hall', hd'⟩
            case measure => simp [intOf]; omega
          · have hn := Lib.hid (nameB_bad k hlt (okB_not (by omega) (by omega) (by omega) (by omega)))
            clear hall hd0
            go_wp2
            go_ret
            exact ⟨ret_bool hn.out.symm, rfl⟩
        · have hkn : k = s.size := by omega
          have hn := Lib.hid (nameB_good h0 h1 (by rw [← headD_data s h0]; exact hd0.out (by omega)) (by rw [← hkn]; exact hall.out))
          clear hall hd0 hkn
          go_wp2
          go_ret
          exact ⟨ret_bool hn.out.symm, rfl⟩
    · have hn := Lib.hid (nameB_long h1)
      have h2 : 32 < s.size := by omega
      go_enter Try.func71, Try.ntmps71
      go_wp2
      go_ret
      exact ⟨ret_bool hn.out.symm, rfl⟩
  · have hn := Lib.hid (nameB_empty (s := s) (by omega))
    go_enter Try.func71, Try.ntmps71
    go_wp2
    go_ret
    exact ⟨ret_bool hn.out.symm, rfl⟩
end Go.Proofs.Ytdccmebkoibkhaa
