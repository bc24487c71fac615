/- Contracts of slices.Equal of ints, word.Equal, word.IsPrefix and the reference's Prefix. -/
import Derived.Test.YtdccmebkoibkhaaWcmp
namespace Go.Proofs.Ytdccmebkoibkhaa
open Go.RowKit

set_option maxHeartbeats 400000 in
theorem equalInt_any (A B : Option Addr) (n m c d Bx By : Nat) (xs ys : List Int) (w : World) (hx : RdI w Bx A xs) (hy : RdI w By B ys) (hn : xs.length = n) (hm : ys.length = m) (hb : n ≤ 140737488355328) (hb' : m ≤ 140737488355328) :
    Calls Try.prog 48 #[.slice A n c, .slice B m d] w fun e w' => e = .returned (.bool (decide (xs = ys))) ∧ ∃ q, w' = w.drewN q := by
  by_cases hnm : n = m
  · subst hnm
    have HN := Lib.hid hn
    have HM := Lib.hid hm
    clear hn hm
    go_enter Try.func48, Try.ntmps48
    go_wp2
    go_loopw [13] (fun i wr => ∃ k : Nat, k ≤ n ∧ i = .int .i64 k ∧ Hid (xs.take k = ys.take k) ∧ ∃ q, wr = w.drewN q) (fun i _ => n - (intOf i).toNat)
    case atStart => exact ⟨0, Nat.zero_le _, rfl, rfl, 0, rfl⟩
    case round =>
      obtain ⟨k, hk, rfl, ht, q, rfl⟩ := hrel
      by_cases hlt : k < n
      · obtain ⟨b1, o1, rfl, _, hc1⟩ := hx (by rw [HN.out]; omega)
        obtain ⟨b2, o2, rfl, _, hc2⟩ := hy (by rw [HM.out]; omega)
        have h1 := hc1 k (by rw [HN.out]; exact hlt)
        have h2 := hc2 k (by rw [HM.out]; exact hlt)
        clear hc1 hc2 hx hy
        obtain ⟨x, hx⟩ : ∃ x, x = xs.getD k 0 := ⟨_, rfl⟩
        obtain ⟨y, hy⟩ : ∃ y, y = ys.getD k 0 := ⟨_, rfl⟩
        rw [← hx] at h1
        rw [← hy] at h2
        by_cases hxy : x = y
        · have hs := Lib.hid (eq_take_step (by rw [HN.out]; exact hlt) (by rw [HM.out]; exact hlt) ht.out (by rw [← hx, ← hy]; exact hxy))
          have hne : (x != y) = false := by simp [hxy]
          clear hx hy hxy ht
          go_wp2
          go_quiet (fail)
          go_wp2
          go_roundw
          case rel => exact ⟨k + 1, by omega, by go_num, hs, by first | exact ⟨_, rfl⟩ | exact dr_add _ _ _⟩
          case measure => simp [intOf]; omega
        · have hf := Lib.hid (ne_of_getD (xs := xs) (ys := ys) (k := k) (by rw [← hx, ← hy]; exact hxy))
          have hne : (x != y) = true := by simp [hxy]
          clear hx hy hxy ht
          go_wp2
          go_quiet (fail)
          go_wp2
          go_ret
          exact ⟨ret_bool hf.out.symm, by first | exact ⟨_, rfl⟩ | exact dr_add _ _ _⟩
      · have hkn : k = n := by omega
        have hf := Lib.hid (eq_of_take (xs := xs) (ys := ys) (by rw [HN.out, HM.out]) (by rw [HN.out, ← hkn]; exact ht.out))
        clear hkn ht
        go_wp2
        go_ret
        exact ⟨ret_bool hf.out.symm, _, rfl⟩
  · have hf : decide (xs = ys) = false := by simp only [decide_eq_false_iff_not]; rintro rfl; omega
    have hne : ((n : Int) != (m : Int)) = true := by simp; omega
    clear hn hm
    go_enter Try.func48, Try.ntmps48
    go_wp2
    go_ret
    exact ⟨ret_bool hf.symm, 0, rfl⟩

theorem wEqual_any (A B : Option Addr) (n m c d Bx By : Nat) (xs ys : List Int) (w : World) (hx : RdI w Bx A xs) (hy : RdI w By B ys) (hn : xs.length = n) (hm : ys.length = m) (hb : n ≤ 140737488355328) (hb' : m ≤ 140737488355328) :
    Calls Try.prog 19 #[.slice A n c, .slice B m d] w fun e w' => e = .returned (.bool (decide (xs = ys))) ∧ ∃ q, w' = w.drewN q := by
  have H := Lib.hid (equalInt_any A B n m c d Bx By xs ys w hx hy hn hm hb hb')
  clear hn hm hx hy
  go_enter Try.func19, Try.ntmps19
  go_wp2_with fail
  refine H.out.mono ?_
  rintro e w' ⟨rfl, q, rfl⟩
  go_wp2
  go_ret
  exact ⟨rfl, q, rfl⟩

theorem RdI.take {w : World} {B : Nat} {A : Option Addr} {zs : List Int} (h : RdI w B A zs) (k : Nat) : RdI w B A (zs.take k) := fun h0 => by
  rw [List.length_take] at h0
  obtain ⟨b, o, e, hb, hc⟩ := h (by omega)
  refine ⟨b, o, e, hb, fun j hj => ?_⟩
  rw [List.length_take] at hj
  rw [hc j (by omega), List.getD, List.getD, List.getElem?_take_of_lt (by omega)]

/-- Whether the first list begins the second one. -/
def preB (xs ys : List Int) : Bool := decide (xs.length ≤ ys.length ∧ xs = ys.take xs.length)

set_option maxHeartbeats 400000 in
theorem wIsPrefix_any (A B : Option Addr) (n m c d Bx By : Nat) (xs ys : List Int) (w : World) (hx : RdI w Bx A xs) (hy : RdI w By B ys) (hn : xs.length = n) (hm : ys.length = m) (hmd : m ≤ d) (hb : n ≤ 140737488355328) :
    Calls Try.prog 27 #[.slice A n c, .slice B m d] w fun e w' => e = .returned (.bool (preB xs ys)) ∧ ∃ q, w' = w.drewN q := by
  by_cases hnm : n ≤ m
  · have H := Lib.hid (fun C d => equalInt_any A C n n c d Bx By xs (ys.take n) w hx)
    have H1 := Lib.hid (fun d => H.out B d (hy.take n) hn (by rw [List.length_take]; omega) hb hb)
    have hr := Lib.hid (show preB xs ys = decide (xs = ys.take n) by
      unfold preB; rw [hn, hm, Bool.eq_iff_iff]; simp [hnm])
    rw [hr.out]
    have i1 : (n : Int) ≤ (m : Int) := by omega
    have i2 : (n : Int) ≤ (d : Int) := by omega
    clear hn hm hx hy hr H
    go_enter Try.func27, Try.ntmps27
    go_wp2_with fail
    refine (H1.out _).mono ?_
    rintro e w' ⟨rfl, q, rfl⟩
    go_wp2
    go_ret
    exact ⟨by simp, q, rfl⟩
  · have hr := Lib.hid (show preB xs ys = false by unfold preB; rw [hn, hm]; simp [hnm])
    rw [hr.out]
    have i1 : ¬ (n : Int) ≤ (m : Int) := by omega
    clear hn hm hx hy hr
    go_enter Try.func27, Try.ntmps27
    go_wp2_with fail
    go_ret
    exact ⟨by simp, 0, rfl⟩

set_option maxHeartbeats 400000 in
theorem r2Prefix_any (A B : Option Addr) (n m c d Bx By : Nat) (xs ys : List Int) (w : World) (hx : RdI w Bx A xs) (hy : RdI w By B ys) (hn : xs.length = n) (hm : ys.length = m) (hmd : m ≤ d) (hb : n ≤ 140737488355328) :
    Calls Try.prog 28 #[.slice A n c, .slice B m d] w fun e w' => e = .returned (.bool (preB xs ys)) ∧ ∃ q, w' = w.drewN q := by
  by_cases hnm : n ≤ m
  · have H1 := Lib.hid (fun d => r2Compare_any A B n n c d Bx By xs (ys.take n) w hx (hy.take n) hn (by rw [List.length_take]; omega) hb hb)
    have hz := Lib.hid (cmp_zero xs (ys.take n))
    obtain ⟨v, hv⟩ : ∃ v, cmpI xs (ys.take n) = v := ⟨_, rfl⟩
    rw [hv] at H1 hz
    have hr := Lib.hid (show preB xs ys = (v == 0) by
      rw [hz.out]; unfold preB; rw [hn, hm, Bool.eq_iff_iff]; simp [hnm])
    rw [hr.out]
    have i1 : (n : Int) ≤ (m : Int) := by omega
    have i2 : (n : Int) ≤ (d : Int) := by omega
    clear hn hm hx hy hr hv hz
    go_enter Try.func28, Try.ntmps28
    go_wp2_with fail
    refine (H1.out _).mono ?_
    rintro e w' ⟨rfl, q, rfl⟩
    go_wp2
    go_ret
    exact ⟨by simp, q, rfl⟩
  · have hr := Lib.hid (show preB xs ys = false by unfold preB; rw [hn, hm]; simp [hnm])
    rw [hr.out]
    have i1 : ¬ (n : Int) ≤ (m : Int) := by omega
    clear hn hm hx hy hr
    go_enter Try.func28, Try.ntmps28
    go_wp2_with fail
    go_ret
    exact ⟨by simp, 0, rfl⟩
end Go.Proofs.Ytdccmebkoibkhaa
