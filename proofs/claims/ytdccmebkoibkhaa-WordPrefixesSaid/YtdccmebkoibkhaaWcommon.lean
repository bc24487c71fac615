/- The contract of Common: the longest common beginning, in new memory. -/
import Derived.Test.YtdccmebkoibkhaaWclone
import Derived.Test.YtdccmebkoibkhaaWequal
namespace Go.Proofs.Ytdccmebkoibkhaa
open Go.RowKit

/-- The length of the longest common beginning. -/
def com : List Int → List Int → Nat
  | x :: xs, y :: ys => if x = y then com xs ys + 1 else 0
  | _, _ => 0
theorem com_nil_l (ys : List Int) : com [] ys = 0 := by cases ys <;> rfl
theorem com_nil_r (xs : List Int) : com xs [] = 0 := by cases xs <;> rfl
theorem com_next {xs ys : List Int} {k v : Nat} (hx : k < xs.length) (hy : k < ys.length) (h : com (xs.drop k) (ys.drop k) + k = v) (he : xs.getD k 0 = ys.getD k 0) : com (xs.drop (k + 1)) (ys.drop (k + 1)) + (k + 1) = v := by
  rw [drop_step xs k hx, drop_step ys k hy, com, if_pos he] at h; omega
theorem com_stop {xs ys : List Int} {k v : Nat} (hx : k < xs.length) (hy : k < ys.length) (h : com (xs.drop k) (ys.drop k) + k = v) (he : ¬ xs.getD k 0 = ys.getD k 0) : v = k := by
  rw [drop_step xs k hx, drop_step ys k hy, com, if_neg he] at h; omega
theorem com_end_l {xs ys : List Int} {k v : Nat} (hx : xs.length ≤ k) (h : com (xs.drop k) (ys.drop k) + k = v) : v = k := by
  rw [List.drop_of_length_le hx, com_nil_l] at h; omega
theorem com_end_r {xs ys : List Int} {k v : Nat} (hy : ys.length ≤ k) (h : com (xs.drop k) (ys.drop k) + k = v) : v = k := by
  rw [List.drop_of_length_le (l := ys) hy, com_nil_r] at h; omega

set_option maxHeartbeats 800000 in
set_option maxRecDepth 4000 in
theorem common_any (A B : Option Addr) (n m c d : Nat) (xs ys : List Int) (w : World) (hx : RdI w w.heap.size A xs) (hy : RdI w w.heap.size B ys) (hn : xs.length = n) (hm : ys.length = m) (hnc : n ≤ c) (hb : n * 8 ≤ 140737488351232) (hb' : m ≤ 140737488355328) :
    Calls Try.prog 29 #[.slice A n c, .slice B m d] w fun e w' => GivesC w (xs.take (com xs ys)) e w' := by
  obtain ⟨v, hv⟩ : ∃ v, v = com xs ys := ⟨_, rfl⟩
  rw [← hv]
  have hv0 := Lib.hid (show com (xs.drop 0) (ys.drop 0) + 0 = v from hv.symm)
  have HC := Lib.hid (fun (k : Nat) (q : Nat) (hk : k ≤ n) => clone_any A k c (xs.take k) (w.drewN q) (hx.take k) (by rw [List.length_take]; omega) (by omega))
  have HN := Lib.hid hn
  have HM := Lib.hid hm
  clear hn hm hv
  go_enter Try.func29, Try.ntmps29
  go_wp2_with fail
  go_loopw [5] (fun i wr => ∃ k : Nat, k ≤ n ∧ k ≤ m ∧ i = .int .i64 k ∧ Hid (com (xs.drop k) (ys.drop k) + k = v) ∧ ∃ q, wr = w.drewN q) (fun i _ => n - (intOf i).toNat)
  case atStart => exact ⟨0, Nat.zero_le _, Nat.zero_le _, rfl, hv0, 0, rfl⟩
  case round =>
    obtain ⟨k, hkn, hkm, rfl, ht, q, rfl⟩ := hrel
    have i1 : (k : Int) ≤ (n : Int) := by omega
    have i2 : (k : Int) ≤ (c : Int) := by omega
    by_cases h1 : k < n
    · have d1 : decide ((k : Int) < (n : Int)) = true := by simp; omega
      by_cases h2 : k < m
      · have d2 : decide ((k : Int) < (m : Int)) = true := by simp; omega
        obtain ⟨b1, o1, rfl, _, hc1⟩ := hx (by rw [HN.out]; omega)
        obtain ⟨b2, o2, rfl, _, hc2⟩ := hy (by rw [HM.out]; omega)
        have g1 := hc1 k (by rw [HN.out]; exact h1)
        have g2 := hc2 k (by rw [HM.out]; exact h2)
        clear hc1 hc2 hx hy
        obtain ⟨x, hx⟩ : ∃ x, x = xs.getD k 0 := ⟨_, rfl⟩
        obtain ⟨y, hy⟩ : ∃ y, y = ys.getD k 0 := ⟨_, rfl⟩
        rw [← hx] at g1
        rw [← hy] at g2
        by_cases hxy : x = y
        · have hs := Lib.hid (com_next (by rw [HN.out]; exact h1) (by rw [HM.out]; exact h2) ht.out (by rw [← hx, ← hy]; exact hxy))
          have he : (x == y) = true := by simpa using hxy
          clear hx hy hxy ht
          go_wp2_with fail
          go_quiet (fail)
          go_wp2_with fail
          go_roundw
          case rel => exact ⟨k + 1, by omega, by omega, by go_num, hs, by first | exact ⟨_, rfl⟩ | exact dr_add _ _ _⟩
          case measure => simp [intOf]; omega
        · have hs := Lib.hid (com_stop (by rw [HN.out]; exact h1) (by rw [HM.out]; exact h2) ht.out (by rw [← hx, ← hy]; exact hxy))
          have he : (x == y) = false := by simpa using hxy
          clear hx hy hxy ht
          go_wp2_with fail
          go_quiet (fail)
          go_wp2_with fail
          refine (HC.out k _ hkn).mono ?_
          rintro e w1 ⟨A', c', rfl, hr, hbel, hc1, hc2⟩
          go_wp2_with fail
          go_ret
          exact ⟨A', c', by rw [hs.out, List.length_take]; rfl, by rw [hs.out]; exact hr, (below_drewN (Below.refl _ _) _).trans hbel, by rw [hs.out]; exact hc1, hc2⟩
      · have d2 : decide ((k : Int) < (m : Int)) = false := by simp; omega
        have hs := Lib.hid (com_end_r (by rw [HM.out]; omega) ht.out)
        clear ht
        go_wp2_with fail
        go_quiet (fail)
        go_wp2_with fail
        refine (HC.out k _ hkn).mono ?_
        rintro e w1 ⟨A', c', rfl, hr, hbel, hc1, hc2⟩
        go_wp2_with fail
        go_ret
        exact ⟨A', c', by rw [hs.out, List.length_take]; rfl, by rw [hs.out]; exact hr, (below_drewN (Below.refl _ _) _).trans hbel, by rw [hs.out]; exact hc1, hc2⟩
    · have d1 : decide ((k : Int) < (n : Int)) = false := by simp; omega
      have hs := Lib.hid (com_end_l (by rw [HN.out]; omega) ht.out)
      clear ht
      go_wp2_with fail
      go_quiet (fail)
      go_wp2_with fail
      refine (HC.out k _ hkn).mono ?_
      rintro e w1 ⟨A', c', rfl, hr, hbel, hc1, hc2⟩
      go_wp2_with fail
      go_ret
      exact ⟨A', c', by rw [hs.out, List.length_take]; rfl, by rw [hs.out]; exact hr, (below_drewN (Below.refl _ _) _).trans hbel, by rw [hs.out]; exact hc1, hc2⟩
end Go.Proofs.Ytdccmebkoibkhaa
