/- The contract of sameAll of the law: two lists of words are the same. -/
import Derived.Test.YtdccmebkoibkhaaRdL
import Derived.Test.YtdccmebkoibkhaaWcmp
namespace Go.Proofs.Ytdccmebkoibkhaa
open Go.RowKit

theorem take_succ_eq {zs ys : List (List Int)} {k : Nat} (hx : k < zs.length) (hy : k < ys.length) (h : zs.take k = ys.take k) (he : zs.getD k [] = ys.getD k []) : zs.take (k + 1) = ys.take (k + 1) := by
  rw [take_snoc_w hx, take_snoc_w hy, h, he]
theorem ne_of_getD_w {zs ys : List (List Int)} {k : Nat} (he : ¬ zs.getD k [] = ys.getD k []) : decide (zs = ys) = false := by
  simp only [decide_eq_false_iff_not]; rintro rfl; exact he rfl
theorem eq_of_take_w {zs ys : List (List Int)} {n : Nat} (h1 : zs.length = n) (h2 : ys.length = n) (h : zs.take n = ys.take n) : decide (zs = ys) = true := by
  rw [List.take_of_length_le (by omega), List.take_of_length_le (by omega)] at h
  simpa using h

set_option maxHeartbeats 1000000 in
theorem sameAll_any (A B : Option Addr) (n m c d : Nat) (zs ys : List (List Int)) (w : World) (hx : RdL w w.heap.size A zs) (hy : RdL w w.heap.size B ys) (hn : zs.length = n) (hm : ys.length = m) (hb : n ≤ 100000) (hb' : m ≤ 100000)
    (lx : ∀ z ∈ zs, z.length ≤ 4096) (ly : ∀ z ∈ ys, z.length ≤ 4096) :
    Calls Try.prog 31 #[.slice A n c, .slice B m d] w fun e w' => e = .returned (.bool (decide (zs = ys))) ∧ ∃ q, w' = w.drewN q := by
  by_cases hnm : n = m
  · subst hnm
    have HX := Lib.hid hx
    have HY := Lib.hid hy
    have HN := Lib.hid hn
    have HM := Lib.hid hm
    have HLX := Lib.hid lx
    have HLY := Lib.hid ly
    clear hn hm hx hy lx ly
    go_enter Try.func31, Try.ntmps31
    go_wp2_with fail
    go_loopw [5] (fun i wr => ∃ k : Nat, k ≤ n ∧ i = .int .i64 k ∧ Hid (zs.take k = ys.take k) ∧ Hid (∃ q, wr = w.drewN q)) (fun i _ => n - (intOf i).toNat)
    case atStart => exact ⟨0, Nat.zero_le _, rfl, rfl, 0, rfl⟩
    case round =>
      obtain ⟨k, hk, rfl, ht, HQ⟩ := hrel
      by_cases hlt : k < n
      · have hz : k < zs.length := by rw [HN.out]; exact hlt
        have hy : k < ys.length := by rw [HM.out]; exact hlt
        have r1 : RdL wr wr.heap.size A zs := by obtain ⟨q, e⟩ := HQ.out; subst e; exact HX.out
        have r2 : RdL wr wr.heap.size B ys := by obtain ⟨q, e⟩ := HQ.out; subst e; exact HY.out
        obtain ⟨b1, o1, rfl, hb1, hc1⟩ := r1 (by omega)
        obtain ⟨b2, o2, rfl, hb2, hc2⟩ := r2 (by omega)
        obtain ⟨C1, d1, c1, rd1, _, _⟩ := hc1 k hz
        obtain ⟨C2, d2, c2, rd2, _, _⟩ := hc2 k hy
        have hl1 : (zs.getD k []).length ≤ 4096 := HLX.out _ (by rw [List.getD, List.getElem?_eq_getElem hz]; exact List.getElem_mem hz)
        have hl2 : (ys.getD k []).length ≤ 4096 := HLY.out _ (by rw [List.getD, List.getElem?_eq_getElem hy]; exact List.getElem_mem hy)
        have C := Lib.hid (fun q => l2same_any C1 C2 _ _ d1 d2 _ _ (zs.getD k []) (ys.getD k []) (wr.drewN q) (rd1.dr q) (rd2.dr q) rfl rfl (by omega) (by omega))
        have k4 : (k : Int) < (n : Int) := by omega
        clear hc1 hc2 rd1 rd2 r1 r2
        by_cases he : zs.getD k [] = ys.getD k []
        · have hs := Lib.hid (take_succ_eq hz hy ht.out he)
          have hd : decide (zs.getD k [] = ys.getD k []) = true := decide_eq_true he
          rw [hd] at C
          clear he hd ht hz hy
          generalize (zs.getD k []).length = n1 at *
          generalize (ys.getD k []).length = n2 at *
          go_wp2_with fail
          go_quiet ((go_at_call 22; with_reducible exact Calls.quiet_of (C.out _)))
          go_wp2_with fail
          go_roundw
          case rel => exact ⟨k + 1, by omega, by go_num, hs, by obtain ⟨q, e⟩ := HQ.out; subst e; exact ⟨_, World.drewN_drewN _ _ _⟩⟩
          case measure => simp [intOf]; omega
        · have hs := Lib.hid (ne_of_getD_w he)
          have hd : decide (zs.getD k [] = ys.getD k []) = false := decide_eq_false he
          rw [hd] at C
          clear he hd ht hz hy
          generalize (zs.getD k []).length = n1 at *
          generalize (ys.getD k []).length = n2 at *
          go_wp2_with fail
          go_quiet ((go_at_call 22; with_reducible exact Calls.quiet_of (C.out _)))
          go_wp2_with fail
          go_ret
          exact ⟨ret_bool hs.out.symm, by obtain ⟨q, e⟩ := HQ.out; subst e; exact ⟨_, World.drewN_drewN _ _ _⟩⟩
      · have hkn : k = n := by omega
        have hf := Lib.hid (by have := ht.out; rw [hkn] at this; exact eq_of_take_w HN.out HM.out this)
        clear hkn ht
        go_wp2_with fail
        go_ret
        exact ⟨ret_bool hf.out.symm, HQ.out⟩
  · have hne : ((n : Int) != (m : Int)) = true := by simp; omega
    have hf := Lib.hid (show decide (zs = ys) = false by simp only [decide_eq_false_iff_not]; rintro rfl; omega)
    rw [hf.out]
    clear hn hm hx hy lx ly
    go_enter Try.func31, Try.ntmps31
    go_wp2_with fail
    go_ret
    exact ⟨rfl, 0, rfl⟩
end Go.Proofs.Ytdccmebkoibkhaa
