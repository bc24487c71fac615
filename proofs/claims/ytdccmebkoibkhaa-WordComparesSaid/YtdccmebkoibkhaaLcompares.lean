/- The walk of WordCompares. -/
import Derived.Test.YtdccmebkoibkhaaWknown
namespace Go.Proofs.Ytdccmebkoibkhaa
open Go.RowKit

theorem cmpI_range (a b : List Int) : -1 ≤ cmpI a b ∧ cmpI a b ≤ 1 := by
  rw [cmpI]
  by_cases h1 : a.length < b.length
  · rw [if_pos h1]; omega
  · by_cases h2 : b.length < a.length
    · rw [if_neg h1, if_pos h2]; omega
    · rw [if_neg h1, if_neg h2]
      clear h1 h2
      induction a generalizing b with
      | nil => cases b <;> simp [lexI]
      | cons x xs ih =>
        cases b with
        | nil => simp [lexI]
        | cons y ys =>
          rw [lexI]
          by_cases h1 : x < y
          · rw [if_pos h1]; omega
          · by_cases h2 : y < x
            · rw [if_neg h1, if_pos h2]; omega
            · rw [if_neg h1, if_neg h2]; exact ih ys

set_option maxHeartbeats 4000000 in
set_option maxRecDepth 100000 in
theorem lawCompares (A : Option Addr) (n c : Nat) (xs : List Int) (B : Option Addr) (m d : Nat) (ys : List Int) (C : Option Addr) (l f : Nat) (zs : List Int) (w : World) (hx : RdI w w.heap.size A xs) (hn : xs.length = n) (_hf : ∀ z ∈ xs, (Lit.int .i64 z).wf = true)
    (hy : RdI w w.heap.size B ys) (hm : ys.length = m) (_hg : ∀ z ∈ ys, (Lit.int .i64 z).wf = true) (hz : RdI w w.heap.size C zs) (hl : zs.length = l) (_hh : ∀ z ∈ zs, (Lit.int .i64 z).wf = true) :
    Calls Try.prog 4 #[.slice A n c, .slice B m d, .slice C l f] w fun e w' => e = .returned (.bool true) ∧ Below w.heap.size w w' := by
  have HK := Lib.hid known_any
  have HX := Lib.hid hx
  have HY := Lib.hid hy
  have HZ := Lib.hid hz
  have HN := Lib.hid hn
  have HM := Lib.hid hm
  have HL := Lib.hid hl
  clear hx hy hz hn hm hl
  by_cases hg_n : 20 < n
  · have hi_n : (20 : Int) < (n : Int) := by omega
    go_enter Try.func4, Try.ntmps4
    go_wp2_with fail
    refine (HK.out _).mono ?_
    rintro e w1 ⟨rfl, hb1⟩
    have HB1 := Lib.hid hb1
    clear hb1
    go_wp2_with fail
    refine (HK.out _).mono ?_
    rintro e w2 ⟨rfl, hb2⟩
    have HB2 := Lib.hid (HB1.out.trans (hb2.mono HB1.out.size))
    clear hb2
    go_wp2_with fail
    go_ret
    exact ⟨rfl, HB2.out⟩
  by_cases hg_m : 20 < m
  · have hi_m : (20 : Int) < (m : Int) := by omega
    go_enter Try.func4, Try.ntmps4
    go_wp2_with fail
    refine (HK.out _).mono ?_
    rintro e w1 ⟨rfl, hb1⟩
    have HB1 := Lib.hid hb1
    clear hb1
    go_wp2_with fail
    refine (HK.out _).mono ?_
    rintro e w2 ⟨rfl, hb2⟩
    have HB2 := Lib.hid (HB1.out.trans (hb2.mono HB1.out.size))
    clear hb2
    go_wp2_with fail
    go_ret
    exact ⟨rfl, HB2.out⟩
  by_cases hg_l : 20 < l
  · have hi_l : (20 : Int) < (l : Int) := by omega
    go_enter Try.func4, Try.ntmps4
    go_wp2_with fail
    refine (HK.out _).mono ?_
    rintro e w1 ⟨rfl, hb1⟩
    have HB1 := Lib.hid hb1
    clear hb1
    go_wp2_with fail
    refine (HK.out _).mono ?_
    rintro e w2 ⟨rfl, hb2⟩
    have HB2 := Lib.hid (HB1.out.trans (hb2.mono HB1.out.size))
    clear hb2
    go_wp2_with fail
    go_ret
    exact ⟨rfl, HB2.out⟩
  have hn2 : n ≤ 20 := by omega
  have hm2 : m ≤ 20 := by omega
  have hl2 : l ≤ 20 := by omega
  clear hg_n hg_m hg_l
  have hn3 : (n : Int) ≤ 20 := by omega
  have hm3 : (m : Int) ≤ 20 := by omega
  have hl3 : (l : Int) ≤ 20 := by omega
  have C1 := Lib.hid (fun (W : World) (h : Below w.heap.size w W) => wCompare_any A B n m c d _ _ xs ys W (HX.out.below h (Nat.le_refl _)) (HY.out.below h (Nat.le_refl _)) HN.out HM.out (by omega) (by omega))
  have C2 := Lib.hid (fun (W : World) (h : Below w.heap.size w W) => wCompare_any B A m n d c _ _ ys xs W (HY.out.below h (Nat.le_refl _)) (HX.out.below h (Nat.le_refl _)) HM.out HN.out (by omega) (by omega))
  have C3 := Lib.hid (fun (W : World) (h : Below w.heap.size w W) => wCompare_any A A n n c c _ _ xs xs W (HX.out.below h (Nat.le_refl _)) (HX.out.below h (Nat.le_refl _)) HN.out HN.out (by omega) (by omega))
  have C4 := Lib.hid (fun (W : World) (h : Below w.heap.size w W) => r2Compare_any A B n m c d _ _ xs ys W (HX.out.below h (Nat.le_refl _)) (HY.out.below h (Nat.le_refl _)) HN.out HM.out (by omega) (by omega))
  have C5 := Lib.hid (fun (W : World) (h : Below w.heap.size w W) => wEqual_any A B n m c d _ _ xs ys W (HX.out.below h (Nat.le_refl _)) (HY.out.below h (Nat.le_refl _)) HN.out HM.out (by omega) (by omega))
  have C6 := Lib.hid (fun (W : World) (h : Below w.heap.size w W) => wCompare_any B C m l d f _ _ ys zs W (HY.out.below h (Nat.le_refl _)) (HZ.out.below h (Nat.le_refl _)) HM.out HL.out (by omega) (by omega))
  have C7 := Lib.hid (fun (W : World) (h : Below w.heap.size w W) => wCompare_any A C n l c f _ _ xs zs W (HX.out.below h (Nat.le_refl _)) (HZ.out.below h (Nat.le_refl _)) HN.out HL.out (by omega) (by omega))
  have e2 := cmpI_neg xs ys
  rw [e2] at C2
  rw [cmpI_self] at C3
  have e5 : decide (xs = ys) = decide (cmpI xs ys = 0) := by
    by_cases h : xs = ys
    · subst h; simp [cmpI_self]
    · rw [decide_eq_false h, decide_eq_false (fun e => h (cmpI_eq e))]
  rw [e5] at C5
  have hr := cmpI_range xs ys
  have ht : cmpI xs ys ≤ 0 → cmpI ys zs ≤ 0 → cmpI xs zs ≤ 0 := cmpI_le_trans
  have hr6 := cmpI_range ys zs
  have hr7 := cmpI_range xs zs
  generalize cmpI xs ys = k at *
  generalize cmpI ys zs = k6 at *
  generalize cmpI xs zs = k7 at *
  clear e2 e5
  obtain ⟨hr1, hr2⟩ := hr
  obtain ⟨hr61, hr62⟩ := hr6
  obtain ⟨hr71, hr72⟩ := hr7
  have HT := Lib.hid ht
  clear ht
  by_cases h1 : 0 < k
  · have h1d : decide (0 < k) = true := decide_eq_true h1
    have z1 : (k == 0) = false := by simp; omega
    have z2 : decide (k = 0) = false := decide_eq_false (by omega)
    rw [z2] at C5
    go_enter Try.func4, Try.ntmps4
    go_wp2_with fail
    refine (HK.out _).mono ?_
    rintro e w1 ⟨rfl, hb1⟩
    have HB1 := Lib.hid hb1
    clear hb1
    go_wp2_with fail
    refine (C1.out _ HB1.out).mono ?_
    rintro e w' ⟨rfl, rfl⟩
    go_wp2_with fail
    refine (C4.out _ HB1.out).mono ?_
    rintro e w2 ⟨rfl, hq⟩
    have HB2 := Lib.hid (HB1.out.trans ((below_of_draws hq).mono (Nat.le_refl _)))
    clear hq
    go_wp2_with fail
    refine (C2.out _ HB2.out).mono ?_
    rintro e w' ⟨rfl, rfl⟩
    go_wp2_with fail
    refine (C3.out _ HB2.out).mono ?_
    rintro e w' ⟨rfl, rfl⟩
    go_wp2_with fail
    refine (C5.out _ HB2.out).mono ?_
    rintro e w3 ⟨rfl, hq⟩
    have HB3 := Lib.hid (HB2.out.trans ((below_of_draws hq).mono (Nat.le_refl _)))
    clear hq
    go_wp2_with fail
    go_ret
    exact ⟨rfl, HB3.out⟩
  · have h1d : decide (0 < k) = false := decide_eq_false h1
    by_cases h2 : 0 < k6
    · have h2d : decide (0 < k6) = true := decide_eq_true h2
      by_cases h0 : k = 0
      · clear h1
        have z1 : (k == 0) = true := by simp; omega
        have z2 : decide (k = 0) = true := decide_eq_true (by omega)
        rw [z2] at C5
        clear h0
        go_enter Try.func4, Try.ntmps4
        go_wp2_with fail
        refine (HK.out _).mono ?_
        rintro e w1 ⟨rfl, hb1⟩
        have HB1 := Lib.hid hb1
        clear hb1
        go_wp2_with fail
        refine (C1.out _ HB1.out).mono ?_
        rintro e w' ⟨rfl, rfl⟩
        go_wp2_with fail
        refine (C4.out _ HB1.out).mono ?_
        rintro e w2 ⟨rfl, hq⟩
        have HB2 := Lib.hid (HB1.out.trans ((below_of_draws hq).mono (Nat.le_refl _)))
        clear hq
        go_wp2_with fail
        refine (C2.out _ HB2.out).mono ?_
        rintro e w' ⟨rfl, rfl⟩
        go_wp2_with fail
        refine (C3.out _ HB2.out).mono ?_
        rintro e w' ⟨rfl, rfl⟩
        go_wp2_with fail
        refine (C5.out _ HB2.out).mono ?_
        rintro e w3 ⟨rfl, hq⟩
        have HB3 := Lib.hid (HB2.out.trans ((below_of_draws hq).mono (Nat.le_refl _)))
        clear hq
        go_wp2_with fail
        refine (C6.out _ HB3.out).mono ?_
        rintro e w' ⟨rfl, rfl⟩
        go_wp2_with fail
        go_ret
        exact ⟨rfl, HB3.out⟩
      · clear h1
        have z1 : (k == 0) = false := by simp; omega
        have z2 : decide (k = 0) = false := decide_eq_false (by omega)
        rw [z2] at C5
        clear h0
        go_enter Try.func4, Try.ntmps4
        go_wp2_with fail
        refine (HK.out _).mono ?_
        rintro e w1 ⟨rfl, hb1⟩
        have HB1 := Lib.hid hb1
        clear hb1
        go_wp2_with fail
        refine (C1.out _ HB1.out).mono ?_
        rintro e w' ⟨rfl, rfl⟩
        go_wp2_with fail
        refine (C4.out _ HB1.out).mono ?_
        rintro e w2 ⟨rfl, hq⟩
        have HB2 := Lib.hid (HB1.out.trans ((below_of_draws hq).mono (Nat.le_refl _)))
        clear hq
        go_wp2_with fail
        refine (C2.out _ HB2.out).mono ?_
        rintro e w' ⟨rfl, rfl⟩
        go_wp2_with fail
        refine (C3.out _ HB2.out).mono ?_
        rintro e w' ⟨rfl, rfl⟩
        go_wp2_with fail
        refine (C5.out _ HB2.out).mono ?_
        rintro e w3 ⟨rfl, hq⟩
        have HB3 := Lib.hid (HB2.out.trans ((below_of_draws hq).mono (Nat.le_refl _)))
        clear hq
        go_wp2_with fail
        refine (C6.out _ HB3.out).mono ?_
        rintro e w' ⟨rfl, rfl⟩
        go_wp2_with fail
        go_ret
        exact ⟨rfl, HB3.out⟩
    · have h2d : decide (0 < k6) = false := decide_eq_false h2
      have h3 : k7 ≤ 0 := HT.out (by omega) (by omega)
      have h3d : decide (k7 ≤ 0) = true := decide_eq_true h3
      by_cases h0 : k = 0
      · have z1 : (k == 0) = true := by simp; omega
        have z2 : decide (k = 0) = true := decide_eq_true (by omega)
        rw [z2] at C5
        clear h0 h1
        go_enter Try.func4, Try.ntmps4
        go_wp2_with fail
        refine (HK.out _).mono ?_
        rintro e w1 ⟨rfl, hb1⟩
        have HB1 := Lib.hid hb1
        clear hb1
        go_wp2_with fail
        refine (C1.out _ HB1.out).mono ?_
        rintro e w' ⟨rfl, rfl⟩
        go_wp2_with fail
        refine (C4.out _ HB1.out).mono ?_
        rintro e w2 ⟨rfl, hq⟩
        have HB2 := Lib.hid (HB1.out.trans ((below_of_draws hq).mono (Nat.le_refl _)))
        clear hq
        go_wp2_with fail
        refine (C2.out _ HB2.out).mono ?_
        rintro e w' ⟨rfl, rfl⟩
        go_wp2_with fail
        refine (C3.out _ HB2.out).mono ?_
        rintro e w' ⟨rfl, rfl⟩
        go_wp2_with fail
        refine (C5.out _ HB2.out).mono ?_
        rintro e w3 ⟨rfl, hq⟩
        have HB3 := Lib.hid (HB2.out.trans ((below_of_draws hq).mono (Nat.le_refl _)))
        clear hq
        go_wp2_with fail
        refine (C6.out _ HB3.out).mono ?_
        rintro e w' ⟨rfl, rfl⟩
        go_wp2_with fail
        refine (C7.out _ HB3.out).mono ?_
        rintro e w' ⟨rfl, rfl⟩
        go_wp2_with fail
        go_ret
        exact ⟨rfl, HB3.out⟩
      · have z1 : (k == 0) = false := by simp; omega
        have z2 : decide (k = 0) = false := decide_eq_false (by omega)
        rw [z2] at C5
        clear h0
        go_enter Try.func4, Try.ntmps4
        go_wp2_with fail
        refine (HK.out _).mono ?_
        rintro e w1 ⟨rfl, hb1⟩
        have HB1 := Lib.hid hb1
        clear hb1
        go_wp2_with fail
        refine (C1.out _ HB1.out).mono ?_
        rintro e w' ⟨rfl, rfl⟩
        go_wp2_with fail
        refine (C4.out _ HB1.out).mono ?_
        rintro e w2 ⟨rfl, hq⟩
        have HB2 := Lib.hid (HB1.out.trans ((below_of_draws hq).mono (Nat.le_refl _)))
        clear hq
        go_wp2_with fail
        refine (C2.out _ HB2.out).mono ?_
        rintro e w' ⟨rfl, rfl⟩
        go_wp2_with fail
        refine (C3.out _ HB2.out).mono ?_
        rintro e w' ⟨rfl, rfl⟩
        go_wp2_with fail
        refine (C5.out _ HB2.out).mono ?_
        rintro e w3 ⟨rfl, hq⟩
        have HB3 := Lib.hid (HB2.out.trans ((below_of_draws hq).mono (Nat.le_refl _)))
        clear hq
        go_wp2_with fail
        refine (C6.out _ HB3.out).mono ?_
        rintro e w' ⟨rfl, rfl⟩
        go_wp2_with fail
        refine (C7.out _ HB3.out).mono ?_
        rintro e w' ⟨rfl, rfl⟩
        go_wp2_with fail
        go_ret
        exact ⟨rfl, HB3.out⟩
end Go.Proofs.Ytdccmebkoibkhaa
