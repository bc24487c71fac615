/- The walk of WordPrefixes. -/
import Derived.Test.YtdccmebkoibkhaaWknown
import Derived.Test.YtdccmebkoibkhaaWprefixes
import Derived.Test.YtdccmebkoibkhaaWcommon
import Derived.Deep.RegionLaw
namespace Go.Proofs.Ytdccmebkoibkhaa
open Go.RowKit

theorem com_comm : ∀ xs ys : List Int, com ys xs = com xs ys
  | [], ys => by rw [com_nil_l, com_nil_r]
  | x :: xs, [] => by rw [com_nil_l, com_nil_r]
  | x :: xs, y :: ys => by
    rw [com, com]
    by_cases h : x = y
    · rw [if_pos h.symm, if_pos h, com_comm xs ys]
    · rw [if_neg (fun e => h e.symm), if_neg h]
theorem com_take : ∀ xs ys : List Int, ys.take (com xs ys) = xs.take (com xs ys)
  | [], ys => by rw [com_nil_l]; simp
  | x :: xs, [] => by rw [com_nil_r]; simp
  | x :: xs, y :: ys => by
    rw [com]
    by_cases h : x = y
    · rw [if_pos h, List.take_succ_cons, List.take_succ_cons, com_take xs ys, h]
    · rw [if_neg h]; simp
theorem pre_take (xs : List Int) (k : Nat) : preB (xs.take k) xs = true := by
  unfold preB
  simp [List.length_take]
  omega

/-- Common, of either order, where the common beginning has k events. -/
theorem commonK (A B : Option Addr) (n m c d k : Nat) (xs ys zs : List Int) (w W : World) (hx : RdI w w.heap.size A xs) (hy : RdI w w.heap.size B ys) (hn : xs.length = n) (hm : ys.length = m) (hnc : n ≤ c) (hb : n ≤ 20) (hb' : m ≤ 20) (hk : com xs ys = k) (hz : xs.take k = zs) (hl : zs.length = k) (h : Below w.heap.size w W) :
    Calls Try.prog 29 #[.slice A n c, .slice B m d] W fun e w' => ∃ A4 c4, e = .returned (.slice A4 k c4) ∧ RdI w' w'.heap.size A4 zs ∧ Below w.heap.size w w' := by
  refine (common_any A B n m c d xs ys W ((hx.below h (Nat.le_refl _)).more h.size) ((hy.below h (Nat.le_refl _)).more h.size) hn hm hnc (by omega) (by omega)).mono ?_
  rintro e w' ⟨A4, c4, rfl, hr, hbb, _, _⟩
  rw [hk, hz] at hr
  exact ⟨A4, c4, by rw [hk, hz, hl], hr, h.trans (hbb.mono h.size)⟩
theorem sameK (A4 A : Option Addr) (k c4 c : Nat) (zs xs : List Int) (w W : World) (hx : RdI w w.heap.size A xs) (hz : xs.take k = zs) (hl : zs.length = k) (hk : k ≤ 20) (h : Below w.heap.size w W) (hr : RdI W W.heap.size A4 zs) :
    Calls Try.prog 22 #[.slice A4 k c4, .slice A k c] W fun e w' => e = .returned (.bool true) ∧ ∃ q, w' = W.drewN q := by
  have h2 : RdI W w.heap.size A zs := by rw [← hz]; exact (hx.below h (Nat.le_refl _)).take k
  refine (l2same_any A4 A k k c4 c _ _ zs zs W hr h2 hl hl (by omega) (by omega)).mono ?_
  rintro e w' ⟨rfl, hq⟩
  exact ⟨by simp, hq⟩

set_option maxHeartbeats 8000000 in
set_option maxRecDepth 100000 in
theorem lawPrefixes (A : Option Addr) (n c : Nat) (xs : List Int) (B : Option Addr) (m d : Nat) (ys : List Int) (w : World) (hx : RdI w w.heap.size A xs) (hn : xs.length = n) (_hf : ∀ z ∈ xs, (Lit.int .i64 z).wf = true) (hnc : n ≤ c)
    (hy : RdI w w.heap.size B ys) (hm : ys.length = m) (_hg : ∀ z ∈ ys, (Lit.int .i64 z).wf = true) (hmd : m ≤ d) :
    Calls Try.prog 7 #[.slice A n c, .slice B m d] w fun e w' => e = .returned (.bool true) ∧ Below w.heap.size w w' := by
  have HK := Lib.hid known_any
  have HX := Lib.hid hx
  have HY := Lib.hid hy
  have HN := Lib.hid hn
  have HM := Lib.hid hm
  clear hx hy hn hm
  by_cases hg_n : 20 < n
  · have hi_n : (20 : Int) < (n : Int) := by omega
    go_enter Try.func7, Try.ntmps7
    go_wp2_with fail
    refine (HK.out _).mono ?_
    rintro e w1 ⟨rfl, hb1⟩
    have HB1 := Lib.hid hb1
    clear hb1
    go_wp2_with fail
    refine (HK.out _).mono ?_
    rintro e w2 ⟨rfl, hb2⟩
    have HB2 := Lib.hid (HB1.out.trans (hb2.mono HB1.out.size))
    clear hb2
    go_wp2_with fail
    go_ret
    exact ⟨rfl, HB2.out⟩
  by_cases hg_m : 20 < m
  · have hi_m : (20 : Int) < (m : Int) := by omega
    go_enter Try.func7, Try.ntmps7
    go_wp2_with fail
    refine (HK.out _).mono ?_
    rintro e w1 ⟨rfl, hb1⟩
    have HB1 := Lib.hid hb1
    clear hb1
    go_wp2_with fail
    refine (HK.out _).mono ?_
    rintro e w2 ⟨rfl, hb2⟩
    have HB2 := Lib.hid (HB1.out.trans (hb2.mono HB1.out.size))
    clear hb2
    go_wp2_with fail
    go_ret
    exact ⟨rfl, HB2.out⟩
  have hn2 : n ≤ 20 := by omega
  have hm2 : m ≤ 20 := by omega
  clear hg_n hg_m
  have hn3 : (n : Int) ≤ 20 := by omega
  have hm3 : (m : Int) ≤ 20 := by omega
  have P1 := Lib.hid (fun (W : World) (h : Below w.heap.size w W) => prefixes_any A n c xs W ((HX.out.below h (Nat.le_refl _)).more h.size) HN.out hnc (by omega))
  have I1 := Lib.hid (fun (W : World) (h : Below w.heap.size w W) => wIsPrefix_any A B n m c d _ _ xs ys W (HX.out.below h (Nat.le_refl _)) (HY.out.below h (Nat.le_refl _)) HN.out HM.out hmd (by omega))
  have I2 := Lib.hid (fun (W : World) (h : Below w.heap.size w W) => r2Prefix_any A B n m c d _ _ xs ys W (HX.out.below h (Nat.le_refl _)) (HY.out.below h (Nat.le_refl _)) HN.out HM.out hmd (by omega))
  have S1 := Lib.hid (fun (k : Nat) (A4 : Option Addr) (c4 : Nat) (W : World) (hk : k ≤ n) (h : Below w.heap.size w W) (hr : RdI W W.heap.size A4 (xs.take k)) => sameK A4 A k c4 c (xs.take k) xs w W HX.out rfl (by rw [List.length_take, HN.out]; omega) (by omega) h hr)
  have I3 := Lib.hid (fun (k : Nat) (A4 : Option Addr) (c4 : Nat) (W : World) (hk : k ≤ n) (h : Below w.heap.size w W) (hr : RdI W W.heap.size A4 (xs.take k)) => by
    have := wIsPrefix_any A4 A k n c4 c _ _ (xs.take k) xs W hr (HX.out.below h (Nat.le_refl _)) (by rw [List.length_take, HN.out]; omega) HN.out hnc (by omega)
    rwa [pre_take] at this)
  have K1 := Lib.hid (fun (k : Nat) (W : World) (hk : com xs ys = k) (hkn : k ≤ n) (h : Below w.heap.size w W) => commonK A B n m c d k xs ys (xs.take k) w W HX.out HY.out HN.out HM.out hnc hn2 hm2 hk rfl (by rw [List.length_take, HN.out]; omega) h)
  have K2 := Lib.hid (fun (k : Nat) (W : World) (hk : com xs ys = k) (hkn : k ≤ n) (h : Below w.heap.size w W) => commonK B A m n d c k ys xs (xs.take k) w W HY.out HX.out HM.out HN.out hmd hm2 hn2 (by rw [com_comm]; exact hk) (by rw [← hk]; exact com_take xs ys) (by rw [List.length_take, HN.out]; omega) h)
  have hv0 := Lib.hid (show com (xs.drop 0) (ys.drop 0) + 0 = com xs ys from rfl)
  generalize preB xs ys = pb at *
  go_enter Try.func7, Try.ntmps7
  go_wp2_with fail
  refine (HK.out _).mono ?_
  rintro e w1 ⟨rfl, hb1⟩
  have HB1 := Lib.hid hb1
  clear hb1
  go_wp2_with fail
  refine (P1.out _ HB1.out).mono ?_
  rintro e w2 ⟨A2, c2, rfl, hr2, hb2⟩
  have HB2 := Lib.hid (HB1.out.trans (hb2.mono HB1.out.size))
  have HR2 := Lib.hid hr2
  clear hb2 hr2
  go_wp2_with fail
  refine (I1.out _ HB2.out).mono ?_
  rintro e w3 ⟨rfl, hq⟩
  have HB3 := Lib.hid (HB2.out.trans ((below_of_draws hq).mono (Nat.le_refl _)))
  have HR3 := Lib.hid (show RdL w3 w3.heap.size A2 (preL xs (n + 1)) by obtain ⟨q, e⟩ := hq; subst e; exact HR2.out)
  clear hq
  go_wp2_with fail
  refine (I2.out _ HB3.out).mono ?_
  rintro e w4 ⟨rfl, hq⟩
  have HB4 := Lib.hid (HB3.out.trans ((below_of_draws hq).mono (Nat.le_refl _)))
  have HR4 := Lib.hid (show RdL w4 w4.heap.size A2 (preL xs (n + 1)) by obtain ⟨q, e⟩ := hq; subst e; exact HR3.out)
  clear hq
  go_wp2_with fail
  go_loopw [6] (fun i wr => ∃ k : Nat, k ≤ n + 1 ∧ i = .int .i64 k ∧ Hid (∃ q, wr = w4.drewN q)) (fun i _ => n + 1 - (intOf i).toNat)
  case atStart => exact ⟨0, Nat.zero_le _, rfl, 0, rfl⟩
  case round =>
    obtain ⟨k, hk, rfl, HQ⟩ := hrel
    by_cases hlt : k < n + 1
    · have k1 : (k : Int) < (n : Int) + 1 := by omega
      have k2 : (k : Int) ≤ (c : Int) := by omega
      have k3 : (0 : Int) ≤ (k : Int) := by omega
      have HBw := Lib.hid (show Below w.heap.size w wr by obtain ⟨q, e⟩ := HQ.out; subst e; exact below_drewN HB4.out q)
      have hr := (show RdL wr wr.heap.size A2 (preL xs (n + 1)) by obtain ⟨q, e⟩ := HQ.out; subst e; exact HR4.out)
      obtain ⟨b1, o1, rfl, hbb, hc1⟩ := hr (by rw [preL_len]; omega)
      obtain ⟨C, d1, hcell, hrd, _, _⟩ := hc1 k (by rw [preL_len]; omega)
      rw [preL_get xs hlt] at hcell hrd
      have hl : (xs.take k).length = k := by rw [List.length_take, HN.out]; omega
      rw [hl] at hcell
      have T1 := Lib.hid (fun q => S1.out k C d1 (wr.drewN q) (by omega) (below_drewN HBw.out q) (hrd.dr q))
      have T2 := Lib.hid (fun q => I3.out k C d1 (wr.drewN q) (by omega) (below_drewN HBw.out q) (hrd.dr q))
      clear hr hc1 hrd hl hbb
      go_wp2_with fail
      go_quiet ((first | (go_at_call 22; with_reducible exact Calls.quiet_of (T1.out _)) | (go_at_call 27; with_reducible exact Calls.quiet_of (T2.out _))))
      go_wp2_with fail
      go_roundw
      case rel => exact ⟨k + 1, by omega, by go_num, by obtain ⟨q, e⟩ := HQ.out; subst e; exact ⟨_, World.drewN_drewN _ _ _⟩⟩
      case measure => simp [intOf]; omega
    · have k1 : ¬ (k : Int) < (n : Int) + 1 := by omega
      have HBw := Lib.hid (show Below w.heap.size w wr by obtain ⟨q, e⟩ := HQ.out; subst e; exact below_drewN HB4.out q)
      obtain ⟨w5, rfl⟩ : ∃ wo : World, wo = wr := ⟨_, rfl⟩
      clear HQ hlt
      go_wp2_with fail
      go_loopw [7] (fun i wr => ∃ k : Nat, k ≤ n ∧ k ≤ m ∧ i = .int .i64 k ∧ Hid (com (xs.drop k) (ys.drop k) + k = com xs ys) ∧ Hid (Below w.heap.size w wr)) (fun i _ => n - (intOf i).toNat)
      case atStart => exact ⟨0, Nat.zero_le _, Nat.zero_le _, rfl, hv0.out, HBw.out⟩
      case round =>
        obtain ⟨v, hkn, hkm, rfl, ht, HB⟩ := hrel
        have i1 : (v : Int) ≤ (n : Int) := by omega
        have i2 : (v : Int) ≤ (c : Int) := by omega
        have i3 : v ≤ c := by omega
        by_cases h1 : v < n
        · have d1 : decide ((v : Int) < (n : Int)) = true := by simp; omega
          by_cases h2 : v < m
          · have d2 : decide ((v : Int) < (m : Int)) = true := by simp; omega
            have hx := HX.out.below HB.out (Nat.le_refl _)
            have hy := HY.out.below HB.out (Nat.le_refl _)
            obtain ⟨b1, o1, rfl, _, hc1⟩ := hx (by rw [HN.out]; omega)
            obtain ⟨b2, o2, rfl, _, hc2⟩ := hy (by rw [HM.out]; omega)
            have g1 := hc1 v (by rw [HN.out]; exact h1)
            have g2 := hc2 v (by rw [HM.out]; exact h2)
            clear hc1 hc2 hx hy
            obtain ⟨x, hx⟩ : ∃ x, x = xs.getD v 0 := ⟨_, rfl⟩
            obtain ⟨y, hy⟩ : ∃ y, y = ys.getD v 0 := ⟨_, rfl⟩
            rw [← hx] at g1
            rw [← hy] at g2
            by_cases hxy : x = y
            · have hs := Lib.hid (com_next (by rw [HN.out]; exact h1) (by rw [HM.out]; exact h2) ht.out (by rw [← hx, ← hy]; exact hxy))
              have he : (x == y) = true := by simpa using hxy
              clear hx hy hxy ht
              go_wp2_with fail
              go_quiet (fail)
              go_wp2_with fail
              go_roundw
              case rel => exact ⟨v + 1, by omega, by omega, by go_num, hs, below_drewN HB.out _⟩
              case measure => simp [intOf]; omega
            · have hs := Lib.hid (com_stop (by rw [HN.out]; exact h1) (by rw [HM.out]; exact h2) ht.out (by rw [← hx, ← hy]; exact hxy))
              have he : (x == y) = false := by simpa using hxy
              clear hx hy hxy
              have HS := Lib.hid hs.out
              clear hs ht
              go_wp2_with fail
              go_quiet (fail)
              go_wp2_with fail
              have HBq := Lib.hid (below_drewN HB.out nq)
              generalize wr.drewN nq = wq at *
              go_region_law (first
                | (go_simp; go_at_call 29; first
                    | (with_reducible refine (K1.out v _ HS.out hkn HBq.out.drew).mono ?_; rintro e w6 ⟨A6, c6, rfl, hr6, hb6⟩; have HR6 := Lib.hid hr6; have HB6 := Lib.hid hb6; clear hr6 hb6)
                    | (with_reducible refine (K2.out v _ HS.out hkn HB7.out).mono ?_; rintro e w8 ⟨A8, c8, rfl, hr8, hb8⟩; have HR8 := Lib.hid hr8; have HB8 := Lib.hid hb8; clear hr8 hb8))
                | (go_simp; go_at_call 22; first
                    | (with_reducible refine (S1.out v A8 c8 _ hkn HB8.out HR8.out).mono ?_; rintro e w9 ⟨rfl, hq9⟩; have HB9 := Lib.hid (HB8.out.trans ((below_of_draws hq9).mono (Nat.le_refl _))); clear hq9)
                    | (with_reducible refine (S1.out v A6 c6 _ hkn HB6.out HR6.out).mono ?_; rintro e w7 ⟨rfl, hq7⟩; have HB7 := Lib.hid (HB6.out.trans ((below_of_draws hq7).mono (Nat.le_refl _))); clear hq7)))
              all_goals
                go_wp2_with fail
                go_ret
                exact ⟨rfl, HB9.out⟩
          · have d2 : decide ((v : Int) < (m : Int)) = false := by simp; omega
            have hs := Lib.hid (com_end_r (by rw [HM.out]; omega) ht.out)
            have HS := Lib.hid hs.out
            clear hs ht
            go_wp2_with fail
            go_quiet (fail)
            go_wp2_with fail
            have HBq := Lib.hid (below_drewN HB.out nq)
            generalize wr.drewN nq = wq at *
            go_region_law (first
              | (go_simp; go_at_call 29; first
                  | (with_reducible refine (K1.out v _ HS.out hkn HBq.out.drew).mono ?_; rintro e w6 ⟨A6, c6, rfl, hr6, hb6⟩; have HR6 := Lib.hid hr6; have HB6 := Lib.hid hb6; clear hr6 hb6)
                  | (with_reducible refine (K2.out v _ HS.out hkn HB7.out).mono ?_; rintro e w8 ⟨A8, c8, rfl, hr8, hb8⟩; have HR8 := Lib.hid hr8; have HB8 := Lib.hid hb8; clear hr8 hb8))
              | (go_simp; go_at_call 22; first
                  | (with_reducible refine (S1.out v A8 c8 _ hkn HB8.out HR8.out).mono ?_; rintro e w9 ⟨rfl, hq9⟩; have HB9 := Lib.hid (HB8.out.trans ((below_of_draws hq9).mono (Nat.le_refl _))); clear hq9)
                  | (with_reducible refine (S1.out v A6 c6 _ hkn HB6.out HR6.out).mono ?_; rintro e w7 ⟨rfl, hq7⟩; have HB7 := Lib.hid (HB6.out.trans ((below_of_draws hq7).mono (Nat.le_refl _))); clear hq7)))
            all_goals
              go_wp2_with fail
              go_ret
              exact ⟨rfl, HB9.out⟩
        · have d1 : decide ((v : Int) < (n : Int)) = false := by simp; omega
          have hs := Lib.hid (com_end_l (by rw [HN.out]; omega) ht.out)
          have HS := Lib.hid hs.out
          clear hs ht
          go_wp2_with fail
          go_quiet (fail)
          go_wp2_with fail
          have HBq := Lib.hid (below_drewN HB.out nq)
          generalize wr.drewN nq = wq at *
          go_region_law (first
            | (go_simp; go_at_call 29; first
                | (with_reducible refine (K1.out v _ HS.out hkn HBq.out.drew).mono ?_; rintro e w6 ⟨A6, c6, rfl, hr6, hb6⟩; have HR6 := Lib.hid hr6; have HB6 := Lib.hid hb6; clear hr6 hb6)
                | (with_reducible refine (K2.out v _ HS.out hkn HB7.out).mono ?_; rintro e w8 ⟨A8, c8, rfl, hr8, hb8⟩; have HR8 := Lib.hid hr8; have HB8 := Lib.hid hb8; clear hr8 hb8))
            | (go_simp; go_at_call 22; first
                | (with_reducible refine (S1.out v A8 c8 _ hkn HB8.out HR8.out).mono ?_; rintro e w9 ⟨rfl, hq9⟩; have HB9 := Lib.hid (HB8.out.trans ((below_of_draws hq9).mono (Nat.le_refl _))); clear hq9)
                | (with_reducible refine (S1.out v A6 c6 _ hkn HB6.out HR6.out).mono ?_; rintro e w7 ⟨rfl, hq7⟩; have HB7 := Lib.hid (HB6.out.trans ((below_of_draws hq7).mono (Nat.le_refl _))); clear hq7)))
          all_goals
            go_wp2_with fail
            go_ret
            exact ⟨rfl, HB9.out⟩
end Go.Proofs.Ytdccmebkoibkhaa
