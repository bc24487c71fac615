/- The walk of the law AlphabetMasks. -/
import Derived.Test.YtmdambfapephpaaDoorMaskMath
import Derived.Test.YtmdambfapephpaaDoorRefCS
namespace Go.Proofs.YtmdambfapephpaaDoor
open Go.RowKit

theorem tab_pos {w : World} (h : TabAt 0 Lib.deBruijn32tab w) : 0 < w.heap.size := by
  have h0 := h 0 (by decide)
  rcases Nat.eq_zero_or_pos w.heap.size with h1 | h1
  · have : w.heap[0]? = none := Array.getElem?_eq_none (by omega)
    simp [World.cell?, this] at h0
  · exact h1

set_option maxHeartbeats 3200000 in
theorem lawMasks (A : Option Addr) (n c : Nat) (zs : List Int) (m : Int) (w : World) (hx : RdI w w.heap.size A zs) (hn : zs.length = n) (_hf : ∀ z ∈ zs, (Lit.int .i64 z).wf = true) (hm : (Lit.int .u32 m).wf = true) (hT : TabAt 0 Lib.deBruijn32tab w) :
    Calls Tryd.prog 3 #[.slice A n c, .int .u32 m] w fun e w' => e = .returned (.bool true) ∧ Below w.heap.size w w' := by
  have HK := Lib.hid known_any
  have hz0 := tab_pos hT
  have hm0 := bounds_u32 hm
  obtain ⟨mk, rfl⟩ := Int.eq_ofNat_of_zero_le hm0.1
  have hmk : mk < 4294967296 := by omega
  clear hm hm0
  by_cases h40 : 40 < n
  · clear hn
    go_enter Tryd.func3, Tryd.ntmps3
    go_wp2_with fail
    refine (HK.out _).mono ?_
    rintro e w1 ⟨rfl, hb1⟩
    go_wp2_with fail
    refine (HK.out _).mono ?_
    rintro e w2 ⟨rfl, hb2⟩
    go_wp2
    go_ret
    exact ⟨rfl, hb1.trans (hb2.mono hb1.size)⟩
  · have HX := Lib.hid (fun w1 (h : Below w.heap.size w w1) => hx.below h (Nat.le_refl _))
    have HSA := Lib.hid (fun w1 (h : Below w.heap.size w w1) => aSet_any mk w1 hmk (tab_below hT h hz0) (Nat.lt_of_lt_of_le hz0 h.size))
    have HSR := Lib.hid (fun w1 => r1Set_any (mk : Int) w1 (by omega) (by omega))
    have hsl := setZ_len (mk : Int)
    have HMS := Lib.hid (fun A' c' B W (h : RdI W B A' (setZ (mk : Int))) => aMask_ok A' (setZ (mk : Int)).length c' B (setZ (mk : Int)) W h rfl (by omega) (csE_setZ _) (setZ_range _))
    rw [maskZ_setZ mk hmk] at HMS
    have HCS := Lib.hid (fun w1 (h : Below w.heap.size w w1) => r1CheckSet_any A n c w.heap.size zs 32 w1 (HX.out w1 h) hn (by omega))
    obtain ⟨ss, hss⟩ : ∃ ss, ss = setZ (mk : Int) := ⟨_, rfl⟩
    rw [← hss] at HSA HSR HMS hsl
    clear hss
    by_cases hcs : csE 32 zs = 0
    · have HMZ := Lib.hid (fun w1 (h : Below w.heap.size w w1) => aMask_ok A n c w.heap.size zs w1 (HX.out w1 h) hn (by omega) hcs (cs_ranges hcs))
      obtain ⟨q, hq1, hq2, hq3⟩ := set_mask hcs
      rw [hq2] at HMZ
      rw [hcs] at HCS
      have HSQ := Lib.hid (fun w1 => r1Set_any (q : Int) w1 (by omega) (by omega))
      rw [hq3] at HSQ
      have HN := Lib.hid hn
      clear hn hcs hq2 hq3 hx hT
      go_enter Tryd.func3, Tryd.ntmps3
      go_wp2_with fail
      refine (HK.out _).mono ?_
      rintro e w1 ⟨rfl, hb1⟩
      go_wp2_with fail
      refine (HSA.out _ hb1).mono ?_
      rintro e w2 ⟨A2, c2, rfl, hr2, hb2, _, _⟩
      have hb12 := hb1.trans (hb2.mono hb1.size)
      go_wp2_with fail
      refine (HMS.out _ _ _ _ hr2).mono ?_
      rintro e w' ⟨rfl, rfl⟩
      go_wp2_with fail
      refine (HSR.out _).mono ?_
      rintro e w3 ⟨A3, c3, rfl, hr3, hb3, _, _⟩
      have hb13 := hb12.trans (hb3.mono hb12.size)
      have hr2' := hr2.below hb3 (Nat.le_refl _)
      go_wp2_with fail
      refine (same_yes A2 A3 _ _ c2 c3 _ _ ss ss _ hr2' hr3 rfl rfl (by omega) (by omega) rfl).mono ?_
      rintro e w4 ⟨rfl, hb4⟩
      have hb14 := hb13.trans (hb4.mono hb13.size)
      go_wp2_with fail
      refine (HMZ.out _ hb14).mono ?_
      rintro e w' ⟨rfl, rfl⟩
      go_wp2_with fail
      refine (HCS.out _ hb14).mono ?_
      rintro e w5 ⟨rfl, q5, hq5⟩
      have hb15 : Below w.heap.size w w5 := hb14.trans (below_of_draws ⟨q5, hq5⟩)
      clear hq5
      go_wp2_with fail
      refine (HSQ.out _).mono ?_
      rintro e w6 ⟨A6, c6, rfl, hr6, hb6, _, _⟩
      have hb16 := hb15.trans (hb6.mono hb15.size)
      rw [HN.out]
      go_wp2_with fail
      refine (same_yes A6 A n n c6 c _ _ zs zs _ hr6 (HX.out _ hb16) HN.out HN.out (by omega) (by omega) rfl).mono ?_
      rintro e w7 ⟨rfl, hb7⟩
      have hb17 := hb16.trans (hb7.mono hb16.size)
      go_wp2
      go_ret
      exact ⟨rfl, hb17⟩
    · have HMZ := Lib.hid (fun w1 (h : Below w.heap.size w w1) => aMask_err A n c w.heap.size zs w1 (HX.out w1 h) hn (by omega) hcs)
      obtain ⟨v, hv⟩ : ∃ v, v = csE 32 zs := ⟨_, rfl⟩
      rw [← hv] at HMZ HCS hcs
      have hv0 : (v != 0) = true := by simpa using hcs
      clear hn hcs hv hx hT
      go_enter Tryd.func3, Tryd.ntmps3
      go_wp2_with fail
      refine (HK.out _).mono ?_
      rintro e w1 ⟨rfl, hb1⟩
      go_wp2_with fail
      refine (HSA.out _ hb1).mono ?_
      rintro e w2 ⟨A2, c2, rfl, hr2, hb2, _, _⟩
      have hb12 := hb1.trans (hb2.mono hb1.size)
      go_wp2_with fail
      refine (HMS.out _ _ _ _ hr2).mono ?_
      rintro e w' ⟨rfl, rfl⟩
      go_wp2_with fail
      refine (HSR.out _).mono ?_
      rintro e w3 ⟨A3, c3, rfl, hr3, hb3, _, _⟩
      have hb13 := hb12.trans (hb3.mono hb12.size)
      have hr2' := hr2.below hb3 (Nat.le_refl _)
      go_wp2_with fail
      refine (same_yes A2 A3 _ _ c2 c3 _ _ ss ss _ hr2' hr3 rfl rfl (by omega) (by omega) rfl).mono ?_
      rintro e w4 ⟨rfl, hb4⟩
      have hb14 := hb13.trans (hb4.mono hb13.size)
      go_wp2_with fail
      refine (HMZ.out _ hb14).mono ?_
      rintro e w' ⟨rfl, rfl⟩
      go_wp2_with fail
      refine (HCS.out _ hb14).mono ?_
      rintro e w5 ⟨rfl, q5, hq5⟩
      have hb15 : Below w.heap.size w w5 := hb14.trans (below_of_draws ⟨q5, hq5⟩)
      clear hq5
      go_wp2
      go_ret
      exact ⟨by simp, hb15⟩
end Go.Proofs.YtmdambfapephpaaDoor
