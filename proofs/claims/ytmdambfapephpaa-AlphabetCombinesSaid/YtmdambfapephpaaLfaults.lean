/- The walk of the law AlphabetFaults. -/
import Derived.Test.YtmdambfapephpaaLselects
namespace Go.Proofs.Ytmdambfapephpaa
open Go.RowKit Go.WideMaps Go.Maps

set_option maxHeartbeats 1600000 in
theorem lawFaults (A : Option Addr) (n c : Nat) (l : List Ev) (kd : Int) (w : World) (hx : RdE w w.heap.size A l) (hn : l.length = n) (hf : ∀ x ∈ l, x.name.size ≤ maxLen ∧ (Lit.int .i64 x.fault).wf = true) (hnc : n ≤ c) (_hk : (Lit.int .i64 kd).wf = true) :
    Calls Try.prog 9 #[.slice A n c, .int .i64 kd] w fun e w' => e = .returned (.bool true) ∧ Below w.heap.size w w' := by
  have HK := Lib.hid known_any
  have HX := Lib.hid (fun w1 (h : Below w.heap.size w w1) => hx.below h (Nat.le_refl _))
  have H1 := Lib.hid (fun w1 (h : Below w.heap.size w w1) => few_any A n c w.heap.size l w1 (HX.out w1 h) hn)
  cases hfew : fewB l
  · clear hn hf
    go_enter Try.func9, Try.ntmps9
    go_wp2_with fail
    refine (HK.out _).mono ?_
    rintro e w1 ⟨rfl, hb1⟩
    go_wp2_with fail
    refine (H1.out _ hb1).mono ?_
    rintro e w2 ⟨rfl, rfl⟩
    go_wp2_with fail
    refine (HK.out _).mono ?_
    rintro e w2 ⟨rfl, hb2⟩
    go_wp2
    go_ret
    exact ⟨rfl, hb1.trans (hb2.mono hb1.size)⟩
  · obtain ⟨hl, hnm⟩ := few_out hfew
    have HC := Lib.hid (fun w1 (h : Below w.heap.size w w1) => aFaults_any A n c l kd w1 ((HX.out w1 h).more h.size) hn (by omega) (fun x hx => (hf x hx).1))
    have HR := Lib.hid (fun w1 (h : Below w.heap.size w w1) => r1Check_any A n c l w1 ((HX.out w1 h).more h.size) hn hnc (fun x hx => (hf x hx).1))
    have HS := Lib.hid (fun w1 (h : Below w.heap.size w w1) => r1Faults_any A n c l kd w1 ((HX.out w1 h).more h.size) hn (by omega))
    have hwl := wh_le (fun x => decide (x.fault = kd)) l n
    rw [wh_all hn] at hwl
    have hwn : (wh (fun x => decide (x.fault = kd)) l).length ≤ 40 := by omega
    obtain ⟨v, hv⟩ : ∃ v, v = chE l := ⟨_, rfl⟩
    rw [← hv] at HR
    by_cases h0 : v = 0
    · by_cases hk : kd < 1 ∨ 4 < kd
      · have HZ := Lib.hid (show fltZ l kd = [] ∧ fltE l kd = 2 from ⟨by rw [fltZ, ← hv, if_neg (by simp [h0]), if_pos hk], by rw [fltE, ← hv, if_neg (by simp [h0]), if_pos hk]⟩)
        rw [HZ.out.1, HZ.out.2] at HC
        subst h0
        clear hn hf hl hnm hx hv HZ hwl hwn
        by_cases hk1 : kd < 1
        all_goals
          have hk2 : kd < 1 ∨ 4 < kd := hk
          (try have hk3 : 4 < kd := by omega)
          clear hk hk2
          go_enter Try.func9, Try.ntmps9
          go_wp2_with fail
          refine (HK.out _).mono ?_
          rintro e w1 ⟨rfl, hb1⟩
          go_wp2_with fail
          refine (H1.out _ hb1).mono ?_
          rintro e w2 ⟨rfl, rfl⟩
          go_wp2_with fail
          refine (HC.out _ hb1).mono ?_
          rintro e w2 ⟨A2, c2, rfl, _, hb2⟩
          have hb12 := hb1.trans (hb2.mono hb1.size)
          go_wp2_with fail
          refine (HR.out _ hb12).mono ?_
          rintro e w3 ⟨rfl, hb3⟩
          have hb13 := hb12.trans (hb3.mono hb12.size)
          go_wp2
          go_ret
          exact ⟨by simp, hb13⟩
      · have HZ := Lib.hid (show fltZ l kd = wh (fun x => decide (x.fault = kd)) l ∧ fltE l kd = 0 from ⟨by rw [fltZ, ← hv, if_neg (by simp [h0]), if_neg hk], by rw [fltE, ← hv, if_neg (by simp [h0]), if_neg hk]⟩)
        rw [HZ.out.1, HZ.out.2] at HC
        subst h0
        have hk1 : 1 ≤ kd := by omega
        have hk2 : kd ≤ 4 := by omega
        obtain ⟨zs, hzs⟩ : ∃ zs, zs = wh (fun x => decide (x.fault = kd)) l := ⟨_, rfl⟩
        rw [← hzs] at HC HS hwn
        clear hn hf hl hnm hx hv HZ hwl hk hzs
        go_enter Try.func9, Try.ntmps9
        go_wp2_with fail
        refine (HK.out _).mono ?_
        rintro e w1 ⟨rfl, hb1⟩
        go_wp2_with fail
        refine (H1.out _ hb1).mono ?_
        rintro e w2 ⟨rfl, rfl⟩
        go_wp2_with fail
        refine (HC.out _ hb1).mono ?_
        rintro e w2 ⟨A2, c2, rfl, hr2, hb2⟩
        have hb12 := hb1.trans (hb2.mono hb1.size)
        go_wp2_with fail
        refine (HR.out _ hb12).mono ?_
        rintro e w3 ⟨rfl, hb3⟩
        have hb13 := hb12.trans (hb3.mono hb12.size)
        have hr3 := hr2.below hb3 (Nat.le_refl _)
        go_wp2_with fail
        refine (HS.out _ hb13).mono ?_
        rintro e w4 ⟨A4, c4, rfl, hr4, hb4⟩
        have hb14 := hb13.trans (hb4.mono hb13.size)
        have hr3' := hr3.below hb4 hb3.size
        go_wp2_with fail
        refine (same_yes A2 A4 _ _ c2 c4 _ _ zs zs _ hr3' hr4 rfl rfl (by omega) (by omega) rfl).mono ?_
        rintro e w5 ⟨rfl, hb5⟩
        have hb15 := hb14.trans (hb5.mono hb14.size)
        go_wp2
        go_ret
        exact ⟨rfl, hb15⟩
    · have HZ := Lib.hid (show fltZ l kd = [] ∧ fltE l kd = v from ⟨by rw [fltZ, ← hv, if_pos h0], by rw [fltE, ← hv, if_pos h0]⟩)
      rw [HZ.out.1, HZ.out.2] at HC
      have hv0 : (v != 0) = true := by simpa using h0
      have hv1 : (v == 0) = false := by simpa using h0
      clear hn hf hl hnm hx hv HZ hwl hwn h0
      go_enter Try.func9, Try.ntmps9
      go_wp2_with fail
      refine (HK.out _).mono ?_
      rintro e w1 ⟨rfl, hb1⟩
      go_wp2_with fail
      refine (H1.out _ hb1).mono ?_
      rintro e w2 ⟨rfl, rfl⟩
      go_wp2_with fail
      refine (HC.out _ hb1).mono ?_
      rintro e w2 ⟨A2, c2, rfl, _, hb2⟩
      have hb12 := hb1.trans (hb2.mono hb1.size)
      go_wp2_with fail
      refine (HR.out _ hb12).mono ?_
      rintro e w3 ⟨rfl, hb3⟩
      have hb13 := hb12.trans (hb3.mono hb12.size)
      go_wp2
      go_ret
      exact ⟨by simp, hb13⟩
end Go.Proofs.Ytmdambfapephpaa
