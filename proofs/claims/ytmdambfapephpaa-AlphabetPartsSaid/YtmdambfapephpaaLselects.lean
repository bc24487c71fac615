/- The contract of Faults, and the walks of the laws AlphabetSelects and AlphabetFaults. -/
import Derived.Test.YtmdambfapephpaaRefSel
namespace Go.Proofs.Ytmdambfapephpaa
open Go.RowKit Go.WideMaps Go.Maps

set_option maxHeartbeats 800000 in
theorem aFaults_any (A : Option Addr) (n c : Nat) (l : List Ev) (kd : Int) (w : World) (hx : RdE w w.heap.size A l) (hn : l.length = n) (hb : n * 40 ≤ 140737488351232) (hs : ∀ x ∈ l, x.name.size ≤ maxLen) :
    Calls Try.prog 37 #[.slice A n c, .int .i64 kd] w fun e w' => Gives2 w (fltZ l kd) (fltE l kd) e w' := by
  have hmf : ∀ (fn : Fn) (first cap : Array Value) (w : World), (Instr.makeFunc fn first cap).run Try.prog w = .ok (.func fn first cap) w := fun _ _ _ _ => rfl
  have hb0 : Below w.heap.size w (w.alloc (.cells #[.int .i64 kd] 3)) := below_new w _
  have hx0 : RdE (w.alloc (.cells #[.int .i64 kd] 3)) (w.alloc (.cells #[.int .i64 kd] 3)).heap.size A l := (hx.below hb0 (Nat.le_refl _)).more hb0.size
  have hc0 : (w.alloc (.cells #[.int .i64 kd] 3)).cell? ⟨w.heap.size, 0, none⟩ = some (.int .i64 kd) := by rw [World.cell?_alloc_at _ _ _ _ rfl]; rfl
  have HC := Lib.hid (aCheck_any A n c l (w.alloc (.cells #[.int .i64 kd] 3)) hx0 hn hb hs)
  have HB0 := Lib.hid hb0
  have HX0 := Lib.hid hx0
  have HC0 := Lib.hid hc0
  obtain ⟨v, hv⟩ : ∃ v, v = chE l := ⟨_, rfl⟩
  rw [← hv] at HC
  by_cases h0 : v = 0
  · by_cases hk : kd < 1 ∨ 4 < kd
    · have H1 := Lib.hid (show fltZ l kd = [] ∧ fltE l kd = 2 from ⟨by rw [fltZ, ← hv, if_neg (by simp [h0]), if_pos hk], by rw [fltE, ← hv, if_neg (by simp [h0]), if_pos hk]⟩)
      rw [H1.out.1, H1.out.2]
      subst h0
      clear hv hn hs H1 hb0 hx0 hc0 hx
      by_cases hk1 : kd < 1
      · clear hk
        go_enter Try.func37, Try.ntmps37
        go_wp2_with (go_at_call 16; refine HC.out.mono ?_; rintro e w1 ⟨rfl, hbel⟩; have hc1 := (hbel.cell (p := ⟨w.heap.size, 0, none⟩) (by simp)).trans HC0.out)
        go_ret2
        exact ⟨none, 0, rfl, RdI.nil _ _ _, HB0.out.trans (hbel.mono (by simp))⟩
      · have hk2 : 4 < kd := by omega
        clear hk
        go_enter Try.func37, Try.ntmps37
        go_wp2_with (go_at_call 16; refine HC.out.mono ?_; rintro e w1 ⟨rfl, hbel⟩; have hc1 := (hbel.cell (p := ⟨w.heap.size, 0, none⟩) (by simp)).trans HC0.out)
        go_ret2
        exact ⟨none, 0, rfl, RdI.nil _ _ _, HB0.out.trans (hbel.mono (by simp))⟩
    · have H1 := Lib.hid (show fltZ l kd = wh (fun x => decide (x.fault = kd)) l ∧ fltE l kd = 0 from ⟨by rw [fltZ, ← hv, if_neg (by simp [h0]), if_neg hk], by rw [fltE, ← hv, if_neg (by simp [h0]), if_neg hk]⟩)
      rw [H1.out.1, H1.out.2]
      subst h0
      have hk1 : 1 ≤ kd := by omega
      have hk2 : kd ≤ 4 := by omega
      have HW := Lib.hid (fun w1 (h1 : RdE w1 w1.heap.size A l) (hc1 : w1.cell? ⟨w.heap.size, 0, none⟩ = some (.int .i64 kd)) (hz : w.heap.size < w1.heap.size) =>
        where_any 55 #[.pointer (some ⟨w.heap.size, 0, none⟩)] (fun x => decide (x.fault = kd)) (fun W => W.cell? ⟨w.heap.size, 0, none⟩ = some (.int .i64 kd) ∧ w.heap.size < W.heap.size) A n c l w1 h1 hn hb ⟨hc1, hz⟩
          (fun W W' hW hbW => ⟨(hbW.cell hz).trans hW.1, Nat.lt_of_lt_of_le hW.2 hbW.size⟩) (fun args W => by go_simp)
          (fun x W hW => by rw [show (#[evV x] ++ #[Value.pointer (some ⟨w.heap.size, 0, none⟩)]) = #[evV x, .pointer (some ⟨w.heap.size, 0, none⟩)] from rfl]; exact faultsFn_any _ _ x W hW.1 hW.2))
      clear hv hn hs H1 hb0 hx0 hc0 hx hk
      go_enter Try.func37, Try.ntmps37
      go_wp2_with (first
        | (go_at_call 16; refine HC.out.mono ?_; rintro e w1 ⟨rfl, hbel⟩; have hc1 := (hbel.cell (p := ⟨w.heap.size, 0, none⟩) (by simp)).trans HC0.out)
        | (go_at_call 53; refine (HW.out _ ((HX0.out.below hbel (Nat.le_refl _)).more hbel.size) hc1 (Nat.lt_of_lt_of_le (by simp) hbel.size)).mono ?_; rintro e w3 ⟨A', c', rfl, hrd, hbel3⟩))
      go_ret2
      have hz := hbel.size
      exact ⟨A', c', rfl, hrd, HB0.out.trans ((hbel.mono (by simp)).trans (hbel3.mono (by simp at hz; omega)))⟩
  · have H1 := Lib.hid (show fltZ l kd = [] ∧ fltE l kd = v from ⟨by rw [fltZ, ← hv, if_pos h0], by rw [fltE, ← hv, if_pos h0]⟩)
    rw [H1.out.1, H1.out.2]
    have hv0 : (v != 0) = true := by simpa using h0
    clear hv hn hs h0 H1 hb0 hx0 hc0 hx
    go_enter Try.func37, Try.ntmps37
    go_wp2_with (go_at_call 16; refine HC.out.mono ?_; rintro e w1 ⟨rfl, hbel⟩)
    go_ret2
    exact ⟨none, 0, rfl, RdI.nil _ _ _, HB0.out.trans (hbel.mono (by simp))⟩

set_option maxHeartbeats 1600000 in
theorem lawSelects (A : Option Addr) (n c : Nat) (l : List Ev) (kd : Int) (w : World) (hx : RdE w w.heap.size A l) (hn : l.length = n) (hf : ∀ x ∈ l, x.name.size ≤ maxLen ∧ (Lit.int .i64 x.fault).wf = true) (hnc : n ≤ c) (_hk : (Lit.int .i64 kd).wf = true) :
    Calls Try.prog 8 #[.slice A n c, .int .i64 kd] w fun e w' => e = .returned (.bool true) ∧ Below w.heap.size w w' := by
  have HK := Lib.hid known_any
  have HX := Lib.hid (fun w1 (h : Below w.heap.size w w1) => hx.below h (Nat.le_refl _))
  have H1 := Lib.hid (fun w1 (h : Below w.heap.size w w1) => few_any A n c w.heap.size l w1 (HX.out w1 h) hn)
  cases hfew : fewB l
  · clear hn hf
    go_enter Try.func8, Try.ntmps8
    go_wp2_with fail
    refine (HK.out _).mono ?_
    rintro e w1 ⟨rfl, hb1⟩
    go_wp2_with fail
    refine (H1.out _ hb1).mono ?_
    rintro e w2 ⟨rfl, rfl⟩
    go_wp2_with fail
    refine (HK.out _).mono ?_
    rintro e w2 ⟨rfl, hb2⟩
    go_wp2
    go_ret
    exact ⟨rfl, hb1.trans (hb2.mono hb1.size)⟩
  · obtain ⟨hl, hnm⟩ := few_out hfew
    have HC := Lib.hid (fun w1 (h : Below w.heap.size w w1) => aSelect_any A n c l kd w1 ((HX.out w1 h).more h.size) hn (by omega) (fun x hx => (hf x hx).1))
    have HR := Lib.hid (fun w1 (h : Below w.heap.size w w1) => r1Check_any A n c l w1 ((HX.out w1 h).more h.size) hn hnc (fun x hx => (hf x hx).1))
    have HS := Lib.hid (fun w1 (h : Below w.heap.size w w1) => r1Select_any A n c l kd w1 ((HX.out w1 h).more h.size) hn (by omega))
    have hwl := wh_le (kindP kd) l n
    rw [wh_all hn] at hwl
    have hwn : (wh (kindP kd) l).length ≤ 40 := by omega
    obtain ⟨v, hv⟩ : ∃ v, v = chE l := ⟨_, rfl⟩
    rw [← hv] at HR
    by_cases h0 : v = 0
    · by_cases hk : kd < 1 ∨ 6 < kd
      · have HZ := Lib.hid (show selZ l kd = [] ∧ selE l kd = 11 from ⟨by rw [selZ, ← hv, if_neg (by simp [h0]), if_pos hk], by rw [selE, ← hv, if_neg (by simp [h0]), if_pos hk]⟩)
        rw [HZ.out.1, HZ.out.2] at HC
        subst h0
        clear hn hf hl hnm hx hv HZ hwl hwn
        by_cases hk1 : kd < 1
        all_goals
          have hk2 : kd < 1 ∨ 6 < kd := hk
          (try have hk3 : 6 < kd := by omega)
          clear hk hk2
          go_enter Try.func8, Try.ntmps8
          go_wp2_with fail
          refine (HK.out _).mono ?_
          rintro e w1 ⟨rfl, hb1⟩
          go_wp2_with fail
          refine (H1.out _ hb1).mono ?_
          rintro e w2 ⟨rfl, rfl⟩
          go_wp2_with fail
          refine (HC.out _ hb1).mono ?_
          rintro e w2 ⟨A2, c2, rfl, _, hb2⟩
          have hb12 := hb1.trans (hb2.mono hb1.size)
          go_wp2_with fail
          refine (HR.out _ hb12).mono ?_
          rintro e w3 ⟨rfl, hb3⟩
          have hb13 := hb12.trans (hb3.mono hb12.size)
          go_wp2
          go_ret
          exact ⟨by simp, hb13⟩
      · have HZ := Lib.hid (show selZ l kd = wh (kindP kd) l ∧ selE l kd = 0 from ⟨by rw [selZ, ← hv, if_neg (by simp [h0]), if_neg hk], by rw [selE, ← hv, if_neg (by simp [h0]), if_neg hk]⟩)
        rw [HZ.out.1, HZ.out.2] at HC
        subst h0
        have hk1 : 1 ≤ kd := by omega
        have hk2 : kd ≤ 6 := by omega
        obtain ⟨zs, hzs⟩ : ∃ zs, zs = wh (kindP kd) l := ⟨_, rfl⟩
        rw [← hzs] at HC HS hwn
        clear hn hf hl hnm hx hv HZ hwl hk hzs
        go_enter Try.func8, Try.ntmps8
        go_wp2_with fail
        refine (HK.out _).mono ?_
        rintro e w1 ⟨rfl, hb1⟩
        go_wp2_with fail
        refine (H1.out _ hb1).mono ?_
        rintro e w2 ⟨rfl, rfl⟩
        go_wp2_with fail
        refine (HC.out _ hb1).mono ?_
        rintro e w2 ⟨A2, c2, rfl, hr2, hb2⟩
        have hb12 := hb1.trans (hb2.mono hb1.size)
        go_wp2_with fail
        refine (HR.out _ hb12).mono ?_
        rintro e w3 ⟨rfl, hb3⟩
        have hb13 := hb12.trans (hb3.mono hb12.size)
        have hr3 := hr2.below hb3 (Nat.le_refl _)
        go_wp2_with fail
        refine (HS.out _ hb13).mono ?_
        rintro e w4 ⟨A4, c4, rfl, hr4, hb4⟩
        have hb14 := hb13.trans (hb4.mono hb13.size)
        have hr3' := hr3.below hb4 hb3.size
        go_wp2_with fail
        refine (same_yes A2 A4 _ _ c2 c4 _ _ zs zs _ hr3' hr4 rfl rfl (by omega) (by omega) rfl).mono ?_
        rintro e w5 ⟨rfl, hb5⟩
        have hb15 := hb14.trans (hb5.mono hb14.size)
        go_wp2
        go_ret
        exact ⟨rfl, hb15⟩
    · have HZ := Lib.hid (show selZ l kd = [] ∧ selE l kd = v from ⟨by rw [selZ, ← hv, if_pos h0], by rw [selE, ← hv, if_pos h0]⟩)
      rw [HZ.out.1, HZ.out.2] at HC
      have hv0 : (v != 0) = true := by simpa using h0
      have hv1 : (v == 0) = false := by simpa using h0
      clear hn hf hl hnm hx hv HZ hwl hwn h0
      go_enter Try.func8, Try.ntmps8
      go_wp2_with fail
      refine (HK.out _).mono ?_
      rintro e w1 ⟨rfl, hb1⟩
      go_wp2_with fail
      refine (H1.out _ hb1).mono ?_
      rintro e w2 ⟨rfl, rfl⟩
      go_wp2_with fail
      refine (HC.out _ hb1).mono ?_
      rintro e w2 ⟨A2, c2, rfl, _, hb2⟩
      have hb12 := hb1.trans (hb2.mono hb1.size)
      go_wp2_with fail
      refine (HR.out _ hb12).mono ?_
      rintro e w3 ⟨rfl, hb3⟩
      have hb13 := hb12.trans (hb3.mono hb12.size)
      go_wp2
      go_ret
      exact ⟨by simp, hb13⟩
end Go.Proofs.Ytmdambfapephpaa
