/- The contract of the reference's Match: more of its cases. -/
import Derived.Test.YtdccmebkoibkhaaWrmatch
namespace Go.Proofs.Ytdccmebkoibkhaa
open Go.RowKit
attribute [local go_sem ↓] Go.wp_at_zero Go.wp_at_succ
set_option linter.unusedVariables false

set_option maxHeartbeats 1600000 in
set_option maxRecDepth 4000 in
theorem rm_aLt (b1 o1 n1 : Nat) (x : Int) (a : List Int) (b3 o3 n3 : Nat) (y : Int) (b : List Int) (c1 c3 : Nat) (F S : Option Addr) (n2 c2 n4 c4 : Nat) (f s : List Int) (R : List Int × Bool) (w : World) (hf : RdI w w.heap.size F f) (hs : RdI w w.heap.size S s) (hn2 : f.length = n2) (hn4 : s.length = n4) (bn2 : n2 ≤ 4096) (bn4 : n4 ≤ 4096) (hax : RdI w w.heap.size (some ⟨b1, o1, none⟩) (x :: a)) (hn1 : n1 = (x :: a).length) (hnc1 : n1 ≤ c1) (hct1 : c1 ≤ 9223372036854775807) (x0 : 0 ≤ x) (hby : RdI w w.heap.size (some ⟨b3, o3, none⟩) (y :: b)) (hn3 : n3 = (y :: b).length) (hnc3 : n3 ≤ c3) (hct3 : c3 ≤ 9223372036854775807) (y0 : 0 ≤ y) (h : x ∉ s) (h2 : y ∉ f) (h3 : x < y)
    (hR : R.1.length ≤ 8192) (HR : ∀ va vb W, Below w.heap.size w W → Sl W w.heap.size va a → Sl W w.heap.size vb (y :: b) → Calls Try.prog 36 #[va, .slice F n2 c2, vb, .slice S n4 c4] W (MtGives R W)) :
    Calls Try.prog 36 #[.slice (some ⟨b1, o1, none⟩) n1 c1, .slice F n2 c2, .slice (some ⟨b3, o3, none⟩) n3 c3, .slice S n4 c4] w (MtGives (cons1 x R) w) := by
  have Hx := Lib.hid (fun q => has_f (c := c4) hs hn4 bn4 h q)
  have Hx0 := Lib.hid (Hx.out 0)
  have Hy := Lib.hid (fun q => has_f (c := c2) hf hn2 bn2 h2 q)
  have Hy0 := Lib.hid (Hy.out 0)
  have HF := Lib.hid hf
  have HSS := Lib.hid hs
  clear hf hs hn2 hn4
  have hcx1 : w.cell? ⟨b1, o1, none⟩ = some (.int .i64 x) := by
    obtain ⟨b', o', e, _, hc⟩ := hax (by simp)
    cases e
    simpa using hc 0 (by simp)
  have HT1 := Lib.hid (rdI_tail hax)
  have HSl1 := Lib.hid (show Sl w w.heap.size (.slice (some ⟨b1, o1, none⟩) n1 c1) (x :: a) from ⟨_, c1, by rw [hn1], hax, by rw [← hn1]; exact hnc1, hct1⟩)
  have HN1 := Lib.hid hn1
  have i11 : (1 : Int) ≤ (n1 : Int) := by simp at hn1; omega
  have i12 : (n1 : Int) ≤ (c1 : Int) := by omega
  have i13 : (0 : Int) < (n1 : Int) := by omega
  have i14 : ¬ n1 = 0 := by omega
  have i15 : 0 < n1 := by omega
  have i16 : ¬ (n1 : Int) = 0 := by omega
  clear hax hn1
  have hcx3 : w.cell? ⟨b3, o3, none⟩ = some (.int .i64 y) := by
    obtain ⟨b', o', e, _, hc⟩ := hby (by simp)
    cases e
    simpa using hc 0 (by simp)
  have HT3 := Lib.hid (rdI_tail hby)
  have HSl3 := Lib.hid (show Sl w w.heap.size (.slice (some ⟨b3, o3, none⟩) n3 c3) (y :: b) from ⟨_, c3, by rw [hn3], hby, by rw [← hn3]; exact hnc3, hct3⟩)
  have HN3 := Lib.hid hn3
  have i31 : (1 : Int) ≤ (n3 : Int) := by simp at hn3; omega
  have i32 : (n3 : Int) ≤ (c3 : Int) := by omega
  have i33 : (0 : Int) < (n3 : Int) := by omega
  have i34 : ¬ n3 = 0 := by omega
  have i35 : 0 < n3 := by omega
  have i36 : ¬ (n3 : Int) = 0 := by omega
  clear hby hn3
  have x1 : ¬ x < 0 := by omega
  have x2 : (x == x) = true := by simp
  have y1 : ¬ y < 0 := by omega
  have y2 : (y == y) = true := by simp
  have xy : (x == y) = false := by simp; omega
  have yx : (y == x) = false := by simp; omega
  have x3 : ¬ y < x := by omega
  go_enter Try.func36, Try.ntmps36
  go_wp2_with fail
  refine (Hx0.out).mono ?_
  rintro e w' ⟨rfl, rfl⟩
  go_wp2_with fail
  refine (Hy0.out).mono ?_
  rintro e w' ⟨rfl, rfl⟩
  go_wp2_with fail
  go_quiet ((first | (go_at_call 45; with_reducible exact Calls.quiet_of_same (Hx.out _)) | (go_at_call 45; with_reducible exact Calls.quiet_of_same (Hy.out _))))
  go_wp2_with fail
  all_goals
    refine (Hx.out _).mono ?_
    rintro e w' ⟨rfl, rfl⟩
    go_wp2_with fail
  all_goals
    refine (HR _ _ _ (below_drewN (Below.refl _ _) _) (by have t := sl_tail HT1.out (below_drewN (Below.refl _ _) nq) HN1.out (by omega) hct1; first | exact t | (have e : c1 = 1 := (by assumption); rw [if_pos e, e] at t; exact t) | (have e : ¬ c1 = 1 := (by assumption); rw [if_neg e] at t; exact t)) (HSl3.out.below (below_drewN (Below.refl _ _) _))).mono ?_
    rintro e w1 ⟨C, c, rfl, hr, hb⟩
    have HBx := Lib.hid (Below.trans (below_drewN (Below.refl w.heap.size w) nq) hb)
    have HRx := Lib.hid hr
    obtain ⟨R1, R2⟩ := R
    clear hr hb HR
    cases R2 with
    | false =>
      go_wp2_with fail
      go_ret2
      exact ⟨none, 0, rfl, RdI.nil _ _ _, HBx.out⟩
    | true =>
      have hws := HBx.out.size
      have hR1 : R1.length ≤ 8192 := hR
      obtain ⟨m, hm⟩ : ∃ m, m = R1.length := ⟨_, rfl⟩
      have HM := Lib.hid hm.symm
      simp only [← hm]
      have hm2 : m ≤ 8192 := by omega
      clear hm hR hR1
      go_wp2_with (at_builtin; refine wpList_app_rd rfl (.tmp 128) (.tmp 129) rfl w.heap.size _ 1 [x] rfl (own_lit1 w1 w.heap.size x hws) w1.heap.size C m c R1 rfl ((HRx.out.alloc (Nat.le_refl _) _)) HM.out (by unfold maxLen; omega) (by omega) (by simp; omega) ?_)
      intro v' w2 hown hgrow
      have HO := Lib.hid (show Own w2 w.heap.size v' (x :: R1) by
        have := hown; rw [← HM.out, Nat.add_comm] at this; exact this)
      have HB2 := Lib.hid ((HBx.out.alloc hws (.cells #[.int .i64 x] 3)).grown hgrow (by simp; omega) (fun j hj => by have := ((own_lit1 w1 w.heap.size x hws).lt j hj).1; exact this))
      clear hown hgrow
      go_wp2_with fail
      go_ret2
      obtain ⟨A', c', e, hr, _, _⟩ := own_rdc HO.out
      exact ⟨A', c', by rw [e]; simp [cons1], by simpa [cons1] using hr, HB2.out⟩

set_option maxHeartbeats 1600000 in
set_option maxRecDepth 4000 in
theorem rm_aIn (b1 o1 n1 : Nat) (x : Int) (a : List Int) (b3 o3 n3 : Nat) (y : Int) (b : List Int) (c1 c3 : Nat) (F S : Option Addr) (n2 c2 n4 c4 : Nat) (f s : List Int) (R : List Int × Bool) (w : World) (hf : RdI w w.heap.size F f) (hs : RdI w w.heap.size S s) (hn2 : f.length = n2) (hn4 : s.length = n4) (bn2 : n2 ≤ 4096) (bn4 : n4 ≤ 4096) (hax : RdI w w.heap.size (some ⟨b1, o1, none⟩) (x :: a)) (hn1 : n1 = (x :: a).length) (hnc1 : n1 ≤ c1) (hct1 : c1 ≤ 9223372036854775807) (x0 : 0 ≤ x) (hby : RdI w w.heap.size (some ⟨b3, o3, none⟩) (y :: b)) (hn3 : n3 = (y :: b).length) (hnc3 : n3 ≤ c3) (hct3 : c3 ≤ 9223372036854775807) (y0 : 0 ≤ y) (h : x ∉ s) (h2 : y ∈ f) (h3 : x ≠ y)
    (hR : R.1.length ≤ 8192) (HR : ∀ va vb W, Below w.heap.size w W → Sl W w.heap.size va a → Sl W w.heap.size vb (y :: b) → Calls Try.prog 36 #[va, .slice F n2 c2, vb, .slice S n4 c4] W (MtGives R W)) :
    Calls Try.prog 36 #[.slice (some ⟨b1, o1, none⟩) n1 c1, .slice F n2 c2, .slice (some ⟨b3, o3, none⟩) n3 c3, .slice S n4 c4] w (MtGives (cons1 x R) w) := by
  have Hx := Lib.hid (fun q => has_f (c := c4) hs hn4 bn4 h q)
  have Hx0 := Lib.hid (Hx.out 0)
  have Hy := Lib.hid (fun q => has_t (c := c2) hf hn2 bn2 h2 q)
  have Hy0 := Lib.hid (Hy.out 0)
  have HF := Lib.hid hf
  have HSS := Lib.hid hs
  clear hf hs hn2 hn4
  have hcx1 : w.cell? ⟨b1, o1, none⟩ = some (.int .i64 x) := by
    obtain ⟨b', o', e, _, hc⟩ := hax (by simp)
    cases e
    simpa using hc 0 (by simp)
  have HT1 := Lib.hid (rdI_tail hax)
  have HSl1 := Lib.hid (show Sl w w.heap.size (.slice (some ⟨b1, o1, none⟩) n1 c1) (x :: a) from ⟨_, c1, by rw [hn1], hax, by rw [← hn1]; exact hnc1, hct1⟩)
  have HN1 := Lib.hid hn1
  have i11 : (1 : Int) ≤ (n1 : Int) := by simp at hn1; omega
  have i12 : (n1 : Int) ≤ (c1 : Int) := by omega
  have i13 : (0 : Int) < (n1 : Int) := by omega
  have i14 : ¬ n1 = 0 := by omega
  have i15 : 0 < n1 := by omega
  have i16 : ¬ (n1 : Int) = 0 := by omega
  clear hax hn1
  have hcx3 : w.cell? ⟨b3, o3, none⟩ = some (.int .i64 y) := by
    obtain ⟨b', o', e, _, hc⟩ := hby (by simp)
    cases e
    simpa using hc 0 (by simp)
  have HT3 := Lib.hid (rdI_tail hby)
  have HSl3 := Lib.hid (show Sl w w.heap.size (.slice (some ⟨b3, o3, none⟩) n3 c3) (y :: b) from ⟨_, c3, by rw [hn3], hby, by rw [← hn3]; exact hnc3, hct3⟩)
  have HN3 := Lib.hid hn3
  have i31 : (1 : Int) ≤ (n3 : Int) := by simp at hn3; omega
  have i32 : (n3 : Int) ≤ (c3 : Int) := by omega
  have i33 : (0 : Int) < (n3 : Int) := by omega
  have i34 : ¬ n3 = 0 := by omega
  have i35 : 0 < n3 := by omega
  have i36 : ¬ (n3 : Int) = 0 := by omega
  clear hby hn3
  have x1 : ¬ x < 0 := by omega
  have x2 : (x == x) = true := by simp
  have y1 : ¬ y < 0 := by omega
  have y2 : (y == y) = true := by simp
  have xy : (x == y) = false := by simpa using h3
  have yx : (y == x) = false := by simpa using Ne.symm h3
  go_enter Try.func36, Try.ntmps36
  go_wp2_with fail
  refine (Hx0.out).mono ?_
  rintro e w' ⟨rfl, rfl⟩
  go_wp2_with fail
  refine (Hy0.out).mono ?_
  rintro e w' ⟨rfl, rfl⟩
  go_wp2_with fail
  go_quiet ((first | (go_at_call 45; with_reducible exact Calls.quiet_of_same (Hx.out _)) | (go_at_call 45; with_reducible exact Calls.quiet_of_same (Hy.out _))))
  go_wp2_with fail
  all_goals
    refine (Hx.out _).mono ?_
    rintro e w' ⟨rfl, rfl⟩
    go_wp2_with fail
  all_goals
    refine (HR _ _ _ (below_drewN (Below.refl _ _) _) (by have t := sl_tail HT1.out (below_drewN (Below.refl _ _) nq) HN1.out (by omega) hct1; first | exact t | (have e : c1 = 1 := (by assumption); rw [if_pos e, e] at t; exact t) | (have e : ¬ c1 = 1 := (by assumption); rw [if_neg e] at t; exact t)) (HSl3.out.below (below_drewN (Below.refl _ _) _))).mono ?_
    rintro e w1 ⟨C, c, rfl, hr, hb⟩
    have HBx := Lib.hid (Below.trans (below_drewN (Below.refl w.heap.size w) nq) hb)
    have HRx := Lib.hid hr
    obtain ⟨R1, R2⟩ := R
    clear hr hb HR
    cases R2 with
    | false =>
      go_wp2_with fail
      go_ret2
      exact ⟨none, 0, rfl, RdI.nil _ _ _, HBx.out⟩
    | true =>
      have hws := HBx.out.size
      have hR1 : R1.length ≤ 8192 := hR
      obtain ⟨m, hm⟩ : ∃ m, m = R1.length := ⟨_, rfl⟩
      have HM := Lib.hid hm.symm
      simp only [← hm]
      have hm2 : m ≤ 8192 := by omega
      clear hm hR hR1
      go_wp2_with (at_builtin; refine wpList_app_rd rfl (.tmp 128) (.tmp 129) rfl w.heap.size _ 1 [x] rfl (own_lit1 w1 w.heap.size x hws) w1.heap.size C m c R1 rfl ((HRx.out.alloc (Nat.le_refl _) _)) HM.out (by unfold maxLen; omega) (by omega) (by simp; omega) ?_)
      intro v' w2 hown hgrow
      have HO := Lib.hid (show Own w2 w.heap.size v' (x :: R1) by
        have := hown; rw [← HM.out, Nat.add_comm] at this; exact this)
      have HB2 := Lib.hid ((HBx.out.alloc hws (.cells #[.int .i64 x] 3)).grown hgrow (by simp; omega) (fun j hj => by have := ((own_lit1 w1 w.heap.size x hws).lt j hj).1; exact this))
      clear hown hgrow
      go_wp2_with fail
      go_ret2
      obtain ⟨A', c', e, hr, _, _⟩ := own_rdc HO.out
      exact ⟨A', c', by rw [e]; simp [cons1], by simpa [cons1] using hr, HB2.out⟩

set_option maxHeartbeats 1600000 in
set_option maxRecDepth 4000 in
theorem rm_no (b1 o1 n1 : Nat) (x : Int) (a : List Int) (b3 o3 n3 : Nat) (y : Int) (b : List Int) (c1 c3 : Nat) (F S : Option Addr) (n2 c2 n4 c4 : Nat) (f s : List Int) (R : List Int × Bool) (w : World) (hf : RdI w w.heap.size F f) (hs : RdI w w.heap.size S s) (hn2 : f.length = n2) (hn4 : s.length = n4) (bn2 : n2 ≤ 4096) (bn4 : n4 ≤ 4096) (hax : RdI w w.heap.size (some ⟨b1, o1, none⟩) (x :: a)) (hn1 : n1 = (x :: a).length) (hnc1 : n1 ≤ c1) (hct1 : c1 ≤ 9223372036854775807) (x0 : 0 ≤ x) (hby : RdI w w.heap.size (some ⟨b3, o3, none⟩) (y :: b)) (hn3 : n3 = (y :: b).length) (hnc3 : n3 ≤ c3) (hct3 : c3 ≤ 9223372036854775807) (y0 : 0 ≤ y) (h : x ∈ s) (h2 : y ∈ f) (h3 : x ≠ y) :
    Calls Try.prog 36 #[.slice (some ⟨b1, o1, none⟩) n1 c1, .slice F n2 c2, .slice (some ⟨b3, o3, none⟩) n3 c3, .slice S n4 c4] w (MtGives (([], false)) w) := by
  have Hx := Lib.hid (fun q => has_t (c := c4) hs hn4 bn4 h q)
  have Hx0 := Lib.hid (Hx.out 0)
  have Hy := Lib.hid (fun q => has_t (c := c2) hf hn2 bn2 h2 q)
  have Hy0 := Lib.hid (Hy.out 0)
  have HF := Lib.hid hf
  have HSS := Lib.hid hs
  clear hf hs hn2 hn4
  have hcx1 : w.cell? ⟨b1, o1, none⟩ = some (.int .i64 x) := by
    obtain ⟨b', o', e, _, hc⟩ := hax (by simp)
    cases e
    simpa using hc 0 (by simp)
  have HT1 := Lib.hid (rdI_tail hax)
  have HSl1 := Lib.hid (show Sl w w.heap.size (.slice (some ⟨b1, o1, none⟩) n1 c1) (x :: a) from ⟨_, c1, by rw [hn1], hax, by rw [← hn1]; exact hnc1, hct1⟩)
  have HN1 := Lib.hid hn1
  have i11 : (1 : Int) ≤ (n1 : Int) := by simp at hn1; omega
  have i12 : (n1 : Int) ≤ (c1 : Int) := by omega
  have i13 : (0 : Int) < (n1 : Int) := by omega
  have i14 : ¬ n1 = 0 := by omega
  have i15 : 0 < n1 := by omega
  have i16 : ¬ (n1 : Int) = 0 := by omega
  clear hax hn1
  have hcx3 : w.cell? ⟨b3, o3, none⟩ = some (.int .i64 y) := by
    obtain ⟨b', o', e, _, hc⟩ := hby (by simp)
    cases e
    simpa using hc 0 (by simp)
  have HT3 := Lib.hid (rdI_tail hby)
  have HSl3 := Lib.hid (show Sl w w.heap.size (.slice (some ⟨b3, o3, none⟩) n3 c3) (y :: b) from ⟨_, c3, by rw [hn3], hby, by rw [← hn3]; exact hnc3, hct3⟩)
  have HN3 := Lib.hid hn3
  have i31 : (1 : Int) ≤ (n3 : Int) := by simp at hn3; omega
  have i32 : (n3 : Int) ≤ (c3 : Int) := by omega
  have i33 : (0 : Int) < (n3 : Int) := by omega
  have i34 : ¬ n3 = 0 := by omega
  have i35 : 0 < n3 := by omega
  have i36 : ¬ (n3 : Int) = 0 := by omega
  clear hby hn3
  have x1 : ¬ x < 0 := by omega
  have x2 : (x == x) = true := by simp
  have y1 : ¬ y < 0 := by omega
  have y2 : (y == y) = true := by simp
  have xy : (x == y) = false := by simpa using h3
  have yx : (y == x) = false := by simpa using Ne.symm h3
  go_enter Try.func36, Try.ntmps36
  go_wp2_with fail
  refine (Hx0.out).mono ?_
  rintro e w' ⟨rfl, rfl⟩
  go_wp2_with fail
  refine (Hy0.out).mono ?_
  rintro e w' ⟨rfl, rfl⟩
  go_wp2_with fail
  go_quiet ((first | (go_at_call 45; with_reducible exact Calls.quiet_of_same (Hx.out _)) | (go_at_call 45; with_reducible exact Calls.quiet_of_same (Hy.out _))))
  go_wp2_with fail
  go_ret2
  exact ⟨none, 0, rfl, RdI.nil _ _ _, below_drewN (Below.refl _ _) _⟩
end Go.Proofs.Ytdccmebkoibkhaa
