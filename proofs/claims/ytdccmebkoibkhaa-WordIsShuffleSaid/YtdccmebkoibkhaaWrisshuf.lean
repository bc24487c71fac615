/- The contract of the reference's IsShuffle. -/
import Derived.Test.YtdccmebkoibkhaaIsMath
import Derived.Test.YtdccmebkoibkhaaWrmatchE
namespace Go.Proofs.Ytdccmebkoibkhaa
open Go.RowKit
attribute [local go_sem ↓] Go.wp_at_zero Go.wp_at_succ
set_option linter.unusedVariables false

/-- What the reference's IsShuffle answers, from a world in which it only draws. -/
def IsAns (b : Bool) (w : World) (e : Ending) (w' : World) : Prop := e = .returned (.bool b) ∧ ∃ m, w' = w.drewN m
theorem sl_tl {w W : World} {B b o n c : Nat} {x : Int} {a : List Int} {v : Value} (hta : RdI w B (some ⟨b, o + 1, none⟩) a) (hW : ∃ q, W = w.drewN q) (hn : n = (x :: a).length) (hnc : n ≤ c) (hc : c ≤ 9223372036854775807) (hv : v = .slice (if c = 1 then some ⟨b, o, none⟩ else some ⟨b, o + 1, none⟩) (n - 1) (c - 1)) : Sl W B v a := by
  subst hv
  exact sl_tail hta (below_of_draws hW) hn hnc hc
theorem quiet_more {P : Program} {f : FuncId} {args : Array Value} {w : World} {n m : Nat} {b : Bool} (h : Calls P f args (w.drewN (n + m)) (IsAns b (w.drewN (n + m)))) : Calls P f args (w.drewN (n + m)) fun e w'' => e = .returned (.bool b) ∧ ∃ q, w'' = w.drewN (n + q) :=
  h.mono fun _ _ ⟨he, q, hq⟩ => ⟨he, m + q, by rw [hq, World.drewN_drewN, Nat.add_assoc]⟩
theorem sl_at {w W : World} {B : Nat} {v v' : Value} {l : List Int} (h : Sl w B v l) (hW : ∃ q, W = w.drewN q) (hv : v' = v) : Sl W B v' l := by
  subst hv
  exact h.below (below_of_draws hW)

set_option maxHeartbeats 1600000 in
set_option maxRecDepth 4000 in
theorem ris_E_N (w : World) (b0 o0 n0 c0 : Nat) (x : Int) (ws : List Int) (hw : RdI w w.heap.size (some ⟨b0, o0, none⟩) (x :: ws)) (hn0 : n0 = (x :: ws).length) (hnc0 : n0 ≤ c0) (hct0 : c0 ≤ 9223372036854775807) (A1 : Option Addr) (c1 : Nat) (hct1 : c1 ≤ 9223372036854775807) (b3 o3 n3 c3 : Nat) (z : Int) (b : List Int) (hb : RdI w w.heap.size (some ⟨b3, o3, none⟩) (z :: b)) (hn3 : n3 = (z :: b).length) (hnc3 : n3 ≤ c3) (hct3 : c3 ≤ 9223372036854775807) (hxz : x ≠ z) (hl : n0 = n3) (hl9 : n0 ≤ 1000) :
    Calls Try.prog 34 #[.slice (some ⟨b0, o0, none⟩) n0 c0, .slice A1 0 c1, .slice (some ⟨b3, o3, none⟩) n3 c3] w (IsAns false w) := by
  have hcx0 : w.cell? ⟨b0, o0, none⟩ = some (.int .i64 x) := by
    obtain ⟨b', o', e, _, hc⟩ := hw (by simp)
    cases e
    simpa using hc 0 (by simp)
  have HT0 := Lib.hid (rdI_tail hw)
  have HSl0 := Lib.hid (show Sl w w.heap.size (.slice (some ⟨b0, o0, none⟩) n0 c0) (x :: ws) from ⟨_, c0, by rw [hn0], hw, by rw [← hn0]; exact hnc0, hct0⟩)
  have HN0 := Lib.hid hn0
  have i01 : (1 : Int) ≤ (n0 : Int) := by simp at hn0; omega
  have i02 : (n0 : Int) ≤ (c0 : Int) := by omega
  have i03 : (0 : Int) < (n0 : Int) := by omega
  have i04 : ¬ n0 = 0 := by omega
  have i05 : 0 < n0 := by omega
  have i06 : ¬ (n0 : Int) = 0 := by omega
  have i07 : ((n0 : Int) == 0) = false := by simpa using i06
  clear hw hn0
  have HSl1 := Lib.hid (show Sl w w.heap.size (.slice A1 0 c1) [] from ⟨_, c1, rfl, RdI.nil _ _ _, Nat.zero_le _, hct1⟩)
  have hcx3 : w.cell? ⟨b3, o3, none⟩ = some (.int .i64 z) := by
    obtain ⟨b', o', e, _, hc⟩ := hb (by simp)
    cases e
    simpa using hc 0 (by simp)
  have HT3 := Lib.hid (rdI_tail hb)
  have HSl3 := Lib.hid (show Sl w w.heap.size (.slice (some ⟨b3, o3, none⟩) n3 c3) (z :: b) from ⟨_, c3, by rw [hn3], hb, by rw [← hn3]; exact hnc3, hct3⟩)
  have HN3 := Lib.hid hn3
  have i31 : (1 : Int) ≤ (n3 : Int) := by simp at hn3; omega
  have i32 : (n3 : Int) ≤ (c3 : Int) := by omega
  have i33 : (0 : Int) < (n3 : Int) := by omega
  have i34 : ¬ n3 = 0 := by omega
  have i35 : 0 < n3 := by omega
  have i36 : ¬ (n3 : Int) = 0 := by omega
  have i37 : ((n3 : Int) == 0) = false := by simpa using i36
  clear hb hn3
  have hle : ((n0 : Int) != (n3 : Int)) = false := by simp; omega
  have e3 : (x == z) = false := by simpa using hxz
  have hl8 : (n0 : Int) ≤ 1000 := by omega
  clear hl hl9 hxz
  go_enter Try.func34, Try.ntmps34
  go_wp2_with fail
  go_quiet ((fail))
  go_wp2_with fail
  all_goals
    go_quiet ((fail))
    go_wp2_with fail
  all_goals
    go_ret
    exact ⟨rfl, by first | exact ⟨_, rfl⟩ | exact ⟨_, World.drewN_drewN _ _ _⟩⟩

set_option maxHeartbeats 1600000 in
set_option maxRecDepth 4000 in
theorem ris_E_F (w : World) (b0 o0 n0 c0 : Nat) (x : Int) (ws : List Int) (hw : RdI w w.heap.size (some ⟨b0, o0, none⟩) (x :: ws)) (hn0 : n0 = (x :: ws).length) (hnc0 : n0 ≤ c0) (hct0 : c0 ≤ 9223372036854775807) (A1 : Option Addr) (c1 : Nat) (hct1 : c1 ≤ 9223372036854775807) (b3 o3 n3 c3 : Nat) (z : Int) (b : List Int) (hb : RdI w w.heap.size (some ⟨b3, o3, none⟩) (z :: b)) (hn3 : n3 = (z :: b).length) (hnc3 : n3 ≤ c3) (hct3 : c3 ≤ 9223372036854775807) (hxz : x = z) (hl : n0 = n3) (hl9 : n0 ≤ 1000)
    (HB : ∀ vw va vb W, (∃ q, W = w.drewN q) → Sl W w.heap.size vw ws → Sl W w.heap.size va [] → Sl W w.heap.size vb b → Calls Try.prog 34 #[vw, va, vb] W (IsAns false W)) :
    Calls Try.prog 34 #[.slice (some ⟨b0, o0, none⟩) n0 c0, .slice A1 0 c1, .slice (some ⟨b3, o3, none⟩) n3 c3] w (IsAns false w) := by
  have hcx0 : w.cell? ⟨b0, o0, none⟩ = some (.int .i64 x) := by
    obtain ⟨b', o', e, _, hc⟩ := hw (by simp)
    cases e
    simpa using hc 0 (by simp)
  have HT0 := Lib.hid (rdI_tail hw)
  have HSl0 := Lib.hid (show Sl w w.heap.size (.slice (some ⟨b0, o0, none⟩) n0 c0) (x :: ws) from ⟨_, c0, by rw [hn0], hw, by rw [← hn0]; exact hnc0, hct0⟩)
  have HN0 := Lib.hid hn0
  have i01 : (1 : Int) ≤ (n0 : Int) := by simp at hn0; omega
  have i02 : (n0 : Int) ≤ (c0 : Int) := by omega
  have i03 : (0 : Int) < (n0 : Int) := by omega
  have i04 : ¬ n0 = 0 := by omega
  have i05 : 0 < n0 := by omega
  have i06 : ¬ (n0 : Int) = 0 := by omega
  have i07 : ((n0 : Int) == 0) = false := by simpa using i06
  clear hw hn0
  have HSl1 := Lib.hid (show Sl w w.heap.size (.slice A1 0 c1) [] from ⟨_, c1, rfl, RdI.nil _ _ _, Nat.zero_le _, hct1⟩)
  have hcx3 : w.cell? ⟨b3, o3, none⟩ = some (.int .i64 z) := by
    obtain ⟨b', o', e, _, hc⟩ := hb (by simp)
    cases e
    simpa using hc 0 (by simp)
  have HT3 := Lib.hid (rdI_tail hb)
  have HSl3 := Lib.hid (show Sl w w.heap.size (.slice (some ⟨b3, o3, none⟩) n3 c3) (z :: b) from ⟨_, c3, by rw [hn3], hb, by rw [← hn3]; exact hnc3, hct3⟩)
  have HN3 := Lib.hid hn3
  have i31 : (1 : Int) ≤ (n3 : Int) := by simp at hn3; omega
  have i32 : (n3 : Int) ≤ (c3 : Int) := by omega
  have i33 : (0 : Int) < (n3 : Int) := by omega
  have i34 : ¬ n3 = 0 := by omega
  have i35 : 0 < n3 := by omega
  have i36 : ¬ (n3 : Int) = 0 := by omega
  have i37 : ((n3 : Int) == 0) = false := by simpa using i36
  clear hb hn3
  have hle : ((n0 : Int) != (n3 : Int)) = false := by simp; omega
  have e3 : (x == z) = true := by simpa using hxz
  have HRB := Lib.hid HB
  clear HB
  have hl8 : (n0 : Int) ≤ 1000 := by omega
  clear hl hl9 hxz
  go_enter Try.func34, Try.ntmps34
  go_wp2_with fail
  go_quiet ((fail))
  go_wp2_with fail
  all_goals
    go_quiet ((go_at_call 34; exact quiet_more (HRB.out _ _ _ _ (by first | exact ⟨_, rfl⟩ | exact ⟨_, World.drewN_drewN _ _ _⟩) (sl_tl HT0.out (by first | exact ⟨_, rfl⟩ | exact ⟨_, World.drewN_drewN _ _ _⟩) HN0.out (by omega) hct0 (by first | rfl | (have e : c0 = 1 := (by assumption); simp [e]) | (have e : ¬ c0 = 1 := (by assumption); rw [if_neg e]))) (sl_at HSl1.out (by first | exact ⟨_, rfl⟩ | exact ⟨_, World.drewN_drewN _ _ _⟩) (by first | rfl | (have e : c1 = 1 := (by assumption); simp [e]))) (sl_tl HT3.out (by first | exact ⟨_, rfl⟩ | exact ⟨_, World.drewN_drewN _ _ _⟩) HN3.out (by omega) hct3 (by first | rfl | (have e : c3 = 1 := (by assumption); simp [e]) | (have e : ¬ c3 = 1 := (by assumption); rw [if_neg e]))))))
    go_wp2_with fail
  all_goals
    go_ret
    exact ⟨rfl, by first | exact ⟨_, rfl⟩ | exact ⟨_, World.drewN_drewN _ _ _⟩⟩

set_option maxHeartbeats 1600000 in
set_option maxRecDepth 4000 in
theorem ris_E_T (w : World) (b0 o0 n0 c0 : Nat) (x : Int) (ws : List Int) (hw : RdI w w.heap.size (some ⟨b0, o0, none⟩) (x :: ws)) (hn0 : n0 = (x :: ws).length) (hnc0 : n0 ≤ c0) (hct0 : c0 ≤ 9223372036854775807) (A1 : Option Addr) (c1 : Nat) (hct1 : c1 ≤ 9223372036854775807) (b3 o3 n3 c3 : Nat) (z : Int) (b : List Int) (hb : RdI w w.heap.size (some ⟨b3, o3, none⟩) (z :: b)) (hn3 : n3 = (z :: b).length) (hnc3 : n3 ≤ c3) (hct3 : c3 ≤ 9223372036854775807) (hxz : x = z) (hl : n0 = n3) (hl9 : n0 ≤ 1000)
    (HB : ∀ vw va vb W, (∃ q, W = w.drewN q) → Sl W w.heap.size vw ws → Sl W w.heap.size va [] → Sl W w.heap.size vb b → Calls Try.prog 34 #[vw, va, vb] W (IsAns true W)) :
    Calls Try.prog 34 #[.slice (some ⟨b0, o0, none⟩) n0 c0, .slice A1 0 c1, .slice (some ⟨b3, o3, none⟩) n3 c3] w (IsAns true w) := by
  have hcx0 : w.cell? ⟨b0, o0, none⟩ = some (.int .i64 x) := by
    obtain ⟨b', o', e, _, hc⟩ := hw (by simp)
    cases e
    simpa using hc 0 (by simp)
  have HT0 := Lib.hid (rdI_tail hw)
  have HSl0 := Lib.hid (show Sl w w.heap.size (.slice (some ⟨b0, o0, none⟩) n0 c0) (x :: ws) from ⟨_, c0, by rw [hn0], hw, by rw [← hn0]; exact hnc0, hct0⟩)
  have HN0 := Lib.hid hn0
  have i01 : (1 : Int) ≤ (n0 : Int) := by simp at hn0; omega
  have i02 : (n0 : Int) ≤ (c0 : Int) := by omega
  have i03 : (0 : Int) < (n0 : Int) := by omega
  have i04 : ¬ n0 = 0 := by omega
  have i05 : 0 < n0 := by omega
  have i06 : ¬ (n0 : Int) = 0 := by omega
  have i07 : ((n0 : Int) == 0) = false := by simpa using i06
  clear hw hn0
  have HSl1 := Lib.hid (show Sl w w.heap.size (.slice A1 0 c1) [] from ⟨_, c1, rfl, RdI.nil _ _ _, Nat.zero_le _, hct1⟩)
  have hcx3 : w.cell? ⟨b3, o3, none⟩ = some (.int .i64 z) := by
    obtain ⟨b', o', e, _, hc⟩ := hb (by simp)
    cases e
    simpa using hc 0 (by simp)
  have HT3 := Lib.hid (rdI_tail hb)
  have HSl3 := Lib.hid (show Sl w w.heap.size (.slice (some ⟨b3, o3, none⟩) n3 c3) (z :: b) from ⟨_, c3, by rw [hn3], hb, by rw [← hn3]; exact hnc3, hct3⟩)
  have HN3 := Lib.hid hn3
  have i31 : (1 : Int) ≤ (n3 : Int) := by simp at hn3; omega
  have i32 : (n3 : Int) ≤ (c3 : Int) := by omega
  have i33 : (0 : Int) < (n3 : Int) := by omega
  have i34 : ¬ n3 = 0 := by omega
  have i35 : 0 < n3 := by omega
  have i36 : ¬ (n3 : Int) = 0 := by omega
  have i37 : ((n3 : Int) == 0) = false := by simpa using i36
  clear hb hn3
  have hle : ((n0 : Int) != (n3 : Int)) = false := by simp; omega
  have e3 : (x == z) = true := by simpa using hxz
  have HRB := Lib.hid HB
  clear HB
  have hl8 : (n0 : Int) ≤ 1000 := by omega
  clear hl hl9 hxz
  go_enter Try.func34, Try.ntmps34
  go_wp2_with fail
  go_quiet ((fail))
  go_wp2_with fail
  all_goals
    go_quiet ((go_at_call 34; exact quiet_more (HRB.out _ _ _ _ (by first | exact ⟨_, rfl⟩ | exact ⟨_, World.drewN_drewN _ _ _⟩) (sl_tl HT0.out (by first | exact ⟨_, rfl⟩ | exact ⟨_, World.drewN_drewN _ _ _⟩) HN0.out (by omega) hct0 (by first | rfl | (have e : c0 = 1 := (by assumption); simp [e]) | (have e : ¬ c0 = 1 := (by assumption); rw [if_neg e]))) (sl_at HSl1.out (by first | exact ⟨_, rfl⟩ | exact ⟨_, World.drewN_drewN _ _ _⟩) (by first | rfl | (have e : c1 = 1 := (by assumption); simp [e]))) (sl_tl HT3.out (by first | exact ⟨_, rfl⟩ | exact ⟨_, World.drewN_drewN _ _ _⟩) HN3.out (by omega) hct3 (by first | rfl | (have e : c3 = 1 := (by assumption); simp [e]) | (have e : ¬ c3 = 1 := (by assumption); rw [if_neg e]))))))
    go_wp2_with fail
  all_goals
    go_ret
    exact ⟨rfl, by first | exact ⟨_, rfl⟩ | exact ⟨_, World.drewN_drewN _ _ _⟩⟩

set_option maxHeartbeats 1600000 in
set_option maxRecDepth 4000 in
theorem ris_N_E (w : World) (b0 o0 n0 c0 : Nat) (x : Int) (ws : List Int) (hw : RdI w w.heap.size (some ⟨b0, o0, none⟩) (x :: ws)) (hn0 : n0 = (x :: ws).length) (hnc0 : n0 ≤ c0) (hct0 : c0 ≤ 9223372036854775807) (b1 o1 n1 c1 : Nat) (y : Int) (a : List Int) (ha : RdI w w.heap.size (some ⟨b1, o1, none⟩) (y :: a)) (hn1 : n1 = (y :: a).length) (hnc1 : n1 ≤ c1) (hct1 : c1 ≤ 9223372036854775807) (A3 : Option Addr) (c3 : Nat) (hct3 : c3 ≤ 9223372036854775807) (hxy : x ≠ y) (hl : n0 = n1) (hl9 : n0 ≤ 1000) :
    Calls Try.prog 34 #[.slice (some ⟨b0, o0, none⟩) n0 c0, .slice (some ⟨b1, o1, none⟩) n1 c1, .slice A3 0 c3] w (IsAns false w) := by
  have hcx0 : w.cell? ⟨b0, o0, none⟩ = some (.int .i64 x) := by
    obtain ⟨b', o', e, _, hc⟩ := hw (by simp)
    cases e
    simpa using hc 0 (by simp)
  have HT0 := Lib.hid (rdI_tail hw)
  have HSl0 := Lib.hid (show Sl w w.heap.size (.slice (some ⟨b0, o0, none⟩) n0 c0) (x :: ws) from ⟨_, c0, by rw [hn0], hw, by rw [← hn0]; exact hnc0, hct0⟩)
  have HN0 := Lib.hid hn0
  have i01 : (1 : Int) ≤ (n0 : Int) := by simp at hn0; omega
  have i02 : (n0 : Int) ≤ (c0 : Int) := by omega
  have i03 : (0 : Int) < (n0 : Int) := by omega
  have i04 : ¬ n0 = 0 := by omega
  have i05 : 0 < n0 := by omega
  have i06 : ¬ (n0 : Int) = 0 := by omega
  have i07 : ((n0 : Int) == 0) = false := by simpa using i06
  clear hw hn0
  have hcx1 : w.cell? ⟨b1, o1, none⟩ = some (.int .i64 y) := by
    obtain ⟨b', o', e, _, hc⟩ := ha (by simp)
    cases e
    simpa using hc 0 (by simp)
  have HT1 := Lib.hid (rdI_tail ha)
  have HSl1 := Lib.hid (show Sl w w.heap.size (.slice (some ⟨b1, o1, none⟩) n1 c1) (y :: a) from ⟨_, c1, by rw [hn1], ha, by rw [← hn1]; exact hnc1, hct1⟩)
  have HN1 := Lib.hid hn1
  have i11 : (1 : Int) ≤ (n1 : Int) := by simp at hn1; omega
  have i12 : (n1 : Int) ≤ (c1 : Int) := by omega
  have i13 : (0 : Int) < (n1 : Int) := by omega
  have i14 : ¬ n1 = 0 := by omega
  have i15 : 0 < n1 := by omega
  have i16 : ¬ (n1 : Int) = 0 := by omega
  have i17 : ((n1 : Int) == 0) = false := by simpa using i16
  clear ha hn1
  have HSl3 := Lib.hid (show Sl w w.heap.size (.slice A3 0 c3) [] from ⟨_, c3, rfl, RdI.nil _ _ _, Nat.zero_le _, hct3⟩)
  have hle : ((n0 : Int) != (n1 : Int)) = false := by simp; omega
  have e1 : (x == y) = false := by simpa using hxy
  have hl8 : (n0 : Int) ≤ 1000 := by omega
  clear hl hl9 hxy
  go_enter Try.func34, Try.ntmps34
  go_wp2_with fail
  go_quiet ((fail))
  go_wp2_with fail
  all_goals
    go_quiet ((fail))
    go_wp2_with fail
  all_goals
    go_ret
    exact ⟨rfl, by first | exact ⟨_, rfl⟩ | exact ⟨_, World.drewN_drewN _ _ _⟩⟩

set_option maxHeartbeats 1600000 in
set_option maxRecDepth 4000 in
theorem ris_N_N (w : World) (b0 o0 n0 c0 : Nat) (x : Int) (ws : List Int) (hw : RdI w w.heap.size (some ⟨b0, o0, none⟩) (x :: ws)) (hn0 : n0 = (x :: ws).length) (hnc0 : n0 ≤ c0) (hct0 : c0 ≤ 9223372036854775807) (b1 o1 n1 c1 : Nat) (y : Int) (a : List Int) (ha : RdI w w.heap.size (some ⟨b1, o1, none⟩) (y :: a)) (hn1 : n1 = (y :: a).length) (hnc1 : n1 ≤ c1) (hct1 : c1 ≤ 9223372036854775807) (b3 o3 n3 c3 : Nat) (z : Int) (b : List Int) (hb : RdI w w.heap.size (some ⟨b3, o3, none⟩) (z :: b)) (hn3 : n3 = (z :: b).length) (hnc3 : n3 ≤ c3) (hct3 : c3 ≤ 9223372036854775807) (hxy : x ≠ y) (hxz : x ≠ z) (hl : n0 = n1 + n3) (hl9 : n0 ≤ 1000) :
    Calls Try.prog 34 #[.slice (some ⟨b0, o0, none⟩) n0 c0, .slice (some ⟨b1, o1, none⟩) n1 c1, .slice (some ⟨b3, o3, none⟩) n3 c3] w (IsAns false w) := by
  have hcx0 : w.cell? ⟨b0, o0, none⟩ = some (.int .i64 x) := by
    obtain ⟨b', o', e, _, hc⟩ := hw (by simp)
    cases e
    simpa using hc 0 (by simp)
  have HT0 := Lib.hid (rdI_tail hw)
  have HSl0 := Lib.hid (show Sl w w.heap.size (.slice (some ⟨b0, o0, none⟩) n0 c0) (x :: ws) from ⟨_, c0, by rw [hn0], hw, by rw [← hn0]; exact hnc0, hct0⟩)
  have HN0 := Lib.hid hn0
  have i01 : (1 : Int) ≤ (n0 : Int) := by simp at hn0; omega
  have i02 : (n0 : Int) ≤ (c0 : Int) := by omega
  have i03 : (0 : Int) < (n0 : Int) := by omega
  have i04 : ¬ n0 = 0 := by omega
  have i05 : 0 < n0 := by omega
  have i06 : ¬ (n0 : Int) = 0 := by omega
  have i07 : ((n0 : Int) == 0) = false := by simpa using i06
  clear hw hn0
  have hcx1 : w.cell? ⟨b1, o1, none⟩ = some (.int .i64 y) := by
    obtain ⟨b', o', e, _, hc⟩ := ha (by simp)
    cases e
    simpa using hc 0 (by simp)
  have HT1 := Lib.hid (rdI_tail ha)
  have HSl1 := Lib.hid (show Sl w w.heap.size (.slice (some ⟨b1, o1, none⟩) n1 c1) (y :: a) from ⟨_, c1, by rw [hn1], ha, by rw [← hn1]; exact hnc1, hct1⟩)
  have HN1 := Lib.hid hn1
  have i11 : (1 : Int) ≤ (n1 : Int) := by simp at hn1; omega
  have i12 : (n1 : Int) ≤ (c1 : Int) := by omega
  have i13 : (0 : Int) < (n1 : Int) := by omega
  have i14 : ¬ n1 = 0 := by omega
  have i15 : 0 < n1 := by omega
  have i16 : ¬ (n1 : Int) = 0 := by omega
  have i17 : ((n1 : Int) == 0) = false := by simpa using i16
  clear ha hn1
  have hcx3 : w.cell? ⟨b3, o3, none⟩ = some (.int .i64 z) := by
    obtain ⟨b', o', e, _, hc⟩ := hb (by simp)
    cases e
    simpa using hc 0 (by simp)
  have HT3 := Lib.hid (rdI_tail hb)
  have HSl3 := Lib.hid (show Sl w w.heap.size (.slice (some ⟨b3, o3, none⟩) n3 c3) (z :: b) from ⟨_, c3, by rw [hn3], hb, by rw [← hn3]; exact hnc3, hct3⟩)
  have HN3 := Lib.hid hn3
  have i31 : (1 : Int) ≤ (n3 : Int) := by simp at hn3; omega
  have i32 : (n3 : Int) ≤ (c3 : Int) := by omega
  have i33 : (0 : Int) < (n3 : Int) := by omega
  have i34 : ¬ n3 = 0 := by omega
  have i35 : 0 < n3 := by omega
  have i36 : ¬ (n3 : Int) = 0 := by omega
  have i37 : ((n3 : Int) == 0) = false := by simpa using i36
  clear hb hn3
  have hle : ((n0 : Int) != (n1 : Int) + (n3 : Int)) = false := by simp; omega
  have e1 : (x == y) = false := by simpa using hxy
  have e3 : (x == z) = false := by simpa using hxz
  have hl8 : (n0 : Int) ≤ 1000 := by omega
  have hl7 : (n1 : Int) + (n3 : Int) ≤ 1000 := by omega
  clear hl hl9 hxy hxz
  go_enter Try.func34, Try.ntmps34
  go_wp2_with fail
  go_quiet ((fail))
  go_wp2_with fail
  all_goals
    go_quiet ((fail))
    go_wp2_with fail
  all_goals
    go_ret
    exact ⟨rfl, by first | exact ⟨_, rfl⟩ | exact ⟨_, World.drewN_drewN _ _ _⟩⟩

set_option maxHeartbeats 1600000 in
set_option maxRecDepth 4000 in
theorem ris_N_F (w : World) (b0 o0 n0 c0 : Nat) (x : Int) (ws : List Int) (hw : RdI w w.heap.size (some ⟨b0, o0, none⟩) (x :: ws)) (hn0 : n0 = (x :: ws).length) (hnc0 : n0 ≤ c0) (hct0 : c0 ≤ 9223372036854775807) (b1 o1 n1 c1 : Nat) (y : Int) (a : List Int) (ha : RdI w w.heap.size (some ⟨b1, o1, none⟩) (y :: a)) (hn1 : n1 = (y :: a).length) (hnc1 : n1 ≤ c1) (hct1 : c1 ≤ 9223372036854775807) (b3 o3 n3 c3 : Nat) (z : Int) (b : List Int) (hb : RdI w w.heap.size (some ⟨b3, o3, none⟩) (z :: b)) (hn3 : n3 = (z :: b).length) (hnc3 : n3 ≤ c3) (hct3 : c3 ≤ 9223372036854775807) (hxy : x ≠ y) (hxz : x = z) (hl : n0 = n1 + n3) (hl9 : n0 ≤ 1000)
    (HB : ∀ vw va vb W, (∃ q, W = w.drewN q) → Sl W w.heap.size vw ws → Sl W w.heap.size va (y :: a) → Sl W w.heap.size vb b → Calls Try.prog 34 #[vw, va, vb] W (IsAns false W)) :
    Calls Try.prog 34 #[.slice (some ⟨b0, o0, none⟩) n0 c0, .slice (some ⟨b1, o1, none⟩) n1 c1, .slice (some ⟨b3, o3, none⟩) n3 c3] w (IsAns false w) := by
  have hcx0 : w.cell? ⟨b0, o0, none⟩ = some (.int .i64 x) := by
    obtain ⟨b', o', e, _, hc⟩ := hw (by simp)
    cases e
    simpa using hc 0 (by simp)
  have HT0 := Lib.hid (rdI_tail hw)
  have HSl0 := Lib.hid (show Sl w w.heap.size (.slice (some ⟨b0, o0, none⟩) n0 c0) (x :: ws) from ⟨_, c0, by rw [hn0], hw, by rw [← hn0]; exact hnc0, hct0⟩)
  have HN0 := Lib.hid hn0
  have i01 : (1 : Int) ≤ (n0 : Int) := by simp at hn0; omega
  have i02 : (n0 : Int) ≤ (c0 : Int) := by omega
  have i03 : (0 : Int) < (n0 : Int) := by omega
  have i04 : ¬ n0 = 0 := by omega
  have i05 : 0 < n0 := by omega
  have i06 : ¬ (n0 : Int) = 0 := by omega
  have i07 : ((n0 : Int) == 0) = false := by simpa using i06
  clear hw hn0
  have hcx1 : w.cell? ⟨b1, o1, none⟩ = some (.int .i64 y) := by
    obtain ⟨b', o', e, _, hc⟩ := ha (by simp)
    cases e
    simpa using hc 0 (by simp)
  have HT1 := Lib.hid (rdI_tail ha)
  have HSl1 := Lib.hid (show Sl w w.heap.size (.slice (some ⟨b1, o1, none⟩) n1 c1) (y :: a) from ⟨_, c1, by rw [hn1], ha, by rw [← hn1]; exact hnc1, hct1⟩)
  have HN1 := Lib.hid hn1
  have i11 : (1 : Int) ≤ (n1 : Int) := by simp at hn1; omega
  have i12 : (n1 : Int) ≤ (c1 : Int) := by omega
  have i13 : (0 : Int) < (n1 : Int) := by omega
  have i14 : ¬ n1 = 0 := by omega
  have i15 : 0 < n1 := by omega
  have i16 : ¬ (n1 : Int) = 0 := by omega
  have i17 : ((n1 : Int) == 0) = false := by simpa using i16
  clear ha hn1
  have hcx3 : w.cell? ⟨b3, o3, none⟩ = some (.int .i64 z) := by
    obtain ⟨b', o', e, _, hc⟩ := hb (by simp)
    cases e
    simpa using hc 0 (by simp)
  have HT3 := Lib.hid (rdI_tail hb)
  have HSl3 := Lib.hid (show Sl w w.heap.size (.slice (some ⟨b3, o3, none⟩) n3 c3) (z :: b) from ⟨_, c3, by rw [hn3], hb, by rw [← hn3]; exact hnc3, hct3⟩)
  have HN3 := Lib.hid hn3
  have i31 : (1 : Int) ≤ (n3 : Int) := by simp at hn3; omega
  have i32 : (n3 : Int) ≤ (c3 : Int) := by omega
  have i33 : (0 : Int) < (n3 : Int) := by omega
  have i34 : ¬ n3 = 0 := by omega
  have i35 : 0 < n3 := by omega
  have i36 : ¬ (n3 : Int) = 0 := by omega
  have i37 : ((n3 : Int) == 0) = false := by simpa using i36
  clear hb hn3
  have hle : ((n0 : Int) != (n1 : Int) + (n3 : Int)) = false := by simp; omega
  have e1 : (x == y) = false := by simpa using hxy
  have e3 : (x == z) = true := by simpa using hxz
  have HRB := Lib.hid HB
  clear HB
  have hl8 : (n0 : Int) ≤ 1000 := by omega
  have hl7 : (n1 : Int) + (n3 : Int) ≤ 1000 := by omega
  clear hl hl9 hxy hxz
  go_enter Try.func34, Try.ntmps34
  go_wp2_with fail
  go_quiet ((fail))
  go_wp2_with fail
  all_goals
    go_quiet ((go_at_call 34; exact quiet_more (HRB.out _ _ _ _ (by first | exact ⟨_, rfl⟩ | exact ⟨_, World.drewN_drewN _ _ _⟩) (sl_tl HT0.out (by first | exact ⟨_, rfl⟩ | exact ⟨_, World.drewN_drewN _ _ _⟩) HN0.out (by omega) hct0 (by first | rfl | (have e : c0 = 1 := (by assumption); simp [e]) | (have e : ¬ c0 = 1 := (by assumption); rw [if_neg e]))) (sl_at HSl1.out (by first | exact ⟨_, rfl⟩ | exact ⟨_, World.drewN_drewN _ _ _⟩) (by first | rfl | (have e : c1 = 1 := (by assumption); simp [e]))) (sl_tl HT3.out (by first | exact ⟨_, rfl⟩ | exact ⟨_, World.drewN_drewN _ _ _⟩) HN3.out (by omega) hct3 (by first | rfl | (have e : c3 = 1 := (by assumption); simp [e]) | (have e : ¬ c3 = 1 := (by assumption); rw [if_neg e]))))))
    go_wp2_with fail
  all_goals
    go_ret
    exact ⟨rfl, by first | exact ⟨_, rfl⟩ | exact ⟨_, World.drewN_drewN _ _ _⟩⟩

set_option maxHeartbeats 1600000 in
set_option maxRecDepth 4000 in
theorem ris_N_T (w : World) (b0 o0 n0 c0 : Nat) (x : Int) (ws : List Int) (hw : RdI w w.heap.size (some ⟨b0, o0, none⟩) (x :: ws)) (hn0 : n0 = (x :: ws).length) (hnc0 : n0 ≤ c0) (hct0 : c0 ≤ 9223372036854775807) (b1 o1 n1 c1 : Nat) (y : Int) (a : List Int) (ha : RdI w w.heap.size (some ⟨b1, o1, none⟩) (y :: a)) (hn1 : n1 = (y :: a).length) (hnc1 : n1 ≤ c1) (hct1 : c1 ≤ 9223372036854775807) (b3 o3 n3 c3 : Nat) (z : Int) (b : List Int) (hb : RdI w w.heap.size (some ⟨b3, o3, none⟩) (z :: b)) (hn3 : n3 = (z :: b).length) (hnc3 : n3 ≤ c3) (hct3 : c3 ≤ 9223372036854775807) (hxy : x ≠ y) (hxz : x = z) (hl : n0 = n1 + n3) (hl9 : n0 ≤ 1000)
    (HB : ∀ vw va vb W, (∃ q, W = w.drewN q) → Sl W w.heap.size vw ws → Sl W w.heap.size va (y :: a) → Sl W w.heap.size vb b → Calls Try.prog 34 #[vw, va, vb] W (IsAns true W)) :
    Calls Try.prog 34 #[.slice (some ⟨b0, o0, none⟩) n0 c0, .slice (some ⟨b1, o1, none⟩) n1 c1, .slice (some ⟨b3, o3, none⟩) n3 c3] w (IsAns true w) := by
  have hcx0 : w.cell? ⟨b0, o0, none⟩ = some (.int .i64 x) := by
    obtain ⟨b', o', e, _, hc⟩ := hw (by simp)
    cases e
    simpa using hc 0 (by simp)
  have HT0 := Lib.hid (rdI_tail hw)
  have HSl0 := Lib.hid (show Sl w w.heap.size (.slice (some ⟨b0, o0, none⟩) n0 c0) (x :: ws) from ⟨_, c0, by rw [hn0], hw, by rw [← hn0]; exact hnc0, hct0⟩)
  have HN0 := Lib.hid hn0
  have i01 : (1 : Int) ≤ (n0 : Int) := by simp at hn0; omega
  have i02 : (n0 : Int) ≤ (c0 : Int) := by omega
  have i03 : (0 : Int) < (n0 : Int) := by omega
  have i04 : ¬ n0 = 0 := by omega
  have i05 : 0 < n0 := by omega
  have i06 : ¬ (n0 : Int) = 0 := by omega
  have i07 : ((n0 : Int) == 0) = false := by simpa using i06
  clear hw hn0
  have hcx1 : w.cell? ⟨b1, o1, none⟩ = some (.int .i64 y) := by
    obtain ⟨b', o', e, _, hc⟩ := ha (by simp)
    cases e
    simpa using hc 0 (by simp)
  have HT1 := Lib.hid (rdI_tail ha)
  have HSl1 := Lib.hid (show Sl w w.heap.size (.slice (some ⟨b1, o1, none⟩) n1 c1) (y :: a) from ⟨_, c1, by rw [hn1], ha, by rw [← hn1]; exact hnc1, hct1⟩)
  have HN1 := Lib.hid hn1
  have i11 : (1 : Int) ≤ (n1 : Int) := by simp at hn1; omega
  have i12 : (n1 : Int) ≤ (c1 : Int) := by omega
  have i13 : (0 : Int) < (n1 : Int) := by omega
  have i14 : ¬ n1 = 0 := by omega
  have i15 : 0 < n1 := by omega
  have i16 : ¬ (n1 : Int) = 0 := by omega
  have i17 : ((n1 : Int) == 0) = false := by simpa using i16
  clear ha hn1
  have hcx3 : w.cell? ⟨b3, o3, none⟩ = some (.int .i64 z) := by
    obtain ⟨b', o', e, _, hc⟩ := hb (by simp)
    cases e
    simpa using hc 0 (by simp)
  have HT3 := Lib.hid (rdI_tail hb)
  have HSl3 := Lib.hid (show Sl w w.heap.size (.slice (some ⟨b3, o3, none⟩) n3 c3) (z :: b) from ⟨_, c3, by rw [hn3], hb, by rw [← hn3]; exact hnc3, hct3⟩)
  have HN3 := Lib.hid hn3
  have i31 : (1 : Int) ≤ (n3 : Int) := by simp at hn3; omega
  have i32 : (n3 : Int) ≤ (c3 : Int) := by omega
  have i33 : (0 : Int) < (n3 : Int) := by omega
  have i34 : ¬ n3 = 0 := by omega
  have i35 : 0 < n3 := by omega
  have i36 : ¬ (n3 : Int) = 0 := by omega
  have i37 : ((n3 : Int) == 0) = false := by simpa using i36
  clear hb hn3
  have hle : ((n0 : Int) != (n1 : Int) + (n3 : Int)) = false := by simp; omega
  have e1 : (x == y) = false := by simpa using hxy
  have e3 : (x == z) = true := by simpa using hxz
  have HRB := Lib.hid HB
  clear HB
  have hl8 : (n0 : Int) ≤ 1000 := by omega
  have hl7 : (n1 : Int) + (n3 : Int) ≤ 1000 := by omega
  clear hl hl9 hxy hxz
  go_enter Try.func34, Try.ntmps34
  go_wp2_with fail
  go_quiet ((fail))
  go_wp2_with fail
  all_goals
    go_quiet ((go_at_call 34; exact quiet_more (HRB.out _ _ _ _ (by first | exact ⟨_, rfl⟩ | exact ⟨_, World.drewN_drewN _ _ _⟩) (sl_tl HT0.out (by first | exact ⟨_, rfl⟩ | exact ⟨_, World.drewN_drewN _ _ _⟩) HN0.out (by omega) hct0 (by first | rfl | (have e : c0 = 1 := (by assumption); simp [e]) | (have e : ¬ c0 = 1 := (by assumption); rw [if_neg e]))) (sl_at HSl1.out (by first | exact ⟨_, rfl⟩ | exact ⟨_, World.drewN_drewN _ _ _⟩) (by first | rfl | (have e : c1 = 1 := (by assumption); simp [e]))) (sl_tl HT3.out (by first | exact ⟨_, rfl⟩ | exact ⟨_, World.drewN_drewN _ _ _⟩) HN3.out (by omega) hct3 (by first | rfl | (have e : c3 = 1 := (by assumption); simp [e]) | (have e : ¬ c3 = 1 := (by assumption); rw [if_neg e]))))))
    go_wp2_with fail
  all_goals
    go_ret
    exact ⟨rfl, by first | exact ⟨_, rfl⟩ | exact ⟨_, World.drewN_drewN _ _ _⟩⟩

set_option maxHeartbeats 1600000 in
set_option maxRecDepth 4000 in
theorem ris_F_E (w : World) (b0 o0 n0 c0 : Nat) (x : Int) (ws : List Int) (hw : RdI w w.heap.size (some ⟨b0, o0, none⟩) (x :: ws)) (hn0 : n0 = (x :: ws).length) (hnc0 : n0 ≤ c0) (hct0 : c0 ≤ 9223372036854775807) (b1 o1 n1 c1 : Nat) (y : Int) (a : List Int) (ha : RdI w w.heap.size (some ⟨b1, o1, none⟩) (y :: a)) (hn1 : n1 = (y :: a).length) (hnc1 : n1 ≤ c1) (hct1 : c1 ≤ 9223372036854775807) (A3 : Option Addr) (c3 : Nat) (hct3 : c3 ≤ 9223372036854775807) (hxy : x = y) (hl : n0 = n1) (hl9 : n0 ≤ 1000)
    (HA : ∀ vw va vb W, (∃ q, W = w.drewN q) → Sl W w.heap.size vw ws → Sl W w.heap.size va a → Sl W w.heap.size vb [] → Calls Try.prog 34 #[vw, va, vb] W (IsAns false W)) :
    Calls Try.prog 34 #[.slice (some ⟨b0, o0, none⟩) n0 c0, .slice (some ⟨b1, o1, none⟩) n1 c1, .slice A3 0 c3] w (IsAns false w) := by
  have hcx0 : w.cell? ⟨b0, o0, none⟩ = some (.int .i64 x) := by
    obtain ⟨b', o', e, _, hc⟩ := hw (by simp)
    cases e
    simpa using hc 0 (by simp)
  have HT0 := Lib.hid (rdI_tail hw)
  have HSl0 := Lib.hid (show Sl w w.heap.size (.slice (some ⟨b0, o0, none⟩) n0 c0) (x :: ws) from ⟨_, c0, by rw [hn0], hw, by rw [← hn0]; exact hnc0, hct0⟩)
  have HN0 := Lib.hid hn0
  have i01 : (1 : Int) ≤ (n0 : Int) := by simp at hn0; omega
  have i02 : (n0 : Int) ≤ (c0 : Int) := by omega
  have i03 : (0 : Int) < (n0 : Int) := by omega
  have i04 : ¬ n0 = 0 := by omega
  have i05 : 0 < n0 := by omega
  have i06 : ¬ (n0 : Int) = 0 := by omega
  have i07 : ((n0 : Int) == 0) = false := by simpa using i06
  clear hw hn0
  have hcx1 : w.cell? ⟨b1, o1, none⟩ = some (.int .i64 y) := by
    obtain ⟨b', o', e, _, hc⟩ := ha (by simp)
    cases e
    simpa using hc 0 (by simp)
  have HT1 := Lib.hid (rdI_tail ha)
  have HSl1 := Lib.hid (show Sl w w.heap.size (.slice (some ⟨b1, o1, none⟩) n1 c1) (y :: a) from ⟨_, c1, by rw [hn1], ha, by rw [← hn1]; exact hnc1, hct1⟩)
  have HN1 := Lib.hid hn1
  have i11 : (1 : Int) ≤ (n1 : Int) := by simp at hn1; omega
  have i12 : (n1 : Int) ≤ (c1 : Int) := by omega
  have i13 : (0 : Int) < (n1 : Int) := by omega
  have i14 : ¬ n1 = 0 := by omega
  have i15 : 0 < n1 := by omega
  have i16 : ¬ (n1 : Int) = 0 := by omega
  have i17 : ((n1 : Int) == 0) = false := by simpa using i16
  clear ha hn1
  have HSl3 := Lib.hid (show Sl w w.heap.size (.slice A3 0 c3) [] from ⟨_, c3, rfl, RdI.nil _ _ _, Nat.zero_le _, hct3⟩)
  have hle : ((n0 : Int) != (n1 : Int)) = false := by simp; omega
  have e1 : (x == y) = true := by simpa using hxy
  have HRA := Lib.hid HA
  clear HA
  have hl8 : (n0 : Int) ≤ 1000 := by omega
  clear hl hl9 hxy
  go_enter Try.func34, Try.ntmps34
  go_wp2_with fail
  go_quiet ((go_at_call 34; exact Calls.quiet_of (HRA.out _ _ _ _ (by first | exact ⟨_, rfl⟩ | exact ⟨_, World.drewN_drewN _ _ _⟩) (sl_tl HT0.out (by first | exact ⟨_, rfl⟩ | exact ⟨_, World.drewN_drewN _ _ _⟩) HN0.out (by omega) hct0 (by first | rfl | (have e : c0 = 1 := (by assumption); simp [e]) | (have e : ¬ c0 = 1 := (by assumption); rw [if_neg e]))) (sl_tl HT1.out (by first | exact ⟨_, rfl⟩ | exact ⟨_, World.drewN_drewN _ _ _⟩) HN1.out (by omega) hct1 (by first | rfl | (have e : c1 = 1 := (by assumption); simp [e]) | (have e : ¬ c1 = 1 := (by assumption); rw [if_neg e]))) (sl_at HSl3.out (by first | exact ⟨_, rfl⟩ | exact ⟨_, World.drewN_drewN _ _ _⟩) (by first | rfl | (have e : c3 = 1 := (by assumption); simp [e]))))))
  go_wp2_with fail
  all_goals
    go_quiet ((fail))
    go_wp2_with fail
  all_goals
    go_ret
    exact ⟨rfl, by first | exact ⟨_, rfl⟩ | exact ⟨_, World.drewN_drewN _ _ _⟩⟩

set_option maxHeartbeats 1600000 in
set_option maxRecDepth 4000 in
theorem ris_F_N (w : World) (b0 o0 n0 c0 : Nat) (x : Int) (ws : List Int) (hw : RdI w w.heap.size (some ⟨b0, o0, none⟩) (x :: ws)) (hn0 : n0 = (x :: ws).length) (hnc0 : n0 ≤ c0) (hct0 : c0 ≤ 9223372036854775807) (b1 o1 n1 c1 : Nat) (y : Int) (a : List Int) (ha : RdI w w.heap.size (some ⟨b1, o1, none⟩) (y :: a)) (hn1 : n1 = (y :: a).length) (hnc1 : n1 ≤ c1) (hct1 : c1 ≤ 9223372036854775807) (b3 o3 n3 c3 : Nat) (z : Int) (b : List Int) (hb : RdI w w.heap.size (some ⟨b3, o3, none⟩) (z :: b)) (hn3 : n3 = (z :: b).length) (hnc3 : n3 ≤ c3) (hct3 : c3 ≤ 9223372036854775807) (hxy : x = y) (hxz : x ≠ z) (hl : n0 = n1 + n3) (hl9 : n0 ≤ 1000)
    (HA : ∀ vw va vb W, (∃ q, W = w.drewN q) → Sl W w.heap.size vw ws → Sl W w.heap.size va a → Sl W w.heap.size vb (z :: b) → Calls Try.prog 34 #[vw, va, vb] W (IsAns false W)) :
    Calls Try.prog 34 #[.slice (some ⟨b0, o0, none⟩) n0 c0, .slice (some ⟨b1, o1, none⟩) n1 c1, .slice (some ⟨b3, o3, none⟩) n3 c3] w (IsAns false w) := by
  have hcx0 : w.cell? ⟨b0, o0, none⟩ = some (.int .i64 x) := by
    obtain ⟨b', o', e, _, hc⟩ := hw (by simp)
    cases e
    simpa using hc 0 (by simp)
  have HT0 := Lib.hid (rdI_tail hw)
  have HSl0 := Lib.hid (show Sl w w.heap.size (.slice (some ⟨b0, o0, none⟩) n0 c0) (x :: ws) from ⟨_, c0, by rw [hn0], hw, by rw [← hn0]; exact hnc0, hct0⟩)
  have HN0 := Lib.hid hn0
  have i01 : (1 : Int) ≤ (n0 : Int) := by simp at hn0; omega
  have i02 : (n0 : Int) ≤ (c0 : Int) := by omega
  have i03 : (0 : Int) < (n0 : Int) := by omega
  have i04 : ¬ n0 = 0 := by omega
  have i05 : 0 < n0 := by omega
  have i06 : ¬ (n0 : Int) = 0 := by omega
  have i07 : ((n0 : Int) == 0) = false := by simpa using i06
  clear hw hn0
  have hcx1 : w.cell? ⟨b1, o1, none⟩ = some (.int .i64 y) := by
    obtain ⟨b', o', e, _, hc⟩ := ha (by simp)
    cases e
    simpa using hc 0 (by simp)
  have HT1 := Lib.hid (rdI_tail ha)
  have HSl1 := Lib.hid (show Sl w w.heap.size (.slice (some ⟨b1, o1, none⟩) n1 c1) (y :: a) from ⟨_, c1, by rw [hn1], ha, by rw [← hn1]; exact hnc1, hct1⟩)
  have HN1 := Lib.hid hn1
  have i11 : (1 : Int) ≤ (n1 : Int) := by simp at hn1; omega
  have i12 : (n1 : Int) ≤ (c1 : Int) := by omega
  have i13 : (0 : Int) < (n1 : Int) := by omega
  have i14 : ¬ n1 = 0 := by omega
  have i15 : 0 < n1 := by omega
  have i16 : ¬ (n1 : Int) = 0 := by omega
  have i17 : ((n1 : Int) == 0) = false := by simpa using i16
  clear ha hn1
  have hcx3 : w.cell? ⟨b3, o3, none⟩ = some (.int .i64 z) := by
    obtain ⟨b', o', e, _, hc⟩ := hb (by simp)
    cases e
    simpa using hc 0 (by simp)
  have HT3 := Lib.hid (rdI_tail hb)
  have HSl3 := Lib.hid (show Sl w w.heap.size (.slice (some ⟨b3, o3, none⟩) n3 c3) (z :: b) from ⟨_, c3, by rw [hn3], hb, by rw [← hn3]; exact hnc3, hct3⟩)
  have HN3 := Lib.hid hn3
  have i31 : (1 : Int) ≤ (n3 : Int) := by simp at hn3; omega
  have i32 : (n3 : Int) ≤ (c3 : Int) := by omega
  have i33 : (0 : Int) < (n3 : Int) := by omega
  have i34 : ¬ n3 = 0 := by omega
  have i35 : 0 < n3 := by omega
  have i36 : ¬ (n3 : Int) = 0 := by omega
  have i37 : ((n3 : Int) == 0) = false := by simpa using i36
  clear hb hn3
  have hle : ((n0 : Int) != (n1 : Int) + (n3 : Int)) = false := by simp; omega
  have e1 : (x == y) = true := by simpa using hxy
  have e3 : (x == z) = false := by simpa using hxz
  have HRA := Lib.hid HA
  clear HA
  have hl8 : (n0 : Int) ≤ 1000 := by omega
  have hl7 : (n1 : Int) + (n3 : Int) ≤ 1000 := by omega
  clear hl hl9 hxy hxz
  go_enter Try.func34, Try.ntmps34
  go_wp2_with fail
  go_quiet ((go_at_call 34; exact Calls.quiet_of (HRA.out _ _ _ _ (by first | exact ⟨_, rfl⟩ | exact ⟨_, World.drewN_drewN _ _ _⟩) (sl_tl HT0.out (by first | exact ⟨_, rfl⟩ | exact ⟨_, World.drewN_drewN _ _ _⟩) HN0.out (by omega) hct0 (by first | rfl | (have e : c0 = 1 := (by assumption); simp [e]) | (have e : ¬ c0 = 1 := (by assumption); rw [if_neg e]))) (sl_tl HT1.out (by first | exact ⟨_, rfl⟩ | exact ⟨_, World.drewN_drewN _ _ _⟩) HN1.out (by omega) hct1 (by first | rfl | (have e : c1 = 1 := (by assumption); simp [e]) | (have e : ¬ c1 = 1 := (by assumption); rw [if_neg e]))) (sl_at HSl3.out (by first | exact ⟨_, rfl⟩ | exact ⟨_, World.drewN_drewN _ _ _⟩) (by first | rfl | (have e : c3 = 1 := (by assumption); simp [e]))))))
  go_wp2_with fail
  all_goals
    go_quiet ((fail))
    go_wp2_with fail
  all_goals
    go_ret
    exact ⟨rfl, by first | exact ⟨_, rfl⟩ | exact ⟨_, World.drewN_drewN _ _ _⟩⟩

set_option maxHeartbeats 1600000 in
set_option maxRecDepth 4000 in
theorem ris_F_F (w : World) (b0 o0 n0 c0 : Nat) (x : Int) (ws : List Int) (hw : RdI w w.heap.size (some ⟨b0, o0, none⟩) (x :: ws)) (hn0 : n0 = (x :: ws).length) (hnc0 : n0 ≤ c0) (hct0 : c0 ≤ 9223372036854775807) (b1 o1 n1 c1 : Nat) (y : Int) (a : List Int) (ha : RdI w w.heap.size (some ⟨b1, o1, none⟩) (y :: a)) (hn1 : n1 = (y :: a).length) (hnc1 : n1 ≤ c1) (hct1 : c1 ≤ 9223372036854775807) (b3 o3 n3 c3 : Nat) (z : Int) (b : List Int) (hb : RdI w w.heap.size (some ⟨b3, o3, none⟩) (z :: b)) (hn3 : n3 = (z :: b).length) (hnc3 : n3 ≤ c3) (hct3 : c3 ≤ 9223372036854775807) (hxy : x = y) (hxz : x = z) (hl : n0 = n1 + n3) (hl9 : n0 ≤ 1000)
    (HA : ∀ vw va vb W, (∃ q, W = w.drewN q) → Sl W w.heap.size vw ws → Sl W w.heap.size va a → Sl W w.heap.size vb (z :: b) → Calls Try.prog 34 #[vw, va, vb] W (IsAns false W))
    (HB : ∀ vw va vb W, (∃ q, W = w.drewN q) → Sl W w.heap.size vw ws → Sl W w.heap.size va (y :: a) → Sl W w.heap.size vb b → Calls Try.prog 34 #[vw, va, vb] W (IsAns false W)) :
    Calls Try.prog 34 #[.slice (some ⟨b0, o0, none⟩) n0 c0, .slice (some ⟨b1, o1, none⟩) n1 c1, .slice (some ⟨b3, o3, none⟩) n3 c3] w (IsAns false w) := by
  have hcx0 : w.cell? ⟨b0, o0, none⟩ = some (.int .i64 x) := by
    obtain ⟨b', o', e, _, hc⟩ := hw (by simp)
    cases e
    simpa using hc 0 (by simp)
  have HT0 := Lib.hid (rdI_tail hw)
  have HSl0 := Lib.hid (show Sl w w.heap.size (.slice (some ⟨b0, o0, none⟩) n0 c0) (x :: ws) from ⟨_, c0, by rw [hn0], hw, by rw [← hn0]; exact hnc0, hct0⟩)
  have HN0 := Lib.hid hn0
  have i01 : (1 : Int) ≤ (n0 : Int) := by simp at hn0; omega
  have i02 : (n0 : Int) ≤ (c0 : Int) := by omega
  have i03 : (0 : Int) < (n0 : Int) := by omega
  have i04 : ¬ n0 = 0 := by omega
  have i05 : 0 < n0 := by omega
  have i06 : ¬ (n0 : Int) = 0 := by omega
  have i07 : ((n0 : Int) == 0) = false := by simpa using i06
  clear hw hn0
  have hcx1 : w.cell? ⟨b1, o1, none⟩ = some (.int .i64 y) := by
    obtain ⟨b', o', e, _, hc⟩ := ha (by simp)
    cases e
    simpa using hc 0 (by simp)
  have HT1 := Lib.hid (rdI_tail ha)
  have HSl1 := Lib.hid (show Sl w w.heap.size (.slice (some ⟨b1, o1, none⟩) n1 c1) (y :: a) from ⟨_, c1, by rw [hn1], ha, by rw [← hn1]; exact hnc1, hct1⟩)
  have HN1 := Lib.hid hn1
  have i11 : (1 : Int) ≤ (n1 : Int) := by simp at hn1; omega
  have i12 : (n1 : Int) ≤ (c1 : Int) := by omega
  have i13 : (0 : Int) < (n1 : Int) := by omega
  have i14 : ¬ n1 = 0 := by omega
  have i15 : 0 < n1 := by omega
  have i16 : ¬ (n1 : Int) = 0 := by omega
  have i17 : ((n1 : Int) == 0) = false := by simpa using i16
  clear ha hn1
  have hcx3 : w.cell? ⟨b3, o3, none⟩ = some (.int .i64 z) := by
    obtain ⟨b', o', e, _, hc⟩ := hb (by simp)
    cases e
    simpa using hc 0 (by simp)
  have HT3 := Lib.hid (rdI_tail hb)
  have HSl3 := Lib.hid (show Sl w w.heap.size (.slice (some ⟨b3, o3, none⟩) n3 c3) (z :: b) from ⟨_, c3, by rw [hn3], hb, by rw [← hn3]; exact hnc3, hct3⟩)
  have HN3 := Lib.hid hn3
  have i31 : (1 : Int) ≤ (n3 : Int) := by simp at hn3; omega
  have i32 : (n3 : Int) ≤ (c3 : Int) := by omega
  have i33 : (0 : Int) < (n3 : Int) := by omega
  have i34 : ¬ n3 = 0 := by omega
  have i35 : 0 < n3 := by omega
  have i36 : ¬ (n3 : Int) = 0 := by omega
  have i37 : ((n3 : Int) == 0) = false := by simpa using i36
  clear hb hn3
  have hle : ((n0 : Int) != (n1 : Int) + (n3 : Int)) = false := by simp; omega
  have e1 : (x == y) = true := by simpa using hxy
  have e3 : (x == z) = true := by simpa using hxz
  have HRA := Lib.hid HA
  clear HA
  have HRB := Lib.hid HB
  clear HB
  have hl8 : (n0 : Int) ≤ 1000 := by omega
  have hl7 : (n1 : Int) + (n3 : Int) ≤ 1000 := by omega
  clear hl hl9 hxy hxz
  go_enter Try.func34, Try.ntmps34
  go_wp2_with fail
  go_quiet ((go_at_call 34; exact Calls.quiet_of (HRA.out _ _ _ _ (by first | exact ⟨_, rfl⟩ | exact ⟨_, World.drewN_drewN _ _ _⟩) (sl_tl HT0.out (by first | exact ⟨_, rfl⟩ | exact ⟨_, World.drewN_drewN _ _ _⟩) HN0.out (by omega) hct0 (by first | rfl | (have e : c0 = 1 := (by assumption); simp [e]) | (have e : ¬ c0 = 1 := (by assumption); rw [if_neg e]))) (sl_tl HT1.out (by first | exact ⟨_, rfl⟩ | exact ⟨_, World.drewN_drewN _ _ _⟩) HN1.out (by omega) hct1 (by first | rfl | (have e : c1 = 1 := (by assumption); simp [e]) | (have e : ¬ c1 = 1 := (by assumption); rw [if_neg e]))) (sl_at HSl3.out (by first | exact ⟨_, rfl⟩ | exact ⟨_, World.drewN_drewN _ _ _⟩) (by first | rfl | (have e : c3 = 1 := (by assumption); simp [e]))))))
  go_wp2_with fail
  all_goals
    go_quiet ((go_at_call 34; exact quiet_more (HRB.out _ _ _ _ (by first | exact ⟨_, rfl⟩ | exact ⟨_, World.drewN_drewN _ _ _⟩) (sl_tl HT0.out (by first | exact ⟨_, rfl⟩ | exact ⟨_, World.drewN_drewN _ _ _⟩) HN0.out (by omega) hct0 (by first | rfl | (have e : c0 = 1 := (by assumption); simp [e]) | (have e : ¬ c0 = 1 := (by assumption); rw [if_neg e]))) (sl_at HSl1.out (by first | exact ⟨_, rfl⟩ | exact ⟨_, World.drewN_drewN _ _ _⟩) (by first | rfl | (have e : c1 = 1 := (by assumption); simp [e]))) (sl_tl HT3.out (by first | exact ⟨_, rfl⟩ | exact ⟨_, World.drewN_drewN _ _ _⟩) HN3.out (by omega) hct3 (by first | rfl | (have e : c3 = 1 := (by assumption); simp [e]) | (have e : ¬ c3 = 1 := (by assumption); rw [if_neg e]))))))
    go_wp2_with fail
  all_goals
    go_ret
    exact ⟨rfl, by first | exact ⟨_, rfl⟩ | exact ⟨_, World.drewN_drewN _ _ _⟩⟩

set_option maxHeartbeats 1600000 in
set_option maxRecDepth 4000 in
theorem ris_F_T (w : World) (b0 o0 n0 c0 : Nat) (x : Int) (ws : List Int) (hw : RdI w w.heap.size (some ⟨b0, o0, none⟩) (x :: ws)) (hn0 : n0 = (x :: ws).length) (hnc0 : n0 ≤ c0) (hct0 : c0 ≤ 9223372036854775807) (b1 o1 n1 c1 : Nat) (y : Int) (a : List Int) (ha : RdI w w.heap.size (some ⟨b1, o1, none⟩) (y :: a)) (hn1 : n1 = (y :: a).length) (hnc1 : n1 ≤ c1) (hct1 : c1 ≤ 9223372036854775807) (b3 o3 n3 c3 : Nat) (z : Int) (b : List Int) (hb : RdI w w.heap.size (some ⟨b3, o3, none⟩) (z :: b)) (hn3 : n3 = (z :: b).length) (hnc3 : n3 ≤ c3) (hct3 : c3 ≤ 9223372036854775807) (hxy : x = y) (hxz : x = z) (hl : n0 = n1 + n3) (hl9 : n0 ≤ 1000)
    (HA : ∀ vw va vb W, (∃ q, W = w.drewN q) → Sl W w.heap.size vw ws → Sl W w.heap.size va a → Sl W w.heap.size vb (z :: b) → Calls Try.prog 34 #[vw, va, vb] W (IsAns false W))
    (HB : ∀ vw va vb W, (∃ q, W = w.drewN q) → Sl W w.heap.size vw ws → Sl W w.heap.size va (y :: a) → Sl W w.heap.size vb b → Calls Try.prog 34 #[vw, va, vb] W (IsAns true W)) :
    Calls Try.prog 34 #[.slice (some ⟨b0, o0, none⟩) n0 c0, .slice (some ⟨b1, o1, none⟩) n1 c1, .slice (some ⟨b3, o3, none⟩) n3 c3] w (IsAns true w) := by
  have hcx0 : w.cell? ⟨b0, o0, none⟩ = some (.int .i64 x) := by
    obtain ⟨b', o', e, _, hc⟩ := hw (by simp)
    cases e
    simpa using hc 0 (by simp)
  have HT0 := Lib.hid (rdI_tail hw)
  have HSl0 := Lib.hid (show Sl w w.heap.size (.slice (some ⟨b0, o0, none⟩) n0 c0) (x :: ws) from ⟨_, c0, by rw [hn0], hw, by rw [← hn0]; exact hnc0, hct0⟩)
  have HN0 := Lib.hid hn0
  have i01 : (1 : Int) ≤ (n0 : Int) := by simp at hn0; omega
  have i02 : (n0 : Int) ≤ (c0 : Int) := by omega
  have i03 : (0 : Int) < (n0 : Int) := by omega
  have i04 : ¬ n0 = 0 := by omega
  have i05 : 0 < n0 := by omega
  have i06 : ¬ (n0 : Int) = 0 := by omega
  have i07 : ((n0 : Int) == 0) = false := by simpa using i06
  clear hw hn0
  have hcx1 : w.cell? ⟨b1, o1, none⟩ = some (.int .i64 y) := by
    obtain ⟨b', o', e, _, hc⟩ := ha (by simp)
    cases e
    simpa using hc 0 (by simp)
  have HT1 := Lib.hid (rdI_tail ha)
  have HSl1 := Lib.hid (show Sl w w.heap.size (.slice (some ⟨b1, o1, none⟩) n1 c1) (y :: a) from ⟨_, c1, by rw [hn1], ha, by rw [← hn1]; exact hnc1, hct1⟩)
  have HN1 := Lib.hid hn1
  have i11 : (1 : Int) ≤ (n1 : Int) := by simp at hn1; omega
  have i12 : (n1 : Int) ≤ (c1 : Int) := by omega
  have i13 : (0 : Int) < (n1 : Int) := by omega
  have i14 : ¬ n1 = 0 := by omega
  have i15 : 0 < n1 := by omega
  have i16 : ¬ (n1 : Int) = 0 := by omega
  have i17 : ((n1 : Int) == 0) = false := by simpa using i16
  clear ha hn1
  have hcx3 : w.cell? ⟨b3, o3, none⟩ = some (.int .i64 z) := by
    obtain ⟨b', o', e, _, hc⟩ := hb (by simp)
    cases e
    simpa using hc 0 (by simp)
  have HT3 := Lib.hid (rdI_tail hb)
  have HSl3 := Lib.hid (show Sl w w.heap.size (.slice (some ⟨b3, o3, none⟩) n3 c3) (z :: b) from ⟨_, c3, by rw [hn3], hb, by rw [← hn3]; exact hnc3, hct3⟩)
  have HN3 := Lib.hid hn3
  have i31 : (1 : Int) ≤ (n3 : Int) := by simp at hn3; omega
  have i32 : (n3 : Int) ≤ (c3 : Int) := by omega
  have i33 : (0 : Int) < (n3 : Int) := by omega
  have i34 : ¬ n3 = 0 := by omega
  have i35 : 0 < n3 := by omega
  have i36 : ¬ (n3 : Int) = 0 := by omega
  have i37 : ((n3 : Int) == 0) = false := by simpa using i36
  clear hb hn3
  have hle : ((n0 : Int) != (n1 : Int) + (n3 : Int)) = false := by simp; omega
  have e1 : (x == y) = true := by simpa using hxy
  have e3 : (x == z) = true := by simpa using hxz
  have HRA := Lib.hid HA
  clear HA
  have HRB := Lib.hid HB
  clear HB
  have hl8 : (n0 : Int) ≤ 1000 := by omega
  have hl7 : (n1 : Int) + (n3 : Int) ≤ 1000 := by omega
  clear hl hl9 hxy hxz
  go_enter Try.func34, Try.ntmps34
  go_wp2_with fail
  go_quiet ((go_at_call 34; exact Calls.quiet_of (HRA.out _ _ _ _ (by first | exact ⟨_, rfl⟩ | exact ⟨_, World.drewN_drewN _ _ _⟩) (sl_tl HT0.out (by first | exact ⟨_, rfl⟩ | exact ⟨_, World.drewN_drewN _ _ _⟩) HN0.out (by omega) hct0 (by first | rfl | (have e : c0 = 1 := (by assumption); simp [e]) | (have e : ¬ c0 = 1 := (by assumption); rw [if_neg e]))) (sl_tl HT1.out (by first | exact ⟨_, rfl⟩ | exact ⟨_, World.drewN_drewN _ _ _⟩) HN1.out (by omega) hct1 (by first | rfl | (have e : c1 = 1 := (by assumption); simp [e]) | (have e : ¬ c1 = 1 := (by assumption); rw [if_neg e]))) (sl_at HSl3.out (by first | exact ⟨_, rfl⟩ | exact ⟨_, World.drewN_drewN _ _ _⟩) (by first | rfl | (have e : c3 = 1 := (by assumption); simp [e]))))))
  go_wp2_with fail
  all_goals
    go_quiet ((go_at_call 34; exact quiet_more (HRB.out _ _ _ _ (by first | exact ⟨_, rfl⟩ | exact ⟨_, World.drewN_drewN _ _ _⟩) (sl_tl HT0.out (by first | exact ⟨_, rfl⟩ | exact ⟨_, World.drewN_drewN _ _ _⟩) HN0.out (by omega) hct0 (by first | rfl | (have e : c0 = 1 := (by assumption); simp [e]) | (have e : ¬ c0 = 1 := (by assumption); rw [if_neg e]))) (sl_at HSl1.out (by first | exact ⟨_, rfl⟩ | exact ⟨_, World.drewN_drewN _ _ _⟩) (by first | rfl | (have e : c1 = 1 := (by assumption); simp [e]))) (sl_tl HT3.out (by first | exact ⟨_, rfl⟩ | exact ⟨_, World.drewN_drewN _ _ _⟩) HN3.out (by omega) hct3 (by first | rfl | (have e : c3 = 1 := (by assumption); simp [e]) | (have e : ¬ c3 = 1 := (by assumption); rw [if_neg e]))))))
    go_wp2_with fail
  all_goals
    go_ret
    exact ⟨rfl, by first | exact ⟨_, rfl⟩ | exact ⟨_, World.drewN_drewN _ _ _⟩⟩

set_option maxHeartbeats 1600000 in
set_option maxRecDepth 4000 in
theorem ris_T_E (w : World) (b0 o0 n0 c0 : Nat) (x : Int) (ws : List Int) (hw : RdI w w.heap.size (some ⟨b0, o0, none⟩) (x :: ws)) (hn0 : n0 = (x :: ws).length) (hnc0 : n0 ≤ c0) (hct0 : c0 ≤ 9223372036854775807) (b1 o1 n1 c1 : Nat) (y : Int) (a : List Int) (ha : RdI w w.heap.size (some ⟨b1, o1, none⟩) (y :: a)) (hn1 : n1 = (y :: a).length) (hnc1 : n1 ≤ c1) (hct1 : c1 ≤ 9223372036854775807) (A3 : Option Addr) (c3 : Nat) (hct3 : c3 ≤ 9223372036854775807) (hxy : x = y) (hl : n0 = n1) (hl9 : n0 ≤ 1000)
    (HA : ∀ vw va vb W, (∃ q, W = w.drewN q) → Sl W w.heap.size vw ws → Sl W w.heap.size va a → Sl W w.heap.size vb [] → Calls Try.prog 34 #[vw, va, vb] W (IsAns true W)) :
    Calls Try.prog 34 #[.slice (some ⟨b0, o0, none⟩) n0 c0, .slice (some ⟨b1, o1, none⟩) n1 c1, .slice A3 0 c3] w (IsAns true w) := by
  have hcx0 : w.cell? ⟨b0, o0, none⟩ = some (.int .i64 x) := by
    obtain ⟨b', o', e, _, hc⟩ := hw (by simp)
    cases e
    simpa using hc 0 (by simp)
  have HT0 := Lib.hid (rdI_tail hw)
  have HSl0 := Lib.hid (show Sl w w.heap.size (.slice (some ⟨b0, o0, none⟩) n0 c0) (x :: ws) from ⟨_, c0, by rw [hn0], hw, by rw [← hn0]; exact hnc0, hct0⟩)
  have HN0 := Lib.hid hn0
  have i01 : (1 : Int) ≤ (n0 : Int) := by simp at hn0; omega
  have i02 : (n0 : Int) ≤ (c0 : Int) := by omega
  have i03 : (0 : Int) < (n0 : Int) := by omega
  have i04 : ¬ n0 = 0 := by omega
  have i05 : 0 < n0 := by omega
  have i06 : ¬ (n0 : Int) = 0 := by omega
  have i07 : ((n0 : Int) == 0) = false := by simpa using i06
  clear hw hn0
  have hcx1 : w.cell? ⟨b1, o1, none⟩ = some (.int .i64 y) := by
    obtain ⟨b', o', e, _, hc⟩ := ha (by simp)
    cases e
    simpa using hc 0 (by simp)
  have HT1 := Lib.hid (rdI_tail ha)
  have HSl1 := Lib.hid (show Sl w w.heap.size (.slice (some ⟨b1, o1, none⟩) n1 c1) (y :: a) from ⟨_, c1, by rw [hn1], ha, by rw [← hn1]; exact hnc1, hct1⟩)
  have HN1 := Lib.hid hn1
  have i11 : (1 : Int) ≤ (n1 : Int) := by simp at hn1; omega
  have i12 : (n1 : Int) ≤ (c1 : Int) := by omega
  have i13 : (0 : Int) < (n1 : Int) := by omega
  have i14 : ¬ n1 = 0 := by omega
  have i15 : 0 < n1 := by omega
  have i16 : ¬ (n1 : Int) = 0 := by omega
  have i17 : ((n1 : Int) == 0) = false := by simpa using i16
  clear ha hn1
  have HSl3 := Lib.hid (show Sl w w.heap.size (.slice A3 0 c3) [] from ⟨_, c3, rfl, RdI.nil _ _ _, Nat.zero_le _, hct3⟩)
  have hle : ((n0 : Int) != (n1 : Int)) = false := by simp; omega
  have e1 : (x == y) = true := by simpa using hxy
  have HRA := Lib.hid HA
  clear HA
  have hl8 : (n0 : Int) ≤ 1000 := by omega
  clear hl hl9 hxy
  go_enter Try.func34, Try.ntmps34
  go_wp2_with fail
  go_quiet ((go_at_call 34; exact Calls.quiet_of (HRA.out _ _ _ _ (by first | exact ⟨_, rfl⟩ | exact ⟨_, World.drewN_drewN _ _ _⟩) (sl_tl HT0.out (by first | exact ⟨_, rfl⟩ | exact ⟨_, World.drewN_drewN _ _ _⟩) HN0.out (by omega) hct0 (by first | rfl | (have e : c0 = 1 := (by assumption); simp [e]) | (have e : ¬ c0 = 1 := (by assumption); rw [if_neg e]))) (sl_tl HT1.out (by first | exact ⟨_, rfl⟩ | exact ⟨_, World.drewN_drewN _ _ _⟩) HN1.out (by omega) hct1 (by first | rfl | (have e : c1 = 1 := (by assumption); simp [e]) | (have e : ¬ c1 = 1 := (by assumption); rw [if_neg e]))) (sl_at HSl3.out (by first | exact ⟨_, rfl⟩ | exact ⟨_, World.drewN_drewN _ _ _⟩) (by first | rfl | (have e : c3 = 1 := (by assumption); simp [e]))))))
  go_wp2_with fail
  all_goals
    go_ret
    exact ⟨rfl, by first | exact ⟨_, rfl⟩ | exact ⟨_, World.drewN_drewN _ _ _⟩⟩

set_option maxHeartbeats 1600000 in
set_option maxRecDepth 4000 in
theorem ris_T_G (w : World) (b0 o0 n0 c0 : Nat) (x : Int) (ws : List Int) (hw : RdI w w.heap.size (some ⟨b0, o0, none⟩) (x :: ws)) (hn0 : n0 = (x :: ws).length) (hnc0 : n0 ≤ c0) (hct0 : c0 ≤ 9223372036854775807) (b1 o1 n1 c1 : Nat) (y : Int) (a : List Int) (ha : RdI w w.heap.size (some ⟨b1, o1, none⟩) (y :: a)) (hn1 : n1 = (y :: a).length) (hnc1 : n1 ≤ c1) (hct1 : c1 ≤ 9223372036854775807) (b3 o3 n3 c3 : Nat) (z : Int) (b : List Int) (hb : RdI w w.heap.size (some ⟨b3, o3, none⟩) (z :: b)) (hn3 : n3 = (z :: b).length) (hnc3 : n3 ≤ c3) (hct3 : c3 ≤ 9223372036854775807) (hxy : x = y) (hl : n0 = n1 + n3) (hl9 : n0 ≤ 1000)
    (HA : ∀ vw va vb W, (∃ q, W = w.drewN q) → Sl W w.heap.size vw ws → Sl W w.heap.size va a → Sl W w.heap.size vb (z :: b) → Calls Try.prog 34 #[vw, va, vb] W (IsAns true W)) :
    Calls Try.prog 34 #[.slice (some ⟨b0, o0, none⟩) n0 c0, .slice (some ⟨b1, o1, none⟩) n1 c1, .slice (some ⟨b3, o3, none⟩) n3 c3] w (IsAns true w) := by
  have hcx0 : w.cell? ⟨b0, o0, none⟩ = some (.int .i64 x) := by
    obtain ⟨b', o', e, _, hc⟩ := hw (by simp)
    cases e
    simpa using hc 0 (by simp)
  have HT0 := Lib.hid (rdI_tail hw)
  have HSl0 := Lib.hid (show Sl w w.heap.size (.slice (some ⟨b0, o0, none⟩) n0 c0) (x :: ws) from ⟨_, c0, by rw [hn0], hw, by rw [← hn0]; exact hnc0, hct0⟩)
  have HN0 := Lib.hid hn0
  have i01 : (1 : Int) ≤ (n0 : Int) := by simp at hn0; omega
  have i02 : (n0 : Int) ≤ (c0 : Int) := by omega
  have i03 : (0 : Int) < (n0 : Int) := by omega
  have i04 : ¬ n0 = 0 := by omega
  have i05 : 0 < n0 := by omega
  have i06 : ¬ (n0 : Int) = 0 := by omega
  have i07 : ((n0 : Int) == 0) = false := by simpa using i06
  clear hw hn0
  have hcx1 : w.cell? ⟨b1, o1, none⟩ = some (.int .i64 y) := by
    obtain ⟨b', o', e, _, hc⟩ := ha (by simp)
    cases e
    simpa using hc 0 (by simp)
  have HT1 := Lib.hid (rdI_tail ha)
  have HSl1 := Lib.hid (show Sl w w.heap.size (.slice (some ⟨b1, o1, none⟩) n1 c1) (y :: a) from ⟨_, c1, by rw [hn1], ha, by rw [← hn1]; exact hnc1, hct1⟩)
  have HN1 := Lib.hid hn1
  have i11 : (1 : Int) ≤ (n1 : Int) := by simp at hn1; omega
  have i12 : (n1 : Int) ≤ (c1 : Int) := by omega
  have i13 : (0 : Int) < (n1 : Int) := by omega
  have i14 : ¬ n1 = 0 := by omega
  have i15 : 0 < n1 := by omega
  have i16 : ¬ (n1 : Int) = 0 := by omega
  have i17 : ((n1 : Int) == 0) = false := by simpa using i16
  clear ha hn1
  have hcx3 : w.cell? ⟨b3, o3, none⟩ = some (.int .i64 z) := by
    obtain ⟨b', o', e, _, hc⟩ := hb (by simp)
    cases e
    simpa using hc 0 (by simp)
  have HT3 := Lib.hid (rdI_tail hb)
  have HSl3 := Lib.hid (show Sl w w.heap.size (.slice (some ⟨b3, o3, none⟩) n3 c3) (z :: b) from ⟨_, c3, by rw [hn3], hb, by rw [← hn3]; exact hnc3, hct3⟩)
  have HN3 := Lib.hid hn3
  have i31 : (1 : Int) ≤ (n3 : Int) := by simp at hn3; omega
  have i32 : (n3 : Int) ≤ (c3 : Int) := by omega
  have i33 : (0 : Int) < (n3 : Int) := by omega
  have i34 : ¬ n3 = 0 := by omega
  have i35 : 0 < n3 := by omega
  have i36 : ¬ (n3 : Int) = 0 := by omega
  have i37 : ((n3 : Int) == 0) = false := by simpa using i36
  clear hb hn3
  have hle : ((n0 : Int) != (n1 : Int) + (n3 : Int)) = false := by simp; omega
  have e1 : (x == y) = true := by simpa using hxy
  have HRA := Lib.hid HA
  clear HA
  have hl8 : (n0 : Int) ≤ 1000 := by omega
  have hl7 : (n1 : Int) + (n3 : Int) ≤ 1000 := by omega
  clear hl hl9 hxy
  go_enter Try.func34, Try.ntmps34
  go_wp2_with fail
  go_quiet ((go_at_call 34; exact Calls.quiet_of (HRA.out _ _ _ _ (by first | exact ⟨_, rfl⟩ | exact ⟨_, World.drewN_drewN _ _ _⟩) (sl_tl HT0.out (by first | exact ⟨_, rfl⟩ | exact ⟨_, World.drewN_drewN _ _ _⟩) HN0.out (by omega) hct0 (by first | rfl | (have e : c0 = 1 := (by assumption); simp [e]) | (have e : ¬ c0 = 1 := (by assumption); rw [if_neg e]))) (sl_tl HT1.out (by first | exact ⟨_, rfl⟩ | exact ⟨_, World.drewN_drewN _ _ _⟩) HN1.out (by omega) hct1 (by first | rfl | (have e : c1 = 1 := (by assumption); simp [e]) | (have e : ¬ c1 = 1 := (by assumption); rw [if_neg e]))) (sl_at HSl3.out (by first | exact ⟨_, rfl⟩ | exact ⟨_, World.drewN_drewN _ _ _⟩) (by first | rfl | (have e : c3 = 1 := (by assumption); simp [e]))))))
  go_wp2_with fail
  all_goals
    go_ret
    exact ⟨rfl, by first | exact ⟨_, rfl⟩ | exact ⟨_, World.drewN_drewN _ _ _⟩⟩
end Go.Proofs.Ytdccmebkoibkhaa
