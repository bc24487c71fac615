/- The contract of the reference's Match: it answers what merge answers. -/
import Derived.Test.YtdccmebkoibkhaaMgMath
import Derived.Test.YtdccmebkoibkhaaWhas
import Derived.Test.YtdccmebkoibkhaaApp
import Derived.Laws.OwnMore
namespace Go.Proofs.Ytdccmebkoibkhaa
open Go.RowKit
attribute [local go_sem ↓] Go.wp_at_zero Go.wp_at_succ
set_option linter.unusedVariables false

/-- What Match gives. -/
def MtGives (R : List Int × Bool) (w : World) (e : Ending) (w' : World) : Prop := ∃ C c, e = .returned (.tuple #[.slice C R.1.length c, .bool R.2]) ∧ RdI w' w'.heap.size C R.1 ∧ Below w.heap.size w w'
theorem Sl.up {w w' : World} {B : Nat} {v : Value} {l : List Int} (h : Sl w B v l) (hb : Below B w w') (hB : B ≤ w'.heap.size) : Sl w' w'.heap.size v l := by
  obtain ⟨A, c, e, hr, h1, h2⟩ := h
  exact ⟨A, c, e, (hr.below hb (Nat.le_refl _)).more hB, h1, h2⟩
theorem has_t {A : Option Addr} {n c Bx : Nat} {zs : List Int} {x : Int} {w : World} (hx : RdI w Bx A zs) (hn : zs.length = n) (hb : n ≤ 4096) (h : x ∈ zs) (q : Nat) :
    Calls Try.prog 45 #[.slice A n c, .int .i64 x] (w.drewN q) fun e w' => e = .returned (.bool true) ∧ w' = w.drewN q := by
  refine (r2Has_any A n c Bx zs x (w.drewN q) (hx.dr q) hn (by omega)).mono ?_
  rintro e w' ⟨rfl, rfl⟩
  simp [h]
theorem has_f {A : Option Addr} {n c Bx : Nat} {zs : List Int} {x : Int} {w : World} (hx : RdI w Bx A zs) (hn : zs.length = n) (hb : n ≤ 4096) (h : x ∉ zs) (q : Nat) :
    Calls Try.prog 45 #[.slice A n c, .int .i64 x] (w.drewN q) fun e w' => e = .returned (.bool false) ∧ w' = w.drewN q := by
  refine (r2Has_any A n c Bx zs x (w.drewN q) (hx.dr q) hn (by omega)).mono ?_
  rintro e w' ⟨rfl, rfl⟩
  simp [h]
theorem RdI.alloc {w : World} {B : Nat} {A : Option Addr} {zs : List Int} (h : RdI w B A zs) (hB : B ≤ w.heap.size) (b : Obj) : RdI (w.alloc b) B A zs :=
  h.below (((Below.refl B w).alloc hB b)) (Nat.le_refl _)
theorem own_lit1 (w : World) (base : Nat) (x : Int) (hb : base ≤ w.heap.size) : (w.alloc (.cells #[.int .i64 x] 3)).ownsRow base 3 1 (.slice (some ⟨w.heap.size, 0, none⟩) 1 1) 1 ([x].map (Value.int .i64)) :=
  World.ownsRow_lit (e := 3) (size := 1) w #[.int .i64 x] 1 hb (by unfold maxLen; omega) rfl

set_option maxHeartbeats 1600000 in
set_option maxRecDepth 4000 in
theorem rm_nil (A1 : Option Addr) (A3 : Option Addr) (c1 c3 : Nat) (F S : Option Addr) (n2 c2 n4 c4 : Nat) (f s : List Int) (R : List Int × Bool) (w : World) (hf : RdI w w.heap.size F f) (hs : RdI w w.heap.size S s) (hn2 : f.length = n2) (hn4 : s.length = n4) (bn2 : n2 ≤ 4096) (bn4 : n4 ≤ 4096) (hct1 : c1 ≤ 9223372036854775807) (hct3 : c3 ≤ 9223372036854775807) :
    Calls Try.prog 36 #[.slice A1 0 c1, .slice F n2 c2, .slice A3 0 c3, .slice S n4 c4] w (MtGives (([], true)) w) := by
  have HF := Lib.hid hf
  have HSS := Lib.hid hs
  clear hf hs hn2 hn4
  have HSl1 := Lib.hid (show Sl w w.heap.size (.slice A1 0 c1) [] from ⟨_, c1, rfl, RdI.nil _ _ _, Nat.zero_le _, hct1⟩)
  have HSl3 := Lib.hid (show Sl w w.heap.size (.slice A3 0 c3) [] from ⟨_, c3, rfl, RdI.nil _ _ _, Nat.zero_le _, hct3⟩)
  go_enter Try.func36, Try.ntmps36
  go_wp2_with fail
  go_ret2
  exact ⟨none, 0, rfl, RdI.nil _ _ _, Below.refl _ _⟩

set_option maxHeartbeats 1600000 in
set_option maxRecDepth 4000 in
theorem rm_l0 (b1 o1 n1 : Nat) (x : Int) (a : List Int) (A3 : Option Addr) (c1 c3 : Nat) (F S : Option Addr) (n2 c2 n4 c4 : Nat) (f s : List Int) (R : List Int × Bool) (w : World) (hf : RdI w w.heap.size F f) (hs : RdI w w.heap.size S s) (hn2 : f.length = n2) (hn4 : s.length = n4) (bn2 : n2 ≤ 4096) (bn4 : n4 ≤ 4096) (hax : RdI w w.heap.size (some ⟨b1, o1, none⟩) (x :: a)) (hn1 : n1 = (x :: a).length) (hnc1 : n1 ≤ c1) (hct1 : c1 ≤ 9223372036854775807) (x0 : 0 ≤ x) (hct3 : c3 ≤ 9223372036854775807) (h : x ∈ s) :
    Calls Try.prog 36 #[.slice (some ⟨b1, o1, none⟩) n1 c1, .slice F n2 c2, .slice A3 0 c3, .slice S n4 c4] w (MtGives (([], false)) w) := by
  have Hx := Lib.hid (fun q => has_t (c := c4) hs hn4 bn4 h q)
  have Hx0 := Lib.hid (Hx.out 0)
  have HF := Lib.hid hf
  have HSS := Lib.hid hs
  clear hf hs hn2 hn4
  have hcx1 : w.cell? ⟨b1, o1, none⟩ = some (.int .i64 x) := by
    obtain ⟨b', o', e, _, hc⟩ := hax (by simp)
    cases e
    simpa using hc 0 (by simp)
  have HT1 := Lib.hid (rdI_tail hax)
  have HSl1 := Lib.hid (show Sl w w.heap.size (.slice (some ⟨b1, o1, none⟩) n1 c1) (x :: a) from ⟨_, c1, by rw [hn1], hax, by rw [← hn1]; exact hnc1, hct1⟩)
  have HN1 := Lib.hid hn1
  have i11 : (1 : Int) ≤ (n1 : Int) := by simp at hn1; omega
  have i12 : (n1 : Int) ≤ (c1 : Int) := by omega
  have i13 : (0 : Int) < (n1 : Int) := by omega
  have i14 : ¬ n1 = 0 := by omega
  have i15 : 0 < n1 := by omega
  have i16 : ¬ (n1 : Int) = 0 := by omega
  clear hax hn1
  have HSl3 := Lib.hid (show Sl w w.heap.size (.slice A3 0 c3) [] from ⟨_, c3, rfl, RdI.nil _ _ _, Nat.zero_le _, hct3⟩)
  have x1 : ¬ x < 0 := by omega
  have x2 : (x == x) = true := by simp
  go_enter Try.func36, Try.ntmps36
  go_wp2_with fail
  refine (Hx0.out).mono ?_
  rintro e w' ⟨rfl, rfl⟩
  go_wp2_with fail
  go_quiet ((first | (go_at_call 45; with_reducible exact Calls.quiet_of_same (Hx.out _))))
  go_wp2_with fail
  go_ret2
  exact ⟨none, 0, rfl, RdI.nil _ _ _, below_drewN (Below.refl _ _) _⟩

set_option maxHeartbeats 1600000 in
set_option maxRecDepth 4000 in
theorem rm_l1 (b1 o1 n1 : Nat) (x : Int) (a : List Int) (A3 : Option Addr) (c1 c3 : Nat) (F S : Option Addr) (n2 c2 n4 c4 : Nat) (f s : List Int) (R : List Int × Bool) (w : World) (hf : RdI w w.heap.size F f) (hs : RdI w w.heap.size S s) (hn2 : f.length = n2) (hn4 : s.length = n4) (bn2 : n2 ≤ 4096) (bn4 : n4 ≤ 4096) (hax : RdI w w.heap.size (some ⟨b1, o1, none⟩) (x :: a)) (hn1 : n1 = (x :: a).length) (hnc1 : n1 ≤ c1) (hct1 : c1 ≤ 9223372036854775807) (x0 : 0 ≤ x) (hct3 : c3 ≤ 9223372036854775807) (h : x ∉ s)
    (hR : R.1.length ≤ 8192) (HR : ∀ va vb W, Below w.heap.size w W → Sl W w.heap.size va a → Sl W w.heap.size vb [] → Calls Try.prog 36 #[va, .slice F n2 c2, vb, .slice S n4 c4] W (MtGives R W)) :
    Calls Try.prog 36 #[.slice (some ⟨b1, o1, none⟩) n1 c1, .slice F n2 c2, .slice A3 0 c3, .slice S n4 c4] w (MtGives (cons1 x R) w) := by
  have Hx := Lib.hid (fun q => has_f (c := c4) hs hn4 bn4 h q)
  have Hx0 := Lib.hid (Hx.out 0)
  have HF := Lib.hid hf
  have HSS := Lib.hid hs
  clear hf hs hn2 hn4
  have hcx1 : w.cell? ⟨b1, o1, none⟩ = some (.int .i64 x) := by
    obtain ⟨b', o', e, _, hc⟩ := hax (by simp)
    cases e
    simpa using hc 0 (by simp)
  have HT1 := Lib.hid (rdI_tail hax)
  have HSl1 := Lib.hid (show Sl w w.heap.size (.slice (some ⟨b1, o1, none⟩) n1 c1) (x :: a) from ⟨_, c1, by rw [hn1], hax, by rw [← hn1]; exact hnc1, hct1⟩)
  have HN1 := Lib.hid hn1
  have i11 : (1 : Int) ≤ (n1 : Int) := by simp at hn1; omega
  have i12 : (n1 : Int) ≤ (c1 : Int) := by omega
  have i13 : (0 : Int) < (n1 : Int) := by omega
  have i14 : ¬ n1 = 0 := by omega
  have i15 : 0 < n1 := by omega
  have i16 : ¬ (n1 : Int) = 0 := by omega
  clear hax hn1
  have HSl3 := Lib.hid (show Sl w w.heap.size (.slice A3 0 c3) [] from ⟨_, c3, rfl, RdI.nil _ _ _, Nat.zero_le _, hct3⟩)
  have x1 : ¬ x < 0 := by omega
  have x2 : (x == x) = true := by simp
  go_enter Try.func36, Try.ntmps36
  go_wp2_with fail
  refine (Hx0.out).mono ?_
  rintro e w' ⟨rfl, rfl⟩
  go_wp2_with fail
  go_quiet ((first | (go_at_call 45; with_reducible exact Calls.quiet_of_same (Hx.out _))))
  go_wp2_with fail
  all_goals
    refine (Hx.out _).mono ?_
    rintro e w' ⟨rfl, rfl⟩
    go_wp2_with fail
  all_goals
    refine (HR _ _ _ (below_drewN (Below.refl _ _) _) (by have t := sl_tail HT1.out (below_drewN (Below.refl _ _) nq) HN1.out (by omega) hct1; first | exact t | (have e : c1 = 1 := (by assumption); rw [if_pos e, e] at t; exact t) | (have e : ¬ c1 = 1 := (by assumption); rw [if_neg e] at t; exact t)) (HSl3.out.below (below_drewN (Below.refl _ _) _))).mono ?_
    rintro e w1 ⟨C, c, rfl, hr, hb⟩
    have HBx := Lib.hid (Below.trans (below_drewN (Below.refl w.heap.size w) nq) hb)
    have HRx := Lib.hid hr
    obtain ⟨R1, R2⟩ := R
    clear hr hb HR
    cases R2 with
    | false =>
      go_wp2_with fail
      go_ret2
      exact ⟨none, 0, rfl, RdI.nil _ _ _, HBx.out⟩
    | true =>
      have hws := HBx.out.size
      have hR1 : R1.length ≤ 8192 := hR
      obtain ⟨m, hm⟩ : ∃ m, m = R1.length := ⟨_, rfl⟩
      have HM := Lib.hid hm.symm
      simp only [← hm]
      have hm2 : m ≤ 8192 := by omega
      clear hm hR hR1
      go_wp2_with (at_builtin; refine wpList_app_rd rfl (.tmp 128) (.tmp 129) rfl w.heap.size _ 1 [x] rfl (own_lit1 w1 w.heap.size x hws) w1.heap.size C m c R1 rfl ((HRx.out.alloc (Nat.le_refl _) _)) HM.out (by unfold maxLen; omega) (by omega) (by simp; omega) ?_)
      intro v' w2 hown hgrow
      have HO := Lib.hid (show Own w2 w.heap.size v' (x :: R1) by
        have := hown; rw [← HM.out, Nat.add_comm] at this; exact this)
      have HB2 := Lib.hid ((HBx.out.alloc hws (.cells #[.int .i64 x] 3)).grown hgrow (by simp; omega) (fun j hj => by have := ((own_lit1 w1 w.heap.size x hws).lt j hj).1; exact this))
      clear hown hgrow
      go_wp2_with fail
      go_ret2
      obtain ⟨A', c', e, hr, _, _⟩ := own_rdc HO.out
      exact ⟨A', c', by rw [e]; simp [cons1], by simpa [cons1] using hr, HB2.out⟩

set_option maxHeartbeats 1600000 in
set_option maxRecDepth 4000 in
theorem rm_r0 (A1 : Option Addr) (b3 o3 n3 : Nat) (y : Int) (b : List Int) (c1 c3 : Nat) (F S : Option Addr) (n2 c2 n4 c4 : Nat) (f s : List Int) (R : List Int × Bool) (w : World) (hf : RdI w w.heap.size F f) (hs : RdI w w.heap.size S s) (hn2 : f.length = n2) (hn4 : s.length = n4) (bn2 : n2 ≤ 4096) (bn4 : n4 ≤ 4096) (hct1 : c1 ≤ 9223372036854775807) (hby : RdI w w.heap.size (some ⟨b3, o3, none⟩) (y :: b)) (hn3 : n3 = (y :: b).length) (hnc3 : n3 ≤ c3) (hct3 : c3 ≤ 9223372036854775807) (y0 : 0 ≤ y) (h2 : y ∈ f) :
    Calls Try.prog 36 #[.slice A1 0 c1, .slice F n2 c2, .slice (some ⟨b3, o3, none⟩) n3 c3, .slice S n4 c4] w (MtGives (([], false)) w) := by
  have Hy := Lib.hid (fun q => has_t (c := c2) hf hn2 bn2 h2 q)
  have Hy0 := Lib.hid (Hy.out 0)
  have HF := Lib.hid hf
  have HSS := Lib.hid hs
  clear hf hs hn2 hn4
  have HSl1 := Lib.hid (show Sl w w.heap.size (.slice A1 0 c1) [] from ⟨_, c1, rfl, RdI.nil _ _ _, Nat.zero_le _, hct1⟩)
  have hcx3 : w.cell? ⟨b3, o3, none⟩ = some (.int .i64 y) := by
    obtain ⟨b', o', e, _, hc⟩ := hby (by simp)
    cases e
    simpa using hc 0 (by simp)
  have HT3 := Lib.hid (rdI_tail hby)
  have HSl3 := Lib.hid (show Sl w w.heap.size (.slice (some ⟨b3, o3, none⟩) n3 c3) (y :: b) from ⟨_, c3, by rw [hn3], hby, by rw [← hn3]; exact hnc3, hct3⟩)
  have HN3 := Lib.hid hn3
  have i31 : (1 : Int) ≤ (n3 : Int) := by simp at hn3; omega
  have i32 : (n3 : Int) ≤ (c3 : Int) := by omega
  have i33 : (0 : Int) < (n3 : Int) := by omega
  have i34 : ¬ n3 = 0 := by omega
  have i35 : 0 < n3 := by omega
  have i36 : ¬ (n3 : Int) = 0 := by omega
  clear hby hn3
  have y1 : ¬ y < 0 := by omega
  have y2 : (y == y) = true := by simp
  go_enter Try.func36, Try.ntmps36
  go_wp2_with fail
  refine (Hy0.out).mono ?_
  rintro e w' ⟨rfl, rfl⟩
  go_wp2_with fail
  go_quiet ((first | (go_at_call 45; with_reducible exact Calls.quiet_of_same (Hy.out _))))
  go_wp2_with fail
  go_ret2
  exact ⟨none, 0, rfl, RdI.nil _ _ _, below_drewN (Below.refl _ _) _⟩

set_option maxHeartbeats 1600000 in
set_option maxRecDepth 4000 in
theorem rm_r1 (A1 : Option Addr) (b3 o3 n3 : Nat) (y : Int) (b : List Int) (c1 c3 : Nat) (F S : Option Addr) (n2 c2 n4 c4 : Nat) (f s : List Int) (R : List Int × Bool) (w : World) (hf : RdI w w.heap.size F f) (hs : RdI w w.heap.size S s) (hn2 : f.length = n2) (hn4 : s.length = n4) (bn2 : n2 ≤ 4096) (bn4 : n4 ≤ 4096) (hct1 : c1 ≤ 9223372036854775807) (hby : RdI w w.heap.size (some ⟨b3, o3, none⟩) (y :: b)) (hn3 : n3 = (y :: b).length) (hnc3 : n3 ≤ c3) (hct3 : c3 ≤ 9223372036854775807) (y0 : 0 ≤ y) (h2 : y ∉ f) (hys : y ∈ s)
    (hR : R.1.length ≤ 8192) (HR : ∀ va vb W, Below w.heap.size w W → Sl W w.heap.size va [] → Sl W w.heap.size vb b → Calls Try.prog 36 #[va, .slice F n2 c2, vb, .slice S n4 c4] W (MtGives R W)) :
    Calls Try.prog 36 #[.slice A1 0 c1, .slice F n2 c2, .slice (some ⟨b3, o3, none⟩) n3 c3, .slice S n4 c4] w (MtGives (cons1 y R) w) := by
  have Hy := Lib.hid (fun q => has_f (c := c2) hf hn2 bn2 h2 q)
  have Hy0 := Lib.hid (Hy.out 0)
  have Hb := Lib.hid (fun q => has_t (c := c4) hs hn4 bn4 hys q)
  have Hb0 := Lib.hid (Hb.out 0)
  have HF := Lib.hid hf
  have HSS := Lib.hid hs
  clear hf hs hn2 hn4
  have HSl1 := Lib.hid (show Sl w w.heap.size (.slice A1 0 c1) [] from ⟨_, c1, rfl, RdI.nil _ _ _, Nat.zero_le _, hct1⟩)
  have hcx3 : w.cell? ⟨b3, o3, none⟩ = some (.int .i64 y) := by
    obtain ⟨b', o', e, _, hc⟩ := hby (by simp)
    cases e
    simpa using hc 0 (by simp)
  have HT3 := Lib.hid (rdI_tail hby)
  have HSl3 := Lib.hid (show Sl w w.heap.size (.slice (some ⟨b3, o3, none⟩) n3 c3) (y :: b) from ⟨_, c3, by rw [hn3], hby, by rw [← hn3]; exact hnc3, hct3⟩)
  have HN3 := Lib.hid hn3
  have i31 : (1 : Int) ≤ (n3 : Int) := by simp at hn3; omega
  have i32 : (n3 : Int) ≤ (c3 : Int) := by omega
  have i33 : (0 : Int) < (n3 : Int) := by omega
  have i34 : ¬ n3 = 0 := by omega
  have i35 : 0 < n3 := by omega
  have i36 : ¬ (n3 : Int) = 0 := by omega
  clear hby hn3
  have y1 : ¬ y < 0 := by omega
  have y2 : (y == y) = true := by simp
  go_enter Try.func36, Try.ntmps36
  go_wp2_with fail
  refine (Hy0.out).mono ?_
  rintro e w' ⟨rfl, rfl⟩
  go_wp2_with fail
  go_quiet ((first | (go_at_call 45; with_reducible exact Calls.quiet_of_same (Hy.out _)) | (go_at_call 45; with_reducible exact Calls.quiet_of_same (Hb.out _))))
  go_wp2_with fail
  all_goals
    refine (Hb.out _).mono ?_
    rintro e w' ⟨rfl, rfl⟩
    go_wp2_with fail
  all_goals
    refine (HR _ _ _ (below_drewN (Below.refl _ _) _) (HSl1.out.below (below_drewN (Below.refl _ _) _)) (by have t := sl_tail HT3.out (below_drewN (Below.refl _ _) nq) HN3.out (by omega) hct3; first | exact t | (have e : c3 = 1 := (by assumption); rw [if_pos e, e] at t; exact t) | (have e : ¬ c3 = 1 := (by assumption); rw [if_neg e] at t; exact t))).mono ?_
    rintro e w1 ⟨C, c, rfl, hr, hb⟩
    have HBx := Lib.hid (Below.trans (below_drewN (Below.refl w.heap.size w) nq) hb)
    have HRx := Lib.hid hr
    obtain ⟨R1, R2⟩ := R
    clear hr hb HR
    cases R2 with
    | false =>
      go_wp2_with fail
      go_ret2
      exact ⟨none, 0, rfl, RdI.nil _ _ _, HBx.out⟩
    | true =>
      have hws := HBx.out.size
      have hR1 : R1.length ≤ 8192 := hR
      obtain ⟨m, hm⟩ : ∃ m, m = R1.length := ⟨_, rfl⟩
      have HM := Lib.hid hm.symm
      simp only [← hm]
      have hm2 : m ≤ 8192 := by omega
      clear hm hR hR1
      go_wp2_with (at_builtin; refine wpList_app_rd rfl (.tmp 128) (.tmp 129) rfl w.heap.size _ 1 [y] rfl (own_lit1 w1 w.heap.size y hws) w1.heap.size C m c R1 rfl ((HRx.out.alloc (Nat.le_refl _) _)) HM.out (by unfold maxLen; omega) (by omega) (by simp; omega) ?_)
      intro v' w2 hown hgrow
      have HO := Lib.hid (show Own w2 w.heap.size v' (y :: R1) by
        have := hown; rw [← HM.out, Nat.add_comm] at this; exact this)
      have HB2 := Lib.hid ((HBx.out.alloc hws (.cells #[.int .i64 y] 3)).grown hgrow (by simp; omega) (fun j hj => by have := ((own_lit1 w1 w.heap.size y hws).lt j hj).1; exact this))
      clear hown hgrow
      go_wp2_with fail
      go_ret2
      obtain ⟨A', c', e, hr, _, _⟩ := own_rdc HO.out
      exact ⟨A', c', by rw [e]; simp [cons1], by simpa [cons1] using hr, HB2.out⟩
end Go.Proofs.Ytdccmebkoibkhaa
