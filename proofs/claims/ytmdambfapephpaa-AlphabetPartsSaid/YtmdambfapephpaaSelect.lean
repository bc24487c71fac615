/- The contracts of the tests of kinds and of Select: the events of a kind, or the first error. -/
import Derived.Test.YtmdambfapephpaaWhere
namespace Go.Proofs.Ytmdambfapephpaa
open Go.RowKit Go.WideMaps Go.Maps

theorem k1_any (x : Ev) (w : World) : Calls Try.prog 58 #[evV x] w fun e w' => e = .returned (.bool x.con) ∧ Below w.heap.size w w' := by
  obtain ⟨nm, cn, ob, fr, fl⟩ := x
  unfold evV
  go_enter Try.func58, Try.ntmps58
  go_wp2
  go_ret
  exact ⟨rfl, (Below.refl _ _).alloc (Nat.le_refl _) _⟩
theorem k2_any (x : Ev) (w : World) : Calls Try.prog 59 #[evV x] w fun e w' => e = .returned (.bool !x.con) ∧ Below w.heap.size w w' := by
  obtain ⟨nm, cn, ob, fr, fl⟩ := x
  unfold evV
  go_enter Try.func59, Try.ntmps59
  go_wp2
  go_ret
  exact ⟨rfl, (Below.refl _ _).alloc (Nat.le_refl _) _⟩
theorem k3_any (x : Ev) (w : World) : Calls Try.prog 60 #[evV x] w fun e w' => e = .returned (.bool x.obs) ∧ Below w.heap.size w w' := by
  obtain ⟨nm, cn, ob, fr, fl⟩ := x
  unfold evV
  go_enter Try.func60, Try.ntmps60
  go_wp2
  go_ret
  exact ⟨rfl, (Below.refl _ _).alloc (Nat.le_refl _) _⟩
theorem k4_any (x : Ev) (w : World) : Calls Try.prog 61 #[evV x] w fun e w' => e = .returned (.bool !x.obs) ∧ Below w.heap.size w w' := by
  obtain ⟨nm, cn, ob, fr, fl⟩ := x
  unfold evV
  go_enter Try.func61, Try.ntmps61
  go_wp2
  go_ret
  exact ⟨rfl, (Below.refl _ _).alloc (Nat.le_refl _) _⟩
theorem k5_any (x : Ev) (w : World) : Calls Try.prog 62 #[evV x] w fun e w' => e = .returned (.bool x.frc) ∧ Below w.heap.size w w' := by
  obtain ⟨nm, cn, ob, fr, fl⟩ := x
  unfold evV
  go_enter Try.func62, Try.ntmps62
  go_wp2
  go_ret
  exact ⟨rfl, (Below.refl _ _).alloc (Nat.le_refl _) _⟩
theorem k6_any (x : Ev) (w : World) : Calls Try.prog 63 #[evV x] w fun e w' => e = .returned (.bool (x.fault != 0)) ∧ Below w.heap.size w w' := by
  obtain ⟨nm, cn, ob, fr, fl⟩ := x
  unfold evV
  go_enter Try.func63, Try.ntmps63
  go_wp2
  go_ret
  exact ⟨rfl, (Below.refl _ _).alloc (Nat.le_refl _) _⟩

/-- Is an event of this kind? -/
def kindP (kind : Int) (x : Ev) : Bool :=
  if kind = 1 then x.con else if kind = 2 then !x.con else if kind = 3 then x.obs else if kind = 4 then !x.obs else if kind = 5 then x.frc else x.fault != 0

/-- A function value that tests events, and makes no more than new memory. -/
def Tests (fv : Value) (p : Ev → Bool) : Prop :=
  ∃ F, fv = .func (.func F) #[] #[] ∧ (∀ args W, (callFunc F args).run Try.prog W = .ok (.enter F args) W) ∧ ∀ x W, Calls Try.prog F #[evV x] W fun e w' => e = .returned (.bool (p x)) ∧ Below W.heap.size W w'

theorem kindTest_none (kind : Int) (h : kind < 1 ∨ 6 < kind) (w : World) : Calls Try.prog 52 #[.int .i64 kind] w fun e w' => e = .returned .nilFunc ∧ w = w' := by
  have hmf : ∀ (fn : Fn) (first cap : Array Value) (w : World), (Instr.makeFunc fn first cap).run Try.prog w = .ok (.func fn first cap) w := fun _ _ _ _ => rfl
  have h1 : (kind == 1) = false := by simp; omega
  have h2 : (kind == 2) = false := by simp; omega
  have h3 : (kind == 3) = false := by simp; omega
  have h4 : (kind == 4) = false := by simp; omega
  have h5 : (kind == 5) = false := by simp; omega
  have h6 : (kind == 6) = false := by simp; omega
  clear h
  go_enter Try.func52, Try.ntmps52
  go_wp2
  go_ret
  exact ⟨rfl, rfl⟩
theorem kindTest_some (kind : Int) (h0 : 1 ≤ kind) (h1 : kind ≤ 6) (w : World) : Calls Try.prog 52 #[.int .i64 kind] w fun e w' => (∃ fv, e = .returned fv ∧ Tests fv (kindP kind) ∧ fv ≠ .nilFunc) ∧ w = w' := by
  have hmf : ∀ (fn : Fn) (first cap : Array Value) (w : World), (Instr.makeFunc fn first cap).run Try.prog w = .ok (.func fn first cap) w := fun _ _ _ _ => rfl
  obtain rfl | rfl | rfl | rfl | rfl | rfl : kind = 1 ∨ kind = 2 ∨ kind = 3 ∨ kind = 4 ∨ kind = 5 ∨ kind = 6 := by omega
  · go_enter Try.func52, Try.ntmps52
    go_wp2
    go_ret
    exact ⟨⟨_, rfl, ⟨58, rfl, fun args W => by go_simp, k1_any⟩, by simp⟩, rfl⟩
  · go_enter Try.func52, Try.ntmps52
    go_wp2
    go_ret
    exact ⟨⟨_, rfl, ⟨59, rfl, fun args W => by go_simp, k2_any⟩, by simp⟩, rfl⟩
  · go_enter Try.func52, Try.ntmps52
    go_wp2
    go_ret
    exact ⟨⟨_, rfl, ⟨60, rfl, fun args W => by go_simp, k3_any⟩, by simp⟩, rfl⟩
  · go_enter Try.func52, Try.ntmps52
    go_wp2
    go_ret
    exact ⟨⟨_, rfl, ⟨61, rfl, fun args W => by go_simp, k4_any⟩, by simp⟩, rfl⟩
  · go_enter Try.func52, Try.ntmps52
    go_wp2
    go_ret
    exact ⟨⟨_, rfl, ⟨62, rfl, fun args W => by go_simp, k5_any⟩, by simp⟩, rfl⟩
  · go_enter Try.func52, Try.ntmps52
    go_wp2
    go_ret
    exact ⟨⟨_, rfl, ⟨63, rfl, fun args W => by go_simp, k6_any⟩, by simp⟩, rfl⟩

/-- What a function hands back that makes a list of ints in new memory, and an error. -/
def Gives2 (w : World) (zs : List Int) (err : Int) (e : Ending) (w' : World) : Prop := ∃ A c, e = .returned (.tuple #[.slice A zs.length c, .int .i64 err]) ∧ RdI w' w'.heap.size A zs ∧ Below w.heap.size w w'
/-- The events of a kind, and the first error. -/
def selZ (l : List Ev) (kind : Int) : List Int := if chE l ≠ 0 then [] else if kind < 1 ∨ 6 < kind then [] else wh (kindP kind) l
def selE (l : List Ev) (kind : Int) : Int := if chE l ≠ 0 then chE l else if kind < 1 ∨ 6 < kind then 11 else 0

theorem eqNil_yes (W : World) : (binOp .eql 65 .nilFunc .nilFunc).run Try.prog W = .ok (.bool true) W := by kernel_rfl
theorem eqNil_no (F : FuncId) (W : World) : (binOp .eql 65 (.func (.func F) #[] #[]) .nilFunc).run Try.prog W = .ok (.bool false) W := by kernel_rfl

set_option maxHeartbeats 800000 in
theorem aSelect_any (A : Option Addr) (n c : Nat) (l : List Ev) (kind : Int) (w : World) (hx : RdE w w.heap.size A l) (hn : l.length = n) (hb : n * 40 ≤ 140737488351232) (hs : ∀ x ∈ l, x.name.size ≤ maxLen) :
    Calls Try.prog 35 #[.slice A n c, .int .i64 kind] w fun e w' => Gives2 w (selZ l kind) (selE l kind) e w' := by
  have HC := Lib.hid (aCheck_any A n c l w hx hn hb hs)
  obtain ⟨v, hv⟩ : ∃ v, v = chE l := ⟨_, rfl⟩
  rw [← hv] at HC
  by_cases h0 : v = 0
  · by_cases hk : kind < 1 ∨ 6 < kind
    · have HK := Lib.hid (kindTest_none kind hk)
      have H1 := Lib.hid (show selZ l kind = [] ∧ selE l kind = 11 from ⟨by rw [selZ, ← hv, if_neg (by simp [h0]), if_pos hk], by rw [selE, ← hv, if_neg (by simp [h0]), if_pos hk]⟩)
      rw [H1.out.1, H1.out.2]
      subst h0
      clear hv hn hs hk H1
      have hq := eqNil_yes
      go_enter Try.func35, Try.ntmps35
      go_wp2_with (first | (go_at_call 16; refine HC.out.mono ?_; rintro e w1 ⟨rfl, hbel⟩) | (go_at_call 52; refine (HK.out _).mono ?_; rintro e w2 ⟨rfl, rfl⟩))
      go_ret2
      exact ⟨none, 0, rfl, RdI.nil _ _ _, hbel⟩
    · have HK := Lib.hid (kindTest_some kind (by omega) (by omega))
      have H1 := Lib.hid (show selZ l kind = wh (kindP kind) l ∧ selE l kind = 0 from ⟨by rw [selZ, ← hv, if_neg (by simp [h0]), if_neg hk], by rw [selE, ← hv, if_neg (by simp [h0]), if_neg hk]⟩)
      rw [H1.out.1, H1.out.2]
      subst h0
      have HW := Lib.hid (fun (F : FuncId) hcf (hF : ∀ x W, Calls Try.prog F #[evV x] W fun e w' => e = .returned (.bool (kindP kind x)) ∧ Below W.heap.size W w') w1 (h1 : RdE w1 w1.heap.size A l) =>
        where_any F #[] (kindP kind) (fun _ => True) A n c l w1 h1 hn hb trivial (fun _ _ _ _ => trivial) hcf (fun x W _ => by rw [show (#[evV x] ++ (#[] : Array Value)) = #[evV x] from rfl]; exact hF x W))
      have HX := Lib.hid hx
      clear hv hn hs hk H1 hx
      go_enter Try.func35, Try.ntmps35
      go_wp2_with (first
        | (go_at_call 16; refine HC.out.mono ?_; rintro e w1 ⟨rfl, hbel⟩)
        | (go_at_call 52; refine (HK.out _).mono ?_; rintro e w2 ⟨⟨fv, rfl, ⟨F, rfl, hcf0, hF0⟩, _⟩, rfl⟩; have HT := Lib.hid (And.intro hcf0 hF0); clear hcf0 hF0; have hq := eqNil_no F)
        | (go_at_call 53; refine (HW.out F HT.out.1 HT.out.2 _ ((HX.out.below hbel (Nat.le_refl _)).more hbel.size)).mono ?_; rintro e w3 ⟨A', c', rfl, hrd, hbel3⟩))
      go_ret2
      exact ⟨A', c', rfl, hrd, hbel.trans (hbel3.mono hbel.size)⟩
  · have H1 := Lib.hid (show selZ l kind = [] ∧ selE l kind = v from ⟨by rw [selZ, ← hv, if_pos h0], by rw [selE, ← hv, if_pos h0]⟩)
    rw [H1.out.1, H1.out.2]
    have hv0 : (v != 0) = true := by simpa using h0
    clear hv hn hs h0 H1
    go_enter Try.func35, Try.ntmps35
    go_wp2_with (go_at_call 16; refine HC.out.mono ?_; rintro e w1 ⟨rfl, hbel⟩)
    go_ret2
    exact ⟨none, 0, rfl, RdI.nil _ _ _, hbel⟩
end Go.Proofs.Ytmdambfapephpaa
