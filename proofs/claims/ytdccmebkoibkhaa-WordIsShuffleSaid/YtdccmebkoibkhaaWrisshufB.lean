/- The contract of the reference's IsShuffle, whole. -/
import Derived.Test.YtdccmebkoibkhaaWrisshuf
namespace Go.Proofs.Ytdccmebkoibkhaa
open Go.RowKit
attribute [local go_sem ↓] Go.wp_at_zero Go.wp_at_succ
set_option linter.unusedVariables false

set_option maxHeartbeats 800000 in
theorem ris_len (A0 A1 A3 : Option Addr) (n0 n1 n3 c0 c1 c3 : Nat) (w : World) (h : n0 ≠ n1 + n3) (b1 : n1 ≤ 1000) (b3 : n3 ≤ 1000) : Calls Try.prog 34 #[.slice A0 n0 c0, .slice A1 n1 c1, .slice A3 n3 c3] w (IsAns false w) := by
  have e : ((n0 : Int) != (n1 : Int) + (n3 : Int)) = true := by simp; omega
  go_enter Try.func34, Try.ntmps34
  go_wp2_with fail
  go_ret
  exact ⟨rfl, 0, rfl⟩
set_option maxHeartbeats 800000 in
theorem ris_nil (A0 A1 A3 : Option Addr) (c0 c1 c3 : Nat) (w : World) : Calls Try.prog 34 #[.slice A0 0 c0, .slice A1 0 c1, .slice A3 0 c3] w (IsAns true w) := by
  go_enter Try.func34, Try.ntmps34
  go_wp2_with fail
  go_ret
  exact ⟨rfl, 0, rfl⟩
theorem drop_w {w W : World} {v : Value} {l : List Int} (h : ∃ q, W = w.drewN q) (hs : Sl W w.heap.size v l) : Sl W W.heap.size v l := by
  obtain ⟨q, rfl⟩ := h
  exact hs
theorem ris_eq : ∀ (ws a b : List Int) (vw va vb : Value) (w : World), Sl w w.heap.size vw ws → Sl w w.heap.size va a → Sl w w.heap.size vb b → ws.length = a.length + b.length → ws.length ≤ 1000 →
    Calls Try.prog 34 #[vw, va, vb] w (IsAns (isSh ws a b) w) := by
  intro ws
  induction ws with
  | nil =>
    intro a b vw va vb w hw ha hb hl _
    simp at hl
    obtain ⟨rfl, rfl⟩ : a = [] ∧ b = [] := by
      constructor <;> apply List.eq_nil_of_length_eq_zero <;> omega
    obtain ⟨A0, c0, rfl, _⟩ := sl_nil hw
    obtain ⟨A1, c1, rfl, _⟩ := sl_nil ha
    obtain ⟨A3, c3, rfl, _⟩ := sl_nil hb
    exact ris_nil A0 A1 A3 c0 c1 c3 w
  | cons x ws ih =>
    intro a b vw va vb w hw ha hb hl hm
    simp only [List.length_cons] at hl hm
    obtain ⟨b0, o0, n0, c0, rfl, r0, e0, k0, t0⟩ := sl_cons hw
    have hrec : ∀ a' b', ws.length = a'.length + b'.length → ∀ v0 v1 v3 W, (∃ q, W = w.drewN q) → Sl W w.heap.size v0 ws → Sl W w.heap.size v1 a' → Sl W w.heap.size v3 b' → Calls Try.prog 34 #[v0, v1, v3] W (IsAns (isSh ws a' b') W) :=
      fun a' b' hl' v0 v1 v3 W hW h0 h1 h3 => ih a' b' v0 v1 v3 W (drop_w hW h0) (drop_w hW h1) (drop_w hW h3) hl' (by omega)
    have e0' : n0 = ws.length + 1 := by rw [e0]; rfl
    match a, b with
    | [], [] => simp at hl
    | [], z :: b =>
      obtain ⟨A1, c1, rfl, t1⟩ := sl_nil ha
      obtain ⟨b3, o3, n3, c3, rfl, r3, e3, k3, t3⟩ := sl_cons hb
      have e3' : n3 = b.length + 1 := by rw [e3]; rfl
      simp at hl
      by_cases hz : x = z
      · have R := hrec [] b (by simp; omega)
        have hv : isSh (x :: ws) [] (z :: b) = isSh ws [] b := by simp [isSh, hdIs, hz]
        rw [hv]
        cases hr : isSh ws [] b with
        | false => rw [hr] at R; exact ris_E_F w b0 o0 n0 c0 x ws r0 e0 k0 t0 A1 c1 t1 b3 o3 n3 c3 z b r3 e3 k3 t3 hz (by omega) (by omega) R
        | true => rw [hr] at R; exact ris_E_T w b0 o0 n0 c0 x ws r0 e0 k0 t0 A1 c1 t1 b3 o3 n3 c3 z b r3 e3 k3 t3 hz (by omega) (by omega) R
      · have hv : isSh (x :: ws) [] (z :: b) = false := by simp [isSh, hdIs, Ne.symm hz]
        rw [hv]
        exact ris_E_N w b0 o0 n0 c0 x ws r0 e0 k0 t0 A1 c1 t1 b3 o3 n3 c3 z b r3 e3 k3 t3 hz (by omega) (by omega)
    | y :: a, [] =>
      obtain ⟨b1, o1, n1, c1, rfl, r1, e1, k1, t1⟩ := sl_cons ha
      obtain ⟨A3, c3, rfl, t3⟩ := sl_nil hb
      have e1' : n1 = a.length + 1 := by rw [e1]; rfl
      simp at hl
      by_cases hy : x = y
      · have R := hrec a [] (by simp; omega)
        have hv : isSh (x :: ws) (y :: a) [] = isSh ws a [] := by simp [isSh, hdIs, hy]
        rw [hv]
        cases hr : isSh ws a [] with
        | false => rw [hr] at R; exact ris_F_E w b0 o0 n0 c0 x ws r0 e0 k0 t0 b1 o1 n1 c1 y a r1 e1 k1 t1 A3 c3 t3 hy (by omega) (by omega) R
        | true => rw [hr] at R; exact ris_T_E w b0 o0 n0 c0 x ws r0 e0 k0 t0 b1 o1 n1 c1 y a r1 e1 k1 t1 A3 c3 t3 hy (by omega) (by omega) R
      · have hv : isSh (x :: ws) (y :: a) [] = false := by simp [isSh, hdIs, Ne.symm hy]
        rw [hv]
        exact ris_N_E w b0 o0 n0 c0 x ws r0 e0 k0 t0 b1 o1 n1 c1 y a r1 e1 k1 t1 A3 c3 t3 hy (by omega) (by omega)
    | y :: a, z :: b =>
      obtain ⟨b1, o1, n1, c1, rfl, r1, e1, k1, t1⟩ := sl_cons ha
      obtain ⟨b3, o3, n3, c3, rfl, r3, e3, k3, t3⟩ := sl_cons hb
      have e1' : n1 = a.length + 1 := by rw [e1]; rfl
      have e3' : n3 = b.length + 1 := by rw [e3]; rfl
      simp at hl
      have RA := hrec a (z :: b) (by simp; omega)
      have RB := hrec (y :: a) b (by simp; omega)
      by_cases hy : x = y <;> by_cases hz : x = z
      · have hv : isSh (x :: ws) (y :: a) (z :: b) = (isSh ws a (z :: b) || isSh ws (y :: a) b) := by rw [← hy, ← hz]; simp [isSh, hdIs]
        rw [hv]
        cases hr : isSh ws a (z :: b) with
        | true => rw [hr] at RA; exact ris_T_G w b0 o0 n0 c0 x ws r0 e0 k0 t0 b1 o1 n1 c1 y a r1 e1 k1 t1 b3 o3 n3 c3 z b r3 e3 k3 t3 hy (by omega) (by omega) RA
        | false =>
          rw [hr] at RA
          cases hs : isSh ws (y :: a) b with
          | true => rw [hs] at RB; exact ris_F_T w b0 o0 n0 c0 x ws r0 e0 k0 t0 b1 o1 n1 c1 y a r1 e1 k1 t1 b3 o3 n3 c3 z b r3 e3 k3 t3 hy hz (by omega) (by omega) RA RB
          | false => rw [hs] at RB; exact ris_F_F w b0 o0 n0 c0 x ws r0 e0 k0 t0 b1 o1 n1 c1 y a r1 e1 k1 t1 b3 o3 n3 c3 z b r3 e3 k3 t3 hy hz (by omega) (by omega) RA RB
      · have hv : isSh (x :: ws) (y :: a) (z :: b) = isSh ws a (z :: b) := by rw [← hy]; simp [isSh, hdIs, Ne.symm hz]
        rw [hv]
        cases hr : isSh ws a (z :: b) with
        | true => rw [hr] at RA; exact ris_T_G w b0 o0 n0 c0 x ws r0 e0 k0 t0 b1 o1 n1 c1 y a r1 e1 k1 t1 b3 o3 n3 c3 z b r3 e3 k3 t3 hy (by omega) (by omega) RA
        | false => rw [hr] at RA; exact ris_F_N w b0 o0 n0 c0 x ws r0 e0 k0 t0 b1 o1 n1 c1 y a r1 e1 k1 t1 b3 o3 n3 c3 z b r3 e3 k3 t3 hy hz (by omega) (by omega) RA
      · have hv : isSh (x :: ws) (y :: a) (z :: b) = isSh ws (y :: a) b := by rw [← hz]; simp [isSh, hdIs, Ne.symm hy]
        rw [hv]
        cases hs : isSh ws (y :: a) b with
        | true => rw [hs] at RB; exact ris_N_T w b0 o0 n0 c0 x ws r0 e0 k0 t0 b1 o1 n1 c1 y a r1 e1 k1 t1 b3 o3 n3 c3 z b r3 e3 k3 t3 hy hz (by omega) (by omega) RB
        | false => rw [hs] at RB; exact ris_N_F w b0 o0 n0 c0 x ws r0 e0 k0 t0 b1 o1 n1 c1 y a r1 e1 k1 t1 b3 o3 n3 c3 z b r3 e3 k3 t3 hy hz (by omega) (by omega) RB
      · have hv : isSh (x :: ws) (y :: a) (z :: b) = false := by simp [isSh, hdIs, Ne.symm hy, Ne.symm hz]
        rw [hv]
        exact ris_N_N w b0 o0 n0 c0 x ws r0 e0 k0 t0 b1 o1 n1 c1 y a r1 e1 k1 t1 b3 o3 n3 c3 z b r3 e3 k3 t3 hy hz (by omega) (by omega)
/-- The reference's IsShuffle over any words of at most so many events. -/
theorem r2IsShuffle_any (A0 A1 A3 : Option Addr) (n0 n1 n3 c0 c1 c3 : Nat) (ws a b : List Int) (w : World) (hw : RdI w w.heap.size A0 ws) (ha : RdI w w.heap.size A1 a) (hb : RdI w w.heap.size A3 b) (l0 : ws.length = n0) (l1 : a.length = n1) (l3 : b.length = n3)
    (k0 : n0 ≤ c0) (t0 : c0 ≤ 9223372036854775807) (k1 : n1 ≤ c1) (t1 : c1 ≤ 9223372036854775807) (k3 : n3 ≤ c3) (t3 : c3 ≤ 9223372036854775807) (m0 : n0 ≤ 1000) (m1 : n1 ≤ 1000) (m3 : n3 ≤ 1000) :
    Calls Try.prog 34 #[.slice A0 n0 c0, .slice A1 n1 c1, .slice A3 n3 c3] w (IsAns (isSh ws a b) w) := by
  subst l0 l1 l3
  by_cases h : ws.length = a.length + b.length
  · exact ris_eq ws a b _ _ _ w ⟨A0, c0, rfl, hw, k0, t0⟩ ⟨A1, c1, rfl, ha, k1, t1⟩ ⟨A3, c3, rfl, hb, k3, t3⟩ h m0
  · rw [isSh_no h]; exact ris_len A0 A1 A3 _ _ _ c0 c1 c3 w h m1 m3
end Go.Proofs.Ytdccmebkoibkhaa
