/- A slice of ints as it is read; CheckSet answers the first error of a list. -/
import Derived.Test.YtdccmebkoibkhaaNames
import Derived.Deep.QuietTactic
import Derived.BigQuiet
namespace Go.Proofs.Ytdccmebkoibkhaa
open Go.RowKit

/-- A slice's address leads, below block B, to cells that hold these ints (asked only where there are any). -/
def RdI (w : World) (B : Nat) (A : Option Addr) (zs : List Int) : Prop :=
  0 < zs.length → ∃ b off, A = some ⟨b, off, none⟩ ∧ b < B ∧ ∀ j, j < zs.length → w.cell? ⟨b, off + j, none⟩ = some (.int .i64 (zs.getD j 0))

theorem RdI.keep {w w' : World} {B : Nat} {A : Option Addr} {zs : List Int} (h : RdI w B A zs) (hk : ∀ b o, b < B → w'.cell? ⟨b, o, none⟩ = w.cell? ⟨b, o, none⟩) : RdI w' B A zs := fun h0 => by
  obtain ⟨b, off, e, hb, hc⟩ := h h0
  exact ⟨b, off, e, hb, fun j hj => (hk b _ hb).trans (hc j hj)⟩
theorem RdI.more {w : World} {B B' : Nat} {A : Option Addr} {zs : List Int} (h : RdI w B A zs) (hB : B ≤ B') : RdI w B' A zs := fun h0 => by
  obtain ⟨b, off, e, hb, hc⟩ := h h0
  exact ⟨b, off, e, by omega, hc⟩
theorem RdI.below {w w' : World} {B B' : Nat} {A : Option Addr} {zs : List Int} (h : RdI w B A zs) (hb : Below B' w w') (hB : B ≤ B') : RdI w' B A zs :=
  h.keep fun _ _ hlt => hb.cell (by exact Nat.lt_of_lt_of_le hlt hB)
theorem RdI.nil (w : World) (B : Nat) (A : Option Addr) : RdI w B A [] := fun h => absurd h (by simp)

theorem below_drewN {B : Nat} {a w : World} (h : Below B a w) (n : Nat) : Below B a (w.drewN n) := ⟨h.os, h.tape, h.output, h.size, h.block⟩
theorem below_of_draws {w w' : World} {B : Nat} (h : ∃ q, w' = w.drewN q) : Below B w w' := by
  obtain ⟨q, rfl⟩ := h
  exact below_drewN (Below.refl _ _) q

theorem dr_add (w : World) (q n : Nat) : ∃ r, (w.drewN q).drewN n = w.drewN r := ⟨q + n, by rw [World.drewN_drewN]⟩
theorem eq_take_step {xs ys : List Int} {k : Nat} (hx : k < xs.length) (hy : k < ys.length) (h : xs.take k = ys.take k) (he : xs.getD k 0 = ys.getD k 0) : xs.take (k + 1) = ys.take (k + 1) := by
  rw [List.take_succ_eq_append_getElem hx, List.take_succ_eq_append_getElem hy, h]
  simp [List.getD, List.getElem?_eq_getElem hx, List.getElem?_eq_getElem hy] at he
  rw [he]
theorem ne_of_getD {xs ys : List Int} {k : Nat} (he : ¬ xs.getD k 0 = ys.getD k 0) : decide (xs = ys) = false := by
  simp only [decide_eq_false_iff_not]; rintro rfl; exact he rfl
theorem eq_of_take {xs ys : List Int} (hl : ys.length = xs.length) (h : xs.take xs.length = ys.take xs.length) : decide (xs = ys) = true := by
  rw [List.take_of_length_le (Nat.le_refl _), List.take_of_length_le (by omega)] at h
  simpa using h

/-- The first error of a list as a set of numbers below n: 2 out of range, 5 not increasing, 0 none. -/
def ordB : Option Int → Int → Bool
  | some y, x => decide (x ≤ y)
  | none, _ => false
def csGo (n : Int) : Option Int → List Int → Int
  | _, [] => 0
  | p, x :: r => if x < 0 ∨ n ≤ x then 2 else if ordB p x = true then 5 else csGo n (some x) r
def csE (n : Int) (zs : List Int) : Int := csGo n none zs
def prev (zs : List Int) (k : Nat) : Option Int := if k = 0 then none else some (zs.getD (k - 1) 0)
theorem prev_succ (zs : List Int) (k : Nat) : prev zs (k + 1) = some (zs.getD k 0) := by simp [prev]
theorem drop_step (zs : List Int) (k : Nat) (h : k < zs.length) : zs.drop k = zs.getD k 0 :: zs.drop (k + 1) := by
  rw [List.drop_eq_getElem_cons h]; simp [List.getD, List.getElem?_eq_getElem h]
theorem cs_range {n : Int} {zs : List Int} {k : Nat} (h : k < zs.length) {v : Int} (hv : csGo n (prev zs k) (zs.drop k) = v) (hx : zs.getD k 0 < 0 ∨ n ≤ zs.getD k 0) : v = 2 := by
  rw [← hv, drop_step zs k h, csGo, if_pos hx]
theorem cs_order {n : Int} {zs : List Int} {k : Nat} (h : k < zs.length) {v : Int} (hv : csGo n (prev zs k) (zs.drop k) = v) (h0 : 0 ≤ zs.getD k 0) (h1 : zs.getD k 0 < n) (hk : 0 < k) (hx : zs.getD k 0 ≤ zs.getD (k - 1) 0) : v = 5 := by
  rw [← hv, drop_step zs k h, csGo, if_neg (by omega)]
  simp only [prev, Nat.ne_of_gt hk, if_false, ordB]
  rw [if_pos (by simpa using hx)]
theorem cs_next {n : Int} {zs : List Int} {k : Nat} (h : k < zs.length) {v : Int} (hv : csGo n (prev zs k) (zs.drop k) = v) (h0 : 0 ≤ zs.getD k 0) (h1 : zs.getD k 0 < n) (hx : 0 < k → zs.getD (k - 1) 0 < zs.getD k 0) : csGo n (prev zs (k + 1)) (zs.drop (k + 1)) = v := by
  rw [← hv, drop_step zs k h, csGo, if_neg (by omega), prev_succ]
  rcases Nat.eq_zero_or_pos k with rfl | hk
  · simp [prev, ordB]
  · have := hx hk
    simp only [prev, Nat.ne_of_gt hk, if_false, ordB]
    rw [if_neg (by simp only [decide_eq_true_eq]; omega)]
theorem cs_end {n : Int} {zs : List Int} {v : Int} (hv : csGo n (prev zs zs.length) (zs.drop zs.length) = v) : v = 0 := by
  rw [← hv, List.drop_of_length_le (Nat.le_refl _), csGo]
theorem ret_int {k : IntKind} {a b : Int} (h : a = b) : Ending.returned (.int k a) = .returned (.int k b) := by rw [h]

set_option maxHeartbeats 400000 in
theorem aCheckSet_any (A : Option Addr) (n c Bx : Nat) (zs : List Int) (m : Int) (w : World) (hx : RdI w Bx A zs) (hn : zs.length = n) (hb : n ≤ 140737488355328) :
    Calls Try.prog 63 #[.slice A n c, .int .i64 m] w fun e w' => e = .returned (.int .i64 (csE m zs)) ∧ w = w' := by
  have HN := Lib.hid hn
  clear hn
  obtain ⟨v, hv⟩ : ∃ v, v = csE m zs := ⟨_, rfl⟩
  rw [← hv]
  have HV := Lib.hid hv
  clear hv
  go_enter Try.func63, Try.ntmps63
  go_wp2
  go_loop [9] (fun i => ∃ k : Nat, k ≤ n ∧ i = .int .i64 k ∧ Hid (csGo m (prev zs k) (zs.drop k) = v)) (fun i => n - (intOf i).toNat)
  case atStart => exact ⟨0, Nat.zero_le _, rfl, HV.out.symm⟩
  case round =>
    obtain ⟨k, hk, rfl, ht⟩ := hrel
    by_cases hlt : k < n
    · obtain ⟨b1, o1, rfl, _, hc1⟩ := hx (by rw [HN.out]; omega)
      have hz : k < zs.length := by rw [HN.out]; exact hlt
      have h1 := hc1 k hz
      obtain ⟨x, hxe⟩ : ∃ x, x = zs.getD k 0 := ⟨_, rfl⟩
      rw [← hxe] at h1
      by_cases hx0 : x < 0 ∨ m ≤ x
      · have hr := Lib.hid (cs_range hz ht.out (by rw [← hxe]; exact hx0))
        clear ht hxe hc1 hx hz
        by_cases hx1 : x < 0
        · go_wp2
          go_ret
          exact ⟨ret_int hr.out.symm, rfl⟩
        · have hx2 : m ≤ x := by omega
          clear hx0
          go_wp2
          go_ret
          exact ⟨ret_int hr.out.symm, rfl⟩
      · have hx1 : 0 ≤ x := by omega
        have hx2 : x < m := by omega
        clear hx0
        rcases Nat.eq_zero_or_pos k with rfl | hk0
        · have hr := Lib.hid (cs_next hz ht.out (by rw [← hxe]; exact hx1) (by rw [← hxe]; exact hx2) (fun h => absurd h (by omega)))
          clear ht hxe hc1 hx hz
          rw [Nat.add_zero] at h1
          go_wp2
          go_round
          case rel => exact ⟨1, by omega, by go_num, hr⟩
          case measure => simp [intOf]; omega
        · have h2 := hc1 (k - 1) (by omega)
          obtain ⟨y, hye⟩ : ∃ y, y = zs.getD (k - 1) 0 := ⟨_, rfl⟩
          rw [← hye] at h2
          by_cases hxy : x ≤ y
          · have hr := Lib.hid (cs_order hz ht.out (by rw [← hxe]; exact hx1) (by rw [← hxe]; exact hx2) hk0 (by rw [← hxe, ← hye]; exact hxy))
            clear ht hxe hye hc1 hx hz
            go_wp2
            go_ret
            exact ⟨ret_int hr.out.symm, rfl⟩
          · have hr := Lib.hid (cs_next hz ht.out (by rw [← hxe]; exact hx1) (by rw [← hxe]; exact hx2) (fun _ => by rw [← hxe, ← hye]; omega))
            clear ht hxe hye hc1 hx hz
            go_wp2
            go_round
            case rel => exact ⟨k + 1, by omega, by go_num, hr⟩
            case measure => simp [intOf]; omega
    · have hkn : k = zs.length := by rw [HN.out]; omega
      rw [hkn] at ht
      have hr := Lib.hid (cs_end ht.out)
      clear hkn ht
      go_wp2
      go_ret
      exact ⟨ret_int hr.out.symm, rfl⟩
end Go.Proofs.Ytdccmebkoibkhaa
