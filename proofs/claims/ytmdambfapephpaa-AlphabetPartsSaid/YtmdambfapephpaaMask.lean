/- The contract of Mask: the bits of a set, or the first error of the list. -/
import Derived.Test.YtmdambfapephpaaInts
namespace Go.Proofs.Ytmdambfapephpaa
open Go.RowKit

/-- The bits of a list of numbers, as the machine joins them. -/
def maskZ (zs : List Int) : Int := zs.foldl (fun a x => bits BinOp.or IntKind.u32 a (2 ^ x.toNat % 4294967296)) 0
theorem maskZ_step {zs : List Int} {k : Nat} (h : k < zs.length) : maskZ (zs.take (k + 1)) = bits BinOp.or IntKind.u32 (maskZ (zs.take k)) (2 ^ (zs.getD k 0).toNat % 4294967296) := by
  unfold maskZ
  rw [List.take_succ_eq_append_getElem h, List.foldl_append]
  simp [List.getD, List.getElem?_eq_getElem h]
theorem maskZ_all {zs : List Int} {n : Nat} (h : zs.length = n) : maskZ (zs.take n) = maskZ zs := by rw [List.take_of_length_le (by omega)]
theorem ret_u32ok {a b : Int} (h : a = b) : Ending.returned (.tuple #[.int .u32 a, .int .i64 0]) = .returned (.tuple #[.int .u32 b, .int .i64 0]) := by rw [h]

set_option maxHeartbeats 800000 in
theorem aMask_ok (A : Option Addr) (n c Bx : Nat) (zs : List Int) (w : World) (hx : RdI w Bx A zs) (hn : zs.length = n) (hb : n ≤ 140737488355328) (hcs : csE 32 zs = 0) (hr : ∀ t, t < zs.length → 0 ≤ zs.getD t 0 ∧ zs.getD t 0 < 32) :
    Calls Try.prog 41 #[.slice A n c] w fun e w' => e = .returned (.tuple #[.int .u32 (maskZ zs), .int .i64 0]) ∧ w = w' := by
  have H := Lib.hid (aCheckSet_any A n c Bx zs 32 w hx hn hb)
  have HN := Lib.hid hn
  have HR := Lib.hid hr
  have HC := Lib.hid hcs
  clear hn hr hcs
  go_enter Try.func41, Try.ntmps41
  go_wp2_with (go_at_call 22; refine H.out.mono ?_; rintro e w' ⟨rfl, rfl⟩; rw [HC.out])
  go_loop [5, 15] (fun v i => ∃ k : Nat, k ≤ n ∧ i = .int .i64 k ∧ v = .int .u32 (maskZ (zs.take k))) (fun _ i => n - (intOf i).toNat)
  case atStart => exact ⟨0, Nat.zero_le _, rfl, rfl⟩
  case round =>
    obtain ⟨k, hk, rfl, rfl⟩ := hrel
    by_cases hlt : k < n
    · obtain ⟨b1, o1, rfl, hbB, hc1⟩ := hx (by rw [HN.out]; omega)
      have hz : k < zs.length := by rw [HN.out]; exact hlt
      obtain ⟨x, hxe⟩ : ∃ x, x = zs.getD k 0 := ⟨_, rfl⟩
      have hc : w.cell? ⟨b1, o1 + k, none⟩ = some (.int .i64 x) := by rw [hxe]; exact hc1 k hz
      have hx0 : 0 ≤ x := by rw [hxe]; exact (HR.out k hz).1
      have hx1 : x < 32 := by rw [hxe]; exact (HR.out k hz).2
      have HX := Lib.hid hxe
      obtain ⟨a, ha⟩ : ∃ a, a = maskZ (zs.take k) := ⟨_, rfl⟩
      rw [← ha]
      have HA := Lib.hid ha
      clear hc1 hx hxe ha
      have hS := Lib.hid (maskZ_step hz)
      clear hz
      go_wp2
      go_round
      case rel => exact ⟨k + 1, by omega, by go_num, by rw [hS.out, ← HX.out, ← HA.out]⟩
      case measure => simp [intOf]; omega
    · have hkn : k = n := by omega
      have e := Lib.hid (maskZ_all HN.out)
      subst hkn
      go_wp2
      go_ret2
      exact ⟨ret_u32ok e.out, rfl⟩

theorem aMask_err (A : Option Addr) (n c Bx : Nat) (zs : List Int) (w : World) (hx : RdI w Bx A zs) (hn : zs.length = n) (hb : n ≤ 140737488355328) (hcs : csE 32 zs ≠ 0) :
    Calls Try.prog 41 #[.slice A n c] w fun e w' => e = .returned (.tuple #[.int .u32 0, .int .i64 (csE 32 zs)]) ∧ w = w' := by
  have H := Lib.hid (aCheckSet_any A n c Bx zs 32 w hx hn hb)
  obtain ⟨v, hv⟩ : ∃ v, v = csE 32 zs := ⟨_, rfl⟩
  have hv0 : (v != 0) = true := by rw [hv]; simpa using hcs
  have HV := Lib.hid hv
  rw [← hv]
  clear hn hcs hv
  go_enter Try.func41, Try.ntmps41
  go_wp2_with (go_at_call 22; refine H.out.mono ?_; rintro e w' ⟨rfl, rfl⟩; rw [← HV.out])
  go_ret2
  exact ⟨rfl, rfl⟩
end Go.Proofs.Ytmdambfapephpaa
