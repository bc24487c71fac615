/- The bits of a number, taken by trailing zeros, are the bits taken one after the other. -/
import Derived.Test.YtmdambfapephpaaDoorCombB
import Derived.Lib.TrailingZeros
import Derived.Laws.BitsAllLaws
namespace Go.Proofs.YtmdambfapephpaaDoor
open Go.RowKit

theorem land_even (k : Nat) (hk : 0 < k) : (2 * k) &&& (2 * k - 1) = 2 * (k &&& (k - 1)) := by
  have h1 : (2 * k &&& (2 * k - 1)) / 2 = k &&& (k - 1) := by
    rw [Nat.and_div_two, show 2 * k / 2 = k from by omega, show (2 * k - 1) / 2 = k - 1 from by omega]
  have h2 : (2 * k &&& (2 * k - 1)) % 2 = 0 := by
    have : ¬ (2 * k &&& (2 * k - 1)) % 2 = 1 := by
      rw [Nat.and_mod_two_eq_one]; omega
    omega
  omega
theorem land_odd (k : Nat) : (2 * k + 1) &&& (2 * k + 1 - 1) = 2 * k := by
  have h1 : ((2 * k + 1) &&& (2 * k + 1 - 1)) / 2 = k := by
    rw [Nat.and_div_two, show (2 * k + 1) / 2 = k from by omega, show (2 * k + 1 - 1) / 2 = k from by omega, Nat.and_self]
  have h2 : ((2 * k + 1) &&& (2 * k + 1 - 1)) % 2 = 0 := by
    have : ¬ ((2 * k + 1) &&& (2 * k + 1 - 1)) % 2 = 1 := by
      rw [Nat.and_mod_two_eq_one]; omega
    omega
  omega
theorem bf_even (f : Nat) (i : Int) (k : Nat) : bf (f + 1) i ((2 * k : Nat) : Int) = bf f (i + 1) (k : Int) := by
  rw [bf, if_neg (by omega), show (((2 * k : Nat) : Int) / 2) = (k : Int) from by omega]
theorem bf_odd (f : Nat) (i : Int) (k : Nat) : bf (f + 1) i ((2 * k + 1 : Nat) : Int) = i :: bf f (i + 1) (k : Int) := by
  rw [bf, if_pos (by omega), show (((2 * k + 1 : Nat) : Int) / 2) = (k : Int) from by omega]
theorem bf_ctz : ∀ (f : Nat) (i : Int) (m : Nat), 0 < m → m < 2 ^ f → bf f i (m : Int) = (i + (Lib.ctzFrom f m : Nat)) :: bf f i ((m &&& (m - 1) : Nat) : Int)
  | 0, i, m, h0, h1 => by simp at h1; omega
  | f + 1, i, m, h0, h1 => by
    obtain ⟨k, rfl | rfl⟩ : ∃ k, m = 2 * k ∨ m = 2 * k + 1 := ⟨m / 2, by omega⟩
    · have hk : 0 < k := by omega
      rw [land_even k hk, bf_even, bf_even, bf_ctz f (i + 1) k hk (by rw [Nat.pow_succ] at h1; omega)]
      rw [Lib.ctzFrom, if_neg (by omega), show 2 * k / 2 = k from by omega]
      congr 1; omega
    · rw [land_odd, bf_odd, bf_even]
      rw [Lib.ctzFrom, if_pos (by omega)]
      simp
end Go.Proofs.YtmdambfapephpaaDoor
