/- Layer 3: few of the law's package. -/
import Derived.Test.YtcciiikaejjooaaaOpen
import Derived.Test.YtcciiikaejjooaaaSame
namespace Go.Proofs.Ytcciiikaejjooaa
open Go.RowKit Go.Sort

def fewB (n m k : Nat) : Bool := decide (n ≤ 12) && (decide (m ≤ 12) && decide (k ≤ 12))
theorem few_yes {n m k : Nat} (h : fewB n m k = true) : n ≤ 12 ∧ m ≤ 12 ∧ k ≤ 12 := by simpa [fewB] using h
set_option maxHeartbeats 800000 in
theorem few_any (A : Option Addr) (n c : Nat) (s : Int) (M : Option Addr) (m d : Nat) (E : Option Addr) (k g : Nat) (w : World) : Calls Try.prog 14 #[.agg #[.slice A n c, .int .i64 s, .slice M m d, .slice E k g]] w fun e w' => e = .returned (.bool (fewB n m k)) ∧ Below w.heap.size w w' := by
  obtain ⟨v, hv⟩ : ∃ v, v = fewB n m k := ⟨_, rfl⟩
  have HV := Lib.hid hv
  rw [← hv]
  clear hv
  by_cases h1 : n ≤ 12
  · by_cases h2 : m ≤ 12
    · by_cases h3 : k ≤ 12
      · have hf := Lib.hid (show v = true by rw [HV.out]; simp [fewB, h1, h2, h3])
        go_enter Try.func14, Try.ntmps14
        go_wp2
        go_ret
        exact ⟨ret_bool (by first | exact hf.out.symm | (rw [hf.out]; simp; omega) | (rw [hf.out]; simp)), (Below.refl _ _).alloc (Nat.le_refl _) _⟩
      · have hf := Lib.hid (show v = false by rw [HV.out]; simp [fewB, h3])
        go_enter Try.func14, Try.ntmps14
        go_wp2
        go_ret
        exact ⟨ret_bool (by first | exact hf.out.symm | (rw [hf.out]; simp; omega) | (rw [hf.out]; simp)), (Below.refl _ _).alloc (Nat.le_refl _) _⟩
    · have hf := Lib.hid (show v = false by rw [HV.out]; simp [fewB, h2])
      go_enter Try.func14, Try.ntmps14
      go_wp2
      go_ret
      exact ⟨ret_bool (by first | exact hf.out.symm | (rw [hf.out]; simp; omega) | (rw [hf.out]; simp)), (Below.refl _ _).alloc (Nat.le_refl _) _⟩
  · have hf := Lib.hid (show v = false by rw [HV.out]; simp [fewB, h1])
    go_enter Try.func14, Try.ntmps14
    go_wp2
    go_ret
    exact ⟨ret_bool (by first | exact hf.out.symm | (rw [hf.out]; simp; omega) | (rw [hf.out]; simp)), (Below.refl _ _).alloc (Nat.le_refl _) _⟩
end Go.Proofs.Ytcciiikaejjooaa
