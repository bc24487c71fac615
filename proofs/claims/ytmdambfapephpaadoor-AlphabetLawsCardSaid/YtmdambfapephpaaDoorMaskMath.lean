/- Masks and sets: each reverses the other one. -/
import Derived.Test.YtmdambfapephpaaDoorSetW
import Derived.Test.YtmdambfapephpaaDoorMask
namespace Go.Proofs.YtmdambfapephpaaDoor
open Go.RowKit

theorem or_pow (a i : Nat) (h : a < 2 ^ i) : a ||| 2 ^ i = a + 2 ^ i := by
  have := Nat.two_pow_add_eq_or_of_lt h 1
  rw [Nat.mul_one] at this
  rw [Nat.or_comm, ← this, Nat.add_comm]
theorem bits_or_u32_nat (a b : Nat) (ha : a < 4294967296) (hb : b < 4294967296) : bits .or .u32 (a : Int) (b : Int) = ((a ||| b : Nat) : Int) := by
  have hx : a ||| b < 2 ^ 32 := Nat.or_lt_two_pow (by omega) (by omega)
  have h1 : (BitVec.ofInt 32 (a : Int)).toNat = a := by
    rw [BitVec.ofInt_natCast, BitVec.toNat_ofNat]; exact Nat.mod_eq_of_lt (by omega)
  have h2 : (BitVec.ofInt 32 (b : Int)).toNat = b := by
    rw [BitVec.ofInt_natCast, BitVec.toNat_ofNat]; exact Nat.mod_eq_of_lt (by omega)
  show IntKind.u32.wrap ((BitVec.ofInt 32 (a : Int) ||| BitVec.ofInt 32 (b : Int)).toNat : Int) = _
  rw [BitVec.toNat_or, h1, h2, wrap_u32']
  omega
def mstep (a : Int) (x : Int) : Int := bits BinOp.or IntKind.u32 a (2 ^ x.toNat % 4294967296)
theorem maskZ_eq (zs : List Int) : maskZ zs = zs.foldl mstep 0 := rfl
theorem pow_lt32 (i : Nat) (h : i < 32) : 2 ^ i < 4294967296 := by
  have : 2 ^ i < 2 ^ 32 := Nat.pow_lt_pow_right (by omega) h
  omega
theorem mstep_pow (a i : Nat) (h : a < 2 ^ i) (hi : i < 32) : mstep (a : Int) (i : Int) = ((a + 2 ^ i : Nat) : Int) := by
  have hp := pow_lt32 i hi
  unfold mstep
  have e : (2 : Int) ^ (i : Int).toNat % 4294967296 = ((2 ^ i : Nat) : Int) := by
    rw [Int.toNat_natCast]
    have : ((2 : Int) ^ i) = ((2 ^ i : Nat) : Int) := by simp
    rw [this]; omega
  rw [e, bits_or_u32_nat a (2 ^ i) (by omega) hp, or_pow a i h]
theorem fold_bf : ∀ (f i m a : Nat), a < 2 ^ i → m < 2 ^ f → i + f ≤ 32 → (bf f (i : Int) (m : Int)).foldl mstep (a : Int) = ((a + 2 ^ i * m : Nat) : Int)
  | 0, i, m, a, ha, hm, hif => by
    have : m = 0 := by simp at hm; omega
    subst this; simp [bf]
  | f + 1, i, m, a, ha, hm, hif => by
    have hp : 2 ^ (i + 1) = 2 * 2 ^ i := by rw [Nat.pow_succ]; omega
    obtain ⟨k, rfl | rfl⟩ : ∃ k, m = 2 * k ∨ m = 2 * k + 1 := ⟨m / 2, by omega⟩
    · rw [bf_even]
      have ih := fold_bf f (i + 1) k a (by omega) (by rw [Nat.pow_succ] at hm; omega) (by omega)
      rw [show ((i : Int) + 1) = ((i + 1 : Nat) : Int) from by omega, ih, hp, Nat.mul_assoc, Nat.mul_left_comm]
    · rw [bf_odd, List.foldl_cons, mstep_pow a i ha (by omega)]
      have ih := fold_bf f (i + 1) k (a + 2 ^ i) (by omega) (by rw [Nat.pow_succ] at hm; omega) (by omega)
      rw [show ((i : Int) + 1) = ((i + 1 : Nat) : Int) from by omega, ih, hp, Nat.mul_add, Nat.mul_assoc, Nat.mul_left_comm]
      congr 1; omega
theorem maskZ_setZ (m : Nat) (h : m < 4294967296) : maskZ (setZ (m : Int)) = (m : Int) := by
  rw [maskZ_eq, setZ]
  have := fold_bf 32 0 m 0 (by simp) (by omega) (by omega)
  simpa using this
theorem bf_of : ∀ (f i : Nat) (zs : List Int), zs.Pairwise (· < ·) → (∀ x ∈ zs, (i : Int) ≤ x ∧ x < i + f) → ∃ m : Nat, m < 2 ^ f ∧ zs = bf f (i : Int) (m : Int)
  | 0, i, zs, _, hr => by
    refine ⟨0, by simp, ?_⟩
    cases zs with
    | nil => rfl
    | cons x r => have := hr x (by simp); omega
  | f + 1, i, zs, hp, hr => by
    cases zs with
    | nil => exact ⟨0, Nat.pos_of_ne_zero (by simp), (bf_zero (f + 1) _).symm⟩
    | cons x r =>
      by_cases hx : x = i
      · subst hx
        have hc := List.pairwise_cons.1 hp
        obtain ⟨m, hm, hz⟩ := bf_of f (i + 1) r hc.2 (fun y hy => by
          have h1 := hc.1 y hy
          have h2 := hr y (List.mem_cons_of_mem _ hy)
          omega)
        refine ⟨2 * m + 1, by rw [Nat.pow_succ]; omega, ?_⟩
        rw [bf_odd, hz]; rfl
      · have hc := List.pairwise_cons.1 hp
        have hx0 := hr x (by simp)
        obtain ⟨m, hm, hz⟩ := bf_of f (i + 1) (x :: r) hp (fun y hy => by
          have h2 := hr y hy
          rcases List.mem_cons.1 hy with rfl | hy'
          · omega
          · have h1 := hc.1 y hy'; omega)
        refine ⟨2 * m, by rw [Nat.pow_succ]; omega, ?_⟩
        rw [bf_even, hz]; rfl
theorem csGo_of {m : Int} : ∀ (zs : List Int) (p : Option Int), (∀ x ∈ zs, 0 ≤ x ∧ x < m) → zs.Pairwise (· < ·) → (∀ y, p = some y → ∀ x ∈ zs, y < x) → csGo m p zs = 0
  | [], p, _, _, _ => rfl
  | x :: r, p, h1, h2, h3 => by
    have hx := h1 x (by simp)
    have hc := List.pairwise_cons.1 h2
    rw [csGo, if_neg (by omega), if_neg (by
      cases p with
      | none => simp [ordB]
      | some y => have := h3 y rfl x (by simp); simp [ordB]; omega)]
    exact csGo_of r (some x) (fun z hz => h1 z (List.mem_cons_of_mem _ hz)) hc.2 (fun y hy z hz => by cases hy; exact hc.1 z hz)
theorem csGo_ok' {m : Int} : ∀ (zs : List Int) (p : Option Int), csGo m p zs = 0 → (∀ x ∈ zs, 0 ≤ x ∧ x < m) ∧ zs.Pairwise (· < ·) ∧ ∀ y, p = some y → ∀ x ∈ zs, y < x
  | [], p, _ => ⟨by simp, List.Pairwise.nil, by simp⟩
  | x :: r, p, h => by
    rw [csGo] at h
    by_cases h1 : x < 0 ∨ m ≤ x
    · rw [if_pos h1] at h; omega
    · rw [if_neg h1] at h
      by_cases h2 : ordB p x = true
      · rw [if_pos h2] at h; omega
      · rw [if_neg h2] at h
        obtain ⟨a, b, c⟩ := csGo_ok' r (some x) h
        have hlt : ∀ z ∈ r, x < z := c x rfl
        refine ⟨fun z hz => ?_, List.pairwise_cons.2 ⟨hlt, b⟩, fun y hy z hz => ?_⟩
        · rcases List.mem_cons.1 hz with rfl | hz
          · omega
          · exact a z hz
        · subst hy
          have hyx : y < x := by simpa [ordB] using h2
          rcases List.mem_cons.1 hz with rfl | hz
          · exact hyx
          · have := hlt z hz; omega
theorem csE_setZ (m : Int) : csE 32 (setZ m) = 0 := csGo_of _ none (fun x hx => by have := bf_mem 32 0 m x hx; omega) (bf_up 32 0 m) (fun y hy => by cases hy)
theorem setZ_range (m : Int) : ∀ t, t < (setZ m).length → 0 ≤ (setZ m).getD t 0 ∧ (setZ m).getD t 0 < 32 := fun t ht => by
  have h : (setZ m).getD t 0 ∈ bf 32 0 m := getD_mem ht
  have := bf_mem 32 0 m _ h; omega
theorem set_mask {zs : List Int} (h : csE 32 zs = 0) : ∃ m : Nat, m < 4294967296 ∧ maskZ zs = (m : Int) ∧ setZ (m : Int) = zs := by
  obtain ⟨a, b, _⟩ := csGo_ok' zs none h
  obtain ⟨m, hm, hz⟩ := bf_of 32 0 zs b (fun x hx => by have := a x hx; omega)
  have hm' : m < 4294967296 := by simpa using hm
  have e : setZ (m : Int) = zs := hz.symm
  exact ⟨m, hm', by rw [← e]; exact maskZ_setZ m hm', e⟩
theorem cs_ranges {zs : List Int} (h : csE 32 zs = 0) : ∀ t, t < zs.length → 0 ≤ zs.getD t 0 ∧ zs.getD t 0 < 32 := fun _ ht => (csGo_ok' zs none h).1 _ (getD_mem ht)
end Go.Proofs.YtmdambfapephpaaDoor
