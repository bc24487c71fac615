/- The contract of the program's Set: the bits of a mask, where the library's table of trailing zeros stands as it is laid. -/
import Derived.Test.YtmdambfapephpaaDoorSetMath
import Derived.Shelf.Spec.TrailingZeros
namespace Go.Proofs.YtmdambfapephpaaDoor
open Go.RowKit

theorem tz32_core (x k idx : Nat) (w : World) (hx0 : ((x : Int) == 0) = false)
    (key : bits BinOp.and IntKind.u32 (x : Int) (-(x : Int) % 4294967296) * 125613361 % 4294967296 / 134217728 = (idx : Int))
    (hi : idx < 32) (hk : k < 32) (hcell : w.cell? ⟨0, idx, none⟩ = some (.int .u8 k)) :
    Calls Tryd.prog 18 #[.int .u32 x] w fun e w' => e = .returned (.int .i64 k) ∧ w = w' := by
  go_enter Tryd.func18, Tryd.ntmps18
  go_wp2_with (simp only [key])
  go_ret
  exact ⟨rfl, rfl⟩
theorem tz32_any (x : Nat) (hx : x < 4294967296) (h0 : x ≠ 0) (w : World) (hT : TabAt 0 Lib.deBruijn32tab w) :
    Calls Tryd.prog 18 #[.int .u32 x] w fun e w' => e = .returned (.int .i64 (Lib.ctzFrom 32 x)) ∧ w = w' := by
  obtain ⟨hlow, hk⟩ := Lib.lowest_bit 32 x h0 hx
  obtain ⟨hi, htab⟩ := Lib.deBruijn32_at _ hk
  have hcell := hT _ hi
  rw [htab] at hcell
  have h := tz32_core x _ _ w (by simp; omega) (tz32_key x _ hx h0 hlow) hi hk hcell
  rw [show Lib.ctz 32 x = Lib.ctzFrom 32 x from by rw [Lib.ctz, if_neg h0]] at h
  exact h

theorem tab_below {w w' : World} {B : Nat} (h : TabAt 0 Lib.deBruijn32tab w) (hb : Below B w w') (h0 : 0 < B) : TabAt 0 Lib.deBruijn32tab w' := fun j hj => (hb.cell (p := ⟨0, j, none⟩) h0).trans (h j hj)
theorem land_lt (m : Nat) (h : 0 < m) : m &&& (m - 1) < m := Nat.lt_of_le_of_lt Nat.and_le_right (by omega)
theorem setz_next {zs pre : List Int} {m : Nat} (h : zs = pre ++ bf 32 0 (m : Int)) (h0 : 0 < m) (h1 : m < 4294967296) : zs = (pre ++ [((Lib.ctzFrom 32 m : Nat) : Int)]) ++ bf 32 0 ((m &&& (m - 1) : Nat) : Int) := by
  rw [h, bf_ctz 32 0 m h0 (by omega)]; simp
theorem bf_zero : ∀ (f : Nat) (i : Int), bf f i 0 = []
  | 0, i => rfl
  | f + 1, i => by rw [bf, if_neg (by omega)]; exact bf_zero f _

set_option maxHeartbeats 1600000 in
theorem aSet_any (m : Nat) (w : World) (h1 : m < 4294967296) (hT : TabAt 0 Lib.deBruijn32tab w) (hz : 0 < w.heap.size) :
    Calls Tryd.prog 6 #[.int .u32 m] w fun e w' => GivesC w (setZ m) e w' := by
  obtain ⟨i0, hi, hz0, hz1, hz2⟩ := info_parts info_int
  have hlz := setZ_len m
  obtain ⟨zs, hzs⟩ : ∃ zs, zs = setZ m := ⟨_, rfl⟩
  rw [← hzs] at hlz ⊢
  have HZ := Lib.hid hzs
  have HT := Lib.hid hT
  obtain ⟨B, hB⟩ : ∃ B, B = w.heap.size := ⟨_, rfl⟩
  have HB := Lib.hid hB
  have hBw : B ≤ w.heap.size := by omega
  have hBp : 0 < B := by omega
  clear hB hzs hT
  go_enter Tryd.func6, Tryd.ntmps6
  go_wp2
  go_loopw [0, 3] (fun mv v wr => ∃ (mk : Nat) (pre : List Int), mk < 4294967296 ∧ mv = .int .u32 mk ∧ Hid (Own wr B v pre) ∧ Hid (zs = pre ++ bf 32 0 (mk : Int)) ∧ Below B w wr) (fun mv _ _ => (intOf mv).toNat)
  case atStart => exact ⟨m, [], h1, rfl, World.ownsRow_nil _ _ _ _, HZ.out, Below.refl _ _⟩
  case round =>
    obtain ⟨mk, pre, hmk, rfl, hown, hpre, hnx⟩ := hrel
    have hsz := hnx.size
    have hpl : pre.length ≤ 32 := by have := hpre.out; rw [this] at hlz; simp at hlz; omega
    by_cases hz0' : mk = 0
    · have e := Lib.hid (show zs = pre by have := hpre.out; rw [hz0'] at this; rw [this, show ((0 : Nat) : Int) = 0 from rfl, bf_zero]; simp)
      have hf := Lib.hid (own_rdc hown.out)
      have hnx' : Below w.heap.size w wr := by rw [← HB.out]; exact hnx
      have hb1 : ((mk : Int) != 0) = false := by simp [hz0']
      clear hpre hown hz0'
      go_wp2
      go_ret
      obtain ⟨A', c', e', hr, hcap1, hcap2⟩ := hf.out
      rw [e.out]
      exact ⟨A', c', by rw [← e']; rfl, hr, hnx', hcap1, hcap2⟩
    · have hb1 : ((mk : Int) != 0) = true := by simp [hz0']
      have HTZ := Lib.hid (tz32_any mk hmk hz0' wr (tab_below HT.out hnx hBp))
      have hY := Lib.hid (setz_next hpre.out (by omega) hmk)
      obtain ⟨t, ht⟩ : ∃ t, t = Lib.ctzFrom 32 mk := ⟨_, rfl⟩
      rw [← ht] at HTZ hY
      obtain ⟨q, hq⟩ : ∃ q, q = mk &&& (mk - 1) := ⟨_, rfl⟩
      have hqlt : q < mk := by rw [hq]; exact land_lt mk (by omega)
      rw [← hq] at hY
      have hbit : bits BinOp.and IntKind.u32 (mk : Int) ((mk : Int) - 1) = (q : Int) := by
        rw [show (mk : Int) - 1 = ((mk - 1 : Nat) : Int) from by omega, bits_and_u32_nat mk (mk - 1) hmk (by omega), ← hq]
      have hmk1 : 1 ≤ mk := by omega
      clear hpre hq ht hz0'
      go_wp2_with (first
        | (go_at_call 18; refine HTZ.out.mono ?_; rintro e w' ⟨rfl, rfl⟩)
        | (at_builtin; refine wpList_append_own _ rfl _ _ 22 rfl B 3 i0 (.int .i64 0) 1 8 Tryd.underlying22 hi hz0 hz1 hz2 rfl (by decide) _ _ _ rfl (hown.out.alloc _) ⟨wr.heap.size, 0, none⟩ 1 1 [.int .i64 t] rfl rfl ?c1 ?c2 ?c3 ?c4 ?c5 ?_))
      case c1 => exact own_one
      case c2 => intro u hu; simp at hu; subst hu; rfl
      case c3 => unfold maxLen; omega
      case c4 => omega
      case c5 => simp; omega
      intro v' w1 hown' hgrow _
      have R := own_app (K' := pre ++ [(t : Int)]) rfl hnx hown.out hown' hgrow hBw
      have R1 := Lib.hid R.1
      have R2 := R.2
      clear R hown' hgrow hown
      go_wp2
      go_roundw
      case rel => exact ⟨q, _, by omega, rfl, R1, hY, R2⟩
      case measure => simp [intOf]; omega
end Go.Proofs.YtmdambfapephpaaDoor
