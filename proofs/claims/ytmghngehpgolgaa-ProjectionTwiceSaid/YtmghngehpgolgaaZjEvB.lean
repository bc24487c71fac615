/- Layer 7: which events a set of the law's package has. -/
import Derived.Test.YtmghngehpgolgaaZjPreB
set_option linter.unusedVariables false
set_option linter.unusedSimpArgs false
set_option linter.unusedSectionVars false
namespace Go.Proofs.Ytmghngehpgolgaa
open Go.RowKit Go.Sort

theorem bits_and_u8 (a b : Nat) (ha : a < 256) (hb : b < 256) : bits .and .u8 (a : Int) (b : Int) = ((a &&& b : Nat) : Int) := by
  have h : (a &&& b) < 256 := Nat.lt_of_le_of_lt Nat.and_le_left ha
  have h1 : (BitVec.ofInt 8 (a : Int)).toNat = a := by
    rw [BitVec.ofInt_natCast, BitVec.toNat_ofNat]; exact Nat.mod_eq_of_lt (by omega)
  have h2 : (BitVec.ofInt 8 (b : Int)).toNat = b := by
    rw [BitVec.ofInt_natCast, BitVec.toNat_ofNat]; exact Nat.mod_eq_of_lt (by omega)
  show IntKind.u8.wrap ((BitVec.ofInt 8 (a : Int) &&& BitVec.ofInt 8 (b : Int)).toNat : Int) = _
  rw [BitVec.toNat_and, h1, h2]
  unfold IntKind.wrap
  simp [IntKind.bits, IntKind.signed]
  omega
/-- Event t lies in the set x. -/
def evP (x : Int) (t : Nat) : Bool := bits BinOp.and IntKind.u8 (x / 2 ^ t) 1 == 1
def evL (x : Int) (n : Nat) : List Int := (rng n).filter fun t => evP x t.toNat
theorem evL_succ (x : Int) (n : Nat) : evL x (n + 1) = evL x n ++ (if evP x n = true then [(n : Int)] else []) := by
  unfold evL
  rw [rng_succ, List.filter_append]
  congr 1
  simp only [List.filter_cons, List.filter_nil, Int.toNat_natCast]
theorem evL_ok (x : Int) (n : Nat) : Ev5 (n : Int) (evL x n) :=
  ⟨fun _ ht => mem_rng.1 (List.mem_filter.1 ht).1, (rng_up n).sublist List.filter_sublist⟩
theorem evP_bit (a : Nat) (ha : a < 256) (t : Nat) : evP (a : Int) t = a.testBit t := by
  unfold evP
  have h1 : (a : Int) / 2 ^ t = ((a / 2 ^ t : Nat) : Int) := by rw [Int.natCast_ediv]; congr 1
  have h2 : a / 2 ^ t < 256 := Nat.lt_of_le_of_lt (Nat.div_le_self _ _) ha
  rw [h1, show (1 : Int) = ((1 : Nat) : Int) from rfl, bits_and_u8 _ 1 h2 (by omega)]
  rw [Nat.testBit_eq_decide_div_mod_eq, Nat.and_one_is_mod]
  by_cases h : a / 2 ^ t % 2 = 1
  · rw [h]; rfl
  · have : a / 2 ^ t % 2 = 0 := by omega
    rw [this]; rfl
theorem ev_sub {x y : Int} (hx : 0 ≤ x ∧ x < 256) (hy : 0 ≤ y ∧ y < 256) (n : Nat) : ∀ t ∈ evL (bits .and .u8 x y) n, t ∈ evL x n := fun t ht => by
  obtain ⟨a, rfl⟩ : ∃ a : Nat, x = (a : Int) := ⟨x.toNat, by omega⟩
  obtain ⟨b, rfl⟩ : ∃ b : Nat, y = (b : Int) := ⟨y.toNat, by omega⟩
  rw [bits_and_u8 a b (by omega) (by omega)] at ht
  obtain ⟨h1, h2⟩ := List.mem_filter.1 ht
  refine List.mem_filter.2 ⟨h1, ?_⟩
  rw [evP_bit _ (Nat.lt_of_le_of_lt Nat.and_le_left (by omega)), Nat.testBit_and] at h2
  rw [evP_bit _ (by omega)]
  simp at h2
  exact h2.1
set_option maxHeartbeats 2000000 in
set_option maxRecDepth 100000 in
theorem events_bits (x : Int) (w : World) :
    Calls Try.prog 16 #[.int .u8 x] w fun e w' => ∃ A c, e = .returned (.slice A (evL x 5).length c) ∧ Own w' w.heap.size (.slice A (evL x 5).length c) (evL x 5) ∧ Below w.heap.size w w' := by
  obtain ⟨i0, hi, hz0, hz1, hz2⟩ := info_parts info_int
  go_enter Try.func16, Try.ntmps16
  go_wp2_with fail
  go_loopw [3, 4] (fun v i wr => ∃ (t : Nat) (zs : List Int), t ≤ 5 ∧ i = .int .i64 t ∧ Hid (zs = evL x t) ∧ Hid (FP w v zs wr)) (fun _ i _ => 5 - (intOf i).toNat)
  case atStart => exact ⟨0, [], Nat.zero_le _, rfl, Lib.hid (by simp [evL, rng]), ⟨Below.refl _ _, World.ownsRow_nil _ _ _ _⟩⟩
  case round =>
    obtain ⟨t, zs, ht5, rfl, hev, hfp⟩ := hrel
    by_cases hlt : t < 5
    · have hl : zs.length ≤ t := by rw [hev.out]; exact (evL_ok x t).len
      have z0 : (0 : Int) ≤ (t : Int) := by omega
      have hsz := hfp.out.bel.size
      have hs := Lib.hid (evL_succ x t)
      obtain ⟨cb, hcb⟩ : ∃ cb, cb = evP x t := ⟨_, rfl⟩
      rw [← hcb] at hs
      unfold evP at hcb
      have HCB := Lib.hid hcb
      clear hcb
      go_upto_if 13 with fail
      rw [← HCB.out]
      cases cb
      · have hs2 := Lib.hid (show zs = evL x (t + 1) by rw [hs.out, hev.out]; simp)
        go_wp2_with fail
        go_roundw
        case rel => exact ⟨t + 1, zs, by omega, by go_num, hs2, hfp⟩
        case measure => simp [intOf]; omega
      · have hs2 := Lib.hid (show zs ++ [(t : Int)] = evL x (t + 1) by rw [hs.out, hev.out]; simp)
        go_wp2_with (at_builtin; refine wpList_append_own _ rfl _ _ 22 rfl w.heap.size 3 i0 (.int .i64 0) 1 8 Try.underlying22 hi hz0 hz1 hz2 rfl (by decide) _ _ _ rfl (hfp.out.ow.alloc _) ⟨wr.heap.size, 0, none⟩ 1 1 [.int .i64 (t : Int)] rfl rfl (news_one (by simp)) (by intro u hu; simp at hu; subst hu; rfl) (by unfold maxLen; omega) (by omega) (by simp; omega) ?_)
        intro v5 w5 hown5 hgrow5 _
        have hO5 := own_app (K' := zs ++ [(t : Int)]) rfl hfp.out.bel hfp.out.ow hown5 hgrow5 (Nat.le_refl _)
        have hF6 := Lib.hid (show FP w v5 (zs ++ [(t : Int)]) w5 from ⟨hO5.2, hO5.1⟩)
        clear hown5 hgrow5 hO5
        go_wp2_with fail
        go_roundw
        case rel => exact ⟨t + 1, zs ++ [(t : Int)], by omega, by go_num, hs2, hF6⟩
        case measure => simp [intOf]; omega
    · obtain rfl : t = 5 := by omega
      obtain ⟨A', c', rfl, hrd, hc1, hc2⟩ := own_rdc hfp.out.ow
      have HF := Lib.hid hfp.out
      have hz := hev.out
      subst hz
      clear hfp hrd
      go_wp2_with fail
      go_ret
      exact ⟨A', c', rfl, HF.out.ow, HF.out.bel⟩
end Go.Proofs.Ytmghngehpgolgaa
