/- The walk of WordShuffles. -/
import Derived.Test.YtdccmebkoibkhaaLprojects
import Derived.Test.YtdccmebkoibkhaaLwchecks
import Derived.Test.YtdccmebkoibkhaaWrshR
import Derived.Test.YtdccmebkoibkhaaShuf
import Derived.Test.YtdccmebkoibkhaaWisshuf
import Derived.Test.YtdccmebkoibkhaaOpenB
import Derived.Deep.RegionLaw
namespace Go.Proofs.Ytdccmebkoibkhaa
open Go.RowKit
set_option linter.unusedVariables false


theorem lv_gives {w w' : World} {v : Value} {zs : List (List Int)} (h : LV w' v zs) (hb : Below w.heap.size w w') : GivesL w zs (.returned v) w' := by
  rcases h with ⟨rfl, rfl⟩ | ⟨_, b, o, c, rfl, hr, h1, h2⟩
  · exact ⟨none, 0, rfl, fun h => absurd h (by simp), hb, Nat.le_refl _, by omega⟩
  · exact ⟨_, c, rfl, hr, hb, h1, h2⟩
theorem r2Shuffles_any : ∀ (n : Nat) (a b : List Int) (A1 A3 : Option Addr) (n1 n3 c1 c3 : Nat) (w : World), a.length + b.length ≤ n → n ≤ 12 → RdI w w.heap.size A1 a → RdI w w.heap.size A3 b → a.length = n1 → b.length = n3 → n1 ≤ c1 → n3 ≤ c3 →
    Calls Try.prog 32 #[.slice A1 n1 c1, .slice A3 n3 c3] w (GivesL w (rsh n a b)) := by
  intro n
  induction n with
  | zero =>
    intro a b A1 A3 n1 n3 c1 c3 w hl _ ha hb l1 l3 _ _
    rw [rsh]
    exact rsh_base A1 A3 n1 n3 c1 c3 a b w ha hb l1 l3 (by omega) (by omega) (by omega)
  | succ n ih =>
    intro a b A1 A3 n1 n3 c1 c3 w hl hn ha hb l1 l3 k1 k3
    rw [rsh]
    by_cases h0 : a.length = 0 ∨ b.length = 0
    · rw [if_pos h0]
      exact rsh_base A1 A3 n1 n3 c1 c3 a b w ha hb l1 l3 (by omega) (by omega) (by omega)
    · rw [if_neg h0]
      have ha0 : ¬ a.length = 0 := fun e => h0 (.inl e)
      have hb0 : ¬ b.length = 0 := fun e => h0 (.inr e)
      obtain ⟨b1, o1, rfl, _, _⟩ := ha (by omega)
      obtain ⟨b3, o3, rfl, _, _⟩ := hb (by omega)
      have la : (a.take (a.length - 1)).length = a.length - 1 := by rw [List.length_take]; omega
      have lb : (b.take (b.length - 1)).length = b.length - 1 := by rw [List.length_take]; omega
      have p : 2 ^ n ≤ 4096 := by
        have : 2 ^ n ≤ 2 ^ 12 := Nat.pow_le_pow_right (by omega) (by omega)
        omega
      refine (rsh_step b1 o1 b3 o3 n1 n3 (a.length - 1) (b.length - 1) c1 c3 a b (rsh n (a.take (a.length - 1)) b) (rsh n a (b.take (b.length - 1))) w ha hb l1 l3 (by omega) (by omega) k1 k3 (by omega) (by omega)
        (fun W hW => ih _ _ _ _ _ _ c1 c3 W (by omega) (by omega) (((ha.below hW (Nat.le_refl _)).more hW.size).take _) ((hb.below hW (Nat.le_refl _)).more hW.size) la l3 (by omega) k3)
        (fun W hW => ih _ _ _ _ _ _ c1 c3 W (by omega) (by omega) ((ha.below hW (Nat.le_refl _)).more hW.size) (((hb.below hW (Nat.le_refl _)).more hW.size).take _) l1 lb k1 (by omega))
        (Nat.le_trans (len_rsh n _ _) p) (Nat.le_trans (len_rsh n _ _) p)
        (fun z hz => by rw [word_rsh (by omega) hz]; omega) (fun z hz => by rw [word_rsh (by omega) hz]; omega)).mono ?_
      rintro e w' ⟨v, rfl, hv, hbw⟩
      exact lv_gives hv hbw
theorem shuf_eq {n : Nat} {a b : List Int} {zs : List (List Int)} (h : a.length + b.length ≤ n) (hi : Inc zs) (hm : ∀ x, x ∈ zs ↔ x ∈ shufL [] a b) : zs = rsh n a b := by
  refine inc_unique hi (inc_rsh n a b) fun x => ?_
  rw [hm, mem_shufL _ [] a b x rfl, mem_rsh n a b x h]
  constructor
  · rintro ⟨y, rfl, hy⟩; exact hy
  · intro hx; exact ⟨x, rfl, hx⟩
theorem shuf_call (A B : Option Addr) (n m c d : Nat) (a b : List Int) (zz : List (List Int)) (hz : rsh 11 a b = zz) (w W : World) (hx : RdI W W.heap.size A a) (hy : RdI W W.heap.size B b) (hn : a.length = n) (hm : b.length = m) (h : n + m ≤ 11) (hc : n ≤ c) (hc2 : c ≤ 9223372036854775807) (hd : m ≤ d) (hd2 : d ≤ 9223372036854775807) :
    Calls Try.prog 30 #[.slice A n c, .slice B m d] W fun e w' => ∃ A' c', e = .returned (.tuple #[.slice A' zz.length c', .int .i64 0]) ∧ RdL w' w'.heap.size A' zz ∧ Below W.heap.size W w' := by
  subst hn hm
  refine (shuf_any A B c d a b W hx hy (by omega) hc hc2 hd hd2).mono ?_
  rintro e w' ⟨zs, A', c', rfl, hr, hb, hi, hmem, _⟩
  have := shuf_eq (n := 11) (by omega) hi hmem
  rw [hz] at this
  subst this
  exact ⟨A', c', rfl, hr, hb⟩

set_option maxHeartbeats 8000000 in
set_option maxRecDepth 100000 in
theorem lawShuffles (A : Option Addr) (nb cb : Nat) (bs : List Int) (B : Option Addr) (nc cc : Nat) (bc : List Int) (w : World) (h1 : RdB w w.heap.size A bs) (h2 : bs.length = nb) (h3 : ∀ z ∈ bs, (Lit.int .u8 z).wf = true) (k1 : RdB w w.heap.size B bc) (k2 : bc.length = nc) (k3 : ∀ z ∈ bc, (Lit.int .u8 z).wf = true) :
    Calls Try.prog 8 #[.slice A nb cb, .slice B nc cc] w fun e w' => e = .returned (.bool true) ∧ Below w.heap.size w w' := by
  have HK := Lib.hid known_any
  obtain ⟨p, hp⟩ : ∃ p, p = wordZ bs 6 := ⟨_, rfl⟩
  obtain ⟨q, hq⟩ : ∃ q, q = wordZ bc 5 := ⟨_, rfl⟩
  obtain ⟨np, hnp⟩ : ∃ n, n = p.length := ⟨_, rfl⟩
  obtain ⟨nq', hnq⟩ : ∃ n, n = q.length := ⟨_, rfl⟩
  have WX := Lib.hid (fun (W : World) (h : Below w.heap.size w W) => word_call A nb cb 6 bs w W h1 h2 (fun z hz => wf_u8 (h3 z hz)) (by omega) p hp.symm np hnp.symm h)
  have WY := Lib.hid (fun (W : World) (h : Below w.heap.size w W) => word_call B nc cc 5 bc w W k1 k2 (fun z hz => wf_u8 (k3 z hz)) (by omega) q hq.symm nq' hnq.symm h)
  have np6 : np ≤ 6 := by rw [hnp, hp]; exact wordZ_le bs 6
  have nq5 : nq' ≤ 5 := by rw [hnq, hq]; exact wordZ_le bc 5
  have HNP := Lib.hid hnp.symm
  have HNQ := Lib.hid hnq.symm
  obtain ⟨zz, hzz⟩ : ∃ z, rsh 11 p q = z := ⟨_, rfl⟩
  have HZ := Lib.hid hzz
  obtain ⟨nz, hnz⟩ : ∃ n, n = zz.length := ⟨_, rfl⟩
  have HNZ := Lib.hid hnz
  have nz1 : nz ≤ 2048 := by rw [hnz, ← hzz]; exact len_rsh 11 p q
  have HW := Lib.hid (show ∀ z ∈ zz, z.length = np + nq' ∧ isSh z p q = true by
    intro z hz
    rw [← hzz] at hz
    exact ⟨by rw [word_rsh (by omega) hz, hnp, hnq], (mem_rsh 11 p q z (by omega)).1 hz⟩)
  have M13 : ∀ W : World, (Instr.makeSlice 22 (.int .i64 13) (.int .i64 13)).run Try.prog W = .ok (.slice (some ⟨W.heap.size, 0, none⟩) 13 13) (W.alloc (.cells (madeCells #[.int .i64 0] 13) 3)) := make_zeros 13 (by decide)
  have M6 : ∀ W : World, (Instr.makeSlice 22 (.int .i64 6) (.int .i64 6)).run Try.prog W = .ok (.slice (some ⟨W.heap.size, 0, none⟩) 6 6) (W.alloc (.cells (madeCells #[.int .i64 0] 6) 3)) := make_zeros 6 (by decide)
  have M7 : ∀ W : World, (Instr.makeSlice 22 (.int .i64 7) (.int .i64 7)).run Try.prog W = .ok (.slice (some ⟨W.heap.size, 0, none⟩) 7 7) (W.alloc (.cells (madeCells #[.int .i64 0] 7) 3)) := make_zeros 7 (by decide)
  generalize madeCells #[Value.int .i64 0] 13 = Z13 at *
  generalize madeCells #[Value.int .i64 0] 6 = Z6 at *
  generalize madeCells #[Value.int .i64 0] 7 = Z7 at *
  have SL := Lib.hid (fun (A : Option Addr) (B : Option Addr) (n m c d : Nat) (W : World) (h : 12 < n + m) (h2 : n ≤ 100) (h3 : m ≤ 100) => shuf_long A B n m c d W h (by omega) (by omega))
  clear h1 h2 h3 k1 k2 k3 hp hq hnp hnq hnz hzz
  go_enter Try.func8, Try.ntmps8
  go_wp2_with fail
  refine (HK.out _).mono ?_
  rintro e w1 ⟨rfl, hb1⟩
  have B1 := Lib.hid (show Below w.heap.size w w1 from hb1)
  clear hb1
  go_wp2_with fail
  refine (WX.out _ B1.out).mono ?_
  rintro e w2 ⟨Cp, cp, rfl, hr, hb, kp, tp⟩
  have P2 := Lib.hid hr
  have B2 := Lib.hid (B1.out.trans (hb.mono B1.out.size))
  clear hr hb B1
  go_wp2_with fail
  refine (WY.out _ B2.out).mono ?_
  rintro e w3 ⟨Cq, cq, rfl, hr, hb, kq, tq⟩
  have P3 := Lib.hid ((P2.out.below hb (Nat.le_refl _)).more hb.size)
  have Q3 := Lib.hid hr
  have B3 := Lib.hid (B2.out.trans (hb.mono B2.out.size))
  clear hr hb B2 P2
  go_wp2_with fail
  refine (shuf_call Cp Cq np nq' cp cq p q zz HZ.out w w3 P3.out Q3.out HNP.out HNQ.out (by omega) kp tp kq tq).mono ?_
  rintro e w4 ⟨L4, c4, rfl, hr, hb⟩
  have P4 := Lib.hid ((P3.out.below hb (Nat.le_refl _)).more hb.size)
  have Q4 := Lib.hid ((Q3.out.below hb (Nat.le_refl _)).more hb.size)
  have R4 := Lib.hid hr
  have B4 := Lib.hid (B3.out.trans (hb.mono B3.out.size))
  rw [← HNZ.out]
  clear hr hb B3 P3 Q3
  go_wp2_with fail
  refine (r2Shuffles_any 11 p q Cp Cq np nq' cp cq w4 (by rw [HNP.out, HNQ.out]; omega) (by omega) P4.out Q4.out HNP.out HNQ.out kp kq).mono ?_
  rintro e w5 ⟨L5, c5, rfl, hr, hb, _, _⟩
  rw [HZ.out] at hr
  rw [HZ.out, ← HNZ.out]
  have P5 := Lib.hid ((P4.out.below hb (Nat.le_refl _)).more hb.size)
  have Q5 := Lib.hid ((Q4.out.below hb (Nat.le_refl _)).more hb.size)
  have R5 := Lib.hid ((R4.out.below hb (Nat.le_refl _)).more hb.size)
  have S5 := Lib.hid hr
  have B5 := Lib.hid (B4.out.trans (hb.mono B4.out.size))
  have HWL := Lib.hid (show ∀ z ∈ zz, z.length ≤ 4096 from fun z hz => by have := (HW.out z hz).1; omega)
  clear hr hb B4 P4 Q4 R4
  go_wp2_with fail
  refine (sameAll_any L4 L5 nz nz c4 c5 zz zz w5 R5.out S5.out HNZ.out.symm HNZ.out.symm (by omega) (by omega) HWL.out HWL.out).mono ?_
  rintro e w6 ⟨rfl, hq6⟩
  rw [decide_eq_true (rfl : zz = zz)]
  have hb := below_of_draws (B := w5.heap.size) hq6
  have P6 := Lib.hid ((P5.out.below hb (Nat.le_refl _)).more hb.size)
  have Q6 := Lib.hid ((Q5.out.below hb (Nat.le_refl _)).more hb.size)
  have R6 := Lib.hid ((R5.out.below hb (Nat.le_refl _)).more hb.size)
  have B6 := Lib.hid (B5.out.trans (hb.mono B5.out.size))
  clear hb hq6 B5 P5 Q5 R5 S5
  go_wp2_with fail
  go_loopw [9] (fun i wr => ∃ k : Nat, k ≤ nz ∧ i = .int .i64 k ∧ Hid (Below w6.heap.size w6 wr)) (fun i _ => nz - (intOf i).toNat)
  case atStart => exact ⟨0, Nat.zero_le _, rfl, Below.refl _ _⟩
  case round =>
    obtain ⟨k, hk, rfl, hnx⟩ := hrel
    by_cases hlt : k < nz
    · have k1 : (k : Int) < (nz : Int) := by omega
      obtain ⟨bL, oL, rfl, _, hcL⟩ := (R6.out.below hnx.out (Nat.le_refl _)) (by rw [← HNZ.out]; omega)
      obtain ⟨C, cz, hcell, hrd, _, _⟩ := hcL k (by rw [← HNZ.out]; exact hlt)
      obtain ⟨z, hz⟩ : ∃ z, z = zz.getD k [] := ⟨_, rfl⟩
      rw [← hz] at hcell hrd
      have hzm : z ∈ zz := by rw [hz, List.getD, List.getElem?_eq_getElem (by rw [← HNZ.out]; exact hlt)]; exact List.getElem_mem _
      obtain ⟨hzl, hzs⟩ := HW.out z hzm
      rw [hzl] at hcell
      have IS := Lib.hid (wIsShuffle_any C Cp Cq (np + nq') np nq' cz cp cq z p q wr (hrd.more hnx.out.size) ((P6.out.below hnx.out (Nat.le_refl _)).more hnx.out.size) ((Q6.out.below hnx.out (Nat.le_refl _)).more hnx.out.size) hzl HNP.out HNQ.out (by omega) (by omega) (by omega))
      rw [hzs] at IS
      clear hcL hrd hz hzm hzl hzs
      go_wp2_with fail
      refine IS.out.mono ?_
      rintro e w7 ⟨rfl, hb7⟩
      have B7 := Lib.hid (hnx.out.trans (hb7.mono hnx.out.size))
      clear hb7
      go_wp2_with fail
      go_roundw
      case rel => exact ⟨k + 1, by omega, by go_num, B7⟩
      case measure => simp [intOf]; omega
    · have k1 : ¬ (k : Int) < (nz : Int) := by omega
      have BR := Lib.hid (B6.out.trans (hnx.out.mono B6.out.size))
      have hsz := BR.out.size
      go_wp2_with fail
      refine (SL.out _ _ _ _ _ _ _ (by omega) (by omega) (by omega)).mono ?_
      rintro e w8 ⟨rfl, rfl⟩
      have B8 := Lib.hid (BR.out.alloc hsz (.cells Z13 3))
      go_wp2_with fail
      go_region_law (go_simp; go_at_call 30; refine (SL.out _ _ _ _ _ _ _ (by omega) (by omega) (by omega)).mono ?_; rintro e w9 ⟨rfl, rfl⟩)
      all_goals
        go_wp2_with fail
        go_ret
        exact ⟨rfl, ((B8.out.alloc (by simp; omega) _).alloc (by simp; omega) _).drew⟩
end Go.Proofs.Ytdccmebkoibkhaa
