/- The law ReachStates, walked. -/
import Derived.Test.YtceldgcmjmfjfaaZa8
import Derived.Deep.MidRow
set_option linter.unusedVariables false
set_option linter.unusedSimpArgs false
set_option linter.unusedSectionVars false
namespace Go.Proofs.Ytceldgcmjmfjfaa
open Go.RowKit Go.Sort Go.Maps

theorem sm_size : (Try.prog.info? 25).map (·.size) = some 26 := by kernel_rfl
theorem same4_ls (v1 v2 : Value) (xs ys : List Int) (w : World) (h1 : LsI w v1 xs) (h2 : LsI w v2 ys) (l1 : xs.length ≤ 100000) (l2 : ys.length ≤ 100000) (e : xs = ys) : Calls Try.prog 16 #[v1, v2] w fun e w' => e = .returned (.bool true) ∧ Below w.heap.size w w' := by
  obtain ⟨A1, c1, rfl, r1, _⟩ := h1
  obtain ⟨A2, c2, rfl, r2, _⟩ := h2
  refine (l4same_any A1 A2 xs.length ys.length c1 c2 _ _ xs ys w r1 r2 rfl rfl (by omega) (by omega)).mono ?_
  rintro e' w' ⟨rfl, q, rfl⟩
  exact ⟨by simp [e], below_drewN (Below.refl _ _) q⟩
set_option maxHeartbeats 8000000 in
set_option maxRecDepth 100000 in
theorem lawReachStates (cs : Array Value) (W : World) (S1 : SmC cs) : Calls Try.prog 3 #[.agg cs] W fun e w' => e = .returned (.bool true) ∧ Below W.heap.size W w' := by
  have hb1 := (Below.refl W.heap.size W).alloc (Nat.le_refl _) (.cells cs 25)
  have HB1 := Lib.hid hb1
  have HR1 := Lib.hid (show Row (W.alloc (.cells cs 25)) W.heap.size 25 cs.toList from Row.new W cs.toList 25)
  have HK := Lib.hid (known4_any (W.alloc (.cells cs 25)))
  have HMK := Lib.hid (fun w => make4_any cs w S1)
  have hsz := Lib.hid (show (Try.prog.info? 25).map (·.size) = some cs.toList.length by rw [sm_size]; simp [S1.sz])
  clear hb1 S1
  go_enter Try.func3, Try.ntmps3
  go_wp2_with fail
  refine HK.out.mono ?_
  rintro e w1 ⟨rfl, hb⟩
  have HB2 := Lib.hid (HB1.out.trans (hb.mono HB1.out.size))
  have HR2 := Lib.hid (HR1.out.below hb (by simp))
  have hrg := Lib.hid (row_range HR2.out)
  clear hb HR1 HK
  go_wp2_with (first
    | refine wpList_load_mid rfl 25 (.tmp 1) rfl W.heap.size 0 rfl cs.toList _ hrg.out Try.underlying25 rfl hsz.out ?_)
  refine (HMK.out w1).mono ?_
  rintro e w2 ⟨S, a, A, c, M, m, d, E, k, g, hok, rfl, hau, hA, hM, hb⟩
  have HB3 := Lib.hid (HB2.out.trans (hb.mono HB2.out.size))
  have HOK := Lib.hid hok
  have hS1 := hok.s1
  have hS6 := hok.s6
  have HRt := Lib.hid hok.r
  have HST := Lib.hid hok.st
  have HC0 := Lib.hid (show chkE a = 0 from hok.r.chk)
  obtain ⟨Bx, hBx⟩ : ∃ b, b = w2.heap.size := ⟨_, rfl⟩
  obtain ⟨W3, hW3⟩ : ∃ w, w = w2.alloc (.cells #[.slice A 4 c, .int .i64 (S : Int), .slice M m d, .slice E k g] 30) := ⟨_, rfl⟩
  have hb23 : Below w2.heap.size w2 W3 := by rw [hW3]; exact (Below.refl _ _).alloc (Nat.le_refl _) _
  have HB4 := Lib.hid (HB3.out.trans (hb23.mono HB3.out.size))
  have HX4 := Lib.hid (show BoxA W3 Bx A 4 c (S : Int) M m d E k g from by rw [hW3, hBx]; exact BoxA.made w2 A 4 c (S : Int) M m d E k g 30)
  have HAU4 := Lib.hid ((hau.below hb23 (Nat.le_refl _)).more hb23.size)
  have HW3 := Lib.hid hW3
  have HBX := Lib.hid hBx
  have HANo := Lib.hid hA
  have HMNo := Lib.hid hM
  clear hok hau hA hM hb hb23 hW3 hBx hrg HR2 HB2 HB3 HB1 hsz HMK
  go_upto_region 4 with fail
  rw [← HW3.out, ← HBX.out]
  obtain ⟨p0, p1, p2, p3⟩ := HX4.out
  have HC := Lib.hid (gReachable_any A 4 c (S : Int) M m d E k g a W3 HAU4.out)
  rw [HC0.out] at HC
  go_wp2_with fail
  refine HC.out.mono ?_
  rintro e w5 ⟨v5, rfl, ho, hb⟩
  have HB5 := Lib.hid (HB4.out.trans (hb.mono HB4.out.size))
  have HX5 := Lib.hid (HX4.out.below hb (box_lt HX4.out))
  have HAU5 := Lib.hid ((HAU4.out.below hb (Nat.le_refl _)).more hb.size)
  have HV5 := Lib.hid (show LsI w5 v5 (rchR a) from LsI.own (by first | (rw [if_pos rfl] at ho; exact ho) | (rw [if_pos trivial] at ho; exact ho)))
  clear hb ho HC p0 p1 p2 p3
  obtain ⟨p0, p1, p2, p3⟩ := HX5.out
  have HC := Lib.hid (gCoreachable_any A 4 c (S : Int) M m d E k g a w5 HAU5.out)
  rw [HC0.out] at HC
  go_wp2_with fail
  refine HC.out.mono ?_
  rintro e w6 ⟨v6, rfl, ho, hb⟩
  have HB6 := Lib.hid (HB5.out.trans (hb.mono HB5.out.size))
  have HX6 := Lib.hid (HX5.out.below hb (box_lt HX5.out))
  have HAU6 := Lib.hid ((HAU5.out.below hb (Nat.le_refl _)).more hb.size)
  have HV6 := Lib.hid (show LsI w6 v6 (corR a) from LsI.own (by first | (rw [if_pos rfl] at ho; exact ho) | (rw [if_pos trivial] at ho; exact ho)))
  have HV5 := Lib.hid (HV5.out.below hb)
  clear hb ho HC p0 p1 p2 p3
  obtain ⟨p0, p1, p2, p3⟩ := HX6.out
  have HC := Lib.hid (gDead_any A 4 c (S : Int) M m d E k g a w6 HAU6.out)
  rw [HC0.out] at HC
  go_wp2_with fail
  refine HC.out.mono ?_
  rintro e w7 ⟨v7, rfl, ho, hb⟩
  have HB7 := Lib.hid (HB6.out.trans (hb.mono HB6.out.size))
  have HX7 := Lib.hid (HX6.out.below hb (box_lt HX6.out))
  have HAU7 := Lib.hid ((HAU6.out.below hb (Nat.le_refl _)).more hb.size)
  have HV7 := Lib.hid (show LsI w7 v7 (dedR a) from LsI.own (by first | (rw [if_pos rfl] at ho; exact ho) | (rw [if_pos trivial] at ho; exact ho)))
  have HV5 := Lib.hid (HV5.out.below hb)
  have HV6 := Lib.hid (HV6.out.below hb)
  clear hb ho HC p0 p1 p2 p3
  obtain ⟨p0, p1, p2, p3⟩ := HX7.out
  have hL5 : (rchR a).length ≤ 100000 := by unfold rchR rchS; rw [HST.out]; have := rngF_len S (seenF noF (spV noF S a.ed (iniL (S : Int)))); simp; omega
  have hL6 : (corR a).length ≤ 100000 := by unfold corR rchS; rw [HST.out]; have := rngF_len S (seenF noF (spV noF S (trnE S a.ed) a.mr)); simp; omega
  have hL7 : (dedR a).length ≤ 100000 := by unfold dedR; rw [HST.out]; have := rngF_len S (ndF a.ed); simp; omega
  have HC := Lib.hid (r4Re_any A 4 c (S : Int) M m d E k g a S w7 HAU7.out rfl hS1 (by omega) HANo.out)
  go_wp2_with fail
  refine HC.out.mono ?_
  rintro e w8 ⟨v8, o8, rfl, hl8, hb, hu8, hg8, hc8⟩
  have he8 := states_fwd HRt.out HST.out hS1 hu8 hg8 hc8
  have HB8 := Lib.hid (HB7.out.trans (hb.mono HB7.out.size))
  have HX8 := Lib.hid (HX7.out.below hb (box_lt HX7.out))
  have HAU8 := Lib.hid ((HAU7.out.below hb (Nat.le_refl _)).more hb.size)
  have HV6 := Lib.hid (HV6.out.below hb)
  have HV7 := Lib.hid (HV7.out.below hb)
  have HSM := Lib.hid (same4_ls v5 v8 _ _ w8 (HV5.out.below hb) hl8 hL5 (by rw [← he8]; exact hL5) he8)
  clear hb HC p0 p1 p2 p3 hu8 hg8 hc8 hl8 he8 HV5
  obtain ⟨p0, p1, p2, p3⟩ := HX8.out
  go_wp2_with fail
  refine HSM.out.mono ?_
  rintro e w9 ⟨rfl, hb⟩
  have HB9 := Lib.hid (HB8.out.trans (hb.mono HB8.out.size))
  have HX9 := Lib.hid (HX8.out.below hb (box_lt HX8.out))
  have HAU9 := Lib.hid ((HAU8.out.below hb (Nat.le_refl _)).more hb.size)
  have HV6 := Lib.hid (HV6.out.below hb)
  have HV7 := Lib.hid (HV7.out.below hb)
  clear hb p0 p1 p2 p3 HSM
  obtain ⟨p0, p1, p2, p3⟩ := HX9.out
  have HC := Lib.hid (r4Co_any A 4 c (S : Int) M m d E k g a S w9 HAU9.out rfl (by omega) (edOk_of HRt.out HST.out) (fun q hq => by have := HRt.out.mrr q hq; rw [HST.out] at this; exact this) HRt.out.mro HMNo.out)
  go_wp2_with fail
  refine HC.out.mono ?_
  rintro e w10 ⟨v10, o10, rfl, hl8, hb, hu8, hg8, hc8⟩
  have he8 := states_back HRt.out HST.out hu8 hg8 hc8
  have HB10 := Lib.hid (HB9.out.trans (hb.mono HB9.out.size))
  have HX10 := Lib.hid (HX9.out.below hb (box_lt HX9.out))
  have HAU10 := Lib.hid ((HAU9.out.below hb (Nat.le_refl _)).more hb.size)
  have HV7 := Lib.hid (HV7.out.below hb)
  have HSM := Lib.hid (same4_ls v6 v10 _ _ w10 (HV6.out.below hb) hl8 hL6 (by rw [← he8]; exact hL6) he8)
  clear hb HC p0 p1 p2 p3 hu8 hg8 hc8 hl8 he8 HV6
  obtain ⟨p0, p1, p2, p3⟩ := HX10.out
  go_wp2_with fail
  refine HSM.out.mono ?_
  rintro e w11 ⟨rfl, hb⟩
  have HB11 := Lib.hid (HB10.out.trans (hb.mono HB10.out.size))
  have HX11 := Lib.hid (HX10.out.below hb (box_lt HX10.out))
  have HAU11 := Lib.hid ((HAU10.out.below hb (Nat.le_refl _)).more hb.size)
  have HV7 := Lib.hid (HV7.out.below hb)
  clear hb p0 p1 p2 p3 HSM
  obtain ⟨p0, p1, p2, p3⟩ := HX11.out
  have HC := Lib.hid (r4De_any A 4 c (S : Int) M m d E k g a S w11 HAU11.out rfl (by omega))
  go_wp2_with fail
  refine HC.out.mono ?_
  rintro e w12 ⟨v12, rfl, ho, hb⟩
  have he8 := states_dead HST.out
  have HB12 := Lib.hid (HB11.out.trans (hb.mono HB11.out.size))
  have HSM := Lib.hid (same4_ls v7 v12 _ _ w12 (HV7.out.below hb) (LsI.own ho) hL7 (by rw [← he8]; exact hL7) he8)
  clear hb HC p0 p1 p2 p3 ho he8 HV7
  go_wp2_with fail
  refine HSM.out.mono ?_
  rintro e w13 ⟨rfl, hb⟩
  have HB13 := Lib.hid (HB12.out.trans (hb.mono HB12.out.size))
  clear hb
  go_wp2_with fail
  go_ret
  exact ⟨rfl, HB13.out⟩
end Go.Proofs.Ytceldgcmjmfjfaa
