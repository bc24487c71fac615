/- The law ReachCloses, walked. -/
import Derived.Test.YtceldgcmjmfjfaaZgSc
import Derived.Test.YtceldgcmjmfjfaaZLgStates
set_option linter.unusedVariables false
set_option linter.unusedSimpArgs false
set_option linter.unusedSectionVars false
namespace Go.Proofs.Ytceldgcmjmfjfaa
open Go.RowKit Go.Sort Go.Maps

theorem set_ok {S : Nat} {a : Au} {set : List Int} (hr : Right a) (hS : a.st = (S : Int)) (hg : ∀ x ∈ set, 0 ≤ x ∧ x < (S : Int)) (hu : set.Pairwise (· < ·)) : gstE a.st set = 0 := by
  unfold gstE
  exact Right.chk { alr := by simp, alo := List.Pairwise.nil, st0 := hr.st0, mrr := fun x hx => by rw [hS]; exact hg x hx, mro := hu, edr := fun x hx => (by cases hx), edo := List.Pairwise.nil, st1 := hr.st1 }
theorem ev_ok {ev : List Int} (he : Ev5 8 ev) : chkE ⟨ev, 0, [], []⟩ = 0 :=
  Right.chk { alr := fun x hx => by have := he.r x hx; omega, alo := he.o, st0 := by simp, mrr := fun x hx => (by cases hx), mro := List.Pairwise.nil, edr := fun x hx => (by cases hx), edo := List.Pairwise.nil, st1 := by simp }
theorem gce_ok {S : Nat} {a : Au} {set ev : List Int} (hr : Right a) (hS : a.st = (S : Int)) (hg : ∀ x ∈ set, 0 ≤ x ∧ x < (S : Int)) (hu : set.Pairwise (· < ·)) (he : Ev5 8 ev) : gceE a set ev = 0 := by
  unfold gceE
  rw [hr.chk, set_ok hr hS hg hu, ev_ok he]; rfl
theorem k_closed (A : Option Addr) (n c : Nat) (s : Int) (M : Option Addr) (m d : Nat) (E : Option Addr) (k g : Nat) (a : Au) (S : Nat) (v2 v3 : Value) (set ev : List Int) (w : World) (h : AuR w w.heap.size A n c s M m d E k g a) (hr : Right a) (hS : a.st = (S : Int)) (h2 : LsI w v2 set) (h3 : LsI w v3 ev) (l2 : set.length ≤ 100000) (hg : ∀ x ∈ set, 0 ≤ x ∧ x < (S : Int)) (hu : set.Pairwise (· < ·)) (he : Ev5 8 ev) :
    Calls Try.prog 34 #[.agg #[.slice A n c, .int .i64 s, .slice M m d, .slice E k g], v2, v3] w fun e w' => e = .returned (.tuple #[.bool (cloR4 a.ed set ev), .int .i64 0]) ∧ Below w.heap.size w w' := by
  obtain ⟨A2, c2, rfl, r2, q2, _⟩ := h2
  obtain ⟨A3, c3, rfl, r3, q3, _⟩ := h3
  have hl := Ev5.len (n := 8) he
  rw [← clo_eq hr hS hg]
  exact gClosed_any A n c s M m d E k g a A2 _ c2 set A3 _ c3 ev w h r2 rfl q2 l2 r3 rfl q3 (by omega) (gce_ok hr hS hg hu he)
theorem k_interior (A : Option Addr) (n c : Nat) (s : Int) (M : Option Addr) (m d : Nat) (E : Option Addr) (k g : Nat) (a : Au) (S : Nat) (v2 v3 : Value) (set ev : List Int) (w : World) (h : AuR w w.heap.size A n c s M m d E k g a) (hr : Right a) (hS : a.st = (S : Int)) (h2 : LsI w v2 set) (h3 : LsI w v3 ev) (l2 : set.length ≤ 100000) (hg : ∀ x ∈ set, 0 ≤ x ∧ x < (S : Int)) (hu : set.Pairwise (· < ·)) (he : Ev5 8 ev) :
    Calls Try.prog 35 #[.agg #[.slice A n c, .int .i64 s, .slice M m d, .slice E k g], v2, v3] w fun e w' => ∃ v, e = .returned (.tuple #[v, .int .i64 0]) ∧ LsI w' v (intR a set ev) ∧ Below w.heap.size w w' := by
  obtain ⟨A2, c2, rfl, r2, q2, _⟩ := h2
  obtain ⟨A3, c3, rfl, r3, q3, _⟩ := h3
  have hl := Ev5.len (n := 8) he
  have h0 := gce_ok hr hS hg hu he
  refine (gInterior_any A n c s M m d E k g a A2 _ c2 set A3 _ c3 ev w h r2 rfl q2 l2 r3 rfl q3 (by omega)).mono ?_
  rintro e w' ⟨v, rfl, ho, hb⟩
  rw [if_pos h0] at ho
  exact ⟨v, by rw [h0], LsI.own ho, hb⟩
set_option maxHeartbeats 8000000 in
set_option maxRecDepth 100000 in
theorem lawReachCloses (cs : Array Value) (x y : Int) (W : World) (S1 : SmC cs) (hx : 0 ≤ x ∧ x < 256) (hy : 0 ≤ y ∧ y < 256) : Calls Try.prog 8 #[.agg cs, .int .u8 x, .int .u8 y] W fun e w' => e = .returned (.bool true) ∧ Below W.heap.size W w' := by
  have hb1 := (Below.refl W.heap.size W).alloc (Nat.le_refl _) (.cells cs 25)
  have HB1 := Lib.hid hb1
  have HR1 := Lib.hid (show Row (W.alloc (.cells cs 25)) W.heap.size 25 cs.toList from Row.new W cs.toList 25)
  have HK := Lib.hid (known4_any (W.alloc (.cells cs 25)))
  have HMK := Lib.hid (fun w => make4_any cs w S1)
  have hsz := Lib.hid (show (Try.prog.info? 25).map (·.size) = some cs.toList.length by rw [sm_size]; simp [S1.sz])
  have HBT := Lib.hid (fun (S : Nat) (hS : S ≤ 8) w => bits_any x S w hx hS)
  have HBU := Lib.hid (fun w => bits_any y 8 w hy (Nat.le_refl _))
  clear hb1 S1 hx hy
  go_enter Try.func8, Try.ntmps8
  go_wp2_with fail
  refine HK.out.mono ?_
  rintro e w1 ⟨rfl, hb⟩
  have HB2 := Lib.hid (HB1.out.trans (hb.mono HB1.out.size))
  have HR2 := Lib.hid (HR1.out.below hb (by simp))
  have hrg := Lib.hid (row_range HR2.out)
  clear hb HR1 HK
  go_wp2_with (first
    | refine wpList_load_mid rfl 25 (.tmp 3) rfl W.heap.size 0 rfl cs.toList _ hrg.out Try.underlying25 rfl hsz.out ?_)
  refine (HMK.out w1).mono ?_
  rintro e w2 ⟨S, a, A, c, M, m, d, E, k, g, hok, rfl, hau, hA, hM, hb⟩
  have HB3 := Lib.hid (HB2.out.trans (hb.mono HB2.out.size))
  have hS1 := hok.s1
  have hS6 := hok.s6
  have HRt := Lib.hid hok.r
  have HST := Lib.hid hok.st
  obtain ⟨Bx, hBx⟩ : ∃ b, b = w2.heap.size := ⟨_, rfl⟩
  obtain ⟨W3, hW3⟩ : ∃ w, w = w2.alloc (.cells #[.slice A 4 c, .int .i64 (S : Int), .slice M m d, .slice E k g] 30) := ⟨_, rfl⟩
  have hb23 : Below w2.heap.size w2 W3 := by rw [hW3]; exact (Below.refl _ _).alloc (Nat.le_refl _) _
  have HB4 := Lib.hid (HB3.out.trans (hb23.mono HB3.out.size))
  have HX4 := Lib.hid (show BoxA W3 Bx A 4 c (S : Int) M m d E k g from by rw [hW3, hBx]; exact BoxA.made w2 A 4 c (S : Int) M m d E k g 30)
  have HAU4 := Lib.hid ((hau.below hb23 (Nat.le_refl _)).more hb23.size)
  have HW3 := Lib.hid hW3
  have HBX := Lib.hid hBx
  clear hok hau hA hM hb hb23 hW3 hBx hrg HR2 HB2 HB3 HB1 hsz HMK
  go_upto_region 4 with fail
  rw [← HW3.out, ← HBX.out]
  obtain ⟨p0, p1, p2, p3⟩ := HX4.out
  go_wp2_with fail
  refine (HBT.out S (by omega) W3).mono ?_
  rintro e w5 ⟨vs, set, rfl, ho, hev, hb⟩
  have HB5 := Lib.hid (HB4.out.trans (hb.mono HB4.out.size))
  have HX5 := Lib.hid (HX4.out.below hb (box_lt HX4.out))
  have HAU5 := Lib.hid ((HAU4.out.below hb (Nat.le_refl _)).more hb.size)
  have HVS := Lib.hid (LsI.own ho)
  have HG := Lib.hid hev.r
  have HU := Lib.hid hev.o
  have hls := hev.len
  clear hb ho hev p0 p1 p2 p3
  obtain ⟨p0, p1, p2, p3⟩ := HX5.out
  go_wp2_with fail
  refine (HBU.out w5).mono ?_
  rintro e w6 ⟨ve, ev, rfl, ho, hev, hb⟩
  have HB6 := Lib.hid (HB5.out.trans (hb.mono HB5.out.size))
  have HX6 := Lib.hid (HX5.out.below hb (box_lt HX5.out))
  have HAU6 := Lib.hid ((HAU5.out.below hb (Nat.le_refl _)).more hb.size)
  have HVS := Lib.hid (HVS.out.below hb)
  have HVE := Lib.hid (LsI.own ho)
  have HE := Lib.hid (show Ev5 8 ev from hev)
  have hle := Ev5.len (n := 8) HE.out
  clear hb ho hev p0 p1 p2 p3
  obtain ⟨p0, p1, p2, p3⟩ := HX6.out
  have HC := Lib.hid (k_closed A 4 c (S : Int) M m d E k g a S vs ve set ev w6 HAU6.out HRt.out HST.out HVS.out HVE.out (by omega) HG.out HU.out HE.out)
  obtain ⟨q, hq⟩ : ∃ q, q = cloR4 a.ed set ev := ⟨_, rfl⟩
  rw [← hq] at HC
  have HQ := Lib.hid hq
  have hqq : (q != q) = false := by simp
  clear hq
  go_wp2_with fail
  refine HC.out.mono ?_
  rintro e w7 ⟨rfl, hb⟩
  have HB7 := Lib.hid (HB6.out.trans (hb.mono HB6.out.size))
  have HX7 := Lib.hid (HX6.out.below hb (box_lt HX6.out))
  have HAU7 := Lib.hid ((HAU6.out.below hb (Nat.le_refl _)).more hb.size)
  have HVS := Lib.hid (HVS.out.below hb)
  have HVE := Lib.hid (HVE.out.below hb)
  clear hb p0 p1 p2 p3 HC
  obtain ⟨p0, p1, p2, p3⟩ := HX7.out
  have HC := Lib.hid (k_interior A 4 c (S : Int) M m d E k g a S vs ve set ev w7 HAU7.out HRt.out HST.out HVS.out HVE.out (by omega) HG.out HU.out HE.out)
  go_wp2_with fail
  refine HC.out.mono ?_
  rintro e w8 ⟨vi, rfl, hli, hb⟩
  have HB8 := Lib.hid (HB7.out.trans (hb.mono HB7.out.size))
  have HX8 := Lib.hid (HX7.out.below hb (box_lt HX7.out))
  have HAU8 := Lib.hid ((HAU7.out.below hb (Nat.le_refl _)).more hb.size)
  have HVS := Lib.hid (HVS.out.below hb)
  have HVE := Lib.hid (HVE.out.below hb)
  have HVI := Lib.hid hli
  clear hb p0 p1 p2 p3 HC hli
  obtain ⟨p0, p1, p2, p3⟩ := HX8.out
  have HC := Lib.hid (r4Cl_any A 4 c (S : Int) M m d E k g a vs ve set ev w8 HAU8.out HVS.out HVE.out (by omega) (by omega))
  rw [← HQ.out] at HC
  go_wp2_with fail
  refine HC.out.mono ?_
  rintro e w9 ⟨rfl, hb⟩
  have HB9 := Lib.hid (HB8.out.trans (hb.mono HB8.out.size))
  have HX9 := Lib.hid (HX8.out.below hb (box_lt HX8.out))
  have HAU9 := Lib.hid ((HAU8.out.below hb (Nat.le_refl _)).more hb.size)
  have HVS := Lib.hid (HVS.out.below hb)
  have HVE := Lib.hid (HVE.out.below hb)
  have HVI := Lib.hid (HVI.out.below hb)
  clear hb p0 p1 p2 p3 HC
  obtain ⟨p0, p1, p2, p3⟩ := HX9.out
  have HC := Lib.hid (r4In_any A 4 c (S : Int) M m d E k g a S vs ve set ev w9 HAU9.out rfl (by omega) HVS.out HVE.out (by omega) (by omega) HU.out)
  go_wp2_with fail
  refine HC.out.mono ?_
  rintro e w10 ⟨vr, out, rfl, hlr, hin, hb⟩
  have hie := in_eq HRt.out HST.out HG.out hin
  have HB10 := Lib.hid (HB9.out.trans (hb.mono HB9.out.size))
  have HX10 := Lib.hid (HX9.out.below hb (box_lt HX9.out))
  have HAU10 := Lib.hid ((HAU9.out.below hb (Nat.le_refl _)).more hb.size)
  have HVE := Lib.hid (HVE.out.below hb)
  have HVI := Lib.hid (show LsI w10 vi out from by rw [← hie]; exact HVI.out.below hb)
  have HIN := Lib.hid hin
  have hog : ∀ x ∈ out, 0 ≤ x ∧ x < (S : Int) := fun x hx => HG.out x ((hin.mem x).1 hx).1
  have hol := up_len hin.up hog
  have HOG := Lib.hid hog
  have HSM := Lib.hid (same4_ls vi vr out out w10 HVI.out hlr (by omega) (by omega) rfl)
  clear hb p0 p1 p2 p3 HC hlr hin hie hog
  obtain ⟨p0, p1, p2, p3⟩ := HX10.out
  go_wp2_with fail
  refine HSM.out.mono ?_
  rintro e w11 ⟨rfl, hb⟩
  have HB11 := Lib.hid (HB10.out.trans (hb.mono HB10.out.size))
  have HX11 := Lib.hid (HX10.out.below hb (box_lt HX10.out))
  have HAU11 := Lib.hid ((HAU10.out.below hb (Nat.le_refl _)).more hb.size)
  have HVE := Lib.hid (HVE.out.below hb)
  have HVI := Lib.hid (HVI.out.below hb)
  clear hb p0 p1 p2 p3 HSM
  obtain ⟨p0, p1, p2, p3⟩ := HX11.out
  have HC := Lib.hid (k_closed A 4 c (S : Int) M m d E k g a S vi ve out ev w11 HAU11.out HRt.out HST.out HVI.out HVE.out (by omega) HOG.out HIN.out.up HE.out)
  rw [in_closed HRt.out HST.out HIN.out] at HC
  go_wp2_with fail
  refine HC.out.mono ?_
  rintro e w12 ⟨rfl, hb⟩
  have HB12 := Lib.hid (HB11.out.trans (hb.mono HB11.out.size))
  clear hb p0 p1 p2 p3 HC
  go_wp2_with fail
  go_ret
  exact ⟨rfl, HB12.out⟩
end Go.Proofs.Ytceldgcmjmfjfaa
