/- The walk of the law AlphabetLaws. -/
import Derived.Test.YtmdambfapephpaaDoorLlaws
namespace Go.Proofs.YtmdambfapephpaaDoor
open Go.RowKit

def OpOf (f : FuncId) (x y z : List Int) : Prop := ∀ (W : World) (A C : Option Addr) (ca cb : Nat), RdI W W.heap.size A x → RdI W W.heap.size C y → x.length ≤ ca → y.length ≤ cb → ca ≤ 9223372036854775807 → cb ≤ 9223372036854775807 →
  Calls Tryd.prog f #[.slice A x.length ca, .slice C y.length cb] W fun e w' => GivesC W z e w'
theorem opU {x y z : List Int} (hx : x.length ≤ 64) (hy : y.length ≤ 64) (hz : un x y = z) : OpOf 11 x y z := fun W A C ca cb rx ry h1 h2 h3 h4 => by
  subst hz; exact aUnion_any A C x.length ca y.length cb x y W rx ry rfl rfl h1 h2 (by omega) (by omega) h3 h4
theorem opI {x y z : List Int} (hx : x.length ≤ 64) (hy : y.length ≤ 64) (hi : Inc y) (hz : inter x y = z) : OpOf 12 x y z := fun W A C ca cb rx ry _ _ _ _ => by
  subst hz; exact aIntersectC_any A C x.length ca y.length cb x y W rx ry rfl rfl (by omega) (by omega) (up_of_pairwise hi)
theorem opM {x y z : List Int} (hx : x.length ≤ 64) (hy : y.length ≤ 64) (hi : Inc y) (hz : minus x y = z) : OpOf 13 x y z := fun W A C ca cb rx ry _ _ _ _ => by
  subst hz; exact aMinusC_any A C x.length ca y.length cb x y W rx ry rfl rfl (by omega) (by omega) (up_of_pairwise hi)

set_option maxHeartbeats 6400000 in
theorem lawLaws (m n o : Int) (w : World) (hm : (Lit.int .u32 m).wf = true) (hn : (Lit.int .u32 n).wf = true) (ho : (Lit.int .u32 o).wf = true) (hT : TabAt 0 Lib.deBruijn32tab w) :
    Calls Tryd.prog 4 #[.int .u32 m, .int .u32 n, .int .u32 o] w fun e w' => e = .returned (.bool true) ∧ Below w.heap.size w w' := by
  have HK := Lib.hid known_any
  have hz0 := tab_pos hT
  have hm0 := bounds_u32 hm
  have hn0 := bounds_u32 hn
  have ho0 := bounds_u32 ho
  obtain ⟨mk, rfl⟩ := Int.eq_ofNat_of_zero_le hm0.1
  obtain ⟨nk, rfl⟩ := Int.eq_ofNat_of_zero_le hn0.1
  obtain ⟨ok, rfl⟩ := Int.eq_ofNat_of_zero_le ho0.1
  have HSA := Lib.hid (fun w1 (h : Below w.heap.size w w1) => aSet_any mk w1 (by omega) (tab_below hT h hz0) (Nat.lt_of_lt_of_le hz0 h.size))
  have HSB := Lib.hid (fun w1 (h : Below w.heap.size w w1) => aSet_any nk w1 (by omega) (tab_below hT h hz0) (Nat.lt_of_lt_of_le hz0 h.size))
  have HSC := Lib.hid (fun w1 (h : Below w.heap.size w w1) => aSet_any ok w1 (by omega) (tab_below hT h hz0) (Nat.lt_of_lt_of_le hz0 h.size))
  have la := setZ_len (mk : Int)
  have lb := setZ_len (nk : Int)
  have lc := setZ_len (ok : Int)
  have ia : Inc (setZ (mk : Int)) := bf_up 32 0 _
  have ib : Inc (setZ (nk : Int)) := bf_up 32 0 _
  have ic : Inc (setZ (ok : Int)) := bf_up 32 0 _
  obtain ⟨a, ha⟩ : ∃ a, a = setZ (mk : Int) := ⟨_, rfl⟩
  obtain ⟨b, hb⟩ : ∃ b, b = setZ (nk : Int) := ⟨_, rfl⟩
  obtain ⟨c, hc⟩ : ∃ c, c = setZ (ok : Int) := ⟨_, rfl⟩
  rw [← ha] at HSA la ia
  rw [← hb] at HSB lb ib
  rw [← hc] at HSC lc ic
  clear ha hb hc hm hn ho hm0 hn0 ho0 hT
  obtain ⟨u1, hu1⟩ : ∃ z, un a b = z := ⟨_, rfl⟩
  obtain ⟨u2, hu2⟩ : ∃ z, un b c = z := ⟨_, rfl⟩
  obtain ⟨i1, hi1⟩ : ∃ z, inter a b = z := ⟨_, rfl⟩
  obtain ⟨i2, hi2⟩ : ∃ z, inter a c = z := ⟨_, rfl⟩
  obtain ⟨m1, hm1⟩ : ∃ z, minus a b = z := ⟨_, rfl⟩
  obtain ⟨m2, hm2⟩ : ∃ z, minus a c = z := ⟨_, rfl⟩
  obtain ⟨le, hle⟩ : ∃ z, minus a u2 = z := ⟨_, rfl⟩
  obtain ⟨i3, hi3⟩ : ∃ z, inter a u2 = z := ⟨_, rfl⟩
  have iu2 : Inc u2 := by rw [← hu2]; exact un_sorted _ _ ib ic
  have lu1 : u1.length ≤ 64 := by rw [← hu1]; have := un_len a b; omega
  have lu2 : u2.length ≤ 64 := by rw [← hu2]; have := un_len b c; omega
  have li1 : i1.length ≤ 32 := by rw [← hi1]; exact Nat.le_trans (List.length_filter_le _ _) la
  have li2 : i2.length ≤ 32 := by rw [← hi2]; exact Nat.le_trans (List.length_filter_le _ _) la
  have li3 : i3.length ≤ 32 := by rw [← hi3]; exact Nat.le_trans (List.length_filter_le _ _) la
  have lm1 : m1.length ≤ 32 := by rw [← hm1]; exact Nat.le_trans (List.length_filter_le _ _) la
  have lm2 : m2.length ≤ 32 := by rw [← hm2]; exact Nat.le_trans (List.length_filter_le _ _) la
  have lle : le.length ≤ 32 := by rw [← hle]; exact Nat.le_trans (List.length_filter_le _ _) la
  have im2 : Inc m2 := by rw [← hm2]; exact inc_minus ia
  have Uab := Lib.hid (opU (x := a) (y := b) (by omega) (by omega) hu1)
  have Uba := Lib.hid (opU (x := b) (y := a) (by omega) (by omega) ((law_un ia ib).trans hu1))
  have Iab := Lib.hid (opI (x := a) (y := b) (by omega) (by omega) ib hi1)
  have Iba := Lib.hid (opI (x := b) (y := a) (by omega) (by omega) ia ((law_inter ia ib).trans hi1))
  have Ubc := Lib.hid (opU (x := b) (y := c) (by omega) (by omega) hu2)
  have Mau := Lib.hid (opM (x := a) (y := u2) (by omega) (by omega) iu2 hle)
  have Mab := Lib.hid (opM (x := a) (y := b) (by omega) (by omega) ib hm1)
  have Mac := Lib.hid (opM (x := a) (y := c) (by omega) (by omega) ic hm2)
  have Imm := Lib.hid (opI (x := m1) (y := m2) (by omega) (by omega) im2 (show inter m1 m2 = le by rw [← hm1, ← hm2, law_minus ia, hu2, hle]))
  have Iau := Lib.hid (opI (x := a) (y := u2) (by omega) (by omega) iu2 hi3)
  have Iac := Lib.hid (opI (x := a) (y := c) (by omega) (by omega) ic hi2)
  have Uii := Lib.hid (opU (x := i1) (y := i2) (by omega) (by omega) (show un i1 i2 = i3 by rw [← hi1, ← hi2, law_dist ia, hu2, hi3]))
  have Umi := Lib.hid (opU (x := m1) (y := i1) (by omega) (by omega) (show un m1 i1 = a by rw [← hm1, ← hi1, law_split ia]))
  have hsub : subB i1 a = true := by rw [← hi1]; exact law_sub a b
  have HSUB := Lib.hid (fun A C ca cb W (rx : RdI W W.heap.size A i1) (ry : RdI W W.heap.size C a) => aSubset_any A C i1.length ca a.length cb W.heap.size W.heap.size i1 a W rx ry rfl rfl (by omega) (by omega) (up_of_pairwise ia))
  rw [hsub] at HSUB
  clear hu1 hu2 hi1 hi2 hm1 hm2 hle hi3 iu2 ia ib ic im2 hsub
  go_enter Tryd.func4, Tryd.ntmps4
  go_wp2_with fail
  refine (HK.out _).mono ?_
  rintro e w1 ⟨rfl, hz1⟩
  go_wp2_with fail
  refine (HSA.out _ hz1).mono ?_
  rintro e w2 ⟨Aa, ca, rfl, hra, hbb2, hpa, hqa⟩
  have hz2 := hz1.trans (hbb2.mono hz1.size)
  clear hz1 hbb2
  have HRa := Lib.hid (fun W (h : Below w2.heap.size w2 W) => hra.below h (Nat.le_refl _))
  clear hra
  have ga2 := Below.refl w2.heap.size w2
  go_wp2_with fail
  refine (HSB.out _ hz2).mono ?_
  rintro e w3 ⟨Ab, cb, rfl, hrb, hbb3, hpb, hqb⟩
  have hz3 := hz2.trans (hbb3.mono hz2.size)
  have ga3 := ga2.trans (hbb3.mono ga2.size)
  clear hz2 ga2 hbb3
  have HRb := Lib.hid (fun W (h : Below w3.heap.size w3 W) => hrb.below h (Nat.le_refl _))
  clear hrb
  have gb3 := Below.refl w3.heap.size w3
  go_wp2_with fail
  refine (HSC.out _ hz3).mono ?_
  rintro e w4 ⟨Ac, cc, rfl, hrc, hbb4, hpc, hqc⟩
  have hz4 := hz3.trans (hbb4.mono hz3.size)
  have ga4 := ga3.trans (hbb4.mono ga3.size)
  have gb4 := gb3.trans (hbb4.mono gb3.size)
  clear hz3 ga3 gb3 hbb4
  have HRc := Lib.hid (fun W (h : Below w4.heap.size w4 W) => hrc.below h (Nat.le_refl _))
  clear hrc
  have gc4 := Below.refl w4.heap.size w4
  go_wp2_with fail
  refine (Uab.out _ Aa Ab ca cb ((HRa.out _ ga4).more ga4.size) ((HRb.out _ gb4).more gb4.size) hpa hpb hqa hqb).mono ?_
  rintro e w5 ⟨Ap, cp, rfl, hrp, hbb5, hpp, hqp⟩
  have hz5 := hz4.trans (hbb5.mono hz4.size)
  have ga5 := ga4.trans (hbb5.mono ga4.size)
  have gb5 := gb4.trans (hbb5.mono gb4.size)
  have gc5 := gc4.trans (hbb5.mono gc4.size)
  clear hz4 ga4 gb4 gc4 hbb5
  have HRp := Lib.hid (fun W (h : Below w5.heap.size w5 W) => hrp.below h (Nat.le_refl _))
  clear hrp
  have gp5 := Below.refl w5.heap.size w5
  go_wp2_with fail
  refine (Uba.out _ Ab Aa cb ca ((HRb.out _ gb5).more gb5.size) ((HRa.out _ ga5).more ga5.size) hpb hpa hqb hqa).mono ?_
  rintro e w6 ⟨Aq, cq, rfl, hrq, hbb6, hpq, hqq⟩
  have hz6 := hz5.trans (hbb6.mono hz5.size)
  have ga6 := ga5.trans (hbb6.mono ga5.size)
  have gb6 := gb5.trans (hbb6.mono gb5.size)
  have gc6 := gc5.trans (hbb6.mono gc5.size)
  have gp6 := gp5.trans (hbb6.mono gp5.size)
  clear hz5 ga5 gb5 gc5 gp5 hbb6
  have HRq := Lib.hid (fun W (h : Below w6.heap.size w6 W) => hrq.below h (Nat.le_refl _))
  clear hrq
  have gq6 := Below.refl w6.heap.size w6
  go_wp2_with fail
  refine (same_yes Ap Aq _ _ cp cq _ _ u1 u1 _ ((HRp.out _ gp6).more gp6.size) ((HRq.out _ gq6).more gq6.size) rfl rfl (by omega) (by omega) rfl).mono ?_
  rintro e w7 ⟨rfl, hbb7⟩
  have hz7 := hz6.trans (hbb7.mono hz6.size)
  have ga7 := ga6.trans (hbb7.mono ga6.size)
  have gb7 := gb6.trans (hbb7.mono gb6.size)
  have gc7 := gc6.trans (hbb7.mono gc6.size)
  have gp7 := gp6.trans (hbb7.mono gp6.size)
  have gq7 := gq6.trans (hbb7.mono gq6.size)
  clear hz6 ga6 gb6 gc6 gp6 gq6 hbb7
  clear HRp gp7
  clear HRq gq7
  go_wp2_with fail
  refine (Iab.out _ Aa Ab ca cb ((HRa.out _ ga7).more ga7.size) ((HRb.out _ gb7).more gb7.size) hpa hpb hqa hqb).mono ?_
  rintro e w8 ⟨Ap, cp, rfl, hrp, hbb8, hpp, hqp⟩
  have hz8 := hz7.trans (hbb8.mono hz7.size)
  have ga8 := ga7.trans (hbb8.mono ga7.size)
  have gb8 := gb7.trans (hbb8.mono gb7.size)
  have gc8 := gc7.trans (hbb8.mono gc7.size)
  clear hz7 ga7 gb7 gc7 hbb8
  have HRp := Lib.hid (fun W (h : Below w8.heap.size w8 W) => hrp.below h (Nat.le_refl _))
  clear hrp
  have gp8 := Below.refl w8.heap.size w8
  go_wp2_with fail
  refine (Iba.out _ Ab Aa cb ca ((HRb.out _ gb8).more gb8.size) ((HRa.out _ ga8).more ga8.size) hpb hpa hqb hqa).mono ?_
  rintro e w9 ⟨Aq, cq, rfl, hrq, hbb9, hpq, hqq⟩
  have hz9 := hz8.trans (hbb9.mono hz8.size)
  have ga9 := ga8.trans (hbb9.mono ga8.size)
  have gb9 := gb8.trans (hbb9.mono gb8.size)
  have gc9 := gc8.trans (hbb9.mono gc8.size)
  have gp9 := gp8.trans (hbb9.mono gp8.size)
  clear hz8 ga8 gb8 gc8 gp8 hbb9
  have HRq := Lib.hid (fun W (h : Below w9.heap.size w9 W) => hrq.below h (Nat.le_refl _))
  clear hrq
  have gq9 := Below.refl w9.heap.size w9
  go_wp2_with fail
  refine (same_yes Ap Aq _ _ cp cq _ _ i1 i1 _ ((HRp.out _ gp9).more gp9.size) ((HRq.out _ gq9).more gq9.size) rfl rfl (by omega) (by omega) rfl).mono ?_
  rintro e w10 ⟨rfl, hbb10⟩
  have hz10 := hz9.trans (hbb10.mono hz9.size)
  have ga10 := ga9.trans (hbb10.mono ga9.size)
  have gb10 := gb9.trans (hbb10.mono gb9.size)
  have gc10 := gc9.trans (hbb10.mono gc9.size)
  have gp10 := gp9.trans (hbb10.mono gp9.size)
  have gq10 := gq9.trans (hbb10.mono gq9.size)
  clear hz9 ga9 gb9 gc9 gp9 gq9 hbb10
  clear HRp gp10
  clear HRq gq10
  go_wp2_with fail
  refine (Ubc.out _ Ab Ac cb cc ((HRb.out _ gb10).more gb10.size) ((HRc.out _ gc10).more gc10.size) hpb hpc hqb hqc).mono ?_
  rintro e w11 ⟨Au, cu, rfl, hru, hbb11, hpu, hqu⟩
  have hz11 := hz10.trans (hbb11.mono hz10.size)
  have ga11 := ga10.trans (hbb11.mono ga10.size)
  have gb11 := gb10.trans (hbb11.mono gb10.size)
  have gc11 := gc10.trans (hbb11.mono gc10.size)
  clear hz10 ga10 gb10 gc10 hbb11
  have HRu := Lib.hid (fun W (h : Below w11.heap.size w11 W) => hru.below h (Nat.le_refl _))
  clear hru
  have gu11 := Below.refl w11.heap.size w11
  go_wp2_with fail
  refine (Mau.out _ Aa Au ca cu ((HRa.out _ ga11).more ga11.size) ((HRu.out _ gu11).more gu11.size) hpa hpu hqa hqu).mono ?_
  rintro e w12 ⟨Al, cl, rfl, hrl, hbb12, hpl, hql⟩
  have hz12 := hz11.trans (hbb12.mono hz11.size)
  have ga12 := ga11.trans (hbb12.mono ga11.size)
  have gb12 := gb11.trans (hbb12.mono gb11.size)
  have gc12 := gc11.trans (hbb12.mono gc11.size)
  have gu12 := gu11.trans (hbb12.mono gu11.size)
  clear hz11 ga11 gb11 gc11 gu11 hbb12
  have HRl := Lib.hid (fun W (h : Below w12.heap.size w12 W) => hrl.below h (Nat.le_refl _))
  clear hrl
  have gl12 := Below.refl w12.heap.size w12
  clear HRu gu12
  go_wp2_with fail
  refine (Mab.out _ Aa Ab ca cb ((HRa.out _ ga12).more ga12.size) ((HRb.out _ gb12).more gb12.size) hpa hpb hqa hqb).mono ?_
  rintro e w13 ⟨Ap, cp, rfl, hrp, hbb13, hpp, hqp⟩
  have hz13 := hz12.trans (hbb13.mono hz12.size)
  have ga13 := ga12.trans (hbb13.mono ga12.size)
  have gb13 := gb12.trans (hbb13.mono gb12.size)
  have gc13 := gc12.trans (hbb13.mono gc12.size)
  have gl13 := gl12.trans (hbb13.mono gl12.size)
  clear hz12 ga12 gb12 gc12 gl12 hbb13
  have HRp := Lib.hid (fun W (h : Below w13.heap.size w13 W) => hrp.below h (Nat.le_refl _))
  clear hrp
  have gp13 := Below.refl w13.heap.size w13
  go_wp2_with fail
  refine (Mac.out _ Aa Ac ca cc ((HRa.out _ ga13).more ga13.size) ((HRc.out _ gc13).more gc13.size) hpa hpc hqa hqc).mono ?_
  rintro e w14 ⟨Aq, cq, rfl, hrq, hbb14, hpq, hqq⟩
  have hz14 := hz13.trans (hbb14.mono hz13.size)
  have ga14 := ga13.trans (hbb14.mono ga13.size)
  have gb14 := gb13.trans (hbb14.mono gb13.size)
  have gc14 := gc13.trans (hbb14.mono gc13.size)
  have gl14 := gl13.trans (hbb14.mono gl13.size)
  have gp14 := gp13.trans (hbb14.mono gp13.size)
  clear hz13 ga13 gb13 gc13 gl13 gp13 hbb14
  have HRq := Lib.hid (fun W (h : Below w14.heap.size w14 W) => hrq.below h (Nat.le_refl _))
  clear hrq
  have gq14 := Below.refl w14.heap.size w14
  go_wp2_with fail
  refine (Imm.out _ Ap Aq cp cq ((HRp.out _ gp14).more gp14.size) ((HRq.out _ gq14).more gq14.size) hpp hpq hqp hqq).mono ?_
  rintro e w15 ⟨Ar, cr, rfl, hrr, hbb15, hpr, hqr⟩
  have hz15 := hz14.trans (hbb15.mono hz14.size)
  have ga15 := ga14.trans (hbb15.mono ga14.size)
  have gb15 := gb14.trans (hbb15.mono gb14.size)
  have gc15 := gc14.trans (hbb15.mono gc14.size)
  have gl15 := gl14.trans (hbb15.mono gl14.size)
  have gp15 := gp14.trans (hbb15.mono gp14.size)
  have gq15 := gq14.trans (hbb15.mono gq14.size)
  clear hz14 ga14 gb14 gc14 gl14 gp14 gq14 hbb15
  have HRr := Lib.hid (fun W (h : Below w15.heap.size w15 W) => hrr.below h (Nat.le_refl _))
  clear hrr
  have gr15 := Below.refl w15.heap.size w15
  clear HRp gp15
  clear HRq gq15
  go_wp2_with fail
  refine (Ubc.out _ Ab Ac cb cc ((HRb.out _ gb15).more gb15.size) ((HRc.out _ gc15).more gc15.size) hpb hpc hqb hqc).mono ?_
  rintro e w16 ⟨Au, cu, rfl, hru, hbb16, hpu, hqu⟩
  have hz16 := hz15.trans (hbb16.mono hz15.size)
  have ga16 := ga15.trans (hbb16.mono ga15.size)
  have gb16 := gb15.trans (hbb16.mono gb15.size)
  have gc16 := gc15.trans (hbb16.mono gc15.size)
  have gl16 := gl15.trans (hbb16.mono gl15.size)
  have gr16 := gr15.trans (hbb16.mono gr15.size)
  clear hz15 ga15 gb15 gc15 gl15 gr15 hbb16
  have HRu := Lib.hid (fun W (h : Below w16.heap.size w16 W) => hru.below h (Nat.le_refl _))
  clear hru
  have gu16 := Below.refl w16.heap.size w16
  go_wp2_with fail
  refine (Iau.out _ Aa Au ca cu ((HRa.out _ ga16).more ga16.size) ((HRu.out _ gu16).more gu16.size) hpa hpu hqa hqu).mono ?_
  rintro e w17 ⟨Ax, cx, rfl, hrx, hbb17, hpx, hqx⟩
  have hz17 := hz16.trans (hbb17.mono hz16.size)
  have ga17 := ga16.trans (hbb17.mono ga16.size)
  have gb17 := gb16.trans (hbb17.mono gb16.size)
  have gc17 := gc16.trans (hbb17.mono gc16.size)
  have gl17 := gl16.trans (hbb17.mono gl16.size)
  have gr17 := gr16.trans (hbb17.mono gr16.size)
  have gu17 := gu16.trans (hbb17.mono gu16.size)
  clear hz16 ga16 gb16 gc16 gl16 gr16 gu16 hbb17
  have HRx := Lib.hid (fun W (h : Below w17.heap.size w17 W) => hrx.below h (Nat.le_refl _))
  clear hrx
  have gx17 := Below.refl w17.heap.size w17
  clear HRu gu17
  go_wp2_with fail
  refine (Iab.out _ Aa Ab ca cb ((HRa.out _ ga17).more ga17.size) ((HRb.out _ gb17).more gb17.size) hpa hpb hqa hqb).mono ?_
  rintro e w18 ⟨Ap, cp, rfl, hrp, hbb18, hpp, hqp⟩
  have hz18 := hz17.trans (hbb18.mono hz17.size)
  have ga18 := ga17.trans (hbb18.mono ga17.size)
  have gb18 := gb17.trans (hbb18.mono gb17.size)
  have gc18 := gc17.trans (hbb18.mono gc17.size)
  have gl18 := gl17.trans (hbb18.mono gl17.size)
  have gr18 := gr17.trans (hbb18.mono gr17.size)
  have gx18 := gx17.trans (hbb18.mono gx17.size)
  clear hz17 ga17 gb17 gc17 gl17 gr17 gx17 hbb18
  have HRp := Lib.hid (fun W (h : Below w18.heap.size w18 W) => hrp.below h (Nat.le_refl _))
  clear hrp
  have gp18 := Below.refl w18.heap.size w18
  go_wp2_with fail
  refine (Iac.out _ Aa Ac ca cc ((HRa.out _ ga18).more ga18.size) ((HRc.out _ gc18).more gc18.size) hpa hpc hqa hqc).mono ?_
  rintro e w19 ⟨Aq, cq, rfl, hrq, hbb19, hpq, hqq⟩
  have hz19 := hz18.trans (hbb19.mono hz18.size)
  have ga19 := ga18.trans (hbb19.mono ga18.size)
  have gb19 := gb18.trans (hbb19.mono gb18.size)
  have gc19 := gc18.trans (hbb19.mono gc18.size)
  have gl19 := gl18.trans (hbb19.mono gl18.size)
  have gr19 := gr18.trans (hbb19.mono gr18.size)
  have gx19 := gx18.trans (hbb19.mono gx18.size)
  have gp19 := gp18.trans (hbb19.mono gp18.size)
  clear hz18 ga18 gb18 gc18 gl18 gr18 gx18 gp18 hbb19
  have HRq := Lib.hid (fun W (h : Below w19.heap.size w19 W) => hrq.below h (Nat.le_refl _))
  clear hrq
  have gq19 := Below.refl w19.heap.size w19
  go_wp2_with fail
  refine (Uii.out _ Ap Aq cp cq ((HRp.out _ gp19).more gp19.size) ((HRq.out _ gq19).more gq19.size) hpp hpq hqp hqq).mono ?_
  rintro e w20 ⟨Ay, cy, rfl, hry, hbb20, hpy, hqy⟩
  have hz20 := hz19.trans (hbb20.mono hz19.size)
  have ga20 := ga19.trans (hbb20.mono ga19.size)
  have gb20 := gb19.trans (hbb20.mono gb19.size)
  have gc20 := gc19.trans (hbb20.mono gc19.size)
  have gl20 := gl19.trans (hbb20.mono gl19.size)
  have gr20 := gr19.trans (hbb20.mono gr19.size)
  have gx20 := gx19.trans (hbb20.mono gx19.size)
  have gp20 := gp19.trans (hbb20.mono gp19.size)
  have gq20 := gq19.trans (hbb20.mono gq19.size)
  clear hz19 ga19 gb19 gc19 gl19 gr19 gx19 gp19 gq19 hbb20
  have HRy := Lib.hid (fun W (h : Below w20.heap.size w20 W) => hry.below h (Nat.le_refl _))
  clear hry
  have gy20 := Below.refl w20.heap.size w20
  clear HRp gp20
  clear HRq gq20
  go_wp2_with fail
  refine (same_yes Al Ar _ _ cl cr _ _ le le _ ((HRl.out _ gl20).more gl20.size) ((HRr.out _ gr20).more gr20.size) rfl rfl (by omega) (by omega) rfl).mono ?_
  rintro e w21 ⟨rfl, hbb21⟩
  have hz21 := hz20.trans (hbb21.mono hz20.size)
  have ga21 := ga20.trans (hbb21.mono ga20.size)
  have gb21 := gb20.trans (hbb21.mono gb20.size)
  have gc21 := gc20.trans (hbb21.mono gc20.size)
  have gl21 := gl20.trans (hbb21.mono gl20.size)
  have gr21 := gr20.trans (hbb21.mono gr20.size)
  have gx21 := gx20.trans (hbb21.mono gx20.size)
  have gy21 := gy20.trans (hbb21.mono gy20.size)
  clear hz20 ga20 gb20 gc20 gl20 gr20 gx20 gy20 hbb21
  go_wp2_with fail
  refine (same_yes Ax Ay _ _ cx cy _ _ i3 i3 _ ((HRx.out _ gx21).more gx21.size) ((HRy.out _ gy21).more gy21.size) rfl rfl (by omega) (by omega) rfl).mono ?_
  rintro e w22 ⟨rfl, hbb22⟩
  have hz22 := hz21.trans (hbb22.mono hz21.size)
  have ga22 := ga21.trans (hbb22.mono ga21.size)
  have gb22 := gb21.trans (hbb22.mono gb21.size)
  have gc22 := gc21.trans (hbb22.mono gc21.size)
  have gl22 := gl21.trans (hbb22.mono gl21.size)
  have gr22 := gr21.trans (hbb22.mono gr21.size)
  have gx22 := gx21.trans (hbb22.mono gx21.size)
  have gy22 := gy21.trans (hbb22.mono gy21.size)
  clear hz21 ga21 gb21 gc21 gl21 gr21 gx21 gy21 hbb22
  clear HRl gl22
  clear HRr gr22
  clear HRx gx22
  clear HRy gy22
  go_wp2_with fail
  refine (Mab.out _ Aa Ab ca cb ((HRa.out _ ga22).more ga22.size) ((HRb.out _ gb22).more gb22.size) hpa hpb hqa hqb).mono ?_
  rintro e w23 ⟨Ap, cp, rfl, hrp, hbb23, hpp, hqp⟩
  have hz23 := hz22.trans (hbb23.mono hz22.size)
  have ga23 := ga22.trans (hbb23.mono ga22.size)
  have gb23 := gb22.trans (hbb23.mono gb22.size)
  have gc23 := gc22.trans (hbb23.mono gc22.size)
  clear hz22 ga22 gb22 gc22 hbb23
  have HRp := Lib.hid (fun W (h : Below w23.heap.size w23 W) => hrp.below h (Nat.le_refl _))
  clear hrp
  have gp23 := Below.refl w23.heap.size w23
  go_wp2_with fail
  refine (Iab.out _ Aa Ab ca cb ((HRa.out _ ga23).more ga23.size) ((HRb.out _ gb23).more gb23.size) hpa hpb hqa hqb).mono ?_
  rintro e w24 ⟨Aq, cq, rfl, hrq, hbb24, hpq, hqq⟩
  have hz24 := hz23.trans (hbb24.mono hz23.size)
  have ga24 := ga23.trans (hbb24.mono ga23.size)
  have gb24 := gb23.trans (hbb24.mono gb23.size)
  have gc24 := gc23.trans (hbb24.mono gc23.size)
  have gp24 := gp23.trans (hbb24.mono gp23.size)
  clear hz23 ga23 gb23 gc23 gp23 hbb24
  have HRq := Lib.hid (fun W (h : Below w24.heap.size w24 W) => hrq.below h (Nat.le_refl _))
  clear hrq
  have gq24 := Below.refl w24.heap.size w24
  go_wp2_with fail
  refine (Umi.out _ Ap Aq cp cq ((HRp.out _ gp24).more gp24.size) ((HRq.out _ gq24).more gq24.size) hpp hpq hqp hqq).mono ?_
  rintro e w25 ⟨As, cs, rfl, hrs, hbb25, hps, hqs⟩
  have hz25 := hz24.trans (hbb25.mono hz24.size)
  have ga25 := ga24.trans (hbb25.mono ga24.size)
  have gb25 := gb24.trans (hbb25.mono gb24.size)
  have gc25 := gc24.trans (hbb25.mono gc24.size)
  have gp25 := gp24.trans (hbb25.mono gp24.size)
  have gq25 := gq24.trans (hbb25.mono gq24.size)
  clear hz24 ga24 gb24 gc24 gp24 gq24 hbb25
  have HRs := Lib.hid (fun W (h : Below w25.heap.size w25 W) => hrs.below h (Nat.le_refl _))
  clear hrs
  have gs25 := Below.refl w25.heap.size w25
  clear HRp gp25
  clear HRq gq25
  go_wp2_with fail
  refine (same_yes As Aa _ _ cs ca _ _ a a _ ((HRs.out _ gs25).more gs25.size) ((HRa.out _ ga25).more ga25.size) rfl rfl (by omega) (by omega) rfl).mono ?_
  rintro e w26 ⟨rfl, hbb26⟩
  have hz26 := hz25.trans (hbb26.mono hz25.size)
  have ga26 := ga25.trans (hbb26.mono ga25.size)
  have gb26 := gb25.trans (hbb26.mono gb25.size)
  have gc26 := gc25.trans (hbb26.mono gc25.size)
  have gs26 := gs25.trans (hbb26.mono gs25.size)
  clear hz25 ga25 gb25 gc25 gs25 hbb26
  clear HRs gs26
  go_wp2_with fail
  refine (Iab.out _ Aa Ab ca cb ((HRa.out _ ga26).more ga26.size) ((HRb.out _ gb26).more gb26.size) hpa hpb hqa hqb).mono ?_
  rintro e w27 ⟨Ap, cp, rfl, hrp, hbb27, hpp, hqp⟩
  have hz27 := hz26.trans (hbb27.mono hz26.size)
  have ga27 := ga26.trans (hbb27.mono ga26.size)
  have gb27 := gb26.trans (hbb27.mono gb26.size)
  have gc27 := gc26.trans (hbb27.mono gc26.size)
  clear hz26 ga26 gb26 gc26 hbb27
  have HRp := Lib.hid (fun W (h : Below w27.heap.size w27 W) => hrp.below h (Nat.le_refl _))
  clear hrp
  have gp27 := Below.refl w27.heap.size w27
  go_wp2_with fail
  refine (HSUB.out _ _ _ _ _ ((HRp.out _ gp27).more gp27.size) ((HRa.out _ ga27).more ga27.size)).mono ?_
  rintro e w' ⟨rfl, rfl⟩
  go_wp2
  go_ret
  exact ⟨rfl, hz27⟩
end Go.Proofs.YtmdambfapephpaaDoor
