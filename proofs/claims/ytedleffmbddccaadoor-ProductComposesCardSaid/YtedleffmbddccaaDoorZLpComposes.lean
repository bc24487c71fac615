/- Layer 6: the law of Synchronous and Compose, walked. -/
import Derived.Test.YtedleffmbddccaaDoorZa11
set_option linter.unusedVariables false
set_option linter.unusedSimpArgs false
set_option linter.unusedSectionVars false
namespace Go.Proofs.YtedleffmbddccaaDoor
open Go.RowKit Go.Sort

set_option maxHeartbeats 8000000 in
set_option maxRecDepth 100000 in
theorem lawComposes (A : Option Addr) (n c : Nat) (ps : List Pt) (w : World) (h : RdPs w w.heap.size A ps) (hn : ps.length = n) (hok : ∀ p ∈ ps, PtOk p) (hT : TabAt 0 Lib.deBruijn32tab w) :
    Calls Tryd.prog 4 #[.slice A n c] w fun e w' => e = .returned (.bool true) ∧ Below w.heap.size w w' := by
  have hz := tab_pos hT
  have HK := Lib.hid (known_any w hT hz)
  have HLi := Lib.hid (fun W (hW : Below w.heap.size w W) => list_any A n c ps W ((h.below hW (Nat.le_refl _)).more hW.size) hn hok)
  have HB := Lib.hid (Below.refl w.heap.size w)
  clear h hn hok hT hz
  go_enter Tryd.func4, Tryd.ntmps4
  go_wp2_with fail
  refine (HK.out).mono ?_
  rintro e w1 ⟨rfl, hb⟩
  have HB := Lib.hid (HB.out.trans (hb.mono HB.out.size))
  clear hb
  clear HK
  go_wp2_with fail
  refine (HLi.out _ HB.out).mono ?_
  rintro e w2 ⟨Al, cl, las, rfl, hl3, hrl, hok, _, _, hb⟩
  have HB := Lib.hid (HB.out.trans (hb.mono HB.out.size))
  clear hb
  obtain ⟨nl, hnl⟩ : ∃ nl, nl = las.length := ⟨_, rfl⟩
  rw [← hnl] at hl3 ⊢
  have hnl3 : nl ≤ 3 := by omega
  have HNL := Lib.hid hnl.symm
  have HAS := Lib.hid hrl
  have HSY := Lib.hid (las_syn hok (by omega))
  have HST := Lib.hid (show (prodA las).st ≤ 5000 by have := las_st hok (by omega); omega)
  have HFN := las_fnd hok (by omega)
  have HRW := Lib.hid (las_rw hok)
  obtain ⟨pa, hpa⟩ : ∃ pa, pa = canA (prodA las) := ⟨_, rfl⟩
  obtain ⟨ts, hts⟩ : ∃ ts, ts = (fnd (prodA las)).map (dcT (stsT las)) := ⟨_, rfl⟩
  have htl : ts.length ≤ 125 := by rw [hts, List.length_map]; exact HFN
  have HTS := Lib.hid (show ∀ z ∈ ts, z.length ≤ 4096 from fun z hz => by rw [hts] at hz; obtain ⟨y, _, rfl⟩ := List.mem_map.1 hz; rw [dc_le, stsT, List.length_map]; omega)
  have HPA := Lib.hid hpa
  have HTV := Lib.hid hts
  rw [← hpa, ← hts] at HSY
  clear hl3 hnl hrl hok HLi hpa hts HFN
  go_wp2_with fail
  refine (g_sync HAS.out HNL.out HSY.out).mono ?_
  rintro e w3 ⟨A1, n1, c1, s1, M1, m1, d1, E1, k1, g1, T1, l1, t1, rfl, hl1, ha1, hr1, hb⟩
  have HB := Lib.hid (HB.out.trans (hb.mono HB.out.size))
  have HAS := Lib.hid ((HAS.out.below hb (Nat.le_refl _)).more hb.size)
  clear hb
  have HA1 := Lib.hid ha1
  have HT1 := Lib.hid hr1
  have HL1 := Lib.hid hl1
  have hl1b : l1 ≤ 125 := by omega
  clear ha1 hr1 hl1
  have HNEW := Lib.hid (Row.new w3 [.slice A1 n1 c1, .int .i64 s1, .slice M1 m1 d1, .slice E1 k1 g1] 34)
  have hb := (Below.refl w3.heap.size w3).alloc (Nat.le_refl _) (.cells #[.slice A1 n1 c1, .int .i64 s1, .slice M1 m1 d1, .slice E1 k1 g1] 34)
  have HB := Lib.hid (HB.out.trans (hb.mono HB.out.size))
  have HAS := Lib.hid ((HAS.out.below hb (Nat.le_refl _)).more hb.size)
  have HA1 := Lib.hid ((HA1.out.below hb (Nat.le_refl _)).more hb.size)
  have HT1 := Lib.hid ((HT1.out.below hb (Nat.le_refl _)).more hb.size)
  clear hb
  go_wp2_with fail
  obtain ⟨b_B1, hb_B1⟩ : ∃ b, b = w3.heap.size := ⟨_, rfl⟩
  rw [← hb_B1] at HNEW ⊢
  clear hb_B1
  generalize (w3.alloc (.cells #[.slice A1 n1 c1, .int .i64 s1, .slice M1 m1 d1, .slice E1 k1 g1] 34)) = w4 at *
  have B1 := HNEW
  clear HNEW
  refine (g_comp HAS.out HNL.out HSY.out).mono ?_
  rintro e w5 ⟨A2, n2, c2, s2, M2, m2, d2, E2, k2, g2, rfl, ha2, hb⟩
  have HB := Lib.hid (HB.out.trans (hb.mono HB.out.size))
  have HAS := Lib.hid ((HAS.out.below hb (Nat.le_refl _)).more hb.size)
  have HA1 := Lib.hid ((HA1.out.below hb (Nat.le_refl _)).more hb.size)
  have HT1 := Lib.hid ((HT1.out.below hb (Nat.le_refl _)).more hb.size)
  have B1 := Lib.hid (B1.out.below hb B1.out.lt)
  clear hb
  have HA2 := Lib.hid ha2
  clear ha2
  have HNEW := Lib.hid (Row.new w5 [.slice A2 n2 c2, .int .i64 s2, .slice M2 m2 d2, .slice E2 k2 g2] 34)
  have hb := (Below.refl w5.heap.size w5).alloc (Nat.le_refl _) (.cells #[.slice A2 n2 c2, .int .i64 s2, .slice M2 m2 d2, .slice E2 k2 g2] 34)
  have HB := Lib.hid (HB.out.trans (hb.mono HB.out.size))
  have HAS := Lib.hid ((HAS.out.below hb (Nat.le_refl _)).more hb.size)
  have HA1 := Lib.hid ((HA1.out.below hb (Nat.le_refl _)).more hb.size)
  have HT1 := Lib.hid ((HT1.out.below hb (Nat.le_refl _)).more hb.size)
  have B1 := Lib.hid (B1.out.below hb B1.out.lt)
  have HA2 := Lib.hid ((HA2.out.below hb (Nat.le_refl _)).more hb.size)
  clear hb
  go_wp2_with fail
  obtain ⟨b_B2, hb_B2⟩ : ∃ b, b = w5.heap.size := ⟨_, rfl⟩
  rw [← hb_B2] at HNEW ⊢
  clear hb_B2
  generalize (w5.alloc (.cells #[.slice A2 n2 c2, .int .i64 s2, .slice M2 m2 d2, .slice E2 k2 g2] 34)) = w6 at *
  have B2 := HNEW
  clear HNEW
  refine ((g_rsync HAS.out HNL.out (by omega) HRW.out HST.out)).mono ?_
  rintro e w7 ⟨A3, n3, c3, s3, M3, m3, d3, E3, k3, g3, T3, l3, t3, rfl, hl3, ha3, hr3, hb⟩
  have HB := Lib.hid (HB.out.trans (hb.mono HB.out.size))
  have HAS := Lib.hid ((HAS.out.below hb (Nat.le_refl _)).more hb.size)
  have HA1 := Lib.hid ((HA1.out.below hb (Nat.le_refl _)).more hb.size)
  have HT1 := Lib.hid ((HT1.out.below hb (Nat.le_refl _)).more hb.size)
  have B1 := Lib.hid (B1.out.below hb B1.out.lt)
  have HA2 := Lib.hid ((HA2.out.below hb (Nat.le_refl _)).more hb.size)
  have B2 := Lib.hid (B2.out.below hb B2.out.lt)
  clear hb
  rw [← HPA.out] at ha3
  rw [← HTV.out] at hl3 hr3
  have HA3 := Lib.hid ha3
  have HT3 := Lib.hid hr3
  have HL3 := Lib.hid hl3
  have hl3b : l3 ≤ 125 := by omega
  clear ha3 hr3 hl3
  have b1_0 := B1.out.cell 0 rfl
  have b1_1 := B1.out.cell 1 rfl
  have b1_2 := B1.out.cell 2 rfl
  have b1_3 := B1.out.cell 3 rfl
  have b1_l := B1.out.lt
  have b2_0 := B2.out.cell 0 rfl
  have b2_1 := B2.out.cell 1 rfl
  have b2_2 := B2.out.cell 2 rfl
  have b2_3 := B2.out.cell 3 rfl
  have b2_l := B2.out.lt
  have HNEW := Lib.hid (Row.new w7 [.slice A3 n3 c3, .int .i64 s3, .slice M3 m3 d3, .slice E3 k3 g3] 34)
  have hb := (Below.refl w7.heap.size w7).alloc (Nat.le_refl _) (.cells #[.slice A3 n3 c3, .int .i64 s3, .slice M3 m3 d3, .slice E3 k3 g3] 34)
  have HB := Lib.hid (HB.out.trans (hb.mono HB.out.size))
  have HAS := Lib.hid ((HAS.out.below hb (Nat.le_refl _)).more hb.size)
  have HA1 := Lib.hid ((HA1.out.below hb (Nat.le_refl _)).more hb.size)
  have HT1 := Lib.hid ((HT1.out.below hb (Nat.le_refl _)).more hb.size)
  have B1 := Lib.hid (B1.out.below hb B1.out.lt)
  have HA2 := Lib.hid ((HA2.out.below hb (Nat.le_refl _)).more hb.size)
  have B2 := Lib.hid (B2.out.below hb B2.out.lt)
  have HA3 := Lib.hid ((HA3.out.below hb (Nat.le_refl _)).more hb.size)
  have HT3 := Lib.hid ((HT3.out.below hb (Nat.le_refl _)).more hb.size)
  clear hb
  go_wp2_with fail
  clear b1_0 b1_1 b1_2 b1_3 b1_l b2_0 b2_1 b2_2 b2_3 b2_l
  obtain ⟨b_B3, hb_B3⟩ : ∃ b, b = w7.heap.size := ⟨_, rfl⟩
  rw [← hb_B3] at HNEW ⊢
  clear hb_B3
  generalize (w7.alloc (.cells #[.slice A3 n3 c3, .int .i64 s3, .slice M3 m3 d3, .slice E3 k3 g3] 34)) = w8 at *
  have B3 := HNEW
  clear HNEW
  refine (g_eq (decide_eq_true rfl) HA1.out HA3.out).mono ?_
  rintro e w9 ⟨rfl, hb⟩
  have HB := Lib.hid (HB.out.trans (hb.mono HB.out.size))
  have HAS := Lib.hid ((HAS.out.below hb (Nat.le_refl _)).more hb.size)
  have HA1 := Lib.hid ((HA1.out.below hb (Nat.le_refl _)).more hb.size)
  have HT1 := Lib.hid ((HT1.out.below hb (Nat.le_refl _)).more hb.size)
  have B1 := Lib.hid (B1.out.below hb B1.out.lt)
  have HA2 := Lib.hid ((HA2.out.below hb (Nat.le_refl _)).more hb.size)
  have B2 := Lib.hid (B2.out.below hb B2.out.lt)
  have HA3 := Lib.hid ((HA3.out.below hb (Nat.le_refl _)).more hb.size)
  have HT3 := Lib.hid ((HT3.out.below hb (Nat.le_refl _)).more hb.size)
  have B3 := Lib.hid (B3.out.below hb B3.out.lt)
  clear hb
  go_wp2_with fail
  refine (g_sameAll (decide_eq_true rfl) HT1.out HT3.out HL1.out HL3.out (by omega) (by omega) HTS.out HTS.out).mono ?_
  rintro e w10 ⟨rfl, hb⟩
  have HB := Lib.hid (HB.out.trans (hb.mono HB.out.size))
  have HAS := Lib.hid ((HAS.out.below hb (Nat.le_refl _)).more hb.size)
  have HA1 := Lib.hid ((HA1.out.below hb (Nat.le_refl _)).more hb.size)
  have HT1 := Lib.hid ((HT1.out.below hb (Nat.le_refl _)).more hb.size)
  have B1 := Lib.hid (B1.out.below hb B1.out.lt)
  have HA2 := Lib.hid ((HA2.out.below hb (Nat.le_refl _)).more hb.size)
  have B2 := Lib.hid (B2.out.below hb B2.out.lt)
  have HA3 := Lib.hid ((HA3.out.below hb (Nat.le_refl _)).more hb.size)
  have HT3 := Lib.hid ((HT3.out.below hb (Nat.le_refl _)).more hb.size)
  have B3 := Lib.hid (B3.out.below hb B3.out.lt)
  clear hb
  have b1_0 := B1.out.cell 0 rfl
  have b1_1 := B1.out.cell 1 rfl
  have b1_2 := B1.out.cell 2 rfl
  have b1_3 := B1.out.cell 3 rfl
  have b1_l := B1.out.lt
  have b2_0 := B2.out.cell 0 rfl
  have b2_1 := B2.out.cell 1 rfl
  have b2_2 := B2.out.cell 2 rfl
  have b2_3 := B2.out.cell 3 rfl
  have b2_l := B2.out.lt
  have b3_0 := B3.out.cell 0 rfl
  have b3_1 := B3.out.cell 1 rfl
  have b3_2 := B3.out.cell 2 rfl
  have b3_3 := B3.out.cell 3 rfl
  have b3_l := B3.out.lt
  go_wp2_with fail
  clear b1_0 b1_1 b1_2 b1_3 b1_l b2_0 b2_1 b2_2 b2_3 b2_l b3_0 b3_1 b3_2 b3_3 b3_l
  refine (g_eq (decide_eq_true rfl) HA2.out HA3.out).mono ?_
  rintro e w11 ⟨rfl, hb⟩
  have HB := Lib.hid (HB.out.trans (hb.mono HB.out.size))
  have HAS := Lib.hid ((HAS.out.below hb (Nat.le_refl _)).more hb.size)
  have HA1 := Lib.hid ((HA1.out.below hb (Nat.le_refl _)).more hb.size)
  have HT1 := Lib.hid ((HT1.out.below hb (Nat.le_refl _)).more hb.size)
  have B1 := Lib.hid (B1.out.below hb B1.out.lt)
  have HA2 := Lib.hid ((HA2.out.below hb (Nat.le_refl _)).more hb.size)
  have B2 := Lib.hid (B2.out.below hb B2.out.lt)
  have HA3 := Lib.hid ((HA3.out.below hb (Nat.le_refl _)).more hb.size)
  have HT3 := Lib.hid ((HT3.out.below hb (Nat.le_refl _)).more hb.size)
  have B3 := Lib.hid (B3.out.below hb B3.out.lt)
  clear hb
  go_wp2_with fail
  go_ret
  exact ⟨rfl, HB.out⟩
end Go.Proofs.YtedleffmbddccaaDoor
