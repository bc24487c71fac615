/- Layer 6: the law of Check, walked. -/
import Derived.Test.YtedleffmbddccaaDoorZlG
set_option linter.unusedVariables false
set_option linter.unusedSimpArgs false
set_option linter.unusedSectionVars false
namespace Go.Proofs.YtedleffmbddccaaDoor
open Go.RowKit Go.Sort

theorem g_none {w : World} {A : Option Addr} {n c : Nat} {s : Int} {M : Option Addr} {m d : Nat} {E : Option Addr} {k g : Nat} (h : AuR w w.heap.size A n c s M m d E k g zeroA) :
    Calls Tryd.prog 27 #[.agg #[.slice A n c, .int .i64 s, .slice M m d, .slice E k g]] w fun e w' => e = .returned (.bool true) ∧ Below w.heap.size w w' := by
  have := none_any A n c s M m d E k g zeroA w h
  rwa [decide_eq_true rfl] at this

set_option maxHeartbeats 8000000 in
set_option maxRecDepth 100000 in
theorem lawChecks (A : Option Addr) (n c : Nat) (l : List Au) (w : World) (h : RdAsI w A l) (hn : l.length = n) (hnb : n ≤ 9223372036854775807) (hT : TabAt 0 Lib.deBruijn32tab w) :
    Calls Tryd.prog 3 #[.slice A n c] w fun e w' => e = .returned (.bool true) ∧ Below w.heap.size w w' := by
  have hz := tab_pos hT
  have HTB := Lib.hid (fun W (hW : Below w.heap.size w W) => tab_below hT hW hz)
  have HK := Lib.hid (fun W (hW : Below w.heap.size w W) => known_any W (HTB.out W hW) (Nat.lt_of_lt_of_le hz hW.size))
  have HFe := Lib.hid (fun W (hW : Below w.heap.size w W) => few_any6 A n c l W (h.keep hW) hn hnb)
  have HB := Lib.hid (Below.refl w.heap.size w)
  have HN := Lib.hid hn
  have HAI := Lib.hid h
  cases hf : fewB l
  · rw [hf] at HFe
    clear h hn hT hz hnb hf
    go_enter Tryd.func3, Tryd.ntmps3
    go_wp2_with fail
    refine (HK.out _ HB.out).mono ?_
    rintro e w1 ⟨rfl, hb⟩
    have HB := Lib.hid (HB.out.trans (hb.mono HB.out.size))
    clear hb
    go_wp2_with fail
    refine (HFe.out _ HB.out).mono ?_
    rintro e w2 ⟨rfl, rfl⟩
    go_wp2_with fail
    refine (HK.out _ HB.out).mono ?_
    rintro e w2 ⟨rfl, hb⟩
    have HB := Lib.hid (HB.out.trans (hb.mono HB.out.size))
    clear hb
    go_wp2_with fail
    go_ret
    exact ⟨rfl, HB.out⟩
  · rw [hf] at HFe
    have HAS := Lib.hid (h.few hf)
    have hn14 : n ≤ 14 := by rw [← hn]; exact (few_all hf).1
    obtain ⟨ck, hck⟩ : ∃ ck, ck = chkL l := ⟨_, rfl⟩
    obtain ⟨az, haz⟩ : ∃ az, az = alpR l := ⟨_, rfl⟩
    have HCK := Lib.hid hck.symm
    have HAZ := Lib.hid haz.symm
    clear h hn hT hz hf hck haz
    go_enter Tryd.func3, Tryd.ntmps3
    go_wp2_with fail
    refine (HK.out _ HB.out).mono ?_
    rintro e w1 ⟨rfl, hb⟩
    have HB := Lib.hid (HB.out.trans (hb.mono HB.out.size))
    have HAS := Lib.hid ((HAS.out.below hb (Nat.le_refl _)).more hb.size)
    clear hb
    go_wp2_with fail
    refine (HFe.out _ HB.out).mono ?_
    rintro e w1' ⟨rfl, rfl⟩
    go_wp2_with fail
    refine (r6Check_any A n c l _ HAS.out HN.out).mono ?_
    rintro e w2 ⟨rfl, hb⟩
    have HB := Lib.hid (HB.out.trans (hb.mono HB.out.size))
    have HAS := Lib.hid ((HAS.out.below hb (Nat.le_refl _)).more hb.size)
    clear hb
    rw [HCK.out]
    go_wp2_with fail
    refine (g_alph HAS.out HN.out HAZ.out HCK.out).mono ?_
    rintro e w3 ⟨A7, n7, c7, rfl, hn7, hr7, hb⟩
    have HB := Lib.hid (HB.out.trans (hb.mono HB.out.size))
    have HAS := Lib.hid ((HAS.out.below hb (Nat.le_refl _)).more hb.size)
    clear hb
    have HN7 := Lib.hid hn7
    have HR7 := Lib.hid hr7
    clear hn7 hr7
    go_wp2_with fail
    refine (pCheck_any A n c l _ _ HAS.out (Nat.le_refl _) HN.out).mono ?_
    rintro e w4 ⟨rfl, hb⟩
    have HB := Lib.hid (HB.out.trans (hb.mono HB.out.size))
    have HAS := Lib.hid ((HAS.out.below hb (Nat.le_refl _)).more hb.size)
    have HR7 := Lib.hid ((HR7.out.below hb (Nat.le_refl _)).more hb.size)
    clear hb
    rw [HCK.out]
    have hcc : (ck != ck) = false := by simp
    by_cases hc0 : ck = 0
    · subst hc0
      have hr := chk_right HCK.out
      have HRW := Lib.hid hr.2.1
      have haz : az = alT l := by rw [← HAZ.out, alpR, if_neg (by rw [HCK.out]; simp)]
      subst haz
      have hn7b : n7 ≤ 32 := by rw [← HN7.out]; exact alT_len HRW.out
      clear hr
      go_wp2_with fail
      refine (g_ralph HAS.out HN.out (by omega) HRW.out).mono ?_
      rintro e w5 ⟨A9, n9, c9, rfl, hn9, hr9, hb⟩
      have HB := Lib.hid (HB.out.trans (hb.mono HB.out.size))
      have HAS := Lib.hid ((HAS.out.below hb (Nat.le_refl _)).more hb.size)
      have HR7 := Lib.hid ((HR7.out.below hb (Nat.le_refl _)).more hb.size)
      clear hb
      have HN9 := Lib.hid hn9
      have HR9 := Lib.hid hr9
      have hn32 : n9 ≤ 32 := by rw [← hn9]; exact alT_len HRW.out
      clear hn9 hr9
      go_wp2_with fail
      refine (g_same (decide_eq_true rfl) HR7.out HR9.out HN7.out HN9.out (by omega) (by omega)).mono ?_
      rintro e w6 ⟨rfl, hb⟩
      have HB := Lib.hid (HB.out.trans (hb.mono HB.out.size))
      have HAS := Lib.hid ((HAS.out.below hb (Nat.le_refl _)).more hb.size)
      have HR7 := Lib.hid ((HR7.out.below hb (Nat.le_refl _)).more hb.size)
      clear hb
      go_wp2_with fail
      go_ret
      exact ⟨rfl, HB.out⟩
    · have hbc : (ck == 0) = false := by simp [hc0]
      have haz : az = [] := by rw [← HAZ.out, alpR, if_pos (by rw [HCK.out]; exact hc0)]
      subst haz
      obtain rfl : n7 = 0 := HN7.out.symm
      have HSY := Lib.hid (show synR l = ((zeroA, []), ck) by rw [synR, if_pos (by rw [HCK.out]; exact hc0), HCK.out])
      have HCT := Lib.hid (show ctE l [] = ck by rw [ctE, if_pos (by rw [HCK.out]; exact hc0), HCK.out])
      have HEN := Lib.hid (show enR6 l [] = [] by rw [enR6, if_pos (by rw [HCT.out]; exact hc0)])
      have HMR := Lib.hid (show mrkR l [] = false by rw [mrkR, if_pos (by rw [HCT.out]; exact hc0)])
      have HCS := Lib.hid (show csE6 l [] 0 = ck by rw [csE6, if_pos (by rw [HCT.out]; exact hc0), HCT.out])
      have HST := Lib.hid (show stpR l [] 0 = none by rw [stpR, if_pos (by rw [HCS.out]; exact hc0)])
      have HRF := Lib.hid (show refR l [] 0 = [] by rw [refR, if_pos (by rw [HCS.out]; exact hc0)])
      have HCR := Lib.hid (show crE l [] = ck by rw [crE, if_pos (by rw [HCK.out]; exact hc0), HCK.out])
      have HRN := Lib.hid (show rnR l [] = ([], 0) by rw [rnR, if_pos (by rw [HCR.out]; exact hc0)])
      clear hc0
      go_wp2_with fail
      refine (g_sync HAS.out HN.out HSY.out).mono ?_
      rintro e w5 ⟨A1, n1, c1, s1, M1, m1, d1, E1, k1, g1, T1, l1, t1, rfl, hl1, ha1, _, hb⟩
      have HB := Lib.hid (HB.out.trans (hb.mono HB.out.size))
      have HAS := Lib.hid ((HAS.out.below hb (Nat.le_refl _)).more hb.size)
      have HR7 := Lib.hid ((HR7.out.below hb (Nat.le_refl _)).more hb.size)
      clear hb
      have HA1 := Lib.hid ha1
      obtain rfl : l1 = 0 := hl1.symm
      clear ha1 hl1
      have HNEW := Lib.hid (Row.new w5 [.slice A1 n1 c1, .int .i64 s1, .slice M1 m1 d1, .slice E1 k1 g1] 34)
      have hb := (Below.refl w5.heap.size w5).alloc (Nat.le_refl _) (.cells #[.slice A1 n1 c1, .int .i64 s1, .slice M1 m1 d1, .slice E1 k1 g1] 34)
      have HB := Lib.hid (HB.out.trans (hb.mono HB.out.size))
      have HAS := Lib.hid ((HAS.out.below hb (Nat.le_refl _)).more hb.size)
      have HR7 := Lib.hid ((HR7.out.below hb (Nat.le_refl _)).more hb.size)
      have HA1 := Lib.hid ((HA1.out.below hb (Nat.le_refl _)).more hb.size)
      clear hb
      go_wp2_with fail
      obtain ⟨b_B1, hb_B1⟩ : ∃ b, b = w5.heap.size := ⟨_, rfl⟩
      rw [← hb_B1] at HNEW ⊢
      clear hb_B1
      generalize (w5.alloc (.cells #[.slice A1 n1 c1, .int .i64 s1, .slice M1 m1 d1, .slice E1 k1 g1] 34)) = w6 at *
      have B1 := HNEW
      clear HNEW
      refine (g_comp HAS.out HN.out HSY.out).mono ?_
      rintro e w7 ⟨A2, n2, c2, s2, M2, m2, d2, E2, k2, g2, rfl, ha2, hb⟩
      have HB := Lib.hid (HB.out.trans (hb.mono HB.out.size))
      have HAS := Lib.hid ((HAS.out.below hb (Nat.le_refl _)).more hb.size)
      have HR7 := Lib.hid ((HR7.out.below hb (Nat.le_refl _)).more hb.size)
      have HA1 := Lib.hid ((HA1.out.below hb (Nat.le_refl _)).more hb.size)
      have B1 := Lib.hid (B1.out.below hb B1.out.lt)
      clear hb
      have HA2 := Lib.hid ha2
      clear ha2
      have HNEW := Lib.hid (Row.new w7 [.slice A2 n2 c2, .int .i64 s2, .slice M2 m2 d2, .slice E2 k2 g2] 34)
      have hb := (Below.refl w7.heap.size w7).alloc (Nat.le_refl _) (.cells #[.slice A2 n2 c2, .int .i64 s2, .slice M2 m2 d2, .slice E2 k2 g2] 34)
      have HB := Lib.hid (HB.out.trans (hb.mono HB.out.size))
      have HAS := Lib.hid ((HAS.out.below hb (Nat.le_refl _)).more hb.size)
      have HR7 := Lib.hid ((HR7.out.below hb (Nat.le_refl _)).more hb.size)
      have HA1 := Lib.hid ((HA1.out.below hb (Nat.le_refl _)).more hb.size)
      have B1 := Lib.hid (B1.out.below hb B1.out.lt)
      have HA2 := Lib.hid ((HA2.out.below hb (Nat.le_refl _)).more hb.size)
      clear hb
      go_wp2_with fail
      obtain ⟨b_B2, hb_B2⟩ : ∃ b, b = w7.heap.size := ⟨_, rfl⟩
      rw [← hb_B2] at HNEW ⊢
      clear hb_B2
      generalize (w7.alloc (.cells #[.slice A2 n2 c2, .int .i64 s2, .slice M2 m2 d2, .slice E2 k2 g2] 34)) = w8 at *
      have B2 := HNEW
      clear HNEW
      refine (g_en HAS.out HN.out (RdI.nil _ _ none) rfl HEN.out HCT.out).mono ?_
      rintro e w9 ⟨A10, n10, c10, rfl, hn10, _, hb⟩
      have HB := Lib.hid (HB.out.trans (hb.mono HB.out.size))
      have HAS := Lib.hid ((HAS.out.below hb (Nat.le_refl _)).more hb.size)
      have HR7 := Lib.hid ((HR7.out.below hb (Nat.le_refl _)).more hb.size)
      have HA1 := Lib.hid ((HA1.out.below hb (Nat.le_refl _)).more hb.size)
      have B1 := Lib.hid (B1.out.below hb B1.out.lt)
      have HA2 := Lib.hid ((HA2.out.below hb (Nat.le_refl _)).more hb.size)
      have B2 := Lib.hid (B2.out.below hb B2.out.lt)
      clear hb
      obtain rfl : n10 = 0 := hn10.symm
      clear hn10
      go_wp2_with fail
      refine (g_stp (zs := []) (ps := false) HAS.out HN.out (RdI.nil _ _ none) rfl (by rw [HST.out]; rfl) (by rw [HST.out]; rfl) HCS.out).mono ?_
      rintro e w10 ⟨A11, n11, c11, rfl, hn11, _, hb⟩
      have HB := Lib.hid (HB.out.trans (hb.mono HB.out.size))
      have HAS := Lib.hid ((HAS.out.below hb (Nat.le_refl _)).more hb.size)
      have HR7 := Lib.hid ((HR7.out.below hb (Nat.le_refl _)).more hb.size)
      have HA1 := Lib.hid ((HA1.out.below hb (Nat.le_refl _)).more hb.size)
      have B1 := Lib.hid (B1.out.below hb B1.out.lt)
      have HA2 := Lib.hid ((HA2.out.below hb (Nat.le_refl _)).more hb.size)
      have B2 := Lib.hid (B2.out.below hb B2.out.lt)
      clear hb
      obtain rfl : n11 = 0 := hn11.symm
      clear hn11
      go_wp2_with fail
      refine (g_run (zs := []) (k := 0) (m := 0) HAS.out HN.out (RdI.nil _ _ none) rfl (by omega) (by rw [HRN.out]) (by rw [HRN.out]) HCR.out).mono ?_
      rintro e w11 ⟨A12, n12, c12, rfl, hn12, _, hb⟩
      have HB := Lib.hid (HB.out.trans (hb.mono HB.out.size))
      have HAS := Lib.hid ((HAS.out.below hb (Nat.le_refl _)).more hb.size)
      have HR7 := Lib.hid ((HR7.out.below hb (Nat.le_refl _)).more hb.size)
      have HA1 := Lib.hid ((HA1.out.below hb (Nat.le_refl _)).more hb.size)
      have B1 := Lib.hid (B1.out.below hb B1.out.lt)
      have HA2 := Lib.hid ((HA2.out.below hb (Nat.le_refl _)).more hb.size)
      have B2 := Lib.hid (B2.out.below hb B2.out.lt)
      clear hb
      obtain rfl : n12 = 0 := hn12.symm
      clear hn12
      go_wp2_with fail
      refine (g_mk HAS.out HN.out (RdI.nil _ _ none) rfl HMR.out HCT.out).mono ?_
      rintro e w12 ⟨rfl, hb⟩
      have HB := Lib.hid (HB.out.trans (hb.mono HB.out.size))
      have HAS := Lib.hid ((HAS.out.below hb (Nat.le_refl _)).more hb.size)
      have HR7 := Lib.hid ((HR7.out.below hb (Nat.le_refl _)).more hb.size)
      have HA1 := Lib.hid ((HA1.out.below hb (Nat.le_refl _)).more hb.size)
      have B1 := Lib.hid (B1.out.below hb B1.out.lt)
      have HA2 := Lib.hid ((HA2.out.below hb (Nat.le_refl _)).more hb.size)
      have B2 := Lib.hid (B2.out.below hb B2.out.lt)
      clear hb
      go_wp2_with fail
      refine (g_ref HAS.out HN.out (RdI.nil _ _ none) rfl HRF.out HCS.out (HTB.out _ HB.out)).mono ?_
      rintro e w13 ⟨A13, n13, c13, rfl, hn13, _, hb⟩
      have HB := Lib.hid (HB.out.trans (hb.mono HB.out.size))
      have HAS := Lib.hid ((HAS.out.below hb (Nat.le_refl _)).more hb.size)
      have HR7 := Lib.hid ((HR7.out.below hb (Nat.le_refl _)).more hb.size)
      have HA1 := Lib.hid ((HA1.out.below hb (Nat.le_refl _)).more hb.size)
      have B1 := Lib.hid (B1.out.below hb B1.out.lt)
      have HA2 := Lib.hid ((HA2.out.below hb (Nat.le_refl _)).more hb.size)
      have B2 := Lib.hid (B2.out.below hb B2.out.lt)
      clear hb
      obtain rfl : n13 = 0 := hn13.symm
      clear hn13
      have hcc2 : (ck == ck) = true := by simp
      have b1_0 := B1.out.cell 0 rfl
      have b1_1 := B1.out.cell 1 rfl
      have b1_2 := B1.out.cell 2 rfl
      have b1_3 := B1.out.cell 3 rfl
      have b1_l := B1.out.lt
      have b2_0 := B2.out.cell 0 rfl
      have b2_1 := B2.out.cell 1 rfl
      have b2_2 := B2.out.cell 2 rfl
      have b2_3 := B2.out.cell 3 rfl
      have b2_l := B2.out.lt
      go_wp2_with fail
      clear b1_0 b1_1 b1_2 b1_3 b1_l b2_0 b2_1 b2_2 b2_3 b2_l
      refine (g_none HA1.out).mono ?_
      rintro e w14 ⟨rfl, hb⟩
      have HB := Lib.hid (HB.out.trans (hb.mono HB.out.size))
      have HAS := Lib.hid ((HAS.out.below hb (Nat.le_refl _)).more hb.size)
      have HR7 := Lib.hid ((HR7.out.below hb (Nat.le_refl _)).more hb.size)
      have HA1 := Lib.hid ((HA1.out.below hb (Nat.le_refl _)).more hb.size)
      have B1 := Lib.hid (B1.out.below hb B1.out.lt)
      have HA2 := Lib.hid ((HA2.out.below hb (Nat.le_refl _)).more hb.size)
      have B2 := Lib.hid (B2.out.below hb B2.out.lt)
      clear hb
      have b1_0 := B1.out.cell 0 rfl
      have b1_1 := B1.out.cell 1 rfl
      have b1_2 := B1.out.cell 2 rfl
      have b1_3 := B1.out.cell 3 rfl
      have b1_l := B1.out.lt
      have b2_0 := B2.out.cell 0 rfl
      have b2_1 := B2.out.cell 1 rfl
      have b2_2 := B2.out.cell 2 rfl
      have b2_3 := B2.out.cell 3 rfl
      have b2_l := B2.out.lt
      go_wp2_with fail
      clear b1_0 b1_1 b1_2 b1_3 b1_l b2_0 b2_1 b2_2 b2_3 b2_l
      refine (g_none HA2.out).mono ?_
      rintro e w15 ⟨rfl, hb⟩
      have HB := Lib.hid (HB.out.trans (hb.mono HB.out.size))
      have HAS := Lib.hid ((HAS.out.below hb (Nat.le_refl _)).more hb.size)
      have HR7 := Lib.hid ((HR7.out.below hb (Nat.le_refl _)).more hb.size)
      have HA1 := Lib.hid ((HA1.out.below hb (Nat.le_refl _)).more hb.size)
      have B1 := Lib.hid (B1.out.below hb B1.out.lt)
      have HA2 := Lib.hid ((HA2.out.below hb (Nat.le_refl _)).more hb.size)
      have B2 := Lib.hid (B2.out.below hb B2.out.lt)
      clear hb
      go_wp2_with fail
      go_ret
      exact ⟨rfl, HB.out⟩
end Go.Proofs.YtedleffmbddccaaDoor
