/- Layer 3: Same of the reference. -/
import Derived.Test.YtcciiikaejjooaaaSame
namespace Go.Proofs.Ytcciiikaejjooaa
open Go.RowKit Go.Sort

set_option maxHeartbeats 3200000 in
theorem rSame_any (A : Option Addr) (n c : Nat) (s : Int) (M : Option Addr) (m d : Nat) (E : Option Addr) (k g : Nat) (A2 : Option Addr) (n2 c2 : Nat) (s2 : Int) (M2 : Option Addr) (m2 d2 : Nat) (E2 : Option Addr) (k2 g2 : Nat) (a b : Au) (B : Nat) (w : World) (h : AuR w B A n c s M m d E k g a) (h2 : AuR w B A2 n2 c2 s2 M2 m2 d2 E2 k2 g2 b) (hB : B ≤ w.heap.size) :
    Calls Try.prog 30 #[.agg #[.slice A n c, .int .i64 s, .slice M m d, .slice E k g], .agg #[.slice A2 n2 c2, .int .i64 s2, .slice M2 m2 d2, .slice E2 k2 g2]] w fun e w' => e = .returned (.bool (decide (a = b))) ∧ Below w.heap.size w w' := by
  have hb1 := ((Below.refl w.heap.size w).alloc (Nat.le_refl _) (.cells #[.slice A n c, .int .i64 s, .slice M m d, .slice E k g] 25)).alloc (by simp) (.cells #[.slice A2 n2 c2, .int .i64 s2, .slice M2 m2 d2, .slice E2 k2 g2] 25)
  have HB1 := Lib.hid hb1
  have HX := Lib.hid (box_row A n c s M m d E k g ((Row.new w [.slice A n c, .int .i64 s, .slice M m d, .slice E k g] 25).alloc (.cells #[.slice A2 n2 c2, .int .i64 s2, .slice M2 m2 d2, .slice E2 k2 g2] 25)))
  have HX2 := Lib.hid (show BoxA ((w.alloc (.cells #[.slice A n c, .int .i64 s, .slice M m d, .slice E k g] 25)).alloc (.cells #[.slice A2 n2 c2, .int .i64 s2, .slice M2 m2 d2, .slice E2 k2 g2] 25)) (w.heap.size + 1) A2 n2 c2 s2 M2 m2 d2 E2 k2 g2 by
    have := box_row A2 n2 c2 s2 M2 m2 d2 E2 k2 g2 (Row.new (w.alloc (.cells #[.slice A n c, .int .i64 s, .slice M m d, .slice E k g] 25)) [.slice A2 n2 c2, .int .i64 s2, .slice M2 m2 d2, .slice E2 k2 g2] 25)
    simpa using this)
  have HC1 := Lib.hid (sameInts_b A A2 n n2 c c2 B a.al b.al _ (h.al.below hb1 hB) (h2.al.below hb1 hB) h.hn h2.hn h.bn h2.bn)
  have HC2 := Lib.hid (fun W (hW : Below w.heap.size w W) => sameInts_b M M2 m m2 d d2 B a.mr b.mr W (h.mr.below hW hB) (h2.mr.below hW hB) h.hm h2.hm h.bm h2.bm)
  have HST := Lib.hid h.st
  have hB0 := Lib.hid hB
  have HR := Lib.hid h
  have HR2 := Lib.hid h2
  have HST2 := Lib.hid h2.st
  obtain ⟨r1, hr1⟩ : ∃ r, r = decide (a.al = b.al) := ⟨_, rfl⟩
  obtain ⟨r2, hr2⟩ : ∃ r, r = decide (a.mr = b.mr) := ⟨_, rfl⟩
  rw [← hr1] at HC1
  rw [← hr2] at HC2
  obtain ⟨v, hv⟩ : ∃ v, v = decide (a = b) := ⟨_, rfl⟩
  have HV := Lib.hid (show v = (r1 && (decide (s = s2) && (r2 && decide (a.ed = b.ed)))) by rw [hv, au_eq, ← hr1, ← hr2, HST.out, HST2.out])
  rw [← hv]
  clear h h2 hb1 hr1 hr2 hv
  cases r1
  · have hf := Lib.hid (show v = false by rw [HV.out]; rfl)
    go_enter Try.func30, Try.ntmps30
    go_wp2_with fail
    refine HC1.out.mono ?_
    rintro e w1 ⟨rfl, hbw⟩
    have hB := Lib.hid (HB1.out.trans (hbw.mono (by simp; omega)))
    have hX1 := Lib.hid (HX.out.below hbw (by simp; omega))
    have hX2 := Lib.hid (HX2.out.below hbw (by simp))
    have hz := hbw.size
    simp only [World.size_alloc] at hz
    obtain ⟨p0, p1, p2, p3⟩ := hX1.out
    obtain ⟨q0, q1, q2, q3⟩ := hX2.out
    clear hbw
    go_wp2_with fail
    go_ret
    exact ⟨ret_bool hf.out.symm, hB.out⟩
  · by_cases hs : s = s2
    · have hd : decide (s = s2) = true := by simp [hs]
      subst hs
      cases r2
      · have hf := Lib.hid (show v = false by rw [HV.out, hd]; rfl)
        have hd2 : (s != s) = false := by simp
        go_enter Try.func30, Try.ntmps30
        go_wp2_with fail
        refine HC1.out.mono ?_
        rintro e w1 ⟨rfl, hbw⟩
        have hB := Lib.hid (HB1.out.trans (hbw.mono (by simp; omega)))
        have hX1 := Lib.hid (HX.out.below hbw (by simp; omega))
        have hX2 := Lib.hid (HX2.out.below hbw (by simp))
        have hz := hbw.size
        simp only [World.size_alloc] at hz
        obtain ⟨p0, p1, p2, p3⟩ := hX1.out
        obtain ⟨q0, q1, q2, q3⟩ := hX2.out
        clear hbw
        go_wp2_with fail
        refine (HC2.out w1 hB.out).mono ?_
        rintro e w2 ⟨rfl, hbw⟩
        have hB2 := Lib.hid (hB.out.trans (hbw.mono hB.out.size))
        clear p0 p1 p2 p3 q0 q1 q2 q3
        have hX3 := Lib.hid (hX1.out.below hbw (by omega))
        have hX4 := Lib.hid (hX2.out.below hbw (by omega))
        have hz2 := hbw.size
        obtain ⟨p0, p1, p2, p3⟩ := hX3.out
        obtain ⟨q0, q1, q2, q3⟩ := hX4.out
        clear hbw
        go_wp2_with fail
        go_ret
        exact ⟨ret_bool hf.out.symm, hB2.out⟩
      · have hf := Lib.hid (show v = decide (a.ed = b.ed) by rw [HV.out, hd]; rfl)
        have hd2 : (s != s) = false := by simp
        by_cases hk : k = k2
        · subst hk
          have hk2 : ((k : Int) != (k : Int)) = false := by simp
          have HK := Lib.hid HR.out.hk
          have HK2 := Lib.hid HR2.out.hk
          go_enter Try.func30, Try.ntmps30
          go_wp2_with fail
          refine HC1.out.mono ?_
          rintro e w1 ⟨rfl, hbw⟩
          have hB := Lib.hid (HB1.out.trans (hbw.mono (by simp; omega)))
          have hX1 := Lib.hid (HX.out.below hbw (by simp; omega))
          have hX2 := Lib.hid (HX2.out.below hbw (by simp))
          have hz := hbw.size
          simp only [World.size_alloc] at hz
          obtain ⟨p0, p1, p2, p3⟩ := hX1.out
          obtain ⟨q0, q1, q2, q3⟩ := hX2.out
          clear hbw
          go_wp2_with fail
          refine (HC2.out w1 hB.out).mono ?_
          rintro e w2 ⟨rfl, hbw⟩
          have hB2 := Lib.hid (hB.out.trans (hbw.mono hB.out.size))
          clear p0 p1 p2 p3 q0 q1 q2 q3
          have hX3 := Lib.hid (hX1.out.below hbw (by omega))
          have hX4 := Lib.hid (hX2.out.below hbw (by omega))
          have hz2 := hbw.size
          obtain ⟨p0, p1, p2, p3⟩ := hX3.out
          obtain ⟨q0, q1, q2, q3⟩ := hX4.out
          clear hbw
          go_wp2_with fail
          go_loopw [5] (fun i wr => ∃ t : Nat, t ≤ k ∧ i = .int .i64 t ∧ Hid (a.ed.take t = b.ed.take t) ∧ Hid (Below w2.heap.size w2 wr)) (fun i _ => k - (intOf i).toNat)
          case atStart => exact ⟨0, Nat.zero_le _, rfl, rfl, Below.refl _ _⟩
          case round =>
            clear p0 p1 p2 p3 q0 q1 q2 q3
            obtain ⟨t, htk, rfl, ht, hbel⟩ := hrel
            obtain ⟨p0, p1, p2, p3⟩ := hX3.out.below hbel.out (by omega)
            obtain ⟨q0, q1, q2, q3⟩ := hX4.out.below hbel.out (by omega)
            have hBr := Lib.hid (hB2.out.trans (hbel.out.mono hB2.out.size))
            have hbk := HR.out.bk
            by_cases htl : t < k
            · obtain ⟨b1, o1, rfl, hb1, hc1⟩ := HR.out.ed (by rw [HK.out]; omega)
              obtain ⟨b2, o2, rfl, hb2, hc2⟩ := HR2.out.ed (by rw [HK2.out]; omega)
              obtain ⟨x, hx1⟩ := edAt (l := a.ed) (k := t) (by rw [HK.out]; exact htl)
              obtain ⟨y, hy1⟩ := edAt (l := b.ed) (k := t) (by rw [HK2.out]; exact htl)
              obtain ⟨u0, u1, u2⟩ : EdAt wr b1 (o1 + t * 3) x := (hc1 t x hx1).keep fun o => hBr.out.cell (p := ⟨b1, o, none⟩) (Nat.lt_of_lt_of_le hb1 hB0.out)
              obtain ⟨v0, v1, v2⟩ : EdAt wr b2 (o2 + t * 3) y := (hc2 t y hy1).keep fun o => hBr.out.cell (p := ⟨b2, o, none⟩) (Nat.lt_of_lt_of_le hb2 hB0.out)
              clear hc1 hc2
              by_cases hxy : x = y
              · subst hxy
                have hs := Lib.hid (eqE_step hx1 hy1 ht.out)
                obtain ⟨xf, xe, xt⟩ := x
                clear hx1 hy1 ht
                go_wp2_with fail
                go_quiet (fail)
                go_wp2_with fail
                go_roundw
                case measure => simp [intOf]; omega
                case rel => exact ⟨t + 1, by omega, by go_num, hs, Lib.hid (below_drewN hbel.out _)⟩
              · have hff := Lib.hid (show v = false by rw [hf.out, neE_of hx1 hy1 hxy])
                have hne := ed_ne hxy
                obtain ⟨xf, xe, xt⟩ := x
                obtain ⟨yf, ye, yt⟩ := y
                simp only at hne u0 u1 u2 v0 v1 v2
                clear hx1 hy1 ht hxy
                by_cases h1 : xf = yf
                · by_cases h2 : xe = ye
                  · have h3 : ¬ xt = yt := fun h3 => hne ⟨h1, h2, h3⟩
                    subst h1; subst h2
                    clear hne
                    go_wp2_with fail
                    go_quiet (fail)
                    go_wp2_with fail
                    go_ret
                    exact ⟨ret_bool hff.out.symm, below_drewN hBr.out _⟩
                  · subst h1
                    clear hne
                    go_wp2_with fail
                    go_quiet (fail)
                    go_wp2_with fail
                    go_ret
                    exact ⟨ret_bool hff.out.symm, below_drewN hBr.out _⟩
                · clear hne
                  go_wp2_with fail
                  go_quiet (fail)
                  go_wp2_with fail
                  go_ret
                  exact ⟨ret_bool hff.out.symm, below_drewN hBr.out _⟩
            · have hkn : t = k := by omega
              have hff := Lib.hid (show v = true by rw [hf.out]; exact eqE_all (by rw [HK.out, HK2.out]) (by rw [HK.out, ← hkn]; exact ht.out))
              clear hkn ht
              go_wp2_with fail
              go_ret
              exact ⟨ret_bool hff.out.symm, hBr.out⟩
        · have hk2 : ((k : Int) != (k2 : Int)) = true := by simp; omega
          have hff := Lib.hid (show v = false by
            rw [hf.out]; simp only [decide_eq_false_iff_not]; intro e
            have := congrArg List.length e; rw [HR.out.hk, HR2.out.hk] at this; exact hk this)
          go_enter Try.func30, Try.ntmps30
          go_wp2_with fail
          refine HC1.out.mono ?_
          rintro e w1 ⟨rfl, hbw⟩
          have hB := Lib.hid (HB1.out.trans (hbw.mono (by simp; omega)))
          have hX1 := Lib.hid (HX.out.below hbw (by simp; omega))
          have hX2 := Lib.hid (HX2.out.below hbw (by simp))
          have hz := hbw.size
          simp only [World.size_alloc] at hz
          obtain ⟨p0, p1, p2, p3⟩ := hX1.out
          obtain ⟨q0, q1, q2, q3⟩ := hX2.out
          clear hbw
          go_wp2_with fail
          refine (HC2.out w1 hB.out).mono ?_
          rintro e w2 ⟨rfl, hbw⟩
          have hB2 := Lib.hid (hB.out.trans (hbw.mono hB.out.size))
          clear p0 p1 p2 p3 q0 q1 q2 q3
          have hX3 := Lib.hid (hX1.out.below hbw (by omega))
          have hX4 := Lib.hid (hX2.out.below hbw (by omega))
          have hz2 := hbw.size
          obtain ⟨p0, p1, p2, p3⟩ := hX3.out
          obtain ⟨q0, q1, q2, q3⟩ := hX4.out
          clear hbw
          go_wp2_with fail
          go_ret
          exact ⟨ret_bool hff.out.symm, hB2.out⟩
    · have hd : decide (s = s2) = false := by simp [hs]
      have hf := Lib.hid (show v = false by rw [HV.out, hd]; rfl)
      have hd2 : (s != s2) = true := by simp [hs]
      go_enter Try.func30, Try.ntmps30
      go_wp2_with fail
      refine HC1.out.mono ?_
      rintro e w1 ⟨rfl, hbw⟩
      have hB := Lib.hid (HB1.out.trans (hbw.mono (by simp; omega)))
      have hX1 := Lib.hid (HX.out.below hbw (by simp; omega))
      have hX2 := Lib.hid (HX2.out.below hbw (by simp))
      have hz := hbw.size
      simp only [World.size_alloc] at hz
      obtain ⟨p0, p1, p2, p3⟩ := hX1.out
      obtain ⟨q0, q1, q2, q3⟩ := hX2.out
      clear hbw
      go_wp2_with fail
      go_ret
      exact ⟨ret_bool hf.out.symm, hB.out⟩
end Go.Proofs.Ytcciiikaejjooaa
