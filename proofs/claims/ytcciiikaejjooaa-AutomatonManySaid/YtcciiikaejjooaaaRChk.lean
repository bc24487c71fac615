/- Layer 3: Check of the reference. -/
import Derived.Test.YtcciiikaejjooaaaSame
import Derived.Test.YtcciiikaejjooaaaRef
namespace Go.Proofs.Ytcciiikaejjooaa
open Go.RowKit Go.Sort

set_option maxHeartbeats 3200000 in
set_option maxRecDepth 100000 in
theorem rCheck_any (A : Option Addr) (n c : Nat) (s : Int) (M : Option Addr) (m d : Nat) (E : Option Addr) (k g : Nat) (a : Au) (B : Nat) (w : World) (h : AuR w B A n c s M m d E k g a) (hB : B ≤ w.heap.size) :
    Calls Try.prog 15 #[.agg #[.slice A n c, .int .i64 s, .slice M m d, .slice E k g]] w fun e w' => e = .returned (.int .i64 (chkE a)) ∧ Below w.heap.size w w' := by
  have HB1 := Lib.hid ((Below.refl w.heap.size w).alloc (Nat.le_refl _) (.cells #[.slice A n c, .int .i64 s, .slice M m d, .slice E k g] 25))
  have HR := Lib.hid h
  have HX := Lib.hid (BoxA.made w A n c s M m d E k g 25)
  have HB0 := Lib.hid hB
  have hk1 := h.bk
  have HC1 := Lib.hid (rList_any A n c B a.al 32 _ (h.al.below HB1.out hB) h.hn (by have := h.bn; omega))
  have HC2 := Lib.hid (fun W (hW : Below w.heap.size w W) => rList_any M m d B a.mr s W (h.mr.below hW hB) h.hm (by have := h.bm; omega))
  have HE := Lib.hid (fun x W (hW : Below w.heap.size w W) => rHas_any A n c B a.al x W (h.al.below hW hB) h.hn (by have := h.bn; omega))
  have HST := Lib.hid h.st
  obtain ⟨u, hu⟩ : ∃ u, u = csE 32 a.al := ⟨_, rfl⟩
  rw [← hu] at HC1
  obtain ⟨v, hv⟩ : ∃ v, v = csE s a.mr := ⟨_, rfl⟩
  rw [← hv] at HC2
  have HU := Lib.hid hu
  have HV := Lib.hid hv
  clear h hu hv hB
  by_cases h0 : u = 0
  · have hb0 : (u != 0) = false := by simp [h0]
    have h0' := Lib.hid h0
    clear h0
    by_cases h1 : s < 0
    · have hr := Lib.hid (show chkE a = 2 by rw [chkE, HST.out, ← HU.out, if_neg (by simp [h0'.out]), if_pos h1])
      rw [hr.out]
      go_enter Try.func15, Try.ntmps15
      go_wp2_with fail
      refine HC1.out.mono ?_
      rintro e w' ⟨rfl, q, rfl⟩
      obtain ⟨p0, p1, p2, p3⟩ := HX.out.drewN q
      go_wp2_with fail
      go_ret
      exact ⟨rfl, below_drewN HB1.out q⟩
    · by_cases h2 : 4096 < s
      · have hr := Lib.hid (show chkE a = 3 by rw [chkE, HST.out, ← HU.out, if_neg (by simp [h0'.out]), if_neg h1, if_pos h2])
        rw [hr.out]
        go_enter Try.func15, Try.ntmps15
        go_wp2_with fail
        refine HC1.out.mono ?_
        rintro e w' ⟨rfl, q, rfl⟩
        obtain ⟨p0, p1, p2, p3⟩ := HX.out.drewN q
        go_wp2_with fail
        go_ret
        exact ⟨rfl, below_drewN HB1.out q⟩
      · by_cases h3 : v = 0
        · obtain ⟨v2, hv2⟩ : ∃ v2, v2 = egE a := ⟨_, rfl⟩
          have hr := Lib.hid (show chkE a = v2 by rw [hv2, chkE, HST.out, ← HU.out, if_neg (by simp [h0'.out]), if_neg h1, if_neg h2, ← HV.out, if_neg (by simp [h3])])
          have HV2 := Lib.hid (show egGo a.al s (prevE a.ed 0) (a.ed.drop 0) = v2 by rw [hv2, egE, HST.out]; rfl)
          rw [hr.out]
          have hb3 : (v != 0) = false := by simp [h3]
          have hk2 := Lib.hid HR.out.hk
          clear h3 hv2
          go_enter Try.func15, Try.ntmps15
          go_wp2_with fail
          refine HC1.out.mono ?_
          rintro e w' ⟨rfl, q, rfl⟩
          have HB2 := Lib.hid (below_drewN HB1.out q)
          obtain ⟨p0, p1, p2, p3⟩ := HX.out.drewN q
          go_wp2_with fail
          refine (HC2.out _ HB2.out).mono ?_
          rintro e w' ⟨rfl, q2, rfl⟩
          have HB3 := Lib.hid (below_drewN HB2.out q2)
          have HX3 := Lib.hid ((HX.out.drewN q).drewN q2)
          clear p0 p1 p2 p3
          obtain ⟨p0, p1, p2, p3⟩ := HX3.out
          go_wp2_with fail
          go_loopw [5] (fun i wr => ∃ j : Nat, j ≤ k ∧ i = .int .i64 j ∧ Hid (egGo a.al s (prevE a.ed j) (a.ed.drop j) = v2) ∧ Hid (Below w.heap.size w wr ∧ BoxA wr w.heap.size A n c s M m d E k g ∧ w.heap.size < wr.heap.size)) (fun i _ => k - (intOf i).toNat)
          case atStart => exact ⟨0, Nat.zero_le _, rfl, HV2, below_drewN HB1.out _, HX.out.drewN _, by simp [World.drewN]⟩
          case round =>
            clear p0 p1 p2 p3
            obtain ⟨j, hj, rfl, ht, hbel⟩ := hrel
            obtain ⟨p0, p1, p2, p3⟩ := hbel.out.2.1
            have hwl := hbel.out.2.2
            have hbk := HR.out.bk
            have HXA := Lib.hid (fun (x y z : Int) => hbel.out.2.1.below ((Below.refl _ wr).alloc (Nat.le_refl _) (.cells #[.int .i64 x, .int .i64 y, .int .i64 z] 67)) hwl)
            by_cases hlt : j < k
            · obtain ⟨b1, o1, rfl, hb1, hc1⟩ := HR.out.ed (by rw [hk2.out]; omega)
              obtain ⟨x, hx⟩ := edAt (l := a.ed) (k := j) (by rw [hk2.out]; exact hlt)
              obtain ⟨x0, x1, x2⟩ : EdAt wr b1 (o1 + j * 3) x := (hc1 j x hx).keep fun o => hbel.out.1.cell (p := ⟨b1, o, none⟩) (Nat.lt_of_lt_of_le hb1 HB0.out)
              have HX := Lib.hid hx
              obtain ⟨xf, xe, xt⟩ := x
              simp only at x0 x1 x2
              have hBA := Lib.hid (show Below w.heap.size w (wr.alloc (.cells #[.int .i64 xf, .int .i64 xe, .int .i64 xt] 67)) from hbel.out.1.alloc (by omega) _)
              clear hx
              by_cases c0 : xf < 0
              · have hf := Lib.hid (show (2 : Int) = v2 from (eg_range HX.out ht.out (.inl (by simp [inSt]; omega))).symm)
                clear ht hc1
                go_wp2_with fail
                go_ret
                exact ⟨ret_int hf.out, hBA.out⟩
              by_cases c1 : s ≤ xf
              · have hf := Lib.hid (show (2 : Int) = v2 from (eg_range HX.out ht.out (.inl (by simp [inSt]; omega))).symm)
                clear ht hc1
                go_wp2_with fail
                go_ret
                exact ⟨ret_int hf.out, hBA.out⟩
              by_cases c2 : xt < 0
              · have hf := Lib.hid (show (2 : Int) = v2 from (eg_range HX.out ht.out (.inr (by simp [inSt]; omega))).symm)
                clear ht hc1
                go_wp2_with fail
                go_ret
                exact ⟨ret_int hf.out, hBA.out⟩
              by_cases c3 : s ≤ xt
              · have hf := Lib.hid (show (2 : Int) = v2 from (eg_range HX.out ht.out (.inr (by simp [inSt]; omega))).symm)
                clear ht hc1
                go_wp2_with fail
                go_ret
                exact ⟨ret_int hf.out, hBA.out⟩
              have hu0 := Lib.hid (show inSt s xf = true by simp [inSt]; omega)
              have hu1 := Lib.hid (show inSt s xt = true by simp [inSt]; omega)
              obtain ⟨r, hr0⟩ : ∃ r, decide (xe ∈ a.al) = r := ⟨_, rfl⟩
              have H2 := Lib.hid (fun W (hw : Below w.heap.size w W) => by have h := HE.out xe W hw; rw [hr0] at h; exact h)
              cases r
              · have hf := Lib.hid (show (9 : Int) = v2 from (eg_unknown HX.out ht.out hu0.out hu1.out hr0).symm)
                clear ht hc1 hr0
                go_wp2_with fail
                refine (H2.out _ hBA.out).mono ?_
                rintro e w' ⟨rfl, rfl⟩
                go_wp2_with fail
                go_ret
                exact ⟨ret_int hf.out, hBA.out⟩
              · have hR0 := Lib.hid hr0
                clear hr0
                rcases Nat.eq_zero_or_pos j with hj0 | hj0
                · have hn := Lib.hid (eg_next HX.out ht.out hu0.out hu1.out hR0.out (fun y hy => absurd hy (by omega)))
                  have hd : decide (0 < j) = false := by simp; omega
                  clear hj0 ht hc1
                  go_wp2_with fail
                  refine (H2.out _ hBA.out).mono ?_
                  rintro e w' ⟨rfl, rfl⟩
                  go_wp2_with fail
                  go_quiet (fail)
                  go_wp2_with fail
                  go_roundw
                  case rel => exact ⟨j + 1, by omega, by go_num, hn, by first | exact below_drewN hBA.out _ | exact hBA.out, by first | exact HXA.out _ _ _ | exact (HXA.out _ _ _).drewN _, by first | (simp; omega) | (simp [World.drewN]; omega)⟩
                  case measure => simp [intOf]; omega
                · obtain ⟨y, hy⟩ := edAt (l := a.ed) (k := j - 1) (by rw [hk2.out]; omega)
                  obtain ⟨y0, y1, y2⟩ : EdAt wr b1 (o1 + (j - 1) * 3) y := (hc1 (j - 1) y hy).keep fun o => hbel.out.1.cell (p := ⟨b1, o, none⟩) (Nat.lt_of_lt_of_le hb1 HB0.out)
                  have HY := Lib.hid hy
                  obtain ⟨yf, ye, yt⟩ := y
                  simp only at y0 y1 y2
                  have hd : decide (0 < j) = true := by simp; omega
                  obtain ⟨l, hl⟩ : ∃ l, j - 1 = l := ⟨_, rfl⟩
                  rw [hl] at y0 y1 y2
                  have hl1 : (j : Int) - 1 = (l : Int) := by omega
                  have hl2 : IntKind.i64.wrap (l : Int) = (l : Int) := IntWalk.i64_in _ (by omega)
                  have hlk : (l : Int) < (k : Int) := by omega
                  have hl0 : (0 : Int) ≤ (l : Int) := by omega
                  have hB1l : b1 < wr.heap.size := by have := hbel.out.1.size; have := HB0.out; omega
                  have Y0 := fun cs : Array Value => fun ty => (World.cell?_alloc_lt wr (.cells cs ty) ⟨b1, o1 + l * 3, none⟩ hB1l).trans y0
                  have Y1 := fun cs : Array Value => fun ty => (World.cell?_alloc_lt wr (.cells cs ty) ⟨b1, o1 + l * 3 + 1, none⟩ hB1l).trans y1
                  clear hy hc1 hl
                  by_cases o0 : xf < yf
                  · have hf := Lib.hid (show (5 : Int) = v2 from (eg_order HX.out ht.out hu0.out hu1.out hR0.out hj0 HY.out (by rw [cmpE_le]; unfold ltE; simp; omega)).symm)
                    clear ht hj0
                    go_wp2_with fail
                    refine (H2.out _ hBA.out).mono ?_
                    rintro e w' ⟨rfl, rfl⟩
                    go_wp2_with fail
                    go_quiet (fail)
                    go_wp2_with fail
                    go_ret
                    exact ⟨ret_int hf.out, by first | exact below_drewN hBA.out _ | exact hBA.out⟩
                  have ho0 : decide (xf < yf) = false := by simp; omega
                  by_cases o1' : xf = yf
                  · by_cases o2 : xe ≤ ye
                    · have hf := Lib.hid (show (5 : Int) = v2 from (eg_order HX.out ht.out hu0.out hu1.out hR0.out hj0 HY.out (by rw [cmpE_le]; unfold ltE; simp; omega)).symm)
                      have hq : (xf == yf) = true := by simp [o1']
                      have hle : decide (xe ≤ ye) = true := by simp; omega
                      clear ht hj0 o1'
                      go_wp2_with fail
                      refine (H2.out _ hBA.out).mono ?_
                      rintro e w' ⟨rfl, rfl⟩
                      go_wp2_with fail
                      go_quiet (fail)
                      go_wp2_with fail
                      go_ret
                      exact ⟨ret_int hf.out, by first | exact below_drewN hBA.out _ | exact hBA.out⟩
                    · have hn := Lib.hid (eg_next HX.out ht.out hu0.out hu1.out hR0.out (fun y hj hy => by rw [HY.out] at hy; injection hy with hy; subst hy; rw [cmpE_le]; unfold ltE; simp; omega))
                      have hq : (xf == yf) = true := by simp [o1']
                      have hle : decide (xe ≤ ye) = false := by simp; omega
                      clear ht hj0 o1' o2
                      go_wp2_with fail
                      refine (H2.out _ hBA.out).mono ?_
                      rintro e w' ⟨rfl, rfl⟩
                      go_wp2_with fail
                      go_quiet (fail)
                      go_wp2_with fail
                      go_roundw
                      case rel => exact ⟨j + 1, by omega, by go_num, hn, by first | exact below_drewN hBA.out _ | exact hBA.out, by first | exact HXA.out _ _ _ | exact (HXA.out _ _ _).drewN _, by first | (simp; omega) | (simp [World.drewN]; omega)⟩
                      case measure => simp [intOf]; omega
                  · have hn := Lib.hid (eg_next HX.out ht.out hu0.out hu1.out hR0.out (fun y hj hy => by rw [HY.out] at hy; injection hy with hy; subst hy; rw [cmpE_le]; unfold ltE; simp; omega))
                    have hq : (xf == yf) = false := by simp [o1']
                    clear ht hj0 o1'
                    go_wp2_with fail
                    refine (H2.out _ hBA.out).mono ?_
                    rintro e w' ⟨rfl, rfl⟩
                    go_wp2_with fail
                    go_quiet (fail)
                    go_wp2_with fail
                    go_roundw
                    case rel => exact ⟨j + 1, by omega, by go_num, hn, by first | exact below_drewN hBA.out _ | exact hBA.out, by first | exact HXA.out _ _ _ | exact (HXA.out _ _ _).drewN _, by first | (simp; omega) | (simp [World.drewN]; omega)⟩
                    case measure => simp [intOf]; omega
            · obtain rfl : j = k := by omega
              have hf := Lib.hid (show (0 : Int) = v2 from (eg_end hk2.out ht.out).symm)
              clear ht
              go_wp2_with fail
              go_ret
              exact ⟨ret_int hf.out, hbel.out.1⟩
        · have hr := Lib.hid (show chkE a = v by rw [chkE, HST.out, ← HU.out, if_neg (by simp [h0'.out]), if_neg h1, if_neg h2, ← HV.out, if_pos h3])
          rw [hr.out]
          have hb3 : (v != 0) = true := by simp [h3]
          clear h3
          go_enter Try.func15, Try.ntmps15
          go_wp2_with fail
          refine HC1.out.mono ?_
          rintro e w' ⟨rfl, q, rfl⟩
          have HB2 := Lib.hid (below_drewN HB1.out q)
          obtain ⟨p0, p1, p2, p3⟩ := HX.out.drewN q
          go_wp2_with fail
          refine (HC2.out _ HB2.out).mono ?_
          rintro e w' ⟨rfl, q2, rfl⟩
          go_wp2_with fail
          go_ret
          exact ⟨rfl, below_drewN HB1.out _⟩
  · have hb0 : (u != 0) = true := by simp [h0]
    have hr := Lib.hid (show chkE a = u by rw [chkE, ← HU.out, if_pos h0])
    rw [hr.out]
    clear h0
    go_enter Try.func15, Try.ntmps15
    go_wp2_with fail
    refine HC1.out.mono ?_
    rintro e w' ⟨rfl, q, rfl⟩
    go_wp2_with fail
    go_ret
    exact ⟨rfl, below_drewN HB1.out q⟩
end Go.Proofs.Ytcciiikaejjooaa
