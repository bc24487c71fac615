/- Layer 6: the law of Enabled, Marked, Step and Refusers, walked. -/
import Derived.Test.YtedleffmbddccaaDoorZlF
import Derived.Test.YtedleffmbddccaaDoorZa11
import Derived.Deep.CutBlock
import Derived.BigQuiet
set_option linter.unusedVariables false
set_option linter.unusedSimpArgs false
set_option linter.unusedSectionVars false
namespace Go.Proofs.YtedleffmbddccaaDoor
open Go.RowKit Go.Sort

theorem ct_las {l : List Au} {t : List Int} (h : chkL l = 0) : ctE l t = if t.length ≠ l.length then 4 else if ctGo t l = true then 0 else 2 := by
  rw [ctE, if_neg (by rw [h]; simp)]
theorem ctGo_next {l : List Au} {t : List Int} {k : Nat} {a : Au} (hk : k < t.length) (ha : l[k]? = some a) : ctGo (t.drop k) (l.drop k) = (decide (0 ≤ t.getD k 0 ∧ t.getD k 0 < a.st) && ctGo (t.drop (k + 1)) (l.drop (k + 1))) := by
  rw [drop_int hk, drop_au ha, ctGo]
theorem ctGo_end {l : List Au} {t : List Int} {k : Nat} (hk : t.length ≤ k) : ctGo (t.drop k) (l.drop k) = true := by
  rw [List.drop_of_length_le hk]; cases l.drop k <;> rfl
/-- What the first loop keeps of the error. -/
def StI (m nl : Nat) (v : Bool) (t : List Int) (las : List Au) (u : Int) (k : Nat) : Prop := (m ≠ nl ∧ u = 4 ∧ k = 0) ∨ (m = nl ∧ u = 0 ∧ ctGo (t.drop k) (las.drop k) = v) ∨ (m = nl ∧ u = 2 ∧ v = false)

set_option maxHeartbeats 8000000 in
set_option maxRecDepth 100000 in
theorem lawSteps (A : Option Addr) (n c : Nat) (ps : List Pt) (A2 : Option Addr) (m d : Nat) (t : List Int) (ev : Int) (w : World) (h : RdPs w w.heap.size A ps) (hn : ps.length = n) (hok : ∀ p ∈ ps, PtOk p) (h2 : RdI w w.heap.size A2 t) (hm : t.length = m) (_hg : ∀ z ∈ t, (Lit.int .i64 z).wf = true) (_hw : (Lit.int .i64 ev).wf = true) (hT : TabAt 0 Lib.deBruijn32tab w) :
    Calls Tryd.prog 7 #[.slice A n c, .slice A2 m d, .int .i64 ev] w fun e w' => e = .returned (.bool true) ∧ Below w.heap.size w w' := by
  have hz := tab_pos hT
  have HTB := Lib.hid (fun W (hW : Below w.heap.size w W) => tab_below hT hW hz)
  have HK := Lib.hid (fun W (hW : Below w.heap.size w W) => known_any W (HTB.out W hW) (Nat.lt_of_lt_of_le hz hW.size))
  have HLi := Lib.hid (fun W (hW : Below w.heap.size w W) => list_any A n c ps W ((h.below hW (Nat.le_refl _)).more hW.size) hn hok)
  have HB := Lib.hid (Below.refl w.heap.size w)
  have HTU := Lib.hid h2
  have HM := Lib.hid hm
  clear h hn hok hT hz _hg _hw h2 hm
  by_cases hm4 : m ≤ 4
  · have g4 : ¬ (4 : Int) < (m : Int) := by omega
    go_enter Tryd.func7, Tryd.ntmps7
    go_wp2_with fail
    refine (HK.out _ HB.out).mono ?_
    rintro e w1 ⟨rfl, hb⟩
    have HB := Lib.hid (HB.out.trans (hb.mono HB.out.size))
    have HTU := Lib.hid ((HTU.out.below hb (Nat.le_refl _)).more hb.size)
    clear hb
    go_wp2_with fail
    refine (HLi.out _ HB.out).mono ?_
    rintro e w2 ⟨Al, cl, las, rfl, hl3, hrl, hok, _, _, hb⟩
    have HB := Lib.hid (HB.out.trans (hb.mono HB.out.size))
    have HTU := Lib.hid ((HTU.out.below hb (Nat.le_refl _)).more hb.size)
    clear hb
    obtain ⟨nl, hnl⟩ : ∃ nl, nl = las.length := ⟨_, rfl⟩
    rw [← hnl] at hl3 ⊢
    have hnl3 : nl ≤ 3 := by omega
    have HNL := Lib.hid hnl.symm
    have HAS := Lib.hid hrl
    have HCK := Lib.hid (las_chk hok (by omega))
    have HRW := Lib.hid (las_rw hok)
    have HCT := Lib.hid (show ctE las t = if m ≠ nl then 4 else if ctGo t las = true then 0 else 2 by rw [ct_las HCK.out, HM.out, hnl])
    clear hl3 hnl hrl hok HLi
    obtain ⟨v, hv⟩ : ∃ v, v = ctGo t las := ⟨_, rfl⟩
    rw [← hv] at HCT
    have HV := Lib.hid hv
    clear hv
    obtain ⟨u0, hu0⟩ : ∃ u0 : Int, u0 = if m = nl then 0 else 4 := ⟨_, rfl⟩
    have HU0 := Lib.hid hu0
    clear hu0
    have HBr := Lib.hid (Below.refl w2.heap.size w2)
    go_upto_if 38 with fail
    go_cut [8] from 34 to 38 (fun wv wx => wv = .int .i64 u0 ∧ wx = w2)
    case first =>
      by_cases hmn : m = nl
      · have hu : u0 = 0 := by rw [HU0.out, if_pos hmn]
        subst hmn hu
        go_wp2_with fail
        go_meet
        case rel => exact ⟨rfl, rfl⟩
      · have hu : u0 = 4 := by rw [HU0.out, if_neg hmn]
        have hb : ((m : Int) != (nl : Int)) = true := by simp; omega
        subst hu
        go_wp2_with fail
        go_meet
        case rel => exact ⟨rfl, rfl⟩
    case rest =>
      obtain ⟨rfl, rfl⟩ := hcut
      obtain ⟨ct, hct⟩ : ∃ ct, ct = ctE las t := ⟨_, rfl⟩
      rw [← hct] at HCT
      have HCE := Lib.hid hct.symm
      clear hct
      go_upto_block 0 with fail
      go_cut [8, 9] from 39 to 65 (fun wv i wx => wv = .int .i64 ct ∧ Hid (Below wc.heap.size wc wx))
      case first =>
        go_wp2_with fail
        go_loopw [8, 9] (fun wv i wr => ∃ (k : Nat) (u : Int), wv = .int .i64 u ∧ i = .int .i64 k ∧ k ≤ nl ∧ Hid (StI m nl v t las u k) ∧ Hid (∃ q, wr = wc.drewN q)) (fun _ i _ => nl - (intOf i).toNat)
        case atStart => exact ⟨0, u0, rfl, rfl, Nat.zero_le _, Lib.hid (by
          unfold StI
          by_cases hmn : m = nl
          · right; left; exact ⟨hmn, by rw [HU0.out, if_pos hmn], by rw [HV.out]; rfl⟩
          · left; exact ⟨hmn, by rw [HU0.out, if_neg hmn], rfl⟩), Lib.hid ⟨0, rfl⟩⟩
        case round =>
          obtain ⟨k, u, rfl, rfl, hkn, hst, hq⟩ := hrel
          have hbq := Lib.hid (show Below wc.heap.size wc wr by obtain ⟨q, rfl⟩ := hq.out; exact below_drewN (Below.refl _ _) q)
          rcases hst.out with ⟨h1, rfl, rfl⟩ | ⟨h1, rfl, h3⟩ | ⟨h1, rfl, h3⟩
          · have hc4 : ct = 4 := by rw [HCT.out, if_pos h1]
            subst hc4
            clear h1
            by_cases hl0 : 0 < nl
            · have w0 : (0 : Int) < (nl : Int) := by omega
              go_wp2_with fail
              go_meet
              case rel => exact ⟨rfl, hbq⟩
            · obtain rfl : nl = 0 := by omega
              go_wp2_with fail
              go_meet
              case rel => exact ⟨rfl, hbq⟩
          · by_cases hlt : k < nl
            · obtain ⟨a, ha⟩ : ∃ a, las[k]? = some a := ⟨_, List.getElem?_eq_getElem (by rw [HNL.out]; exact hlt)⟩
              obtain ⟨b, o, rfl, hb, hc⟩ := HAS.out (by rw [HNL.out]; omega)
              obtain ⟨A1, n1, c1, s1, M1, m1, d1, E1, k1, g1, q0, q1, q2, q3, hr⟩ := hc k a ha
              obtain ⟨b2, o2, rfl, hb2, hc2⟩ := HTU.out (by rw [HM.out]; omega)
              have p1 : wr.cell? ⟨b, o + k * 4 + 1, none⟩ = some (.int .i64 s1) := (hbq.out.cell (p := ⟨b, o + k * 4 + 1, none⟩) hb).trans q1
              have r1 := (hbq.out.cell (p := ⟨b2, o2 + k, none⟩) hb2).trans (hc2 k (by rw [HM.out]; omega))
              have hnx := ctGo_next (t := t) (k := k) (by rw [HM.out]; omega) ha
              obtain ⟨s, hs⟩ : ∃ s, s = t.getD k 0 := ⟨_, rfl⟩
              rw [← hs] at r1 hnx
              rw [hr.st, h3] at hnx
              have HNX := Lib.hid hnx
              have HMN := Lib.hid h1
              have w0 : (k : Int) < (nl : Int) := by omega
              have w1 : (0 : Int) ≤ (k : Int) := by omega
              have w3 : (k : Int) < (m : Int) := by omega
              clear q0 q1 q2 q3 hc hc2 ha hr hs hst h3 hnx h1
              by_cases hneg : s < 0
              · have hvf := Lib.hid (show v = false by rw [HNX.out, decide_eq_false (by omega)]; rfl)
                go_wp2_with fail
                go_quiet (fail)
                go_wp2_with fail
                go_roundw
                case rel => exact ⟨k + 1, 2, rfl, by go_num, by omega, Lib.hid (.inr (.inr ⟨HMN.out, rfl, hvf.out⟩)), Lib.hid (by obtain ⟨q, rfl⟩ := hq.out; exact ⟨_, World.drewN_drewN _ _ _⟩)⟩
                case measure => simp [intOf] <;> omega
              · have hneg2 : decide (s < 0) = false := by simpa using hneg
                by_cases hge : s1 ≤ s
                · have hvf := Lib.hid (show v = false by rw [HNX.out, decide_eq_false (by omega)]; rfl)
                  go_wp2_with fail
                  go_quiet (fail)
                  go_wp2_with fail
                  go_roundw
                  case rel => exact ⟨k + 1, 2, rfl, by go_num, by omega, Lib.hid (.inr (.inr ⟨HMN.out, rfl, hvf.out⟩)), Lib.hid (by obtain ⟨q, rfl⟩ := hq.out; exact ⟨_, World.drewN_drewN _ _ _⟩)⟩
                  case measure => simp [intOf] <;> omega
                · have hvn := Lib.hid (show ctGo (t.drop (k + 1)) (las.drop (k + 1)) = v by rw [HNX.out, decide_eq_true (by omega)]; rfl)
                  have hlt2 : s < s1 := by omega
                  go_wp2_with fail
                  go_quiet (fail)
                  go_wp2_with fail
                  go_roundw
                  case rel => exact ⟨k + 1, 0, rfl, by go_num, by omega, Lib.hid (.inr (.inl ⟨HMN.out, rfl, hvn.out⟩)), Lib.hid (by obtain ⟨q, rfl⟩ := hq.out; exact ⟨_, World.drewN_drewN _ _ _⟩)⟩
                  case measure => simp [intOf] <;> omega
            · obtain rfl : k = nl := by omega
              have hvt : v = true := by rw [← h3]; exact ctGo_end (by rw [HM.out]; omega)
              have hc0 : ct = 0 := by rw [HCT.out, if_neg (by simp [h1]), if_pos hvt]
              subst hc0
              clear h1 h3 hvt hst
              go_wp2_with fail
              go_meet
              case rel => exact ⟨rfl, hbq⟩
          · have hc2 : ct = 2 := by rw [HCT.out, if_neg (by simp [h1]), if_neg (by rw [h3]; simp)]
            subst hc2
            clear h1 h3 hst
            by_cases hlt : k < nl
            · have w0 : (k : Int) < (nl : Int) := by omega
              go_wp2_with fail
              go_meet
              case rel => exact ⟨rfl, hbq⟩
            · obtain rfl : k = nl := by omega
              go_wp2_with fail
              go_meet
              case rel => exact ⟨rfl, hbq⟩
      case rest =>
        obtain ⟨rfl, hbx⟩ := hcut
        have hb := hbx.out
        have HB := Lib.hid (HB.out.trans (hb.mono HB.out.size))
        have HTU := Lib.hid ((HTU.out.below hb (Nat.le_refl _)).more hb.size)
        have HAS := Lib.hid ((HAS.out.below hb (Nat.le_refl _)).more hb.size)
        clear hb
        clear hbx HBr
        obtain ⟨ez, hez⟩ : ∃ ez, ez = enR6 las t := ⟨_, rfl⟩
        obtain ⟨mr, hmr⟩ : ∃ mr, mr = mrkR las t := ⟨_, rfl⟩
        have HEZ := Lib.hid hez.symm
        have HMR := Lib.hid hmr.symm
        clear hez hmr
        go_wp2_with fail
        refine (g_en HAS.out HNL.out HTU.out HM.out HEZ.out HCE.out).mono ?_
        rintro e w3 ⟨A7, n7, c7, rfl, hn7, hr7, hb⟩
        have HB := Lib.hid (HB.out.trans (hb.mono HB.out.size))
        have HTU := Lib.hid ((HTU.out.below hb (Nat.le_refl _)).more hb.size)
        have HAS := Lib.hid ((HAS.out.below hb (Nat.le_refl _)).more hb.size)
        clear hb
        have HN7 := Lib.hid hn7
        have HR7 := Lib.hid hr7
        clear hn7 hr7
        go_wp2_with fail
        refine (g_mk HAS.out HNL.out HTU.out HM.out HMR.out HCE.out).mono ?_
        rintro e w4 ⟨rfl, hb⟩
        have HB := Lib.hid (HB.out.trans (hb.mono HB.out.size))
        have HTU := Lib.hid ((HTU.out.below hb (Nat.le_refl _)).more hb.size)
        have HAS := Lib.hid ((HAS.out.below hb (Nat.le_refl _)).more hb.size)
        have HR7 := Lib.hid ((HR7.out.below hb (Nat.le_refl _)).more hb.size)
        clear hb
        by_cases hc0 : ct = 0
        · subst hc0
          have hmn : m = nl := by
            have := HCT.out
            by_cases hmn : m = nl
            · exact hmn
            · rw [if_pos hmn] at this; omega
          subst hmn
          have hez : ez = (alT las).filter (enG las t) := by rw [← HEZ.out, enR6, if_neg (by rw [HCE.out]; simp), en_same (by rw [HM.out, HNL.out])]
          have hmr : mr = mkT las t := by rw [← HMR.out, mrkR, if_neg (by rw [HCE.out]; simp)]
          have HRE := Lib.hid hez.symm
          have HRM := Lib.hid hmr.symm
          have hn7b : n7 ≤ 32 := by rw [← HN7.out, hez]; exact Nat.le_trans (List.length_filter_le _ _) (alT_len HRW.out)
          clear hez hmr
          go_wp2_with fail
          refine (g_ren HAS.out HNL.out (by omega) HTU.out HM.out HRW.out HRE.out).mono ?_
          rintro e w5 ⟨A11, n11, c11, rfl, hn11, hr11, hb⟩
          have HB := Lib.hid (HB.out.trans (hb.mono HB.out.size))
          have HTU := Lib.hid ((HTU.out.below hb (Nat.le_refl _)).more hb.size)
          have HAS := Lib.hid ((HAS.out.below hb (Nat.le_refl _)).more hb.size)
          have HR7 := Lib.hid ((HR7.out.below hb (Nat.le_refl _)).more hb.size)
          clear hb
          have HN11 := Lib.hid hn11
          have HR11 := Lib.hid hr11
          have hn11b : n11 ≤ 32 := by rw [← hn11, HN7.out]; exact hn7b
          clear hn11 hr11
          go_wp2_with fail
          refine (g_same (decide_eq_true rfl) HR7.out HR11.out HN7.out HN11.out (by omega) (by omega)).mono ?_
          rintro e w6 ⟨rfl, hb⟩
          have HB := Lib.hid (HB.out.trans (hb.mono HB.out.size))
          have HTU := Lib.hid ((HTU.out.below hb (Nat.le_refl _)).more hb.size)
          have HAS := Lib.hid ((HAS.out.below hb (Nat.le_refl _)).more hb.size)
          have HR7 := Lib.hid ((HR7.out.below hb (Nat.le_refl _)).more hb.size)
          clear hb
          go_wp2_with fail
          refine (g_rmk HAS.out HNL.out (by omega) HTU.out HM.out HRM.out).mono ?_
          rintro e w7 ⟨rfl, hb⟩
          have HB := Lib.hid (HB.out.trans (hb.mono HB.out.size))
          have HTU := Lib.hid ((HTU.out.below hb (Nat.le_refl _)).more hb.size)
          have HAS := Lib.hid ((HAS.out.below hb (Nat.le_refl _)).more hb.size)
          have HR7 := Lib.hid ((HR7.out.below hb (Nat.le_refl _)).more hb.size)
          clear hb
          go_wp2_with fail
          refine (g_ralph HAS.out HNL.out (by omega) HRW.out).mono ?_
          rintro e w8 ⟨A8, n8, c8, rfl, hn8, hr8, hb⟩
          have HB := Lib.hid (HB.out.trans (hb.mono HB.out.size))
          have HTU := Lib.hid ((HTU.out.below hb (Nat.le_refl _)).more hb.size)
          have HAS := Lib.hid ((HAS.out.below hb (Nat.le_refl _)).more hb.size)
          have HR7 := Lib.hid ((HR7.out.below hb (Nat.le_refl _)).more hb.size)
          clear hb
          have HN8 := Lib.hid hn8
          have HR8 := Lib.hid hr8
          have hn32 : n8 ≤ 32 := by rw [← hn8]; exact alT_len HRW.out
          clear hn8 hr8
          obtain ⟨th, hth⟩ : ∃ th, th = decide (ev ∈ alT las) := ⟨_, rfl⟩
          have HTH := Lib.hid hth
          clear hth
          go_wp2_with fail
          go_loopw [15, 16] (fun tv i wr => ∃ k : Nat, k ≤ n8 ∧ i = .int .i64 k ∧ tv = .bool (decide (ev ∈ (alT las).take k)) ∧ wr = w8) (fun _ i _ => n8 - (intOf i).toNat)
          case atStart => exact ⟨0, Nat.zero_le _, rfl, by simp, rfl⟩
          case round =>
            obtain ⟨k, hkn, rfl, rfl, rfl⟩ := hrel
            by_cases hlt : k < n8
            · obtain ⟨b8, o8, rfl, hb8, hc8⟩ := HR8.out (by rw [HN8.out]; omega)
              have hkl : k < (alT las).length := by rw [HN8.out]; exact hlt
              have r8 := hc8 k hkl
              obtain ⟨x8, hx8⟩ : ∃ x, x = (alT las).getD k 0 := ⟨_, rfl⟩
              rw [← hx8] at r8
              have hsn := mem_snoc_take (x := ev) hkl
              rw [← hx8] at hsn
              have w0 : (k : Int) < (n8 : Int) := by omega
              have w1 : (0 : Int) ≤ (k : Int) := by omega
              clear hc8 hx8
              obtain ⟨p8, hp8⟩ : ∃ p, p = decide (ev ∈ (alT las).take k) := ⟨_, rfl⟩
              rw [← hp8]
              have HP8 := Lib.hid hp8
              have HSN := Lib.hid hsn
              clear hp8 hsn
              cases p8
              · have hno : ev ∉ (alT las).take k := by have := HP8.out; simpa using this.symm
                by_cases he : x8 = ev
                · have hbe : (x8 == ev) = true := by simp [he]
                  have hnx := Lib.hid (show decide (ev ∈ (alT las).take (k + 1)) = true from decide_eq_true (HSN.out.2 (.inr he)))
                  clear hno he
                  go_wp2_with fail
                  go_roundw
                  case rel => exact ⟨k + 1, by omega, by go_num, by rw [hnx.out], by first | rfl | trivial⟩
                  case measure => simp [intOf] <;> omega
                · have hbe : (x8 == ev) = false := by simp [he]
                  have hnx := Lib.hid (show decide (ev ∈ (alT las).take (k + 1)) = false from decide_eq_false fun hh => (HSN.out.1 hh).elim hno he)
                  clear hno he
                  go_wp2_with fail
                  go_roundw
                  case rel => exact ⟨k + 1, by omega, by go_num, by rw [hnx.out], by first | rfl | trivial⟩
                  case measure => simp [intOf] <;> omega
              · have hnx := Lib.hid (show decide (ev ∈ (alT las).take (k + 1)) = true from decide_eq_true (HSN.out.2 (.inl (by have := HP8.out; simpa using this.symm))))
                go_wp2_with fail
                go_roundw
                case rel => exact ⟨k + 1, by omega, by go_num, by rw [hnx.out], by first | rfl | trivial⟩
                case measure => simp [intOf] <;> omega
            · obtain rfl : k = n8 := by omega
              rw [show (alT las).take k = alT las from List.take_of_length_le (by rw [HN8.out]; exact Nat.le_refl _), ← HTH.out]
              by_cases hev : ev ∈ alT las
              · obtain rfl : th = true := by rw [HTH.out]; exact decide_eq_true hev
                have HCS := Lib.hid (show csE6 las t ev = 0 by rw [csE6, if_neg (by rw [HCE.out]; simp), if_pos hev])
                have HSR := Lib.hid (show stpR las t ev = stpT las t ev by rw [stpR, if_neg (by rw [HCS.out]; simp)])
                have HRR := Lib.hid (show refR las t ev = rfG las 0 t ev by rw [refR, if_neg (by rw [HCS.out]; simp), rfG_pad (by rw [HM.out, HNL.out])])
                obtain ⟨sz, hsz⟩ : ∃ sz, sz = (stpT las t ev).getD [] := ⟨_, rfl⟩
                obtain ⟨ss, hss⟩ : ∃ ss, ss = (stpT las t ev).isSome := ⟨_, rfl⟩
                obtain ⟨rz, hrz⟩ : ∃ rz, rz = rfG las 0 t ev := ⟨_, rfl⟩
                have HSZ := Lib.hid hsz.symm
                have HSS := Lib.hid hss.symm
                have HRZ := Lib.hid hrz.symm
                have hszb : sz.length ≤ 3 := by
                  rw [hsz]
                  rcases stp_ref (l := las) (t := t) (e := ev) (by rw [HM.out, HNL.out]) with ⟨_, h2⟩ | ⟨_, h2⟩
                  · rw [h2, Option.getD_some, stG_len, HM.out]; omega
                  · rw [h2]; simp
                have hrzb : rz.length ≤ 3 := by rw [hrz]; have := rfG_len las 0 t ev; rw [HNL.out] at this; omega
                clear hev hsz hss hrz
                go_wp2_with fail
                refine (g_stp HAS.out HNL.out HTU.out HM.out (by rw [HSR.out, HSZ.out]) (by rw [HSR.out, HSS.out]) HCS.out).mono ?_
                rintro e w9 ⟨A9, n9, c9, rfl, hn9, hr9, hb⟩
                have HB := Lib.hid (HB.out.trans (hb.mono HB.out.size))
                have HTU := Lib.hid ((HTU.out.below hb (Nat.le_refl _)).more hb.size)
                have HAS := Lib.hid ((HAS.out.below hb (Nat.le_refl _)).more hb.size)
                have HR7 := Lib.hid ((HR7.out.below hb (Nat.le_refl _)).more hb.size)
                clear hb
                have HN9 := Lib.hid hn9
                have HR9 := Lib.hid hr9
                have hn9b : n9 ≤ 3 := by omega
                clear hn9 hr9
                go_wp2_with fail
                refine (g_ref HAS.out HNL.out HTU.out HM.out (by rw [HRR.out, HRZ.out]) HCS.out (HTB.out _ HB.out)).mono ?_
                rintro e w10 ⟨A10, n10, c10, rfl, hn10, hr10, hb⟩
                have HB := Lib.hid (HB.out.trans (hb.mono HB.out.size))
                have HTU := Lib.hid ((HTU.out.below hb (Nat.le_refl _)).more hb.size)
                have HAS := Lib.hid ((HAS.out.below hb (Nat.le_refl _)).more hb.size)
                have HR7 := Lib.hid ((HR7.out.below hb (Nat.le_refl _)).more hb.size)
                have HR9 := Lib.hid ((HR9.out.below hb (Nat.le_refl _)).more hb.size)
                clear hb
                have HN10 := Lib.hid hn10
                have HR10 := Lib.hid hr10
                have hn10b : n10 ≤ 3 := by omega
                clear hn10 hr10
                go_wp2_with fail
                refine (g_rstp HAS.out HNL.out (by omega) HTU.out HM.out HRW.out HSZ.out HSS.out).mono ?_
                rintro e w11 ⟨A12, n12, c12, rfl, hn12, hr12, hb⟩
                have HB := Lib.hid (HB.out.trans (hb.mono HB.out.size))
                have HTU := Lib.hid ((HTU.out.below hb (Nat.le_refl _)).more hb.size)
                have HAS := Lib.hid ((HAS.out.below hb (Nat.le_refl _)).more hb.size)
                have HR7 := Lib.hid ((HR7.out.below hb (Nat.le_refl _)).more hb.size)
                have HR9 := Lib.hid ((HR9.out.below hb (Nat.le_refl _)).more hb.size)
                have HR10 := Lib.hid ((HR10.out.below hb (Nat.le_refl _)).more hb.size)
                clear hb
                have HN12 := Lib.hid hn12
                have HR12 := Lib.hid hr12
                have hn12b : n12 ≤ 3 := by omega
                clear hn12 hr12
                go_wp2_with fail
                refine (g_same (decide_eq_true rfl) HR9.out HR12.out HN9.out HN12.out (by omega) (by omega)).mono ?_
                rintro e w12 ⟨rfl, hb⟩
                have HB := Lib.hid (HB.out.trans (hb.mono HB.out.size))
                have HTU := Lib.hid ((HTU.out.below hb (Nat.le_refl _)).more hb.size)
                have HAS := Lib.hid ((HAS.out.below hb (Nat.le_refl _)).more hb.size)
                have HR7 := Lib.hid ((HR7.out.below hb (Nat.le_refl _)).more hb.size)
                have HR9 := Lib.hid ((HR9.out.below hb (Nat.le_refl _)).more hb.size)
                have HR10 := Lib.hid ((HR10.out.below hb (Nat.le_refl _)).more hb.size)
                clear hb
                go_wp2_with fail
                refine (g_rref HAS.out HNL.out (by omega) HTU.out HM.out HRW.out HRZ.out).mono ?_
                rintro e w13 ⟨A13, n13, c13, rfl, hn13, hr13, hb⟩
                have HB := Lib.hid (HB.out.trans (hb.mono HB.out.size))
                have HTU := Lib.hid ((HTU.out.below hb (Nat.le_refl _)).more hb.size)
                have HAS := Lib.hid ((HAS.out.below hb (Nat.le_refl _)).more hb.size)
                have HR7 := Lib.hid ((HR7.out.below hb (Nat.le_refl _)).more hb.size)
                have HR9 := Lib.hid ((HR9.out.below hb (Nat.le_refl _)).more hb.size)
                have HR10 := Lib.hid ((HR10.out.below hb (Nat.le_refl _)).more hb.size)
                clear hb
                have HN13 := Lib.hid hn13
                have HR13 := Lib.hid hr13
                have hn13b : n13 ≤ 3 := by omega
                clear hn13 hr13
                go_wp2_with fail
                refine (g_same (decide_eq_true rfl) HR10.out HR13.out HN10.out HN13.out (by omega) (by omega)).mono ?_
                rintro e w14 ⟨rfl, hb⟩
                have HB := Lib.hid (HB.out.trans (hb.mono HB.out.size))
                have HTU := Lib.hid ((HTU.out.below hb (Nat.le_refl _)).more hb.size)
                have HAS := Lib.hid ((HAS.out.below hb (Nat.le_refl _)).more hb.size)
                have HR7 := Lib.hid ((HR7.out.below hb (Nat.le_refl _)).more hb.size)
                have HR9 := Lib.hid ((HR9.out.below hb (Nat.le_refl _)).more hb.size)
                have HR10 := Lib.hid ((HR10.out.below hb (Nat.le_refl _)).more hb.size)
                clear hb
                go_wp2_with fail
                go_ret
                exact ⟨rfl, HB.out⟩
              · obtain rfl : th = false := by rw [HTH.out]; exact decide_eq_false hev
                have HCS := Lib.hid (show csE6 las t ev = 9 by rw [csE6, if_neg (by rw [HCE.out]; simp), if_neg hev])
                have HW0 := Lib.hid (show (9 : Int) ≠ 0 by decide)
                clear hev
                have HS1 := Lib.hid (show stpR las t ev = none by rw [stpR, if_pos (by rw [HCS.out]; exact HW0.out)])
                have HS2 := Lib.hid (show refR las t ev = [] by rw [refR, if_pos (by rw [HCS.out]; exact HW0.out)])
                go_wp2_with fail
                refine (g_stp (zs := []) (ps := false) HAS.out HNL.out HTU.out HM.out (by rw [HS1.out]; rfl) (by rw [HS1.out]; rfl) HCS.out).mono ?_
                rintro e w9 ⟨A9, n9, c9, rfl, hn9, _, hb⟩
                have HB := Lib.hid (HB.out.trans (hb.mono HB.out.size))
                have HTU := Lib.hid ((HTU.out.below hb (Nat.le_refl _)).more hb.size)
                have HAS := Lib.hid ((HAS.out.below hb (Nat.le_refl _)).more hb.size)
                have HR7 := Lib.hid ((HR7.out.below hb (Nat.le_refl _)).more hb.size)
                clear hb
                obtain rfl : n9 = 0 := hn9.symm
                clear hn9
                go_wp2_with fail
                refine (g_ref HAS.out HNL.out HTU.out HM.out HS2.out HCS.out (HTB.out _ HB.out)).mono ?_
                rintro e w10 ⟨A10, n10, c10, rfl, hn10, _, hb⟩
                have HB := Lib.hid (HB.out.trans (hb.mono HB.out.size))
                have HTU := Lib.hid ((HTU.out.below hb (Nat.le_refl _)).more hb.size)
                have HAS := Lib.hid ((HAS.out.below hb (Nat.le_refl _)).more hb.size)
                have HR7 := Lib.hid ((HR7.out.below hb (Nat.le_refl _)).more hb.size)
                clear hb
                obtain rfl : n10 = 0 := hn10.symm
                clear hn10
                go_wp2_with fail
                go_ret
                exact ⟨rfl, HB.out⟩
        · have hbc : (ct != 0) = true := by simp [hc0]
          have hbc2 : (ct == 0) = false := by simp [hc0]
          have hez : ez = [] := by rw [← HEZ.out, enR6, if_pos (by rw [HCE.out]; exact hc0)]
          have hmr : mr = false := by rw [← HMR.out, mrkR, if_pos (by rw [HCE.out]; exact hc0)]
          subst hez hmr
          obtain rfl : n7 = 0 := HN7.out.symm
          have HCS := Lib.hid (show csE6 las t ev = ct by rw [csE6, if_pos (by rw [HCE.out]; exact hc0), HCE.out])
          have HW0 := Lib.hid hc0
          clear hc0
          go_wp2_with fail
          refine (g_ralph HAS.out HNL.out (by omega) HRW.out).mono ?_
          rintro e w5 ⟨A8, n8, c8, rfl, hn8, hr8, hb⟩
          have HB := Lib.hid (HB.out.trans (hb.mono HB.out.size))
          have HTU := Lib.hid ((HTU.out.below hb (Nat.le_refl _)).more hb.size)
          have HAS := Lib.hid ((HAS.out.below hb (Nat.le_refl _)).more hb.size)
          have HR7 := Lib.hid ((HR7.out.below hb (Nat.le_refl _)).more hb.size)
          clear hb
          have HN8 := Lib.hid hn8
          have HR8 := Lib.hid hr8
          have hn32 : n8 ≤ 32 := by rw [← hn8]; exact alT_len HRW.out
          clear hn8 hr8
          obtain ⟨th, hth⟩ : ∃ th, th = decide (ev ∈ alT las) := ⟨_, rfl⟩
          have HTH := Lib.hid hth
          clear hth
          go_wp2_with fail
          go_loopw [15, 16] (fun tv i wr => ∃ k : Nat, k ≤ n8 ∧ i = .int .i64 k ∧ tv = .bool (decide (ev ∈ (alT las).take k)) ∧ wr = w5) (fun _ i _ => n8 - (intOf i).toNat)
          case atStart => exact ⟨0, Nat.zero_le _, rfl, by simp, rfl⟩
          case round =>
            obtain ⟨k, hkn, rfl, rfl, rfl⟩ := hrel
            by_cases hlt : k < n8
            · obtain ⟨b8, o8, rfl, hb8, hc8⟩ := HR8.out (by rw [HN8.out]; omega)
              have hkl : k < (alT las).length := by rw [HN8.out]; exact hlt
              have r8 := hc8 k hkl
              obtain ⟨x8, hx8⟩ : ∃ x, x = (alT las).getD k 0 := ⟨_, rfl⟩
              rw [← hx8] at r8
              have hsn := mem_snoc_take (x := ev) hkl
              rw [← hx8] at hsn
              have w0 : (k : Int) < (n8 : Int) := by omega
              have w1 : (0 : Int) ≤ (k : Int) := by omega
              clear hc8 hx8
              obtain ⟨p8, hp8⟩ : ∃ p, p = decide (ev ∈ (alT las).take k) := ⟨_, rfl⟩
              rw [← hp8]
              have HP8 := Lib.hid hp8
              have HSN := Lib.hid hsn
              clear hp8 hsn
              cases p8
              · have hno : ev ∉ (alT las).take k := by have := HP8.out; simpa using this.symm
                by_cases he : x8 = ev
                · have hbe : (x8 == ev) = true := by simp [he]
                  have hnx := Lib.hid (show decide (ev ∈ (alT las).take (k + 1)) = true from decide_eq_true (HSN.out.2 (.inr he)))
                  clear hno he
                  go_wp2_with fail
                  go_roundw
                  case rel => exact ⟨k + 1, by omega, by go_num, by rw [hnx.out], by first | rfl | trivial⟩
                  case measure => simp [intOf] <;> omega
                · have hbe : (x8 == ev) = false := by simp [he]
                  have hnx := Lib.hid (show decide (ev ∈ (alT las).take (k + 1)) = false from decide_eq_false fun hh => (HSN.out.1 hh).elim hno he)
                  clear hno he
                  go_wp2_with fail
                  go_roundw
                  case rel => exact ⟨k + 1, by omega, by go_num, by rw [hnx.out], by first | rfl | trivial⟩
                  case measure => simp [intOf] <;> omega
              · have hnx := Lib.hid (show decide (ev ∈ (alT las).take (k + 1)) = true from decide_eq_true (HSN.out.2 (.inl (by have := HP8.out; simpa using this.symm))))
                go_wp2_with fail
                go_roundw
                case rel => exact ⟨k + 1, by omega, by go_num, by rw [hnx.out], by first | rfl | trivial⟩
                case measure => simp [intOf] <;> omega
            · obtain rfl : k = n8 := by omega
              rw [show (alT las).take k = alT las from List.take_of_length_le (by rw [HN8.out]; exact Nat.le_refl _), ← HTH.out]
              have HS1 := Lib.hid (show stpR las t ev = none by rw [stpR, if_pos (by rw [HCS.out]; exact HW0.out)])
              have HS2 := Lib.hid (show refR las t ev = [] by rw [refR, if_pos (by rw [HCS.out]; exact HW0.out)])
              go_wp2_with fail
              refine (g_stp (zs := []) (ps := false) HAS.out HNL.out HTU.out HM.out (by rw [HS1.out]; rfl) (by rw [HS1.out]; rfl) HCS.out).mono ?_
              rintro e w6 ⟨A9, n9, c9, rfl, hn9, _, hb⟩
              have HB := Lib.hid (HB.out.trans (hb.mono HB.out.size))
              have HTU := Lib.hid ((HTU.out.below hb (Nat.le_refl _)).more hb.size)
              have HAS := Lib.hid ((HAS.out.below hb (Nat.le_refl _)).more hb.size)
              have HR7 := Lib.hid ((HR7.out.below hb (Nat.le_refl _)).more hb.size)
              clear hb
              obtain rfl : n9 = 0 := hn9.symm
              clear hn9
              go_wp2_with fail
              refine (g_ref HAS.out HNL.out HTU.out HM.out HS2.out HCS.out (HTB.out _ HB.out)).mono ?_
              rintro e w7 ⟨A10, n10, c10, rfl, hn10, _, hb⟩
              have HB := Lib.hid (HB.out.trans (hb.mono HB.out.size))
              have HTU := Lib.hid ((HTU.out.below hb (Nat.le_refl _)).more hb.size)
              have HAS := Lib.hid ((HAS.out.below hb (Nat.le_refl _)).more hb.size)
              have HR7 := Lib.hid ((HR7.out.below hb (Nat.le_refl _)).more hb.size)
              clear hb
              obtain rfl : n10 = 0 := hn10.symm
              clear hn10
              go_wp2_with fail
              go_ret
              exact ⟨rfl, HB.out⟩
  · have g4 : (4 : Int) < (m : Int) := by omega
    go_enter Tryd.func7, Tryd.ntmps7
    go_wp2_with fail
    refine (HK.out _ HB.out).mono ?_
    rintro e w1 ⟨rfl, hb⟩
    have HB := Lib.hid (HB.out.trans (hb.mono HB.out.size))
    clear hb
    go_wp2_with fail
    refine (HK.out _ HB.out).mono ?_
    rintro e w2 ⟨rfl, hb⟩
    have HB := Lib.hid (HB.out.trans (hb.mono HB.out.size))
    clear hb
    go_wp2_with fail
    go_ret
    exact ⟨rfl, HB.out⟩
end Go.Proofs.YtedleffmbddccaaDoor
