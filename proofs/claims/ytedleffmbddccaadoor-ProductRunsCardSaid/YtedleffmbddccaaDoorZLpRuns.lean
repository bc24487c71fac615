/- Layer 6: the law of Run, walked. -/
import Derived.Test.YtedleffmbddccaaDoorZlF
import Derived.Test.YtedleffmbddccaaDoorZa11
import Derived.Deep.CutBlock
import Derived.BigQuiet
set_option linter.unusedVariables false
set_option linter.unusedSimpArgs false
set_option linter.unusedSectionVars false
namespace Go.Proofs.YtedleffmbddccaaDoor
open Go.RowKit Go.Sort

theorem wd_next {al ws : List Int} {k : Nat} (hk : k < ws.length) : wdGo al (ws.drop k) = (decide (ws.getD k 0 ∈ al) && wdGo al (ws.drop (k + 1))) := by
  unfold wdGo; rw [drop_int hk, List.all_cons]
theorem wd_end {al ws : List Int} {k : Nat} (hk : ws.length ≤ k) : wdGo al (ws.drop k) = true := by
  rw [List.drop_of_length_le hk]; rfl
/-- What the first loop keeps of the error. -/
def RnI (po v : Bool) (al ws : List Int) (u : Int) (k : Nat) : Prop := (po = false ∧ u = 12 ∧ k = 0) ∨ (po = true ∧ u = 0 ∧ wdGo al (ws.drop k) = v) ∨ (po = true ∧ u = 9 ∧ v = false)
theorem run_none {l : List Au} {z ws : List Int} {k : Nat} (hk : k < ws.length) (h : stpT l z (ws.getD k 0) = none) : runT l z (ws.drop k) = (z, 0) := by
  rw [drop_int hk, runT, h]
theorem run_some {l : List Au} {z z' ws : List Int} {k : Nat} (hk : k < ws.length) (h : stpT l z (ws.getD k 0) = some z') : runT l z (ws.drop k) = ((runT l z' (ws.drop (k + 1))).1, (runT l z' (ws.drop (k + 1))).2 + 1) := by
  rw [drop_int hk, runT, h]
theorem run_end {l : List Au} {z ws : List Int} {k : Nat} (hk : ws.length ≤ k) : runT l z (ws.drop k) = (z, 0) := by
  rw [List.drop_of_length_le hk, runT]

set_option maxHeartbeats 8000000 in
set_option maxRecDepth 100000 in
theorem lawRuns (A : Option Addr) (n c : Nat) (ps : List Pt) (A2 : Option Addr) (m d : Nat) (t : List Int) (w : World) (h : RdPs w w.heap.size A ps) (hn : ps.length = n) (hok : ∀ p ∈ ps, PtOk p) (h2 : RdI w w.heap.size A2 t) (hm : t.length = m) (_hg : ∀ z ∈ t, (Lit.int .i64 z).wf = true) (hT : TabAt 0 Lib.deBruijn32tab w) :
    Calls Tryd.prog 8 #[.slice A n c, .slice A2 m d] w fun e w' => e = .returned (.bool true) ∧ Below w.heap.size w w' := by
  have hz := tab_pos hT
  have HTB := Lib.hid (fun W (hW : Below w.heap.size w W) => tab_below hT hW hz)
  have HK := Lib.hid (fun W (hW : Below w.heap.size w W) => known_any W (HTB.out W hW) (Nat.lt_of_lt_of_le hz hW.size))
  have HLi := Lib.hid (fun W (hW : Below w.heap.size w W) => list_any A n c ps W ((h.below hW (Nat.le_refl _)).more hW.size) hn hok)
  have HB := Lib.hid (Below.refl w.heap.size w)
  have HTU := Lib.hid h2
  have HM := Lib.hid hm
  clear h hn hok hT hz _hg h2 hm
  by_cases hm4 : m ≤ 10
  · have g4 : ¬ (10 : Int) < (m : Int) := by omega
    go_enter Tryd.func8, Tryd.ntmps8
    go_wp2_with fail
    refine (HK.out _ HB.out).mono ?_
    rintro e w1 ⟨rfl, hb⟩
    have HB := Lib.hid (HB.out.trans (hb.mono HB.out.size))
    have HTU := Lib.hid ((HTU.out.below hb (Nat.le_refl _)).more hb.size)
    clear hb
    go_wp2_with fail
    refine (HLi.out _ HB.out).mono ?_
    rintro e w2 ⟨Al, cl, las, rfl, hl3, hrl, hok, _, _, hb⟩
    have HB := Lib.hid (HB.out.trans (hb.mono HB.out.size))
    have HTU := Lib.hid ((HTU.out.below hb (Nat.le_refl _)).more hb.size)
    clear hb
    obtain ⟨nl, hnl⟩ : ∃ nl, nl = las.length := ⟨_, rfl⟩
    rw [← hnl] at hl3 ⊢
    have hnl3 : nl ≤ 3 := by omega
    have HNL := Lib.hid hnl.symm
    have HAS := Lib.hid hrl
    have HCK := Lib.hid (las_chk hok (by omega))
    have HRW := Lib.hid (las_rw hok)
    clear hl3 hnl hrl hok HLi
    obtain ⟨rz, hrz⟩ : ∃ rz, rz = (rnR las t).1 := ⟨_, rfl⟩
    obtain ⟨rk, hrk⟩ : ∃ rk, rk = (rnR las t).2 := ⟨_, rfl⟩
    obtain ⟨cr, hcr⟩ : ∃ cr, cr = crE las t := ⟨_, rfl⟩
    obtain ⟨po, hpo⟩ : ∃ po, po = posT las := ⟨_, rfl⟩
    obtain ⟨v, hv⟩ : ∃ v, v = wdGo (alT las) t := ⟨_, rfl⟩
    have HCR := Lib.hid (show cr = if po = false then 12 else if v = true then 0 else 9 by rw [hcr, crE, if_neg (by rw [HCK.out]; simp), hpo, hv])
    have HRZ := Lib.hid hrz.symm
    have HRK := Lib.hid hrk.symm
    have HCE := Lib.hid hcr.symm
    have HPO := Lib.hid hpo
    have HV := Lib.hid hv
    have HIO := Lib.hid (show iniO las = if po = true then some (List.replicate nl 0) else none by rw [iniO, ini_pos HRW.out, hpo, HNL.out])
    have HRR := Lib.hid (show rnR las t = if cr ≠ 0 then ([], 0) else runT las (List.replicate nl 0) t by rw [rnR, hcr, HNL.out])
    obtain ⟨iz, hiz⟩ : ∃ iz, iz = (iniO las).getD [] := ⟨_, rfl⟩
    have HIZ := Lib.hid hiz.symm
    have HIS := Lib.hid (show (iniO las).isSome = po by rw [HIO.out]; cases po <;> rfl)
    have hizb : iz.length ≤ 3 := by rw [hiz, HIO.out]; cases po <;> simp; omega
    obtain ⟨u0, hu0⟩ : ∃ u0 : Int, u0 = if po = true then 0 else 12 := ⟨_, rfl⟩
    have HU0 := Lib.hid hu0
    clear hrz hrk hcr hpo hv hiz hu0
    go_wp2_with fail
    refine (g_run HAS.out HNL.out HTU.out HM.out (by omega) HRZ.out HRK.out HCE.out).mono ?_
    rintro e w3 ⟨A7, n7, c7, rfl, hn7, hr7, hb⟩
    have HB := Lib.hid (HB.out.trans (hb.mono HB.out.size))
    have HTU := Lib.hid ((HTU.out.below hb (Nat.le_refl _)).more hb.size)
    have HAS := Lib.hid ((HAS.out.below hb (Nat.le_refl _)).more hb.size)
    clear hb
    have HN7 := Lib.hid hn7
    have HR7 := Lib.hid hr7
    clear hn7 hr7
    go_wp2_with fail
    refine (g_rini HAS.out HNL.out (by omega) HIZ.out HIS.out).mono ?_
    rintro e w4 ⟨A8, n8, c8, rfl, hn8, hr8, hb⟩
    have HB := Lib.hid (HB.out.trans (hb.mono HB.out.size))
    have HTU := Lib.hid ((HTU.out.below hb (Nat.le_refl _)).more hb.size)
    have HAS := Lib.hid ((HAS.out.below hb (Nat.le_refl _)).more hb.size)
    have HR7 := Lib.hid ((HR7.out.below hb (Nat.le_refl _)).more hb.size)
    clear hb
    have HN8 := Lib.hid hn8
    have HR8 := Lib.hid hr8
    have hn8b : n8 ≤ 3 := by omega
    clear hn8 hr8
    go_upto_if 41 with fail
    go_cut [11] from 40 to 41 (fun wv wx => wv = .int .i64 u0 ∧ wx = w4)
    case first =>
      cases po
      · have hu : u0 = 12 := by rw [HU0.out, if_neg (by simp)]
        subst hu
        go_wp2_with fail
        go_meet
        case rel => exact ⟨rfl, rfl⟩
      · have hu : u0 = 0 := by rw [HU0.out, if_pos rfl]
        subst hu
        go_wp2_with fail
        go_meet
        case rel => exact ⟨rfl, rfl⟩
    case rest =>
      obtain ⟨rfl, rfl⟩ := hcut
      go_wp2_with fail
      refine (g_ralph HAS.out HNL.out (by omega) HRW.out).mono ?_
      rintro e w5 ⟨A9, n9, c9, rfl, hn9, hr9, hb⟩
      have HB := Lib.hid (HB.out.trans (hb.mono HB.out.size))
      have HTU := Lib.hid ((HTU.out.below hb (Nat.le_refl _)).more hb.size)
      have HAS := Lib.hid ((HAS.out.below hb (Nat.le_refl _)).more hb.size)
      have HR7 := Lib.hid ((HR7.out.below hb (Nat.le_refl _)).more hb.size)
      have HR8 := Lib.hid ((HR8.out.below hb (Nat.le_refl _)).more hb.size)
      clear hb
      have HN9 := Lib.hid hn9
      have HR9 := Lib.hid hr9
      have hn32 : n9 ≤ 32 := by rw [← hn9]; exact alT_len HRW.out
      clear hn9 hr9
      obtain ⟨al, hal⟩ : ∃ al, al = alT las := ⟨_, rfl⟩
      rw [← hal] at HN9 HR9 HV
      clear hal
      go_upto_block 0 with fail
      go_cut [11, 13, 14] from 44 to 68 (fun wv i k wx => wv = .int .i64 cr ∧ Hid (Below w5.heap.size w5 wx))
      case first =>
        go_wp2_with fail
        go_loopw [11, 13] (fun wv i wr => ∃ (k : Nat) (u : Int), wv = .int .i64 u ∧ i = .int .i64 k ∧ k ≤ m ∧ Hid (RnI po v al t u k) ∧ Hid (∃ q, wr = w5.drewN q)) (fun _ i _ => m - (intOf i).toNat)
        case atStart => exact ⟨0, u0, rfl, rfl, Nat.zero_le _, Lib.hid (by
          unfold RnI
          cases po
          · left; exact ⟨rfl, by rw [HU0.out, if_neg (by simp)], rfl⟩
          · right; left; exact ⟨rfl, by rw [HU0.out, if_pos rfl], by rw [HV.out]; rfl⟩), Lib.hid ⟨0, rfl⟩⟩
        case round =>
          obtain ⟨k, u, rfl, rfl, hkn, hst, hq⟩ := hrel
          have hbq := Lib.hid (show Below w5.heap.size w5 wr by obtain ⟨q, rfl⟩ := hq.out; exact below_drewN (Below.refl _ _) q)
          rcases hst.out with ⟨h1, rfl, rfl⟩ | ⟨h1, rfl, h3⟩ | ⟨h1, rfl, h3⟩
          · have hc4 : cr = 12 := by rw [HCR.out, if_pos h1]
            subst hc4
            clear h1
            by_cases hl0 : 0 < m
            · have w0 : (0 : Int) < (m : Int) := by omega
              go_wp2_with fail
              go_meet
              case rel => exact ⟨rfl, hbq⟩
            · obtain rfl : m = 0 := by omega
              go_wp2_with fail
              go_meet
              case rel => exact ⟨rfl, hbq⟩
          · by_cases hlt : k < m
            · have hkt : k < t.length := by rw [HM.out]; exact hlt
              obtain ⟨b2, o2, rfl, hb2, hc2⟩ := HTU.out (by rw [HM.out]; omega)
              have r1 := (hbq.out.cell (p := ⟨b2, o2 + k, none⟩) hb2).trans (hc2 k hkt)
              have hnx := wd_next (al := al) hkt
              obtain ⟨s, hs⟩ : ∃ s, s = t.getD k 0 := ⟨_, rfl⟩
              rw [← hs] at r1 hnx
              rw [h3] at hnx
              have HNX := Lib.hid hnx
              have HMN := Lib.hid h1
              have w0 : (k : Int) < (m : Int) := by omega
              have w1 : (0 : Int) ≤ (k : Int) := by omega
              have HC2 := Lib.hid (show w5.cell? ⟨b2, o2 + k, none⟩ = some (.int .i64 s) by rw [hs]; exact hc2 k hkt)
              clear hc2 hs hst h3 hnx h1 hkt
              go_wp2_with fail
              go_loopw [11, 14] (fun wv i wx => ∃ k2 : Nat, k2 ≤ n9 ∧ i = .int .i64 k2 ∧ wv = .int .i64 (if s ∈ al.take k2 then 0 else 9) ∧ Hid (∃ q, wx = w5.drewN q)) (fun _ i _ => n9 - (intOf i).toNat)
              case atStart => exact ⟨0, Nat.zero_le _, rfl, by simp, hq⟩
              case round =>
                clear hq r1
                obtain ⟨k2, hk2, rfl, rfl, hq⟩ := hrel
                have hbq := Lib.hid (show Below w5.heap.size w5 wr by obtain ⟨q, rfl⟩ := hq.out; exact below_drewN (Below.refl _ _) q)
                have r1 := (hbq.out.cell (p := ⟨b2, o2 + k, none⟩) hb2).trans HC2.out
                by_cases hl2 : k2 < n9
                · have hkl : k2 < al.length := by rw [HN9.out]; exact hl2
                  obtain ⟨b9, o9, rfl, hb9, hc9⟩ := HR9.out (by rw [HN9.out]; omega)
                  have r9 := (hbq.out.cell (p := ⟨b9, o9 + k2, none⟩) hb9).trans (hc9 k2 hkl)
                  obtain ⟨x9, hx9⟩ : ∃ x, x = al.getD k2 0 := ⟨_, rfl⟩
                  rw [← hx9] at r9
                  have hsn := mem_snoc_take (x := s) hkl
                  rw [← hx9] at hsn
                  have v0 : (k2 : Int) < (n9 : Int) := by omega
                  have v1 : (0 : Int) ≤ (k2 : Int) := by omega
                  obtain ⟨p9, hp9⟩ : ∃ p : Int, p = if s ∈ al.take k2 then 0 else 9 := ⟨_, rfl⟩
                  rw [← hp9]
                  have HP9 := Lib.hid hp9
                  have HSN := Lib.hid hsn
                  clear hc9 hx9 hkl hp9 hsn
                  by_cases he : x9 = s
                  · have hbe : (x9 == s) = true := by simp [he]
                    have hnx := Lib.hid (show (if s ∈ al.take (k2 + 1) then (0 : Int) else 9) = 0 from if_pos (HSN.out.2 (.inr he)))
                    clear he
                    go_wp2_with fail
                    go_quiet (fail)
                    go_wp2_with fail
                    go_roundw
                    case rel => exact ⟨k2 + 1, by omega, by go_num, by rw [hnx.out], Lib.hid (by obtain ⟨q, rfl⟩ := hq.out; exact ⟨_, World.drewN_drewN _ _ _⟩)⟩
                    case measure => simp [intOf] <;> omega
                  · have hbe : (x9 == s) = false := by simp [he]
                    have hnx := Lib.hid (show (if s ∈ al.take (k2 + 1) then (0 : Int) else 9) = p9 by
                      rw [HP9.out]
                      by_cases hh : s ∈ al.take k2
                      · rw [if_pos hh, if_pos (HSN.out.2 (.inl hh))]
                      · rw [if_neg hh, if_neg (fun h => (HSN.out.1 h).elim hh he)])
                    clear he
                    go_wp2_with fail
                    go_quiet (fail)
                    go_wp2_with fail
                    go_roundw
                    case rel => exact ⟨k2 + 1, by omega, by go_num, by rw [hnx.out], Lib.hid (by obtain ⟨q, rfl⟩ := hq.out; exact ⟨_, World.drewN_drewN _ _ _⟩)⟩
                    case measure => simp [intOf] <;> omega
                · obtain rfl : k2 = n9 := by omega
                  rw [show al.take k2 = al from List.take_of_length_le (by rw [HN9.out]; exact Nat.le_refl _)]
                  by_cases hin : s ∈ al
                  · rw [if_pos hin]
                    have hvn := Lib.hid (show wdGo al (t.drop (k + 1)) = v by rw [HNX.out, decide_eq_true hin]; rfl)
                    clear hin
                    go_wp2_with fail
                    go_roundw
                    case rel => exact ⟨k + 1, 0, rfl, by go_num, by omega, Lib.hid (.inr (.inl ⟨HMN.out, rfl, hvn.out⟩)), hq⟩
                    case measure => simp [intOf] <;> omega
                  · rw [if_neg hin]
                    have hvf := Lib.hid (show v = false by rw [HNX.out, decide_eq_false hin]; rfl)
                    clear hin
                    go_wp2_with fail
                    go_roundw
                    case rel => exact ⟨k + 1, 9, rfl, by go_num, by omega, Lib.hid (.inr (.inr ⟨HMN.out, rfl, hvf.out⟩)), hq⟩
                    case measure => simp [intOf] <;> omega
            · obtain rfl : k = m := by omega
              have hvt : v = true := by rw [← h3]; exact wd_end (by rw [HM.out]; omega)
              have hc0 : cr = 0 := by rw [HCR.out, if_neg (by rw [h1]; simp), if_pos hvt]
              subst hc0
              clear h1 h3 hvt hst
              go_wp2_with fail
              go_meet
              case rel => exact ⟨rfl, hbq⟩
          · have hc2 : cr = 9 := by rw [HCR.out, if_neg (by rw [h1]; simp), if_neg (by rw [h3]; simp)]
            subst hc2
            clear h1 h3 hst
            by_cases hlt : k < m
            · have w0 : (k : Int) < (m : Int) := by omega
              go_wp2_with fail
              go_meet
              case rel => exact ⟨rfl, hbq⟩
            · obtain rfl : k = m := by omega
              go_wp2_with fail
              go_meet
              case rel => exact ⟨rfl, hbq⟩
      case rest =>
        obtain ⟨rfl, hbx⟩ := hcut
        have hb := hbx.out
        have HB := Lib.hid (HB.out.trans (hb.mono HB.out.size))
        have HTU := Lib.hid ((HTU.out.below hb (Nat.le_refl _)).more hb.size)
        have HAS := Lib.hid ((HAS.out.below hb (Nat.le_refl _)).more hb.size)
        have HR7 := Lib.hid ((HR7.out.below hb (Nat.le_refl _)).more hb.size)
        have HR8 := Lib.hid ((HR8.out.below hb (Nat.le_refl _)).more hb.size)
        have HR9 := Lib.hid ((HR9.out.below hb (Nat.le_refl _)).more hb.size)
        clear hb
        clear hbx
        by_cases hc0 : cr = 0
        · subst hc0
          have hpo1 : po = true := by
            have := HCR.out
            cases po
            · rw [if_pos rfl] at this; omega
            · rfl
          have hiz2 : iz = List.replicate nl 0 := by rw [← HIZ.out, HIO.out, if_pos hpo1]; rfl
          have hrn : rnR las t = runT las (List.replicate nl 0) t := by rw [HRR.out, if_neg (by simp)]
          have HZ0 := Lib.hid (show rz = (runT las iz (t.drop 0)).1 ∧ rk = 0 + (runT las iz (t.drop 0)).2 by rw [hiz2, List.drop_zero, ← hrn, HRZ.out, HRK.out]; simp)
          have hn8l : n8 = nl := by rw [← HN8.out, hiz2, List.length_replicate]
          subst hn8l
          clear hpo1 hiz2 hrn
          have hrzb : rz.length ≤ 3 := by
            rw [HZ0.out.1]
            have key : ∀ (k : Nat) (z : List Int), z.length = n8 → (runT las z (t.drop k)).1.length = n8 := by
              intro k
              induction hj : t.length - k generalizing k with
              | zero => intro z hz; rw [run_end (by omega)]; exact hz
              | succ j ih =>
                intro z hz
                cases hs : stpT las z (t.getD k 0) with
                | none => rw [run_none (by omega) hs]; exact hz
                | some z' =>
                  rw [run_some (by omega) hs]
                  refine ih (k + 1) (by omega) z' ?_
                  rcases stp_ref (l := las) (t := z) (e := t.getD k 0) (by rw [hz, HNL.out]) with ⟨_, h2⟩ | ⟨_, h2⟩
                  · rw [hs] at h2; injection h2 with h2; rw [h2, stG_len]; exact hz
                  · rw [hs] at h2; cases h2
            rw [key 0 iz HN8.out]; omega
          have hn7b : n7 ≤ 3 := by rw [← HN7.out]; exact hrzb
          clear hrzb
          go_upto_block 4 with fail
          go_cut [9, 15] from 83 to 101 (fun av kv wx => ∃ A9 c9, av = .slice A9 n8 c9 ∧ kv = .int .i64 (rk : Int) ∧ rz.length = n8 ∧ Hid (RdI wx wx.heap.size A9 rz) ∧ Hid (Below wc.heap.size wc wx))
          case first =>
            go_wp2_with fail
            go_loopw [9, 15] (fun av kv wr => ∃ (k : Nat) (z : List Int) (A9 : Option Addr) (c9 : Nat), av = .slice A9 n8 c9 ∧ kv = .int .i64 k ∧ k ≤ m ∧ z.length = n8 ∧ Hid (RdI wr wr.heap.size A9 z) ∧ Hid (rz = (runT las z (t.drop k)).1 ∧ rk = k + (runT las z (t.drop k)).2) ∧ Hid (Below wc.heap.size wc wr)) (fun _ kv _ => m - (intOf kv).toNat)
            case atStart => exact ⟨0, iz, A8, c8, rfl, rfl, Nat.zero_le _, HN8.out, HR8, HZ0, Lib.hid (Below.refl _ _)⟩
            case round =>
              obtain ⟨k, z, A9, c9', rfl, rfl, hkm, hzl, hrd, hzz, hbl⟩ := hrel
              have HZL := Lib.hid hzl
              clear hzl
              by_cases hlt : k < m
              · have hkt : k < t.length := by rw [HM.out]; exact hlt
                obtain ⟨b2, o2, rfl, hb2, hc2⟩ := HTU.out (by rw [HM.out]; omega)
                have r1 := (hbl.out.cell (p := ⟨b2, o2 + k, none⟩) hb2).trans (hc2 k hkt)
                obtain ⟨s, hs⟩ : ∃ s, s = t.getD k 0 := ⟨_, rfl⟩
                rw [← hs] at r1
                have w0 : (k : Int) < (m : Int) := by omega
                have w1 : (0 : Int) ≤ (k : Int) := by omega
                have HAW := Lib.hid ((HAS.out.below hbl.out (Nat.le_refl _)).more hbl.out.size)
                have HKT := Lib.hid hkt
                have HSV := Lib.hid hs
                clear hc2 hkt hs
                cases hsp : stpT las z s with
                | none =>
                  have HST := Lib.hid (g_rstp (zs := []) (ps := false) (cl := cl) (d := c9') HAW.out HNL.out (by omega) hrd.out HZL.out HRW.out (by rw [hsp]; rfl) (by rw [hsp]; rfl) : Calls Tryd.prog 35 #[.slice Al n8 cl, .slice A9 n8 c9', .int .i64 s] wr _)
                  have hfin := Lib.hid (show rz = z ∧ rk = k by
                    have := hzz.out
                    rw [run_none HKT.out (by rw [← HSV.out]; exact hsp)] at this
                    exact this)
                  clear hsp
                  go_wp2_with fail
                  refine HST.out.mono ?_
                  rintro e w9 ⟨_, _, _, rfl, _, _, hb⟩
                  have hbl9 := Lib.hid (hbl.out.trans (hb.mono hbl.out.size))
                  have hrd9 := Lib.hid ((hrd.out.below hb (Nat.le_refl _)).more hb.size)
                  have hk : rk = k := hfin.out.2
                  subst hk
                  clear hb
                  go_wp2_with fail
                  go_meet
                  case rel => exact ⟨A9, c9', rfl, rfl, by rw [hfin.out.1]; exact HZL.out, by rw [hfin.out.1]; exact hrd9, hbl9⟩
                | some z' =>
                  have hz'l : z'.length = n8 := by
                    rcases stp_ref (l := las) (t := z) (e := s) (by rw [HZL.out, HNL.out]) with ⟨_, h2⟩ | ⟨_, h2⟩
                    · rw [hsp] at h2; injection h2 with h2; rw [h2, stG_len]; exact HZL.out
                    · rw [hsp] at h2; cases h2
                  have HST := Lib.hid (g_rstp (zs := z') (ps := true) (cl := cl) (d := c9') HAW.out HNL.out (by omega) hrd.out HZL.out HRW.out (by rw [hsp]; rfl) (by rw [hsp]; rfl) : Calls Tryd.prog 35 #[.slice Al n8 cl, .slice A9 n8 c9', .int .i64 s] wr _)
                  have hzz2 := Lib.hid (show rz = (runT las z' (t.drop (k + 1))).1 ∧ rk = (k + 1) + (runT las z' (t.drop (k + 1))).2 by
                    have := hzz.out
                    rw [run_some HKT.out (by rw [← HSV.out]; exact hsp)] at this
                    exact ⟨this.1, by rw [this.2]; simp only; omega⟩)
                  clear hsp
                  go_wp2_with fail
                  refine HST.out.mono ?_
                  rintro e w9 ⟨A10, n10, c10, rfl, hn10, hr10, hb⟩
                  obtain rfl : n8 = n10 := by omega
                  have hbl9 := Lib.hid (hbl.out.trans (hb.mono hbl.out.size))
                  have hrd9 := Lib.hid hr10
                  have hz'L := Lib.hid hz'l
                  clear hb hr10 hn10 hz'l
                  go_wp2_with fail
                  go_roundw
                  case rel => exact ⟨k + 1, z', A10, c10, rfl, by go_num, by omega, hz'L.out, hrd9, hzz2, hbl9⟩
                  case measure => simp [intOf] <;> omega
              · obtain rfl : k = m := by omega
                have hfin := Lib.hid (show rz = z ∧ rk = k by
                  have := hzz.out
                  rw [run_end (by rw [HM.out]; exact Nat.le_refl _)] at this
                  exact this)
                have hk : rk = k := hfin.out.2
                subst hk
                go_wp2_with fail
                go_meet
                case rel => exact ⟨A9, c9', rfl, rfl, by rw [hfin.out.1]; exact HZL.out, by rw [hfin.out.1]; exact hrd, hbl⟩
          case rest =>
            obtain ⟨A9', c9', rfl, rfl, hrl, hr9, hbx⟩ := hcut
            have hb := hbx.out
            have HB := Lib.hid (HB.out.trans (hb.mono HB.out.size))
            have HR7 := Lib.hid ((HR7.out.below hb (Nat.le_refl _)).more hb.size)
            have HRL := Lib.hid hrl
            clear hb hrl
            go_wp2_with fail
            refine (g_same (decide_eq_true rfl) HR7.out hr9.out HN7.out HRL.out (by omega) (by omega)).mono ?_
            rintro e w10 ⟨rfl, hb⟩
            have HB := Lib.hid (HB.out.trans (hb.mono HB.out.size))
            clear hb
            go_wp2_with fail
            go_ret
            exact ⟨rfl, HB.out⟩
        · have hbc : (cr != 0) = true := by simp [hc0]
          have hrn : rnR las t = ([], 0) := by rw [HRR.out, if_pos hc0]
          have hrz0 : rz = [] := by rw [← HRZ.out, hrn]
          have hrk0 : rk = 0 := by rw [← HRK.out, hrn]
          subst hrz0 hrk0
          obtain rfl : n7 = 0 := HN7.out.symm
          clear hc0 hrn
          go_wp2_with fail
          go_ret
          exact ⟨rfl, HB.out⟩
  · have g4 : (10 : Int) < (m : Int) := by omega
    go_enter Tryd.func8, Tryd.ntmps8
    go_wp2_with fail
    refine (HK.out _ HB.out).mono ?_
    rintro e w1 ⟨rfl, hb⟩
    have HB := Lib.hid (HB.out.trans (hb.mono HB.out.size))
    clear hb
    go_wp2_with fail
    refine (HK.out _ HB.out).mono ?_
    rintro e w2 ⟨rfl, hb⟩
    have HB := Lib.hid (HB.out.trans (hb.mono HB.out.size))
    clear hb
    go_wp2_with fail
    go_ret
    exact ⟨rfl, HB.out⟩
end Go.Proofs.YtedleffmbddccaaDoor
