/- Layer 6: Alphabet, Marked, Step of the program. -/
import Derived.Test.YtedleffmbddccaaDoorZa7
set_option linter.unusedVariables false
set_option linter.unusedSimpArgs false
set_option linter.unusedSectionVars false
namespace Go.Proofs.YtedleffmbddccaaDoor
open Go.RowKit Go.Sort

theorem pad_step {l : List Au} {t : List Int} {e : Int} (h : t.length = l.length) : (rfG l 0 (pad t) e = [] ∧ stpT l t e = some (stpD l t e) ∧ stG l 0 (pad t) e = pad (stpD l t e)) ∨ (rfG l 0 (pad t) e ≠ [] ∧ stpT l t e = none) := by
  have hm := rfG_mid l [] t (List.replicate (12 - t.length) 0) e h
  have hg := stG_mid l [] t (List.replicate (12 - t.length) 0) e h
  simp only [List.nil_append, List.length_nil] at hm hg
  rcases hm with ⟨h1, h2⟩ | ⟨h1, h2⟩
  · exact .inl ⟨h1, h2, by rw [pad, hg, pad, stpD_len h, h]⟩
  · exact .inr ⟨h1, h2⟩
theorem pad_mark {l : List Au} {t : List Int} (h : t.length = l.length) : mkG l 0 (pad t) = mkT l t := by
  have := mkG_mid l [] t (List.replicate (12 - t.length) 0) h
  simp only [List.nil_append, List.length_nil] at this
  rw [pad]; exact this
theorem ct_zero {l : List Au} {t : List Int} (h1 : ctE l t = 0) : chkL l = 0 ∧ t.length = l.length ∧ ctGo t l = true := by
  unfold ctE at h1
  by_cases h3 : chkL l = 0
  · rw [if_neg (by simpa using h3)] at h1
    by_cases h4 : t.length = l.length
    · rw [if_neg (by simpa using h4)] at h1
      refine ⟨h3, h4, ?_⟩
      by_cases h5 : ctGo t l = true
      · exact h5
      · rw [if_neg h5] at h1; omega
    · rw [if_pos h4] at h1; omega
  · rw [if_pos h3] at h1; exact absurd h1 h3
def alpR (l : List Au) : List Int := if chkL l ≠ 0 then [] else alT l
def mrkR (l : List Au) (t : List Int) : Bool := if ctE l t ≠ 0 then false else mkT l t
def stpR (l : List Au) (t : List Int) (e : Int) : Option (List Int) := if csE6 l t e ≠ 0 then none else stpT l t e

set_option maxHeartbeats 2000000 in
theorem pAlphabet_any (A : Option Addr) (n c : Nat) (l : List Au) (w : World) (h : RdAs w w.heap.size A l) (hn : l.length = n) :
    Calls Tryd.prog 16 #[.slice A n c] w (GivesL2 w (alpR l) (chkL l)) := by
  have HC := Lib.hid (pCheck_any A n c l w.heap.size w h (Nat.le_refl _) hn)
  obtain ⟨u, hu⟩ : ∃ u, u = chkL l := ⟨_, rfl⟩
  rw [← hu] at HC ⊢
  by_cases h0 : u = 0
  · obtain ⟨h12, hr, _⟩ := chk_right (show chkL l = 0 by rw [← hu, h0])
    have HR := Lib.hid (show alpR l = alT l by rw [alpR, if_neg (by rw [← hu]; simpa using h0)])
    have HEv := Lib.hid (fun W (hW : Below w.heap.size w W) => pEvents_any A n c l W.heap.size W ((h.below hW (Nat.le_refl _)).more hW.size) (Nat.le_refl _) hn (by omega) hr)
    rw [HR.out]
    subst h0
    clear h hn hu h12 hr HR
    go_enter Tryd.func16, Tryd.ntmps16
    go_wp2_with fail
    refine HC.out.mono ?_
    rintro e w1 ⟨rfl, hb1⟩
    have HB1 := Lib.hid hb1
    clear hb1 HC
    go_wp2_with fail
    refine (HEv.out _ HB1.out).mono ?_
    rintro e w2 ⟨A2, c2, rfl, hr2, hb2, k1, k2⟩
    have HB2 := Lib.hid (HB1.out.trans (hb2.mono HB1.out.size))
    have HR2 := Lib.hid hr2
    have K1 := Lib.hid k1
    obtain ⟨k, hk⟩ : ∃ k, k = (alT l).length := ⟨_, rfl⟩
    have HK := Lib.hid hk
    rw [← hk]
    clear hb2 hr2 k1 hk
    go_wp2_with fail
    go_ret2
    exact ⟨A2, c2, by rw [← HK.out]; rfl, HR2.out, HB2.out, K1.out, k2⟩
  · have HR := Lib.hid (show alpR l = [] by rw [alpR, if_pos (by rw [← hu]; exact h0)])
    have hb : (u != 0) = true := by simp [h0]
    rw [HR.out]
    clear h hn hu HR h0
    go_enter Tryd.func16, Tryd.ntmps16
    go_wp2_with fail
    refine HC.out.mono ?_
    rintro e w1 ⟨rfl, hb1⟩
    have HB1 := Lib.hid hb1
    clear hb1 HC
    go_wp2_with fail
    go_ret2
    exact ⟨none, 0, rfl, RdI.nil _ _ _, HB1.out, Nat.le_refl _, by omega⟩

set_option maxHeartbeats 2000000 in
theorem pMrk_any (A : Option Addr) (n c : Nat) (l : List Au) (A2 : Option Addr) (m d : Nat) (t : List Int) (w : World) (h : RdAs w w.heap.size A l) (hn : l.length = n) (h2 : RdI w w.heap.size A2 t) (hm : t.length = m) :
    Calls Tryd.prog 25 #[.slice A n c, .slice A2 m d] w fun e w' => e = .returned (.tuple #[.bool (mrkR l t), .int .i64 (ctE l t)]) ∧ Below w.heap.size w w' := by
  have HC := Lib.hid (pChkT_any A n c l A2 m d t w h hn h2 hm)
  obtain ⟨u, hu⟩ : ∃ u, u = ctE l t := ⟨_, rfl⟩
  rw [← hu] at HC ⊢
  by_cases h0 : u = 0
  · obtain ⟨hc0, htl, _⟩ := ct_zero (show ctE l t = 0 by rw [← hu, h0])
    obtain ⟨h12, hr, _⟩ := chk_right hc0
    have HSo := Lib.hid (fun W (hW : Below w.heap.size w W) => pStatesOf_any A2 m d t W ((h2.below hW (Nat.le_refl _)).more hW.size) hm (by omega))
    rw [show t ++ List.replicate (12 - m) 0 = pad t by rw [pad, hm]] at HSo
    have HMk := Lib.hid (fun W (hW : Below w.heap.size w W) => pMarked_any A n c l (pad t) W ((h.below hW (Nat.le_refl _)).more hW.size) hn (by omega) hr (pad_len (by omega)))
    rw [pad_mark htl] at HMk
    have HR := Lib.hid (show mrkR l t = mkT l t by rw [mrkR, if_neg (by rw [← hu]; simpa using h0)])
    rw [HR.out]
    obtain ⟨tt, htt⟩ : ∃ tt, tt = pad t := ⟨_, rfl⟩
    obtain ⟨b, hbb⟩ : ∃ b, b = mkT l t := ⟨_, rfl⟩
    rw [← htt] at HSo HMk
    rw [← hbb] at HMk ⊢
    subst h0
    clear h hn h2 hm hu hc0 htl h12 hr HR htt hbb
    go_enter Tryd.func25, Tryd.ntmps25
    go_wp2_with fail
    refine HC.out.mono ?_
    rintro e w1 ⟨rfl, hb1⟩
    have HB1 := Lib.hid hb1
    clear hb1 HC
    go_wp2_with fail
    refine (HSo.out _ HB1.out).mono ?_
    rintro e w2 ⟨rfl, hb2⟩
    have HB2 := Lib.hid (HB1.out.trans (hb2.mono HB1.out.size))
    clear hb2 HB1 HSo
    go_wp2_with fail
    refine (HMk.out _ HB2.out).mono ?_
    rintro e w3 ⟨rfl, hb3⟩
    have HB3 := Lib.hid (HB2.out.trans (hb3.mono HB2.out.size))
    clear hb3 HB2 HMk
    go_wp2_with fail
    go_ret2
    exact ⟨rfl, HB3.out⟩
  · have HR := Lib.hid (show mrkR l t = false by rw [mrkR, if_pos (by rw [← hu]; exact h0)])
    have hb : (u != 0) = true := by simp [h0]
    rw [HR.out]
    clear h hn h2 hm hu HR h0
    go_enter Tryd.func25, Tryd.ntmps25
    go_wp2_with fail
    refine HC.out.mono ?_
    rintro e w1 ⟨rfl, hb1⟩
    have HB1 := Lib.hid hb1
    clear hb1 HC
    go_wp2_with fail
    go_ret2
    exact ⟨rfl, HB1.out⟩

/-- What Step hands back: a tuple, or nothing. -/
def GivesO (w : World) (r : Option (List Int)) (er : Int) (e : Ending) (w' : World) : Prop := ∃ A c, e = .returned (.tuple #[.slice A (r.getD []).length c, .bool r.isSome, .int .i64 er]) ∧ RdI w' w'.heap.size A (r.getD []) ∧ Below w.heap.size w w' ∧ (r.getD []).length ≤ c ∧ c ≤ 9223372036854775807
set_option maxHeartbeats 4000000 in
set_option maxRecDepth 100000 in
theorem pStep_any (A : Option Addr) (n c : Nat) (l : List Au) (A2 : Option Addr) (m d : Nat) (t : List Int) (ev : Int) (w : World) (h : RdAs w w.heap.size A l) (hn : l.length = n) (h2 : RdI w w.heap.size A2 t) (hm : t.length = m) :
    Calls Tryd.prog 23 #[.slice A n c, .slice A2 m d, .int .i64 ev] w (GivesO w (stpR l t ev) (csE6 l t ev)) := by
  have HC := Lib.hid (pChkS_any A n c l A2 m d t ev w h hn h2 hm)
  obtain ⟨u, hu⟩ : ∃ u, u = csE6 l t ev := ⟨_, rfl⟩
  rw [← hu] at HC ⊢
  by_cases h0 : u = 0
  · obtain ⟨hc0, htl, _, _⟩ := cs_zero (show csE6 l t ev = 0 by rw [← hu, h0])
    obtain ⟨h12, hr, hs⟩ := chk_right hc0
    have HR := Lib.hid (show stpR l t ev = stpT l t ev by rw [stpR, if_neg (by rw [← hu]; simpa using h0)])
    rw [HR.out]
    have HLB := Lib.hid (fun W (hW : Below w.heap.size w W) => (h.below hW (Nat.le_refl _)).more hW.size)
    have HTB := Lib.hid (fun W (hW : Below w.heap.size w W) => (h2.below hW (Nat.le_refl _)).more hW.size)
    have HSo := Lib.hid (fun W (hW : Below w.heap.size w W) => pStatesOf_any A2 m d t W (HTB.out W hW) hm (by omega))
    have HSt := Lib.hid (fun W bl (hW : Below w.heap.size w W) (hbl : bl < W.heap.size) (hcl : W.cell? ⟨bl, 0, none⟩ = some (.slice A n c)) => pStep1_any A n c l (pad t) ev bl W (HLB.out W hW) hn (by omega) hr (pad_len (by omega)) hbl hcl)
    have hstl : (stG l 0 (pad t) ev).length = 12 := by rw [stG_len]; exact pad_len (by omega)
    have hps := pad_step (e := ev) htl
    have hrr := rfG_range l 0 (pad t) ev (by omega)
    have hn12 : n ≤ 12 := by omega
    have hdl := stpD_len (l := l) (qs := t) (e := ev) htl
    obtain ⟨T2, hT2⟩ : ∃ T2, T2 = stG l 0 (pad t) ev := ⟨_, rfl⟩
    obtain ⟨rs, hrs⟩ : ∃ rs, rs = rfG l 0 (pad t) ev := ⟨_, rfl⟩
    rw [← hT2] at HSt hstl hps
    rw [← hrs] at HSt hps hrr
    have HT2 := Lib.hid hstl
    obtain ⟨tt, htt⟩ : ∃ tt, tt = pad t := ⟨_, rfl⟩
    rw [show t ++ List.replicate (12 - m) 0 = tt by rw [htt, pad, hm]] at HSo
    rw [← htt] at HSt
    have hone := Lib.hid (encT_one T2)
    have hsz2 := Lib.hid (show (Tryd.prog.info? 92).map (·.size) = some (encT T2).length by rw [states_size, encT_len, HT2.out])
    have HPS := Lib.hid hps
    have HRR := Lib.hid hrr
    have HDL := Lib.hid (show (stpD l t ev).length = n by rw [hdl, hn])
    subst h0
    clear h hn h2 hm hu hc0 htl h12 hr hs HR hT2 hrs hstl htt HLB HTB hps hrr hdl
    go_enter Tryd.func23, Tryd.ntmps23
    go_wp2_with fail
    refine HC.out.mono ?_
    rintro e w1 ⟨rfl, hb1⟩
    have HB1 := Lib.hid hb1
    clear hb1 HC
    go_wp2_with fail
    refine (pStepsOf_any A n c w1).mono ?_
    rintro e w2 ⟨rfl, rfl⟩
    have HB2 := Lib.hid (HB1.out.alloc HB1.out.size (.cells #[.slice A n c] 22))
    have HR2 := Lib.hid (Row.new w1 [.slice A n c] 22)
    obtain ⟨bs, hbs⟩ : ∃ bs, bs = w1.heap.size := ⟨_, rfl⟩
    rw [← hbs] at HR2 ⊢
    clear hbs HB1
    generalize (w1.alloc (.cells #[.slice A n c] 22)) = w2 at *
    go_wp2_with fail
    refine (HSo.out _ HB2.out).mono ?_
    rintro e w3 ⟨rfl, hb3⟩
    have HB3 := Lib.hid (HB2.out.trans (hb3.mono HB2.out.size))
    have HR3 := Lib.hid (HR2.out.below hb3 HR2.out.lt)
    clear hb3 HB2 HR2 HSo
    go_wp2_with fail
    refine (HSt.out _ bs HB3.out HR3.out.lt (HR3.out.cell 0 rfl)).mono ?_
    rintro e w4 ⟨rfl, hb4⟩
    have HB4 := Lib.hid (HB3.out.trans (hb4.mono HB3.out.size))
    have hold := Lib.hid (Row.new w4 (encT zeroT) 92)
    have HB5 := Lib.hid (below_setRow (HB4.out.alloc HB4.out.size (.cells (encT zeroT).toArray 92)) HB4.out.size (encT T2).toArray)
    have HR9 := Lib.hid (show Row _ _ _ _ from setRow_heap (w4.alloc (.cells (encT zeroT).toArray 92)) w4.heap.size _ (encT T2).toArray _ _ hold.out)
    rw [zeroT_enc] at hold HB5 HR9
    have HST9 := Lib.hid (StAt.row HT2.out HR9.out)
    obtain ⟨mk, hmk⟩ : ∃ mk, mk = maskZ rs := ⟨_, rfl⟩
    rw [← hmk]
    clear hb4 HB3 HR3 HSt HB4
    rcases HPS.out with ⟨p1, p2, p3⟩ | ⟨p1, p2⟩
    · obtain rfl : mk = 0 := by rw [hmk, p1]; rfl
      have hzs : T2.take n = stpD l t ev := by rw [p3, pad, ← HDL.out, List.take_left']; rfl
      have HLs := Lib.hid (pList_any T2 n ((w4.alloc (.cells #[.int .i64 0, .int .i64 0, .int .i64 0, .int .i64 0, .int .i64 0, .int .i64 0, .int .i64 0, .int .i64 0, .int .i64 0, .int .i64 0, .int .i64 0, .int .i64 0] 92)).setRow w4.heap.size (encT T2).toArray) HT2.out hn12)
      rw [hzs] at HLs
      obtain ⟨zs, hzz⟩ : ∃ zs, zs = stpD l t ev := ⟨_, rfl⟩
      rw [← hzz] at HLs HDL p2
      have HP2 := Lib.hid p2
      clear p1 p2 p3 hmk hzs hzz HPS HRR
      go_wp2_with (first
        | refine wpList_store_row rfl 92 (.tmp 10) (.tmp 26) rfl w4.heap.size (encT T2).toArray rfl rfl 92 (encT zeroT).toArray hold.out (by simpa using hsz2.out) (by simp [encT_len, HT2.out, zeroT]) hone.out ?_
        | refine wpList_load_mid rfl 92 (.tmp 10) rfl w4.heap.size 0 rfl (encT T2) _ HST9.out.2 Tryd.underlying92 rfl hsz2.out ?_)
      refine HLs.out.mono ?_
      rintro e w6 ⟨A6, c6, rfl, hr6, hb6, h61, h62⟩
      have HB6 := Lib.hid (HB5.out.trans (hb6.mono HB5.out.size))
      have HR6 := Lib.hid hr6
      have H61 := Lib.hid h61
      rw [HDL.out]
      clear hb6 hr6 h61
      go_wp2_with fail
      go_ret3
      exact ⟨A6, c6, by rw [HP2.out, Option.getD_some, HDL.out]; rfl, by rw [HP2.out]; exact HR6.out, HB6.out, by rw [HP2.out]; exact H61.out, h62⟩
    · have hm0 : (mk != 0) = true := by
        obtain ⟨mm, k1, _, k3⟩ := maskZ_pos rs HRR.out
        rw [hmk, k1]
        have := k3 p1
        simp; omega
      have HP2 := Lib.hid p2
      clear p1 p2 hmk HPS HRR
      go_wp2_with (first
        | refine wpList_store_row rfl 92 (.tmp 10) (.tmp 26) rfl w4.heap.size (encT T2).toArray rfl rfl 92 (encT zeroT).toArray hold.out (by simpa using hsz2.out) (by simp [encT_len, HT2.out, zeroT]) hone.out ?_)
      go_ret3
      exact ⟨none, 0, by rw [HP2.out]; rfl, by rw [HP2.out]; exact RdI.nil _ _ _, HB5.out, by rw [HP2.out]; exact Nat.le_refl _, by omega⟩
  · have HR := Lib.hid (show stpR l t ev = none by rw [stpR, if_pos (by rw [← hu]; exact h0)])
    have hb : (u != 0) = true := by simp [h0]
    rw [HR.out]
    clear h hn h2 hm hu HR h0
    go_enter Tryd.func23, Tryd.ntmps23
    go_wp2_with fail
    refine HC.out.mono ?_
    rintro e w1 ⟨rfl, hb1⟩
    have HB1 := Lib.hid hb1
    clear hb1 HC
    go_wp2_with fail
    go_ret3
    exact ⟨none, 0, rfl, RdI.nil _ _ _, HB1.out, Nat.le_refl _, by omega⟩
end Go.Proofs.YtedleffmbddccaaDoor
