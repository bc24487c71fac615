/- Layer 6: checkRun, Run of the program. -/
import Derived.Test.YtedleffmbddccaaDoorZpSte
set_option linter.unusedVariables false
set_option linter.unusedSimpArgs false
set_option linter.unusedSectionVars false
namespace Go.Proofs.YtedleffmbddccaaDoor
open Go.RowKit Go.Sort

def wdGo (al : List Int) (ws : List Int) : Bool := ws.all fun x => decide (x ∈ al)
def crE (l : List Au) (ws : List Int) : Int := if chkL l ≠ 0 then chkL l else if posT l = false then 12 else if wdGo (alT l) ws = true then 0 else 9

set_option maxHeartbeats 4000000 in
set_option maxRecDepth 20000 in
theorem pChkR_any (A : Option Addr) (n c : Nat) (l : List Au) (A2 : Option Addr) (m d : Nat) (ws : List Int) (w : World) (h : RdAs w w.heap.size A l) (hn : l.length = n) (h2 : RdI w w.heap.size A2 ws) (hm : ws.length = m) (hmb : m ≤ 9223372036854775807) :
    Calls Tryd.prog 55 #[.slice A n c, .slice A2 m d] w fun e w' => e = .returned (.int .i64 (crE l ws)) ∧ Below w.heap.size w w' := by
  have HC := Lib.hid (pCheck_any A n c l w.heap.size w h (Nat.le_refl _) hn)
  obtain ⟨u, hu⟩ : ∃ u, u = chkL l := ⟨_, rfl⟩
  rw [← hu] at HC
  by_cases h0 : u = 0
  · obtain ⟨h12, hr, _⟩ := chk_right (show chkL l = 0 by rw [← hu, h0])
    have HLB := Lib.hid (fun W (hW : Below w.heap.size w W) => (h.below hW (Nat.le_refl _)).more hW.size)
    have HIni := Lib.hid (fun W (hW : Below w.heap.size w W) => pIni_any A n c l W.heap.size W (HLB.out W hW) (Nat.le_refl _) hn (by omega))
    rw [ini_pos hr] at HIni
    subst h0
    cases hp : posT l
    · rw [hp] at HIni
      have HR := Lib.hid (show crE l ws = 12 by rw [crE, if_neg (by rw [← hu]; simp), if_pos hp])
      rw [HR.out]
      clear h hn h2 hm hu h12 hr HR hp HLB
      go_enter Tryd.func55, Tryd.ntmps55
      go_wp2_with fail
      refine HC.out.mono ?_
      rintro e w1 ⟨rfl, hb1⟩
      have HB1 := Lib.hid hb1
      clear hb1 HC
      go_wp2_with fail
      refine (HIni.out _ HB1.out).mono ?_
      rintro e w2 ⟨rfl, hb2⟩
      have HB2 := Lib.hid (HB1.out.trans (hb2.mono HB1.out.size))
      clear hb2
      go_wp2_with fail
      go_ret
      exact ⟨by first | rfl | trivial, HB2.out⟩
    · rw [hp] at HIni
      obtain ⟨v, hv⟩ : ∃ v, v = wdGo (alT l) ws := ⟨_, rfl⟩
      have HR := Lib.hid (show crE l ws = if v = true then 0 else 9 by rw [crE, if_neg (by rw [← hu]; simp), if_neg (by rw [hp]; simp), hv])
      have HV := Lib.hid (show wdGo (alT l) (ws.drop 0) = v by rw [hv]; rfl)
      rw [HR.out]
      have HEv := Lib.hid (fun W (hW : Below w.heap.size w W) => pEvents_any A n c l W.heap.size W (HLB.out W hW) (Nat.le_refl _) hn (by omega) hr)
      have HUP := Lib.hid (up_of (alT_sorted hr))
      have HA32 := alT_len hr
      have HM := Lib.hid hm
      have HW := Lib.hid h2
      clear h hn h2 hm hu h12 hr HR hp HLB hv
      go_enter Tryd.func55, Tryd.ntmps55
      go_wp2_with fail
      refine HC.out.mono ?_
      rintro e w1 ⟨rfl, hb1⟩
      have HB1 := Lib.hid hb1
      clear hb1 HC
      go_wp2_with fail
      refine (HIni.out _ HB1.out).mono ?_
      rintro e w2 ⟨rfl, hb2⟩
      have HB2 := Lib.hid (HB1.out.trans (hb2.mono HB1.out.size))
      clear hb2
      go_wp2_with fail
      refine (HEv.out _ HB2.out).mono ?_
      rintro e w3 ⟨Ax, cx, rfl, hr3, hb3, _, _⟩
      have HB3 := Lib.hid (HB2.out.trans (hb3.mono HB2.out.size))
      obtain ⟨k3, hk3⟩ : ∃ k3, k3 = (alT l).length := ⟨_, rfl⟩
      have HCo := Lib.hid (fun x => aContains_any Ax k3 cx w3.heap.size (alT l) x w3 hr3 hk3.symm (by omega) HUP.out)
      rw [← hk3]
      clear hb3 hr3 hk3 HA32 HB2 HB1 HEv HIni
      go_wp2_with fail
      go_loopw [21] (fun i wr => ∃ k : Nat, k ≤ m ∧ i = .int .i64 k ∧ wr = w3 ∧ Hid (wdGo (alT l) (ws.drop k) = v)) (fun i _ => m - (intOf i).toNat)
      case atStart => exact ⟨0, Nat.zero_le _, rfl, rfl, HV⟩
      case round =>
        clear HV
        obtain ⟨k, hkm, rfl, rfl, hv⟩ := hrel
        by_cases hlt : k < m
        · obtain ⟨b2, o2, rfl, hb2, hc2⟩ := HW.out (by rw [HM.out]; omega)
          have r1 := (HB3.out.cell (p := ⟨b2, o2 + k, none⟩) hb2).trans (hc2 k (by rw [HM.out]; exact hlt))
          obtain ⟨s, hs⟩ : ∃ s, s = ws.getD k 0 := ⟨_, rfl⟩
          rw [← hs] at r1
          have hv2 := hv.out
          rw [drop_int (by rw [HM.out]; exact hlt), ← hs, wdGo, List.all_cons] at hv2
          have HCs := Lib.hid (HCo.out s)
          obtain ⟨r, hrr⟩ : ∃ r, r = decide (s ∈ alT l) := ⟨_, rfl⟩
          rw [← hrr] at HCs hv2
          have w0 : (k : Int) < (m : Int) := by omega
          have w1 : (0 : Int) ≤ (k : Int) := by omega
          clear hc2 hs hv hrr
          cases r
          · have hvf : v = false := by rw [← hv2]; rfl
            subst hvf
            clear hv2
            go_wp2_with fail
            refine HCs.out.mono ?_
            rintro e w4 ⟨rfl, rfl⟩
            go_wp2_with fail
            go_ret
            exact ⟨by first | rfl | trivial, HB3.out⟩
          · rw [Bool.true_and] at hv2
            have HV2 := Lib.hid (show wdGo (alT l) (ws.drop (k + 1)) = v from hv2)
            clear hv2
            go_wp2_with fail
            refine HCs.out.mono ?_
            rintro e w4 ⟨rfl, rfl⟩
            go_wp2_with fail
            go_roundw
            case rel => exact ⟨k + 1, by omega, by go_num, by first | rfl | trivial, HV2⟩
            case measure => simp [intOf] <;> omega
        · obtain rfl : k = m := by omega
          have hvt : v = true := by
            have := hv.out
            rw [List.drop_of_length_le (by rw [HM.out]; exact Nat.le_refl _)] at this
            rw [← this]; rfl
          subst hvt
          clear hlt hkm hv
          go_wp2_with fail
          go_ret
          exact ⟨by first | rfl | trivial, HB3.out⟩
  · have HR := Lib.hid (show crE l ws = u by rw [crE, if_pos (by rw [← hu]; exact h0), hu])
    have hb : (u != 0) = true := by simp [h0]
    rw [HR.out]
    clear h hn h2 hm hu HR h0
    go_enter Tryd.func55, Tryd.ntmps55
    go_wp2_with fail
    refine HC.out.mono ?_
    rintro e w1 ⟨rfl, hb1⟩
    have HB1 := Lib.hid hb1
    clear hb1 HC
    go_wp2_with fail
    go_ret
    exact ⟨by first | rfl | trivial, HB1.out⟩

/-- How far a word leads from a tuple. -/
def runT (l : List Au) : List Int → List Int → List Int × Nat
  | t, [] => (t, 0)
  | t, x :: ws =>
    match stpT l t x with
    | none => (t, 0)
    | some t' => ((runT l t' ws).1, (runT l t' ws).2 + 1)
def rnR (l : List Au) (ws : List Int) : List Int × Nat := if crE l ws ≠ 0 then ([], 0) else runT l (List.replicate l.length 0) ws
theorem cr_zero {l : List Au} {ws : List Int} (h : crE l ws = 0) : chkL l = 0 ∧ posT l = true := by
  unfold crE at h
  by_cases h3 : chkL l = 0
  · rw [if_neg (by simpa using h3)] at h
    cases hp : posT l with
    | true => exact ⟨h3, rfl⟩
    | false => rw [if_pos hp] at h; omega
  · rw [if_pos h3] at h; exact absurd h h3
theorem pad_zero {n : Nat} (h : n ≤ 12) : pad (List.replicate n 0) = zeroT := by
  unfold pad zeroT
  rw [List.length_replicate, List.replicate_append_replicate]
  congr 1; omega
/-- What the loop of Run keeps. -/
structure RN (w wr : World) (b9 bs : Nat) (A : Option Addr) (n c : Nat) (tt : List Int) : Prop where
  bel : Below w.heap.size w wr
  row : Row wr b9 92 (encT tt)
  stp : Row wr bs 22 [.slice A n c]
  b9 : w.heap.size ≤ b9
theorem RN.call {w wr w' : World} {b9 bs : Nat} {A : Option Addr} {n c : Nat} {tt : List Int} (h : RN w wr b9 bs A n c tt) (hb : Below wr.heap.size wr w') : RN w w' b9 bs A n c tt :=
  ⟨h.bel.trans (hb.mono h.bel.size), h.row.below hb h.row.lt, h.stp.below hb h.stp.lt, h.b9⟩
theorem RN.set {w wr : World} {b9 bs : Nat} {A : Option Addr} {n c : Nat} {tt t2 : List Int} (h : RN w wr b9 bs A n c tt) : RN w (wr.setRow b9 (encT t2).toArray) b9 bs A n c t2 :=
  ⟨below_setRow h.bel h.b9 _, setRow_heap wr b9 _ (encT t2).toArray _ _ h.row, (setRow_other wr b9 bs _ (row_ne_row h.stp h.row (by decide))).trans h.stp, h.b9⟩

set_option maxHeartbeats 8000000 in
set_option maxRecDepth 100000 in
theorem pRun_any (A : Option Addr) (n c : Nat) (l : List Au) (A2 : Option Addr) (m d : Nat) (ws : List Int) (w : World) (h : RdAs w w.heap.size A l) (hn : l.length = n) (h2 : RdI w w.heap.size A2 ws) (hm : ws.length = m) (hmb : m ≤ 9223372036854775807) :
    Calls Tryd.prog 24 #[.slice A n c, .slice A2 m d] w fun e w' => ∃ A' c', e = .returned (.tuple #[.slice A' (rnR l ws).1.length c', .int .i64 ((rnR l ws).2 : Int), .int .i64 (crE l ws)]) ∧ RdI w' w'.heap.size A' (rnR l ws).1 ∧ Below w.heap.size w w' ∧ (rnR l ws).1.length ≤ c' ∧ c' ≤ 9223372036854775807 := by
  have HC := Lib.hid (pChkR_any A n c l A2 m d ws w h hn h2 hm hmb)
  obtain ⟨u, hu⟩ : ∃ u, u = crE l ws := ⟨_, rfl⟩
  rw [← hu] at HC ⊢
  by_cases h0 : u = 0
  · obtain ⟨hc0, hpo⟩ := cr_zero (show crE l ws = 0 by rw [← hu, h0])
    obtain ⟨h12, hr, hs⟩ := chk_right hc0
    have hn12 : n ≤ 12 := by omega
    obtain ⟨R, hRe⟩ : ∃ R, R = runT l (List.replicate l.length 0) ws := ⟨_, rfl⟩
    have HR := Lib.hid (show rnR l ws = R by rw [rnR, if_neg (by rw [← hu]; simpa using h0), hRe])
    rw [HR.out]
    have HR0 := Lib.hid (show (fun r : List Int × Nat => (r.1, r.2 + 0)) (runT l (List.replicate l.length 0) (ws.drop 0)) = R by rw [hRe]; rfl)
    have HLB := Lib.hid (fun W (hW : Below w.heap.size w W) => (h.below hW (Nat.le_refl _)).more hW.size)
    have HSt := Lib.hid (fun W bl (t : List Int) (ht : t.length = l.length) (ev : Int) (hW : Below w.heap.size w W) (hbl : bl < W.heap.size) (hcl : W.cell? ⟨bl, 0, none⟩ = some (.slice A n c)) => pStep1_any A n c l (pad t) ev bl W (HLB.out W hW) hn (by omega) hr (pad_len (by omega)) hbl hcl)
    have HPZ := Lib.hid (pad_zero (n := l.length) h12)
    have HN := Lib.hid hn
    have HM := Lib.hid hm
    have HW := Lib.hid h2
    have H12 := Lib.hid h12
    subst h0
    clear h hn h2 hm hu hc0 h12 hr hs HR hRe hpo
    go_enter Tryd.func24, Tryd.ntmps24
    go_wp2_with fail
    refine HC.out.mono ?_
    rintro e w1 ⟨rfl, hb1⟩
    have HB1 := Lib.hid hb1
    clear hb1 HC
    go_wp2_with fail
    refine (pStepsOf_any A n c w1).mono ?_
    rintro e w2 ⟨rfl, rfl⟩
    have HRN := Lib.hid (show RN w ((w1.alloc (.cells #[.slice A n c] 22)).alloc (.cells (encT zeroT).toArray 92)) (w1.heap.size + 1) w1.heap.size A n c (pad (List.replicate l.length 0)) from
      ⟨(HB1.out.alloc HB1.out.size _).alloc (by have := HB1.out.size; simp; omega) _, by
        rw [HPZ.out]
        have := Row.new (w1.alloc (.cells #[.slice A n c] 22)) (encT zeroT) 92
        simpa using this, (Row.new w1 [.slice A n c] 22).alloc _, by have := HB1.out.size; omega⟩)
    rw [zeroT_enc] at HRN
    go_wp2_with fail
    obtain ⟨b9, hb9⟩ : ∃ b9, b9 = w1.heap.size + 1 := ⟨_, rfl⟩
    obtain ⟨bs, hbs⟩ : ∃ bs, bs = w1.heap.size := ⟨_, rfl⟩
    rw [← hb9, ← hbs] at HRN
    rw [← hb9, ← hbs]
    clear hb9 hbs HB1
    have HTK := Lib.hid (fun (t : List Int) (ht : t.length = l.length) => show (pad t).take n = t by rw [pad, ← HN.out, ← ht]; exact List.take_left)
    go_loopw [5, 24] (fun dv i wr => ∃ (k : Nat) (t : List Int), k ≤ m ∧ i = .int .i64 k ∧ dv = .int .i64 k ∧ Hid (t.length = l.length) ∧ Hid (RN w wr b9 bs A n c (pad t)) ∧ Hid ((runT l t (ws.drop k)).1 = R.1 ∧ (runT l t (ws.drop k)).2 + k = R.2)) (fun _ i _ => m - (intOf i).toNat)
    case atStart => exact ⟨0, List.replicate l.length 0, Nat.zero_le _, rfl, rfl, Lib.hid (by simp), HRN, Lib.hid ⟨congrArg Prod.fst HR0.out, congrArg Prod.snd HR0.out⟩⟩
    case round =>
      clear HRN HR0
      obtain ⟨k, t, hkm, rfl, rfl, htl, hrn, hrun⟩ := hrel
      by_cases hlt : k < m
      · obtain ⟨b2, o2, rfl, hb2, hc2⟩ := HW.out (by rw [HM.out]; omega)
        have r1 := (hrn.out.bel.cell (p := ⟨b2, o2 + k, none⟩) hb2).trans (hc2 k (by rw [HM.out]; exact hlt))
        obtain ⟨x, hx⟩ : ∃ x, x = ws.getD k 0 := ⟨_, rfl⟩
        rw [← hx] at r1
        have hr2 := hrun.out
        rw [drop_int (by rw [HM.out]; exact hlt), ← hx, runT] at hr2
        have HStep := Lib.hid (HSt.out wr bs t htl.out x hrn.out.bel hrn.out.stp.lt (hrn.out.stp.cell 0 rfl))
        have hps := pad_step (e := x) htl.out
        have hrr := Lib.hid (rfG_range l 0 (pad t) x (by have := H12.out; omega))
        have hdl := stpD_len (l := l) (qs := t) (e := x) htl.out
        have hstl : (stG l 0 (pad t) x).length = 12 := by rw [stG_len]; exact pad_len (by have := H12.out; have := htl.out; omega)
        have hpl : (pad t).length = 12 := pad_len (by have := H12.out; have := htl.out; omega)
        obtain ⟨T2, hT2⟩ : ∃ T2, T2 = stG l 0 (pad t) x := ⟨_, rfl⟩
        obtain ⟨rs, hrs⟩ : ∃ rs, rs = rfG l 0 (pad t) x := ⟨_, rfl⟩
        obtain ⟨tt, htt⟩ : ∃ tt, tt = pad t := ⟨_, rfl⟩
        rw [← hT2] at hps hstl
        rw [← hrs] at hps
        rw [← hT2, ← hrs] at HStep
        rw [← hrs] at hrr
        rw [← htt] at HStep hrn hpl
        have HTT := Lib.hid htt
        have HT2 := Lib.hid hstl
        have HPL := Lib.hid hpl
        have hsz1 := Lib.hid (show (Tryd.prog.info? 92).map (·.size) = some (encT tt).length by rw [states_size, encT_len, HPL.out])
        have hsz2 := Lib.hid (show (Tryd.prog.info? 92).map (·.size) = some (encT T2).length by rw [states_size, encT_len, HT2.out])
        have hone := Lib.hid (encT_one T2)
        have HST1 := Lib.hid (StAt.row HPL.out hrn.out.row)
        have w0 : (k : Int) < (m : Int) := by omega
        have w1' : (0 : Int) ≤ (k : Int) := by omega
        clear hc2 hx hrs hT2 htt hstl hpl hrun
        go_wp2_with (first | refine wpList_load_mid rfl 92 (.tmp 9) rfl b9 0 rfl (encT tt) _ HST1.out.2 Tryd.underlying92 rfl hsz1.out ?_)
        refine HStep.out.mono ?_
        rintro e w8 ⟨rfl, hb8⟩
        have hrn8 := hrn.out.call hb8
        have hold := Lib.hid (Row.new w8 (encT zeroT) 92)
        have HRN9 := Lib.hid (hrn8.call (below_setRow ((Below.refl w8.heap.size w8).alloc (Nat.le_refl _) (.cells (encT zeroT).toArray 92)) (Nat.le_refl _) (encT T2).toArray))
        have HR9 := Lib.hid (show Row _ _ _ _ from setRow_heap (w8.alloc (.cells (encT zeroT).toArray 92)) w8.heap.size _ (encT T2).toArray _ _ hold.out)
        rw [zeroT_enc] at hold HRN9 HR9
        have HST9 := Lib.hid (StAt.row HT2.out HR9.out)
        obtain ⟨mk, hmk⟩ : ∃ mk, mk = maskZ rs := ⟨_, rfl⟩
        rw [← hmk]
        clear hb8 HStep HST1 hrn hrn8
        rcases hps with ⟨p1, p2, p3⟩ | ⟨p1, p2⟩
        · obtain rfl : mk = 0 := by rw [hmk, p1]; rfl
          rw [p2] at hr2
          have HR2 := Lib.hid hr2
          have HD := Lib.hid hdl
          have HP3 := Lib.hid p3
          have hold9 := Lib.hid HRN9.out.row
          have HRN10 := Lib.hid (HRN9.out.set (t2 := T2))
          clear p1 p2 p3 hmk hr2 hdl hrr
          go_wp2_with (first
            | refine wpList_store_row rfl 92 (.tmp 12) (.tmp 33) rfl w8.heap.size (encT T2).toArray rfl rfl 92 (encT zeroT).toArray hold.out (by simpa using hsz2.out) (by simp [encT_len, HT2.out, zeroT]) hone.out ?_
            | refine wpList_load_mid rfl 92 (.tmp 12) rfl w8.heap.size 0 rfl (encT T2) _ HST9.out.2 Tryd.underlying92 rfl hsz2.out ?_
            | refine wpList_store_row rfl 92 (.tmp 9) (.tmp 37) rfl b9 (encT T2).toArray rfl rfl 92 (encT tt).toArray hold9.out (by simpa using hsz2.out) (by simp [encT_len, HT2.out, HPL.out]) hone.out ?_)
          go_roundw
          case rel => exact ⟨k + 1, stpD l t x, by omega, by go_num, by go_num, HD, by rw [← HP3.out]; exact HRN10, Lib.hid ⟨HR2.out.1, by have := HR2.out.2; omega⟩⟩
          case measure => simp [intOf] <;> omega
        · have hm0 : (mk != 0) = true := by
            obtain ⟨mm, k1, _, k3⟩ := maskZ_pos rs hrr.out
            rw [hmk, k1]
            have := k3 p1
            simp; omega
          rw [p2] at hr2
          have HR2 := Lib.hid hr2
          have HST10 := Lib.hid (StAt.row HPL.out HRN9.out.row)
          have HLs := Lib.hid (pList_any tt n ((w8.alloc (.cells #[.int .i64 0, .int .i64 0, .int .i64 0, .int .i64 0, .int .i64 0, .int .i64 0, .int .i64 0, .int .i64 0, .int .i64 0, .int .i64 0, .int .i64 0, .int .i64 0] 92)).setRow w8.heap.size (encT T2).toArray) HPL.out hn12)
          rw [show tt.take n = t by rw [HTT.out]; exact HTK.out t htl.out] at HLs
          have HTN := Lib.hid (show t.length = n by rw [htl.out, HN.out])
          clear p1 p2 hmk hr2 hdl hrr
          go_wp2_with (first
            | refine wpList_store_row rfl 92 (.tmp 12) (.tmp 33) rfl w8.heap.size (encT T2).toArray rfl rfl 92 (encT zeroT).toArray hold.out (by simpa using hsz2.out) (by simp [encT_len, HT2.out, zeroT]) hone.out ?_
            | refine wpList_load_mid rfl 92 (.tmp 9) rfl b9 0 rfl (encT tt) _ HST10.out.2 Tryd.underlying92 rfl hsz1.out ?_)
          refine HLs.out.mono ?_
          rintro e w10 ⟨A6, c6, rfl, hr6, hb6, h61, h62⟩
          have HB6 := Lib.hid (HRN9.out.bel.trans (hb6.mono HRN9.out.bel.size))
          have HR6 := Lib.hid hr6
          have H61 := Lib.hid h61
          rw [HTN.out]
          clear hb6 hr6 h61
          go_wp2_with fail
          go_ret3
          have e1 : R.1 = t := HR2.out.1.symm
          have e2 : R.2 = k := by have := HR2.out.2; omega
          exact ⟨A6, c6, by rw [e1, e2, HTN.out]; rfl, by rw [e1]; exact HR6.out, HB6.out, by rw [e1]; exact H61.out, h62⟩
      · obtain rfl : k = m := by omega
        have hpl : (pad t).length = 12 := pad_len (by have := H12.out; have := htl.out; omega)
        have hr2 := hrun.out
        rw [List.drop_of_length_le (by rw [HM.out]; exact Nat.le_refl _), runT] at hr2
        have HR2 := Lib.hid hr2
        obtain ⟨tt, htt⟩ : ∃ tt, tt = pad t := ⟨_, rfl⟩
        rw [← htt] at hrn hpl
        have HPL := Lib.hid hpl
        have hsz1 := Lib.hid (show (Tryd.prog.info? 92).map (·.size) = some (encT tt).length by rw [states_size, encT_len, HPL.out])
        have HST10 := Lib.hid (StAt.row HPL.out hrn.out.row)
        have HLs := Lib.hid (pList_any tt n wr HPL.out hn12)
        rw [show tt.take n = t by rw [htt]; exact HTK.out t htl.out] at HLs
        have HTN := Lib.hid (show t.length = n by rw [htl.out, HN.out])
        clear hr2 hpl htt hrun hlt hkm
        go_wp2_with (first
          | refine wpList_load_mid rfl 92 (.tmp 9) rfl b9 0 rfl (encT tt) _ HST10.out.2 Tryd.underlying92 rfl hsz1.out ?_)
        refine HLs.out.mono ?_
        rintro e w10 ⟨A6, c6, rfl, hr6, hb6, h61, h62⟩
        have HB6 := Lib.hid (hrn.out.bel.trans (hb6.mono hrn.out.bel.size))
        have HR6 := Lib.hid hr6
        have H61 := Lib.hid h61
        rw [HTN.out]
        clear hb6 hr6 h61
        go_wp2_with fail
        go_ret3
        have e1 : R.1 = t := HR2.out.1.symm
        have e2 : R.2 = k := by have := HR2.out.2; omega
        exact ⟨A6, c6, by rw [e1, e2, HTN.out]; rfl, by rw [e1]; exact HR6.out, HB6.out, by rw [e1]; exact H61.out, h62⟩
  · have HR := Lib.hid (show rnR l ws = ([], 0) by rw [rnR, if_pos (by rw [← hu]; exact h0)])
    have hb : (u != 0) = true := by simp [h0]
    rw [HR.out]
    clear h hn h2 hm hu HR h0
    go_enter Tryd.func24, Tryd.ntmps24
    go_wp2_with fail
    refine HC.out.mono ?_
    rintro e w1 ⟨rfl, hb1⟩
    have HB1 := Lib.hid hb1
    clear hb1 HC
    go_wp2_with fail
    go_ret3
    exact ⟨none, 0, rfl, RdI.nil _ _ _, HB1.out, Nat.le_refl _, by omega⟩
end Go.Proofs.YtedleffmbddccaaDoor
