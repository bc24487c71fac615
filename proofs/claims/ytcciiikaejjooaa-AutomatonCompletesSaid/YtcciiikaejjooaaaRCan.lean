/- Layer 3: Canonical of the reference. -/
import Derived.Test.YtcciiikaejjooaaaREmp
import Derived.Test.YtcciiikaejjooaaaCmp
namespace Go.Proofs.Ytcciiikaejjooaa
open Go.RowKit Go.Sort

/-- The marked states among the first ones found. -/
def canMn (a : Au) (j : Nat) : List Int := ((List.range j).filter fun i => decide ((fnd a).getD i 0 ∈ a.mr)).map fun (i : Nat) => (i : Int)
theorem canMn_yes {a : Au} {j : Nat} (h : (fnd a).getD j 0 ∈ a.mr) : canMn a (j + 1) = canMn a j ++ [(j : Int)] := by
  unfold canMn; rw [List.range_succ, List.filter_append]
  rw [List.filter_cons_of_pos (by simpa using h)]; simp
theorem canMn_no {a : Au} {j : Nat} (h : (fnd a).getD j 0 ∉ a.mr) : canMn a (j + 1) = canMn a j := by
  unfold canMn; rw [List.range_succ, List.filter_append]
  rw [List.filter_cons_of_neg (by simpa using h)]; simp
theorem canMn_len (a : Au) (j : Nat) : (canMn a j).length ≤ j := by
  unfold canMn; rw [List.length_map]; exact Nat.le_trans (List.length_filter_le _ _) (by simp)
/-- The edges of a found state by the first events. -/
def outK (a : Au) (j t : Nat) : List Ed := (succK a ((fnd a).getD j 0) t).map fun x => ⟨(j : Int), x.e, ((fnd a).idxOf x.t : Int)⟩
theorem outK_zero (a : Au) (j : Nat) : outK a j 0 = [] := by simp [outK, succK_zero]
theorem outK_some {a : Au} {j t : Nat} {x : Ed} (hk : t < a.al.length) (h : edgeO a.ed ((fnd a).getD j 0) (a.al.getD t 0) = some x) : outK a j (t + 1) = outK a j t ++ [⟨(j : Int), x.e, ((fnd a).idxOf x.t : Int)⟩] := by
  unfold outK; rw [succK_some hk h, List.map_append]; rfl
theorem outK_none {a : Au} {j t : Nat} (hk : t < a.al.length) (h : edgeO a.ed ((fnd a).getD j 0) (a.al.getD t 0) = none) : outK a j (t + 1) = outK a j t := by
  unfold outK; rw [succK_none hk h]
theorem outK_all {a : Au} (h : RightW a) {j n : Nat} (hn : a.al.length = n) : canEn a j ++ outK a j n = canEn a (j + 1) := by
  rw [canEn_succ]; unfold outK outE; rw [succK_all h hn]
theorem outK_len {a : Au} (h : RightW a) {j t : Nat} (hj : j < (fnd a).length) : (canEn a j ++ outK a j t).length ≤ a.ed.length := by
  have h1 := canEn_len a (show j + 1 ≤ (fnd a).length by omega)
  rw [canEn_succ, List.length_append] at h1
  have h2 := (succK_pre h ((fnd a).getD j 0) t).length_le
  rw [List.length_append]
  unfold outK outE at *
  rw [List.length_map] at h1 ⊢
  omega
theorem idxI_in {l : List Int} {x : Int} (h : x ∈ l) : idxI l x = (l.idxOf x : Int) := by rw [idxI, if_pos h]

set_option maxHeartbeats 16000000 in
set_option maxRecDepth 100000 in
theorem rCanonical_any (A : Option Addr) (n c : Nat) (s : Int) (M : Option Addr) (m d : Nat) (E : Option Addr) (k g : Nat) (a : Au) (B : Nat) (w : World) (h : AuR w B A n c s M m d E k g a) (hB : B ≤ w.heap.size) (hr : RightW a) (hS : s ≤ 5000) :
    Calls Try.prog 29 #[.agg #[.slice A n c, .int .i64 s, .slice M m d, .slice E k g]] w fun e w' => ∃ v, e = .returned v ∧ AuF (canA a) v w' w.heap.size ∧ Below w.heap.size w w' := by
  have hb1 := ((Below.refl w.heap.size w).alloc (Nat.le_refl _) (.cells #[.slice A n c, .int .i64 s, .slice M m d, .slice E k g] 25)).alloc (by simp) (.cells #[.slice none 0 0, .int .i64 0, .slice none 0 0, .slice none 0 0] 25)
  have HB1 := Lib.hid hb1
  have HBw := Lib.hid hB
  have HFn := Lib.hid (rFound_any A n c s M m d E k g a B _ (h.below hb1 hB) (Nat.le_trans hB hb1.size) hr hS)
  have HA := Lib.hid ((Row.new w [.slice A n c, .int .i64 s, .slice M m d, .slice E k g] 25).alloc (.cells #[.slice none 0 0, .int .i64 0, .slice none 0 0, .slice none 0 0] 25))
  have HRes := Lib.hid (show Row ((w.alloc (.cells #[.slice A n c, .int .i64 s, .slice M m d, .slice E k g] 25)).alloc (.cells #[.slice none 0 0, .int .i64 0, .slice none 0 0, .slice none 0 0] 25)) (w.heap.size + 1) 25 [.slice none 0 0, .int .i64 0, .slice none 0 0, .slice none 0 0] by
    have := Row.new (w.alloc (.cells #[.slice A n c, .int .i64 s, .slice M m d, .slice E k g] 25)) [.slice none 0 0, .int .i64 0, .slice none 0 0, .slice none 0 0] 25
    simpa using this)
  have HR := Lib.hid h
  have HRI := Lib.hid hr
  have HST := Lib.hid h.st
  have hbn := h.bn
  have hbk := h.bk
  have hnc := h.cn.1
  obtain ⟨iI, iI0, iI1, iI2, iI3⟩ := info_parts info_int
  obtain ⟨iE, iE0, iE1, iE2, iE3⟩ := info_parts info_edge
  obtain ⟨fl, hfl⟩ : ∃ fl, fl = fnd a := ⟨_, rfl⟩
  obtain ⟨L, hL⟩ : ∃ L, L = fl.length := ⟨_, rfl⟩
  have HFL := Lib.hid hfl
  have HLn := Lib.hid hL
  have hL5 : L ≤ 5000 := by have h1 := fnd_len hr; have h2 := hr.st0; rw [h.st] at h1 h2; rw [hL, hfl]; omega
  rw [← hfl] at HFn
  clear h hr hb1 hfl hL hB
  go_enter Try.func29, Try.ntmps29
  go_wp2_with fail
  refine HFn.out.mono ?_
  rintro e w1 ⟨Af, cF, rfl, hrf, hbw, hcf, _⟩
  rw [← HLn.out] at hcf ⊢
  have hA1 := Lib.hid (HA.out.below hbw (by simp; omega))
  have hR1 := Lib.hid (HRes.out.below hbw (by simp))
  have hB1 := Lib.hid (HB1.out.trans (hbw.mono (by simp; omega)))
  have HRF := Lib.hid hrf
  have HE := Lib.hid (rEmpty_any A n c B a.al w1 (HR.out.al.below hB1.out HBw.out) (Nat.le_trans HBw.out hB1.out.size) HR.out.hn hbn)
  have hz := hbw.size
  simp only [World.size_alloc] at hz
  clear hbw hrf
  have p0 := hA1.out.cell 0 rfl
  go_wp2_with fail
  refine HE.out.mono ?_
  rintro e w2 ⟨Ac, cc, rfl, hoc, hbw, hc1, hc2⟩
  have hA2 := Lib.hid (hA1.out.below hbw (by omega))
  have hR2 := Lib.hid (hR1.out.below hbw (by omega))
  have hB2 := Lib.hid (hB1.out.trans (hbw.mono hB1.out.size))
  have HRF2 := Lib.hid ((HRF.out.below hbw (Nat.le_refl _)).more hbw.size)
  have HCL := Lib.hid (show RdI w2 w2.heap.size Ac a.al by
    obtain ⟨A', c', e, hrd, _, _⟩ := own_rdc hoc
    injection e with e1 e2 e3
    subst e1; exact hrd)
  have HAC := Lib.hid (own_from hoc)
  have hz2 := hbw.size
  have hbd0 := Lib.hid (show Bd w2 w2.heap.size w2.heap.size true true (.slice Ac n cc) (L : Int) (w2.alloc (.cells #[.slice Ac n cc, .int .i64 (L : Int), .slice none 0 0, .slice none 0 0] 25)) (canMn a 0) (.slice none 0 0) (canEn a 0) (.slice none 0 0) from
      ⟨(Below.refl _ _).alloc (Nat.le_refl _) _, Row.new w2 [.slice Ac n cc, .int .i64 (L : Int), .slice none 0 0, .slice none 0 0] 25, fun _ => World.ownsRow_nil _ _ _ _, fun _ => World.ownsRow_nil _ _ _ _, Nat.le_refl _⟩)
  clear hbw hoc p0
  go_wp2_with fail
  go_loopw [5] (fun i wr => ∃ (j : Nat) (vm ve : Value), j ≤ L ∧ i = .int .i64 j ∧ Hid (Bd w2 w2.heap.size w2.heap.size true true (.slice Ac n cc) (L : Int) wr (canMn a j) vm (canEn a j) ve)) (fun i _ => L - (intOf i).toNat)
  case atStart => exact ⟨0, _, _, Nat.zero_le _, rfl, hbd0⟩
  case round =>
    clear hbd0
    obtain ⟨j, vm, ve, hjL, rfl, hbd⟩ := hrel
    by_cases hjl : j < L
    · obtain ⟨q, hq⟩ : ∃ q, q = fl.getD j 0 := ⟨_, rfl⟩
      have HQ := Lib.hid hq
      obtain ⟨bF, oF, rfl, hbF, hcF⟩ := HRF2.out (by rw [← HLn.out]; omega)
      have cF0 : w2.cell? ⟨bF, oF + j, none⟩ = some (.int .i64 q) := by rw [hq]; exact hcF j (by rw [← HLn.out]; exact hjl)
      have CF := Lib.hid (fun W (hW : Below w2.heap.size w2 W) => (hW.cell (p := ⟨bF, oF + j, none⟩) hbF).trans cF0)
      have CB := Lib.hid (fun W (hW : Below w2.heap.size w2 W) => box_row A n c s M m d E k g (hA2.out.below hW (by omega)))
      have hjz : (0 : Int) ≤ (j : Int) := by omega
      have hjL2 : (j : Int) < (L : Int) := by omega
      obtain ⟨r, hr⟩ : ∃ r, r = decide (q ∈ a.mr) := ⟨_, rfl⟩
      have HM := Lib.hid (fun W (hG : Bd w2 w2.heap.size w2.heap.size true true (.slice Ac n cc) (L : Int) W (canMn a j) vm (canEn a j) ve) => (rHas_any M m d B a.mr q W (HR.out.mr.below (hB2.out.trans (hG.bel.mono hB2.out.size)) HBw.out) HR.out.hm (by have := HR.out.bm; omega)).mono (R' := fun e w' => e = .returned (.bool r) ∧ Bd w2 w2.heap.size w2.heap.size true true (.slice Ac n cc) (L : Int) w' (canMn a j) vm (canEn a j) ve) fun e w' hh => ⟨by rw [hh.1, hr], hh.2 ▸ hG⟩)
      have HRr := Lib.hid hr
      have hbdd := Lib.hid hbd.out.drew
      obtain ⟨p0, p1, p2, p3⟩ := CB.out wr hbd.out.bel
      have cf := CF.out wr hbd.out.bel
      have hml := canMn_len a j
      clear hq hcF cF0 hr
      go_wp2_with fail
      go_region_held3 (fun w' => w'.cell? ⟨w.heap.size, 2, none⟩ = some (.slice M m d) ∧ w'.cell? ⟨bF, oF + j, none⟩ = some (.int .i64 q)) (first | with_reducible exact ⟨p2, cf⟩ | go_keep)
        (first
        | (go_simp; go_at_call 48; (first | with_reducible refine (HM.out _ hbd.out).mono ?_ | with_reducible refine (HM.out _ hbdd.out).mono ?_); rintro e w4 ⟨rfl, hG⟩
           have HG := Lib.hid hG
           have HGd := Lib.hid hG.drew
           have p2 := (CB.out _ hG.bel).c2
           have cf := CF.out _ hG.bel
           clear hG))
      all_goals
        go_upto_if 28 with fail
        go_cut [5] from 16 to 69 (fun i wx => i = .int .i64 (j : Int) ∧ ∃ vm, Hid (Bd w2 w2.heap.size w2.heap.size true true (.slice Ac n cc) (L : Int) wx (canMn a (j + 1)) vm (canEn a j) ve))
        case first =>
          cases r
          · have hno := Lib.hid (show canMn a (j + 1) = canMn a j from canMn_no (by have := HRr.out; rw [HQ.out, HFL.out] at this; simpa using this.symm))
            go_wp2_with fail
            go_meet
            case rel => exact ⟨rfl, vm, by rw [hno.out]; first | exact HG | exact HGd⟩
          · obtain ⟨K0, hK0⟩ : ∃ K0, K0 = canMn a j := ⟨_, rfl⟩
            obtain ⟨l0, hl0⟩ : ∃ l0, l0 = K0.length := ⟨_, rfl⟩
            have hyes := Lib.hid (show canMn a (j + 1) = K0 ++ [(j : Int)] by rw [hK0]; exact canMn_yes (by have := HRr.out; rw [HQ.out, HFL.out] at this; simpa using this.symm))
            have HL0 := Lib.hid hl0
            rw [← hK0] at HG hml
            rw [← hl0] at hml
            have hmo := Lib.hid (HG.out.mo rfl)
            have c2' := HG.out.cb.cell 2 rfl
            have f2' := HG.out.cb.frozen 2
            have hs4 := HG.out.h2
            have hmo2 := Lib.hid (show w4.ownsRow w2.heap.size 3 1 vm l0 (K0.map (Value.int .i64)) by rw [HL0.out]; exact hmo.out)
            clear hK0 hl0
            go_wp2_with (at_builtin; refine wpList_append_own _ rfl _ _ 22 rfl w2.heap.size 3 iI (.int .i64 0) 1 8 Try.underlying22 iI0 iI1 iI2 iI3 rfl (by decide) _ _ _ rfl (hmo2.out.alloc _) ⟨w4.heap.size, 0, none⟩ 1 1 [.int .i64 (j : Int)] rfl rfl (news_one (by simp)) (by intro u hu; simp at hu; subst hu; rfl) (by unfold maxLen; omega) (by omega) (by simp; omega) ?_)
            intro v5 w5 hown5 hgrow5 _
            have hown6 : Own w5 w2.heap.size v5 (K0 ++ [(j : Int)]) := by unfold Own; rw [List.length_append, ← HL0.out]; simpa using hown5
            obtain ⟨A5, c5, hv5, _, _, _⟩ := own_rdc hown6
            rw [show (K0 ++ [(j : Int)]).length = l0 + 1 by simp [HL0.out]] at hv5
            subst hv5
            have hba := HG.out.alloc (.cells #[.int .i64 (j : Int)] 3)
            have hcb := Lib.hid (hba.cb.grown hgrow5 (fun e => hba.neM e.symm))
            have hbd6 := Lib.hid (Bd.mark hba hgrow5 hown6)
            rw [← hyes.out] at hbd6
            have c2' := hcb.out.cell 2 rfl
            have f2' := hcb.out.frozen 2
            clear hown5 hown6 hgrow5 hba
            go_wp2_with fail
            go_meet
            case rel => exact ⟨rfl, _, hbd6⟩
        case rest =>
          clear hbd hbdd p0 p1 p2 p3 cf hml HM
          obtain ⟨rfl, vm, hbd⟩ := hcut
          go_wp2_with fail
          go_loopw [6] (fun i wx => ∃ (t : Nat) (ve : Value), t ≤ n ∧ i = .int .i64 t ∧ Hid (Bd w2 w2.heap.size w2.heap.size true true (.slice Ac n cc) (L : Int) wx (canMn a (j + 1)) vm (canEn a j ++ outK a j t) ve)) (fun i _ => n - (intOf i).toNat)
          case atStart => exact ⟨0, ve, Nat.zero_le _, rfl, by rw [outK_zero, List.append_nil]; exact hbd⟩
          case round =>
            clear hbd
            obtain ⟨t, ve, htn, rfl, hbd⟩ := hrel
            obtain ⟨p0, p1, p2, p3⟩ := CB.out wr hbd.out.bel
            have cf := CF.out wr hbd.out.bel
            by_cases htl : t < n
            · obtain ⟨bA, oA, rfl, hbA, hcA⟩ := HR.out.al (by rw [HR.out.hn]; omega)
              have hz' : t < a.al.length := by rw [HR.out.hn]; exact htl
              obtain ⟨ev, hev⟩ : ∃ ev, ev = a.al.getD t 0 := ⟨_, rfl⟩
              have CA := Lib.hid (fun W (hW : Below w2.heap.size w2 W) => by
                have := ((hB2.out.trans (hW.mono hB2.out.size)).cell (p := ⟨bA, oA + t, none⟩) (Nat.lt_of_lt_of_le hbA HBw.out)).trans (hcA t hz')
                rw [← hev] at this; exact this)
              have ca := CA.out wr hbd.out.bel
              obtain ⟨es, hes⟩ : ∃ es, es = canEn a j ++ outK a j t := ⟨_, rfl⟩
              have hel : es.length ≤ k := by rw [hes, ← HR.out.hk]; exact outK_len HRI.out (by rw [← HFL.out, ← HLn.out]; exact hjl)
              rw [← hes] at hbd
              have HES := Lib.hid hes
              have HEV := Lib.hid hev
              obtain ⟨tt, htt⟩ : ∃ tt, tt = stepI a q ev := ⟨_, rfl⟩
              have HTT := Lib.hid htt
              have HS := Lib.hid (fun W (hG : Bd w2 w2.heap.size w2.heap.size true true (.slice Ac n cc) (L : Int) W (canMn a (j + 1)) vm es ve) => (rStep_any (some ⟨bA, oA, none⟩) n c s M m d E k g a q ev B W (HR.out.below (hB2.out.trans (hG.bel.mono hB2.out.size)) HBw.out) (Nat.le_trans HBw.out (hB2.out.trans (hG.bel.mono hB2.out.size)).size)).mono (R' := fun e w' => e = .returned (.int .i64 tt) ∧ Bd w2 w2.heap.size w2.heap.size true true (.slice Ac n cc) (L : Int) w' (canMn a (j + 1)) vm es ve) fun e w' hh => ⟨by rw [hh.1, htt], hG.call hh.2⟩)
              have hbdd := Lib.hid hbd.out.drew
              have htz : (0 : Int) ≤ (t : Int) := by omega
              have htn2 : (t : Int) < (n : Int) := by omega
              have hqf : q = (fnd a).getD j 0 := by rw [HQ.out, HFL.out]
              have HQF := Lib.hid hqf
              clear hes hev htt hcA hqf
              go_wp2_with fail
              go_region_held3 (fun w' => w'.cell? ⟨w.heap.size, 0, none⟩ = some (.slice (some ⟨bA, oA, none⟩) n c) ∧ w'.cell? ⟨w.heap.size, 1, none⟩ = some (.int .i64 s) ∧ w'.cell? ⟨w.heap.size, 2, none⟩ = some (.slice M m d) ∧ w'.cell? ⟨w.heap.size, 3, none⟩ = some (.slice E k g) ∧ w'.cell? ⟨bF, oF + j, none⟩ = some (.int .i64 q) ∧ w'.cell? ⟨bA, oA + t, none⟩ = some (.int .i64 ev)) (first | with_reducible exact ⟨p0, p1, p2, p3, cf, ca⟩ | go_keep)
                (first
                | (go_simp; go_at_call 37; (first | with_reducible refine (HS.out _ hbd.out).mono ?_ | with_reducible refine (HS.out _ hbdd.out).mono ?_); rintro e w4 ⟨rfl, hG⟩
                   have HG := Lib.hid hG
                   have HGd := Lib.hid hG.drew
                   obtain ⟨p0, p1, p2, p3⟩ := CB.out _ hG.bel
                   have cf := CF.out _ hG.bel
                   have ca := CA.out _ hG.bel
                   clear hG))
              all_goals
                cases he : edgeO a.ed q ev with
                | none =>
                  have hto := stepI_no he
                  rw [← HTT.out] at hto
                  subst hto
                  have hnx := Lib.hid (show canEn a j ++ outK a j (t + 1) = es by rw [outK_none hz' (by rw [← HEV.out, ← HQF.out]; exact he), HES.out])
                  clear he
                  go_wp2_with fail
                  go_roundw
                  case rel => exact ⟨t + 1, _, by omega, by go_num, by rw [hnx.out]; first | exact HG | exact HGd⟩
                  case measure => simp [intOf]; omega
                | some x =>
                  have hto := stepI_of he
                  rw [← HTT.out] at hto
                  obtain ⟨hxm, hxf, hxe⟩ := (edgeO_some HRI.out.edo).1 he
                  have hxr := (HRI.out.edr x hxm).2.1
                  rw [← hto] at hxr
                  have hin : tt ∈ fl := by
                    rw [hto, HFL.out]
                    refine fnd_closed HRI.out (i := j) (by rw [← HFL.out, ← HLn.out]; exact hjl) (mem_succ.2 ⟨hxm, ?_⟩)
                    rw [hxf, HQF.out]
                  obtain ⟨ix, hix⟩ : ∃ ix, ix = fl.idxOf tt := ⟨_, rfl⟩
                  have hnx := Lib.hid (show canEn a j ++ outK a j (t + 1) = es ++ [⟨(j : Int), ev, (ix : Int)⟩] by rw [outK_some hz' (by rw [← HEV.out, ← HQF.out]; exact he), hxe, ← hto, ← HFL.out, ← hix, HES.out, List.append_assoc])
                  have hto0 : 0 ≤ tt := hxr.1
                  have HI := Lib.hid (fun W (hW : RdI W w2.heap.size (some ⟨bF, oF, none⟩) fl) => by
                    have := rIndex_any (some ⟨bF, oF, none⟩) L cF w2.heap.size fl tt W hW HLn.out.symm (by omega)
                    rw [idxI_in hin, ← hix] at this; exact this)
                  have HRF4 := Lib.hid (HRF2.out.below HG.out.bel (Nat.le_refl _))
                  have HRF4d := Lib.hid (show RdI w4.drew w2.heap.size (some ⟨bF, oF, none⟩) fl from RdI.keep HRF4.out fun b o _ => rfl)
                  have u0 := HG.out.cb.cell 3 rfl
                  have u3 := HG.out.cb.frozen 3
                  have hbl : w2.heap.size < w4.heap.size := HG.out.h2
                  have v0 := fun cs : Array Value => (World.cell?_alloc_lt w4 (.cells cs 67) ⟨w2.heap.size, 3, none⟩ hbl).trans u0
                  have v1 := fun cs : Array Value => (frozen?_alloc_cells w4 cs 67 ⟨w2.heap.size, 3, none⟩).trans u3
                  have hneV := HG.out.neE
                  have heo := Lib.hid (HG.out.eo rfl)
                  clear he hto hxm hxf hxe hxr hin hix
                  go_wp2_with fail
                  go_region_law (first
                    | (go_simp; go_at_call 67; (first | refine (HI.out w4.drew HRF4d.out).mono ?_ | refine (HI.out w4 HRF4.out).mono ?_); rintro e w7 ⟨rfl, rfl⟩)
                    | (refine step_append_lies _ (by rfl) (.tmp 56) (.tmp 67) _ (by rfl) w2.heap.size 67 iE (.agg #[.int .i64 0, .int .i64 0, .int .i64 0]) 3 24 Try.underlying23 iE0 iE1 iE2 iE3 rfl (by omega) ve es.length (encE es) (by rfl) (by first | exact (heo.out.alloc _).drew | exact (heo.out.alloc _)) ⟨w4.heap.size, 0, none⟩ 1 1 [.int .i64 (j : Int), .int .i64 ev, .int .i64 (ix : Int)] (by rfl) (by rfl) (World.news_of_block (cs := #[.int .i64 (j : Int), .int .i64 ev, .int .i64 (ix : Int)]) (t := 67) (fr := (0, 0)) (heap_alloc_new w4 _)) (by simp [Value.oneCell']) (by omega) (by unfold maxLen; omega) (by omega) (by simp; omega) (w4.heap.size + 1) (by simp) ?_; intro gG capG w6 hown6 hgrow6 hat6 hlt6; have hc6 := (hgrow6.cell_far ⟨w2.heap.size, 3, none⟩ (by simp; omega) hneV).trans (v0 _); have hf6 := (hgrow6.frozen_far ⟨w2.heap.size, 3, none⟩ (by simp; omega) hneV).trans (v1 _)))
                  all_goals
                    have hown7 : OwnE w6 w2.heap.size (.slice (some ⟨gG, 0, none⟩) (es.length + 1) capG) (es ++ [⟨(j : Int), ev, (ix : Int)⟩]) := by
                      unfold OwnE; rw [encE_app, List.length_append]; exact hown6
                    have hbd7 := Lib.hid (show Bd w2 w2.heap.size w2.heap.size true true (.slice Ac n cc) (L : Int) (w6.setCell ⟨w2.heap.size, 3, none⟩ (.slice (some ⟨gG, 0, none⟩) (es.length + 1) capG)) (canMn a (j + 1)) vm (es ++ [⟨(j : Int), ev, (ix : Int)⟩]) (.slice (some ⟨gG, 0, none⟩) (es.length + 1) capG) from by
                      first
                      | exact Bd.edge (HG.out.alloc _) hgrow6 hown7
                      | exact Bd.edge ((HG.out.alloc _).drew) hgrow6 hown7
                      | exact Bd.edge (HG.out.drew.alloc _) hgrow6 hown7)
                    rw [← hnx.out] at hbd7
                    clear hown7 hown6 hgrow6 hat6 hc6 hf6 hlt6
                    go_wp2_with fail
                    go_roundw
                    case measure => simp [intOf]; omega
                    case rel => exact ⟨t + 1, _, by omega, by go_num, by first | exact hbd7 | exact Lib.hid hbd7.out.drew⟩
            · obtain rfl : t = n := by omega
              rw [outK_all HRI.out HR.out.hn] at hbd
              go_wp2_with fail
              go_roundw
              case rel => exact ⟨j + 1, _, _, by omega, by go_num, hbd⟩
              case measure => simp [intOf]; omega
    · obtain rfl : j = L := by omega
      obtain ⟨M3, d3, rfl, hM1, hM2, hM3⟩ := own_rdc (hbd.out.mo rfl)
      obtain ⟨E3, g3, rfl, hE1, hE2, hE3⟩ := ownE_rd (hbd.out.eo rfl)
      have hMo := Lib.hid (own_from (hbd.out.mo rfl))
      have hEo := Lib.hid (own_from (hbd.out.eo rfl))
      have hRr := Lib.hid (hR2.out.below hbd.out.bel (by omega))
      have hjl2 := Lib.hid (show (fnd a).length = j by rw [HLn.out, HFL.out])
      have hml := canMn_len a j
      have hel := canEn_len a (n := j) (by rw [hjl2.out]; exact Nat.le_refl _)
      rw [HR.out.hk] at hel
      have hfin := Lib.hid (show AuF (canA a) (.agg #[.slice Ac n cc, .int .i64 (j : Int), .slice M3 (canMn a j).length d3, .slice E3 (canEn a j).length g3]) wr w1.heap.size from by
        have hca : canA a = ⟨a.al, (j : Int), canMn a j, canEn a j⟩ := by unfold canA canM; rw [hjl2.out]; rfl
        rw [hca]
        exact ⟨Ac, n, cc, (j : Int), M3, _, d3, E3, _, g3, rfl,
          { al := (HCL.out.below hbd.out.bel (Nat.le_refl _)).more hbd.out.bel.size, mr := hM1, ed := hE1, hn := HR.out.hn, hm := rfl, hk := rfl, st := rfl, cn := ⟨hc1, hc2⟩, cm := ⟨hM2, hM3⟩, ck := ⟨hE2, hE3⟩, bn := HR.out.bn, bm := by omega, bk := by omega },
          HAC.out, fun b o f e => by have := hMo.out b o f e; omega, fun b o f e => by have := hEo.out b o f e; omega⟩)
      have d0 := hbd.out.cb.cell 0 rfl
      have d1 := hbd.out.cb.cell 1 rfl
      have d2' := hbd.out.cb.cell 2 rfl
      have d3' := hbd.out.cb.cell 3 rfl
      have r0 := hRr.out.cell 0 rfl
      have r1 := hRr.out.cell 1 rfl
      have r2 := hRr.out.cell 2 rfl
      have r3 := hRr.out.cell 3 rfl
      have z0 := hRr.out.frozen 0
      have z1 := hRr.out.frozen 1
      have z2 := hRr.out.frozen 2
      have z3 := hRr.out.frozen 3
      clear hM1 hE1
      go_wp2_with fail
      (try simp only [Exit.inBlock, Exit.then])
      refine bodyPost_ret (v := .agg #[.slice Ac n cc, .int .i64 (j : Int), .slice M3 (canMn a j).length d3, .slice E3 (canEn a j).length g3]) ?_ rfl ⟨_, rfl, ?_, ?_⟩
      · rw [results_cell1 rfl]
        go_simp
      · exact (hfin.out.set4 (by omega) _ _ _ _).more (by omega)
      · exact below_set4 (hB2.out.trans (hbd.out.bel.mono hB2.out.size)) (by omega) _ _ _ _
end Go.Proofs.Ytcciiikaejjooaa
