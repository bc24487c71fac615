/- Texts merged: what follows were texts of their own. -/
import Derived.Test.YtedleffmbddccaaDoorZa6
import Derived.Carry
import Derived.Test.YtedleffmbddccaaDoorZa3
import Derived.BigQuiet
set_option linter.unusedVariables false
set_option linter.unusedSimpArgs false
set_option linter.unusedSectionVars false
/- Layer 6: explore. -/
namespace Go.Proofs.YtedleffmbddccaaDoor
open Go.RowKit Go.Sort Go.Maps

theorem fnd_start (w : World) : Fnd (((w.alloc (.cells #[.slice none 0 0] 88)).alloc (.map #[] 0)).alloc (.cells #[.map (some (w.heap.size + 1))] 113)) w.heap.size (w.heap.size + 1 + 1) (w.heap.size + 1) w.heap.size (.slice none 0 0) [] where
  nu := by
    have := Row.new ((w.alloc (.cells #[.slice none 0 0] 88)).alloc (.map #[] 0)) [.map (some (w.heap.size + 1))] 113
    simpa using this
  fo := ((Row.new w [.slice none 0 0] 88).alloc _).alloc _
  mp := by
    have := (World.ownsMap_made (w.alloc (.cells #[.slice none 0 0] 88)) Tryd.prog 92 (plainElem (H := Unit) Tryd.prog 3)).alloc (.cells #[.map (some (w.heap.size + 1))] 113)
    rw [show (mpT [] : DataW Unit) = .map [] from rfl]
    simpa using this
  ow := World.ownsRow_nil _ _ _ _
  ok := by simp
  nd := List.nodup_nil
  hb := by simp; omega
theorem bel_start (w : World) : Below w.heap.size w (((w.alloc (.cells #[.slice none 0 0] 88)).alloc (.map #[] 0)).alloc (.cells #[.map (some (w.heap.size + 1))] 113)) :=
  (((Below.refl _ w).alloc (Nat.le_refl _) _).alloc (by simp) _).alloc (by simp; omega) _
theorem kp_below {w w' : World} {F M B : Nat} (hk : Kp w w' F M (.slice none 0 0)) (hF : B ≤ F) (hM : B ≤ M) (hB : B ≤ w.heap.size) : Below B w w' :=
  ⟨hk.os, hk.tape, hk.output, hk.size, fun k h => hk.block k (by omega) (by omega) (by omega) (by simp [Value.ownBlock])⟩
theorem info_edgeE : ∃ iE, Tryd.prog.info? 58 = some iE ∧ iE.zero = some (.agg #[.int .i64 0, .int .i64 0, .int .i64 0]) ∧ iE.size = 3 ∧ iE.bytes = 24 := by
  cases hi : Tryd.prog.info? 58 with
  | none => have := info_edge; rw [hi] at this; cases this
  | some iE =>
    have := info_edge; rw [hi] at this
    simp only [Option.map_some, Option.some.injEq, Prod.mk.injEq] at this
    exact ⟨iE, rfl, this⟩
theorem ini_pos {l : List Au} (h : ∀ a ∈ l, RightW a) : iniB l = posT l := by
  rw [Bool.eq_iff_iff, iniB_iff, posT, List.all_eq_true]
  constructor
  · intro hh a ha; have := hh a ha; have := (h a ha).st0; simp; omega
  · intro hh a ha; have := hh a ha; simp at this; omega

set_option maxHeartbeats 8000000 in
set_option maxRecDepth 100000 in
theorem pExplore_any (A : Option Addr) (n c : Nat) (l : List Au) (w : World) (h : RdAs w w.heap.size A l) (hn : l.length = n) (hn12 : n ≤ 12) (hr : ∀ a ∈ l, RightW a) (hs : ∀ a ∈ l, a.st ≤ 9223372036854775807) :
    Calls Tryd.prog 48 #[.slice A n c] w fun e w' => Below w.heap.size w w' ∧ ((4096 < (fnd (prodA l)).length ∧ e = .returned (.tuple #[.slice none 0 0, .slice none 0 0, .int .i64 3])) ∨
      ((fnd (prodA l)).length ≤ 4096 ∧ ∃ v ve, e = .returned (.tuple #[v, ve, .int .i64 0]) ∧ OwnT w' w.heap.size v ((fnd (prodA l)).map (tp l)) ∧ OwnE w' w.heap.size ve (canEn (prodA l) (fnd (prodA l)).length))) := by
  have HL := Lib.hid h
  have HN := Lib.hid hn
  have HRI := Lib.hid hr
  have HIni := Lib.hid (fun W (hW : RdAs W W.heap.size A l) => pIni_any A n c l W.heap.size W hW (Nat.le_refl _) hn (by omega))
  have HLB := Lib.hid (fun W (hW : Below w.heap.size w W) => (h.below hW (Nat.le_refl _)).more hW.size)
  have HB3 := Lib.hid (bel_start w)
  have hmm := run_makeMap (P := Tryd.prog) 113
  cases hp : iniB l
  · rw [hp] at HIni
    rw [ini_pos hr] at hp
    have hfn : fnd (prodA l) = [] := by rw [fnd, if_pos (by rw [prod_st0 hp]; omega)]
    have HFN := Lib.hid hfn
    have HF0 := Lib.hid (fun W (hW : Below _ _ W) => (fnd_start w).below (w' := W) hW)
    clear h hn hr hs hp hfn
    go_enter Tryd.func48, Tryd.ntmps48
    go_wp2_with fail
    refine (HIni.out _ (HLB.out _ HB3.out)).mono ?_
    rintro e w4 ⟨rfl, hb4⟩
    have HFn4 := Lib.hid (HF0.out w4 hb4)
    have HB4 := Lib.hid (HB3.out.trans (hb4.mono HB3.out.size))
    have HEv := Lib.hid (pEvents_own A n c l w4.heap.size w4 (HLB.out _ HB4.out) (Nat.le_refl _) HN.out (by omega) HRI.out)
    clear hb4 HF0 HIni HB3
    go_wp2_with fail
    refine HEv.out.mono ?_
    rintro e w6 ⟨Ax, cx, rfl, ho6, hb6⟩
    have HB6 := Lib.hid (HB4.out.trans (hb6.mono HB4.out.size))
    have HFn6 := Lib.hid (HFn4.out.below hb6)
    clear ho6 hb6 HEv HB4 HFn4
    go_wp2_with fail
    refine (pStepsOf_any A n c w6).mono ?_
    rintro e w7 ⟨rfl, rfl⟩
    have HB7 := Lib.hid (HB6.out.alloc HB6.out.size (.cells #[.slice A n c] 22))
    have HF7 := Lib.hid (HFn6.out.below ((Below.refl _ w6).alloc (Nat.le_refl _) (.cells #[.slice A n c] 22)))
    obtain ⟨bs, hbs⟩ : ∃ bs, bs = w6.heap.size := ⟨_, rfl⟩
    rw [← hbs]
    clear HFn6 HB6 hbs
    generalize (w6.alloc (.cells #[.slice A n c] 22)) = w7 at *
    go_wp2_with fail
    go_loopw [8, 11] (fun ve i wr => ve = .slice none 0 0 ∧ i = .int .i64 0 ∧ wr = w7) (fun _ _ _ => 0)
    case atStart => exact ⟨rfl, rfl, rfl⟩
    case round =>
      obtain ⟨rfl, rfl, rfl⟩ := hrel
      have hF := HF7.out.fo.cell 0 rfl
      go_wp2_with fail
      go_ret3
      exact ⟨HB7.out, .inr ⟨by rw [HFN.out]; simp, _, _, rfl, by rw [HFN.out]; exact World.ownsRow_nil _ _ _ _, by rw [HFN.out]; exact World.ownsRow_nil _ _ _ _⟩⟩
  · rw [hp] at HIni
    rw [ini_pos hr] at hp
    have HPO := Lib.hid hp
    have HPR := Lib.hid (prod_right hr)
    have HST0 := Lib.hid (show 0 < (prodA l).st by rw [prod_st hp]; exact prT_pos (posT_iff.1 hp))
    have HVAL := Lib.hid (fun x => tp_val hp (by rw [hn]; exact hn12) hs x)
    have HZ := Lib.hid (show tp l 0 = zeroT from tp_zero (by rw [hn]; exact hn12))
    have HF0 := Lib.hid (fun W (hW : Below _ _ W) => (fnd_start w).below (w' := W) hW)
    have HNum0 := Lib.hid (fun W hW => pNumber_any w.heap.size (w.heap.size + 1 + 1) (w.heap.size + 1) w.heap.size (.slice none 0 0) [] zeroT W hW (by rw [← HZ.out]; exact HVAL.out 0) (by simp))
    rw [zeroT_enc] at HNum0
    clear h hn hr hs hp
    go_enter Tryd.func48, Tryd.ntmps48
    go_wp2_with fail
    refine (HIni.out _ (HLB.out _ HB3.out)).mono ?_
    rintro e w4 ⟨rfl, hb4⟩
    have HFn4 := Lib.hid (HF0.out w4 hb4)
    have HB4 := Lib.hid (HB3.out.trans (hb4.mono HB3.out.size))
    clear hb4 HF0 HIni HB3
    go_wp2_with fail
    refine (HNum0.out _ HFn4.out).mono ?_
    rintro e w5 ⟨rfl, v5, hf5, hk5⟩
    have HB5 := Lib.hid (HB4.out.trans (kp_below hk5 (Nat.le_refl _) (by omega) HB4.out.size))
    have HFn5 := Lib.hid (show Fnd w5 w.heap.size (w.heap.size + 1 + 1) (w.heap.size + 1) w.heap.size v5 ((Fd (prodA l) 0).map (tp l)) by
      have e : (Fd (prodA l) 0).map (tp l) = addT [] zeroT := by rw [Fd, ← HZ.out]; rfl
      rw [e]; exact hf5)
    have HEv := Lib.hid (pEvents_own A n c l w5.heap.size w5 (HLB.out _ HB5.out) (Nat.le_refl _) HN.out (by omega) HRI.out)
    clear hf5 hk5 HB4 HFn4 HNum0
    go_wp2_with fail
    refine HEv.out.mono ?_
    rintro e w6 ⟨Ax, cx, rfl, ho6, hb6⟩
    obtain ⟨m, hm⟩ : ∃ m, m = (alT l).length := ⟨_, rfl⟩
    have HM := Lib.hid hm
    have HOX := Lib.hid (own_more ho6 HB5.out.size)
    rw [← hm] at HOX ⊢
    have HB6 := Lib.hid (HB5.out.trans (hb6.mono HB5.out.size))
    have HFn6 := Lib.hid (HFn5.out.below hb6)
    clear ho6 hb6 HEv HB5 HFn5 hm
    go_wp2_with fail
    refine (pStepsOf_any A n c w6).mono ?_
    rintro e w7 ⟨rfl, rfl⟩
    have HEX := Lib.hid (show EX w (w6.alloc (.cells #[.slice A n c] 22)) w6.heap.size A n c (alT l) v5 ((Fd (prodA l) 0).map (tp l)) (.slice none 0 0) (canEn (prodA l) 0) (.slice Ax m cx) from
      ⟨HB6.out.alloc HB6.out.size _, HFn6.out.below ((Below.refl _ w6).alloc (Nat.le_refl _) _), Row.new w6 [.slice A n c] 22, World.ownsRow_nil _ _ _ _, by unfold Own; rw [← HM.out]; exact HOX.out.alloc _⟩)
    have hm32 : m ≤ 32 := by rw [HM.out]; exact alT_len HRI.out
    obtain ⟨bs, hbs⟩ : ∃ bs, bs = w6.heap.size := ⟨_, rfl⟩
    rw [← hbs] at HEX ⊢
    clear HFn6 HB6 HOX hbs
    generalize (w6.alloc (.cells #[.slice A n c] 22)) = w7 at *
    go_wp2_with fail
    go_loopw [8, 11] (fun ve i wr => ∃ (j : Nat) (v : Value), i = .int .i64 j ∧ Hid (j ≤ (Fd (prodA l) j).length) ∧ Hid ((Fd (prodA l) j).length ≤ 4096) ∧ Hid (EX w wr bs A n c (alT l) v ((Fd (prodA l) j).map (tp l)) ve (canEn (prodA l) j) (.slice Ax m cx))) (fun _ i _ => 5000 - (intOf i).toNat)
    case atStart => exact ⟨0, v5, rfl, Lib.hid (Nat.zero_le _), Lib.hid (by simp [Fd]), HEX⟩
    case round =>
      clear HEX
      obtain ⟨j, v, rfl, hjl, hj4, hex⟩ := hrel
      obtain ⟨L, hL⟩ : ∃ L, L = (Fd (prodA l) j).length := ⟨_, rfl⟩
      have HLn := Lib.hid hL
      obtain ⟨Av, cv, hv⟩ := own_shapeT hex.out.fn.ow
      rw [List.length_map, ← hL] at hv
      subst hv
      have hF := hex.out.fn.fo.cell 0 rfl
      have hjL : j ≤ L := by rw [hL]; exact hjl.out
      have hL4 : L ≤ 4096 := by rw [hL]; exact hj4.out
      clear hL hjl hj4
      by_cases hlt : j < L
      · obtain ⟨q, hq⟩ : ∃ q, q = (Fd (prodA l) j).getD j 0 := ⟨_, rfl⟩
        have HQ := Lib.hid hq
        have hqr : 0 ≤ q ∧ q < (prodA l).st := by
          rw [hq]
          refine Fd_range HPR.out HST0.out j _ ?_
          have h1 : j < (Fd (prodA l) j).length := by rw [← HLn.out]; exact hlt
          rw [List.getD, List.getElem?_eq_getElem h1]; exact List.getElem_mem _
        have HQR := Lib.hid hqr
        have hqf : (fnd (prodA l)).getD j 0 = q := by rw [hq]; exact getD_pre (Fd_fnd HPR.out HST0.out j) (by rw [← HLn.out]; exact hlt)
        have HQF := Lib.hid hqf
        have hszq := Lib.hid (show (Tryd.prog.info? 92).map (·.size) = some (encT (tp l q)).length by rw [states_size, encT_len, (HVAL.out q).1])
        have hzp := Lib.hid (fun k => visK_pre HPR.out HST0.out (j := j) (k := k) (by rw [← HLn.out]; exact hlt) hq)
        have hjz : (0 : Int) ≤ (j : Int) := by omega
        have hjLz : (j : Int) < (L : Int) := by omega
        clear hq hqr hqf
        go_wp2_with fail
        go_loopw [8, 35] (fun ve i wx => ∃ (k : Nat) (v : Value), i = .int .i64 k ∧ k ≤ m ∧ Hid (EX w wx bs A n c (alT l) v ((visitL (Fd (prodA l) j) (succK (prodA l) q k)).map (tp l)) ve (canEn (prodA l) j ++ outK (prodA l) j k) (.slice Ax m cx))) (fun _ i _ => m - (intOf i).toNat)
        case atStart => exact ⟨0, _, rfl, Nat.zero_le _, by rw [succK_zero, visitL_nil, outK_zero, List.append_nil]; exact hex⟩
        case round =>
          clear hex hF
          obtain ⟨k, v, rfl, hkm, hex⟩ := hrel
          obtain ⟨fl, hfl⟩ : ∃ fl, fl = visitL (Fd (prodA l) j) (succK (prodA l) q k) := ⟨_, rfl⟩
          rw [← hfl] at hex
          obtain ⟨L2, hL2⟩ : ∃ L2, L2 = fl.length := ⟨_, rfl⟩
          have HFL := Lib.hid hfl
          have HL2 := Lib.hid hL2
          obtain ⟨es, hes⟩ : ∃ es, es = canEn (prodA l) j ++ outK (prodA l) j k := ⟨_, rfl⟩
          have HES := Lib.hid hes
          rw [← hes] at hex
          have hpre : Fd (prodA l) j <+: fl := by rw [hfl]; exact visitL_pre _ _
          have hLL : L ≤ L2 := by have := hpre.length_le; rw [← HLn.out, ← hL2] at this; exact this
          have hal : (prodA l).al.length = m := by rw [HM.out]; rfl
          have hL2b : L2 ≤ 4096 + 32 := by
            have h1 := visitL_len (succK (prodA l) q k) (Fd (prodA l) j)
            have h2 := succK_len (prodA l) q k
            rw [hal] at h2
            rw [← HLn.out, ← hfl, ← hL2] at h1
            omega
          have hfq : fl.getD j 0 = q := by rw [HQ.out]; exact getD_pre hpre (by rw [← HLn.out]; exact hlt)
          clear hfl hes
          by_cases hlk : k < m
          · obtain ⟨Av2, cv2, hv⟩ := own_shapeT hex.out.fn.ow
            rw [List.length_map, ← hL2] at hv
            subst hv
            obtain ⟨g2, rfl⟩ : ∃ g2, Av2 = some ⟨g2, 0, none⟩ := by
              rcases hex.out.fn.ow.2 with ⟨h1, h2⟩ | ⟨g, cap, cur, h1, _⟩
              · rw [List.length_map, ← hL2] at h2; omega
              · injection h1 with h1; exact ⟨g, h1⟩
            have hF := hex.out.fn.fo.cell 0 rfl
            have HST := Lib.hid (show StAt wr g2 (j * 12) (tp l q) by
              have h1 := hex.out.fn.ow
              unfold OwnT at h1
              rw [List.length_map, ← hL2] at h1
              have h2 := ownT_at h1 hex.out.fn.ok (i := j) (by rw [List.length_map, ← hL2]; omega) (by rw [List.length_map, hL2])
              rw [List.getD, List.getElem?_map] at h2
              have h3 : fl[j]? = some q := by
                rw [List.getElem?_eq_getElem (by omega)]
                rw [List.getD, List.getElem?_eq_getElem (by omega)] at hfq
                simpa using hfq
              rw [h3] at h2; exact h2)
            have hkl : k < (alT l).length := by rw [← HM.out]; exact hlk
            obtain ⟨gx, rfl⟩ : ∃ gx, Ax = some ⟨gx, 0, none⟩ := by
              rcases hex.out.evs.2 with ⟨h1, h2⟩ | ⟨g, cap, cur, h1, _⟩
              · omega
              · injection h1 with h1; exact ⟨g, h1⟩
            obtain ⟨ev, hev⟩ : ∃ ev, ev = (alT l).getD k 0 := ⟨_, rfl⟩
            have HEV := Lib.hid hev
            have hce : wr.cell? ⟨gx, k, none⟩ = some (.int .i64 ev) := by
              have h1 := hex.out.evs
              unfold Own at h1
              rw [← HM.out] at h1
              rw [World.ownsRow.cellAt h1 k (by omega), List.getElem?_map, List.getElem?_eq_getElem hkl, hev]
              simp [List.getD, List.getElem?_eq_getElem hkl]
            have hevm : ev ∈ alT l := by rw [hev, List.getD, List.getElem?_eq_getElem hkl]; exact List.getElem_mem _
            have HStep := Lib.hid (pStep1_any A n c l (tp l q) ev bs wr (HLB.out _ hex.out.bel) HN.out hn12 HRI.out (HVAL.out q).1 hex.out.stp.lt (hex.out.stp.cell 0 rfl))
            have HLK := Lib.hid (link HRI.out HPO.out HQR.out hevm)
            have hrr := Lib.hid (rfG_range l 0 (tp l q) ev (by rw [HN.out]; omega))
            obtain ⟨T2, hT2⟩ : ∃ T2, T2 = stG l 0 (tp l q) ev := ⟨_, rfl⟩
            obtain ⟨rs, hrs⟩ : ∃ rs, rs = rfG l 0 (tp l q) ev := ⟨_, rfl⟩
            rw [← hT2, ← hrs] at HStep HLK
            rw [← hrs] at hrr
            have HT2 := Lib.hid (show T2.length = 12 by rw [hT2, stG_len]; exact (HVAL.out q).1)
            clear hT2 hrs hevm hev
            have hj2 : (j : Int) < (L2 : Int) := by omega
            have hkz : (0 : Int) ≤ (k : Int) := by omega
            have hkm2 : (k : Int) < (m : Int) := by omega
            go_wp2_with (first | refine wpList_load_mid rfl 92 (.tmp 43) rfl g2 (j * 12) rfl (encT (tp l q)) _ HST.out.2 Tryd.underlying92 rfl hszq.out ?_)
            refine HStep.out.mono ?_
            rintro e w8 ⟨rfl, hb8⟩
            have hex8 := Lib.hid (hex.out.call hb8)
            clear hb8 HStep HST hex hF hce
            have hold := Lib.hid (Row.new w8 (encT zeroT) 92)
            have hone := Lib.hid (encT_one T2)
            have hsz2 := Lib.hid (show (Tryd.prog.info? 92).map (·.size) = some (encT T2).length by rw [states_size, encT_len, HT2.out])
            have HEX9 := Lib.hid (hex8.out.call (below_setRow ((Below.refl w8.heap.size w8).alloc (Nat.le_refl _) (.cells (encT zeroT).toArray 92)) (Nat.le_refl _) (encT T2).toArray))
            have HR9 := Lib.hid (setRow_heap (w8.alloc (.cells (encT zeroT).toArray 92)) w8.heap.size _ (encT T2).toArray _ _ hold.out)
            rw [zeroT_enc] at hold HEX9 HR9
            obtain ⟨mk, hmk⟩ : ∃ mk, mk = maskZ rs := ⟨_, rfl⟩
            rw [← hmk]
            have hz9 : w8.heap.size < ((w8.alloc (.cells #[.int .i64 0, .int .i64 0, .int .i64 0, .int .i64 0, .int .i64 0, .int .i64 0, .int .i64 0, .int .i64 0, .int .i64 0, .int .i64 0, .int .i64 0, .int .i64 0] 92)).setRow w8.heap.size (encT T2).toArray).heap.size := by
              exact (show Row _ _ _ _ from HR9.out).lt
            have hkal : k < (prodA l).al.length := by rw [hal]; exact hlk
            rcases HLK.out with ⟨hnil, t, hed, htr, hT⟩ | ⟨hne, hed⟩
            · obtain rfl : mk = 0 := by rw [hmk, hnil]; rfl
              have hvis : visitL (Fd (prodA l) j) (succK (prodA l) q (k + 1)) = visit fl t := by
                rw [succK_some hkal (x := ⟨q, ev, t⟩) (by rw [show (prodA l).al = alT l from rfl, ← HEV.out]; exact hed), visitL_snoc, ← HFL.out]
              have hpr1 := hzp.out (k + 1)
              rw [hvis] at hpr1
              have hrange : ∀ y ∈ visit fl t, 0 ≤ y ∧ y < prT (stsT l) := fun y hy => by
                have := fnd_range HPR.out y (hpr1.subset hy)
                rwa [prod_st HPO.out] at this
              rw [prod_st HPO.out] at htr
              have hadd := addT_map (f := tp l) (x := t) (fl := fl) (fun y hy e => tp_inj HPO.out (hrange y (mem_visit.2 (.inl hy))) htr e)
              have hidx : (visit fl t).idxOf t = (fnd (prodA l)).idxOf t := (idx_pre hpr1 (mem_visit.2 (.inr rfl))).symm
              obtain ⟨I, hI⟩ : ∃ I, I = (fnd (prodA l)).idxOf t := ⟨_, rfl⟩
              have HNum := Lib.hid (pNumber_any w.heap.size (w.heap.size + 1 + 1) (w.heap.size + 1) w.heap.size _ _ T2 _ HEX9.out.fn (by rw [hT]; exact HVAL.out t) (by rw [List.length_map, ← HL2.out]; omega))
              rw [hT, hadd.1, hadd.2, hidx, ← hI, ← hT] at HNum
              have hout : canEn (prodA l) j ++ outK (prodA l) j (k + 1) = es ++ [⟨(j : Int), ev, (I : Int)⟩] := by
                rw [outK_some hkal (x := ⟨q, ev, t⟩) (by rw [HQF.out, show (prodA l).al = alT l from rfl, ← HEV.out]; exact hed), ← List.append_assoc, ← HES.out, hI]
              have HVIS := Lib.hid hvis
              have HOUT := Lib.hid hout
              have HST9 := Lib.hid (StAt.row HT2.out (show Row _ _ _ _ from HR9.out))
              clear hmk hnil hed htr hT hvis hpr1 hrange hadd hidx hI hout HLK hex8 HR9 hrr
              go_wp2_with (first
                | refine wpList_store_row rfl 92 (.tmp 14) (.tmp 47) rfl w8.heap.size (encT T2).toArray rfl rfl 92 (encT zeroT).toArray hold.out (by simpa using hsz2.out) (by simp [encT_len, HT2.out, zeroT]) hone.out ?_
                | refine wpList_load_mid rfl 92 (.tmp 14) rfl w8.heap.size 0 rfl (encT T2) _ HST9.out.2 Tryd.underlying92 rfl hsz2.out ?_)
              refine HNum.out.mono ?_
              rintro e w10 ⟨rfl, v10, hf10, hk10⟩
              have HEX10 := Lib.hid (HEX9.out.num hf10 hk10)
              clear hf10 hk10 HNum HEX9 HST9 hold hz9
              obtain ⟨iE, iE0, iE1, iE2, iE3⟩ := info_edgeE
              have hel : es.length ≤ 140000 := by
                have h1 := canEn_le HPR.out j
                have h2 := succK_len (prodA l) ((fnd (prodA l)).getD j 0) k
                have h3 : (outK (prodA l) j k).length ≤ (prodA l).al.length := by unfold outK; rw [List.length_map]; exact h2
                rw [HES.out, List.length_append]
                rw [hal] at h1 h3
                have h4 : j * m ≤ 4096 * 32 := Nat.mul_le_mul (by omega) hm32
                omega
              have hesb := HEX10.out.edg
              unfold OwnE at hesb
              have HEB := Lib.hid hesb
              clear hesb
              go_wp2_with (at_builtin; refine wpList_append_own _ rfl (.tmp 51) (.tmp 58) 32 rfl w.heap.size 58 iE (.agg #[.int .i64 0, .int .i64 0, .int .i64 0]) 3 24 Tryd.underlying32 iE0 iE1 iE2 iE3 rfl (by omega) _ es.length (encE es) rfl (HEB.out.alloc _) ⟨w10.heap.size, 0, none⟩ 1 1 [.int .i64 (j : Int), .int .i64 ev, .int .i64 (I : Int)] rfl rfl (World.news_of_block (cs := #[.int .i64 (j : Int), .int .i64 ev, .int .i64 (I : Int)]) (t := 58) (fr := (0, 0)) (heap_alloc_new w10 _)) (by simp [Value.oneCell']) (by unfold maxLen; omega) (by omega) (by have := HEX10.out.bel.size; simp; omega) ?_; intro ve11 w11 ho11 hg11 _)
              have HEX11 := Lib.hid (HEX10.out.edge (es' := es ++ [⟨(j : Int), ev, (I : Int)⟩]) hg11 (by unfold OwnE; rw [encE_app, List.length_append]; exact ho11))
              clear ho11 hg11 HEX10 HEB
              go_wp2_with fail
              go_roundw
              case rel => exact ⟨k + 1, v10, by go_num, by omega, by rw [HVIS.out, HOUT.out]; exact HEX11⟩
              case measure => simp [intOf]; omega
            · have hm0 : (mk == 0) = false := by
                obtain ⟨mm, h1, _, h3⟩ := maskZ_pos rs hrr.out
                rw [hmk, h1]
                have := h3 hne
                simp; omega
              have HVIS := Lib.hid (show visitL (Fd (prodA l) j) (succK (prodA l) q (k + 1)) = fl by rw [succK_none hkal (by rw [show (prodA l).al = alT l from rfl, ← HEV.out]; exact hed), ← HFL.out])
              have HOUT := Lib.hid (show canEn (prodA l) j ++ outK (prodA l) j (k + 1) = es by rw [outK_none hkal (by rw [HQF.out, show (prodA l).al = alT l from rfl, ← HEV.out]; exact hed), ← HES.out])
              clear hmk hne hed HLK hex8 HR9 hrr
              go_wp2_with (first
                | refine wpList_store_row rfl 92 (.tmp 14) (.tmp 47) rfl w8.heap.size (encT T2).toArray rfl rfl 92 (encT zeroT).toArray hold.out (by simpa using hsz2.out) (by simp [encT_len, HT2.out, zeroT]) hone.out ?_)
              go_roundw
              case rel => exact ⟨k + 1, _, by go_num, by omega, by rw [HVIS.out, HOUT.out]; exact HEX9⟩
              case measure => simp [intOf]; omega
          · obtain rfl : k = m := by omega
            have hFs : fl = Fd (prodA l) (j + 1) := by
              rw [HFL.out, succK_all HPR.out hal, Fd_go (by rw [← HLn.out]; exact hlt), HQ.out]
            have hEs : es = canEn (prodA l) (j + 1) := by rw [HES.out, outK_all HPR.out hal]
            rw [hFs, hEs] at hex
            rw [hFs] at hL2
            have HL3 := Lib.hid hL2
            have hj1 := Lib.hid (show j + 1 ≤ (Fd (prodA l) (j + 1)).length by rw [← hL2]; omega)
            obtain ⟨Av2, cv2, hv⟩ := own_shapeT hex.out.fn.ow
            rw [List.length_map, ← hL2] at hv
            subst hv
            have hF := hex.out.fn.fo.cell 0 rfl
            clear hFs hEs hL2 hpre hfq
            by_cases hbig : 4096 < L2
            · have hbz : (4096 : Int) < (L2 : Int) := by omega
              have hfl := (Fd_fnd HPR.out HST0.out (j + 1)).length_le
              rw [← HL3.out] at hfl
              have HBG := Lib.hid (show 4096 < (fnd (prodA l)).length by omega)
              clear hbig hfl
              go_wp2_with fail
              go_ret3
              exact ⟨hex.out.bel, .inl ⟨HBG.out, rfl⟩⟩
            · have hbz : ¬ (4096 : Int) < (L2 : Int) := by omega
              have HSM := Lib.hid (show (Fd (prodA l) (j + 1)).length ≤ 4096 by rw [← HL3.out]; omega)
              clear hbig
              go_wp2_with fail
              go_roundw
              case rel => exact ⟨j + 1, _, by go_num, hj1, HSM, hex⟩
              case measure => simp [intOf]; omega
      · obtain rfl : j = L := by omega
        have hfn : fnd (prodA l) = Fd (prodA l) j := fnd_at HPR.out HST0.out (by rw [← HLn.out]; exact Nat.le_refl _) (by
          have := Fd_len HPR.out HST0.out j
          rw [← HLn.out] at this; exact this)
        have HFN := Lib.hid hfn
        clear hfn
        go_wp2_with fail
        go_ret3
        have hlen : (fnd (prodA l)).length = j := by rw [HFN.out]; exact HLn.out.symm
        exact ⟨hex.out.bel, .inr ⟨by rw [hlen]; exact hL4, _, _, rfl, by rw [HFN.out]; exact hex.out.fn.ow, by rw [hlen]; exact hex.out.edg⟩⟩
end Go.Proofs.YtedleffmbddccaaDoor

/- Layer 6: Synchronous: what its loop keeps; what it hands back. -/
namespace Go.Proofs.YtedleffmbddccaaDoor
open Go.RowKit Go.Sort Go.Maps

set_option maxHeartbeats 2000000 in
theorem pList_own (t : List Int) (n : Nat) (w : World) (ht : t.length = 12) (hn : n ≤ 12) :
    Calls Tryd.prog 50 #[.agg (encT t).toArray, .int .i64 (n : Int)] w fun e w' => GivesU w (t.take n) e w' := by
  have HB0 := Lib.hid ((Below.refl w.heap.size w).alloc (Nat.le_refl _) (.cells (encT t).toArray 92))
  have HR0 := Lib.hid (StAt.row ht (Row.new w (encT t) 92))
  have hl : (t.take n).length = n := by rw [List.length_take, ht]; omega
  have HRD := Lib.hid (show RdI (w.alloc (.cells (encT t).toArray 92)) (w.alloc (.cells (encT t).toArray 92)).heap.size (some ⟨w.heap.size, 0, none⟩) (t.take n) from fun _ => ⟨w.heap.size, 0, rfl, by simp, fun j hj => by
    rw [hl] at hj
    rw [HR0.out.cell (by omega)]
    simp [List.getD, show j < n from hj]⟩)
  have HC := Lib.hid (clone_own (some ⟨w.heap.size, 0, none⟩) n 12 (t.take n) _ HRD.out hl (by omega))
  have w0 : (n : Int) ≤ 12 := by omega
  have w1 : (0 : Int) ≤ (n : Int) := by omega
  have HLL := Lib.hid hl
  clear hl ht
  go_enter Tryd.func50, Tryd.ntmps50
  go_wp2_with fail
  refine HC.out.mono ?_
  rintro e w1 ⟨v1, rfl, ho1, hb1⟩
  obtain ⟨A1, c1, rfl, _, _, _⟩ := own_rdc ho1
  have HO1 := Lib.hid (own_more ho1 HB0.out.size)
  have HB1 := Lib.hid (HB0.out.trans (hb1.mono HB0.out.size))
  clear ho1 hb1
  rw [HLL.out]
  go_wp2_with fail
  go_ret
  exact ⟨A1, c1, congrArg (fun k : Nat => Ending.returned (.slice A1 k c1)) HLL.out.symm, HO1.out, HB1.out⟩
theorem mkG_mid : ∀ (l : List Au) (pre qs z : List Int), qs.length = l.length → mkG l pre.length (pre ++ (qs ++ z)) = mkT l qs
  | [], _, [], _, _ => rfl
  | a :: l, pre, q :: qs, z, h => by
    have hg : (pre ++ (q :: qs ++ z)).getD pre.length 0 = q := by simp [List.getD]
    have ih := mkG_mid l (pre ++ [q]) qs z (by simpa using h)
    rw [List.length_append, List.length_singleton, List.append_assoc, List.singleton_append, ← List.cons_append] at ih
    rw [mkG, hg, ih, mkT]
theorem mk_tp {l : List Au} (hp : posT l = true) {x : Int} (hx : 0 ≤ x ∧ x < (prodA l).st) : mkG l 0 (tp l x) = decide (x ∈ (prodA l).mr) := by
  rw [prod_st hp] at hx
  have h1 := mkG_mid l [] (dcT (stsT l) x) (List.replicate (12 - l.length) 0) (dc_len hp x)
  simp only [List.nil_append, List.length_nil] at h1
  have h2 := prod_mark hp (dc_in x (posT_iff.1 hp))
  rw [cd_dc (posT_iff.1 hp) hx.1 hx.2] at h2
  rw [tp, h1, Bool.eq_iff_iff, decide_eq_true_eq]; exact h2.symm
theorem tp_take {l : List Au} (hp : posT l = true) (x : Int) : (tp l x).take l.length = dcT (stsT l) x := by
  rw [tp, List.take_left' (dc_len hp x)]
/-- What Synchronous hands back. -/
def synR (l : List Au) : (Au × List (List Int)) × Int :=
  if chkL l ≠ 0 then ((zeroA, []), chkL l) else if 4096 < (fnd (prodA l)).length then ((zeroA, []), 3) else ((canA (prodA l), (fnd (prodA l)).map (dcT (stsT l))), 0)
structure TL (w : World) (base : Nat) (vt : Value) (hs : List Hd) : Prop where
  row : w.ownsRow base 27 1 vt hs.length (hs.map Hd.enc)
  own : ∀ h ∈ hs, Own w base h.enc h.z
def GivesS (w : World) (r : (Au × List (List Int)) × Int) (e : Ending) (w' : World) : Prop :=
  ∃ v vt hs, e = .returned (.tuple #[v, vt, .int .i64 r.2]) ∧ AuF r.1.1 v w' w.heap.size ∧ TL w' w.heap.size vt hs ∧ hs.map Hd.z = r.1.2 ∧ Below w.heap.size w w'
/-- What the loop of Synchronous keeps. -/
structure SY (w wr : World) (N : Nat) (vf : Value) (ts : List (List Int)) (va : Value) (al : List Int) (ve : Value) (es : List Ed) (vm : Value) (ms : List Int) (vt : Value) (hs : List Hd) : Prop where
  bel : Below w.heap.size w wr
  bx : Row wr w.heap.size 34 [va, .int .i64 (N : Int), vm, ve]
  fo : OwnT wr (w.heap.size + 1) vf ts
  al : Own wr (w.heap.size + 1) va al
  eo : OwnE wr (w.heap.size + 1) ve es
  gl : GL wr (w.heap.size + 1) vt hs vm ms
  na : va.ownBlock = none ∨ va.ownBlock ≠ vm.ownBlock
  sz : w.heap.size + 1 ≤ wr.heap.size
section
variable {w wr w0 w1 w' : World} {N n : Nat} {vf va ve vm vm' vt vt' : Value} {ts : List (List Int)} {al ms : List Int} {es : List Ed} {hs : List Hd}
theorem SY.call (h : SY w wr N vf ts va al ve es vm ms vt hs) (hb : Below wr.heap.size wr w') : SY w w' N vf ts va al ve es vm ms vt hs :=
  ⟨h.bel.trans (hb.mono h.bel.size), h.bx.below hb h.bx.lt, own_below h.fo hb, own_below h.al hb, own_below h.eo hb, h.gl.below hb, h.na, Nat.le_trans h.sz hb.size⟩
theorem SY.alloc (h : SY w wr N vf ts va al ve es vm ms vt hs) (o : Obj) : SY w (wr.alloc o) N vf ts va al ve es vm ms vt hs := h.call ((Below.refl _ wr).alloc (Nat.le_refl _) o)
theorem SY.word {x : Hd} (h : SY w wr N vf ts va al ve es vm ms vt hs) (hb : Below wr.heap.size wr w0) (hx : Own w0 wr.heap.size x.enc x.z)
    (hr : w1.ownsRow (w.heap.size + 1) 27 1 vt' n (hs.map Hd.enc ++ [x.enc])) (hn : n = hs.length + 1) (hg : w0.grownBy w1 vt.ownBlock) : SY w w1 N vf ts va al ve es vm ms vt' (hs ++ [x]) := by
  have h0 := h.call hb
  have hz := h0.sz
  refine ⟨⟨hg.os.trans h0.bel.os, hg.tape.trans h0.bel.tape, hg.output.trans h0.bel.output, Nat.le_trans h0.bel.size hg.size, fun k hk => (hg.block k (by omega) (fun e => by have := (h0.gl.row.lt k e.symm).1; omega)).trans (h0.bel.block k hk)⟩, h0.bx.gr hg (fun e => row_ne_own h0.bx h0.gl.row (by decide) e.symm),
    own_row h0.fo hg (owns_ne h0.fo h0.gl.row (by decide)), own_row h0.al hg (owns_ne h0.al h0.gl.row (by decide)), own_row h0.eo hg (owns_ne h0.eo h0.gl.row (by decide)), h.gl.word hb hx h.sz hr hn hg, h.na, Nat.le_trans h0.sz hg.size⟩
theorem SY.mark {o : Obj} {x : Int} (h : SY w wr N vf ts va al ve es vm ms vt hs) (ho : Own w1 (w.heap.size + 1) vm' (ms ++ [x])) (hg : (wr.alloc o).grownBy w1 vm.ownBlock) (hs' : ∀ j, vm'.ownBlock = some j → vm.ownBlock = some j ∨ wr.heap.size ≤ j) :
    SY w (w1.setCell ⟨w.heap.size, 2, none⟩ vm') N vf ts va al ve es vm' (ms ++ [x]) vt hs := by
  have h0 := h.alloc o
  have hz := h0.sz
  have hlt : (⟨w.heap.size, 2, none⟩ : Addr).block < w.heap.size + 1 := Nat.lt_succ_self _
  have hbx : some w.heap.size ≠ vm.ownBlock := fun e => by have := (h0.gl.ends.lt _ e.symm).1; omega
  have hs2 : ∀ j, vm'.ownBlock = some j → vm.ownBlock = some j ∨ (wr.alloc o).heap.size ≤ j ∨ j = wr.heap.size := fun j hj => by
    rcases hs' j hj with h1 | h1
    · exact .inl h1
    · right; simp; omega
  have gl1 : GL w1 (w.heap.size + 1) vt hs vm' (ms ++ [x]) := by
    refine ⟨own_row h0.gl.row hg (owns_ne h0.gl.row h0.gl.ends (by decide)), fun y hy => own_row (h0.gl.own y hy) hg (h0.gl.ne y hy), ho, fun y hy => ?_⟩
    by_cases he : y.enc.ownBlock = none
    · exact .inl he
    · refine .inr fun e => ?_
      obtain ⟨j, hj⟩ := Option.ne_none_iff_exists'.1 he
      have h1 := ((h.gl.own y hy).lt j hj).2
      rcases hs' j (by rw [← e, hj]) with h2 | h2
      · rcases h.gl.ne y hy with h3 | h3
        · exact he h3
        · exact h3 (by rw [hj, h2])
      · omega
  refine ⟨?_, ?_, ownsRow_setCell_below (own_row h0.fo hg (owns_ne h0.fo h0.gl.ends (by decide))) hlt _, ownsRow_setCell_below (own_row h0.al hg h0.na) hlt _, ownsRow_setCell_below (own_row h0.eo hg (owns_ne h0.eo h0.gl.ends (by decide))) hlt _,
    ⟨ownsRow_setCell_below gl1.row hlt _, fun y hy => ownsRow_setCell_below (gl1.own y hy) hlt _, ownsRow_setCell_below gl1.ends hlt _, gl1.ne⟩, ?_, ?_⟩
  · refine Below.setCell (p := ⟨w.heap.size, 2, none⟩) ?_ (Nat.le_refl _) _
    exact ⟨hg.os.trans h0.bel.os, hg.tape.trans h0.bel.tape, hg.output.trans h0.bel.output, Nat.le_trans h0.bel.size hg.size, fun k hk => (hg.block k (by omega) (fun e => by have := (h0.gl.ends.lt k e.symm).1; omega)).trans (h0.bel.block k hk)⟩
  · exact (h0.bx.gr hg hbx).set 2 _
  · by_cases he : va.ownBlock = none
    · exact .inl he
    · refine .inr fun e => ?_
      obtain ⟨j, hj⟩ := Option.ne_none_iff_exists'.1 he
      have h1 := (h.al.lt j hj).2
      rcases hs' j (by rw [← e, hj]) with h2 | h2
      · rcases h.na with h3 | h3
        · exact he h3
        · exact h3 (by rw [hj, h2])
      · omega
  · have := hg.size; simp [World.setCell]; omega
end
theorem results_cell_tmp2 {fn : Func} {p u u2 : Tmp} {ty : TypeId} (h : fn.results = #[.cell p ty, .tmp u, .tmp u2]) (tmps : Array Value) (P : Program) (w : World) :
    (results fn tmps).run P w = ((asAddr (tmps.getD p undef)).run P w).andThen fun a w₁ => ((loadVar ty a).run P w₁).andThen fun v w₂ => .ok (.tuple #[v, tmps.getD u undef, tmps.getD u2 undef]) w₂ := by
  simp only [results, h]
  simp [Sem.run_bind, Result.andThen]
theorem chk_right {l : List Au} (h : chkL l = 0) : l.length ≤ 12 ∧ (∀ a ∈ l, RightW a) ∧ ∀ a ∈ l, a.st ≤ 9223372036854775807 := by
  unfold chkL at h
  split at h
  · omega
  · have hr : ∀ a ∈ l, Right a := fun a ha => right_of (chkGo_all.1 h a ha)
    exact ⟨by omega, fun a ha => (hr a ha).toRightW, fun a ha => by have := (hr a ha).st1; omega⟩
end Go.Proofs.YtedleffmbddccaaDoor

/- Layer 6: Synchronous, walked. -/
namespace Go.Proofs.YtedleffmbddccaaDoor
open Go.RowKit Go.Sort Go.Maps

theorem own_put4 {w : World} {base X n : Nat} {e : TypeId} {sz : Nat} {v : Value} {xs : List Value} (h : w.ownsRow base e sz v n xs) (hX : X < base) (v0 v1 v2 v3 : Value) : ((((w.setCell ⟨X, 0, none⟩ v0).setCell ⟨X, 1, none⟩ v1).setCell ⟨X, 2, none⟩ v2).setCell ⟨X, 3, none⟩ v3).ownsRow base e sz v n xs :=
  ownsRow_setCell_below (ownsRow_setCell_below (ownsRow_setCell_below (ownsRow_setCell_below h hX _) hX _) hX _) hX _

set_option maxHeartbeats 8000000 in
set_option maxRecDepth 100000 in
theorem pSync_bad (A : Option Addr) (n c : Nat) (l : List Au) (w : World) (h : RdAs w w.heap.size A l) (hn : l.length = n) (h0 : chkL l ≠ 0) :
    Calls Tryd.prog 20 #[.slice A n c] w (GivesS w (synR l)) := by
  have HB1 := Lib.hid ((Below.refl w.heap.size w).alloc (Nat.le_refl _) (.cells #[.slice none 0 0, .int .i64 0, .slice none 0 0, .slice none 0 0] 34))
  have HRes := Lib.hid (Row.new w [.slice none 0 0, .int .i64 0, .slice none 0 0, .slice none 0 0] 34)
  have HC := Lib.hid (pCheck_any A n c l _ _ ((h.below HB1.out (Nat.le_refl _)).more HB1.out.size) (Nat.le_refl _) hn)
  have HR := Lib.hid (show synR l = ((zeroA, []), chkL l) by rw [synR, if_pos h0])
  rw [HR.out]
  obtain ⟨u, hu⟩ : ∃ u, u = chkL l := ⟨_, rfl⟩
  rw [← hu] at h0 HC ⊢
  have hb0 : (u != 0) = true := by simp [h0]
  clear h hn h0 hu HR
  go_enter Tryd.func20, Tryd.ntmps20
  go_wp2_with fail
  refine HC.out.mono ?_
  rintro e w1 ⟨rfl, hbw⟩
  have hR1 := Lib.hid (HRes.out.below hbw (by simp))
  have hB2 := Lib.hid (HB1.out.trans (hbw.mono (by simp)))
  clear hbw
  have r0 := hR1.out.cell 0 rfl
  have r1 := hR1.out.cell 1 rfl
  have r2 := hR1.out.cell 2 rfl
  have r3 := hR1.out.cell 3 rfl
  have s0 := hR1.out.frozen 0
  have s1 := hR1.out.frozen 1
  have s2 := hR1.out.frozen 2
  have s3 := hR1.out.frozen 3
  go_wp2_with fail
  (try simp only [Exit.inBlock, Exit.then])
  refine bodyPost_ret (v := .tuple #[.agg #[.slice none 0 0, .int .i64 0, .slice none 0 0, .slice none 0 0], .slice none 0 0, .int .i64 u]) ?_ rfl ⟨_, _, [], rfl, AuF.zero _ _, ⟨World.ownsRow_nil _ _ _ _, by simp⟩, rfl, below_set4 hB2.out (Nat.le_refl _) _ _ _ _⟩
  rw [results_cell_tmp2 rfl]
  go_simp

set_option maxHeartbeats 8000000 in
set_option maxRecDepth 100000 in
theorem pSync_ok (A : Option Addr) (n c : Nat) (l : List Au) (w : World) (h : RdAs w w.heap.size A l) (hn : l.length = n) (h0 : chkL l = 0) :
    Calls Tryd.prog 20 #[.slice A n c] w (GivesS w (synR l)) := by
  have HB1 := Lib.hid ((Below.refl w.heap.size w).alloc (Nat.le_refl _) (.cells #[.slice none 0 0, .int .i64 0, .slice none 0 0, .slice none 0 0] 34))
  have HRes := Lib.hid (Row.new w [.slice none 0 0, .int .i64 0, .slice none 0 0, .slice none 0 0] 34)
  have HC := Lib.hid (pCheck_any A n c l _ _ ((h.below HB1.out (Nat.le_refl _)).more HB1.out.size) (Nat.le_refl _) hn)
  rw [h0] at HC
  obtain ⟨h12, hr, hs⟩ := chk_right h0
  rw [hn] at h12
  have HLB := Lib.hid (fun W (hW : Below w.heap.size w W) => (h.below hW (Nat.le_refl _)).more hW.size)
  have HEx := Lib.hid (fun W (hW : Below w.heap.size w W) => pExplore_any A n c l W (HLB.out W hW) hn h12 hr hs)
  have HRI := Lib.hid hr
  have HN := Lib.hid hn
  have HS := Lib.hid hs
  have HC0 := Lib.hid h0
  clear h hn h0 hr hs
  go_enter Tryd.func20, Tryd.ntmps20
  go_wp2_with fail
  refine HC.out.mono ?_
  rintro e w1 ⟨rfl, hbw⟩
  have hR1 := Lib.hid (HRes.out.below hbw (by simp))
  have hB2 := Lib.hid (HB1.out.trans (hbw.mono (by simp)))
  have hz1 := hR1.out.lt
  clear hbw HC HB1 HRes
  go_wp2_with fail
  refine (HEx.out _ hB2.out).mono ?_
  rintro e w2 ⟨hb2, hres⟩
  have hR2 := Lib.hid (hR1.out.below hb2 hz1)
  have hB3 := Lib.hid (hB2.out.trans (hb2.mono hB2.out.size))
  have hz2 := hb2.size
  clear hb2 hB2 hR1 HEx
  have r0 := hR2.out.cell 0 rfl
  have r1 := hR2.out.cell 1 rfl
  have r2 := hR2.out.cell 2 rfl
  have r3 := hR2.out.cell 3 rfl
  have s0 := hR2.out.frozen 0
  have s1 := hR2.out.frozen 1
  have s2 := hR2.out.frozen 2
  have s3 := hR2.out.frozen 3
  rcases hres with ⟨hbig, rfl⟩ | ⟨hsm, vf, ve, rfl, hof, hoe⟩
  · have HR := Lib.hid (show synR l = ((zeroA, []), 3) by rw [synR, if_neg (by rw [HC0.out]; simp), if_pos hbig])
    clear hbig
    go_wp2_with fail
    (try simp only [Exit.inBlock, Exit.then])
    refine bodyPost_ret (v := .tuple #[.agg #[.slice none 0 0, .int .i64 0, .slice none 0 0, .slice none 0 0], .slice none 0 0, .int .i64 3]) ?_ rfl ⟨_, _, [], by rw [HR.out], by rw [HR.out]; exact AuF.zero _ _, ⟨World.ownsRow_nil _ _ _ _, by simp⟩, by rw [HR.out]; rfl, below_set4 hB3.out (Nat.le_refl _) _ _ _ _⟩
    rw [results_cell_tmp2 rfl]
    go_simp
  · obtain ⟨Af, cf, hvf⟩ := own_shapeT hof
    obtain ⟨E, g, hve, _, _, _⟩ := ownE_rd hoe
    obtain ⟨N, hNe⟩ : ∃ N, N = (fnd (prodA l)).length := ⟨_, rfl⟩
    rw [← hNe] at hsm hve
    rw [List.length_map, ← hNe] at hvf
    obtain ⟨ke, hke⟩ : ∃ ke, ke = (canEn (prodA l) N).length := ⟨_, rfl⟩
    rw [← hke] at hve
    rw [← hNe] at hoe
    have HEv := Lib.hid (pEvents_own A n c l w2.heap.size w2 (HLB.out _ hB3.out) (Nat.le_refl _) HN.out (by omega) HRI.out)
    subst hvf hve
    have HOF := Lib.hid (own_more hof (show w.heap.size + 1 ≤ w1.heap.size by omega))
    have HOE := Lib.hid (own_more hoe (show w.heap.size + 1 ≤ w1.heap.size by omega))
    have HKE := Lib.hid hke
    have HNE := Lib.hid hNe
    clear hof hoe hke hNe
    go_wp2_with fail
    refine HEv.out.mono ?_
    rintro e w3 ⟨Aa, ca, rfl, ho3, hb3⟩
    obtain ⟨m, hm⟩ : ∃ m, m = (alT l).length := ⟨_, rfl⟩
    rw [← hm] at ho3 ⊢
    have hR3 := Lib.hid (hR2.out.below hb3 (by omega))
    have r0 := hR3.out.cell 0 rfl
    have r1 := hR3.out.cell 1 rfl
    have r2 := hR3.out.cell 2 rfl
    have r3 := hR3.out.cell 3 rfl
    have s0 := hR3.out.frozen 0
    have s1 := hR3.out.frozen 1
    have s2 := hR3.out.frozen 2
    have s3 := hR3.out.frozen 3
    have HAL := Lib.hid (show Own w3 (w.heap.size + 1) (.slice Aa m ca) (alT l) from own_more ho3 (show w.heap.size + 1 ≤ w2.heap.size by omega))
    have HSY := Lib.hid (show SY w ((((w3.setCell ⟨w.heap.size, 0, none⟩ (.slice Aa m ca)).setCell ⟨w.heap.size, 1, none⟩ (.int .i64 (N : Int))).setCell ⟨w.heap.size, 2, none⟩ (.slice none 0 0)).setCell ⟨w.heap.size, 3, none⟩ (.slice E ke g)) N (.slice Af N cf) ((fnd (prodA l)).map (tp l)) (.slice Aa m ca) (alT l) (.slice E ke g) (canEn (prodA l) N) (.slice none 0 0) (canMn (prodA l) 0) (.slice none 0 0) [] from
      { bel := below_set4 (hB3.out.trans (hb3.mono hB3.out.size)) (Nat.le_refl _) _ _ _ _
        bx := (((hR3.out.set 0 _).set 1 _).set 2 _).set 3 _
        fo := own_put4 (own_below HOF.out hb3) (Nat.lt_succ_self _) _ _ _ _
        al := own_put4 HAL.out (Nat.lt_succ_self _) _ _ _ _
        eo := own_put4 (own_below HOE.out hb3) (Nat.lt_succ_self _) _ _ _ _
        gl := ⟨World.ownsRow_nil _ _ _ _, by simp, World.ownsRow_nil _ _ _ _, by simp⟩
        na := by
          by_cases he : (Value.slice Aa m ca).ownBlock = none
          · exact .inl he
          · exact .inr (by simpa [Value.ownBlock] using he)
        sz := by have := hb3.size; simp [World.setCell]; omega })
    have HM := Lib.hid hm
    clear ho3 hb3 hR3 hR2 hB3 hm HOF HOE HAL
    go_wp2_with fail
    clear r0 r1 r2 r3 s0 s1 s2 s3
    generalize ((((w3.setCell ⟨w.heap.size, 0, none⟩ (.slice Aa m ca)).setCell ⟨w.heap.size, 1, none⟩ (.int .i64 (N : Int))).setCell ⟨w.heap.size, 2, none⟩ (.slice none 0 0)).setCell ⟨w.heap.size, 3, none⟩ (.slice E ke g)) = w4 at *
    have HVAL := Lib.hid (fun (x : Int) (hp : posT l = true) => tp_val hp (by rw [HN.out]; exact h12) HS.out x)
    obtain ⟨iL, iL0, iL1, iL2, iL3⟩ := info_parts info_ints
    obtain ⟨iI, iI0, iI1, iI2, iI3⟩ := info_parts info_int
    go_loopw [3, 34] (fun vt i wr => ∃ (k : Nat) (vm : Value) (hs : List Hd), i = .int .i64 k ∧ k ≤ N ∧ Hid (SY w wr N (.slice Af N cf) ((fnd (prodA l)).map (tp l)) (.slice Aa m ca) (alT l) (.slice E ke g) (canEn (prodA l) N) vm (canMn (prodA l) k) vt hs) ∧ Hid (hs.map Hd.z = ((fnd (prodA l)).take k).map (dcT (stsT l)))) (fun _ i _ => N - (intOf i).toNat)
    case atStart => exact ⟨0, _, [], rfl, Nat.zero_le _, HSY, Lib.hid rfl⟩
    case round =>
      clear HSY
      obtain ⟨k, vm, hs, rfl, hkN, hsy, hmap⟩ := hrel
      by_cases hlt : k < N
      · obtain ⟨q, hq⟩ : ∃ q, q = (fnd (prodA l)).getD k 0 := ⟨_, rfl⟩
        have hkf : k < (fnd (prodA l)).length := by rw [← HNE.out]; exact hlt
        have hqm : q ∈ fnd (prodA l) := by rw [hq, List.getD, List.getElem?_eq_getElem hkf]; exact List.getElem_mem _
        have hqr := fnd_range (prod_right HRI.out) q hqm
        have hpo : posT l = true := by
          cases hp : posT l with
          | true => rfl
          | false => rw [prod_st0 hp] at hqr; omega
        have HQV := Lib.hid (HVAL.out q hpo)
        have hszq := Lib.hid (show (Tryd.prog.info? 92).map (·.size) = some (encT (tp l q)).length by rw [states_size, encT_len, HQV.out.1])
        have hone := Lib.hid (encT_one (tp l q))
        have hhs : hs.length = k := by have := congrArg List.length hmap.out; rw [List.length_map, List.length_map, List.length_take] at this; omega
        have htk : (tp l q).take n = dcT (stsT l) q := by rw [← HN.out]; exact tp_take hpo q
        have hmr := Lib.hid (mk_tp hpo hqr)
        have hmap2 := Lib.hid (show hs.map Hd.z ++ [dcT (stsT l) q] = ((fnd (prodA l)).take (k + 1)).map (dcT (stsT l)) by
          rw [hmap.out, List.take_succ_eq_append_getElem hkf, List.map_append]
          have e : (fnd (prodA l))[k] = q := by rw [hq, List.getD, List.getElem?_eq_getElem hkf]; rfl
          rw [e]; rfl)
        obtain ⟨gf, rfl⟩ : ∃ gf, Af = some ⟨gf, 0, none⟩ := by
          rcases hsy.out.fo.2 with ⟨h1, h2⟩ | ⟨g', cap, cur, h1, _⟩
          · rw [List.length_map, ← HNE.out] at h2; omega
          · injection h1 with h1; exact ⟨g', h1⟩
        have HST := Lib.hid (show StAt wr gf (k * 12) (tp l q) by
          have h1 := hsy.out.fo
          unfold OwnT at h1
          rw [List.length_map, ← HNE.out] at h1
          have h2 := ownT_at h1 (fun t ht => by obtain ⟨x, _, rfl⟩ := List.mem_map.1 ht; exact HVAL.out x hpo) (i := k) (by rw [List.length_map]; exact hkf) (by rw [List.length_map, HNE.out])
          rw [List.getD, List.getElem?_map, List.getElem?_eq_getElem hkf] at h2
          have e : (fnd (prodA l))[k] = q := by rw [hq, List.getD, List.getElem?_eq_getElem hkf]; rfl
          rw [e] at h2; exact h2)
        have hmy : q ∈ (prodA l).mr → canMn (prodA l) (k + 1) = canMn (prodA l) k ++ [(k : Int)] := fun h => canMn_yes (by rw [← hq]; exact h)
        have hmn : q ∉ (prodA l).mr → canMn (prodA l) (k + 1) = canMn (prodA l) k := fun h => canMn_no (by rw [← hq]; exact h)
        have HMY := Lib.hid hmy
        have HMN := Lib.hid hmn
        have hold := Lib.hid (Row.new wr (encT zeroT) 92)
        have HSX := Lib.hid (hsy.out.call (below_setRow ((Below.refl wr.heap.size wr).alloc (Nat.le_refl _) (.cells (encT zeroT).toArray 92)) (Nat.le_refl _) (encT (tp l q)).toArray))
        have HR9 := Lib.hid (show Row _ _ _ _ from setRow_heap (wr.alloc (.cells (encT zeroT).toArray 92)) wr.heap.size _ (encT (tp l q)).toArray _ _ hold.out)
        rw [zeroT_enc] at hold HSX HR9
        have HMk := Lib.hid (pMarked_any A n c l (tp l q) _ (HLB.out _ HSX.out.bel) HN.out h12 HRI.out HQV.out.1)
        rw [hmr.out] at HMk
        have HT9 := Lib.hid (StAt.row HQV.out.1 HR9.out)
        have hk0 : (0 : Int) ≤ (k : Int) := by omega
        have hkN2 : (k : Int) < (N : Int) := by omega
        obtain ⟨b9, hb9⟩ : ∃ b9, b9 = wr.heap.size := ⟨_, rfl⟩
        obtain ⟨r, hrr⟩ : ∃ r, r = decide (q ∈ (prodA l).mr) := ⟨_, rfl⟩
        rw [← hrr] at HMk
        have HRr := Lib.hid hrr
        obtain ⟨Am, cm, hvm⟩ := own_shapeT hsy.out.gl.ends
        obtain ⟨lm, hlm⟩ : ∃ lm, lm = (canMn (prodA l) k).length := ⟨_, rfl⟩
        rw [← hlm] at hvm
        subst hvm
        have HLM := Lib.hid hlm
        have hlmk : lm ≤ k := by rw [hlm]; exact canMn_len _ _
        clear hq hkf hqm hqr hmy hmn hrr hmr hlm hsy
        go_wp2_with (first
          | refine wpList_load_mid rfl 92 (.tmp 37) rfl gf (k * 12) rfl (encT (tp l q)) _ HST.out.2 Tryd.underlying92 rfl hszq.out ?_
          | refine wpList_store_row rfl 92 (.tmp 9) (.tmp 38) rfl wr.heap.size (encT (tp l q)).toArray rfl rfl 92 (encT zeroT).toArray hold.out (by simpa using hszq.out) (by simp [encT_len, HQV.out.1, zeroT]) hone.out ?_
          | refine wpList_load_mid rfl 92 (.tmp 9) rfl wr.heap.size 0 rfl (encT (tp l q)) _ HT9.out.2 Tryd.underlying92 rfl hszq.out ?_)
        refine HMk.out.mono ?_
        rintro e w8 ⟨rfl, hb8⟩
        have HS8 := Lib.hid (HSX.out.call hb8)
        have HR8 := Lib.hid (show Row w8 b9 92 (encT (tp l q)) by rw [hb9]; exact HR9.out.below hb8 HR9.out.lt)
        rw [← hb9]
        clear hb8 HSX HR9 HMk HT9 hold HST hb9
        cases r
        · have hno := HMN.out (by have := HRr.out; simpa using this.symm)
          have HSYX := Lib.hid HS8.out
          rw [← hno] at HSYX
          have HT9X := Lib.hid (StAt.row HQV.out.1 HR8.out)
          clear HS8 HR8
          have HLs := Lib.hid (show Calls Tryd.prog 50 _ (w8) _ from pList_own (tp l q) n (w8) HQV.out.1 h12)
          rw [htk] at HLs
          obtain ⟨zs, hzs⟩ : ∃ zs, zs = dcT (stsT l) q := ⟨_, rfl⟩
          rw [← hzs] at HLs hmap2
          obtain ⟨lz, hlz⟩ : ∃ lz, lz = zs.length := ⟨_, rfl⟩
          have HLZ := Lib.hid hlz
          clear hzs
          go_wp2_with (first | refine wpList_load_mid rfl 92 (.tmp 9) rfl b9 0 rfl (encT (tp l q)) _ HT9X.out.2 Tryd.underlying92 rfl hszq.out ?_)
          refine HLs.out.mono ?_
          rintro e wY ⟨A1, c1, rfl, ho1, hb1⟩
          have HO1 := Lib.hid ho1
          have HBY := Lib.hid hb1
          have HROW := (HSYX.out.call hb1).gl.row
          rw [hhs] at HROW
          have HROW := Lib.hid HROW
          have hszY := Nat.le_trans HSYX.out.sz hb1.size
          rw [← hlz]
          clear ho1 hb1 HLs HT9X hlz
          go_wp2_with (at_builtin; refine wpList_append_own _ rfl (.tmp 48) (.tmp 53) 35 rfl (w.heap.size + 1) 27 iL (.slice none 0 0) 1 24 Tryd.underlying35 iL0 iL1 iL2 iL3 rfl (by omega) _ k (hs.map Hd.enc) rfl (HROW.out.alloc _) ⟨wY.heap.size, 0, none⟩ 1 1 [.slice A1 lz c1] rfl rfl (World.news_of_block (cs := #[.slice A1 lz c1]) (t := 27) (fr := (0, 0)) (heap_alloc_new wY _)) (by simp [Value.oneCell']) (by unfold maxLen; omega) (by omega) (by simp; omega) ?_; intro vt2 wZ hoZ hgZ _)
          rw [HLZ.out] at hoZ hgZ
          have HZ := Lib.hid (HSYX.out.word (x := ⟨A1, c1, zs⟩) (HBY.out.alloc HBY.out.size _) (HO1.out.alloc _) hoZ (by rw [hhs]) hgZ)
          clear hoZ hgZ HSYX HROW HBY
          go_wp2_with fail
          go_roundw
          case rel => exact ⟨k + 1, _, hs ++ [⟨A1, c1, zs⟩], by go_num, by omega, HZ, by rw [List.map_append]; exact hmap2⟩
          case measure => simp [intOf]; omega
        · have hyes := HMY.out (by have := HRr.out; simpa using this.symm)
          have HEN := HS8.out.gl.ends
          unfold Own at HEN
          rw [← HLM.out] at HEN
          have HEN := Lib.hid HEN
          have c2 := HS8.out.bx.cell 2 rfl
          have hs8 := HS8.out.sz
          go_wp2_with (first
            | (at_builtin; refine wpList_append_own_at _ rfl (.tmp 43) (.tmp 45) 27 rfl (w.heap.size + 1) 3 iI (.int .i64 0) 1 8 Tryd.underlying27 iI0 iI1 iI2 iI3 rfl (by omega) _ lm ((canMn (prodA l) k).map (Value.int .i64)) rfl (HEN.out.alloc _) ⟨w8.heap.size, 0, none⟩ 1 1 [.int .i64 (k : Int)] rfl rfl (World.news_of_block (cs := #[.int .i64 (k : Int)]) (t := 3) (fr := (0, 0)) (heap_alloc_new w8 _)) (by simp [Value.oneCell']) (by unfold maxLen; omega) (by omega) (by simp; omega) ?_; intro vm2 w9 ho9 hg9 _ hat9; obtain ⟨A4, c4, hv4⟩ := own_shapeT ho9; subst hv4
               have HSYX := Lib.hid (HS8.out.mark (x := (k : Int)) (show Own w9 (w.heap.size + 1) (.slice A4 (lm + 1) c4) (canMn (prodA l) k ++ [(k : Int)]) by unfold Own; rw [List.length_append, ← HLM.out, List.map_append]; exact ho9) hg9 (by
                 intro jj hjj
                 rcases hat9 with h1 | h1
                 · left; exact (show (Value.slice Am lm cm).ownBlock = _ from h1.symm).trans hjj
                 · right; rw [h1] at hjj; injection hjj with hjj; simp at hjj; omega))
               have hrow9 := (HR8.out.alloc (.cells #[.int .i64 (k : Int)] 3)).gr hg9 (fun e => row_ne_own HR8.out HEN.out (by decide) e.symm)
               have HT9X := Lib.hid (StAt.row HQV.out.1 (hrow9.setOther (p := ⟨w.heap.size, 2, none⟩) (row_ne_row HR8.out HS8.out.bx (by decide)) (.slice A4 (lm + 1) c4)))
               have hbx9 := (HS8.out.bx.alloc (.cells #[.int .i64 (k : Int)] 3)).gr hg9 (fun e => row_ne_own HS8.out.bx HEN.out (by decide) e.symm)
               have d2 := hbx9.cell 2 rfl
               have d3 := hbx9.frozen 2
               rw [← hyes] at HSYX
               clear hrow9 hbx9 ho9 hg9 hat9 HS8 HR8 HEN c2)
            | refine wpList_load_mid rfl 92 (.tmp 9) rfl b9 0 rfl (encT (tp l q)) _ HT9X.out.2 Tryd.underlying92 rfl hszq.out ?_)
          have HLs := Lib.hid (show Calls Tryd.prog 50 _ (w9.setCell ⟨w.heap.size, 2, none⟩ (.slice A4 (lm + 1) c4)) _ from pList_own (tp l q) n (w9.setCell ⟨w.heap.size, 2, none⟩ (.slice A4 (lm + 1) c4)) HQV.out.1 h12)
          rw [htk] at HLs
          obtain ⟨zs, hzs⟩ : ∃ zs, zs = dcT (stsT l) q := ⟨_, rfl⟩
          rw [← hzs] at HLs hmap2
          obtain ⟨lz, hlz⟩ : ∃ lz, lz = zs.length := ⟨_, rfl⟩
          have HLZ := Lib.hid hlz
          clear hzs
          refine HLs.out.mono ?_
          rintro e wY ⟨A1, c1, rfl, ho1, hb1⟩
          have HO1 := Lib.hid ho1
          have HBY := Lib.hid hb1
          have HROW := (HSYX.out.call hb1).gl.row
          rw [hhs] at HROW
          have HROW := Lib.hid HROW
          have hszY := Nat.le_trans HSYX.out.sz hb1.size
          rw [← hlz]
          clear ho1 hb1 HLs HT9X hlz
          go_wp2_with (at_builtin; refine wpList_append_own _ rfl (.tmp 48) (.tmp 53) 35 rfl (w.heap.size + 1) 27 iL (.slice none 0 0) 1 24 Tryd.underlying35 iL0 iL1 iL2 iL3 rfl (by omega) _ k (hs.map Hd.enc) rfl (HROW.out.alloc _) ⟨wY.heap.size, 0, none⟩ 1 1 [.slice A1 lz c1] rfl rfl (World.news_of_block (cs := #[.slice A1 lz c1]) (t := 27) (fr := (0, 0)) (heap_alloc_new wY _)) (by simp [Value.oneCell']) (by unfold maxLen; omega) (by omega) (by simp; omega) ?_; intro vt2 wZ hoZ hgZ _)
          rw [HLZ.out] at hoZ hgZ
          have HZ := Lib.hid (HSYX.out.word (x := ⟨A1, c1, zs⟩) (HBY.out.alloc HBY.out.size _) (HO1.out.alloc _) hoZ (by rw [hhs]) hgZ)
          clear hoZ hgZ HSYX HROW HBY
          go_wp2_with fail
          go_roundw
          case rel => exact ⟨k + 1, _, hs ++ [⟨A1, c1, zs⟩], by go_num, by omega, HZ, by rw [List.map_append]; exact hmap2⟩
          case measure => simp [intOf]; omega
      · obtain rfl : k = N := by omega
        clear hlt
        obtain ⟨Am, cm, hvm⟩ := own_shapeT hsy.out.gl.ends
        obtain ⟨lm, hlm⟩ : ∃ lm, lm = (canMn (prodA l) k).length := ⟨_, rfl⟩
        rw [← hlm] at hvm
        subst hvm
        have r0 := hsy.out.bx.cell 0 rfl
        have r1 := hsy.out.bx.cell 1 rfl
        have r2 := hsy.out.bx.cell 2 rfl
        have r3 := hsy.out.bx.cell 3 rfl
        have s0 := hsy.out.bx.frozen 0
        have s1 := hsy.out.bx.frozen 1
        have s2 := hsy.out.bx.frozen 2
        have s3 := hsy.out.bx.frozen 3
        have HR := Lib.hid (show synR l = ((canA (prodA l), (fnd (prodA l)).map (dcT (stsT l))), 0) by rw [synR, if_neg (by rw [HC0.out]; simp), if_neg (by rw [← HNE.out]; omega)])
        have HFIN := Lib.hid (show AuF (canA (prodA l)) (.agg #[.slice Aa m ca, .int .i64 (k : Int), .slice Am lm cm, .slice E ke g]) wr (w.heap.size + 1) by
          obtain ⟨_, _, e1, x1, x2, x3⟩ := own_rdc hsy.out.al
          injection e1 with e1 _ e2; subst e1; subst e2
          obtain ⟨_, _, e1, y1, y2, y3⟩ := own_rdc hsy.out.gl.ends
          injection e1 with e1 _ e2; subst e1; subst e2
          obtain ⟨_, _, e1, z1, z2, z3⟩ := ownE_rd hsy.out.eo
          injection e1 with e1 _ e2; subst e1; subst e2
          have hm32 := alT_len HRI.out
          have hml := canMn_len (prodA l) k
          have hel := canEn_le (prod_right HRI.out) k
          have hal : (prodA l).al.length ≤ 32 := hm32
          have hel2 : k * (prodA l).al.length ≤ 4096 * 32 := Nat.mul_le_mul hsm hal
          have hcm : canM (prodA l) = canMn (prodA l) k := by rw [HNE.out]; rfl
          have hce : (canA (prodA l)).ed = canEn (prodA l) k := by rw [HNE.out]; rfl
          exact ⟨Aa, m, ca, (k : Int), Am, lm, cm, E, ke, g, rfl,
            { al := x1, mr := by show RdI _ _ _ (canM (prodA l)); rw [hcm]; exact y1, ed := by rw [hce]; exact z1, hn := HM.out.symm, hm := by show (canM (prodA l)).length = _; rw [hcm, hlm], hk := by rw [hce]; exact HKE.out.symm, st := by show ((fnd (prodA l)).length : Int) = _; rw [← HNE.out], cn := ⟨by rw [HM.out]; exact x2, x3⟩, cm := ⟨by rw [hlm]; exact y2, y3⟩, ck := ⟨by rw [HKE.out]; exact z2, z3⟩, bn := by rw [HM.out]; omega, bm := by rw [hlm]; omega, bk := by rw [HKE.out]; omega },
            own_from hsy.out.al, own_from hsy.out.gl.ends, own_from hsy.out.eo⟩)
        have HMP := Lib.hid (show hs.map Hd.z = (fnd (prodA l)).map (dcT (stsT l)) by rw [hmap.out, List.take_of_length_le (by rw [← HNE.out]; exact Nat.le_refl _)])
        go_wp2_with fail
        (try simp only [Exit.inBlock, Exit.then])
        refine bodyPost_ret (v := .tuple #[.agg #[.slice Aa m ca, .int .i64 (k : Int), .slice Am lm cm, .slice E ke g], _, .int .i64 0]) ?_ rfl ⟨_, _, hs, by rw [HR.out], by rw [HR.out]; exact (HFIN.out.set4 (Nat.lt_succ_self _) _ _ _ _).more (Nat.le_succ _), ⟨own_more (own_put4 hsy.out.gl.row (Nat.lt_succ_self _) _ _ _ _) (Nat.le_succ _), fun x hx => own_more (own_put4 (hsy.out.gl.own x hx) (Nat.lt_succ_self _) _ _ _ _) (Nat.le_succ _)⟩, by rw [HR.out]; exact HMP.out, below_set4 hsy.out.bel (Nat.le_refl _) _ _ _ _⟩
        rw [results_cell_tmp2 rfl]
        go_simp
theorem pSync_any (A : Option Addr) (n c : Nat) (l : List Au) (w : World) (h : RdAs w w.heap.size A l) (hn : l.length = n) :
    Calls Tryd.prog 20 #[.slice A n c] w (GivesS w (synR l)) := by
  by_cases h0 : chkL l = 0
  · exact pSync_ok A n c l w h hn h0
  · exact pSync_bad A n c l w h hn h0
end Go.Proofs.YtedleffmbddccaaDoor

/- Layer 6: Refusers, Compose. -/
namespace Go.Proofs.YtedleffmbddccaaDoor
open Go.RowKit Go.Sort

/-- A tuple in twelve places. -/
def pad (t : List Int) : List Int := t ++ List.replicate (12 - t.length) 0
theorem pad_len {t : List Int} (h : t.length ≤ 12) : (pad t).length = 12 := by unfold pad; rw [List.length_append, List.length_replicate]; omega
theorem cs_zero {l : List Au} {t : List Int} {e : Int} (h : csE6 l t e = 0) : chkL l = 0 ∧ t.length = l.length ∧ ctGo t l = true ∧ e ∈ alT l := by
  unfold csE6 at h
  by_cases h1 : ctE l t = 0
  · rw [if_neg (by simpa using h1)] at h
    have h2 : e ∈ alT l := by
      by_cases h3 : e ∈ alT l
      · exact h3
      · rw [if_neg h3] at h; omega
    unfold ctE at h1
    by_cases h3 : chkL l = 0
    · rw [if_neg (by simpa using h3)] at h1
      by_cases h4 : t.length = l.length
      · rw [if_neg (by simpa using h4)] at h1
        refine ⟨h3, h4, ?_, h2⟩
        by_cases h5 : ctGo t l = true
        · exact h5
        · rw [if_neg h5] at h1; omega
      · rw [if_pos h4] at h1; omega
    · rw [if_pos h3] at h1; exact absurd h1 h3
  · rw [if_pos h1] at h; exact absurd h h1
/-- A list in new memory and an error. -/
def GivesL2 (w : World) (zs : List Int) (er : Int) (e : Ending) (w' : World) : Prop := ∃ A c, e = .returned (.tuple #[.slice A zs.length c, .int .i64 er]) ∧ RdI w' w'.heap.size A zs ∧ Below w.heap.size w w' ∧ zs.length ≤ c ∧ c ≤ 9223372036854775807
def refR (l : List Au) (t : List Int) (e : Int) : List Int := if csE6 l t e ≠ 0 then [] else rfG l 0 (pad t) e

set_option maxHeartbeats 4000000 in
set_option maxRecDepth 100000 in
theorem pRefusers_any (A : Option Addr) (n c : Nat) (l : List Au) (A2 : Option Addr) (m d : Nat) (t : List Int) (ev : Int) (w : World) (h : RdAs w w.heap.size A l) (hn : l.length = n) (h2 : RdI w w.heap.size A2 t) (hm : t.length = m)
    (hT : TabAt 0 Lib.deBruijn32tab w) (hz : 0 < w.heap.size) :
    Calls Tryd.prog 26 #[.slice A n c, .slice A2 m d, .int .i64 ev] w (GivesL2 w (refR l t ev) (csE6 l t ev)) := by
  have HC := Lib.hid (pChkS_any A n c l A2 m d t ev w h hn h2 hm)
  obtain ⟨u, hu⟩ : ∃ u, u = csE6 l t ev := ⟨_, rfl⟩
  rw [← hu] at HC
  by_cases h0 : u = 0
  · obtain ⟨hc0, htl, _, _⟩ := cs_zero (show csE6 l t ev = 0 by rw [← hu, h0])
    obtain ⟨h12, hr, hs⟩ := chk_right hc0
    have hmn : m = n := by omega
    have HR := Lib.hid (show refR l t ev = rfG l 0 (pad t) ev by rw [refR, if_neg (by rw [← hu]; simpa using h0)])
    rw [HR.out, ← hu]
    have HLB := Lib.hid (fun W (hW : Below w.heap.size w W) => (h.below hW (Nat.le_refl _)).more hW.size)
    have HTB := Lib.hid (fun W (hW : Below w.heap.size w W) => (h2.below hW (Nat.le_refl _)).more hW.size)
    have HSo := Lib.hid (fun W (hW : Below w.heap.size w W) => pStatesOf_any A2 m d t W (HTB.out W hW) hm (by omega))
    have HSt := Lib.hid (fun W bl (hW : Below w.heap.size w W) (hbl : bl < W.heap.size) (hcl : W.cell? ⟨bl, 0, none⟩ = some (.slice A n c)) => pStep1_any A n c l (pad t) ev bl W (HLB.out W hW) hn (by omega) hr (pad_len (by omega)) hbl hcl)
    obtain ⟨mk, hmk1, hmk2, hmk3⟩ := set_maskZ (rfG_up l 0 (pad t) ev) (rfG_range l 0 (pad t) ev (by omega))
    have HTab := Lib.hid hT
    have hstl : (stG l 0 (pad t) ev).length = 12 := by rw [stG_len]; exact pad_len (by omega)
    obtain ⟨T2, hT2⟩ : ∃ T2, T2 = stG l 0 (pad t) ev := ⟨_, rfl⟩
    obtain ⟨rs, hrs⟩ : ∃ rs, rs = rfG l 0 (pad t) ev := ⟨_, rfl⟩
    rw [← hT2] at HSt hstl
    rw [← hrs] at hmk2 hmk3 HSt ⊢
    rw [hmk2] at HSt
    have HT2 := Lib.hid hstl
    have HSET := Lib.hid hmk3
    have hmd : u = 0 := h0
    subst hmd
    obtain ⟨tt, htt⟩ : ∃ tt, tt = pad t := ⟨_, rfl⟩
    rw [show t ++ List.replicate (12 - m) 0 = tt by rw [htt, pad, hm]] at HSo
    rw [← htt] at HSt
    have hone := Lib.hid (encT_one T2)
    have hsz2 := Lib.hid (show (Tryd.prog.info? 92).map (·.size) = some (encT T2).length by rw [states_size, encT_len, HT2.out])
    have HZ0 := Lib.hid hz
    clear h hn h2 hm hT hu hc0 htl h12 hr hs hmn HR hmk2 hmk3 hT2 hrs hstl htt HLB HTB
    go_enter Tryd.func26, Tryd.ntmps26
    go_wp2_with fail
    refine HC.out.mono ?_
    rintro e w1 ⟨rfl, hb1⟩
    have HB1 := Lib.hid hb1
    clear hb1 HC
    go_wp2_with fail
    refine (pStepsOf_any A n c w1).mono ?_
    rintro e w2 ⟨rfl, rfl⟩
    have HB2 := Lib.hid (HB1.out.alloc HB1.out.size (.cells #[.slice A n c] 22))
    have HR2 := Lib.hid (Row.new w1 [.slice A n c] 22)
    obtain ⟨bs, hbs⟩ : ∃ bs, bs = w1.heap.size := ⟨_, rfl⟩
    rw [← hbs] at HR2 ⊢
    clear hbs HB1
    generalize (w1.alloc (.cells #[.slice A n c] 22)) = w2 at *
    go_wp2_with fail
    refine (HSo.out _ HB2.out).mono ?_
    rintro e w3 ⟨rfl, hb3⟩
    have HB3 := Lib.hid (HB2.out.trans (hb3.mono HB2.out.size))
    have HR3 := Lib.hid (HR2.out.below hb3 HR2.out.lt)
    clear hb3 HB2 HR2 HSo
    go_wp2_with fail
    refine (HSt.out _ bs HB3.out HR3.out.lt (HR3.out.cell 0 rfl)).mono ?_
    rintro e w4 ⟨rfl, hb4⟩
    have HB4 := Lib.hid (HB3.out.trans (hb4.mono HB3.out.size))
    have hold := Lib.hid (Row.new w4 (encT zeroT) 92)
    have HB5 := Lib.hid (below_setRow (HB4.out.alloc HB4.out.size (.cells (encT zeroT).toArray 92)) HB4.out.size (encT T2).toArray)
    rw [zeroT_enc] at hold HB5
    have HSe := Lib.hid (aSet_any mk _ hmk1 (tab_below HTab.out HB5.out HZ0.out) (Nat.lt_of_lt_of_le HZ0.out HB5.out.size))
    rw [HSET.out] at HSe
    clear hb4 HB3 HR3 HSt HB4
    go_wp2_with (first
      | refine wpList_store_row rfl 92 (.tmp 9) (.tmp 25) rfl w4.heap.size (encT T2).toArray rfl rfl 92 (encT zeroT).toArray hold.out (by simpa using hsz2.out) (by simp [encT_len, HT2.out, zeroT]) hone.out ?_)
    refine HSe.out.mono ?_
    rintro e w6 ⟨A6, c6, rfl, hr6, hb6, h61, h62⟩
    obtain ⟨k6, hk6⟩ : ∃ k6, k6 = rs.length := ⟨_, rfl⟩
    rw [← hk6]
    have HK := Lib.hid hk6
    have HB6 := Lib.hid (HB5.out.trans (hb6.mono HB5.out.size))
    have HR6 := Lib.hid hr6
    have H61 := Lib.hid h61
    clear hk6 hb6 hr6 h61
    go_wp2_with fail
    go_ret2
    exact ⟨A6, c6, by rw [← HK.out]; rfl, HR6.out, HB6.out, H61.out, h62⟩
  · have HR := Lib.hid (show refR l t ev = [] by rw [refR, if_pos (by rw [← hu]; exact h0)])
    have hb : (u != 0) = true := by simp [h0]
    rw [HR.out, ← hu]
    clear h hn h2 hm hT hz hu HR h0
    go_enter Tryd.func26, Tryd.ntmps26
    go_wp2_with fail
    refine HC.out.mono ?_
    rintro e w1 ⟨rfl, hb1⟩
    have HB1 := Lib.hid hb1
    clear hb1 HC
    go_wp2_with fail
    go_ret2
    exact ⟨none, 0, rfl, RdI.nil _ _ _, HB1.out, Nat.le_refl _, by omega⟩

set_option maxHeartbeats 4000000 in
set_option maxRecDepth 100000 in
theorem pCompose_any (A : Option Addr) (n c : Nat) (l : List Au) (w : World) (h : RdAs w w.heap.size A l) (hn : l.length = n) :
    Calls Tryd.prog 21 #[.slice A n c] w (GivesA w ((synR l).1.1, (synR l).2)) := by
  have HB1 := Lib.hid ((Below.refl w.heap.size w).alloc (Nat.le_refl _) (.cells #[.slice none 0 0, .int .i64 0, .slice none 0 0, .slice none 0 0] 34))
  have HRes := Lib.hid (Row.new w [.slice none 0 0, .int .i64 0, .slice none 0 0, .slice none 0 0] 34)
  have HC := Lib.hid (pSync_any A n c l _ ((h.below HB1.out (Nat.le_refl _)).more HB1.out.size) hn)
  clear h hn
  go_enter Tryd.func21, Tryd.ntmps21
  go_wp2_with fail
  refine HC.out.mono ?_
  rintro e w1 ⟨v, vt, hs, rfl, hau, hTL, _, hbw⟩
  obtain ⟨A2, n2, c2, s2, M2, m2, d2, E2, k2, g2, rfl, hrest⟩ := hau
  obtain ⟨At, ct, hvt⟩ := own_shapeT hTL.row
  subst hvt
  have hau2 := Lib.hid (show AuF (synR l).1.1 (.agg #[.slice A2 n2 c2, .int .i64 s2, .slice M2 m2 d2, .slice E2 k2 g2]) w1 _ from ⟨_, _, _, _, _, _, _, _, _, _, rfl, hrest⟩)
  have hR1 := HRes.out.below hbw (by simp)
  have hB2 := Lib.hid (HB1.out.trans (hbw.mono (by simp)))
  have hz := hR1.lt
  obtain ⟨er, her⟩ : ∃ er, er = (synR l).2 := ⟨_, rfl⟩
  rw [← her]
  have HER := Lib.hid her
  have hN2 := Lib.hid (Row.new w1 [.slice A2 n2 c2, .int .i64 s2, .slice M2 m2 d2, .slice E2 k2 g2] 34)
  have q0 := hN2.out.cell 0 rfl
  have q1 := hN2.out.cell 1 rfl
  have q2 := hN2.out.cell 2 rfl
  have q3 := hN2.out.cell 3 rfl
  have r0 := hR1.cell 0 rfl
  have r1 := hR1.cell 1 rfl
  have r2 := hR1.cell 2 rfl
  have r3 := hR1.cell 3 rfl
  have s0 := hR1.frozen 0
  have s1 := hR1.frozen 1
  have s2' := hR1.frozen 2
  have s3 := hR1.frozen 3
  clear hrest hTL hR1 hbw her
  go_wp2_with fail
  (try simp only [Exit.inBlock, Exit.then])
  refine bodyPost_ret (v := .tuple #[.agg #[.slice A2 n2 c2, .int .i64 s2, .slice M2 m2 d2, .slice E2 k2 g2], .int .i64 er]) ?_ rfl ⟨.agg #[.slice A2 n2 c2, .int .i64 s2, .slice M2 m2 d2, .slice E2 k2 g2], by rw [HER.out], ?_, ?_⟩
  · rw [results_cell_tmp1 rfl]
    go_simp
  · exact (((hau2.out.set4 (by simp) _ _ _ _).below ((Below.refl _ _).alloc (Nat.le_refl _) _)).more (by simp))
  · exact (below_set4 hB2.out (Nat.le_refl _) _ _ _ _).alloc (by simp [World.setCell]; omega) _
end Go.Proofs.YtedleffmbddccaaDoor

/- Layer 6: same, sameAll of the law, Same of the reference. -/
namespace Go.Proofs.YtedleffmbddccaaDoor
open Go.RowKit Go.Sort

theorem take_snoc_w {ws : List (List Int)} {j : Nat} (h : j < ws.length) : ws.take (j + 1) = ws.take j ++ [ws.getD j []] := by
  rw [List.take_succ_eq_append_getElem h]; simp [List.getD, List.getElem?_eq_getElem h]
set_option maxHeartbeats 400000 in
theorem r1same_any (A B : Option Addr) (n m c d Bx By : Nat) (xs ys : List Int) (w : World) (hx : RdI w Bx A xs) (hy : RdI w By B ys) (hn : xs.length = n) (hm : ys.length = m) (hb : n ≤ 140737488355328) (hb' : m ≤ 140737488355328) :
    Calls Tryd.prog 81 #[.slice A n c, .slice B m d] w fun e w' => e = .returned (.bool (decide (xs = ys))) ∧ ∃ q, w' = w.drewN q := by
  by_cases hnm : n = m
  · subst hnm
    have HN := Lib.hid hn
    have HM := Lib.hid hm
    clear hn hm
    go_enter Tryd.func81, Tryd.ntmps81
    go_wp2
    go_loopw [5] (fun i wr => ∃ k : Nat, k ≤ n ∧ i = .int .i64 k ∧ Hid (xs.take k = ys.take k) ∧ ∃ q, wr = w.drewN q) (fun i _ => n - (intOf i).toNat)
    case atStart => exact ⟨0, Nat.zero_le _, rfl, rfl, 0, rfl⟩
    case round =>
      obtain ⟨k, hk, rfl, ht, q, rfl⟩ := hrel
      by_cases hlt : k < n
      · obtain ⟨b1, o1, rfl, _, hc1⟩ := hx (by rw [HN.out]; omega)
        obtain ⟨b2, o2, rfl, _, hc2⟩ := hy (by rw [HM.out]; omega)
        have h1 := hc1 k (by rw [HN.out]; exact hlt)
        have h2 := hc2 k (by rw [HM.out]; exact hlt)
        clear hc1 hc2 hx hy
        obtain ⟨x, hx⟩ : ∃ x, x = xs.getD k 0 := ⟨_, rfl⟩
        obtain ⟨y, hy⟩ : ∃ y, y = ys.getD k 0 := ⟨_, rfl⟩
        rw [← hx] at h1
        rw [← hy] at h2
        by_cases hxy : x = y
        · have hs := Lib.hid (eq_take_step (by rw [HN.out]; exact hlt) (by rw [HM.out]; exact hlt) ht.out (by rw [← hx, ← hy]; exact hxy))
          have hne : (x != y) = false := by simp [hxy]
          clear hx hy hxy ht
          go_wp2
          go_quiet (fail)
          go_wp2
          go_roundw
          case rel => exact ⟨k + 1, by omega, by go_num, hs, by first | exact ⟨_, rfl⟩ | exact dr_add _ _ _⟩
          case measure => simp [intOf]; omega
        · have hf := Lib.hid (ne_of_getD (xs := xs) (ys := ys) (k := k) (by rw [← hx, ← hy]; exact hxy))
          have hne : (x != y) = true := by simp [hxy]
          clear hx hy hxy ht
          go_wp2
          go_quiet (fail)
          go_wp2
          go_ret
          exact ⟨ret_bool hf.out.symm, by first | exact ⟨_, rfl⟩ | exact dr_add _ _ _⟩
      · have hkn : k = n := by omega
        have hf := Lib.hid (eq_of_take (xs := xs) (ys := ys) (by rw [HN.out, HM.out]) (by rw [HN.out, ← hkn]; exact ht.out))
        clear hkn ht
        go_wp2
        go_ret
        exact ⟨ret_bool hf.out.symm, _, rfl⟩
  · have hf : decide (xs = ys) = false := by simp only [decide_eq_false_iff_not]; rintro rfl; omega
    have hne : ((n : Int) != (m : Int)) = true := by simp; omega
    clear hn hm
    go_enter Tryd.func81, Tryd.ntmps81
    go_wp2
    go_ret
    exact ⟨ret_bool hf.symm, 0, rfl⟩
set_option maxHeartbeats 400000 in
theorem l6same_any (A B : Option Addr) (n m c d Bx By : Nat) (xs ys : List Int) (w : World) (hx : RdI w Bx A xs) (hy : RdI w By B ys) (hn : xs.length = n) (hm : ys.length = m) (hb : n ≤ 140737488355328) (hb' : m ≤ 140737488355328) :
    Calls Tryd.prog 18 #[.slice A n c, .slice B m d] w fun e w' => e = .returned (.bool (decide (xs = ys))) ∧ ∃ q, w' = w.drewN q := by
  by_cases hnm : n = m
  · subst hnm
    have HN := Lib.hid hn
    have HM := Lib.hid hm
    clear hn hm
    go_enter Tryd.func18, Tryd.ntmps18
    go_wp2
    go_loopw [5] (fun i wr => ∃ k : Nat, k ≤ n ∧ i = .int .i64 k ∧ Hid (xs.take k = ys.take k) ∧ ∃ q, wr = w.drewN q) (fun i _ => n - (intOf i).toNat)
    case atStart => exact ⟨0, Nat.zero_le _, rfl, rfl, 0, rfl⟩
    case round =>
      obtain ⟨k, hk, rfl, ht, q, rfl⟩ := hrel
      by_cases hlt : k < n
      · obtain ⟨b1, o1, rfl, _, hc1⟩ := hx (by rw [HN.out]; omega)
        obtain ⟨b2, o2, rfl, _, hc2⟩ := hy (by rw [HM.out]; omega)
        have h1 := hc1 k (by rw [HN.out]; exact hlt)
        have h2 := hc2 k (by rw [HM.out]; exact hlt)
        clear hc1 hc2 hx hy
        obtain ⟨x, hx⟩ : ∃ x, x = xs.getD k 0 := ⟨_, rfl⟩
        obtain ⟨y, hy⟩ : ∃ y, y = ys.getD k 0 := ⟨_, rfl⟩
        rw [← hx] at h1
        rw [← hy] at h2
        by_cases hxy : x = y
        · have hs := Lib.hid (eq_take_step (by rw [HN.out]; exact hlt) (by rw [HM.out]; exact hlt) ht.out (by rw [← hx, ← hy]; exact hxy))
          have hne : (x != y) = false := by simp [hxy]
          clear hx hy hxy ht
          go_wp2
          go_quiet (fail)
          go_wp2
          go_roundw
          case rel => exact ⟨k + 1, by omega, by go_num, hs, by first | exact ⟨_, rfl⟩ | exact dr_add _ _ _⟩
          case measure => simp [intOf]; omega
        · have hf := Lib.hid (ne_of_getD (xs := xs) (ys := ys) (k := k) (by rw [← hx, ← hy]; exact hxy))
          have hne : (x != y) = true := by simp [hxy]
          clear hx hy hxy ht
          go_wp2
          go_quiet (fail)
          go_wp2
          go_ret
          exact ⟨ret_bool hf.out.symm, by first | exact ⟨_, rfl⟩ | exact dr_add _ _ _⟩
      · have hkn : k = n := by omega
        have hf := Lib.hid (eq_of_take (xs := xs) (ys := ys) (by rw [HN.out, HM.out]) (by rw [HN.out, ← hkn]; exact ht.out))
        clear hkn ht
        go_wp2
        go_ret
        exact ⟨ret_bool hf.out.symm, _, rfl⟩
  · have hf : decide (xs = ys) = false := by simp only [decide_eq_false_iff_not]; rintro rfl; omega
    have hne : ((n : Int) != (m : Int)) = true := by simp; omega
    clear hn hm
    go_enter Tryd.func18, Tryd.ntmps18
    go_wp2
    go_ret
    exact ⟨ret_bool hf.symm, 0, rfl⟩
/-- A slice's address leads, below block B, to slices that hold these words (asked only where there are any). -/
def RdW (w : World) (B : Nat) (A : Option Addr) (zs : List (List Int)) : Prop :=
  0 < zs.length → ∃ b off, A = some ⟨b, off, none⟩ ∧ b < B ∧ ∀ j, j < zs.length → ∃ C c, w.cell? ⟨b, off + j, none⟩ = some (.slice C (zs.getD j []).length c) ∧ RdI w B C (zs.getD j []) ∧ (zs.getD j []).length ≤ c ∧ c ≤ 9223372036854775807
theorem RdW.keep {w w' : World} {B : Nat} {A : Option Addr} {zs : List (List Int)} (h : RdW w B A zs) (hk : ∀ b o, b < B → w'.cell? ⟨b, o, none⟩ = w.cell? ⟨b, o, none⟩) : RdW w' B A zs := fun h0 => by
  obtain ⟨b, off, e, hb, hc⟩ := h h0
  refine ⟨b, off, e, hb, fun j hj => ?_⟩
  obtain ⟨C, c, h1, h2, h3⟩ := hc j hj
  exact ⟨C, c, (hk b _ hb).trans h1, h2.keep hk, h3⟩
theorem RdW.more {w : World} {B B' : Nat} {A : Option Addr} {zs : List (List Int)} (h : RdW w B A zs) (hB : B ≤ B') : RdW w B' A zs := fun h0 => by
  obtain ⟨b, off, e, hb, hc⟩ := h h0
  refine ⟨b, off, e, by omega, fun j hj => ?_⟩
  obtain ⟨C, c, h1, h2, h3⟩ := hc j hj
  exact ⟨C, c, h1, h2.more hB, h3⟩
theorem RdW.below {w w' : World} {B B' : Nat} {A : Option Addr} {zs : List (List Int)} (h : RdW w B A zs) (hb : Below B' w w') (hB : B ≤ B') : RdW w' B A zs :=
  h.keep fun _ _ hlt => hb.cell (by exact Nat.lt_of_lt_of_le hlt hB)
theorem take_succ_eq {zs ys : List (List Int)} {k : Nat} (hx : k < zs.length) (hy : k < ys.length) (h : zs.take k = ys.take k) (he : zs.getD k [] = ys.getD k []) : zs.take (k + 1) = ys.take (k + 1) := by
  rw [take_snoc_w hx, take_snoc_w hy, h, he]
theorem ne_of_getD_w {zs ys : List (List Int)} {k : Nat} (he : ¬ zs.getD k [] = ys.getD k []) : decide (zs = ys) = false := by
  simp only [decide_eq_false_iff_not]; rintro rfl; exact he rfl
theorem eq_of_take_w {zs ys : List (List Int)} {n : Nat} (h1 : zs.length = n) (h2 : ys.length = n) (h : zs.take n = ys.take n) : decide (zs = ys) = true := by
  rw [List.take_of_length_le (by omega), List.take_of_length_le (by omega)] at h
  simpa using h

set_option maxHeartbeats 1000000 in
theorem sameAll_any (A B : Option Addr) (n m c d : Nat) (zs ys : List (List Int)) (w : World) (hx : RdW w w.heap.size A zs) (hy : RdW w w.heap.size B ys) (hn : zs.length = n) (hm : ys.length = m) (hb : n ≤ 100000) (hb' : m ≤ 100000)
    (lx : ∀ z ∈ zs, z.length ≤ 4096) (ly : ∀ z ∈ ys, z.length ≤ 4096) :
    Calls Tryd.prog 31 #[.slice A n c, .slice B m d] w fun e w' => e = .returned (.bool (decide (zs = ys))) ∧ ∃ q, w' = w.drewN q := by
  by_cases hnm : n = m
  · subst hnm
    have HX := Lib.hid hx
    have HY := Lib.hid hy
    have HN := Lib.hid hn
    have HM := Lib.hid hm
    have HLX := Lib.hid lx
    have HLY := Lib.hid ly
    clear hn hm hx hy lx ly
    go_enter Tryd.func31, Tryd.ntmps31
    go_wp2_with fail
    go_loopw [5] (fun i wr => ∃ k : Nat, k ≤ n ∧ i = .int .i64 k ∧ Hid (zs.take k = ys.take k) ∧ Hid (∃ q, wr = w.drewN q)) (fun i _ => n - (intOf i).toNat)
    case atStart => exact ⟨0, Nat.zero_le _, rfl, rfl, 0, rfl⟩
    case round =>
      obtain ⟨k, hk, rfl, ht, HQ⟩ := hrel
      by_cases hlt : k < n
      · have hz : k < zs.length := by rw [HN.out]; exact hlt
        have hy : k < ys.length := by rw [HM.out]; exact hlt
        have r1 : RdW wr wr.heap.size A zs := by obtain ⟨q, e⟩ := HQ.out; subst e; exact HX.out
        have r2 : RdW wr wr.heap.size B ys := by obtain ⟨q, e⟩ := HQ.out; subst e; exact HY.out
        obtain ⟨b1, o1, rfl, hb1, hc1⟩ := r1 (by omega)
        obtain ⟨b2, o2, rfl, hb2, hc2⟩ := r2 (by omega)
        obtain ⟨C1, d1, c1, rd1, _, _⟩ := hc1 k hz
        obtain ⟨C2, d2, c2, rd2, _, _⟩ := hc2 k hy
        have hl1 : (zs.getD k []).length ≤ 4096 := HLX.out _ (by rw [List.getD, List.getElem?_eq_getElem hz]; exact List.getElem_mem hz)
        have hl2 : (ys.getD k []).length ≤ 4096 := HLY.out _ (by rw [List.getD, List.getElem?_eq_getElem hy]; exact List.getElem_mem hy)
        have C := Lib.hid (fun q => l6same_any C1 C2 _ _ d1 d2 _ _ (zs.getD k []) (ys.getD k []) (wr.drewN q) (rd1.dr q) (rd2.dr q) rfl rfl (by omega) (by omega))
        have k4 : (k : Int) < (n : Int) := by omega
        clear hc1 hc2 rd1 rd2 r1 r2
        by_cases he : zs.getD k [] = ys.getD k []
        · have hs := Lib.hid (take_succ_eq hz hy ht.out he)
          have hd : decide (zs.getD k [] = ys.getD k []) = true := decide_eq_true he
          rw [hd] at C
          clear he hd ht hz hy
          generalize (zs.getD k []).length = n1 at *
          generalize (ys.getD k []).length = n2 at *
          go_wp2_with fail
          go_quiet ((go_at_call 18; with_reducible exact Calls.quiet_of (C.out _)))
          go_wp2_with fail
          go_roundw
          case rel => exact ⟨k + 1, by omega, by go_num, hs, by obtain ⟨q, e⟩ := HQ.out; subst e; exact ⟨_, World.drewN_drewN _ _ _⟩⟩
          case measure => simp [intOf]; omega
        · have hs := Lib.hid (ne_of_getD_w he)
          have hd : decide (zs.getD k [] = ys.getD k []) = false := decide_eq_false he
          rw [hd] at C
          clear he hd ht hz hy
          generalize (zs.getD k []).length = n1 at *
          generalize (ys.getD k []).length = n2 at *
          go_wp2_with fail
          go_quiet ((go_at_call 18; with_reducible exact Calls.quiet_of (C.out _)))
          go_wp2_with fail
          go_ret
          exact ⟨ret_bool hs.out.symm, by obtain ⟨q, e⟩ := HQ.out; subst e; exact ⟨_, World.drewN_drewN _ _ _⟩⟩
      · have hkn : k = n := by omega
        have hf := Lib.hid (by have := ht.out; rw [hkn] at this; exact eq_of_take_w HN.out HM.out this)
        clear hkn ht
        go_wp2_with fail
        go_ret
        exact ⟨ret_bool hf.out.symm, HQ.out⟩
  · have hne : ((n : Int) != (m : Int)) = true := by simp; omega
    have hf := Lib.hid (show decide (zs = ys) = false by simp only [decide_eq_false_iff_not]; rintro rfl; omega)
    rw [hf.out]
    clear hn hm hx hy lx ly
    go_enter Tryd.func31, Tryd.ntmps31
    go_wp2_with fail
    go_ret
    exact ⟨rfl, 0, rfl⟩
theorem TL.rdw {w : World} {base : Nat} {vt : Value} {hs : List Hd} (h : TL w base vt hs) : ∃ A c, vt = .slice A hs.length c ∧ RdW w w.heap.size A (hs.map Hd.z) := by
  obtain ⟨A, c, hv⟩ := own_shapeT h.row
  refine ⟨A, c, hv, fun h0 => ?_⟩
  rw [List.length_map] at h0
  rcases h.row.2 with ⟨h1, h2⟩ | ⟨g, cap, cur, h1, hg, hh, hn, hcap, hsz, htake⟩
  · omega
  · rw [hv] at h1
    injection h1 with e1 _ e2
    subst e1; subst e2
    have hr := h.row
    rw [hv] at hr
    refine ⟨g, 0, rfl, (hr.lt g rfl).2, fun j hj => ?_⟩
    rw [List.length_map] at hj
    have e : hs[j]? = some hs[j] := List.getElem?_eq_getElem hj
    have e2 : (hs.map Hd.z).getD j [] = hs[j].z := by simp [List.getD, e]
    obtain ⟨A', c', e', hrd, k1, k2⟩ := own_rdc (h.own hs[j] (List.getElem_mem hj))
    unfold Hd.enc at e'
    injection e' with f1 _ f3
    subst f1; subst f3
    rw [e2, Nat.zero_add]
    refine ⟨hs[j].A, hs[j].c, ?_, hrd, k1, k2⟩
    rw [World.ownsRow.cellAt hr j (by omega), List.getElem?_map, e]; rfl
end Go.Proofs.YtedleffmbddccaaDoor

/- Layer 6: the law's two automata, their product. -/
namespace Go.Proofs.YtedleffmbddccaaDoor
open Go.RowKit Go.Sort

theorem row_rdG' {w : World} {g : Nat} {l : List Ed} (h : Row w g 58 (encE l)) : RdG w w.heap.size (some ⟨g, 0, none⟩) l := fun _ =>
  ⟨g, 0, rfl, h.lt, fun j x hj => by
    obtain ⟨e0, e1, e2⟩ := encE_at l j x hj
    rw [Nat.zero_add]
    exact ⟨h.cell _ e0, h.cell _ e1, h.cell _ e2⟩⟩
theorem au_rows' {w : World} {b1 b2 b3 n m k : Nat} {s : Int} {a : Au} (h1 : Row w b1 3 (a.al.map (Value.int .i64))) (h2 : Row w b2 3 (a.mr.map (Value.int .i64))) (h3 : Row w b3 58 (encE a.ed)) (hn : a.al.length = n) (hm : a.mr.length = m) (hk : a.ed.length = k) (hs : a.st = s) (bn : n ≤ 1000) (bm : m ≤ 1000) (bk : k ≤ 1000) :
    AuR w w.heap.size (some ⟨b1, 0, none⟩) n n s (some ⟨b2, 0, none⟩) m m (some ⟨b3, 0, none⟩) k k a :=
  { al := h1.rd, mr := h2.rd, ed := row_rdG' h3, hn := hn, hm := hm, hk := hk, st := hs, cn := by omega, cm := by omega, ck := by omega, bn := by omega, bm := by omega, bk := by omega }
theorem Row.newAt (w : World) (cs : List Value) (e : TypeId) {g : Nat} (hg : w.heap.size = g) : Row (w.alloc (.cells cs.toArray e)) g e cs := by subst hg; exact Row.new w cs e
def twoL : List Au := [⟨[0, 1], 2, [0], [⟨0, 0, 1⟩, ⟨1, 1, 0⟩]⟩, ⟨[1, 2], 2, [0], [⟨0, 1, 1⟩, ⟨1, 2, 0⟩]⟩]
def two1 : Au := ⟨[0, 1], 2, [0], [⟨0, 0, 1⟩, ⟨1, 1, 0⟩]⟩
def two2 : Au := ⟨[1, 2], 2, [0], [⟨0, 1, 1⟩, ⟨1, 2, 0⟩]⟩
set_option maxHeartbeats 4000000 in
theorem two_any (w : World) : Calls Tryd.prog 43 #[] w fun e w' => ∃ A, e = .returned (.slice A 2 2) ∧ RdAs w' w'.heap.size A twoL ∧ Below w.heap.size w w' := by
  go_enter Tryd.func43, Tryd.ntmps43
  go_wp2_with fail
  go_ret
  refine ⟨some ⟨w.heap.size + 1 + 1 + 1 + 1 + 1 + 1, 0, none⟩, rfl, fun _ => ⟨w.heap.size + 1 + 1 + 1 + 1 + 1 + 1, 0, rfl, by simp, fun j a hj => ?_⟩, ?_⟩
  · match j, hj with
    | 0, hj =>
      simp only [twoL, List.getElem?_cons_zero, Option.some.injEq] at hj
      subst hj
      refine ⟨some ⟨w.heap.size, 0, none⟩, 2, 2, 2, some ⟨w.heap.size + 1, 0, none⟩, 1, 1, some ⟨w.heap.size + 1 + 1, 0, none⟩, 2, 2, ?_, ?_, ?_, ?_, ?_⟩
      · exact (Row.newAt _ [.slice (some ⟨w.heap.size, 0, none⟩) 2 2, .int .i64 2, .slice (some ⟨w.heap.size + 1, 0, none⟩) 1 1, .slice (some ⟨w.heap.size + 1 + 1, 0, none⟩) 2 2, .slice (some ⟨w.heap.size + 1 + 1 + 1, 0, none⟩) 2 2, .int .i64 2, .slice (some ⟨w.heap.size + 1 + 1 + 1 + 1, 0, none⟩) 1 1, .slice (some ⟨w.heap.size + 1 + 1 + 1 + 1 + 1, 0, none⟩) 2 2] 34 (by simp)).cell 0 rfl
      · exact (Row.newAt _ [.slice (some ⟨w.heap.size, 0, none⟩) 2 2, .int .i64 2, .slice (some ⟨w.heap.size + 1, 0, none⟩) 1 1, .slice (some ⟨w.heap.size + 1 + 1, 0, none⟩) 2 2, .slice (some ⟨w.heap.size + 1 + 1 + 1, 0, none⟩) 2 2, .int .i64 2, .slice (some ⟨w.heap.size + 1 + 1 + 1 + 1, 0, none⟩) 1 1, .slice (some ⟨w.heap.size + 1 + 1 + 1 + 1 + 1, 0, none⟩) 2 2] 34 (by simp)).cell 1 rfl
      · exact (Row.newAt _ [.slice (some ⟨w.heap.size, 0, none⟩) 2 2, .int .i64 2, .slice (some ⟨w.heap.size + 1, 0, none⟩) 1 1, .slice (some ⟨w.heap.size + 1 + 1, 0, none⟩) 2 2, .slice (some ⟨w.heap.size + 1 + 1 + 1, 0, none⟩) 2 2, .int .i64 2, .slice (some ⟨w.heap.size + 1 + 1 + 1 + 1, 0, none⟩) 1 1, .slice (some ⟨w.heap.size + 1 + 1 + 1 + 1 + 1, 0, none⟩) 2 2] 34 (by simp)).cell 2 rfl
      · exact (Row.newAt _ [.slice (some ⟨w.heap.size, 0, none⟩) 2 2, .int .i64 2, .slice (some ⟨w.heap.size + 1, 0, none⟩) 1 1, .slice (some ⟨w.heap.size + 1 + 1, 0, none⟩) 2 2, .slice (some ⟨w.heap.size + 1 + 1 + 1, 0, none⟩) 2 2, .int .i64 2, .slice (some ⟨w.heap.size + 1 + 1 + 1 + 1, 0, none⟩) 1 1, .slice (some ⟨w.heap.size + 1 + 1 + 1 + 1 + 1, 0, none⟩) 2 2] 34 (by simp)).cell 3 rfl
      · refine au_rows' (a := two1) ?_ ?_ ?_ rfl rfl rfl rfl (by omega) (by omega) (by omega)
        · exact ((((((Row.newAt _ [.int .i64 0, .int .i64 1] 3 (by simp)).alloc _).alloc _).alloc _).alloc _).alloc _).alloc _
        · exact (((((Row.newAt _ [.int .i64 0] 3 (by simp)).alloc _).alloc _).alloc _).alloc _).alloc _
        · exact ((((Row.newAt _ (encE two1.ed) 58 (by simp)).alloc _).alloc _).alloc _).alloc _
    | 1, hj =>
      simp only [twoL, List.getElem?_cons_succ, List.getElem?_cons_zero, Option.some.injEq] at hj
      subst hj
      refine ⟨some ⟨w.heap.size + 1 + 1 + 1, 0, none⟩, 2, 2, 2, some ⟨w.heap.size + 1 + 1 + 1 + 1, 0, none⟩, 1, 1, some ⟨w.heap.size + 1 + 1 + 1 + 1 + 1, 0, none⟩, 2, 2, ?_, ?_, ?_, ?_, ?_⟩
      · exact (Row.newAt _ [.slice (some ⟨w.heap.size, 0, none⟩) 2 2, .int .i64 2, .slice (some ⟨w.heap.size + 1, 0, none⟩) 1 1, .slice (some ⟨w.heap.size + 1 + 1, 0, none⟩) 2 2, .slice (some ⟨w.heap.size + 1 + 1 + 1, 0, none⟩) 2 2, .int .i64 2, .slice (some ⟨w.heap.size + 1 + 1 + 1 + 1, 0, none⟩) 1 1, .slice (some ⟨w.heap.size + 1 + 1 + 1 + 1 + 1, 0, none⟩) 2 2] 34 (by simp)).cell 4 rfl
      · exact (Row.newAt _ [.slice (some ⟨w.heap.size, 0, none⟩) 2 2, .int .i64 2, .slice (some ⟨w.heap.size + 1, 0, none⟩) 1 1, .slice (some ⟨w.heap.size + 1 + 1, 0, none⟩) 2 2, .slice (some ⟨w.heap.size + 1 + 1 + 1, 0, none⟩) 2 2, .int .i64 2, .slice (some ⟨w.heap.size + 1 + 1 + 1 + 1, 0, none⟩) 1 1, .slice (some ⟨w.heap.size + 1 + 1 + 1 + 1 + 1, 0, none⟩) 2 2] 34 (by simp)).cell 5 rfl
      · exact (Row.newAt _ [.slice (some ⟨w.heap.size, 0, none⟩) 2 2, .int .i64 2, .slice (some ⟨w.heap.size + 1, 0, none⟩) 1 1, .slice (some ⟨w.heap.size + 1 + 1, 0, none⟩) 2 2, .slice (some ⟨w.heap.size + 1 + 1 + 1, 0, none⟩) 2 2, .int .i64 2, .slice (some ⟨w.heap.size + 1 + 1 + 1 + 1, 0, none⟩) 1 1, .slice (some ⟨w.heap.size + 1 + 1 + 1 + 1 + 1, 0, none⟩) 2 2] 34 (by simp)).cell 6 rfl
      · exact (Row.newAt _ [.slice (some ⟨w.heap.size, 0, none⟩) 2 2, .int .i64 2, .slice (some ⟨w.heap.size + 1, 0, none⟩) 1 1, .slice (some ⟨w.heap.size + 1 + 1, 0, none⟩) 2 2, .slice (some ⟨w.heap.size + 1 + 1 + 1, 0, none⟩) 2 2, .int .i64 2, .slice (some ⟨w.heap.size + 1 + 1 + 1 + 1, 0, none⟩) 1 1, .slice (some ⟨w.heap.size + 1 + 1 + 1 + 1 + 1, 0, none⟩) 2 2] 34 (by simp)).cell 7 rfl
      · refine au_rows' (a := two2) ?_ ?_ ?_ rfl rfl rfl rfl (by omega) (by omega) (by omega)
        · exact (((Row.newAt _ [.int .i64 1, .int .i64 2] 3 (by simp)).alloc _).alloc _).alloc _
        · exact ((Row.newAt _ [.int .i64 0] 3 (by simp)).alloc _).alloc _
        · exact (Row.newAt _ (encE two2.ed) 58 (by simp)).alloc _
    | j + 2, hj => simp [twoL] at hj
  · exact ((((((((Below.refl _ w).alloc (Nat.le_refl _) _).alloc (by simp) _).alloc (by simp; omega) _).alloc (by simp; omega) _).alloc (by simp; omega) _).alloc (by simp; omega) _).alloc (by simp; omega) _)
theorem two_al : alT twoL = [0, 1, 2] := by simp [alT, twoL, un]
theorem two_prod : prodA twoL = ⟨[0, 1, 2], 4, [0], [⟨0, 0, 1⟩, ⟨1, 1, 2⟩, ⟨2, 0, 3⟩, ⟨2, 2, 0⟩, ⟨3, 2, 1⟩]⟩ := by
  unfold prodA
  rw [two_al]
  decide
theorem two_syn : synR twoL = ((⟨[0, 1, 2], 4, [0], [⟨0, 0, 1⟩, ⟨1, 1, 2⟩, ⟨2, 0, 3⟩, ⟨2, 2, 0⟩, ⟨3, 2, 1⟩]⟩, [[0, 0], [1, 0], [0, 1], [1, 1]]), 0) := by
  unfold synR
  rw [two_prod]
  decide
theorem nil_syn : synR [] = ((⟨[], 1, [0], []⟩, [[]]), 0) := by decide
theorem two_cs : csE6 twoL [0, 0] 2 = 0 := by
  unfold csE6
  rw [two_al]
  decide
theorem two_ref : refR twoL [0, 0] 2 = [1] := by
  unfold refR
  rw [two_cs]
  decide
end Go.Proofs.YtedleffmbddccaaDoor
