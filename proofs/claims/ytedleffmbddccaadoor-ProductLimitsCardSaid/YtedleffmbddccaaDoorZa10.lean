/- Texts merged: what follows were texts of their own. -/
import Derived.Test.YtedleffmbddccaaDoorZa9
import Derived.Deep.RegionHeld3
import Derived.Deep.CutRange
import Derived.Deep.RegionLaw
import Derived.Test.YtedleffmbddccaaDoorZa6
import Derived.Deep.MidRow
import Derived.Deep.AppendLies
import Derived.Test.YtedleffmbddccaaDoorZa8
set_option linter.unusedVariables false
set_option linter.unusedSimpArgs false
set_option linter.unusedSectionVars false
/- Layer 6: Synchronous of the reference, the walk where there is an initial tuple. -/
namespace Go.Proofs.YtedleffmbddccaaDoor
open Go.RowKit Go.Sort Go.Maps

set_option maxHeartbeats 16000000 in
set_option maxRecDepth 100000 in
theorem r6Sync_some (A : Option Addr) (n c : Nat) (l : List Au) (w : World) (h : RdAs w w.heap.size A l) (hn : l.length = n) (hnb : n ≤ 1000) (hr : ∀ a ∈ l, RightW a) (hp : posT l = true) (hS : (prodA l).st ≤ 5000) :
    Calls Tryd.prog 29 #[.slice A n c] w (GivesS2 w (canA (prodA l)) ((fnd (prodA l)).map (dcT (stsT l)))) := by
  have HB1 := Lib.hid ((Below.refl w.heap.size w).alloc (Nat.le_refl _) (.cells #[.slice none 0 0, .int .i64 0, .slice none 0 0, .slice none 0 0] 34))
  have HRes := Lib.hid (Row.new w [.slice none 0 0, .int .i64 0, .slice none 0 0, .slice none 0 0] 34)
  have HLB := Lib.hid (fun W (hW : Below w.heap.size w W) => (h.below hW (Nat.le_refl _)).more hW.size)
  have HAl := Lib.hid (fun W hW => r6Alphabet_own A n c l W (HLB.out W hW) hn (by omega) hr)
  have HIn := Lib.hid (fun W hW => r6Initial_any A n c l W (HLB.out W hW) hn (by omega))
  rw [show iniO l = some (List.replicate n 0) by rw [iniO, ini_pos hr, hp, hn]; rfl] at HIn
  have HMk := Lib.hid (fun W (hW : Below w.heap.size w W) A2 d t (h2 : RdI W W.heap.size A2 t) (hm : t.length = n) => r6Marked_any A n c l A2 d t W (HLB.out W hW) hn (by omega) h2 hm)
  have HSt := Lib.hid (fun W (hW : Below w.heap.size w W) A2 d t ev (h2 : RdI W W.heap.size A2 t) (hm : t.length = n) => r6Step_any A n c l A2 d t ev W (HLB.out W hW) hn hnb h2 hm hr)
  have HA32 := alT_len hr
  have HPR := Lib.hid (prod_right hr)
  have HPO := Lib.hid hp
  have HST0 := Lib.hid (show 0 < (prodA l).st by rw [prod_st hp]; exact prT_pos (posT_iff.1 hp))
  have HS5 := Lib.hid hS
  have HN := Lib.hid hn
  have HRI := Lib.hid hr
  obtain ⟨iI, iI0, iI1, iI2, iI3⟩ := info_parts info_int
  obtain ⟨iE, iE0, iE1, iE2, iE3⟩ := info_edgeE
  obtain ⟨iL, iL0, iL1, iL2, iL3⟩ := info_parts info_ints
  clear h hn hr hp hS
  go_enter Tryd.func29, Tryd.ntmps29
  go_wp2_with fail
  refine (HAl.out _ HB1.out).mono ?_
  rintro e w1 ⟨Aa, ca, rfl, hoa, hb1⟩
  obtain ⟨m, hm⟩ : ∃ m, m = (alT l).length := ⟨_, rfl⟩
  rw [← hm] at hoa HA32 ⊢
  have HM := Lib.hid hm
  have HB2 := Lib.hid (HB1.out.trans (hb1.mono HB1.out.size))
  have HR2 := Lib.hid (HRes.out.below hb1 (by simp))
  have HB3 := Lib.hid (HB2.out.alloc HB2.out.size (.cells #[.slice Aa m ca, .int .i64 0, .slice none 0 0, .slice none 0 0] 34))
  have HOA := Lib.hid hoa
  have hz1 := HR2.out.lt
  clear hm hoa hb1 HAl HB1 HRes
  go_wp2_with fail
  refine (HIn.out _ HB3.out).mono ?_
  rintro e w3 ⟨A3, c3, rfl, ho3, hb3⟩
  simp only [Option.getD_some, List.length_replicate] at ho3
  (try simp only [Option.getD_some, Option.isSome_some, List.length_replicate])
  have HRS := Lib.hid (show RS w1 (w3.alloc (.cells #[.slice A3 n c3] 27)) w1.heap.size (.slice Aa m ca) (.slice none 0 0) (canEn (prodA l) 0) (.slice none 0 0) (canMn (prodA l) 0) (.slice (some ⟨w3.heap.size, 0, none⟩) 1 1) [⟨A3, c3, List.replicate n 0⟩] by
    have := RS.start (zz := List.replicate n 0) hb3 (show w1.heap.size ≤ (w1.alloc (.cells #[.slice Aa m ca, .int .i64 0, .slice none 0 0, .slice none 0 0] 34)).heap.size by simp) (by rw [List.length_replicate]; exact ho3)
    rwa [List.length_replicate] at this)
  have HOA1 := Lib.hid (fun W (hW : Below w1.heap.size w1 W) => own_below HOA.out hW)
  have HRW1 := Lib.hid (fun W (hW : Below w1.heap.size w1 W) => HR2.out.below hW hz1)
  have HBW1 := Lib.hid (fun W (hW : Below w1.heap.size w1 W) => HB2.out.trans (hW.mono HB2.out.size))
  have HZ0 := Lib.hid (show ([(⟨A3, c3, List.replicate n 0⟩ : Hd)]).map Hd.z = (Fd (prodA l) 0).map (dcT (stsT l)) by
    rw [Fd]; simp only [List.map_cons, List.map_nil]; rw [← HN.out, rep_dc])
  clear ho3 hb3 HIn HB3 HR2 HB2
  go_wp2_with fail
  generalize (w3.alloc (.cells #[.slice A3 n c3] 27)) = w4 at *
  go_loopw [7, 8] (fun vt i wr => ∃ (j : Nat) (vm ve : Value) (hs : List Hd), i = .int .i64 j ∧ Hid (j ≤ (Fd (prodA l) j).length) ∧ Hid (RS w1 wr w1.heap.size (.slice Aa m ca) ve (canEn (prodA l) j) vm (canMn (prodA l) j) vt hs) ∧ Hid (hs.map Hd.z = (Fd (prodA l) j).map (dcT (stsT l)))) (fun _ i _ => 6000 - (intOf i).toNat)
  case atStart => exact ⟨0, _, _, _, rfl, Lib.hid (Nat.zero_le _), HRS, HZ0⟩
  case round =>
    clear HRS HZ0
    obtain ⟨j, vm, ve, hs, rfl, hjl, hrs, hmap⟩ := hrel
    obtain ⟨L, hL⟩ : ∃ L, L = (Fd (prodA l) j).length := ⟨_, rfl⟩
    have HLn := Lib.hid hL
    have hjL : j ≤ L := by rw [hL]; exact hjl.out
    have hL5 : L ≤ 5000 := by
      have h1 := Fd_len HPR.out HST0.out j
      have h2 := HS5.out
      have h3 := HST0.out
      rw [← hL] at h1; omega
    have hhs : hs.length = L := by have := congrArg List.length hmap.out; rw [List.length_map, List.length_map, ← hL] at this; exact this
    have hL0 : 0 < L := by
      have h1 := (Fd_mono' (a := prodA l) (Nat.zero_le j)).length_le
      rw [← hL, Fd] at h1; simp at h1; omega
    obtain ⟨gV, cV, rfl, hcV1, hcV2, hcV3⟩ := hrs.out.gl.len hhs hL0
    have HHS := Lib.hid hhs
    clear hL hjl
    by_cases hlt : j < L
    · obtain ⟨q, hq⟩ : ∃ q, q = (Fd (prodA l) j).getD j 0 := ⟨_, rfl⟩
      have hjf : j < (Fd (prodA l) j).length := by rw [← HLn.out]; exact hlt
      have hqr : 0 ≤ q ∧ q < (prodA l).st := by rw [hq]; exact Fd_range HPR.out HST0.out j _ (getD_mem hjf)
      have hqf : (fnd (prodA l)).getD j 0 = q := by rw [hq]; exact getD_pre (Fd_fnd HPR.out HST0.out j) hjf
      obtain ⟨x, hx⟩ : ∃ x, hs[j]? = some x := ⟨_, List.getElem?_eq_getElem (by rw [hhs]; exact hlt)⟩
      have hxz : x.z = dcT (stsT l) q := by
        have h1 := congrArg (fun z => z[j]?) hmap.out
        simp only [List.getElem?_map, hx, List.getElem?_eq_getElem hjf, Option.map_some, Option.some.injEq] at h1
        rw [h1, hq, List.getD, List.getElem?_eq_getElem hjf]; rfl
      have hxl : x.z.length = n := by rw [hxz, dc_len HPO.out, HN.out]
      have hcx := hcV3 j x hx
      obtain ⟨hxr, hxc1, hxc2⟩ := hrs.out.gl.word_rd hx
      have HX := Lib.hid hx
      obtain ⟨Ax, cx, zx⟩ := x
      simp only [Hd.enc] at hcx hxz hxl hxr hxc1 hxc2
      rw [hxl] at hcx hxc1
      have HXZ := Lib.hid hxz
      have HXL := Lib.hid hxl
      have HQ := Lib.hid hq
      have HQR := Lib.hid hqr
      have HQF := Lib.hid hqf
      have hmk : mkT l zx = decide (q ∈ (prodA l).mr) := by
        have h2 := prod_mark HPO.out (dc_in q (posT_iff.1 HPO.out))
        rw [cd_dc (posT_iff.1 HPO.out) hqr.1 (by have := hqr.2; rwa [prod_st HPO.out] at this)] at h2
        rw [hxz, Bool.eq_iff_iff, decide_eq_true_eq]; exact h2.symm
      obtain ⟨r, hrr⟩ : ∃ r, r = decide (q ∈ (prodA l).mr) := ⟨_, rfl⟩
      have HRr := Lib.hid hrr
      have HMk1 := Lib.hid (HMk.out wr (HBW1.out _ hrs.out.bel) Ax cx zx hxr hxl)
      rw [hmk, ← hrr] at HMk1
      have hmy : q ∈ (prodA l).mr → canMn (prodA l) (j + 1) = canMn (prodA l) j ++ [(j : Int)] := fun h => canMn_yes (by rw [hqf]; exact h)
      have hmn : q ∉ (prodA l).mr → canMn (prodA l) (j + 1) = canMn (prodA l) j := fun h => canMn_no (by rw [hqf]; exact h)
      have HMY := Lib.hid hmy
      have HMN := Lib.hid hmn
      have hml := canMn_len (prodA l) j
      have hzp := Lib.hid (fun k => visK_pre HPR.out HST0.out (j := j) (k := k) hjf hq)
      have hgo := Lib.hid (Fd_go hjf)
      have hjz : (0 : Int) ≤ (j : Int) := by omega
      have hjLz : (j : Int) < (L : Int) := by omega
      clear hq hjf hqr hqf hx hxz hxl hmk hrr hmy hmn hcV3 hxr hxc1 hxc2
      go_wp2_with fail
      refine HMk1.out.mono ?_
      rintro e w5 ⟨rfl, hb5⟩
      have HRS5 := Lib.hid (hrs.out.call hb5)
      clear hb5 HMk1 hrs hcx
      go_upto_if 37 with fail
      go_cut [8] from 26 to 90 (fun i wx => i = .int .i64 (j : Int) ∧ ∃ vm, Hid (RS w1 wx w1.heap.size (.slice Aa m ca) ve (canEn (prodA l) j) vm (canMn (prodA l) (j + 1)) (.slice (some ⟨gV, 0, none⟩) L cV) hs))
      case first =>
        cases r
        · have hno := Lib.hid (HMN.out (by have := HRr.out; simpa using this.symm))
          go_wp2_with fail
          go_meet
          case rel => exact ⟨rfl, vm, by rw [hno.out]; exact HRS5⟩
        · obtain ⟨K0, hK0⟩ : ∃ K0, K0 = canMn (prodA l) j := ⟨_, rfl⟩
          obtain ⟨l0, hl0⟩ : ∃ l0, l0 = K0.length := ⟨_, rfl⟩
          have hyes := Lib.hid (show canMn (prodA l) (j + 1) = K0 ++ [(j : Int)] by rw [hK0]; exact HMY.out (by have := HRr.out; simpa using this.symm))
          have HL0 := Lib.hid hl0
          rw [← hK0] at HRS5 hml
          rw [← hl0] at hml
          have hmo := Lib.hid (show w5.ownsRow w1.heap.size 3 1 vm l0 (K0.map (Value.int .i64)) by rw [HL0.out]; exact HRS5.out.gl.ends)
          have c2' := HRS5.out.bx.cell 2 rfl
          have f2' := HRS5.out.bx.frozen 2
          have hs5 := HRS5.out.bel.size
          have hb5' := HRS5.out.bx.lt
          clear hK0 hl0
          obtain ⟨Am, cm, hvm⟩ := own_shapeT hmo.out
          subst hvm
          go_wp2_with (first
            | (at_builtin; refine wpList_append_own_at _ rfl (.tmp 39) (.tmp 41) 27 rfl w1.heap.size 3 iI (.int .i64 0) 1 8 Tryd.underlying27 iI0 iI1 iI2 iI3 rfl (by omega) _ l0 (K0.map (Value.int .i64)) rfl (hmo.out.alloc _) ⟨w5.heap.size, 0, none⟩ 1 1 [.int .i64 (j : Int)] rfl rfl (World.news_of_block (cs := #[.int .i64 (j : Int)]) (t := 3) (fr := (0, 0)) (heap_alloc_new w5 _)) (by simp [Value.oneCell']) (by unfold maxLen; omega) (by omega) (by simp; omega) ?_; intro v6 w6 hown6 hgrow6 _ hat6; obtain ⟨A6, c6, hv6⟩ := own_shapeT hown6; subst hv6
               have hbx6 := Lib.hid ((HRS5.out.alloc (.cells #[.int .i64 (j : Int)] 3)).bx.gr hgrow6 (fun e => row_ne_own (HRS5.out.alloc (.cells #[.int .i64 (j : Int)] 3)).bx (HRS5.out.alloc (.cells #[.int .i64 (j : Int)] 3)).gl.ends (by decide) e.symm))
               have HRS6 := Lib.hid (RS.mark (x := (j : Int)) HRS5.out (show Own w6 w1.heap.size (.slice A6 (l0 + 1) c6) (K0 ++ [(j : Int)]) by unfold Own; rw [List.length_append, ← HL0.out, List.map_append]; exact hown6) hgrow6 (by
                 intro jj hjj
                 rcases hat6 with h1 | h1
                 · left; exact (show (Value.slice Am l0 cm).ownBlock = _ from h1.symm).trans hjj
                 · right; rw [h1] at hjj; injection hjj with hjj; simp at hjj; omega))
               have c2' := hbx6.out.cell 2 rfl
               have f2' := hbx6.out.frozen 2
               clear hown6 hgrow6 hat6))
          rw [← hyes.out] at HRS6
          go_meet
          case rel => exact ⟨rfl, _, HRS6⟩
      case rest =>
        clear hml HMY HMN HRS5
        obtain ⟨rfl, vm, hrs⟩ := hcut
        have pA := hrs.out.bx.cell 0 rfl
        have hLL := Lib.hid (visitL_pre (succK (prodA l) q 0) (Fd (prodA l) j))
        go_wp2_with fail
        clear pA
        go_loopw [7, 9] (fun vt k wx => ∃ (t : Nat) (ve : Value) (hs : List Hd), k = .int .i64 t ∧ t ≤ m ∧ Hid (RS w1 wx w1.heap.size (.slice Aa m ca) ve (canEn (prodA l) j ++ outK (prodA l) j t) vm (canMn (prodA l) (j + 1)) vt hs) ∧ Hid (hs.map Hd.z = (visitL (Fd (prodA l) j) (succK (prodA l) q t)).map (dcT (stsT l))) ∧ Hid (hs[j]? = some ⟨Ax, cx, zx⟩)) (fun _ k _ => m - (intOf k).toNat)
        case atStart => exact ⟨0, ve, hs, rfl, Nat.zero_le _, by rw [outK_zero, List.append_nil]; exact hrs, by rw [succK_zero, visitL_nil]; exact hmap, HX⟩
        case round =>
          clear hrs hmap HX HHS hcV1 hcV2
          obtain ⟨t, ve, hs, rfl, htm, hrs, hmap, hX⟩ := hrel
          obtain ⟨fl, hfl⟩ : ∃ fl, fl = visitL (Fd (prodA l) j) (succK (prodA l) q t) := ⟨_, rfl⟩
          have HFL := Lib.hid hfl
          obtain ⟨es, hes⟩ : ∃ es, es = canEn (prodA l) j ++ outK (prodA l) j t := ⟨_, rfl⟩
          have HES := Lib.hid hes
          rw [← hfl] at hmap
          rw [← hes] at hrs
          obtain ⟨N2, hN2⟩ : ∃ N2, N2 = fl.length := ⟨_, rfl⟩
          have HN2 := Lib.hid hN2
          have hpre : Fd (prodA l) j <+: fl := by rw [hfl]; exact visitL_pre _ _
          have hLN : L ≤ N2 := by have := hpre.length_le; rw [← HLn.out, ← hN2] at this; exact this
          have hpf : fl <+: fnd (prodA l) := by rw [hfl]; exact hzp.out t
          have hN5 : N2 ≤ 5000 := by
            have h1 := hpf.length_le
            have h2 := fnd_len HPR.out
            have h3 := HS5.out
            rw [← hN2] at h1; omega
          have hrg := Lib.hid (fun y (hy : y ∈ fl) => fnd_range HPR.out y (hpf.subset hy))
          have hhs : hs.length = N2 := by have := congrArg List.length hmap.out; rw [List.length_map, List.length_map, ← hN2] at this; exact this
          obtain ⟨gV2, cV2, rfl, hcV1, hcV2, hcV3⟩ := hrs.out.gl.len hhs (by omega)
          have hcx := hcV3 j _ hX.out
          obtain ⟨hxr, hxc1, hxc2⟩ := hrs.out.gl.word_rd hX.out
          simp only [Hd.enc] at hcx hxr
          rw [HXL.out] at hcx
          have HHS := Lib.hid hhs
          have hgW : gV2 < wr.heap.size := (hrs.out.gl.row.lt gV2 rfl).2
          have hbs := hrs.out.bel.size
          have pA := hrs.out.bx.cell 0 rfl
          have hal : (prodA l).al.length = m := by rw [HM.out]; rfl
          clear hfl hes hN2 hpre hpf hhs hcV3 hxc1 hxc2
          by_cases htl : t < m
          · have hta : t < (alT l).length := by rw [← HM.out]; exact htl
            have HOw := Lib.hid (HOA1.out wr hrs.out.bel)
            have hoa' := HOw.out
            rw [HM.out] at hoa'
            obtain ⟨gA, rfl, _, hgA, hcA⟩ := own_cell6 hoa' (j := t) hta
            obtain ⟨ev, hev⟩ : ∃ ev, ev = (alT l).getD t 0 := ⟨_, rfl⟩
            have hevm : ev ∈ alT l := by rw [hev]; exact getD_mem hta
            rw [← hev] at hcA
            have HEV := Lib.hid hev
            have HLK := Lib.hid (link2 HRI.out HPO.out HQR.out hevm)
            have hbx0 := hrs.out.bx.lt
            obtain ⟨R, hR⟩ : ∃ R, R = stpT l zx ev := ⟨_, rfl⟩
            rw [← HXZ.out, ← hR] at HLK
            have HS1 := Lib.hid (fun W (hW : Below wr.heap.size wr W) => HSt.out W (HBW1.out _ (hrs.out.bel.trans (hW.mono hrs.out.bel.size))) Ax cx zx ev ((hxr.below hW (Nat.le_refl _)).more hW.size) HXL.out)
            rw [← hR] at HS1
            have hbr := Lib.hid (Below.refl wr.heap.size wr)
            have hbd := Lib.hid ((Below.refl wr.heap.size wr).drew)
            have hCC := Lib.hid (fun W (hW : Below wr.heap.size wr W) => (⟨(hW.cell (p := ⟨gV2, j, none⟩) hgW).trans hcx, (hW.cell (p := ⟨w1.heap.size, 0, none⟩) hbx0).trans pA, (hW.cell (p := ⟨gA, t, none⟩) hgA).trans hcA⟩ : W.cell? ⟨gV2, j, none⟩ = some (.slice Ax n cx) ∧ W.cell? ⟨w1.heap.size, 0, none⟩ = some (.slice (some ⟨gA, 0, none⟩) m ca) ∧ W.cell? ⟨gA, t, none⟩ = some (.int .i64 ev)))
            have htz : (0 : Int) ≤ (t : Int) := by omega
            have htm2 : (t : Int) < (m : Int) := by omega
            have hjN : (j : Int) < (N2 : Int) := by omega
            obtain ⟨lz, hlz⟩ : ∃ lz, lz = (R.getD []).length := ⟨_, rfl⟩
            obtain ⟨ps, hps⟩ : ∃ ps, ps = R.isSome := ⟨_, rfl⟩
            have HLZ := Lib.hid hlz
            have HPS := Lib.hid hps
            clear hoa' hev hevm hR hta hlz hps
            go_wp2_with fail
            go_upto_region 14 with fail
            go_cut [10, 11] from 51 to 64 (fun v p wx => ∃ A5 c5, v = .slice A5 lz c5 ∧ p = .bool ps ∧ Hid (Own wx wr.heap.size (.slice A5 (R.getD []).length c5) (R.getD [])) ∧ Hid (Below wr.heap.size wr wx))
            case first =>
              go_region_held3 (fun w' => w'.cell? ⟨gV2, j, none⟩ = some (.slice Ax n cx) ∧ w'.cell? ⟨w1.heap.size, 0, none⟩ = some (.slice (some ⟨gA, 0, none⟩) m ca) ∧ w'.cell? ⟨gA, t, none⟩ = some (.int .i64 ev)) (first | with_reducible exact ⟨hcx, pA, hcA⟩ | go_keep)
                (first
                | (go_simp; go_at_call 35; (first | with_reducible refine (HS1.out _ hbr.out).mono ?_ | with_reducible refine (HS1.out _ hbd.out).mono ?_); rintro e w5 ⟨A5, c5, rfl, ho5, hb5⟩
                   have HB5 := Lib.hid (by first | exact hb5 | exact (Below.refl wr.heap.size wr).drew.trans hb5 : Below wr.heap.size wr w5)
                   have HO5 := Lib.hid ho5
                   obtain ⟨hcx, pA, hcA⟩ := hCC.out w5 HB5.out
                   clear hb5 ho5))
              all_goals
                go_wp2_with fail
                go_meet
                case rel => exact ⟨A5, c5, by rw [HLZ.out], by rw [HPS.out], by first | exact HO5 | exact Lib.hid (own_dr HO5.out 1), by first | exact HB5 | exact Lib.hid HB5.out.drew⟩
            case rest =>
              obtain ⟨A5, c5, rfl, rfl, hO5, hB5⟩ := hcut
              have hrs5 := Lib.hid (hrs.out.call hB5.out)
              have hkal : t < (prodA l).al.length := by rw [hal]; exact htl
              rcases HLK.out with ⟨u, hu, hed, hur⟩ | ⟨hu, hed⟩
              · have hRs : R = some (dcT (stsT l) u) := hu
                obtain rfl : ps = true := by rw [HPS.out, hRs]; rfl
                obtain ⟨tz, htz⟩ : ∃ tz, tz = dcT (stsT l) u := ⟨_, rfl⟩
                have htn : tz.length = n := by rw [htz, dc_len HPO.out, HN.out]
                have hlz : n = lz := by rw [HLZ.out, hRs, Option.getD_some, ← htz, htn]
                have hO6 := hO5.out
                rw [hRs, Option.getD_some, ← htz, htn] at hO6
                have HO6 := Lib.hid hO6
                have HTN := Lib.hid htn
                have HTZ := Lib.hid htz
                subst hlz
                have hrd5 : RdI wc wc.heap.size A5 tz := by
                  obtain ⟨_, _, e1, k1, _, _⟩ := own_rdc hO6
                  injection e1 with e1 _ _
                  subst e1; exact k1
                obtain ⟨g', cap', e', hrdw⟩ := hrs5.out.rdw HHS.out (by omega)
                simp only [Value.slice.injEq, Option.some.injEq, Addr.mk.injEq, and_true, true_and] at e'
                obtain ⟨rfl, rfl⟩ := e'
                have hur2 : 0 ≤ u ∧ u < prT (stsT l) := by rw [← prod_st HPO.out]; exact hur
                have hvis : visitL (Fd (prodA l) j) (succK (prodA l) q (t + 1)) = visit fl u := by
                  rw [succK_some hkal (x := ⟨q, ev, u⟩) (by rw [show (prodA l).al = alT l from rfl, ← HEV.out]; exact hed), visitL_snoc, ← HFL.out]
                have hpr1 := hzp.out (t + 1)
                rw [hvis] at hpr1
                have hidx : (visit fl u).idxOf u = (fnd (prodA l)).idxOf u := (idx_pre hpr1 (mem_visit.2 (.inr rfl))).symm
                obtain ⟨I, hI⟩ : ∃ I, I = (fnd (prodA l)).idxOf u := ⟨_, rfl⟩
                rw [← hI] at hidx
                have hf6 := fnd6_map HPO.out (fl := fl) (fun y hy => by have := hrg.out y hy; rwa [prod_st HPO.out] at this) hur2
                have HFd := r6Find_any (some ⟨gV2, 0, none⟩) A5 N2 n cV2 c5 (hs.map Hd.z) tz wc hrdw hrd5 (by rw [List.length_map]; exact HHS.out) htn (by omega) (by omega) (fun z hz => by
                  rw [hmap.out] at hz
                  obtain ⟨y, _, rfl⟩ := List.mem_map.1 hz
                  rw [dc_len HPO.out, HN.out]; omega)
                rw [hmap.out, htz, hf6] at HFd
                have HFd := Lib.hid HFd
                have HVIS := Lib.hid hvis
                have HIDX := Lib.hid hidx
                have HOUT := Lib.hid (show canEn (prodA l) j ++ outK (prodA l) j (t + 1) = es ++ [⟨(j : Int), ev, (I : Int)⟩] by
                  rw [outK_some hkal (x := ⟨q, ev, u⟩) (by rw [HQF.out, show (prodA l).al = alT l from rfl, ← HEV.out]; exact hed), ← List.append_assoc, ← HES.out, hI])
                have hel : es.length ≤ 170000 := by
                  have h1 := canEn_le HPR.out j
                  have h2 := succK_len (prodA l) ((fnd (prodA l)).getD j 0) t
                  have h3 : (outK (prodA l) j t).length ≤ (prodA l).al.length := by unfold outK; rw [List.length_map]; exact h2
                  rw [HES.out, List.length_append]
                  rw [hal] at h1 h3
                  have h4 : j * m ≤ 5000 * 32 := Nat.mul_le_mul (by omega) HA32
                  omega
                clear hRs htz htn hO6 hrd5 hrdw hur hur2 hvis hpr1 hidx hI hf6 hed HLK hCC HS1 hcx pA hcA hkal hbr hbd hu hO5
                go_wp2_with fail
                refine HFd.out.mono ?_
                rintro e w6 ⟨rfl, q6, rfl⟩
                have hrs6 := Lib.hid (hrs5.out.drewN q6)
                have HO7 := Lib.hid (own_dr HO6.out q6)
                have HB7 := Lib.hid (below_drewN hB5.out q6)
                clear HFd hrs5 HO6 hB5
                generalize World.drewN wc q6 = w6 at *
                go_upto_if 71 with fail
                go_cut [7, 12] from 51 to 90 (fun vt tv wx => ∃ hs', tv = .int .i64 (I : Int) ∧ Hid (RS w1 wx w1.heap.size (.slice (some ⟨gA, 0, none⟩) m ca) ve es vm (canMn (prodA l) (j + 1)) vt hs') ∧ Hid (hs'.map Hd.z = (visit fl u).map (dcT (stsT l))) ∧ Hid (hs'[j]? = some ⟨Ax, cx, zx⟩))
                case first =>
                  by_cases hin : u ∈ fl
                  · rw [if_pos hin]
                    have hvf : visit fl u = fl := by unfold visit; rw [if_pos hin]
                    have hiI : fl.idxOf u = I := by rw [← HIDX.out, hvf]
                    have hvf := Lib.hid hvf
                    rw [hiI]
                    clear hin hiI
                    go_wp2_with fail
                    go_meet
                    case rel => exact ⟨hs, rfl, hrs6, by rw [hvf.out]; exact hmap, hX⟩
                  · rw [if_neg hin]
                    have hvf : visit fl u = fl ++ [u] := by unfold visit; rw [if_neg hin]
                    have hiI : I = N2 := by
                      rw [← HIDX.out, hvf, List.idxOf_append, if_neg hin, HN2.out]; simp
                    have hmap2 := Lib.hid (show (hs ++ [(⟨A5, c5, tz⟩ : Hd)]).map Hd.z = (visit fl u).map (dcT (stsT l)) by
                      rw [hvf, List.map_append, List.map_append, hmap.out]; simp [HTZ.out])
                    have hX2 := Lib.hid (show (hs ++ [(⟨A5, c5, tz⟩ : Hd)])[j]? = some ⟨Ax, cx, zx⟩ by
                      rw [List.getElem?_append_left (by rw [HHS.out]; omega)]; exact hX.out)
                    have hrow := hrs6.out.gl.row
                    rw [HHS.out] at hrow
                    have HROW := Lib.hid hrow
                    have hz6 := hrs6.out.bel.size
                    have hzz := HB7.out.size
                    obtain rfl : N2 = I := hiI.symm
                    clear hin hvf hrow
                    go_wp2_with (at_builtin; refine wpList_append_own _ rfl (.tmp 74) (.tmp 76) 35 rfl w1.heap.size 27 iL (.slice none 0 0) 1 24 Tryd.underlying35 iL0 iL1 iL2 iL3 rfl (by omega) _ N2 (hs.map Hd.enc) rfl (HROW.out.alloc _) ⟨w6.heap.size, 0, none⟩ 1 1 [.slice A5 n c5] rfl rfl (World.news_of_block (cs := #[.slice A5 n c5]) (t := 27) (fr := (0, 0)) (heap_alloc_new w6 _)) (by simp [Value.oneCell']) (by unfold maxLen; omega) (by omega) (by simp; omega) ?_; intro vt7 w7 ho7 hg7 _)
                    have hrs7 := Lib.hid (show RS w1 w7 w1.heap.size (.slice (some ⟨gA, 0, none⟩) m ca) ve es vm (canMn (prodA l) (j + 1)) vt7 (hs ++ [⟨A5, c5, tz⟩]) from by
                      refine RS.word (n := N2 + 1) (x := ⟨A5, c5, tz⟩) hrs.out (HB7.out.alloc HB7.out.size (.cells #[.slice A5 n c5] 27)) ?_ ?_ (by rw [HHS.out]) hg7
                      · have := HO7.out.alloc (.cells #[.slice A5 n c5] 27)
                        unfold Hd.enc; simp only [HTN.out]; unfold Own; rw [HTN.out]; rw [HTN.out] at this; exact this
                      · unfold Hd.enc at ho7 ⊢; simp only [HTN.out]; exact ho7)
                    clear ho7 hg7
                    go_wp2_with fail
                    go_meet
                    case rel => exact ⟨_, rfl, hrs7, hmap2, hX2⟩
                case rest =>
                  clear hrs hrs6 hmap hX HO7 HB7
                  obtain ⟨hs', rfl, hrs, hmap, hX⟩ := hcut
                  have u0 := hrs.out.bx.cell 3 rfl
                  have u3 := hrs.out.bx.frozen 3
                  have pA := hrs.out.bx.cell 0 rfl
                  have hbl := hrs.out.bx.lt
                  have hcA := (HOA1.out wc hrs.out.bel)
                  rw [HM.out] at hcA
                  obtain ⟨gA', eA, _, _, hcA⟩ := own_cell6 hcA (j := t) (by rw [← HM.out]; exact htl)
                  simp only [Option.some.injEq, Addr.mk.injEq, and_true] at eA
                  subst eA
                  rw [← HEV.out] at hcA
                  have v0 := fun cs : Array Value => (World.cell?_alloc_lt wc (.cells cs 58) ⟨w1.heap.size, 3, none⟩ hbl).trans u0
                  have v1 := fun cs : Array Value => (frozen?_alloc_cells wc cs 58 ⟨w1.heap.size, 3, none⟩).trans u3
                  have hneV : some w1.heap.size ≠ ve.ownBlock := fun e => row_ne_own hrs.out.bx hrs.out.eo (by decide) e.symm
                  have heo := Lib.hid hrs.out.eo
                  have hbs2 := hrs.out.bel.size
                  have hcA2 := Lib.hid hcA
                  go_wp2_with fail
                  go_region_law (first
                    | (refine step_append_lies _ (by rfl) (.tmp 79) (.tmp 88) _ (by rfl) w1.heap.size 58 iE (.agg #[.int .i64 0, .int .i64 0, .int .i64 0]) 3 24 Tryd.underlying32 iE0 iE1 iE2 iE3 rfl (by omega) ve es.length (encE es) (by rfl) (by first | exact (heo.out.alloc _).drew | exact (heo.out.alloc _)) ⟨wc.heap.size, 0, none⟩ 1 1 [.int .i64 (j : Int), .int .i64 ev, .int .i64 (I : Int)] (by rfl) (by rfl) (World.news_of_block (cs := #[.int .i64 (j : Int), .int .i64 ev, .int .i64 (I : Int)]) (t := 58) (fr := (0, 0)) (heap_alloc_new wc _)) (by simp [Value.oneCell']) (by omega) (by unfold maxLen; omega) (by omega) (by simp; omega) (wc.heap.size + 1) (by simp) ?_; intro gG capG w6 hown6 hgrow6 hat6 hlt6; have hc6 := (hgrow6.cell_far ⟨w1.heap.size, 3, none⟩ (by simp; omega) hneV).trans (v0 _); have hf6 := (hgrow6.frozen_far ⟨w1.heap.size, 3, none⟩ (by simp; omega) hneV).trans (v1 _)))
                  all_goals
                    have hown7 : OwnE w6 w1.heap.size (.slice (some ⟨gG, 0, none⟩) (es.length + 1) capG) (es ++ [⟨(j : Int), ev, (I : Int)⟩]) := by
                      unfold OwnE; rw [encE_app, List.length_append]; exact hown6
                    have hrs7 := Lib.hid (show RS w1 (w6.setCell ⟨w1.heap.size, 3, none⟩ (.slice (some ⟨gG, 0, none⟩) (es.length + 1) capG)) w1.heap.size (.slice (some ⟨gA, 0, none⟩) m ca) (.slice (some ⟨gG, 0, none⟩) (es.length + 1) capG) (es ++ [⟨(j : Int), ev, (I : Int)⟩]) vm (canMn (prodA l) (j + 1)) _ hs' from by
                      first
                      | exact RS.edge hrs.out hown7 hgrow6
                      | exact RS.edge hrs.out.drew hown7 hgrow6)
                    rw [← HOUT.out] at hrs7
                    clear hown7 hown6 hgrow6 hat6 hc6 hf6 hlt6
                    go_wp2_with fail
                    go_roundw
                    case measure => simp [intOf]; omega
                    case rel => exact ⟨t + 1, _, hs', by go_num, by omega, by first | exact hrs7 | exact Lib.hid hrs7.out.drew, by rw [HVIS.out]; exact hmap, hX⟩
              · have hRn : R = none := hu
                obtain rfl : ps = false := by rw [HPS.out, hRn]; rfl
                clear hRn
                have HVIS := Lib.hid (show visitL (Fd (prodA l) j) (succK (prodA l) q (t + 1)) = fl by rw [succK_none hkal (by rw [show (prodA l).al = alT l from rfl, ← HEV.out]; exact hed), ← HFL.out])
                have HOUT := Lib.hid (show canEn (prodA l) j ++ outK (prodA l) j (t + 1) = es by rw [outK_none hkal (by rw [HQF.out, show (prodA l).al = alT l from rfl, ← HEV.out]; exact hed), ← HES.out])
                clear hed hrs HLK hCC HS1 hcx pA hcA hkal hbr hbd
                go_wp2_with fail
                go_roundw
                case rel => exact ⟨t + 1, ve, hs, by go_num, by omega, by rw [HOUT.out]; exact hrs5, by rw [HVIS.out]; exact hmap, hX⟩
                case measure => simp [intOf]; omega
          · obtain rfl : t = m := by omega
            have hFs : fl = Fd (prodA l) (j + 1) := by rw [HFL.out, succK_all HPR.out hal, hgo.out, HQ.out]
            have hEs : es = canEn (prodA l) (j + 1) := by rw [HES.out, outK_all HPR.out hal]
            rw [hFs] at hmap
            rw [hEs] at hrs
            have hj1 := Lib.hid (show j + 1 ≤ (Fd (prodA l) (j + 1)).length by rw [← hFs, ← HN2.out]; omega)
            clear hFs hEs hcx hal
            go_wp2_with fail
            go_roundw
            case rel => exact ⟨j + 1, _, _, hs, by go_num, hj1, hrs, hmap⟩
            case measure => simp [intOf]; omega
    · obtain rfl : j = L := by omega
      have hfn : fnd (prodA l) = Fd (prodA l) j := fnd_at HPR.out HST0.out (by rw [← HLn.out]; exact Nat.le_refl _) (by
        have := Fd_len HPR.out HST0.out j
        rw [← HLn.out] at this; exact this)
      have hlen : (fnd (prodA l)).length = j := by rw [hfn]; exact HLn.out.symm
      have hcm : canM (prodA l) = canMn (prodA l) j := by rw [← hlen]; rfl
      have hce : (canA (prodA l)).ed = canEn (prodA l) j := by rw [← hlen]; rfl
      have hmapF := hmap.out
      rw [← hfn] at hmapF
      have HMP := Lib.hid hmapF
      obtain ⟨W8, hW8⟩ : ∃ W8, W8 = wr.setCell ⟨w1.heap.size, 1, none⟩ (.int .i64 (j : Int)) := ⟨_, rfl⟩
      have hm8 : Own W8 w1.heap.size vm (canMn (prodA l) j) := by rw [hW8]; exact own_poke hrs.out.gl.ends hrs.out.bx (by decide)
      have he8 : OwnE W8 w1.heap.size ve (canEn (prodA l) j) := by rw [hW8]; exact own_poke hrs.out.eo hrs.out.bx (by decide)
      have hOA := own_poke (j := 1) (u := .int .i64 (j : Int)) (HOA1.out wr hrs.out.bel) hrs.out.bx (by decide)
      rw [← hW8] at hOA
      have ht8 := own_poke (j := 1) (u := .int .i64 (j : Int)) hrs.out.gl.row hrs.out.bx (by decide)
      rw [← hW8] at ht8
      have ho8 : ∀ h ∈ hs, Own W8 w1.heap.size h.enc h.z := fun y hy => by rw [hW8]; exact own_poke (hrs.out.gl.own y hy) hrs.out.bx (by decide)
      have HT8 := Lib.hid ht8
      have HO8 := Lib.hid ho8
      obtain ⟨M3, d3, hvm, hM1, hM2, hM3⟩ := own_rdc hm8
      obtain ⟨E3, g3, hve, hE1, hE2, hE3⟩ := ownE_rd he8
      obtain ⟨_, _, e1, k1, k2, k3⟩ := own_rdc (show Own W8 _ (.slice Aa (alT l).length ca) (alT l) by rw [HM.out] at hOA; exact hOA)
      injection e1 with e1 _ e3
      subst e1 e3
      subst hvm hve
      have hMo := own_from hm8
      have hEo := own_from he8
      have hAo := own_from hOA
      have hml := canMn_len (prodA l) j
      have hel := canEn_le HPR.out j
      have hal : (prodA l).al.length = m := by rw [HM.out]; rfl
      rw [hal] at hel
      have hel2 : j * m ≤ 5000 * 32 := Nat.mul_le_mul hL5 HA32
      have hz := hz1
      have hfin := Lib.hid (show AuF (canA (prodA l)) (.agg #[.slice Aa m ca, .int .i64 (j : Int), .slice M3 (canMn (prodA l) j).length d3, .slice E3 (canEn (prodA l) j).length g3]) W8 (w.heap.size + 1) from
        ⟨Aa, m, ca, (j : Int), M3, _, d3, E3, _, g3, rfl,
          { al := k1, mr := by show RdI _ _ _ (canM (prodA l)); rw [hcm]; exact hM1, ed := by rw [hce]; exact hE1, hn := HM.out.symm, hm := by show (canM (prodA l)).length = _; rw [hcm], hk := by rw [hce], st := by show ((fnd (prodA l)).length : Int) = _; rw [hlen], cn := ⟨by rw [HM.out]; exact k2, k3⟩, cm := ⟨hM2, hM3⟩, ck := ⟨hE2, hE3⟩, bn := by omega, bm := by omega, bk := by omega },
          fun b o f e => by have := hAo b o f e; simpa using this, fun b o f e => by have := hMo b o f e; omega, fun b o f e => by have := hEo b o f e; omega⟩)
      have hR := Lib.hid (HRW1.out wr hrs.out.bel)
      have HRS8 := Lib.hid hrs.out
      have HBW8 := Lib.hid (show Below w.heap.size w W8 by rw [hW8]; exact (HBW1.out wr hrs.out.bel).setCell (p := ⟨w1.heap.size, 1, none⟩) (Nat.le_of_lt hz) _)
      have HW8 := Lib.hid hW8
      clear hW8 ht8 ho8 hm8 he8
      clear hfn hcm hce hmapF hM1 hE1 k1 hMo hEo hAo hOA hrs hcV3 hlen hel2
      obtain ⟨lm, hlm⟩ : ∃ lm, lm = (canMn (prodA l) j).length := ⟨_, rfl⟩
      obtain ⟨le, hle⟩ : ∃ le, le = (canEn (prodA l) j).length := ⟨_, rfl⟩
      rw [← hlm, ← hle] at HRS8 hfin
      rw [← hlm] at hM2
      rw [← hle] at hE2
      clear hlm hle
      have x0 := HRS8.out.bx.cell 0 rfl
      have x1 := HRS8.out.bx.cell 1 rfl
      have x2 := HRS8.out.bx.cell 2 rfl
      have x3 := HRS8.out.bx.cell 3 rfl
      have y1 := HRS8.out.bx.frozen 1
      have r0 := hR.out.cell 0 rfl
      have r1 := hR.out.cell 1 rfl
      have r2 := hR.out.cell 2 rfl
      have r3 := hR.out.cell 3 rfl
      have s0 := hR.out.frozen 0
      have s1 := hR.out.frozen 1
      have s2 := hR.out.frozen 2
      have s3 := hR.out.frozen 3
      go_wp2_with fail
      (try simp only [Exit.inBlock, Exit.then])
      refine bodyPost_ret (v := .tuple #[.agg #[.slice Aa m ca, .int .i64 (j : Int), .slice M3 lm d3, .slice E3 le g3], .slice (some ⟨gV, 0, none⟩) j cV]) ?_ rfl ⟨_, _, hs, rfl, ?_, ?_, HMP.out, ?_⟩
      · rw [results_cell_tmp1 rfl]
        go_simp
      · rw [← HW8.out]; exact (hfin.out.set4 (Nat.lt_succ_self _) _ _ _ _).more (Nat.le_succ _)
      · rw [← HW8.out]; exact ⟨own_more (own_put4 HT8.out hz _ _ _ _) (Nat.le_of_lt hz), fun x hx => own_more (own_put4 (HO8.out x hx) hz _ _ _ _) (Nat.le_of_lt hz)⟩
      · rw [← HW8.out]; exact below_set4 HBW8.out (Nat.le_refl _) _ _ _ _
theorem r6Sync_any (A : Option Addr) (n c : Nat) (l : List Au) (w : World) (h : RdAs w w.heap.size A l) (hn : l.length = n) (hnb : n ≤ 1000) (hr : ∀ a ∈ l, RightW a) (hS : (prodA l).st ≤ 5000) :
    Calls Tryd.prog 29 #[.slice A n c] w (GivesS2 w (canA (prodA l)) ((fnd (prodA l)).map (dcT (stsT l)))) := by
  cases hp : posT l
  · exact r6Sync_none A n c l w h hn hnb hr hp
  · exact r6Sync_some A n c l w h hn hnb hr hp hS
end Go.Proofs.YtedleffmbddccaaDoor

/- Layer 3: Events of the law's sets; Make of the law's package. -/
namespace Go.Proofs.YtedleffmbddccaaDoor

section
open Go.RowKit Go.Sort
/-- Some events below n, in increasing order. -/
structure Ev5 (n : Int) (zs : List Int) : Prop where
  r : ∀ x ∈ zs, 0 ≤ x ∧ x < n
  o : zs.Pairwise (· < ·)
theorem Ev5.nil (n : Int) : Ev5 n [] := ⟨by simp, List.Pairwise.nil⟩
theorem Ev5.more {n : Int} {zs : List Int} (h : Ev5 n zs) : Ev5 (n + 1) zs := ⟨fun x hx => by have := h.r x hx; omega, h.o⟩
theorem Ev5.snoc {n : Int} {zs : List Int} (h : Ev5 n zs) (h0 : 0 ≤ n) : Ev5 (n + 1) (zs ++ [n]) :=
  ⟨fun x hx => by
    rcases List.mem_append.1 hx with hx | hx
    · have := h.r x hx; omega
    · simp at hx; subst hx; omega,
   List.pairwise_append.2 ⟨h.o, by simp, fun x hx y hy => by simp at hy; subst hy; exact (h.r x hx).2⟩⟩
theorem Ev5.len {n : Nat} {zs : List Int} (h : Ev5 (n : Int) zs) : zs.length ≤ n := nodup_len (lt_nodup h.o) h.r

set_option maxHeartbeats 2000000 in
set_option maxRecDepth 100000 in
theorem events_any (x : Int) (w : World) (hx : (Lit.int .u8 x).wf = true) :
    Calls Tryd.prog 58 #[.int .u8 x] w fun e w' => ∃ zs, Ev5 5 zs ∧ GivesC w zs e w' := by
  obtain ⟨i0, hi, hz0, hz1, hz2⟩ := info_parts info_int
  go_enter Tryd.func58, Tryd.ntmps58
  go_wp2_with fail
  go_loopw [3, 4] (fun v i wr => ∃ (t : Nat) (zs : List Int), t ≤ 5 ∧ i = .int .i64 t ∧ Hid (Ev5 (t : Int) zs) ∧ Hid (FP w v zs wr)) (fun _ i _ => 5 - (intOf i).toNat)
  case atStart => exact ⟨0, [], Nat.zero_le _, rfl, Ev5.nil _, ⟨Below.refl _ _, World.ownsRow_nil _ _ _ _⟩⟩
  case round =>
    obtain ⟨t, zs, ht5, rfl, hev, hfp⟩ := hrel
    by_cases hlt : t < 5
    · have hl := hev.out.len
      have z0 : (0 : Int) ≤ (t : Int) := by omega
      have hsz := hfp.out.bel.size
      have hm := Lib.hid (hev.out.more)
      have hs := Lib.hid (hev.out.snoc (by omega))
      go_upto_if 13 with fail
      generalize (bits BinOp.and IntKind.u8 (x / 2 ^ t) 1 == 1) = cb
      cases cb
      · go_wp2_with fail
        go_roundw
        case rel => exact ⟨t + 1, zs, by omega, by go_num, by simpa using hm, hfp⟩
        case measure => simp [intOf]; omega
      · go_wp2_with (at_builtin; refine wpList_append_own _ rfl _ _ 27 rfl w.heap.size 3 i0 (.int .i64 0) 1 8 Tryd.underlying27 hi hz0 hz1 hz2 rfl (by decide) _ _ _ rfl (hfp.out.ow.alloc _) ⟨wr.heap.size, 0, none⟩ 1 1 [.int .i64 (t : Int)] rfl rfl (news_one (by simp)) (by intro u hu; simp at hu; subst hu; rfl) (by unfold maxLen; omega) (by omega) (by simp; omega) ?_)
        intro v5 w5 hown5 hgrow5 _
        have hO5 := own_app (K' := zs ++ [(t : Int)]) rfl hfp.out.bel hfp.out.ow hown5 hgrow5 (Nat.le_refl _)
        have hF6 := Lib.hid (show FP w v5 (zs ++ [(t : Int)]) w5 from ⟨hO5.2, hO5.1⟩)
        clear hown5 hgrow5 hO5
        go_wp2_with fail
        go_roundw
        case rel => exact ⟨t + 1, zs ++ [(t : Int)], by omega, by go_num, by simpa using hs, hF6⟩
        case measure => simp [intOf]; omega
    · obtain rfl : t = 5 := by omega
      obtain ⟨A', c', rfl, hrd, hc1, hc2⟩ := own_rdc hfp.out.ow
      have HRD := Lib.hid hrd
      have HF := Lib.hid hfp.out
      clear hfp hrd
      go_wp2_with fail
      go_ret
      exact ⟨zs, hev.out, A', c', rfl, HRD.out, HF.out.bel, hc1, hc2⟩
end

section
open Go.RowKit Go.Sort
/-- The cells of a graph. -/
structure GrC (cs : Array Value) : Prop where
  sz : cs.size = 27
  ce : ∀ i : Nat, i < 27 → ∃ x : Int, cs[i]? = some (.int .u8 x) ∧ 0 ≤ x ∧ x < 256
/-- What the law's automata are. -/
structure OkM (al : List Int) (a : Au) : Prop where
  r : Right a
  c : canA a = a
  al : a.al = al
  st : a.st ≤ 5
/-- The edges that are made: those of the states before t, and those of t by the first k events. -/
structure EdI (S : Nat) (al : List Int) (t k : Nat) (es : List Ed) : Prop where
  r : ∀ x ∈ es, 0 ≤ x.f ∧ (x.f < (t : Int) ∨ x.f = (t : Int) ∧ x.e ∈ al.take k) ∧ 0 ≤ x.t ∧ x.t < (S : Int) ∧ x.e ∈ al
  o : es.Pairwise ltE
  l : es.length ≤ t * 5 + k
theorem EdI.nil (S : Nat) (al : List Int) : EdI S al 0 0 [] := ⟨by simp, List.Pairwise.nil, by simp⟩
theorem EdI.more {S : Nat} {al : List Int} {t k : Nat} {es : List Ed} (h : EdI S al t k es) (hk : k < al.length) : EdI S al t (k + 1) es :=
  ⟨fun x hx => by
    obtain ⟨h1, h2, h3⟩ := h.r x hx
    refine ⟨h1, h2.imp id fun h => ⟨h.1, (mem_snoc_take hk).2 (.inl h.2)⟩, h3⟩, h.o, by have := h.l; omega⟩
theorem EdI.snoc {S : Nat} {al : List Int} {t k : Nat} {es : List Ed} (h : EdI S al t k es) (hk : k < al.length) (ho : al.Pairwise (· < ·)) {u : Int} (h0 : 0 ≤ u) (h1 : u < (S : Int)) : EdI S al t (k + 1) (es ++ [⟨(t : Int), al.getD k 0, u⟩]) :=
  ⟨fun x hx => by
    rcases List.mem_append.1 hx with hx | hx
    · exact (h.more hk).r x hx
    · rw [List.mem_singleton] at hx; subst hx
      exact ⟨by simp, .inr ⟨rfl, (mem_snoc_take hk).2 (.inr rfl)⟩, h0, h1, getD_mem hk⟩,
   List.pairwise_append.2 ⟨h.o, by simp, fun x hx y hy => by
    rw [List.mem_singleton] at hy; subst hy
    rcases (h.r x hx).2.1 with h2 | ⟨h2, h3⟩
    · exact .inl h2
    · refine .inr ⟨h2, ?_⟩
      obtain ⟨i, hi, he⟩ := mem_getD h3
      rw [List.length_take] at hi
      have h4 := up_of ho i k (by omega) hk
      have h5 : (al.take k).getD i 0 = al.getD i 0 := by simp [List.getD, show i < k by omega]
      show x.e < al.getD k 0
      rw [← he, h5]; exact h4⟩, by have := h.l; rw [List.length_append]; simp; omega⟩
theorem EdI.next {S : Nat} {al : List Int} {t k : Nat} {es : List Ed} (h : EdI S al t k es) (hk : k ≤ 5) : EdI S al (t + 1) 0 es :=
  ⟨fun x hx => by
    obtain ⟨h1, h2, h3⟩ := h.r x hx
    exact ⟨h1, .inl (by rcases h2 with h2 | h2 <;> omega), h3⟩, h.o, by have := h.l; omega⟩
theorem far1 {w w6 : World} {cs : Array Value} {T : TypeId} {row : Option Nat} {b o : Nat} {v : Value} (h : (w.alloc (.cells cs T)).grownBy w6 row) (hlt : b < w.heap.size) (hne : some b ≠ row) (hc : w.cell? ⟨b, o, none⟩ = some v) : w6.cell? ⟨b, o, none⟩ = some v :=
  (h.cell_far ⟨b, o, none⟩ (by simp; omega) hne).trans ((World.cell?_alloc_lt w _ ⟨b, o, none⟩ hlt).trans hc)
theorem far2 {w w6 : World} {cs : Array Value} {T : TypeId} {row : Option Nat} {b o : Nat} {v : Value} (h : (w.alloc (.cells cs T)).drew.grownBy w6 row) (hlt : b < w.heap.size) (hne : some b ≠ row) (hc : w.cell? ⟨b, o, none⟩ = some v) : w6.cell? ⟨b, o, none⟩ = some v :=
  (h.cell_far ⟨b, o, none⟩ (by simp; omega) hne).trans ((World.cell?_alloc_lt w _ ⟨b, o, none⟩ hlt).trans hc)
theorem far1f {w w6 : World} {cs : Array Value} {T : TypeId} {row : Option Nat} {b o : Nat} (h : (w.alloc (.cells cs T)).grownBy w6 row) (hlt : b < w.heap.size) (hne : some b ≠ row) (hc : w.frozen? ⟨b, o, none⟩ = false) : w6.frozen? ⟨b, o, none⟩ = false :=
  (h.frozen_far ⟨b, o, none⟩ (by simp; omega) hne).trans ((frozen?_alloc_cells w cs T ⟨b, o, none⟩).trans hc)
theorem far2f {w w6 : World} {cs : Array Value} {T : TypeId} {row : Option Nat} {b o : Nat} (h : (w.alloc (.cells cs T)).drew.grownBy w6 row) (hlt : b < w.heap.size) (hne : some b ≠ row) (hc : w.frozen? ⟨b, o, none⟩ = false) : w6.frozen? ⟨b, o, none⟩ = false :=
  (h.frozen_far ⟨b, o, none⟩ (by simp; omega) hne).trans ((frozen?_alloc_cells w cs T ⟨b, o, none⟩).trans hc)
theorem far12 {w w5 w6 : World} {cs : Array Value} {T : TypeId} {row : Option Nat} {b o : Nat} {v : Value} (h : w5.grownBy w6 row) (hlt : b < w.heap.size) (hne : some b ≠ row) (hc : w.cell? ⟨b, o, none⟩ = some v) (h5 : w5 = w.alloc (.cells cs T) ∨ w5 = (w.alloc (.cells cs T)).drew := by first | exact .inl rfl | exact .inr rfl) : w6.cell? ⟨b, o, none⟩ = some v := by
  rcases h5 with rfl | rfl
  · exact far1 h hlt hne hc
  · exact far2 h hlt hne hc
theorem far12f {w w5 w6 : World} {cs : Array Value} {T : TypeId} {row : Option Nat} {b o : Nat} (h : w5.grownBy w6 row) (hlt : b < w.heap.size) (hne : some b ≠ row) (hc : w.frozen? ⟨b, o, none⟩ = false) (h5 : w5 = w.alloc (.cells cs T) ∨ w5 = (w.alloc (.cells cs T)).drew := by first | exact .inl rfl | exact .inr rfl) : w6.frozen? ⟨b, o, none⟩ = false := by
  rcases h5 with rfl | rfl
  · exact far1f h hlt hne hc
  · exact far2f h hlt hne hc
/-- What Make hands back. -/
def MkG (w : World) (al : List Int) (e : Ending) (w' : World) : Prop := ∃ a v, OkM al a ∧ e = .returned v ∧ AuF a v w' w.heap.size ∧ Below w.heap.size w w'

set_option maxHeartbeats 8000000 in
set_option maxRecDepth 100000 in
theorem make_any (A : Option Addr) (n c B : Nat) (al : List Int) (cs : Array Value) (w : World) (hx : RdI w B A al) (hB : B ≤ w.heap.size) (hn : al.length = n) (hnc : n ≤ c) (hev : Ev5 5 al) (hg : GrC cs) :
    Calls Tryd.prog 57 #[.slice A n c, .agg cs] w fun e w' => MkG w al e w' := by
  have hsz := hg.sz
  obtain ⟨st, hst, hst0, hst1⟩ := hg.ce 0 (by omega)
  have hn5 : n ≤ 5 := by have := Ev5.len (n := 5) hev; omega
  have hb1 := ((Below.refl w.heap.size w).alloc (Nat.le_refl _) (.cells cs 64)).alloc (by simp) (.cells #[.slice none 0 0, .int .i64 0, .slice none 0 0, .slice none 0 0] 34)
  have HB1 := Lib.hid hb1
  have hG := Lib.hid (show Row ((w.alloc (.cells cs 64)).alloc (.cells #[.slice none 0 0, .int .i64 0, .slice none 0 0, .slice none 0 0] 34)) w.heap.size 64 cs.toList from (Row.new w cs.toList 64).alloc _)
  have hRes := Lib.hid (show Row ((w.alloc (.cells cs 64)).alloc (.cells #[.slice none 0 0, .int .i64 0, .slice none 0 0, .slice none 0 0] 34)) (w.heap.size + 1) 34 [.slice none 0 0, .int .i64 0, .slice none 0 0, .slice none 0 0] by
    have := Row.new (w.alloc (.cells cs 64)) [.slice none 0 0, .int .i64 0, .slice none 0 0, .slice none 0 0] 34
    simpa using this)
  have HE := Lib.hid (rEmpty_any A n c B al _ (hx.below hb1 hB) (Nat.le_trans hB hb1.size) hn (by omega))
  have g0 := hG.out.cell 0 (by simpa using hst)
  have HX := Lib.hid hx
  have HBw := Lib.hid hB
  have HN := Lib.hid hn
  have HEV := Lib.hid hev
  have HG0 := Lib.hid hg
  have HST := Lib.hid (show cs.toList[0]? = some (.int .u8 st) by simpa using hst)
  clear hst hb1 hx hB hn hev hg hsz
  by_cases h250 : 250 ≤ st
  · go_enter Tryd.func57, Tryd.ntmps57
    go_wp2_with fail
    refine HE.out.mono ?_
    rintro e w1 ⟨A', c', rfl, ho, hbw, hc1, hc2⟩
    have hR1 := Lib.hid (hRes.out.below hbw (by simp))
    have hB1 := Lib.hid (HB1.out.trans (hbw.mono HB1.out.size))
    have r0 := hR1.out.cell 0 rfl
    have r1 := hR1.out.cell 1 rfl
    have r2 := hR1.out.cell 2 rfl
    have r3 := hR1.out.cell 3 rfl
    have z0 := hR1.out.frozen 0
    have z1 := hR1.out.frozen 1
    have z2 := hR1.out.frozen 2
    have z3 := hR1.out.frozen 3
    obtain ⟨_, _, he, hrd, _, _⟩ := own_rdc ho
    injection he with he1 he2 he3
    subst he1 he3
    have hAu := Lib.hid (show AuF ⟨al, 0, [], []⟩ (.agg #[.slice A' n c', .int .i64 0, .slice none 0 0, .slice none 0 0]) w1 (w.heap.size + 2) from
      ⟨A', n, c', 0, none, 0, 0, none, 0, 0, rfl, { al := hrd, mr := RdI.nil _ _ _, ed := RdG.nil _ _ _, hn := HN.out, hm := rfl, hk := rfl, st := rfl, cn := ⟨hc1, hc2⟩, cm := by omega, ck := by omega, bn := by omega, bm := by omega, bk := by omega },
        own_from (by simpa using ho), fun b o f e => (by cases e), fun b o f e => (by cases e)⟩)
    clear hbw ho hrd he2
    go_wp2_with fail
    (try simp only [Exit.inBlock, Exit.then])
    refine bodyPost_ret (v := .agg #[.slice A' n c', .int .i64 0, .slice none 0 0, .slice none 0 0]) ?_ rfl ⟨⟨al, 0, [], []⟩, _, ?_, rfl, ?_, ?_⟩
    · rw [results_cell1 rfl]
      go_simp
    · refine ⟨⟨⟨fun x hx => ?_, HEV.out.o, by simp, by simp, by simp, by simp, by simp⟩, by simp⟩, can_zero rfl, rfl, by simp⟩
      have := HEV.out.r x hx
      omega
    · exact (hAu.out.set4 (by omega) _ _ _ _).more (by omega)
    · exact below_set4 hB1.out (by omega) _ _ _ _
  · go_enter Tryd.func57, Tryd.ntmps57
    go_wp2_with fail
    refine HE.out.mono ?_
    rintro e w1 ⟨A', c', rfl, ho, hbw, hc1, hc2⟩
    have hR1 := Lib.hid (hRes.out.below hbw (by simp))
    have hG1 := Lib.hid (hG.out.below hbw (by simp; omega))
    have hB1 := Lib.hid (HB1.out.trans (hbw.mono HB1.out.size))
    have g0 := hG1.out.cell 0 HST.out
    have hw1 : w.heap.size < w1.heap.size := hG1.out.lt
    have g1 := fun (cs : Array Value) ty => (World.cell?_alloc_lt w1 (.cells cs ty) ⟨w.heap.size, 0, none⟩ hw1).trans g0
    obtain ⟨iI, iI0, iI1, iI2, iI3⟩ := info_parts info_int
    obtain ⟨iE, iE0, iE1, iE2, iE3⟩ := info_parts info_edge
    obtain ⟨S, hS⟩ : ∃ S : Nat, 1 + st % 5 = (S : Int) := ⟨(1 + st % 5).toNat, by omega⟩
    have hS5 : S ≤ 5 := by omega
    have hS1 : 1 ≤ S := by omega
    have hm5 := Lib.hid (show IntKind.u8.wrap (st % 5) = st % 5 by simp [IntKind.wrap, IntKind.signed, IntKind.bits]; omega)
    have hbd0 := Lib.hid (show Bd w1 w1.heap.size w1.heap.size true true (.slice A' n c') (S : Int) (w1.alloc (.cells #[.slice A' n c', .int .i64 (S : Int), .slice none 0 0, .slice none 0 0] 34)) [] (.slice none 0 0) [] (.slice none 0 0) from
      ⟨(Below.refl _ _).alloc (Nat.le_refl _) _, Row.new w1 [.slice A' n c', .int .i64 (S : Int), .slice none 0 0, .slice none 0 0] 34, fun _ => World.ownsRow_nil _ _ _ _, fun _ => World.ownsRow_nil _ _ _ _, Nat.le_refl _⟩)
    have CG := Lib.hid (fun W (hW : Below w1.heap.size w1 W) (j : Nat) (x : Int) (h : cs[j]? = some (.int .u8 x)) => (hG1.out.below hW hw1).cell j (v := .int .u8 x) (by simpa using h))
    have CA := Lib.hid (fun W (hW : Below w1.heap.size w1 W) => HX.out.below (hB1.out.trans (hW.mono hB1.out.size)) HBw.out)
    have HRd := Lib.hid (show RdI w1 w1.heap.size A' al by
      obtain ⟨_, _, he, hrd, _, _⟩ := own_rdc ho
      injection he with he1 he2 he3
      subst he1; exact hrd)
    have HFr := Lib.hid (own_from ho)
    clear ho hbw
    go_wp2_with fail
    go_loopw [6] (fun i wr => ∃ (t : Nat) (vm ve : Value) (ms : List Int) (es : List Ed), t ≤ S ∧ i = .int .i64 t ∧ Hid (Bd w1 w1.heap.size w1.heap.size true true (.slice A' n c') (S : Int) wr ms vm es ve) ∧ Hid (Ev5 (t : Int) ms) ∧ Hid (EdI S al t 0 es)) (fun i _ => S - (intOf i).toNat)
    case atStart => exact ⟨0, _, _, _, _, Nat.zero_le _, rfl, hbd0, Ev5.nil _, EdI.nil _ _⟩
    case round =>
      clear hbd0 g0 g1
      obtain ⟨t, vm, ve, ms, es, htS, rfl, hbd, hev, hei⟩ := hrel
      by_cases htl : t < S
      · obtain ⟨mk, hmk, hmk0, hmk1⟩ := HG0.out.ce 1 (by omega)
        have gm := CG.out wr hbd.out.bel 1 mk hmk
        have s1 := hbd.out.cb.cell 1 rfl
        have z0 : (0 : Int) ≤ (t : Int) := by omega
        have z1 : (t : Int) < (S : Int) := by omega
        have hml := hev.out.len
        have HMO := Lib.hid hev.out.more
        have HSN := Lib.hid (hev.out.snoc (by omega))
        clear hmk
        go_upto_if 33 with fail
        generalize (bits BinOp.and IntKind.u8 (mk / 2 ^ t) 1 == 1) = cb
        go_cut [6] from 22 to 76 (fun i wx => i = .int .i64 (t : Int) ∧ ∃ vm ms', Hid (Bd w1 w1.heap.size w1.heap.size true true (.slice A' n c') (S : Int) wx ms' vm es ve) ∧ Hid (Ev5 ((t + 1 : Nat) : Int) ms'))
        case first =>
          cases cb
          · go_wp2_with fail
            go_meet
            case rel => exact ⟨rfl, vm, ms, hbd, by simpa using HMO⟩
          · have hmo := Lib.hid (hbd.out.mo rfl)
            have c2' := hbd.out.cb.cell 2 rfl
            have f2' := hbd.out.cb.frozen 2
            have hs4 := hbd.out.h2
            go_wp2_with (at_builtin; refine wpList_append_own _ rfl _ _ 27 rfl w1.heap.size 3 iI (.int .i64 0) 1 8 Tryd.underlying27 iI0 iI1 iI2 iI3 rfl (by decide) _ _ _ rfl (hmo.out.alloc _) ⟨wr.heap.size, 0, none⟩ 1 1 [.int .i64 (t : Int)] rfl rfl (news_one (by simp)) (by intro u hu; simp at hu; subst hu; rfl) (by unfold maxLen; omega) (by omega) (by simp; omega) ?_)
            intro v5 w5 hown5 hgrow5 _
            have hown6 : Own w5 w1.heap.size v5 (ms ++ [(t : Int)]) := by unfold Own; rw [List.length_append]; simpa using hown5
            obtain ⟨A5, c5, hv5, _, _, _⟩ := own_rdc hown6
            rw [show (ms ++ [(t : Int)]).length = ms.length + 1 by simp] at hv5
            subst hv5
            have hba := hbd.out.alloc (.cells #[.int .i64 (t : Int)] 3)
            have hcb := Lib.hid (hba.cb.grown hgrow5 (fun e => hba.neM e.symm))
            have hbd6 := Lib.hid (Bd.mark hba hgrow5 hown6)
            have c2' := hcb.out.cell 2 rfl
            have f2' := hcb.out.frozen 2
            clear hown5 hown6 hgrow5 hba
            go_wp2_with fail
            go_meet
            case rel => exact ⟨rfl, _, _, hbd6, by simpa using HSN⟩
        case rest =>
          clear hbd hev s1 gm hml HMO HSN
          obtain ⟨rfl, vm, ms', hbd, hev⟩ := hcut
          go_wp2_with fail
          go_loopw [7] (fun i wr => ∃ (k : Nat) (ve : Value) (es : List Ed), k ≤ n ∧ i = .int .i64 k ∧ Hid (Bd w1 w1.heap.size w1.heap.size true true (.slice A' n c') (S : Int) wr ms' vm es ve) ∧ Hid (EdI S al t k es)) (fun i _ => n - (intOf i).toNat)
          case atStart => exact ⟨0, _, _, Nat.zero_le _, rfl, hbd, hei⟩
          case round =>
            clear hbd hei
            obtain ⟨k, ve, es, hkn, rfl, hbd, hei⟩ := hrel
            have s1 := hbd.out.cb.cell 1 rfl
            by_cases hkl : k < n
            · obtain ⟨x, hx, hx0, hx1⟩ := HG0.out.ce (2 + t * 5 + k) (by omega)
              have gx := CG.out wr hbd.out.bel _ x hx
              have e0 := Int.emod_nonneg x (show (S : Int) + 2 ≠ 0 by omega)
              have z2 : (0 : Int) ≤ (k : Int) := by omega
              have z3 : (k : Int) < (n : Int) := by omega
              have z4 : (k : Int) < 5 := by omega
              have z5 : (t : Int) < 5 := by omega
              clear hx
              go_wp2_with fail
              go_quiet (fail)
              have hbdq := Lib.hid (hbd.out.drewN nq)
              have s1q := hbdq.out.cb.cell 1 rfl
              clear hbd s1 gx
              generalize wr.drewN nq = wq at *
              have hbd := Lib.hid hbdq.out
              have hsq := hbdq.out.h2
              clear hbdq
              by_cases z6 : x % ((S : Int) + 2) < (S : Int)
              · obtain ⟨bA, oA, rfl, hbA, hcA⟩ := HX.out (by rw [HN.out]; omega)
                obtain ⟨ev, hevv⟩ : ∃ ev, ev = al.getD k 0 := ⟨_, rfl⟩
                have ca : wq.cell? ⟨bA, oA + k, none⟩ = some (.int .i64 ev) := by
                  obtain ⟨b2, o2, e2, hb2, hc2⟩ := CA.out wq hbd.out.bel (by rw [HN.out]; omega)
                  injection e2 with e2; injection e2 with e3 e4; subst e3 e4
                  rw [hevv]; exact hc2 k (by rw [HN.out]; omega)
                have hsn := Lib.hid (hei.out.snoc (u := x % ((S : Int) + 2)) (by rw [HN.out]; exact hkl) HEV.out.o (by omega) z6)
                rw [← hevv] at hsn
                have hel := hei.out.l
                have heo := Lib.hid (hbd.out.eo rfl)
                have c3 := hbd.out.cb.cell 3 rfl
                have f3 := hbd.out.cb.frozen 3
                clear hcA hevv
                have hbs := hbd.out.bel.size
                have hneV := hbd.out.neE
                have hneA : some bA ≠ ve.ownBlock := fun e => by have h1 := (heo.out.lt bA e.symm).1; have h2 := hB1.out.size; have h3 := HBw.out; omega
                have hbAq : bA < wq.heap.size := by have h2 := hB1.out.size; have h3 := HBw.out; omega
                have v3 := fun cs : Array Value => (World.cell?_alloc_lt wq (.cells cs 58) ⟨w1.heap.size, 3, none⟩ hsq).trans c3
                have v4 := fun cs : Array Value => (World.cell?_alloc_lt wq (.cells cs 58) ⟨bA, oA + k, none⟩ hbAq).trans ca
                have v5 := fun cs : Array Value => (frozen?_alloc_cells wq cs 58 ⟨w1.heap.size, 3, none⟩).trans f3
                go_wp2_with fail
                go_region_law (refine step_append_lies _ (by rfl) (.tmp 66) (.tmp 74) _ (by rfl) w1.heap.size 58 iE (.agg #[.int .i64 0, .int .i64 0, .int .i64 0]) 3 24 Tryd.underlying32 iE0 iE1 iE2 iE3 rfl (by omega) ve es.length (encE es) (by rfl) (by first | exact (heo.out.alloc _).drew | exact (heo.out.alloc _)) ⟨wq.heap.size, 0, none⟩ 1 1 [.int .i64 (t : Int), .int .i64 ev, .int .i64 (x % ((S : Int) + 2))] (by rfl) (by rfl) (World.news_of_block (cs := #[.int .i64 (t : Int), .int .i64 ev, .int .i64 (x % ((S : Int) + 2))]) (t := 58) (fr := (0, 0)) (heap_alloc_new wq _)) (by simp [Value.oneCell']) (by omega) (by unfold maxLen; omega) (by omega) (by simp; omega) (wq.heap.size + 1) (by simp) ?_; intro gg cap w6 hown6 hgrow hat hlt1; have c6 := far12 hgrow hsq hneV c3; have f6 := far12f hgrow hsq hneV f3)
                all_goals
                  have hown7 : OwnE w6 w1.heap.size (.slice (some ⟨gg, 0, none⟩) (es.length + 1) cap) (es ++ [⟨(t : Int), ev, x % ((S : Int) + 2)⟩]) := by
                    unfold OwnE; rw [encE_app, List.length_append]; exact hown6
                  have hbd7 := Lib.hid (show Bd w1 w1.heap.size w1.heap.size true true (.slice A' n c') (S : Int) (w6.setCell ⟨w1.heap.size, 3, none⟩ (.slice (some ⟨gg, 0, none⟩) (es.length + 1) cap)) ms' vm (es ++ [⟨(t : Int), ev, x % ((S : Int) + 2)⟩]) (.slice (some ⟨gg, 0, none⟩) (es.length + 1) cap) from by
                    first
                    | exact Bd.edge (hbd.out.alloc _) hgrow hown7
                    | exact Bd.edge ((hbd.out.alloc _).drew) hgrow hown7
                    | exact Bd.edge (hbd.out.drew.alloc _) hgrow hown7)
                  clear hown7 hown6 hgrow hat
                  go_wp2_with fail
                  go_roundw
                  case measure => simp [intOf]; omega
                  case rel => exact ⟨k + 1, _, _, by omega, by go_num, by first | exact hbd7 | exact Lib.hid hbd7.out.drew, hsn⟩
              · have z7 : (S : Int) ≤ x % ((S : Int) + 2) := by omega
                have hno := Lib.hid (hei.out.more (by rw [HN.out]; exact hkl))
                go_wp2_with fail
                go_roundw
                case rel => exact ⟨k + 1, _, _, by omega, by go_num, hbd, hno⟩
                case measure => simp [intOf]; omega
            · obtain rfl : k = n := by omega
              have hnx := Lib.hid (hei.out.next hn5)
              go_wp2_with fail
              go_roundw
              case rel => exact ⟨t + 1, _, _, _, _, by omega, by go_num, hbd, hev, hnx⟩
              case measure => simp [intOf]; omega
      · obtain rfl : t = S := by omega
        obtain ⟨M3, d3, rfl, hM1, hM2, hM3⟩ := own_rdc (hbd.out.mo rfl)
        obtain ⟨E3, g3, rfl, hE1, hE2, hE3⟩ := ownE_rd (hbd.out.eo rfl)
        have s0 := hbd.out.cb.cell 0 rfl
        have s1 := hbd.out.cb.cell 1 rfl
        have s2 := hbd.out.cb.cell 2 rfl
        have s3 := hbd.out.cb.cell 3 rfl
        have hml := hev.out.len
        have hel := hei.out.l
        have HRi := Lib.hid (show Right ⟨al, (t : Int), ms, es⟩ from { alr := fun x hx => by have := HEV.out.r x hx; omega, alo := HEV.out.o, st0 := by simp, mrr := hev.out.r, mro := hev.out.o, edr := (fun x hx => by
          obtain ⟨h1, h2, h3, h4, h5⟩ := hei.out.r x hx
          exact ⟨⟨h1, h2.resolve_right (fun h => by simpa using h.2)⟩, ⟨h3, h4⟩, h5⟩), edo := hei.out.o, st1 := by show (t : Int) ≤ 4096; omega })
        have HAu := Lib.hid (show AuR wr wr.heap.size A' n c' (t : Int) M3 ms.length d3 E3 es.length g3 ⟨al, (t : Int), ms, es⟩ from
          { al := (HRd.out.below hbd.out.bel (Nat.le_refl _)).more hbd.out.bel.size, mr := hM1, ed := hE1, hn := HN.out, hm := rfl, hk := rfl, st := rfl, cn := ⟨hc1, hc2⟩, cm := ⟨hM2, hM3⟩, ck := ⟨hE2, hE3⟩, bn := by omega, bm := by omega, bk := by omega })
        have HC := Lib.hid (rCanonical_any A' n c' (t : Int) M3 ms.length d3 E3 es.length g3 _ wr.heap.size wr HAu.out (Nat.le_refl _) HRi.out.toRightW (by omega))
        have hR2 := Lib.hid (hR1.out.below hbd.out.bel hR1.out.lt)
        have hB2 := Lib.hid (hB1.out.trans (hbd.out.bel.mono hB1.out.size))
        have hgt := hG1.out.lt
        have hbs := hbd.out.bel.size
        have hst5 := Lib.hid (fnd_len HRi.out.toRightW)
        clear hM1 hE1 hbd
        go_wp2_with fail
        refine HC.out.mono ?_
        rintro e w9 ⟨v9, rfl, hau9, hb9⟩
        obtain ⟨A9, n9, c9, s9, M9, m9, d9, E9, k9, g9, rfl, hr9, hf9⟩ := hau9
        have hAu9 := Lib.hid (show AuF _ _ w9 wr.heap.size from ⟨A9, n9, c9, s9, M9, m9, d9, E9, k9, g9, rfl, hr9, hf9⟩)
        have hR9 := Lib.hid (hR2.out.below hb9 hR2.out.lt)
        have hB9 := Lib.hid (hB2.out.trans (hb9.mono hB2.out.size))
        have hlt1 := hR1.out.lt
        have r0 := hR9.out.cell 0 rfl
        have r1 := hR9.out.cell 1 rfl
        have r2 := hR9.out.cell 2 rfl
        have r3 := hR9.out.cell 3 rfl
        have y0 := hR9.out.frozen 0
        have y1 := hR9.out.frozen 1
        have y2 := hR9.out.frozen 2
        have y3 := hR9.out.frozen 3
        clear hb9 hr9 hf9
        go_wp2_with fail
        (try simp only [Exit.inBlock, Exit.then])
        refine bodyPost_ret (v := .agg #[.slice A9 n9 c9, .int .i64 s9, .slice M9 m9 d9, .slice E9 k9 g9]) ?_ rfl ⟨canA ⟨al, (t : Int), ms, es⟩, _, ?_, rfl, ?_, ?_⟩
        · rw [results_cell1 rfl]
          go_simp
        · refine ⟨HRi.out.can, can_can HRi.out.toRightW, rfl, ?_⟩
          have := hst5.out
          show ((fnd _).length : Int) ≤ 5
          simp only [Int.toNat_natCast] at this
          omega
        · exact (hAu9.out.set4 (by omega) _ _ _ _).more (by omega)
        · exact below_set4 hB9.out (by omega) _ _ _ _
end
end Go.Proofs.YtedleffmbddccaaDoor

/- Layer 6: lists of automata of the call's own; a graph read out of the middle of a block. -/
namespace Go.Proofs.YtedleffmbddccaaDoor
open Go.RowKit Go.Sort

/-- The graph that lies at an address. -/
def GridAt (w : World) (b o : Nat) : Prop := ∀ i : Nat, i < 27 → (w.cell? ⟨b, o + i, none⟩).isSome = true
def gridOf (w : World) (b o : Nat) : Array Value := ((List.range 27).map fun i => (w.cell? ⟨b, o + i, none⟩).getD (Value.bool false)).toArray
theorem load_gridM (w : World) (b o : Nat) (h : GridAt w b o) : (Instr.loadAt 64 (.pointer (some ⟨b, o, none⟩))).run Tryd.prog w = .ok (.agg (gridOf w b o)) w := by
  refine run_loadAt_mid w b o 64 ((List.range 27).map fun i => (w.cell? ⟨b, o + i, none⟩).getD (Value.bool false)) _ (fun i v hi => ?_) Tryd.underlying64 rfl (by rw [List.length_map, List.length_range]; kernel_rfl)
  have hl := (List.getElem?_eq_some_iff.1 hi).1
  have hi27 : i < 27 := by simpa using hl
  rw [List.getElem?_map, List.getElem?_range hi27] at hi
  obtain ⟨u, hu⟩ := Option.isSome_iff_exists.1 (h i hi27)
  simp only [Option.map_some, Option.some.injEq, hu, Option.getD_some] at hi
  rw [hu, hi]
def blkP : Value → Nat
  | .pointer (some a) => a.block
  | _ => 0
def offP : Value → Nat
  | .pointer (some a) => a.off
  | _ => 0
theorem blkP_ptr (b o : Nat) : blkP (.pointer (some ⟨b, o, none⟩)) = b := rfl
theorem offP_ptr (b o : Nat) : offP (.pointer (some ⟨b, o, none⟩)) = o := rfl
theorem exec_load_gridM (ρ : Operand → Value) (d : Option Nat) (x : Operand) (T : TypeId) (pos : String) (af) (g) (w : World) (hp : ρ x = .pointer (some ⟨blkP (ρ x), offP (ρ x), none⟩)) (h : GridAt w (blkP (ρ x)) (offP (ρ x))) :
    (execOp ρ { dst := d, op := .load 64 x, type := T, pos := pos, after := af, guard := g }).run Tryd.prog w = .ok (.value (.agg (gridOf w (blkP (ρ x)) (offP (ρ x))))) w := by
  have h1 : (Instr.loadAt 64 (ρ x)).run Tryd.prog w = .ok (.agg (gridOf w (blkP (ρ x)) (offP (ρ x)))) w := by
    obtain ⟨b, hb⟩ : ∃ b, b = blkP (ρ x) := ⟨_, rfl⟩
    obtain ⟨o, ho⟩ : ∃ o, o = offP (ρ x) := ⟨_, rfl⟩
    rw [← hb, ← ho] at hp h ⊢
    rw [hp]
    exact load_gridM w b o h
  unfold execOp
  simp only [Sem.run_bind, h1, Result.andThen_ok, Sem.run_pure]
theorem gridAt_drew (w : World) (b o : Nat) : GridAt w.drew b o = GridAt w b o := rfl
theorem gridOf_drew (w : World) (b o : Nat) : gridOf w.drew b o = gridOf w b o := rfl
theorem grid_keep {w w' : World} {b o : Nat} {cs : Array Value} (h : GridAt w b o ∧ gridOf w b o = cs) (hk : ∀ i, w'.cell? ⟨b, i, none⟩ = w.cell? ⟨b, i, none⟩) : GridAt w' b o ∧ gridOf w' b o = cs :=
  ⟨fun i hi => by rw [hk]; exact h.1 i hi, by rw [← h.2]; unfold gridOf; refine congrArg List.toArray (List.map_congr_left fun i _ => ?_); rw [hk]⟩

/-- A part: the byte of its events, the cells of its graph. -/
abbrev Pt := Int × Array Value
def PtAt (w : World) (b o : Nat) (p : Pt) : Prop := w.cell? ⟨b, o, none⟩ = some (.int .u8 p.1) ∧ GridAt w b (o + 1) ∧ gridOf w b (o + 1) = p.2
theorem PtAt.keep {w w' : World} {b o : Nat} {p : Pt} (h : PtAt w b o p) (hk : ∀ i, w'.cell? ⟨b, i, none⟩ = w.cell? ⟨b, i, none⟩) : PtAt w' b o p := ⟨(hk _).trans h.1, grid_keep h.2 hk⟩
def PtOk (p : Pt) : Prop := (Lit.int .u8 p.1).wf = true ∧ GrC p.2
def RdPs (w : World) (B : Nat) (A : Option Addr) (ps : List Pt) : Prop :=
  0 < ps.length → ∃ b off, A = some ⟨b, off, none⟩ ∧ b < B ∧ ∀ j p, ps[j]? = some p → PtAt w b (off + j * 28) p
theorem RdPs.below {w w' : World} {B B' : Nat} {A : Option Addr} {ps : List Pt} (h : RdPs w B A ps) (hb : Below B' w w') (hB : B ≤ B') : RdPs w' B A ps := fun h0 => by
  obtain ⟨b, off, e, hlt, hc⟩ := h h0
  exact ⟨b, off, e, hlt, fun j p hj => (hc j p hj).keep fun i => hb.cell (p := ⟨b, i, none⟩) (Nat.lt_of_lt_of_le hlt hB)⟩
theorem RdPs.more {w : World} {B B' : Nat} {A : Option Addr} {ps : List Pt} (h : RdPs w B A ps) (hB : B ≤ B') : RdPs w B' A ps := fun h0 => by
  obtain ⟨b, off, e, hlt, hc⟩ := h h0
  exact ⟨b, off, e, by omega, hc⟩

/-- An automaton's four cells, and what they read as. -/
structure Ha where
  A : Option Addr
  n : Nat
  c : Nat
  s : Int
  M : Option Addr
  m : Nat
  d : Nat
  E : Option Addr
  k : Nat
  g : Nat
  a : Au
def Ha.enc (h : Ha) : List Value := [.slice h.A h.n h.c, .int .i64 h.s, .slice h.M h.m h.d, .slice h.E h.k h.g]
def Ha.rd (w : World) (h : Ha) : Prop := AuR w w.heap.size h.A h.n h.c h.s h.M h.m h.d h.E h.k h.g h.a
/-- A block of the automaton's is not that of the row. -/
def NeB (v : Value) (A : Option Addr) (k : Nat) : Prop := 0 < k → ∀ b o f, A = some ⟨b, o, f⟩ → v.ownBlock ≠ some b
def Ha.ne (v : Value) (h : Ha) : Prop := NeB v h.A h.n ∧ NeB v h.M h.m ∧ NeB v h.E h.k
theorem rdI_gr {w w' : World} {row : Option Nat} {A : Option Addr} {zs : List Int} (h : RdI w w.heap.size A zs) (hg : w.grownBy w' row) (hne : 0 < zs.length → ∀ b o f, A = some ⟨b, o, f⟩ → row ≠ some b) : RdI w' w'.heap.size A zs := fun h0 => by
  obtain ⟨b, off, e, hb, hc⟩ := h h0
  exact ⟨b, off, e, Nat.lt_of_lt_of_le hb hg.size, fun j hj => (hg.cell_far ⟨b, off + j, none⟩ hb (fun e' => hne h0 _ _ _ e e'.symm)).trans (hc j hj)⟩
theorem rdG_gr {w w' : World} {row : Option Nat} {A : Option Addr} {zs : List Ed} (h : RdG w w.heap.size A zs) (hg : w.grownBy w' row) (hne : 0 < zs.length → ∀ b o f, A = some ⟨b, o, f⟩ → row ≠ some b) : RdG w' w'.heap.size A zs := fun h0 => by
  obtain ⟨b, off, e, hb, hc⟩ := h h0
  exact ⟨b, off, e, Nat.lt_of_lt_of_le hb hg.size, fun j x hj => (hc j x hj).keep fun o => hg.cell_far ⟨b, o, none⟩ hb (fun e' => hne h0 _ _ _ e e'.symm)⟩
theorem Ha.gr {w w' : World} {v : Value} {h : Ha} (hr : h.rd w) (hn : h.ne v) (hg : w.grownBy w' v.ownBlock) : h.rd w' :=
  { hr with
    al := rdI_gr hr.al hg fun h0 => hn.1 (by rw [← hr.hn]; exact h0)
    mr := rdI_gr hr.mr hg fun h0 => hn.2.1 (by rw [← hr.hm]; exact h0)
    ed := rdG_gr hr.ed hg fun h0 => hn.2.2 (by rw [← hr.hk]; exact h0) }
theorem NeB.turn {w : World} {v v' : Value} {g : Nat} {A : Option Addr} {k : Nat} (h : NeB v A k) (hv : v'.ownBlock = some g) (hat : v.ownBlock = some g ∨ g = w.heap.size) (hb : 0 < k → ∀ b o f, A = some ⟨b, o, f⟩ → b < w.heap.size) : NeB v' A k := fun h0 b o f e => by
  rcases hat with h1 | h1
  · rw [hv, ← h1]; exact h h0 b o f e
  · rw [hv, h1]; intro e'; injection e' with e'; have := hb h0 b o f e; omega
theorem rdI_lt {w : World} {B : Nat} {A : Option Addr} {zs : List Int} (h : RdI w B A zs) (h0 : 0 < zs.length) : ∀ b o f, A = some ⟨b, o, f⟩ → b < B := fun b o f e => by
  obtain ⟨b', off, e', hb, _⟩ := h h0
  rw [e] at e'; injection e' with e'; injection e' with e' _ _; omega
theorem rdG_lt {w : World} {B : Nat} {A : Option Addr} {zs : List Ed} (h : RdG w B A zs) (h0 : 0 < zs.length) : ∀ b o f, A = some ⟨b, o, f⟩ → b < B := fun b o f e => by
  obtain ⟨b', off, e', hb, _⟩ := h h0
  rw [e] at e'; injection e' with e'; injection e' with e' _ _; omega
theorem Ha.turn {w : World} {v v' : Value} {g : Nat} {h : Ha} (hr : h.rd w) (hn : h.ne v) (hv : v'.ownBlock = some g) (hat : v.ownBlock = some g ∨ g = w.heap.size) : h.ne v' :=
  ⟨hn.1.turn hv hat fun h0 => rdI_lt hr.al (by rw [hr.hn]; exact h0), hn.2.1.turn hv hat fun h0 => rdI_lt hr.mr (by rw [hr.hm]; exact h0), hn.2.2.turn hv hat fun h0 => rdG_lt hr.ed (by rw [hr.hk]; exact h0)⟩
/-- A list of automata in memory of the call's own. -/
structure AL (w : World) (base : Nat) (v : Value) (hs : List Ha) : Prop where
  row : w.ownsRow base 34 4 v hs.length (hs.flatMap Ha.enc)
  rd : ∀ h ∈ hs, h.rd w
  ne : ∀ h ∈ hs, h.ne v
theorem Ha.below {w w' : World} {h : Ha} (hr : h.rd w) (hb : Below w.heap.size w w') : h.rd w' := (AuR.below hr hb (Nat.le_refl _)).more hb.size
theorem AL.below {w w' : World} {base : Nat} {v : Value} {hs : List Ha} (h : AL w base v hs) (hb : Below w.heap.size w w') : AL w' base v hs :=
  ⟨own_below h.row hb, fun x hx => Ha.below (h.rd x hx) hb, h.ne⟩
theorem AL.push {wr w1 w2 : World} {base n g : Nat} {v v' : Value} {hs : List Ha} {x : Ha} (h : AL wr base v hs) (hb : Below wr.heap.size wr w1) (hx : x.rd w1)
    (hf : (∀ b o f, x.A = some ⟨b, o, f⟩ → wr.heap.size ≤ b) ∧ (∀ b o f, x.M = some ⟨b, o, f⟩ → wr.heap.size ≤ b) ∧ (∀ b o f, x.E = some ⟨b, o, f⟩ → wr.heap.size ≤ b))
    (hr : w2.ownsRow base 34 4 v' n (hs.flatMap Ha.enc ++ x.enc)) (hn : n = hs.length + 1) (hg : w1.grownBy w2 v.ownBlock) (hv : v'.ownBlock = some g) (hat : v.ownBlock = some g ∨ g = w1.heap.size) : AL w2 base v' (hs ++ [x]) := by
  subst hn
  have hxn : x.ne v := by
    have key : ∀ A k, (∀ b o f, A = some (⟨b, o, f⟩ : Addr) → wr.heap.size ≤ b) → NeB v A k := fun A k hA _ b o f e e' => by
      have h1 := hA b o f e
      have h2 := (h.row.lt b e').2
      omega
    exact ⟨key _ _ hf.1, key _ _ hf.2.1, key _ _ hf.2.2⟩
  have hall : ∀ y ∈ hs ++ [x], y.rd w1 ∧ y.ne v := fun y hy => by
    rcases List.mem_append.1 hy with hy | hy
    · exact ⟨Ha.below (h.rd y hy) hb, h.ne y hy⟩
    · rw [List.mem_singleton] at hy; subst hy; exact ⟨hx, hxn⟩
  refine ⟨by simpa using hr, fun y hy => Ha.gr (hall y hy).1 (hall y hy).2 hg, fun y hy => Ha.turn (hall y hy).1 (hall y hy).2 hv hat⟩
theorem encH_at : ∀ (hs : List Ha) (j i : Nat) (x : Ha), hs[j]? = some x → i < 4 → (hs.flatMap Ha.enc)[j * 4 + i]? = x.enc[i]?
  | [], j, i, x, h, _ => by simp at h
  | y :: hs, 0, i, x, h, hi => by
    simp at h; subst h
    rw [List.flatMap_cons, Nat.zero_mul, Nat.zero_add, List.getElem?_append_left (by simpa [Ha.enc] using hi)]
  | y :: hs, j + 1, i, x, h, hi => by
    rw [List.flatMap_cons, List.getElem?_append_right (by simp [Ha.enc]; omega)]
    have : (j + 1) * 4 + i - y.enc.length = j * 4 + i := by simp [Ha.enc]; omega
    rw [this]
    exact encH_at hs j i x (by simpa using h) hi
theorem AL.rds {w : World} {base : Nat} {v : Value} {hs : List Ha} (h : AL w base v hs) : ∃ A c, v = .slice A hs.length c ∧ RdAs w w.heap.size A (hs.map Ha.a) ∧ hs.length ≤ c ∧ c ≤ 9223372036854775807 := by
  have hr := h.row
  rcases hr.2 with ⟨rfl, h0⟩ | ⟨g, cap, cur, rfl, hg, hh, hn, hcap, hsz, htake⟩
  · exact ⟨none, 0, by rw [h0], fun h' => by rw [List.length_map, h0] at h'; omega, by omega, by omega⟩
  · refine ⟨some ⟨g, 0, none⟩, cap, rfl, fun _ => ⟨g, 0, rfl, (hr.lt g rfl).2, fun j a hj => ?_⟩, hn, by unfold maxLen at hcap; omega⟩
    rw [List.getElem?_map, Option.map_eq_some_iff] at hj
    obtain ⟨x, hx, rfl⟩ := hj
    have hl := (List.getElem?_eq_some_iff.1 hx).1
    have hc : ∀ i v, i < 4 → x.enc[i]? = some v → w.cell? ⟨g, 0 + j * 4 + i, none⟩ = some v := fun i v hi hv => by
      rw [Nat.zero_add, World.ownsRow.cellAt (cap := cap) hr (j * 4 + i) (by omega), encH_at hs j i x hx hi, hv]
    exact ⟨x.A, x.n, x.c, x.s, x.M, x.m, x.d, x.E, x.k, x.g, hc 0 _ (by omega) rfl, hc 1 _ (by omega) rfl, hc 2 _ (by omega) rfl, hc 3 _ (by omega) rfl, h.rd x (List.mem_of_getElem? hx)⟩
theorem info_aut : (Tryd.prog.info? 34).map (fun i => (i.zero, i.size, i.bytes)) = some (some (.agg #[.slice none 0 0, .int .i64 0, .slice none 0 0, .slice none 0 0]), 4, 80) := by kernel_rfl
theorem info_autE : ∃ iE, Tryd.prog.info? 34 = some iE ∧ iE.zero = some (.agg #[.slice none 0 0, .int .i64 0, .slice none 0 0, .slice none 0 0]) ∧ iE.size = 4 ∧ iE.bytes = 80 := by
  cases hi : Tryd.prog.info? 34 with
  | none => have := info_aut; rw [hi] at this; cases this
  | some iE =>
    have := info_aut; rw [hi] at this
    simp only [Option.map_some, Option.some.injEq, Prod.mk.injEq] at this
    exact ⟨iE, rfl, this⟩
end Go.Proofs.YtedleffmbddccaaDoor

/- Layer 6: List of the law. -/
namespace Go.Proofs.YtedleffmbddccaaDoor
open Go.RowKit Go.Sort
attribute [local go_sem ↓] exec_load_gridM
attribute [local go_sem] blkP_ptr offP_ptr gridAt_drew gridOf_drew

def OkP (a : Au) : Prop := ∃ al, Ev5 5 al ∧ OkM al a
def GivesAs (w : World) (n : Nat) (e : Ending) (w' : World) : Prop := ∃ A c las, e = .returned (.slice A (List.length las) c) ∧ las.length = min n 3 ∧ RdAs w' w'.heap.size A las ∧ (∀ a ∈ las, OkP a) ∧ las.length ≤ c ∧ c ≤ 9223372036854775807 ∧ Below w.heap.size w w'

set_option maxHeartbeats 8000000 in
set_option maxRecDepth 100000 in
theorem list_any (A : Option Addr) (n c : Nat) (ps : List Pt) (w : World) (h : RdPs w w.heap.size A ps) (hn : ps.length = n) (hok : ∀ p ∈ ps, PtOk p) :
    Calls Tryd.prog 28 #[.slice A n c] w (GivesAs w n) := by
  have HP := Lib.hid h
  have HN := Lib.hid hn
  have HOKP := Lib.hid hok
  obtain ⟨iA, iA0, iA1, iA2, iA3⟩ := info_autE
  clear h hn hok
  go_enter Tryd.func28, Tryd.ntmps28
  go_wp2_with fail
  go_loopw [3, 4] (fun v i wr => ∃ (t : Nat) (hs : List Ha), i = .int .i64 t ∧ t ≤ n ∧ t ≤ 3 ∧ Hid (hs.length = t) ∧ Hid (AL wr w.heap.size v hs) ∧ Hid (∀ h ∈ hs, OkP h.a) ∧ Hid (Below w.heap.size w wr)) (fun _ i _ => 3 - (intOf i).toNat)
  case atStart => exact ⟨0, [], rfl, Nat.zero_le _, Nat.zero_le _, Lib.hid rfl, Lib.hid ⟨World.ownsRow_nil _ _ _ _, by simp, by simp⟩, Lib.hid (by simp), Lib.hid (Below.refl _ _)⟩
  case round =>
    obtain ⟨t, hs, rfl, htn, ht3, hhs, hal, hokh, hbel⟩ := hrel
    by_cases hlt : t < n
    · by_cases hlt3 : t < 3
      · obtain ⟨p, hp⟩ : ∃ p, ps[t]? = some p := ⟨_, List.getElem?_eq_getElem (by rw [HN.out]; exact hlt)⟩
        obtain ⟨b, o, rfl, hb, hc⟩ := HP.out (by rw [HN.out]; omega)
        have hpt := hc t p hp
        have hpo := HOKP.out p (List.mem_of_getElem? hp)
        obtain ⟨x, cs⟩ := p
        have HPK := Lib.hid (fun W (hW : Below w.heap.size w W) => hpt.keep fun i => hW.cell (p := ⟨b, i, none⟩) hb)
        have HS0 := Lib.hid hpo.1
        have HS1 := Lib.hid hpo.2
        obtain ⟨q0, q1, q2⟩ := HPK.out wr hbel.out
        have w0 : (t : Int) < (n : Int) := by omega
        have w1 : (0 : Int) ≤ (t : Int) := by omega
        have w3 : (t : Int) < 3 := by omega
        have hzw := hbel.out.size
        have hrow := hal.out.row
        rw [hhs.out] at hrow
        have HROW := Lib.hid hrow
        clear hrow
        clear hp hc hpt hpo
        simp only at q0 q1 q2
        go_wp2_with fail
        go_region_law (first
          | (go_simp; go_at_call 58; refine (events_any x _ HS0.out).mono ?_; rintro e w2 ⟨al, hev, A0, c0, rfl, hrd, hb2, hc0, hc02⟩
             have HB2 := Lib.hid (by first | exact hb2 | exact (Below.refl wr.heap.size wr).drew.trans hb2 : Below wr.heap.size wr w2)
             have HEV := Lib.hid hev
             have HRD := Lib.hid hrd
             obtain ⟨q0, q1, q2⟩ := HPK.out w2 (hbel.out.trans (HB2.out.mono hbel.out.size))
             simp only at q0 q1 q2
             clear hb2 hev hrd)
          | (go_simp; go_at_call 57; refine (make_any A0 al.length c0 w2.heap.size al cs _ (by first | exact HRD.out | exact HRD.out.below ((Below.refl _ w2).drew) (Nat.le_refl _)) (by first | exact Nat.le_refl _ | simp) rfl hc0 HEV.out HS1.out).mono ?_; rintro e w4 ⟨a, v3, hok, rfl, ⟨A1, n1, c1, s1, M1, m1, d1, E1, k1, g1, rfl, hau, hfr⟩, hb4⟩
             have HB4 := Lib.hid (by first | exact HB2.out.trans (hb4.mono HB2.out.size) | exact HB2.out.drew.trans (hb4.mono HB2.out.size) : Below wr.heap.size wr w4)
             have HOK := Lib.hid hok
             have HAU := Lib.hid (show Ha.rd w4 ⟨A1, n1, c1, s1, M1, m1, d1, E1, k1, g1, a⟩ from hau)
             have HFR := Lib.hid hfr
             have hz4 := HB4.out.size
             have HROW4 := Lib.hid (own_below HROW.out HB4.out)
             clear hb4 hok hau hfr)
          | (refine step_append_lies _ (by rfl) (.tmp 15) (.tmp 28) _ (by rfl) w.heap.size 34 iA (.agg #[.slice none 0 0, .int .i64 0, .slice none 0 0, .slice none 0 0]) 4 80 Tryd.underlying22 iA0 iA1 iA2 iA3 rfl (by omega) _ t (hs.flatMap Ha.enc) (by rfl) (by first | exact (HROW4.out.alloc _).drew | exact (HROW4.out.alloc _)) ⟨w4.heap.size, 0, none⟩ 1 1 [.slice A1 n1 c1, .int .i64 s1, .slice M1 m1 d1, .slice E1 k1 g1] (by rfl) (by rfl) (World.news_of_block (cs := #[.slice A1 n1 c1, .int .i64 s1, .slice M1 m1 d1, .slice E1 k1 g1]) (t := 34) (fr := (0, 0)) (heap_alloc_new w4 _)) (by simp [Value.oneCell']) (by omega) (by unfold maxLen; omega) (by omega) (by simp; omega) (w4.heap.size + 1) (by simp) ?_; intro gG capG w6 hown6 hgrow6 hat6 hlt6))
        all_goals
          have hal6 := Lib.hid (AL.push (n := t + 1) (g := gG) (x := ⟨A1, n1, c1, s1, M1, m1, d1, E1, k1, g1, a⟩) hal.out (HB4.out.alloc hz4 (.cells #[.slice A1 n1 c1, .int .i64 s1, .slice M1 m1 d1, .slice E1 k1 g1] 34)) (Ha.below HAU.out ((Below.refl _ w4).alloc (Nat.le_refl _) _))
            ⟨fun b o f e => Nat.le_trans HB2.out.size (HFR.out.1 b o f e), fun b o f e => Nat.le_trans HB2.out.size (HFR.out.2.1 b o f e), fun b o f e => Nat.le_trans HB2.out.size (HFR.out.2.2 b o f e)⟩ hown6 (by rw [hhs.out]) hgrow6 rfl (hat6.imp (fun h => h) (fun h => by simpa using h)))
          have hbel6 := Lib.hid (show Below w.heap.size w w6 from by
            first
            | exact (hbel.out.trans ((HB4.out.alloc hz4 (.cells #[.slice A1 n1 c1, .int .i64 s1, .slice M1 m1 d1, .slice E1 k1 g1] 34)).mono hzw)).grown hgrow6 (by simp; omega) (fun k hk => (hal.out.row.lt k hk).1)
            | exact (hbel.out.trans ((HB4.out.alloc hz4 (.cells #[.slice A1 n1 c1, .int .i64 s1, .slice M1 m1 d1, .slice E1 k1 g1] 34)).drew.mono hzw)).grown hgrow6 (by simp; omega) (fun k hk => (hal.out.row.lt k hk).1))
          have hok6 := Lib.hid (show ∀ h ∈ hs ++ [(⟨A1, n1, c1, s1, M1, m1, d1, E1, k1, g1, a⟩ : Ha)], OkP h.a from fun y hy => by
            rcases List.mem_append.1 hy with hy | hy
            · exact hokh.out y hy
            · rw [List.mem_singleton] at hy; subst hy; exact ⟨al, HEV.out, HOK.out⟩)
          have hl6 := Lib.hid (show (hs ++ [(⟨A1, n1, c1, s1, M1, m1, d1, E1, k1, g1, a⟩ : Ha)]).length = t + 1 by rw [List.length_append, hhs.out]; rfl)
          clear hown6 hgrow6 hat6 q0 q1 q2
          go_wp2_with fail
          go_roundw
          case rel => exact ⟨t + 1, _, by go_num, by omega, by omega, hl6, by first | exact hal6 | exact Lib.hid (hal6.out.below (Below.refl _ _).drew), hok6, by first | exact hbel6 | exact Lib.hid hbel6.out.drew⟩
          case measure => simp [intOf]; omega
      · obtain rfl : t = 3 := by omega
        obtain ⟨A', c', hv, hrd, h1, h2⟩ := hal.out.rds
        rw [hhs.out] at hv h1
        have HF := Lib.hid (show GivesAs w n (.returned (.slice A' 3 c')) wr from ⟨A', c', hs.map Ha.a, by rw [List.length_map, hhs.out], by rw [List.length_map, hhs.out]; omega, hrd, fun a ha => by obtain ⟨y, hy, rfl⟩ := List.mem_map.1 ha; exact hokh.out y hy, by rw [List.length_map, hhs.out]; exact h1, h2, hbel.out⟩)
        subst hv
        have w0 : ((3 : Nat) : Int) < (n : Int) := by omega
        clear hrd h1 hal hhs
        go_wp2_with fail
        go_ret
        exact HF.out
    · obtain rfl : t = n := by omega
      obtain ⟨A', c', hv, hrd, h1, h2⟩ := hal.out.rds
      rw [hhs.out] at hv h1
      have HF := Lib.hid (show GivesAs w t (.returned (.slice A' t c')) wr from ⟨A', c', hs.map Ha.a, by rw [List.length_map, hhs.out], by rw [List.length_map, hhs.out]; omega, hrd, fun a ha => by obtain ⟨y, hy, rfl⟩ := List.mem_map.1 ha; exact hokh.out y hy, by rw [List.length_map, hhs.out]; exact h1, h2, hbel.out⟩)
      subst hv
      have w0 : decide ((t : Int) < (t : Int)) = false := by simp
      clear hrd h1 hal hhs
      go_wp2_with fail
      go_ret
      exact HF.out
end Go.Proofs.YtedleffmbddccaaDoor

/- Layer 6: the law of Find, walked. -/
namespace Go.Proofs.YtedleffmbddccaaDoor
open Go.RowKit Go.Sort

theorem tab_pos {w : World} (h : TabAt 0 Lib.deBruijn32tab w) : 0 < w.heap.size := by
  have h0 := h 0 (by decide)
  refine Nat.pos_of_ne_zero fun e => ?_
  have : w.heap[0]? = none := by rw [Array.getElem?_eq_none_iff]; omega
  simp [World.cell?, this] at h0
/-- The first place from k on; -1 if there is none. -/
def wnt (zs : List (List Int)) (t : List Int) (k : Nat) : Int := if t ∈ zs.drop k then ((k + (zs.drop k).idxOf t : Nat) : Int) else -1
theorem drop_w {zs : List (List Int)} {k : Nat} (h : k < zs.length) : zs.drop k = zs.getD k [] :: zs.drop (k + 1) := by
  rw [List.drop_eq_getElem_cons h]; simp [List.getD, List.getElem?_eq_getElem h]
theorem wnt_yes {zs : List (List Int)} {t : List Int} {k : Nat} (h : k < zs.length) (he : zs.getD k [] = t) : wnt zs t k = (k : Int) := by
  unfold wnt; rw [drop_w h, he]; simp
theorem wnt_no {zs : List (List Int)} {t : List Int} {k : Nat} (h : k < zs.length) (he : zs.getD k [] ≠ t) : wnt zs t k = wnt zs t (k + 1) := by
  unfold wnt
  rw [drop_w h]
  by_cases hm : t ∈ zs.drop (k + 1)
  · rw [if_pos (List.mem_cons_of_mem _ hm), if_pos hm, List.idxOf_cons, beq_eq_false_iff_ne.2 he]
    simp only [cond_false]
    omega
  · rw [if_neg hm, if_neg (by rw [List.mem_cons]; rintro (h1 | h1); exact he h1.symm; exact hm h1)]

set_option maxHeartbeats 4000000 in
set_option maxRecDepth 20000 in
theorem lawFinds (A : Option Addr) (n c : Nat) (zs : List (List Int)) (B : Option Addr) (m d : Nat) (t : List Int) (w : World) (hx : RdW w w.heap.size A zs) (hn : zs.length = n) (_hf : ∀ z ∈ zs, z.length ≤ 9223372036854775807) (hy : RdI w w.heap.size B t) (hm : t.length = m) (_hg : ∀ z ∈ t, (Lit.int .i64 z).wf = true)
    (hT : TabAt 0 Lib.deBruijn32tab w) : Calls Tryd.prog 9 #[.slice A n c, .slice B m d] w fun e w' => e = .returned (.bool true) ∧ Below w.heap.size w w' := by
  have hz := tab_pos hT
  have HK := Lib.hid (known_any w hT hz)
  have HK2 := Lib.hid (fun W (hW : Below w.heap.size w W) => known_any W (tab_below hT hW hz) (Nat.lt_of_lt_of_le hz hW.size))
  have HX := Lib.hid (fun W (hW : Below w.heap.size w W) => (hx.below hW (Nat.le_refl _)).more hW.size)
  have HY := Lib.hid (fun W (hW : Below w.heap.size w W) => (hy.below hW (Nat.le_refl _)).more hW.size)
  have HN := Lib.hid hn
  have HM := Lib.hid hm
  clear hx hn hy hm hT hz _hf _hg
  by_cases hsm : n ≤ 10 ∧ m ≤ 5
  · obtain ⟨hn10, hm5⟩ := hsm
    have g1 : ¬ (10 : Int) < (n : Int) := by omega
    have g2 : ¬ (5 : Int) < (m : Int) := by omega
    clear HK2
    go_enter Tryd.func9, Tryd.ntmps9
    go_wp2_with fail
    refine HK.out.mono ?_
    rintro e w1 ⟨rfl, hb1⟩
    have HB1 := Lib.hid hb1
    clear hb1 HK
    go_wp2_with fail
    go_loopw [5, 6] (fun wv i wr => ∃ (k : Nat) (x : Int), k ≤ n ∧ i = .int .i64 x ∧ x = (k : Int) - 1 ∧ wv = .int .i64 (wnt zs t k) ∧ Hid (∀ z ∈ zs.drop k, z.length ≤ 5) ∧ Hid (Below w.heap.size w wr)) (fun _ i _ => (intOf i + 1).toNat)
    case atStart => exact ⟨n, _, Nat.le_refl _, rfl, rfl, by rw [wnt, List.drop_of_length_le (by rw [HN.out]; exact Nat.le_refl _)]; rfl, Lib.hid (by rw [List.drop_of_length_le (by rw [HN.out]; exact Nat.le_refl _)]; simp), HB1⟩
    case round =>
      obtain ⟨k1, x, hk1, rfl, hxk, rfl, hall, hbel⟩ := hrel
      rcases Nat.eq_zero_or_pos k1 with h0 | h0
      · subst h0
        obtain rfl : x = -1 := by omega
        obtain ⟨wv, hwv⟩ : ∃ wv, wv = wnt zs t 0 := ⟨_, rfl⟩
        have hw0 := hwv
        unfold wnt at hw0
        rw [List.drop_zero, Nat.zero_add] at hw0
        have hl5 := hall.out
        rw [List.drop_zero] at hl5
        rw [← hwv]
        have HF := Lib.hid (pFind_any A B n m c d zs t wr (HX.out _ hbel.out) (HY.out _ hbel.out) HN.out HM.out (by omega) (by omega) (fun z hz => by have := hl5 z hz; omega))
        by_cases hin : t ∈ zs
        · rw [decide_eq_true hin, fndW, if_pos hin] at HF
          rw [if_pos hin] at hw0
          obtain ⟨q, hq⟩ : ∃ q, q = zs.idxOf t := ⟨_, rfl⟩
          rw [← hq] at HF hw0
          subst hw0
          have hge : (0 : Int) ≤ (q : Int) := by omega
          clear hxk hwv hl5 hin hq
          go_wp2_with fail
          refine HF.out.mono ?_
          rintro e w2 ⟨rfl, q2, rfl⟩
          have HB2 := Lib.hid (below_drewN hbel.out q2)
          go_wp2_with fail
          go_ret
          exact ⟨by first | rfl | trivial, HB2.out⟩
        · rw [decide_eq_false hin, fndW, if_neg hin] at HF
          rw [if_neg hin] at hw0
          subst hw0
          clear hxk hwv hl5 hin
          go_wp2_with fail
          refine HF.out.mono ?_
          rintro e w2 ⟨rfl, q2, rfl⟩
          have HB2 := Lib.hid (below_drewN hbel.out q2)
          go_wp2_with fail
          go_ret
          exact ⟨by first | rfl | trivial, HB2.out⟩
      · obtain ⟨k, rfl⟩ : ∃ k, k1 = k + 1 := ⟨k1 - 1, by omega⟩
        obtain rfl : x = (k : Int) := by omega
        have hz : k < zs.length := by rw [HN.out]; omega
        obtain ⟨b1, o1, rfl, hb1, hc1⟩ := HX.out _ hbel.out (by omega)
        obtain ⟨C1, d1, c1, rd1, hcap1, hcap2⟩ := hc1 k hz
        obtain ⟨z, hzz⟩ : ∃ z, z = zs.getD k [] := ⟨_, rfl⟩
        rw [← hzz] at c1 rd1 hcap1
        obtain ⟨lz, hlz⟩ : ∃ lz, lz = z.length := ⟨_, rfl⟩
        rw [← hlz] at c1 hcap1
        have kz : (0 : Int) ≤ (k : Int) := by omega
        have kn : (k : Int) < (n : Int) := by omega
        obtain ⟨wv, hwv⟩ : ∃ wv, wv = wnt zs t (k + 1) := ⟨_, rfl⟩
        rw [← hwv]
        by_cases hbig : 5 < lz
        · have hbz : (5 : Int) < (lz : Int) := by omega
          clear hc1 hxk hlz hzz hwv hbig
          go_wp2_with fail
          go_ret
          exact ⟨by first | rfl | trivial, hbel.out⟩
        · have hbz : ¬ (5 : Int) < (lz : Int) := by omega
          have HSm := Lib.hid (l6same_any C1 B lz m d1 d _ _ z t wr rd1 (HY.out _ hbel.out) hlz.symm HM.out (by omega) (by omega))
          have hall2 := Lib.hid (show ∀ y ∈ zs.drop k, y.length ≤ 5 by
            rw [drop_w hz]
            intro y hy
            rcases List.mem_cons.1 hy with rfl | hy
            · rw [← hzz, ← hlz]; omega
            · exact hall.out y hy)
          by_cases he : z = t
          · have hw := Lib.hid (show wnt zs t k = (k : Int) from wnt_yes hz (by rw [← hzz]; exact he))
            rw [decide_eq_true he] at HSm
            clear hc1 hxk hlz hzz hwv hbig he rd1 hz
            go_wp2_with fail
            refine HSm.out.mono ?_
            rintro e w2 ⟨rfl, q2, rfl⟩
            have HB2 := Lib.hid (below_drewN hbel.out q2)
            go_wp2_with fail
            go_roundw
            case rel => exact ⟨k, _, by omega, rfl, by first | rfl | go_num, by rw [hw.out], hall2, HB2⟩
            case measure => simp [intOf] <;> omega
          · have hw := Lib.hid (show wnt zs t k = wv by rw [hwv]; exact wnt_no hz (by rw [← hzz]; exact he))
            rw [decide_eq_false he] at HSm
            clear hc1 hxk hlz hzz hwv hbig he rd1 hz
            go_wp2_with fail
            refine HSm.out.mono ?_
            rintro e w2 ⟨rfl, q2, rfl⟩
            have HB2 := Lib.hid (below_drewN hbel.out q2)
            go_wp2_with fail
            go_roundw
            case rel => exact ⟨k, _, by omega, rfl, by first | rfl | go_num, by rw [hw.out], hall2, HB2⟩
            case measure => simp [intOf] <;> omega
  · by_cases hn10 : n ≤ 10
    · have g1 : ¬ (10 : Int) < (n : Int) := by omega
      have g2 : (5 : Int) < (m : Int) := by omega
      clear HX HY hsm
      go_enter Tryd.func9, Tryd.ntmps9
      go_wp2_with fail
      refine HK.out.mono ?_
      rintro e w1 ⟨rfl, hb1⟩
      have HB1 := Lib.hid hb1
      clear hb1 HK
      go_wp2_with fail
      refine (HK2.out _ HB1.out).mono ?_
      rintro e w2 ⟨rfl, hb2⟩
      have HB2 := Lib.hid (HB1.out.trans (hb2.mono HB1.out.size))
      clear hb2
      go_wp2_with fail
      go_ret
      exact ⟨by first | rfl | trivial, HB2.out⟩
    · have g1 : (10 : Int) < (n : Int) := by omega
      clear HX HY hsm
      go_enter Tryd.func9, Tryd.ntmps9
      go_wp2_with fail
      refine HK.out.mono ?_
      rintro e w1 ⟨rfl, hb1⟩
      have HB1 := Lib.hid hb1
      clear hb1 HK
      go_wp2_with fail
      refine (HK2.out _ HB1.out).mono ?_
      rintro e w2 ⟨rfl, hb2⟩
      have HB2 := Lib.hid (HB1.out.trans (hb2.mono HB1.out.size))
      clear hb2
      go_wp2_with fail
      go_ret
      exact ⟨by first | rfl | trivial, HB2.out⟩
end Go.Proofs.YtedleffmbddccaaDoor
