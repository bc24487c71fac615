/- Layer 7, the reference: Project. -/
import Derived.Test.YtaadhpkpekmfoaaGreatZsRS
import Derived.BigQuiet
import Derived.Deep.RegionHeld3
import Derived.Deep.CutRange
import Derived.Deep.RegionLaw
set_option linter.unusedVariables false
set_option linter.unusedSimpArgs false
set_option linter.unusedSectionVars false
namespace Go.Proofs.YtaadhpkpekmfoaaGreat
open Go.RowKit Go.Sort Go.Maps

theorem own_put4S {w : World} {base X n : Nat} {e : TypeId} {sz : Nat} {v : Value} {xs : List Value} (h : w.ownsRow base e sz v n xs) (hX : X < base) (v0 v1 v2 v3 : Value) : ((((w.setCell ⟨X, 0, none⟩ v0).setCell ⟨X, 1, none⟩ v1).setCell ⟨X, 2, none⟩ v2).setCell ⟨X, 3, none⟩ v3).ownsRow base e sz v n xs :=
  ownsRow_setCell_below (ownsRow_setCell_below (ownsRow_setCell_below (ownsRow_setCell_below h hX _) hX _) hX _) hX _
theorem fnd_atS {zs : List (List Int)} {t : List Int} {p : Nat} (hk : p < zs.length) (hn : t ∉ zs.take p) (he : zs.getD p [] = t) : t ∈ zs ∧ zs.idxOf t = p := by
  have e : zs[p] = t := by rw [← he, List.getD, List.getElem?_eq_getElem hk]; rfl
  refine ⟨e ▸ List.getElem_mem hk, ?_⟩
  have h1 : zs = zs.take p ++ zs.drop p := (List.take_append_drop p zs).symm
  rw [h1, List.idxOf_append, if_neg hn, List.drop_eq_getElem_cons hk, e, List.idxOf_cons_self, List.length_take]
  omega
theorem notin_nextS {zs : List (List Int)} {t : List Int} {p : Nat} (hk : p < zs.length) (hn : t ∉ zs.take p) (he : zs.getD p [] ≠ t) : t ∉ zs.take (p + 1) := by
  rw [List.take_succ_eq_append_getElem hk, List.mem_append]
  rintro (h | h)
  · exact hn h
  · rw [List.mem_singleton] at h
    exact he (by rw [List.getD, List.getElem?_eq_getElem hk, h]; rfl)
theorem ret_cell1S {fn : Func} {p u : Tmp} {ty : TypeId} {tmps : Array Value} {P : Program} {w : World} {b : Nat} {x : Value} (h : fn.results = #[.cell p ty, .tmp u]) (hp : tmps.getD p undef = .pointer (some ⟨b, 0, none⟩)) {uv : Value} (hu : tmps.getD u undef = uv) (hl : (loadVar ty ⟨b, 0, none⟩).run P w = .ok x w) :
    (results fn tmps).run P w = .ok (.tuple #[x, uv]) w := by
  rw [results_cell_tmp1 h, hp, hu]
  simp [asAddr, hl, Result.andThen]
set_option maxHeartbeats 16000000 in
set_option maxRecDepth 100000 in
theorem r7Project_some (A : Option Addr) (n c : Nat) (s : Int) (M : Option Addr) (m d : Nat) (E : Option Addr) (k g : Nat) (a : Au) (A3 : Option Addr) (n3 c3 : Nat) (onto : List Int) (w : World) (h : AuR w w.heap.size A n c s M m d E k g a) (hri : RightW a) (hs4 : a.st ≤ 100) (h0 : 0 < a.st) (hx3 : RdI w w.heap.size A3 onto) (hn3 : onto.length = n3) (hb3 : n3 ≤ 100000) (hk5 : k ≤ 100000) (hf : (fnd (dtA a onto)).length ≤ 4096) :
    Calls Tryz.prog 15 #[.agg #[.slice A n c, .int .i64 s, .slice M m d, .slice E k g], .slice A3 n3 c3] w fun e w' => ProR a onto w w' e := by
  obtain ⟨S, hS⟩ : ∃ S : Nat, s = (S : Int) := ⟨a.st.toNat, by have := hri.st0; have := h.st; omega⟩
  subst hS
  have HST := Lib.hid h.st
  have hSb : S ≤ 100 := by have := h.st; omega
  have hS0 : (0 : Int) < (S : Int) := by have := h.st; omega
  have hst0 := Lib.hid (show a.st ≠ 0 by omega)
  have hb1 := ((Below.refl w.heap.size w).alloc (Nat.le_refl _) (.cells #[.slice A n c, .int .i64 (S : Int), .slice M m d, .slice E k g] 33)).alloc (by simp) (.cells #[.slice none 0 0, .int .i64 0, .slice none 0 0, .slice none 0 0] 33)
  have HB1 := Lib.hid hb1
  have hA := Lib.hid ((Row.new w [.slice A n c, .int .i64 (S : Int), .slice M m d, .slice E k g] 33).alloc (.cells #[.slice none 0 0, .int .i64 0, .slice none 0 0, .slice none 0 0] 33))
  have hRes := Lib.hid (show Row ((w.alloc (.cells #[.slice A n c, .int .i64 (S : Int), .slice M m d, .slice E k g] 33)).alloc (.cells #[.slice none 0 0, .int .i64 0, .slice none 0 0, .slice none 0 0] 33)) (w.heap.size + 1) 33 [.slice none 0 0, .int .i64 0, .slice none 0 0, .slice none 0 0] by
    have := Row.new (w.alloc (.cells #[.slice A n c, .int .i64 (S : Int), .slice M m d, .slice E k g] 33)) [.slice none 0 0, .int .i64 0, .slice none 0 0, .slice none 0 0] 33
    simpa using this)
  have HKP := Lib.hid (fun W (hW : Below w.heap.size w W) => r7Kept_any A n c (S : Int) M m d E k g a A3 n3 c3 onto W ((h.below hW (Nat.le_refl _)).more hW.size) ((hx3.below hW (Nat.le_refl _)).more hW.size) hn3 hb3)
  have HBG := Lib.hid (fun W (hW : Below w.heap.size w W) => r7Begin_any A n c (S : Int) M m d E k g a A3 n3 c3 onto W ((h.below hW (Nat.le_refl _)).more hW.size) hri (by omega) ((hx3.below hW (Nat.le_refl _)).more hW.size) hn3 hb3)
  have HNX := Lib.hid (fun W (hW : Below w.heap.size w W) (Ae : Option Addr) (ne ce : Nat) (es : List Int) (x : Int) (h1 : RdI W W.heap.size Ae es) (h2 : es.length = ne) (h6 : ne ≤ 100000) => (r7Next_any A n c (S : Int) M m d E k g a A3 n3 c3 onto Ae ne ce es x W ((h.below hW (Nat.le_refl _)).more hW.size) hri (by omega) h1 h2 h6 ((hx3.below hW (Nat.le_refl _)).more hW.size) hn3 hb3 hk5))
  have HMR := Lib.hid (fun W (hW : Below w.heap.size w W) => (h.mr.below hW (Nat.le_refl _)).more hW.size)
  have HMM := Lib.hid h.hm
  have hbm := h.bm
  have HFS := Lib.hid (fsR_len a onto)
  have HNL := Lib.hid (fun (zs : List Int) (x : Int) => show (nxR a onto zs x).length ≤ S from by have := reR_len a (erR a onto) (tgR a zs x); have h9 := h.st; unfold nxR; omega)
  have HPR := Lib.hid (dt_right hri onto)
  have HST0 := Lib.hid (dt_pos a onto)
  have HSF := Lib.hid hf
  have HRI := Lib.hid hri
  have hk32 := kp_len hri onto
  have HDZ := Lib.hid (de_zero hri onto)
  obtain ⟨iI, iI0, iI1, iI2, iI3⟩ := info_parts info_int
  obtain ⟨iE, iE0, iE1, iE2, iE3⟩ := info_edgeEJ
  obtain ⟨iL, iL0, iL1, iL2, iL3⟩ := info_intsE
  have p0 := hA.out.cell 0 rfl
  have p1 := hA.out.cell 1 rfl
  have p2 := hA.out.cell 2 rfl
  have p3 := hA.out.cell 3 rfl
  clear h hri hs4 h0 hx3 hn3 hf hb1
  go_enter Tryz.func15, Tryz.ntmps15
  go_wp2_with fail
  refine (HKP.out _ HB1.out).mono ?_
  rintro e w1 ⟨v1, rfl, ho1, hbw1⟩
  obtain ⟨A1, c1, rfl, hr1, hc1, hc2⟩ := own_rdc ho1
  obtain ⟨nk, hnk⟩ : ∃ nk, nk = (kpR a onto).length := ⟨_, rfl⟩
  rw [← hnk] at hk32 hc1 ⊢
  have HNK := Lib.hid hnk
  have HR1 := Lib.hid hr1
  have HBW1 := Lib.hid (HB1.out.trans (hbw1.mono HB1.out.size))
  have hA1 := Lib.hid (hA.out.below hbw1 (hA.out.lt))
  have hRes1 := Lib.hid (hRes.out.below hbw1 (hRes.out.lt))
  clear ho1 hr1 hbw1 hnk HKP p0 p1 p2 p3 hA hRes HB1
  go_wp2_with fail
  refine (rEmpty_any A1 nk c1 w1.heap.size (kpR a onto) w1 HR1.out (Nat.le_refl _) HNK.out.symm (by omega)).mono ?_
  rintro e w2 ⟨Aa, ca, rfl, hoa, hbw2, hca1, hca2⟩
  have HB2 := Lib.hid (HBW1.out.trans (hbw2.mono HBW1.out.size))
  have hA2 := Lib.hid (hA1.out.below hbw2 (hA1.out.lt))
  have hRes2 := Lib.hid (hRes1.out.below hbw2 (hRes1.out.lt))
  have HOA := Lib.hid (show Own w2 w1.heap.size (.slice Aa nk ca) (kpR a onto) from hoa)
  have hzA := hA2.out.lt
  have hzR := hRes2.out.lt
  have HZ1 := Lib.hid (show w.heap.size + 1 < w1.heap.size from hRes1.out.lt)
  have HPB := Lib.hid (fun W (hW : Below w2.heap.size w2 W) => box_row A n c (S : Int) M m d E k g (hA2.out.below hW hA2.out.lt))
  have HRW := Lib.hid (fun W (hW : Below w2.heap.size w2 W) => hRes2.out.below hW hRes2.out.lt)
  have HOA1 := Lib.hid (fun W (hW : Below w2.heap.size w2 W) => own_below HOA.out hW)
  have HBW := Lib.hid (fun W (hW : Below w2.heap.size w2 W) => HB2.out.trans (hW.mono HB2.out.size))
  have HSZ := Lib.hid (show w.heap.size + 1 < w2.heap.size from hzR)
  have HRS := Lib.hid (RS.start w2 (.slice Aa nk ca))
  have hb3' := Lib.hid HRS.out.bel
  obtain ⟨p0, p1, p2, p3⟩ := HPB.out _ hb3'.out
  have HBG3 := Lib.hid (HBG.out _ (HBW.out _ hb3'.out))
  clear hoa hbw2 hA1 hRes1 HBW1 HR1 HBG
  go_wp2_with fail
  refine HBG3.out.mono ?_
  rintro e w4 ⟨v4, rfl, ho4, hb4⟩
  obtain ⟨A5, c5, rfl, hr5, hc51, hc52⟩ := own_rdc ho4
  obtain ⟨l5, hl5⟩ : ∃ l, l = (fsR a onto).length := ⟨_, rfl⟩
  have HL5 := Lib.hid hl5
  have HO4 := Lib.hid ho4
  have HB4 := Lib.hid hb4
  have hz3 := hb4.size
  rw [World.size_alloc] at hz3
  rw [← hl5] at hc51 ⊢
  clear ho4 hb4 hr5 hl5 HBG3 p0 p1 p2 p3
  have HNIL := Lib.hid (World.ownsRow_nil (w4.alloc (.cells #[.slice A5 l5 c5] 27)) w2.heap.size 27 1)
  go_wp2_with (at_builtin; refine wpList_append_own _ rfl (.tmp 20) (.tmp 24) 36 rfl w2.heap.size 27 iL (.slice none 0 0) 1 24 Tryz.underlying36 iL0 iL1 iL2 iL3 rfl (by omega) _ 0 [] rfl HNIL.out ⟨w4.heap.size, 0, none⟩ 1 1 [.slice A5 l5 c5] rfl rfl (World.news_of_block (cs := #[.slice A5 l5 c5]) (t := 27) (fr := (0, 0)) (heap_alloc_new w4 _)) (by simp [Value.oneCell']) (by unfold maxLen; omega) (by omega) (by simp; omega) ?_)
  intro vt7 w7 ho7 hg7 _
  have HRS7 := Lib.hid (show RS w2 w7 w2.heap.size (.slice Aa nk ca) (.slice none 0 0) (canEn (dtA a onto) 0) (.slice none 0 0) (canMn (dtA a onto) 0) vt7 [⟨A5, c5, fsR a onto⟩] from by
    have := RS.word (n := 1) (vt' := vt7) (w1 := w7) (x := ⟨A5, c5, fsR a onto⟩) HRS.out (HB4.out.alloc HB4.out.size (.cells #[.slice A5 l5 c5] 27)) (by
      unfold Hd.enc; exact HO4.out.alloc _) (by unfold Hd.enc; simp only [List.map_nil, List.nil_append]; rw [← HL5.out]; simpa using ho7) rfl hg7
    exact this)
  have HZ7 := Lib.hid (show ([(⟨A5, c5, fsR a onto⟩ : Hd)]).map Hd.z = (Fd (dtA a onto) 0).map (deR a onto) by
    rw [Fd]; simp only [List.map_cons, List.map_nil]; rw [HDZ.out])
  clear ho7 hg7 HNIL HO4 HB4 HRS hb3' HL5
  go_wp2_with fail
  go_loopw [7, 8] (fun vt i wr => ∃ (j : Nat) (vm ve : Value) (hs : List Hd), i = .int .i64 j ∧ Hid (j ≤ (Fd (dtA a onto) j).length) ∧ Hid (RS w2 wr w2.heap.size (.slice Aa nk ca) ve (canEn (dtA a onto) j) vm (canMn (dtA a onto) j) vt hs) ∧ Hid (hs.map Hd.z = (Fd (dtA a onto) j).map (deR a onto))) (fun _ i _ => 6000 - (intOf i).toNat)
  case atStart => exact ⟨0, _, _, _, rfl, Lib.hid (Nat.zero_le _), HRS7, HZ7⟩
  case round =>
    clear HRS7 HZ7 hz3
    obtain ⟨j, vm, ve, hs, rfl, hjl, hrs, hmap⟩ := hrel
    obtain ⟨L, hL⟩ : ∃ L, L = (Fd (dtA a onto) j).length := ⟨_, rfl⟩
    have HLn := Lib.hid hL
    have hjL : j ≤ L := by rw [hL]; exact hjl.out
    have hL5 : L ≤ 4096 := by
      have h1 := (Fd_fnd HPR.out HST0.out j).length_le
      have h2 := HSF.out
      rw [← hL] at h1; omega
    have hhs : hs.length = L := by have := congrArg List.length hmap.out; rw [List.length_map, List.length_map, ← hL] at this; exact this
    have hL0 : 0 < L := by
      have h1 := (Fd_mono' (a := (dtA a onto)) (Nat.zero_le j)).length_le
      rw [← hL, Fd] at h1; simp at h1; omega
    obtain ⟨gV, cV, rfl, hcV1, hcV2, hcV3⟩ := hrs.out.gl.len hhs hL0
    have HHS := Lib.hid hhs
    clear hL hjl
    by_cases hlt : j < L
    · obtain ⟨q, hq⟩ : ∃ q, q = (Fd (dtA a onto) j).getD j 0 := ⟨_, rfl⟩
      have hjf : j < (Fd (dtA a onto) j).length := by rw [← HLn.out]; exact hlt
      have hqr : 0 ≤ q ∧ q < (dtA a onto).st := by rw [hq]; exact Fd_range HPR.out HST0.out j _ (getD_mem hjf)
      have hqf : (fnd (dtA a onto)).getD j 0 = q := by rw [hq]; exact getD_pre (Fd_fnd HPR.out HST0.out j) hjf
      have hjn : j < (fnd (dtA a onto)).length := Nat.lt_of_lt_of_le hjf (Fd_fnd HPR.out HST0.out j).length_le
      obtain ⟨x, hx⟩ : ∃ x, hs[j]? = some x := ⟨_, List.getElem?_eq_getElem (by rw [hhs]; exact hlt)⟩
      have hxz : x.z = (deR a onto) q := by
        have h1 := congrArg (fun z => z[j]?) hmap.out
        simp only [List.getElem?_map, hx, List.getElem?_eq_getElem hjf, Option.map_some, Option.some.injEq] at h1
        rw [h1, hq, List.getD, List.getElem?_eq_getElem hjf]; rfl
      have hxl : x.z.length ≤ S := by
        have h1 := sub_len (de_ok HRI.out onto hqr)
        rw [← hxz] at h1
        have h9 := HST.out
        omega
      have hcx := hcV3 j x hx
      obtain ⟨hxr, hxc1, hxc2⟩ := hrs.out.gl.word_rd hx
      have HX := Lib.hid hx
      obtain ⟨Ax, cx, zx⟩ := x
      simp only [Hd.enc] at hcx hxz hxl hxr hxc1 hxc2
      obtain ⟨lx, hlx⟩ : ∃ l, l = zx.length := ⟨_, rfl⟩
      have HLX := Lib.hid hlx
      rw [← hlx] at hcx hxc1 hxl
      have HXZ := Lib.hid hxz
      have HXL := Lib.hid hxl
      have HQ := Lib.hid hq
      have HQR := Lib.hid hqr
      have HQF := Lib.hid hqf
      have hmk : (zx.any fun x => decide (x ∈ a.mr)) = decide (q ∈ (dtA a onto).mr) := by
        have h2 := mk_any HRI.out onto (k := j) (by rw [det_dt hst0.out]; exact hjn)
        rw [det_dt hst0.out, hqf, ← hxz] at h2
        exact h2
      have HMK := Lib.hid (show canMn (dtA a onto) j ++ mkS zx a.mr j m = canMn (dtA a onto) (j + 1) by
        unfold mkS
        rw [List.take_of_length_le (by rw [HMM.out]; exact Nat.le_refl _), any_comm, hmk]
        by_cases h1 : q ∈ (dtA a onto).mr
        · rw [decide_eq_true h1, if_pos rfl, canMn_yes (by rw [hqf]; exact h1)]
        · rw [decide_eq_false h1, canMn_no (by rw [hqf]; exact h1)]; simp)
      have hml := canMn_len (dtA a onto) j
      have hmlt := Lib.hid (canMn_lt (dtA a onto) j)
      have hzp := Lib.hid (fun k => visK_preJ HPR.out HST0.out (j := j) (k := k) hjf hq)
      have hgo := Lib.hid (Fd_go hjf)
      have hjz : (0 : Int) ≤ (j : Int) := by omega
      have hjLz : (j : Int) < (L : Int) := by omega
      have HGV := Lib.hid (fun W (hW : Below w2.heap.size w2 W) => trivial : ∀ W, Below w2.heap.size w2 W → True)
      have HRS0 := Lib.hid (show RS w2 wr w2.heap.size (.slice Aa nk ca) ve (canEn (dtA a onto) j) vm (canMn (dtA a onto) j ++ mkS zx a.mr j 0) (.slice (some ⟨gV, 0, none⟩) L cV) hs from by rw [mkS_zero, List.append_nil]; exact hrs.out)
      clear hq hjf hqr hqf hx hxz hmk hcV3 hxr hxc1 hxc2 hxl hrs hjn hlx hcx HGV
      go_wp2_with fail
      go_loopw [9] (fun kv wx => ∃ (t : Nat) (vm : Value), kv = .int .i64 t ∧ t ≤ m ∧ Hid (RS w2 wx w2.heap.size (.slice Aa nk ca) ve (canEn (dtA a onto) j) vm (canMn (dtA a onto) j ++ mkS zx a.mr j t) (.slice (some ⟨gV, 0, none⟩) L cV) hs)) (fun kv _ => m - (intOf kv).toNat)
      case atStart => exact ⟨0, vm, rfl, Nat.zero_le _, HRS0⟩
      case round =>
        clear HRS0
        obtain ⟨t, vm, rfl, htm, hrs⟩ := hrel
        obtain ⟨p0, p1, p2, p3⟩ := HPB.out _ hrs.out.bel
        by_cases htl : t < m
        · obtain ⟨bm, om, hMe, hbmB, hcm⟩ := HMR.out _ (HBW.out _ hrs.out.bel) (by rw [HMM.out]; omega)
          subst hMe
          have htz : t < a.mr.length := by rw [HMM.out]; exact htl
          have hcmt := hcm t htz
          obtain ⟨y, hy⟩ : ∃ y, y = a.mr.getD t 0 := ⟨_, rfl⟩
          rw [← hy] at hcmt
          obtain ⟨_, _, eV, _, _, hcW⟩ := hrs.out.gl.len HHS.out hL0
          injection eV with eV1 eV2 eV3
          injection eV1 with eV4
          injection eV4 with eV5
          subst eV5 eV3
          have hcx := hcW j _ HX.out
          simp only [Hd.enc] at hcx
          rw [← HLX.out] at hcx
          obtain ⟨hxr, _, _⟩ := hrs.out.gl.word_rd HX.out
          simp only at hxr
          obtain ⟨ms, hms⟩ : ∃ ms, ms = canMn (dtA a onto) j ++ mkS zx a.mr j t := ⟨_, rfl⟩
          have HMS := Lib.hid hms
          have hsn := mkS_snoc (zx := zx) (j := j) htz
          rw [← hy] at hsn
          have HSN := Lib.hid hsn
          obtain ⟨Am, dm, hvm, hmr, hmc1, hmc2⟩ := own_rdc (show Own wr w2.heap.size vm ms from by rw [hms]; exact hrs.out.gl.ends)
          subst hvm
          rw [← hms] at hrs
          have hmsl : ms.length ≤ j + 1 := by
            have h1 : (mkS zx a.mr j t).length ≤ 1 := by unfold mkS; split <;> simp
            rw [hms, List.length_append]; omega
          obtain ⟨lm, hlm⟩ : ∃ l, l = ms.length := ⟨_, rfl⟩
          have HLM := Lib.hid hlm
          rw [← hlm] at hmc1 hmsl hrs
          have c2 := hrs.out.bx.cell 2 rfl
          obtain ⟨r1, hr1⟩ : ∃ r, r = decide (y ∈ zx) := ⟨_, rfl⟩
          obtain ⟨r2, hr2⟩ : ∃ r, r = decide ((j : Int) ∈ ms) := ⟨_, rfl⟩
          have HE' := Lib.hid (show ∀ q : Nat, Calls Tryz.prog 49 #[.slice Ax lx cx, .int .i64 y] (wr.drewN q) (fun e w' => e = .returned (.bool r1) ∧ w' = wr.drewN q) from fun q => (r7Has_any Ax lx cx wr.heap.size zx y (wr.drewN q) (hxr.dr q) HLX.out.symm (by have := HXL.out; omega)).mono fun e w' hh => ⟨by rw [hr1]; exact hh.1, hh.2.symm⟩)
          have HO' := Lib.hid (show ∀ q : Nat, Calls Tryz.prog 49 #[.slice Am lm dm, .int .i64 (j : Int)] (wr.drewN q) (fun e w' => e = .returned (.bool r2) ∧ w' = wr.drewN q) from fun q => (r7Has_any Am lm dm wr.heap.size ms (j : Int) (wr.drewN q) (hmr.dr q) hlm.symm (by omega)).mono fun e w' hh => ⟨by rw [hr2]; exact hh.1, hh.2.symm⟩)
          have HR1 := Lib.hid hr1
          have HR2 := Lib.hid hr2
          have z0 : (t : Int) < (m : Int) := by omega
          have z1 : (0 : Int) ≤ (t : Int) := by omega
          have hcmD := hcm
          clear hsn hms hlm hy hxr hmr hcm hcW hcmD hr1 hr2
          cases r1
          · have hin : y ∉ zx := of_decide_eq_false HR1.out.symm
            have HNM := Lib.hid (show ms = canMn (dtA a onto) j ++ mkS zx a.mr j (t + 1) by
              rw [HMS.out, HSN.out]
              unfold mkS
              by_cases h3 : (a.mr.take t).any (fun x => decide (x ∈ zx)) = true
              · rw [if_pos h3, if_pos (.inl h3)]
              · rw [if_neg h3, if_neg (by rintro (h4 | h4); exact h3 h4; exact hin h4)])
            clear hin
            go_wp2_with fail
            go_quiet ((go_at_call 49; first | with_reducible exact Calls.quiet_of_same (HE'.out _) | with_reducible exact Calls.quiet_of_same (HO'.out _)))
            go_wp2_with fail
            go_roundw
            case rel => exact ⟨t + 1, _, by go_num, by omega, by rw [← HNM.out]; exact Lib.hid (hrs.out.drewN _)⟩
            case measure => simp [intOf]; omega
          · have hin : y ∈ zx := of_decide_eq_true HR1.out.symm
            cases r2
            · have hjm : (j : Int) ∉ ms := of_decide_eq_false HR2.out.symm
              have HNM := Lib.hid (show ms ++ [(j : Int)] = canMn (dtA a onto) j ++ mkS zx a.mr j (t + 1) by
                have h3 : mkS zx a.mr j t = [] := by
                  unfold mkS
                  rw [if_neg]
                  intro h3
                  apply hjm
                  rw [HMS.out]
                  exact List.mem_append_right _ (by unfold mkS; rw [if_pos h3]; simp)
                rw [HMS.out, h3, HSN.out, if_pos (.inr hin), List.append_nil])
              have hmo := Lib.hid (show wr.ownsRow w2.heap.size 3 1 (.slice Am lm dm) lm (ms.map (Value.int .i64)) by rw [HLM.out]; rw [HLM.out] at hrs; exact hrs.out.gl.ends)
              have c2' := fun q => (hrs.out.drewN q).bx.cell 2 rfl
              have f2' := fun q => (hrs.out.drewN q).bx.frozen 2
              have hs5 := hrs.out.bel.size
              have hb5' := hrs.out.bx.lt
              clear hin hjm
              go_wp2_with fail
              go_quiet ((go_at_call 49; first | with_reducible exact Calls.quiet_of_same (HE'.out _) | with_reducible exact Calls.quiet_of_same (HO'.out _)))
              go_wp2_with (at_builtin; refine wpList_append_own_at _ rfl (.tmp 57) (.tmp 59) 27 rfl w2.heap.size 3 iI (.int .i64 0) 1 8 Tryz.underlying27 iI0 iI1 iI2 iI3 rfl (by omega) _ lm (ms.map (Value.int .i64)) rfl ((own_dr hmo.out _).alloc _) ⟨wr.heap.size, 0, none⟩ 1 1 [.int .i64 (j : Int)] rfl rfl (World.news_of_block (cs := #[.int .i64 (j : Int)]) (t := 3) (fr := (0, 0)) (heap_alloc_new (wr.drewN _) _)) (by simp [Value.oneCell']) (by unfold maxLen; omega) (by omega) (by simp; omega) ?_)
              intro v6 w6 hown6 hgrow6 _ hat6
              obtain ⟨A6, c6, hv6⟩ := own_shapeS hown6
              subst hv6
              have hbx6 := Lib.hid (((hrs.out.drewN nq).alloc (.cells #[.int .i64 (j : Int)] 3)).bx.grS hgrow6 (fun e => row_ne_own ((hrs.out.drewN nq).alloc (.cells #[.int .i64 (j : Int)] 3)).bx ((hrs.out.drewN nq).alloc (.cells #[.int .i64 (j : Int)] 3)).gl.ends (by decide) e.symm))
              have HRS6 := Lib.hid (RS.mark (x := (j : Int)) (hrs.out.drewN nq) (show Own w6 w2.heap.size (.slice A6 (lm + 1) c6) (ms ++ [(j : Int)]) by unfold Own; rw [List.length_append, ← HLM.out, List.map_append]; exact hown6) hgrow6 (by
                intro jj hjj
                rcases hat6 with h1 | h1
                · left; exact (show (Value.slice Am lm dm).ownBlock = _ from h1.symm).trans hjj
                · right; rw [h1] at hjj; injection hjj with hjj; first | omega | (simp at hjj; omega) | (rw [World.size_alloc] at hjj; omega) | (subst hjj; simp) | (subst hjj; exact Nat.le_refl _)))
              have c2'' := hbx6.out.cell 2 rfl
              have f2'' := hbx6.out.frozen 2
              clear hown6 hgrow6 hat6
              go_wp2_with fail
              go_roundw
              case rel => exact ⟨t + 1, _, by go_num, by omega, by rw [← HNM.out]; exact HRS6⟩
              case measure => simp [intOf]; omega
            · have hjm : (j : Int) ∈ ms := of_decide_eq_true HR2.out.symm
              have HNM := Lib.hid (show ms = canMn (dtA a onto) j ++ mkS zx a.mr j (t + 1) by
                have h1 : (j : Int) ∈ mkS zx a.mr j t := by
                  have h2 := hjm
                  rw [HMS.out, List.mem_append] at h2
                  rcases h2 with h2 | h2
                  · exact absurd h2 hmlt.out
                  · exact h2
                have h3 : (a.mr.take t).any (fun x => decide (x ∈ zx)) = true := by
                  unfold mkS at h1; split at h1
                  · assumption
                  · cases h1
                rw [HMS.out, HSN.out, if_pos (.inl h3)]
                unfold mkS; rw [if_pos h3])
              clear hin hjm
              go_wp2_with fail
              go_quiet ((go_at_call 49; first | with_reducible exact Calls.quiet_of_same (HE'.out _) | with_reducible exact Calls.quiet_of_same (HO'.out _)))
              go_wp2_with fail
              go_roundw
              case rel => exact ⟨t + 1, _, by go_num, by omega, by rw [← HNM.out]; exact Lib.hid (hrs.out.drewN _)⟩
              case measure => simp [intOf]; omega
        · have htm2 : t = m := by omega
          rw [htm2, HMK.out] at hrs
          have z0 : (m : Int) ≤ (t : Int) := by omega
          have pA := hrs.out.bx.cell 0 rfl
          have hLL := Lib.hid (visitL_pre (succK (dtA a onto) q 0) (Fd (dtA a onto) j))
          clear HMK htm2
          go_wp2_with fail
          clear pA p0 p1 p2 p3
          go_loopw [7, 10] (fun vt kv wx => ∃ (t : Nat) (ve : Value) (hs : List Hd), kv = .int .i64 t ∧ t ≤ nk ∧ Hid (RS w2 wx w2.heap.size (.slice Aa nk ca) ve (canEn (dtA a onto) j ++ outK (dtA a onto) j t) vm (canMn (dtA a onto) (j + 1)) vt hs) ∧ Hid (hs.map Hd.z = (visitL (Fd (dtA a onto) j) (succK (dtA a onto) q t)).map (deR a onto)) ∧ Hid (hs[j]? = some ⟨Ax, cx, zx⟩)) (fun _ kv _ => nk - (intOf kv).toNat)
          case atStart => exact ⟨0, ve, hs, rfl, Nat.zero_le _, by rw [outK_zero, List.append_nil]; exact hrs, by rw [succK_zero, visitL_nil]; exact hmap, HX⟩
          case round =>
            clear hrs hmap HX HHS hcV1 hcV2 z0 htl htm
            obtain ⟨t, ve, hs, rfl, htm, hrs, hmap, hX⟩ := hrel
            obtain ⟨fl, hfl⟩ : ∃ fl, fl = visitL (Fd (dtA a onto) j) (succK (dtA a onto) q t) := ⟨_, rfl⟩
            have HFL := Lib.hid hfl
            obtain ⟨es, hes⟩ : ∃ es, es = canEn (dtA a onto) j ++ outK (dtA a onto) j t := ⟨_, rfl⟩
            have HES := Lib.hid hes
            rw [← hfl] at hmap
            rw [← hes] at hrs
            obtain ⟨N2, hN2⟩ : ∃ N2, N2 = fl.length := ⟨_, rfl⟩
            have HN2 := Lib.hid hN2
            have hpre : Fd (dtA a onto) j <+: fl := by rw [hfl]; exact visitL_pre _ _
            have hLN : L ≤ N2 := by have := hpre.length_le; rw [← HLn.out, ← hN2] at this; exact this
            have hpf : fl <+: fnd (dtA a onto) := by rw [hfl]; exact hzp.out t
            have hN5 : N2 ≤ 4096 := by
              have h1 := hpf.length_le
              have h2 := HSF.out
              rw [← hN2] at h1; omega
            have hrg := Lib.hid (fun y (hy : y ∈ fl) => fnd_range HPR.out y (hpf.subset hy))
            have hhs : hs.length = N2 := by have := congrArg List.length hmap.out; rw [List.length_map, List.length_map, ← hN2] at this; exact this
            obtain ⟨gV2, cV2, rfl, hcV1, hcV2, hcV3⟩ := hrs.out.gl.len hhs (by omega)
            have hcx := hcV3 j _ hX.out
            obtain ⟨hxr, hxc1, hxc2⟩ := hrs.out.gl.word_rd hX.out
            simp only [Hd.enc] at hcx hxr
            rw [← HLX.out] at hcx
            have HHS := Lib.hid hhs
            have hgW : gV2 < wr.heap.size := (hrs.out.gl.row.lt gV2 rfl).2
            have hbs := hrs.out.bel.size
            have pA := hrs.out.bx.cell 0 rfl
            have hal : (dtA a onto).al.length = nk := by rw [HNK.out]; rfl
            clear hfl hes hN2 hpre hpf hhs hcV3 hxc1 hxc2
            by_cases htl : t < nk
            · have hta : t < (kpR a onto).length := by rw [← HNK.out]; exact htl
              obtain ⟨gA, _, hAe, hgB, hgA, hcA⟩ := own_cell7 (HOA1.out wr hrs.out.bel) (j := t) hta
              injection hAe with hAe1 hAe2 hAe3
              subst hAe1
              obtain ⟨ev, hev⟩ : ∃ ev, ev = (kpR a onto).getD t 0 := ⟨_, rfl⟩
              have hevm : ev ∈ kpR a onto := by rw [hev]; exact getD_mem hta
              rw [← hev] at hcA
              have HEV := Lib.hid hev
              have HLK := Lib.hid (dt_link HRI.out onto HQR.out hevm)
              rw [← HXZ.out] at HLK
              obtain ⟨tz, htz⟩ : ∃ tz, tz = nxR a onto zx ev := ⟨_, rfl⟩
              obtain ⟨lz, hlz⟩ : ∃ lz, lz = tz.length := ⟨_, rfl⟩
              have HTZ := Lib.hid htz
              have HLZ := Lib.hid hlz
              have hlzS : lz ≤ S := by rw [hlz, htz]; exact HNL.out zx ev
              have hbx0 := hrs.out.bx.lt
              have HS1 := Lib.hid (fun W (hW : Below wr.heap.size wr W) => HNX.out W (HBW.out _ (hrs.out.bel.trans (hW.mono hrs.out.bel.size))) Ax lx cx zx ev ((hxr.below hW (Nat.le_refl _)).more hW.size) HLX.out.symm (by have := HXL.out; omega))
              rw [← htz] at HS1
              have HBX2 := Lib.hid (fun W (hW : Below wr.heap.size wr W) => HPB.out W (hrs.out.bel.trans (hW.mono hrs.out.bel.size)))
              have hbr := Lib.hid (Below.refl wr.heap.size wr)
              have hbd := Lib.hid ((Below.refl wr.heap.size wr).drew)
              have hCC := Lib.hid (fun W (hW : Below wr.heap.size wr W) => (⟨(hW.cell (p := ⟨gV2, j, none⟩) hgW).trans hcx, (hW.cell (p := ⟨w2.heap.size, 0, none⟩) hbx0).trans pA, (hW.cell (p := ⟨gA, t, none⟩) hgA).trans hcA⟩ : W.cell? ⟨gV2, j, none⟩ = some (.slice Ax lx cx) ∧ W.cell? ⟨w2.heap.size, 0, none⟩ = some (.slice (some ⟨gA, 0, none⟩) nk ca) ∧ W.cell? ⟨gA, t, none⟩ = some (.int .i64 ev)))
              obtain ⟨p0, p1, p2, p3⟩ := HBX2.out _ hbr.out
              have htz0 : (0 : Int) ≤ (t : Int) := by omega
              have htm2 : (t : Int) < (nk : Int) := by omega
              have hjN : (j : Int) < (N2 : Int) := by omega
              clear hev hevm hta htz hlz hAe2 hAe3
              go_wp2_with fail
              go_upto_region 16 with fail
              go_cut [11] from 62 to 119 (fun v wx => ∃ A5 c5, v = .slice A5 lz c5 ∧ Hid (Own wx wr.heap.size (.slice A5 tz.length c5) tz) ∧ Hid (Below wr.heap.size wr wx))
              case first =>
                go_region_held3 (fun w' => w'.cell? ⟨w.heap.size, 0, none⟩ = some (.slice A n c) ∧ w'.cell? ⟨w.heap.size, 1, none⟩ = some (.int .i64 (S : Int)) ∧ w'.cell? ⟨w.heap.size, 2, none⟩ = some (.slice M m d) ∧ w'.cell? ⟨w.heap.size, 3, none⟩ = some (.slice E k g) ∧ w'.cell? ⟨gV2, j, none⟩ = some (.slice Ax lx cx) ∧ w'.cell? ⟨w2.heap.size, 0, none⟩ = some (.slice (some ⟨gA, 0, none⟩) nk ca) ∧ w'.cell? ⟨gA, t, none⟩ = some (.int .i64 ev)) (first | with_reducible exact ⟨p0, p1, p2, p3, hcx, pA, hcA⟩ | go_keep)
                  (first
                  | (go_simp; go_at_call 26; (first | with_reducible refine (HS1.out _ hbr.out).mono ?_ | with_reducible refine (HS1.out _ hbd.out).mono ?_); rintro e w5 ⟨v5, rfl, ho5, hb5⟩
                     obtain ⟨A5, c5, rfl, _, _, _⟩ := own_rdc ho5
                     have HB5 := Lib.hid (by first | exact hb5 | exact (Below.refl wr.heap.size wr).drew.trans hb5 : Below wr.heap.size wr w5)
                     have HO5 := Lib.hid ho5
                     obtain ⟨hcx, pA, hcA⟩ := hCC.out w5 HB5.out
                     obtain ⟨p0, p1, p2, p3⟩ := HBX2.out w5 HB5.out
                     clear hb5 ho5))
                all_goals
                  go_wp2_with fail
                  go_meet
                  case rel => exact ⟨A5, c5, by rw [HLZ.out], by first | exact HO5 | exact Lib.hid (own_dr HO5.out 1), by first | exact HB5 | exact Lib.hid HB5.out.drew⟩
              case rest =>
                obtain ⟨A5, c5, rfl, hO5, hB5⟩ := hcut
                have hrs5 := Lib.hid (hrs.out.call hB5.out)
                have hkal : t < (dtA a onto).al.length := by rw [hal]; exact htl
                have hal2 : (dtA a onto).al.getD t 0 = ev := HEV.out.symm
                clear p0 p1 p2 p3 HBX2 hCC HS1 hcx pA hcA hbr hbd
                rcases HLK.out with ⟨hu, hed⟩ | ⟨hu, u, hed, hur, hdu⟩
                · have htn : tz = [] := by rw [HTZ.out]; exact (nxR_nil HRI.out).2 (tgL_nil.1 hu)
                  obtain rfl : lz = 0 := by rw [HLZ.out, htn]; rfl
                  have HVIS := Lib.hid (show visitL (Fd (dtA a onto) j) (succK (dtA a onto) q (t + 1)) = fl by rw [succK_none hkal (by rw [hal2]; exact hed), ← HFL.out])
                  have HOUT := Lib.hid (show canEn (dtA a onto) j ++ outK (dtA a onto) j (t + 1) = es by rw [outK_none hkal (by rw [HQF.out, hal2]; exact hed), ← HES.out])
                  clear hed hrs HLK hkal hal2 htn hu
                  go_wp2_with fail
                  go_roundw
                  case rel => exact ⟨t + 1, ve, hs, by go_num, by omega, by rw [HOUT.out]; exact hrs5, by rw [HVIS.out]; exact hmap, hX⟩
                  case measure => simp [intOf]; omega
                · have hlz0 : lz ≠ 0 := fun e => by
                    rw [HLZ.out] at e
                    have h1 : tz = [] := List.eq_nil_of_length_eq_zero e
                    rw [HTZ.out] at h1
                    exact hu (tgL_nil.2 ((nxR_nil HRI.out).1 h1))
                  have hz0 : ((lz : Int) == 0) = false := by simp; omega
                  have htu : (deR a onto) u = tz := by rw [hdu, HTZ.out, HXZ.out]
                  have hvis : visitL (Fd (dtA a onto) j) (succK (dtA a onto) q (t + 1)) = visit fl u := by
                    rw [succK_some hkal (x := ⟨q, ev, u⟩) (by rw [hal2]; exact hed), visitL_snoc, ← HFL.out]
                  have hpr1 := hzp.out (t + 1)
                  rw [hvis] at hpr1
                  have hidx : (visit fl u).idxOf u = (fnd (dtA a onto)).idxOf u := (idx_pre hpr1 (mem_visit.2 (.inr rfl))).symm
                  have hinj : ∀ y ∈ fl, (deR a onto) y = (deR a onto) u → y = u := fun y hy e => de_inj HRI.out onto (hrg.out y hy) hur e
                  obtain ⟨hadd, haddI⟩ := addS_map (f := (deR a onto)) (x := ⟨A5, c5, tz⟩) hmap.out htu.symm hinj
                  have HVIS := Lib.hid hvis
                  have HADD := Lib.hid hadd
                  have HADI := Lib.hid (show ((addS hs ⟨A5, c5, tz⟩).map Hd.z).idxOf tz = (fnd (dtA a onto)).idxOf u from haddI.trans hidx)
                  have HOUT := Lib.hid (show canEn (dtA a onto) j ++ outK (dtA a onto) j (t + 1) = es ++ [⟨(j : Int), ev, ((fnd (dtA a onto)).idxOf u : Int)⟩] by
                    rw [outK_some hkal (x := ⟨q, ev, u⟩) (by rw [HQF.out, hal2]; exact hed), ← List.append_assoc, ← HES.out])
                  have hel : es.length ≤ 170000 := by
                    have h1 := canEn_leJ HPR.out j
                    have h2 := succK_lenJ (dtA a onto) ((fnd (dtA a onto)).getD j 0) t
                    have h3 : (outK (dtA a onto) j t).length ≤ (dtA a onto).al.length := by unfold outK; rw [List.length_map]; exact h2
                    rw [HES.out, List.length_append]
                    rw [hal] at h1 h3
                    have h4 : j * nk ≤ 4096 * 32 := Nat.mul_le_mul (by omega) hk32
                    omega
                  obtain ⟨I, hI⟩ : ∃ I, I = (fnd (dtA a onto)).idxOf u := ⟨_, rfl⟩
                  rw [← hI] at HADI HOUT
                  have HT0 := Lib.hid (show tz ∉ (hs.map Hd.z).take 0 by simp)
                  have HW0 := Lib.hid (Below.refl wc.heap.size wc)
                  have hzz := hB5.out.size
                  have hrd5 := Lib.hid (show RdI wc wc.heap.size A5 tz by
                    obtain ⟨_, _, e1, k1, _, _⟩ := own_rdc hO5.out
                    injection e1 with e1 _ _
                    subst e1; exact k1)
                  clear hur hvis hpr1 hidx hI hed HLK hkal hal2 hdu htu hinj hadd haddI hu hlz0
                  go_wp2_with fail
                  go_loopw [12] (fun tv wx => ∃ p : Nat, p ≤ N2 ∧ tv = .int .i64 p ∧ Hid (tz ∉ (hs.map Hd.z).take p) ∧ Hid (Below wc.heap.size wc wx)) (fun tv _ => N2 - (intOf tv).toNat)
                  case atStart => exact ⟨0, Nat.zero_le _, rfl, HT0, HW0⟩
                  case round =>
                    clear HT0 HW0
                    obtain ⟨p, hp, rfl, hnp, hwx⟩ := hrel
                    have hrsx := Lib.hid (hrs5.out.call hwx.out)
                    by_cases hpl : p < N2
                    · have hpm : p < (hs.map Hd.z).length := by rw [List.length_map, HHS.out]; exact hpl
                      obtain ⟨xp, hxp⟩ : ∃ x, hs[p]? = some x := ⟨_, List.getElem?_eq_getElem (by rw [HHS.out]; exact hpl)⟩
                      have hxpz : (hs.map Hd.z).getD p [] = xp.z := by
                        rw [List.getD, List.getElem?_map, hxp]; rfl
                      have hxpl : xp.z.length ≤ S := by
                        have h1 : xp.z ∈ hs.map Hd.z := List.mem_map.2 ⟨xp, List.mem_of_getElem? hxp, rfl⟩
                        rw [hmap.out] at h1
                        obtain ⟨y, hy, hye⟩ := List.mem_map.1 h1
                        have h2 := sub_len (de_ok HRI.out onto (hrg.out y hy))
                        rw [hye] at h2
                        have h9 := HST.out
                        omega
                      obtain ⟨_, _, eV, _, _, hcW⟩ := hrsx.out.gl.len HHS.out (by omega)
                      injection eV with eV1 eV2 eV3
                      injection eV1 with eV4
                      injection eV4 with eV5
                      subst eV5
                      clear eV2 eV3
                      have hcp := hcW p _ hxp
                      obtain ⟨hpr, _, _⟩ := hrsx.out.gl.word_rd hxp
                      obtain ⟨Ap, cp, zp⟩ := xp
                      simp only [Hd.enc] at hcp hxpz hxpl hpr
                      obtain ⟨lp, hlp⟩ : ∃ l, l = zp.length := ⟨_, rfl⟩
                      rw [← hlp] at hcp hxpl
                      have HC := Lib.hid (sameInts_b Ap A5 lp lz cp c5 wr.heap.size zp tz wr hpr ((hrd5.out.below hwx.out (Nat.le_refl _)).more hwx.out.size) hlp.symm HLZ.out.symm (by omega) (by omega))
                      have z3 : (p : Int) < (N2 : Int) := by omega
                      have z4 : (0 : Int) ≤ (p : Int) := by omega
                      by_cases he : zp = tz
                      · rw [decide_eq_true he] at HC
                        obtain ⟨hmem, hix⟩ := fnd_atS hpm hnp.out (by rw [hxpz]; exact he)
                        have hIe : p = I := by
                          rw [← HADI.out]
                          unfold addS
                          rw [if_pos hmem]
                          exact hix.symm
                        have hmapT := Lib.hid (show hs.map Hd.z = (visitL (Fd (dtA a onto) j) (succK (dtA a onto) q (t + 1))).map (deR a onto) by
                          rw [HVIS.out, ← HADD.out]; unfold addS; rw [if_pos hmem])
                        have hXT := hX
                        have hpN : ((p : Int) == (N2 : Int)) = false := by simp; omega
                        have HIE := Lib.hid hIe
                        clear he hmem hix hpm hxp hxpz hnp hlp hpr hcW hIe
                        go_wp2_with fail
                        refine HC.out.mono ?_
                        rintro e w9 ⟨rfl, hb9⟩
                        have hrsT := Lib.hid (hrsx.out.call hb9)
                        clear hb9 HC hrsx hrs5 hwx hcp
                        go_wp2_with fail
                        have u0 := hrsT.out.bx.cell 3 rfl
                        have u3 := hrsT.out.bx.frozen 3
                        have pA := hrsT.out.bx.cell 0 rfl
                        have hbl := hrsT.out.bx.lt
                        obtain ⟨gA', _, eA, _, hgA', hcA⟩ := own_cell7 (HOA1.out _ hrsT.out.bel) (j := t) (by rw [← HNK.out]; exact htl)
                        injection eA with eA1 eA2 eA3
                        injection eA1 with eA4
                        injection eA4 with eA5
                        subst eA5
                        clear eA2 eA3
                        rw [← HEV.out] at hcA
                        have v0 := fun cs : Array Value => (World.cell?_alloc_lt w9 (.cells cs 79) ⟨w2.heap.size, 3, none⟩ hbl).trans u0
                        have v1 := fun cs : Array Value => (frozen?_alloc_cells w9 cs 79 ⟨w2.heap.size, 3, none⟩).trans u3
                        have hneV : some w2.heap.size ≠ ve.ownBlock := fun e => row_ne_own hrsT.out.bx hrsT.out.eo (by decide) e.symm
                        have heo := Lib.hid hrsT.out.eo
                        have hbs2 := hrsT.out.bel.size
                        have hcA2 := Lib.hid hcA
                        go_wp2_with fail
                        go_region_law (first
                          | (refine step_append_lies _ (by rfl) (.tmp 108) (.tmp 117) _ (by rfl) w2.heap.size 79 iE (.agg #[.int .i64 0, .int .i64 0, .int .i64 0]) 3 24 Tryz.underlying31 iE0 iE1 iE2 iE3 rfl (by omega) ve es.length (encE es) (by rfl) (by first | exact (heo.out.alloc _).drew | exact (heo.out.alloc _)) ⟨w9.heap.size, 0, none⟩ 1 1 [.int .i64 (j : Int), .int .i64 ev, .int .i64 (p : Int)] (by rfl) (by rfl) (World.news_of_block (cs := #[.int .i64 (j : Int), .int .i64 ev, .int .i64 (p : Int)]) (t := 79) (fr := (0, 0)) (heap_alloc_new w9 _)) (by simp [Value.oneCell']) (by omega) (by unfold maxLen; omega) (by omega) (by simp; omega) (w9.heap.size + 1) (by simp) ?_; intro gG capG w6 hown6 hgrow6 hat6 hlt6; have hc6 := (hgrow6.cell_far ⟨w2.heap.size, 3, none⟩ (by simp; omega) hneV).trans (v0 _); have hf6 := (hgrow6.frozen_far ⟨w2.heap.size, 3, none⟩ (by simp; omega) hneV).trans (v1 _)))
                        all_goals
                          have hown7 : OwnE w6 w2.heap.size (.slice (some ⟨gG, 0, none⟩) (es.length + 1) capG) (es ++ [⟨(j : Int), ev, (p : Int)⟩]) := by
                            unfold OwnE; rw [encE_app, List.length_append]; exact hown6
                          have hrs8 := Lib.hid (show RS w2 (w6.setCell ⟨w2.heap.size, 3, none⟩ (.slice (some ⟨gG, 0, none⟩) (es.length + 1) capG)) w2.heap.size (.slice (some ⟨gA, 0, none⟩) nk ca) (.slice (some ⟨gG, 0, none⟩) (es.length + 1) capG) (es ++ [⟨(j : Int), ev, (p : Int)⟩]) vm (canMn (dtA a onto) (j + 1)) _ hs from by
                            first
                            | exact RS.edge hrsT.out hown7 hgrow6
                            | exact RS.edge hrsT.out.drew hown7 hgrow6)
                          rw [HIE.out, ← HOUT.out] at hrs8
                          clear hown7 hown6 hgrow6 hat6 hc6 hf6 hlt6
                          go_wp2_with fail
                          go_roundw
                          case measure => simp [intOf]; omega
                          case rel => exact ⟨t + 1, _, hs, by go_num, by omega, by first | exact hrs8 | exact Lib.hid hrs8.out.drew, hmapT, hXT⟩
                      · rw [decide_eq_false he] at HC
                        have hnp2 := Lib.hid (notin_nextS hpm hnp.out (by rw [hxpz]; exact he))
                        clear he hpm hxp hxpz hlp hpr hcW
                        go_wp2_with fail
                        refine HC.out.mono ?_
                        rintro e w9 ⟨rfl, hb9⟩
                        have hw9 := Lib.hid (hwx.out.trans (hb9.mono hwx.out.size))
                        clear hb9 HC
                        go_wp2_with fail
                        go_roundw
                        case rel => exact ⟨p + 1, by omega, by go_num, hnp2, hw9⟩
                        case measure => simp [intOf]; omega
                    · obtain ⟨p, rfl⟩ : ∃ p', p' = p := ⟨_, rfl⟩
                      have hpe : p = N2 := by omega
                      have hnm : tz ∉ hs.map Hd.z := by
                        have := hnp.out
                        rwa [List.take_of_length_le (by rw [List.length_map, HHS.out]; omega)] at this
                      have hIe : p = I := by
                        rw [← HADI.out]
                        unfold addS
                        rw [if_neg hnm, List.map_append, List.idxOf_append, if_neg hnm]
                        simp [HHS.out, hpe]
                      have hmapT := Lib.hid (show (hs ++ [(⟨A5, c5, tz⟩ : Hd)]).map Hd.z = (visitL (Fd (dtA a onto) j) (succK (dtA a onto) q (t + 1))).map (deR a onto) by
                        rw [HVIS.out, ← HADD.out]; unfold addS; rw [if_neg hnm])
                      have hXT := Lib.hid (show (hs ++ [(⟨A5, c5, tz⟩ : Hd)])[j]? = some ⟨Ax, cx, zx⟩ by
                        rw [List.getElem?_append_left (by rw [HHS.out]; omega)]; exact hX.out)
                      have hrow := hrsx.out.gl.row
                      rw [HHS.out] at hrow
                      have HROW := Lib.hid hrow
                      have hz6 := hrsx.out.bel.size
                      have hwz := hwx.out.size
                      have HB7 := Lib.hid (hB5.out.trans (hwx.out.mono hB5.out.size))
                      have HO7 := Lib.hid (own_below hO5.out hwx.out)
                      have z3 : (N2 : Int) ≤ (p : Int) := by omega
                      have z4 : ((p : Int) == (N2 : Int)) = true := by simp; omega
                      have HIE := Lib.hid hIe
                      clear hnm hrow hnp hIe hpe
                      go_wp2_with (at_builtin; refine wpList_append_own _ rfl (.tmp 103) (.tmp 105) 36 rfl w2.heap.size 27 iL (.slice none 0 0) 1 24 Tryz.underlying36 iL0 iL1 iL2 iL3 rfl (by omega) _ N2 (hs.map Hd.enc) rfl (HROW.out.alloc _) ⟨wr.heap.size, 0, none⟩ 1 1 [.slice A5 lz c5] rfl rfl (World.news_of_block (cs := #[.slice A5 lz c5]) (t := 27) (fr := (0, 0)) (heap_alloc_new wr _)) (by simp [Value.oneCell']) (by unfold maxLen; omega) (by omega) (by simp; omega) ?_)
                      intro vt7 w7 ho7 hg7 _
                      have hrsT := Lib.hid (show RS w2 w7 w2.heap.size (.slice (some ⟨gA, 0, none⟩) nk ca) ve es vm (canMn (dtA a onto) (j + 1)) vt7 (hs ++ [⟨A5, c5, tz⟩]) from by
                        refine RS.word (n := N2 + 1) (x := ⟨A5, c5, tz⟩) hrs.out (HB7.out.alloc HB7.out.size (.cells #[.slice A5 lz c5] 27)) ?_ ?_ (by rw [HHS.out]) hg7
                        · exact HO7.out.alloc (.cells #[.slice A5 lz c5] 27)
                        · unfold Hd.enc at ho7 ⊢; simp only [← HLZ.out]; exact ho7)
                      clear ho7 hg7 hrsx hrs5
                      go_wp2_with fail
                      have u0 := hrsT.out.bx.cell 3 rfl
                      have u3 := hrsT.out.bx.frozen 3
                      have pA := hrsT.out.bx.cell 0 rfl
                      have hbl := hrsT.out.bx.lt
                      obtain ⟨gA', _, eA, _, hgA', hcA⟩ := own_cell7 (HOA1.out _ hrsT.out.bel) (j := t) (by rw [← HNK.out]; exact htl)
                      injection eA with eA1 eA2 eA3
                      injection eA1 with eA4
                      injection eA4 with eA5
                      subst eA5
                      clear eA2 eA3
                      rw [← HEV.out] at hcA
                      have v0 := fun cs : Array Value => (World.cell?_alloc_lt w7 (.cells cs 79) ⟨w2.heap.size, 3, none⟩ hbl).trans u0
                      have v1 := fun cs : Array Value => (frozen?_alloc_cells w7 cs 79 ⟨w2.heap.size, 3, none⟩).trans u3
                      have hneV : some w2.heap.size ≠ ve.ownBlock := fun e => row_ne_own hrsT.out.bx hrsT.out.eo (by decide) e.symm
                      have heo := Lib.hid hrsT.out.eo
                      have hbs2 := hrsT.out.bel.size
                      have hcA2 := Lib.hid hcA
                      go_wp2_with fail
                      go_region_law (first
                        | (refine step_append_lies _ (by rfl) (.tmp 108) (.tmp 117) _ (by rfl) w2.heap.size 79 iE (.agg #[.int .i64 0, .int .i64 0, .int .i64 0]) 3 24 Tryz.underlying31 iE0 iE1 iE2 iE3 rfl (by omega) ve es.length (encE es) (by rfl) (by first | exact (heo.out.alloc _).drew | exact (heo.out.alloc _)) ⟨w7.heap.size, 0, none⟩ 1 1 [.int .i64 (j : Int), .int .i64 ev, .int .i64 (p : Int)] (by rfl) (by rfl) (World.news_of_block (cs := #[.int .i64 (j : Int), .int .i64 ev, .int .i64 (p : Int)]) (t := 79) (fr := (0, 0)) (heap_alloc_new w7 _)) (by simp [Value.oneCell']) (by omega) (by unfold maxLen; omega) (by omega) (by simp; omega) (w7.heap.size + 1) (by simp) ?_; intro gG capG w6 hown6 hgrow6 hat6 hlt6; have hc6 := (hgrow6.cell_far ⟨w2.heap.size, 3, none⟩ (by simp; omega) hneV).trans (v0 _); have hf6 := (hgrow6.frozen_far ⟨w2.heap.size, 3, none⟩ (by simp; omega) hneV).trans (v1 _)))
                      all_goals
                        have hown7 : OwnE w6 w2.heap.size (.slice (some ⟨gG, 0, none⟩) (es.length + 1) capG) (es ++ [⟨(j : Int), ev, (p : Int)⟩]) := by
                          unfold OwnE; rw [encE_app, List.length_append]; exact hown6
                        have hrs8 := Lib.hid (show RS w2 (w6.setCell ⟨w2.heap.size, 3, none⟩ (.slice (some ⟨gG, 0, none⟩) (es.length + 1) capG)) w2.heap.size (.slice (some ⟨gA, 0, none⟩) nk ca) (.slice (some ⟨gG, 0, none⟩) (es.length + 1) capG) (es ++ [⟨(j : Int), ev, (p : Int)⟩]) vm (canMn (dtA a onto) (j + 1)) _ (hs ++ [⟨A5, c5, tz⟩]) from by
                          first
                          | exact RS.edge hrsT.out hown7 hgrow6
                          | exact RS.edge hrsT.out.drew hown7 hgrow6)
                        rw [HIE.out, ← HOUT.out] at hrs8
                        clear hown7 hown6 hgrow6 hat6 hc6 hf6 hlt6
                        go_wp2_with fail
                        go_roundw
                        case measure => simp [intOf]; omega
                        case rel => exact ⟨t + 1, _, (hs ++ [⟨A5, c5, tz⟩]), by go_num, by omega, by first | exact hrs8 | exact Lib.hid hrs8.out.drew, hmapT, hXT⟩
            · have htm2 : t = nk := by omega
              have hFs : fl = Fd (dtA a onto) (j + 1) := by rw [HFL.out, htm2, succK_all HPR.out hal, hgo.out, HQ.out]
              have hEs : es = canEn (dtA a onto) (j + 1) := by rw [HES.out, htm2, outK_all HPR.out hal]
              rw [hFs] at hmap
              rw [hEs] at hrs
              have hj1 := Lib.hid (show j + 1 ≤ (Fd (dtA a onto) (j + 1)).length by rw [← hFs, ← HN2.out]; omega)
              have z0 : (nk : Int) ≤ (t : Int) := by omega
              clear hFs hEs hcx hal
              go_wp2_with fail
              go_roundw
              case rel => exact ⟨j + 1, _, _, hs, by go_num, hj1, hrs, hmap⟩
              case measure => simp [intOf]; omega
    · have hjLe : j = L := by omega
      have hfn : fnd (dtA a onto) = Fd (dtA a onto) j := fnd_at HPR.out HST0.out (by rw [← HLn.out]; omega) (by
        have := Fd_len HPR.out HST0.out j
        rw [← HLn.out] at this; omega)
      have hlen : (fnd (dtA a onto)).length = j := by rw [hfn, ← HLn.out]; exact hjLe.symm
      have hcm : canM (dtA a onto) = canMn (dtA a onto) j := by rw [← hlen]; rfl
      have hce : (canA (dtA a onto)).ed = canEn (dtA a onto) j := by rw [← hlen]; rfl
      have hmapF := hmap.out
      rw [← hfn] at hmapF
      have HMP := Lib.hid hmapF
      have z0 : (L : Int) ≤ (j : Int) := by omega
      have HRS8 := Lib.hid hrs.out
      have hR := Lib.hid (HRW.out wr hrs.out.bel)
      obtain ⟨M3, d3, hvm, _, hM2, hM3⟩ := own_rdc hrs.out.gl.ends
      obtain ⟨E3, g3, hve, _, hE2, hE3⟩ := ownE_rd hrs.out.eo
      subst hvm hve
      obtain ⟨lm, hlm⟩ : ∃ lm, lm = (canMn (dtA a onto) j).length := ⟨_, rfl⟩
      obtain ⟨le, hle⟩ : ∃ le, le = (canEn (dtA a onto) j).length := ⟨_, rfl⟩
      have HLM := Lib.hid hlm
      have HLE := Lib.hid hle
      have hml := canMn_len (dtA a onto) j
      have hel := canEn_leJ HPR.out j
      have hal : (dtA a onto).al.length = nk := by rw [HNK.out]; rfl
      rw [hal] at hel
      have hel2 : j * nk ≤ 4096 * 32 := Nat.mul_le_mul (by omega) hk32
      rw [← hlm, ← hle] at HRS8
      rw [← hlm] at hM2 hml
      rw [← hle] at hE2 hel
      have HCM := Lib.hid hcm
      have HCE := Lib.hid hce
      have HLEN := Lib.hid hlen
      have x0 := HRS8.out.bx.cell 0 rfl
      have x1 := HRS8.out.bx.cell 1 rfl
      have x2 := HRS8.out.bx.cell 2 rfl
      have x3 := HRS8.out.bx.cell 3 rfl
      have y1 := HRS8.out.bx.frozen 1
      have r0 := hR.out.cell 0 rfl
      have r1 := hR.out.cell 1 rfl
      have r2 := hR.out.cell 2 rfl
      have r3 := hR.out.cell 3 rfl
      have s0 := hR.out.frozen 0
      have s1 := hR.out.frozen 1
      have s2 := hR.out.frozen 2
      have s3 := hR.out.frozen 3
      clear hfn hcm hce hmapF hlen hcV3 hlm hle hrs
      go_wp2_with fail
      obtain ⟨W8, hW8⟩ : ∃ W8, W8 = wr.setCell ⟨w2.heap.size, 1, none⟩ (.int .i64 (L : Int)) := ⟨_, rfl⟩
      rw [← hW8]
      have hbx8 := HRS8.out.bx
      have q1 := own_pokeS (j := 1) (u := .int .i64 (L : Int)) (HOA1.out wr HRS8.out.bel) hbx8 (by decide)
      have q2 := own_pokeS (j := 1) (u := .int .i64 (L : Int)) HRS8.out.eo hbx8 (by decide)
      have q3 := own_pokeS (j := 1) (u := .int .i64 (L : Int)) HRS8.out.gl.row hbx8 (by decide)
      have q4 : ∀ x ∈ hs, Own W8 w2.heap.size x.enc x.z := fun x hx => by rw [hW8]; exact own_pokeS (j := 1) (u := .int .i64 (L : Int)) (HRS8.out.gl.own x hx) hbx8 (by decide)
      have q5 := own_pokeS (j := 1) (u := .int .i64 (L : Int)) HRS8.out.gl.ends hbx8 (by decide)
      rw [← hW8] at q1 q2 q3 q5
      have hrow8 : Row W8 (w.heap.size + 1) 33 [.slice none 0 0, .int .i64 0, .slice none 0 0, .slice none 0 0] := by
        rw [hW8]; exact hR.out.setOther (p := ⟨w2.heap.size, 1, none⟩) (by have := HSZ.out; simp only; omega) _
      have hb8 : Below w.heap.size w W8 := by rw [hW8]; exact (HBW.out _ HRS8.out.bel).setCell (p := ⟨w2.heap.size, 1, none⟩) (by have := HSZ.out; simp only; omega) _
      have hrow := hrow8.set4 (.slice Aa nk ca) (.int .i64 (L : Int)) (.slice M3 lm d3) (.slice E3 le g3)
      have hb9 := below_set4 hb8 (show w.heap.size ≤ w.heap.size + 1 by omega) (.slice Aa nk ca) (.int .i64 (L : Int)) (.slice M3 lm d3) (.slice E3 le g3)
      have k1 := own_put4S q1 HZ1.out (.slice Aa nk ca) (.int .i64 (L : Int)) (.slice M3 lm d3) (.slice E3 le g3)
      have k2 := own_put4S q2 HSZ.out (.slice Aa nk ca) (.int .i64 (L : Int)) (.slice M3 lm d3) (.slice E3 le g3)
      have k3 := own_put4S q3 HSZ.out (.slice Aa nk ca) (.int .i64 (L : Int)) (.slice M3 lm d3) (.slice E3 le g3)
      have k4 := fun x hx => own_put4S (q4 x hx) HSZ.out (.slice Aa nk ca) (.int .i64 (L : Int)) (.slice M3 lm d3) (.slice E3 le g3)
      have k5 := own_put4S q5 HSZ.out (.slice Aa nk ca) (.int .i64 (L : Int)) (.slice M3 lm d3) (.slice E3 le g3)
      refine bodyPost_ret (v := .tuple #[.agg #[.slice Aa nk ca, .int .i64 (L : Int), .slice M3 lm d3, .slice E3 le g3], .slice (some ⟨gV, 0, none⟩) L cV]) (ret_cell1S rfl rfl rfl (load_aut hrow)) rfl ?_
      generalize ((((W8.setCell ⟨w.heap.size + 1, 0, none⟩ (.slice Aa nk ca)).setCell ⟨w.heap.size + 1, 1, none⟩ (.int .i64 (L : Int))).setCell ⟨w.heap.size + 1, 2, none⟩ (.slice M3 lm d3)).setCell ⟨w.heap.size + 1, 3, none⟩ (.slice E3 le g3)) = W9 at *
      obtain ⟨a1, a2, a3, a4⟩ := own_rdv (show Own W9 w1.heap.size (.slice Aa nk ca) (kpR a onto) from k1)
      obtain ⟨b1, b2, b3, b4⟩ := ownE_rdv (show OwnE W9 w2.heap.size (.slice E3 le g3) (canEn (dtA a onto) j) from by unfold OwnE; rw [← HLE.out] ; rw [HLE.out]; rw [HLE.out] at k2; exact k2)
      obtain ⟨m1, m2, m3, m4⟩ := own_rdv (show Own W9 w2.heap.size (.slice M3 lm d3) (canMn (dtA a onto) j) from by unfold Own; rw [HLM.out]; rw [HLM.out] at k5; exact k5)
      obtain ⟨AV', cV', ev, l1, l2, l3⟩ := ownL_rd k3 k4
      injection ev with ev1 ev2 ev3
      subst ev1 ev3
      refine ⟨Aa, nk, ca, (L : Int), M3, lm, d3, E3, le, g3, some ⟨gV, 0, none⟩, L, cV, hs, rfl, ?_, l1, HHS.out, ?_, hb9⟩
      · rw [det_dt hst0.out]
        exact { al := a1, mr := by show RdI _ _ _ (canM (dtA a onto)); rw [HCM.out]; exact m1, ed := by rw [HCE.out]; exact b1, hn := by show (dtA a onto).al.length = nk; exact hal, hm := by show (canM (dtA a onto)).length = lm; rw [HCM.out]; exact HLM.out.symm, hk := by rw [HCE.out]; exact HLE.out.symm, st := by show ((fnd (dtA a onto)).length : Int) = (L : Int); rw [HLEN.out, hjLe], cn := ⟨a3, a4⟩, cm := ⟨m3, m4⟩, ck := ⟨b3, b4⟩, bn := by omega, bm := by omega, bk := by omega }
      · rw [det_dt hst0.out]; exact HMP.out
set_option maxHeartbeats 16000000 in
set_option maxRecDepth 100000 in
theorem r7Project_none (A : Option Addr) (n c : Nat) (s : Int) (M : Option Addr) (m d : Nat) (E : Option Addr) (k g : Nat) (a : Au) (A3 : Option Addr) (n3 c3 : Nat) (onto : List Int) (w : World) (h : AuR w w.heap.size A n c s M m d E k g a) (hri : RightW a) (h0 : a.st = 0) (hx3 : RdI w w.heap.size A3 onto) (hn3 : onto.length = n3) (hb3 : n3 ≤ 100000) :
    Calls Tryz.prog 15 #[.agg #[.slice A n c, .int .i64 s, .slice M m d, .slice E k g], .slice A3 n3 c3] w fun e w' => ProR a onto w w' e := by
  have HST := Lib.hid h.st
  obtain rfl : s = 0 := by have := h.st; omega
  have H0 := Lib.hid h0
  have HRI := Lib.hid hri
  have hb1 := ((Below.refl w.heap.size w).alloc (Nat.le_refl _) (.cells #[.slice A n c, .int .i64 0, .slice M m d, .slice E k g] 33)).alloc (by simp) (.cells #[.slice none 0 0, .int .i64 0, .slice none 0 0, .slice none 0 0] 33)
  have HB1 := Lib.hid hb1
  have hA := Lib.hid ((Row.new w [.slice A n c, .int .i64 0, .slice M m d, .slice E k g] 33).alloc (.cells #[.slice none 0 0, .int .i64 0, .slice none 0 0, .slice none 0 0] 33))
  have hRes := Lib.hid (show Row ((w.alloc (.cells #[.slice A n c, .int .i64 0, .slice M m d, .slice E k g] 33)).alloc (.cells #[.slice none 0 0, .int .i64 0, .slice none 0 0, .slice none 0 0] 33)) (w.heap.size + 1) 33 [.slice none 0 0, .int .i64 0, .slice none 0 0, .slice none 0 0] by
    have := Row.new (w.alloc (.cells #[.slice A n c, .int .i64 0, .slice M m d, .slice E k g] 33)) [.slice none 0 0, .int .i64 0, .slice none 0 0, .slice none 0 0] 33
    simpa using this)
  have HKP := Lib.hid (fun W (hW : Below w.heap.size w W) => r7Kept_any A n c 0 M m d E k g a A3 n3 c3 onto W ((h.below hW (Nat.le_refl _)).more hW.size) ((hx3.below hW (Nat.le_refl _)).more hW.size) hn3 hb3)
  have hk32 := kp_len hri onto
  have p0 := hA.out.cell 0 rfl
  have p1 := hA.out.cell 1 rfl
  have p2 := hA.out.cell 2 rfl
  have p3 := hA.out.cell 3 rfl
  clear h hri h0 hx3 hn3 hb1
  go_enter Tryz.func15, Tryz.ntmps15
  go_wp2_with fail
  refine (HKP.out _ HB1.out).mono ?_
  rintro e w1 ⟨v1, rfl, ho1, hbw1⟩
  obtain ⟨A1, c1, rfl, hr1, hc1, hc2⟩ := own_rdc ho1
  obtain ⟨nk, hnk⟩ : ∃ nk, nk = (kpR a onto).length := ⟨_, rfl⟩
  rw [← hnk] at hk32 hc1 ⊢
  have HNK := Lib.hid hnk
  have HR1 := Lib.hid hr1
  have HBW1 := Lib.hid (HB1.out.trans (hbw1.mono HB1.out.size))
  have hA1 := Lib.hid (hA.out.below hbw1 (hA.out.lt))
  have hRes1 := Lib.hid (hRes.out.below hbw1 (hRes.out.lt))
  clear ho1 hr1 hbw1 hnk HKP p0 p1 p2 p3 hA hRes HB1
  go_wp2_with fail
  refine (rEmpty_any A1 nk c1 w1.heap.size (kpR a onto) w1 HR1.out (Nat.le_refl _) HNK.out.symm (by omega)).mono ?_
  rintro e w2 ⟨Aa, ca, rfl, hoa, hbw2, hca1, hca2⟩
  have HB2 := Lib.hid (HBW1.out.trans (hbw2.mono HBW1.out.size))
  have hA2 := Lib.hid (hA1.out.below hbw2 (hA1.out.lt))
  have hRes2 := Lib.hid (hRes1.out.below hbw2 (hRes1.out.lt))
  have HOA := Lib.hid (show Own w2 w1.heap.size (.slice Aa nk ca) (kpR a onto) from hoa)
  have hzA := hA2.out.lt
  have hzR := hRes2.out.lt
  have HZ1 := Lib.hid (show w.heap.size + 1 < w1.heap.size from hRes1.out.lt)
  have HPB := Lib.hid (fun W (hW : Below w2.heap.size w2 W) => box_row A n c 0 M m d E k g (hA2.out.below hW hA2.out.lt))
  have HRW := Lib.hid (fun W (hW : Below w2.heap.size w2 W) => hRes2.out.below hW hRes2.out.lt)
  have HOA1 := Lib.hid (fun W (hW : Below w2.heap.size w2 W) => own_below HOA.out hW)
  have HBW := Lib.hid (fun W (hW : Below w2.heap.size w2 W) => HB2.out.trans (hW.mono HB2.out.size))
  have HSZ := Lib.hid (show w.heap.size + 1 < w2.heap.size from hzR)
  have HRS := Lib.hid (RS.start w2 (.slice Aa nk ca))
  obtain ⟨p0, p1, p2, p3⟩ := HPB.out _ HRS.out.bel
  clear hoa hbw2 hA1 hRes1 HBW1 HR1
  obtain ⟨w3, hw3⟩ : ∃ w3, w3 = w2.alloc (.cells #[.slice Aa nk ca, .int .i64 0, .slice none 0 0, .slice none 0 0] 33) := ⟨_, rfl⟩
  have HW3 := Lib.hid hw3
  rw [← hw3] at HRS
  clear hw3
  go_wp2_with fail
  rw [← HW3.out]
  clear HW3 p0 p1 p2 p3
  go_loopw [7, 8] (fun vt i wr => vt = .slice none 0 0 ∧ i = .int .i64 0 ∧ wr = w3) (fun _ _ _ => 0)
  case atStart => exact ⟨rfl, rfl, rfl⟩
  case round =>
    obtain ⟨rfl, rfl, rfl⟩ := hrel
    have hR := Lib.hid (HRW.out _ HRS.out.bel)
    have x0 := HRS.out.bx.cell 0 rfl
    have x1 := HRS.out.bx.cell 1 rfl
    have x2 := HRS.out.bx.cell 2 rfl
    have x3 := HRS.out.bx.cell 3 rfl
    have y1 := HRS.out.bx.frozen 1
    have r0 := hR.out.cell 0 rfl
    have r1 := hR.out.cell 1 rfl
    have r2 := hR.out.cell 2 rfl
    have r3 := hR.out.cell 3 rfl
    have s0 := hR.out.frozen 0
    have s1 := hR.out.frozen 1
    have s2 := hR.out.frozen 2
    have s3 := hR.out.frozen 3
    go_wp2_with fail
    obtain ⟨W8, hW8⟩ : ∃ W8, W8 = wr.setCell ⟨w2.heap.size, 1, none⟩ (.int .i64 0) := ⟨_, rfl⟩
    rw [← hW8]
    have hbx8 := HRS.out.bx
    have q1 := own_pokeS (j := 1) (u := .int .i64 0) (HOA1.out wr HRS.out.bel) hbx8 (by decide)
    rw [← hW8] at q1
    have hrow8 : Row W8 (w.heap.size + 1) 33 [.slice none 0 0, .int .i64 0, .slice none 0 0, .slice none 0 0] := by
      rw [hW8]; exact hR.out.setOther (p := ⟨w2.heap.size, 1, none⟩) (by have := HSZ.out; simp only; omega) _
    have hb8 : Below w.heap.size w W8 := by rw [hW8]; exact (HBW.out _ HRS.out.bel).setCell (p := ⟨w2.heap.size, 1, none⟩) (by have := HSZ.out; simp only; omega) _
    have hrow := hrow8.set4 (.slice Aa nk ca) (.int .i64 0) (.slice none 0 0) (.slice none 0 0)
    have hb9 := below_set4 hb8 (show w.heap.size ≤ w.heap.size + 1 by omega) (.slice Aa nk ca) (.int .i64 0) (.slice none 0 0) (.slice none 0 0)
    have k1 := own_put4S q1 HZ1.out (.slice Aa nk ca) (.int .i64 0) (.slice none 0 0) (.slice none 0 0)
    refine bodyPost_ret (v := .tuple #[.agg #[.slice Aa nk ca, .int .i64 0, .slice none 0 0, .slice none 0 0], .slice none 0 0]) (ret_cell1S rfl rfl rfl (load_aut hrow)) rfl ?_
    generalize ((((W8.setCell ⟨w.heap.size + 1, 0, none⟩ (.slice Aa nk ca)).setCell ⟨w.heap.size + 1, 1, none⟩ (.int .i64 0)).setCell ⟨w.heap.size + 1, 2, none⟩ (.slice none 0 0)).setCell ⟨w.heap.size + 1, 3, none⟩ (.slice none 0 0)) = W9 at *
    obtain ⟨a1, a2, a3, a4⟩ := own_rdv (show Own W9 w1.heap.size (.slice Aa nk ca) (kpR a onto) from k1)
    have hd0 : detA a onto = ⟨kpR a onto, 0, [], []⟩ := by unfold detA; rw [if_pos H0.out]
    have hz0 : (detA a onto).st = 0 := by rw [hd0]
    have hca : canA (detA a onto) = ⟨kpR a onto, 0, [], []⟩ := by rw [can_zero hz0, hd0]
    refine ⟨Aa, nk, ca, 0, none, 0, 0, none, 0, 0, none, 0, 0, [], rfl, ?_, RdL.nil _ _ _, rfl, by rw [fnd_zero hz0]; rfl, hb9⟩
    rw [hca]
    exact { al := a1, mr := fun h => absurd h (by simp), ed := fun h => absurd h (by simp), hn := HNK.out.symm, hm := rfl, hk := rfl, st := rfl, cn := ⟨a3, a4⟩, cm := ⟨by omega, by omega⟩, ck := ⟨by omega, by omega⟩, bn := by omega, bm := by omega, bk := by omega }
theorem r7Project_any (A : Option Addr) (n c : Nat) (s : Int) (M : Option Addr) (m d : Nat) (E : Option Addr) (k g : Nat) (a : Au) (A3 : Option Addr) (n3 c3 : Nat) (onto : List Int) (w : World) (h : AuR w w.heap.size A n c s M m d E k g a) (hri : RightW a) (hs4 : a.st ≤ 100) (hx3 : RdI w w.heap.size A3 onto) (hn3 : onto.length = n3) (hb3 : n3 ≤ 100000) (hk5 : k ≤ 100000) (hf : (fnd (detA a onto)).length ≤ 4096) :
    Calls Tryz.prog 15 #[.agg #[.slice A n c, .int .i64 s, .slice M m d, .slice E k g], .slice A3 n3 c3] w fun e w' => ProR a onto w w' e := by
  by_cases h0 : a.st = 0
  · exact r7Project_none A n c s M m d E k g a A3 n3 c3 onto w h hri h0 hx3 hn3 hb3
  · have := hri.st0
    exact r7Project_some A n c s M m d E k g a A3 n3 c3 onto w h hri hs4 (by omega) hx3 hn3 hb3 hk5 (by rw [← det_dt h0]; exact hf)
end Go.Proofs.YtaadhpkpekmfoaaGreat
