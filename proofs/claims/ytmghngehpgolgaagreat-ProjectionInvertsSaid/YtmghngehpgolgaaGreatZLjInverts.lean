/- The law ProjectionInverts, walked. -/
import Derived.Test.YtmghngehpgolgaaGreatZa16
import Derived.Test.YtmghngehpgolgaaGreatZa17
import Derived.Test.YtmghngehpgolgaaGreatZsInv
set_option linter.unusedVariables false
set_option linter.unusedSimpArgs false
set_option linter.unusedSectionVars false
namespace Go.Proofs.YtmghngehpgolgaaGreat
open Go.RowKit Go.Sort
attribute [local go_sem ↓] exec_load_graph'
attribute [local go_sem] blkOf_ptr

theorem right_zero {a : Au} (h : RightW a) (h0 : a.st = 0) : a = ⟨a.al, 0, [], []⟩ := by
  obtain ⟨al, st, mr, ed⟩ := a
  simp only at h0
  subst h0
  have e1 : mr = [] := List.eq_nil_iff_forall_not_mem.2 fun x hx => by have := h.mrr x hx; simp only at this; omega
  have e2 : ed = [] := List.eq_nil_iff_forall_not_mem.2 fun x hx => by have := h.edr x hx; simp only at this; omega
  rw [e1, e2]
theorem inv_back' {a : Au} (h : RightW a) {al2 : List Int} (h2 : ∀ x ∈ al2, 0 ≤ x ∧ x < 32) : canA (detA (canA (invA a al2)) a.al) = canA a := by
  by_cases h0 : a.st = 0
  · have hi := inv_right h al2
    have hc := can_right hi
    have hf : fnd (invA a al2) = [] := fnd_zero (by rw [inv_st h]; exact h0)
    have hcs : (canA (invA a al2)).st = 0 := by show ((fnd (invA a al2)).length : Int) = 0; rw [hf]; rfl
    have hk : kpR (canA (invA a al2)) a.al = a.al := by
      refine pw_ext (r := fun x y : Int => x < y) (fun x => Int.lt_irrefl x) (fun x y h => by omega) _ _ (hc.alo.sublist List.filter_sublist) h.alo fun x => ?_
      rw [mem_kpR, can_al, mem_inv_al h h2]
      exact ⟨fun h' => h'.2, fun h' => ⟨.inl h', h'⟩⟩
    have hd : detA (canA (invA a al2)) a.al = a := by
      unfold detA
      rw [if_pos hcs, hk]
      exact (right_zero h h0).symm
    rw [hd]
  · exact inv_back h h0 h2
set_option maxHeartbeats 8000000 in
set_option maxRecDepth 100000 in
theorem lawPjInverts (x : Int) (gv : Nat → Value) (Ao : Option Addr) (no co : Nat) (al2 : List Int) (W : World) (S0 : (Lit.int .u8 x).wf = true) (S1 : GrC #[gv 0, gv 1, gv 2, gv 3, gv 4, gv 5, gv 6, gv 7, gv 8, gv 9, gv 10, gv 11, gv 12, gv 13, gv 14, gv 15, gv 16, gv 17, gv 18, gv 19, gv 20, gv 21, gv 22, gv 23, gv 24, gv 25, gv 26]) (SR : RdI W W.heap.size Ao al2) (SL : al2.length = no) (_SW : ∀ z ∈ al2, (Lit.int .i64 z).wf = true) (SC : no ≤ co ∧ co ≤ 9223372036854775807) :
    Calls Tryz.prog 6 #[.int .u8 x, .agg #[gv 0, gv 1, gv 2, gv 3, gv 4, gv 5, gv 6, gv 7, gv 8, gv 9, gv 10, gv 11, gv 12, gv 13, gv 14, gv 15, gv 16, gv 17, gv 18, gv 19, gv 20, gv 21, gv 22, gv 23, gv 24, gv 25, gv 26], .slice Ao no co] W fun e W' => e = .returned (.bool true) ∧ Below W.heap.size W W' := by
  have HL0 := Lib.hid (LW.first W [gv 0, gv 1, gv 2, gv 3, gv 4, gv 5, gv 6, gv 7, gv 8, gv 9, gv 10, gv 11, gv 12, gv 13, gv 14, gv 15, gv 16, gv 17, gv 18, gv 19, gv 20, gv 21, gv 22, gv 23, gv 24, gv 25, gv 26] 26)
  have HS0 := Lib.hid S0
  have HS1 := Lib.hid S1
  have HSR := Lib.hid SR
  have HON := Lib.hid SL
  have HSC := Lib.hid SC
  clear S0 S1 SR SL SC _SW
  by_cases h8 : 8 < no
  · go_enter Tryz.func6, Tryz.ntmps6
    go_wp2_with fail
    refine (k_kn HL0.out).mono ?_
    rintro e w1 ⟨rfl, hl⟩
    have HL1 := Lib.hid hl.lw
    clear hl
    go_wp2_with fail
    refine (k_kn HL1.out).mono ?_
    rintro e w2 ⟨rfl, hl⟩
    have HL2 := Lib.hid hl.lw
    clear hl
    go_wp2_with fail
    go_ret
    exact ⟨rfl, HL2.out.bel⟩
  have hn8 : no ≤ 8 := by omega
  obtain ⟨u, hu⟩ : ∃ u, csE 32 al2 = u := ⟨_, rfl⟩
  have HU := Lib.hid hu
  clear hu
  go_enter Tryz.func6, Tryz.ntmps6
  go_wp2_with fail
  refine (k_kn HL0.out).mono ?_
  rintro e w0 ⟨rfl, hl⟩
  have HLk := Lib.hid hl.lw
  clear hl
  go_wp2_with fail
  refine (k_list (u := u) (mx := 32) HU.out (HLk.out.ints HSR.out) HON.out (by omega) HLk.out).mono ?_
  rintro e w1 ⟨rfl, hl⟩
  have HL1 := Lib.hid hl.lw
  clear hl
  by_cases hu0 : u = 0
  rotate_left
  · have b1 : (u == 0) = false := by simp [hu0]
    have b2 : (u != 0) = true := by simp [hu0]
    go_wp2_with fail
    refine (k_kn HL1.out).mono ?_
    rintro e w2 ⟨rfl, hl⟩
    have HL2 := Lib.hid hl.lw
    clear hl
    go_wp2_with fail
    go_ret
    exact ⟨rfl, HL2.out.bel⟩
  subst hu0
  have hr := HL1.out.bx.grid 0 rfl
  have hz := HL1.out.bx.lt 0 rfl
  go_wp2_with fail
  go_cut [7] from 26 to 29 (fun v wx => PreR W [(W.heap.size, [gv 0, gv 1, gv 2, gv 3, gv 4, gv 5, gv 6, gv 7, gv 8, gv 9, gv 10, gv 11, gv 12, gv 13, gv 14, gv 15, gv 16, gv 17, gv 18, gv 19, gv 20, gv 21, gv 22, gv 23, gv 24, gv 25, gv 26])] v wx)
  case first =>
    go_region_held3 (fun w' => GridOk w' W.heap.size ∧ ∀ i : Nat, i < 27 → w'.cell? ⟨W.heap.size, i, none⟩ = some (gv i)) (first | with_reducible exact grid_two (hr) | with_reducible exact grid_two (grid_drew hr) | with_reducible exact grid_two (grid_alloc hr hz _ _) | with_reducible exact grid_two (grid_drew (grid_alloc hr hz _ _)) | with_reducible exact grid_two (grid_set4 hr (by omega) _ _ _ _) | with_reducible exact grid_two (grid_set4 (grid_alloc hr hz _ _) (by omega) _ _ _ _))
      (first
      | (go_simp; go_at_call 13; refine (events_any x _ HS0.out).mono ?_; rintro e w2 ⟨al, hev, A0, c0, rfl, hrd, hb2, hc0, hc02⟩
         have HB2 := Lib.hid hb2
         have HEV := Lib.hid hev
         have HRD := Lib.hid hrd
         have hz2 := hb2.size
         have hr : ∀ i : Nat, i < 27 → w2.cell? ⟨W.heap.size, i, none⟩ = some (gv i) := by first | with_reducible exact grid_below' hb2 hr hz | with_reducible exact grid_below' hb2 (grid_drew hr) (lt_drew hz) | with_reducible exact grid_below' hb2 (grid_alloc hr hz _ _) (lt_alloc hz _ _) | with_reducible exact grid_below' hb2 (grid_drew (grid_alloc hr hz _ _)) (lt_drew (lt_alloc hz _ _))
         have hz : W.heap.size < w2.heap.size := by (try simp at hz2); omega
         try (have hq : Row w2 w1.heap.size 33 [.slice none 0 0, .int .i64 0, .slice none 0 0, .slice none 0 0] := Row.below (row_drew (Row.new w1 [.slice none 0 0, .int .i64 0, .slice none 0 0, .slice none 0 0] 33)) hb2 (by simp); have hq0 := Lib.hid hq)
         clear hb2 hev hrd)
      | (go_simp; go_at_call 12; refine (make_any A0 al.length c0 w2.heap.size al #[gv 0, gv 1, gv 2, gv 3, gv 4, gv 5, gv 6, gv 7, gv 8, gv 9, gv 10, gv 11, gv 12, gv 13, gv 14, gv 15, gv 16, gv 17, gv 18, gv 19, gv 20, gv 21, gv 22, gv 23, gv 24, gv 25, gv 26] _ (by first | exact HRD.out | exact HRD.out.below ((Below.refl _ w2).alloc (Nat.le_refl _) _) (Nat.le_refl _)) (by simp) rfl hc0 HEV.out HS1.out).mono ?_; rintro e w3 ⟨a, v3, hok, rfl, ⟨A, n, c, s, M, m, d, E, k, g, rfl, hau, hfr⟩, hb3⟩
         have HB3 := Lib.hid hb3
         have HOK := Lib.hid hok
         have HAU := Lib.hid (show AuF a (.agg #[.slice A n c, .int .i64 s, .slice M m d, .slice E k g]) w3 _ from ⟨A, n, c, s, M, m, d, E, k, g, rfl, hau, hfr⟩)
         have hz3 := hb3.size
         have hr : ∀ i : Nat, i < 27 → w3.cell? ⟨W.heap.size, i, none⟩ = some (gv i) := by first | with_reducible exact grid_below' hb3 hr hz | with_reducible exact grid_below' hb3 (grid_drew hr) (lt_drew hz) | with_reducible exact grid_below' hb3 (grid_alloc hr hz _ _) (lt_alloc hz _ _) | with_reducible exact grid_below' hb3 (grid_drew (grid_alloc hr hz _ _)) (lt_drew (lt_alloc hz _ _))
         have hz : W.heap.size < w3.heap.size := by (try simp at hz3); omega
         try (have hq : Row w3 w1.heap.size 33 [.slice none 0 0, .int .i64 0, .slice none 0 0, .slice none 0 0] := hq0.out.below hb3 hq0.out.lt; have hq1 := Lib.hid hq; have y0 := hq.cell 0 rfl; have y1 := hq.cell 1 rfl; have y2 := hq.cell 2 rfl; have y3 := hq.cell 3 rfl; have g0 := hq.frozen 0; have g1 := hq.frozen 1; have g2 := hq.frozen 2; have g3 := hq.frozen 3; clear hq)
         try (have hq : Row w3 w2.heap.size 33 [.slice none 0 0, .int .i64 0, .slice none 0 0, .slice none 0 0] := Row.below (Row.new w2 [.slice none 0 0, .int .i64 0, .slice none 0 0, .slice none 0 0] 33) hb3 (by simp); have hq1 := Lib.hid hq; have y0 := hq.cell 0 rfl; have y1 := hq.cell 1 rfl; have y2 := hq.cell 2 rfl; have y3 := hq.cell 3 rfl; have g0 := hq.frozen 0; have g1 := hq.frozen 1; have g2 := hq.frozen 2; have g3 := hq.frozen 3; clear hq)
         clear hb3 hok hau hfr))
    all_goals
      go_wp2_with fail
      go_meet
      case rel => first | exact pre_1 HL1.out HB2.out HB3.out HEV.out HOK.out HAU.out | exact pre_2 HL1.out HB2.out HB3.out hq1.out HEV.out HOK.out HAU.out | exact pre_3 HL1.out HB2.out HB3.out hq1.out HEV.out HOK.out HAU.out
  case rest =>
    obtain ⟨bc, al, a, A, n, c, s, M, m, d, E, k, g, rfl, HL4, HEV, HOK, HAU⟩ := hcut
    rename World => wb
    have HB0 := Lib.hid HL4.out.bel
    have HOB := Lib.hid (HL4.out.ints HSR.out)
    have HL5 := Lib.hid (show LW wb ((bc, [.slice A n c, .int .i64 s, .slice M m d, .slice E k g]) :: [(W.heap.size, [gv 0, gv 1, gv 2, gv 3, gv 4, gv 5, gv 6, gv 7, gv 8, gv 9, gv 10, gv 11, gv 12, gv 13, gv 14, gv 15, gv 16, gv 17, gv 18, gv 19, gv 20, gv 21, gv 22, gv 23, gv 24, gv 25, gv 26])]) wb from ⟨Below.refl _ _, HL4.out.bx⟩)
    have HC := Lib.hid HOK.out.r.chk
    have HRI := Lib.hid HOK.out.r.toRightW
    have HST := Lib.hid HAU.out.st
    have HAL := Lib.hid HAU.out.hn
    have HAC := Lib.hid HAU.out.cn
    have hbn := HAU.out.bn
    have hs0 : 0 ≤ a.st := HRI.out.st0
    have hs5 : a.st ≤ 5 := HOK.out.st
    have HA2 := Lib.hid (csGo_ok al2 none HU.out).1
    have HIR := Lib.hid (inv_right HRI.out al2)
    have HIS := Lib.hid (inv_st HRI.out al2)
    have hci : chkE (invA a al2) = 0 := Right.chk { HIR.out with st1 := by rw [HIS.out]; omega }
    have HCW := Lib.hid (cwe_ok HC.out HU.out)
    have HIV := Lib.hid (show invR a al2 = (canA (invA a al2), 0) by
      unfold invR
      rw [if_pos HCW.out]
      unfold canR
      rw [if_neg (by rw [hci]; simp)])
    have HBK := Lib.hid (show canA (detA (canA (invA a al2)) a.al) = a by rw [inv_back' HRI.out HA2.out, HOK.out.c])
    obtain ⟨b, hb⟩ : ∃ b, canA (invA a al2) = b := ⟨_, rfl⟩
    have HRB := Lib.hid (show RightW b by rw [← hb]; exact can_right HIR.out)
    have HBS := Lib.hid (show b.st ≤ 5 by
      rw [← hb]
      have h1 := fnd_len HIR.out
      rw [HIS.out] at h1
      show ((fnd (invA a al2)).length : Int) ≤ 5
      omega)
    have HIB := Lib.hid hb
    rw [hb] at HIV HBK
    have HCB := Lib.hid (show chkE b = 0 from Right.chk { HRB.out with st1 := by have := HBS.out; omega })
    have HCW2 := Lib.hid (cwe_ok HCB.out (cs_mk HRI.out.alr HRI.out.alo))
    have HF4 := Lib.hid (show (fnd (detA b a.al)).length ≤ 4096 from Nat.le_trans (det_few HRB.out HBS.out a.al) (by omega))
    clear hb hci
    have p0_0 := HL5.out.bx.at 0 rfl 0 rfl
    have p0_1 := HL5.out.bx.at 0 rfl 1 rfl
    have p0_2 := HL5.out.bx.at 0 rfl 2 rfl
    have p0_3 := HL5.out.bx.at 0 rfl 3 rfl
    go_wp2_with fail
    refine (k_gives (jInverse_any A n c s M m d E k g Ao no co a al2 _ HAU.out HOB.out HON.out HSC.out (by omega)) HIV.out HL5.out).mono ?_
    rintro e w6 ⟨A1, n1, c1, s1, M1, m1, d1, E1, k1, g1, rfl, hau1, hl⟩
    clear p0_0 p0_1 p0_2 p0_3
    have HL6 := Lib.hid hl.lw
    have HAU := Lib.hid (hl.aut HAU.out)
    have HOB := Lib.hid (hl.ints HOB.out)
    have HIU := Lib.hid hau1
    clear hau1
    clear hl
    have p0_0 := HL6.out.bx.at 0 rfl 0 rfl
    have p0_1 := HL6.out.bx.at 0 rfl 1 rfl
    have p0_2 := HL6.out.bx.at 0 rfl 2 rfl
    have p0_3 := HL6.out.bx.at 0 rfl 3 rfl
    have HKa := Below.alloc (Below.refl w6.heap.size w6) (Nat.le_refl _) (.cells #[.slice A1 n1 c1, .int .i64 s1, .slice M1 m1 d1, .slice E1 k1 g1] 33)
    have HL6n := Lib.hid (HL6.out.new [.slice A1 n1 c1, .int .i64 s1, .slice M1 m1 d1, .slice E1 k1 g1] 33)
    have HAU := Lib.hid ((HAU.out.below HKa (Nat.le_refl _)).more HKa.size)
    have HOB := Lib.hid ((HOB.out.below HKa (Nat.le_refl _)).more HKa.size)
    have HIU := Lib.hid ((HIU.out.below HKa (Nat.le_refl _)).more HKa.size)
    clear HKa
    clear p0_0 p0_1 p0_2 p0_3
    have p0_0 := HL6n.out.bx.at 0 rfl 0 rfl
    have p0_1 := HL6n.out.bx.at 0 rfl 1 rfl
    have p0_2 := HL6n.out.bx.at 0 rfl 2 rfl
    have p0_3 := HL6n.out.bx.at 0 rfl 3 rfl
    have p1_0 := HL6n.out.bx.at 1 rfl 0 rfl
    have p1_1 := HL6n.out.bx.at 1 rfl 1 rfl
    have p1_2 := HL6n.out.bx.at 1 rfl 2 rfl
    have p1_3 := HL6n.out.bx.at 1 rfl 3 rfl
    have p0c := p0_0
    have HZ0 := Lib.hid (Below.refl (w6.alloc (.cells #[.slice A1 n1 c1, .int .i64 s1, .slice M1 m1 d1, .slice E1 k1 g1] 33)).heap.size (w6.alloc (.cells #[.slice A1 n1 c1, .int .i64 s1, .slice M1 m1 d1, .slice E1 k1 g1] 33)))
    go_wp2_with fail
    generalize hwz : (w6.alloc (.cells #[.slice A1 n1 c1, .int .i64 s1, .slice M1 m1 d1, .slice E1 k1 g1] 33)) = wz at *
    have HV0 := Lib.hid (show KW wb ((w6.heap.size, [.slice A1 n1 c1, .int .i64 s1, .slice M1 m1 d1, .slice E1 k1 g1]) :: ((bc, [.slice A n c, .int .i64 s, .slice M m d, .slice E k g]) :: [(W.heap.size, [gv 0, gv 1, gv 2, gv 3, gv 4, gv 5, gv 6, gv 7, gv 8, gv 9, gv 10, gv 11, gv 12, gv 13, gv 14, gv 15, gv 16, gv 17, gv 18, gv 19, gv 20, gv 21, gv 22, gv 23, gv 24, gv 25, gv 26])])) wz wz from ⟨HL6n.out, Below.refl _ _⟩)
    have HV0d := Lib.hid (show KW wb ((w6.heap.size, [.slice A1 n1 c1, .int .i64 s1, .slice M1 m1 d1, .slice E1 k1 g1]) :: ((bc, [.slice A n c, .int .i64 s, .slice M m d, .slice E k g]) :: [(W.heap.size, [gv 0, gv 1, gv 2, gv 3, gv 4, gv 5, gv 6, gv 7, gv 8, gv 9, gv 10, gv 11, gv 12, gv 13, gv 14, gv 15, gv 16, gv 17, gv 18, gv 19, gv 20, gv 21, gv 22, gv 23, gv 24, gv 25, gv 26])])) wz wz.drew from ⟨HL6n.out.drew, (Below.refl _ _).drew⟩)
    have HRV := Lib.hid (fun W' (hW : KW wb ((w6.heap.size, [.slice A1 n1 c1, .int .i64 s1, .slice M1 m1 d1, .slice E1 k1 g1]) :: ((bc, [.slice A n c, .int .i64 s, .slice M m d, .slice E k g]) :: [(W.heap.size, [gv 0, gv 1, gv 2, gv 3, gv 4, gv 5, gv 6, gv 7, gv 8, gv 9, gv 10, gv 11, gv 12, gv 13, gv 14, gv 15, gv 16, gv 17, gv 18, gv 19, gv 20, gv 21, gv 22, gv 23, gv 24, gv 25, gv 26])])) wz W') => k_auf (r7Inverse_any A n c s M m d E k g a Ao no co al2 W'.heap.size W' (hW.aut HAU.out) (hW.ints HOB.out) HON.out (by omega) (Nat.le_refl _) HRI.out s.toNat (by have := HST.out; omega) (by have := HST.out; omega)) hW.lw)
    rw [HIB.out] at HRV
    have HSM := Lib.hid (fun W' (hW : KW wb ((w6.heap.size, [.slice A1 n1 c1, .int .i64 s1, .slice M1 m1 d1, .slice E1 k1 g1]) :: ((bc, [.slice A n c, .int .i64 s, .slice M m d, .slice E k g]) :: [(W.heap.size, [gv 0, gv 1, gv 2, gv 3, gv 4, gv 5, gv 6, gv 7, gv 8, gv 9, gv 10, gv 11, gv 12, gv 13, gv 14, gv 15, gv 16, gv 17, gv 18, gv 19, gv 20, gv 21, gv 22, gv 23, gv 24, gv 25, gv 26])])) wz W') (A2 : Option Addr) (n2 c2 : Nat) (s2 : Int) (M2 : Option Addr) (m2 d2 : Nat) (E2 : Option Addr) (k2 g2 : Nat) (h2 : AuR W' W'.heap.size A2 n2 c2 s2 M2 m2 d2 E2 k2 g2 b) => k_rsame A2 n2 c2 s2 M2 m2 d2 E2 k2 g2 (decide_eq_true rfl) (hW.aut HIU.out) h2 hW.lw)
    go_cut [45] from 36 to 45 (fun v wx => v = .bool false ∧ Hid (KW wb ((w6.heap.size, [.slice A1 n1 c1, .int .i64 s1, .slice M1 m1 d1, .slice E1 k1 g1]) :: ((bc, [.slice A n c, .int .i64 s, .slice M m d, .slice E k g]) :: [(W.heap.size, [gv 0, gv 1, gv 2, gv 3, gv 4, gv 5, gv 6, gv 7, gv 8, gv 9, gv 10, gv 11, gv 12, gv 13, gv 14, gv 15, gv 16, gv 17, gv 18, gv 19, gv 20, gv 21, gv 22, gv 23, gv 24, gv 25, gv 26])])) wz wx))
    case first =>
      go_region_held3 (fun w' => w'.cell? ⟨bc, 0, none⟩ = some (.slice A n c) ∧ w'.cell? ⟨bc, 1, none⟩ = some (.int .i64 s) ∧ w'.cell? ⟨bc, 2, none⟩ = some (.slice M m d) ∧ w'.cell? ⟨bc, 3, none⟩ = some (.slice E k g) ∧ w'.cell? ⟨w6.heap.size, 0, none⟩ = some (.slice A1 n1 c1) ∧ w'.cell? ⟨w6.heap.size, 1, none⟩ = some (.int .i64 s1) ∧ w'.cell? ⟨w6.heap.size, 2, none⟩ = some (.slice M1 m1 d1) ∧ w'.cell? ⟨w6.heap.size, 3, none⟩ = some (.slice E1 k1 g1)) (first | with_reducible exact ⟨p1_0, p1_1, p1_2, p1_3, p0_0, p0_1, p0_2, p0_3⟩ | go_keep)
        (first
        | (go_simp; go_at_call 30; (first | with_reducible refine (HRV.out _ HV0.out).mono ?_ | with_reducible refine (HRV.out _ HV0d.out).mono ?_); rintro e wq ⟨A2, n2, c2, s2, M2, m2, d2, E2, k2, g2, rfl, hau2, hk6⟩
           have HV1 := Lib.hid (show KW wb ((w6.heap.size, [.slice A1 n1 c1, .int .i64 s1, .slice M1 m1 d1, .slice E1 k1 g1]) :: ((bc, [.slice A n c, .int .i64 s, .slice M m d, .slice E k g]) :: [(W.heap.size, [gv 0, gv 1, gv 2, gv 3, gv 4, gv 5, gv 6, gv 7, gv 8, gv 9, gv 10, gv 11, gv 12, gv 13, gv 14, gv 15, gv 16, gv 17, gv 18, gv 19, gv 20, gv 21, gv 22, gv 23, gv 24, gv 25, gv 26])])) wz wq from ⟨hk6.lw, by first | exact HV0.out.bel.trans (hk6.bel.mono HV0.out.bel.size) | exact HV0d.out.bel.trans (hk6.bel.mono HV0d.out.bel.size)⟩)
           have HV1d := Lib.hid (show KW wb ((w6.heap.size, [.slice A1 n1 c1, .int .i64 s1, .slice M1 m1 d1, .slice E1 k1 g1]) :: ((bc, [.slice A n c, .int .i64 s, .slice M m d, .slice E k g]) :: [(W.heap.size, [gv 0, gv 1, gv 2, gv 3, gv 4, gv 5, gv 6, gv 7, gv 8, gv 9, gv 10, gv 11, gv 12, gv 13, gv 14, gv 15, gv 16, gv 17, gv 18, gv 19, gv 20, gv 21, gv 22, gv 23, gv 24, gv 25, gv 26])])) wz wq.drew from ⟨HV1.out.lw.drew, HV1.out.bel.drew⟩)
           have HU2 := Lib.hid hau2
           have p0_0 := HV1.out.lw.bx.at 0 rfl 0 rfl
           have p0_1 := HV1.out.lw.bx.at 0 rfl 1 rfl
           have p0_2 := HV1.out.lw.bx.at 0 rfl 2 rfl
           have p0_3 := HV1.out.lw.bx.at 0 rfl 3 rfl
           have p1_0 := HV1.out.lw.bx.at 1 rfl 0 rfl
           have p1_1 := HV1.out.lw.bx.at 1 rfl 1 rfl
           have p1_2 := HV1.out.lw.bx.at 1 rfl 2 rfl
           have p1_3 := HV1.out.lw.bx.at 1 rfl 3 rfl
           clear hk6 hau2)
        | (go_simp; go_at_call 16; (first | with_reducible refine (HSM.out _ HV1.out _ _ _ _ _ _ _ _ _ _ HU2.out).mono ?_ | with_reducible refine (HSM.out _ HV1d.out _ _ _ _ _ _ _ _ _ _ HU2.out).mono ?_); rintro e wr ⟨rfl, hk7⟩
           have HV2 := Lib.hid (show KW wb ((w6.heap.size, [.slice A1 n1 c1, .int .i64 s1, .slice M1 m1 d1, .slice E1 k1 g1]) :: ((bc, [.slice A n c, .int .i64 s, .slice M m d, .slice E k g]) :: [(W.heap.size, [gv 0, gv 1, gv 2, gv 3, gv 4, gv 5, gv 6, gv 7, gv 8, gv 9, gv 10, gv 11, gv 12, gv 13, gv 14, gv 15, gv 16, gv 17, gv 18, gv 19, gv 20, gv 21, gv 22, gv 23, gv 24, gv 25, gv 26])])) wz wr from ⟨hk7.lw, by first | exact HV1.out.bel.trans (hk7.bel.mono HV1.out.bel.size) | exact HV1d.out.bel.trans (hk7.bel.mono HV1d.out.bel.size)⟩)
           have p0_0 := HV2.out.lw.bx.at 0 rfl 0 rfl
           have p0_1 := HV2.out.lw.bx.at 0 rfl 1 rfl
           have p0_2 := HV2.out.lw.bx.at 0 rfl 2 rfl
           have p0_3 := HV2.out.lw.bx.at 0 rfl 3 rfl
           have p1_0 := HV2.out.lw.bx.at 1 rfl 0 rfl
           have p1_1 := HV2.out.lw.bx.at 1 rfl 1 rfl
           have p1_2 := HV2.out.lw.bx.at 1 rfl 2 rfl
           have p1_3 := HV2.out.lw.bx.at 1 rfl 3 rfl
           clear hk7))
      all_goals
        go_wp2_with fail
        go_meet
        case rel => exact ⟨rfl, HV2⟩
    case rest =>
      obtain ⟨rfl, hl'⟩ := hcut
      have HAU := Lib.hid (hl'.out.aut HAU.out)
      have HIU := Lib.hid (hl'.out.aut HIU.out)
      have HLr := Lib.hid hl'.out.lw
      clear hl' HRV HSM HV0 HV0d p0_0 p0_1 p0_2 p0_3 p1_0 p1_1 p1_2 p1_3 p0c HZ0
      have p0_0 := HLr.out.bx.at 0 rfl 0 rfl
      have p0_1 := HLr.out.bx.at 0 rfl 1 rfl
      have p0_2 := HLr.out.bx.at 0 rfl 2 rfl
      have p0_3 := HLr.out.bx.at 0 rfl 3 rfl
      have p1_0 := HLr.out.bx.at 1 rfl 0 rfl
      have p1_1 := HLr.out.bx.at 1 rfl 1 rfl
      have p1_2 := HLr.out.bx.at 1 rfl 2 rfl
      have p1_3 := HLr.out.bx.at 1 rfl 3 rfl
      go_wp2_with fail
      refine (k_jproj HCW2.out HF4.out rfl HBK.out HIU.out HAU.out.al HAL.out HAC.out (by omega) HLr.out).mono ?_
      rintro e v1 ⟨A3, n3, c3, s3, M3, m3, d3, E3, k3, g3, V, nV, cV, hs, rfl, hau3, _, hl⟩
      have HPU := Lib.hid hau3
      have HAU := Lib.hid (hl.aut HAU.out)
      have HLq := Lib.hid hl.lw
      clear hl hau3 p0_0 p0_1 p0_2 p0_3 p1_0 p1_1 p1_2 p1_3
      have HKa := Below.alloc (Below.refl v1.heap.size v1) (Nat.le_refl _) (.cells #[.slice A3 n3 c3, .int .i64 s3, .slice M3 m3 d3, .slice E3 k3 g3] 33)
      have HLn := Lib.hid (HLq.out.new [.slice A3 n3 c3, .int .i64 s3, .slice M3 m3 d3, .slice E3 k3 g3] 33)
      have HPU := Lib.hid ((HPU.out.below HKa (Nat.le_refl _)).more HKa.size)
      have HAU := Lib.hid ((HAU.out.below HKa (Nat.le_refl _)).more HKa.size)
      clear HKa
      have p0_0 := HLn.out.bx.at 0 rfl 0 rfl
      have p0_1 := HLn.out.bx.at 0 rfl 1 rfl
      have p0_2 := HLn.out.bx.at 0 rfl 2 rfl
      have p0_3 := HLn.out.bx.at 0 rfl 3 rfl
      have p1_0 := HLn.out.bx.at 2 rfl 0 rfl
      have p1_1 := HLn.out.bx.at 2 rfl 1 rfl
      have p1_2 := HLn.out.bx.at 2 rfl 2 rfl
      have p1_3 := HLn.out.bx.at 2 rfl 3 rfl
      go_wp2_with fail
      refine (k_rsame A n c s M m d E k g (decide_eq_true rfl) HPU.out HAU.out HLn.out).mono ?_
      rintro e v2 ⟨rfl, hl⟩
      have HLe := Lib.hid hl.lw
      clear hl
      go_wp2_with fail
      go_ret
      exact ⟨rfl, HB0.out.trans (HLe.out.bel.mono HB0.out.size)⟩
end Go.Proofs.YtmghngehpgolgaaGreat
