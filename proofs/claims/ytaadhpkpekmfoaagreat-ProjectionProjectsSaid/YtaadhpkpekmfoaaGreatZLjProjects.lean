/- The law ProjectionProjects, walked. -/
import Derived.Test.YtaadhpkpekmfoaaGreatZa16
import Derived.Test.YtaadhpkpekmfoaaGreatZa17
import Derived.Test.YtaadhpkpekmfoaaGreatZsPrj
import Derived.Test.YtaadhpkpekmfoaaGreatZa15
set_option linter.unusedVariables false
set_option linter.unusedSimpArgs false
set_option linter.unusedSectionVars false
namespace Go.Proofs.YtaadhpkpekmfoaaGreat
open Go.RowKit Go.Sort
attribute [local go_sem ↓] exec_load_graph'
attribute [local go_sem] blkOf_ptr

theorem isC_canJ {D : Au} (h : RightW D) (hl : (fnd D).length ≤ 4096) : isC (canA D) = true := by
  have hc : chkE (canA D) = 0 := Right.chk { can_right h with st1 := by show ((fnd D).length : Int) ≤ 4096; omega }
  rw [isC, hc, can_can h]; simp
section
variable {W w : World} {l : List (Nat × List Value)} {A : Option Addr} {n c : Nat} {s : Int} {M : Option Addr} {m d : Nat} {E : Option Addr} {k g : Nat} {a : Au} {A3 : Option Addr} {n3 c3 : Nat} {ev : List Int}
theorem k_rproj {L : List (List Int)} {b : Au} (hri : RightW a) (hs4 : a.st ≤ 100) (hf : (fnd (detA a ev)).length ≤ 4096) (hL : (fnd (detA a ev)).map (deR a ev) = L) (hB : canA (detA a ev) = b) (ha : AuR w w.heap.size A n c s M m d E k g a)
    (hx3 : RdI w w.heap.size A3 ev) (hn3 : ev.length = n3) (hb3 : n3 ≤ 100000) (h : LW W l w) :
    Calls Tryz.prog 15 #[.agg #[.slice A n c, .int .i64 s, .slice M m d, .slice E k g], .slice A3 n3 c3] w fun e w' => ∃ (A1 : Option Addr) (n1 c1 : Nat) (s1 : Int) (M1 : Option Addr) (m1 d1 : Nat) (E1 : Option Addr) (k1 g1 : Nat) (V : Option Addr) (nV cV : Nat) (hs : List Hd),
      e = .returned (.tuple #[.agg #[.slice A1 n1 c1, .int .i64 s1, .slice M1 m1 d1, .slice E1 k1 g1], .slice V nV cV]) ∧ AuR w' w'.heap.size A1 n1 c1 s1 M1 m1 d1 E1 k1 g1 b ∧ RdL w' w'.heap.size V hs ∧ hs.length = nV ∧ hs.map Hd.z = L ∧ KW W l w w' := by
  subst hL hB
  have hk5 : k ≤ 100000 := by
    have h1 := ed_le hri (S := a.st.toNat) (by have := hri.st0; omega)
    have h2 := ha.hk
    omega
  refine (r7Project_any A n c s M m d E k g a A3 n3 c3 ev w ha hri hs4 hx3 hn3 hb3 hk5 hf).mono ?_
  rintro e w' ⟨A1, n1, c1, s1, M1, m1, d1, E1, k1, g1, V, nV, cV, hs, he, h1, h2, h3, h4, hb⟩
  exact ⟨A1, n1, c1, s1, M1, m1, d1, E1, k1, g1, V, nV, cV, hs, he, h1, h2, h3, h4, KW.of h hb⟩
theorem k_isC {r : Bool} (hr : isC a = r) (ha : AuR w w.heap.size A n c s M m d E k g a) (h : LW W l w) : Calls Tryz.prog 18 #[.agg #[.slice A n c, .int .i64 s, .slice M m d, .slice E k g]] w fun e w' => e = .returned (.bool r) ∧ KW W l w w' := by
  have := kw_call (mIsCanonical_any A n c s M m d E k g a w ha) h
  rw [hr] at this; exact this
end
set_option maxHeartbeats 8000000 in
set_option maxRecDepth 100000 in
theorem lawPjProjects (x : Int) (gv : Nat → Value) (Ao : Option Addr) (no co : Nat) (al2 : List Int) (W : World) (S0 : (Lit.int .u8 x).wf = true) (S1 : GrC #[gv 0, gv 1, gv 2, gv 3, gv 4, gv 5, gv 6, gv 7, gv 8, gv 9, gv 10, gv 11, gv 12, gv 13, gv 14, gv 15, gv 16, gv 17, gv 18, gv 19, gv 20, gv 21, gv 22, gv 23, gv 24, gv 25, gv 26]) (SR : RdI W W.heap.size Ao al2) (SL : al2.length = no) (_SW : ∀ z ∈ al2, (Lit.int .i64 z).wf = true) (SC : no ≤ co ∧ co ≤ 9223372036854775807) :
    Calls Tryz.prog 3 #[.int .u8 x, .agg #[gv 0, gv 1, gv 2, gv 3, gv 4, gv 5, gv 6, gv 7, gv 8, gv 9, gv 10, gv 11, gv 12, gv 13, gv 14, gv 15, gv 16, gv 17, gv 18, gv 19, gv 20, gv 21, gv 22, gv 23, gv 24, gv 25, gv 26], .slice Ao no co] W fun e W' => e = .returned (.bool true) ∧ Below W.heap.size W W' := by
  have HL0 := Lib.hid (LW.first W [gv 0, gv 1, gv 2, gv 3, gv 4, gv 5, gv 6, gv 7, gv 8, gv 9, gv 10, gv 11, gv 12, gv 13, gv 14, gv 15, gv 16, gv 17, gv 18, gv 19, gv 20, gv 21, gv 22, gv 23, gv 24, gv 25, gv 26] 26)
  have HS0 := Lib.hid S0
  have HS1 := Lib.hid S1
  have HSR := Lib.hid SR
  have HON := Lib.hid SL
  have HSC := Lib.hid SC
  clear S0 S1 SR SL SC _SW
  by_cases h8 : 8 < no
  · go_enter Tryz.func3, Tryz.ntmps3
    go_wp2_with fail
    refine (k_kn HL0.out).mono ?_
    rintro e w1 ⟨rfl, hl⟩
    have HL1 := Lib.hid hl.lw
    clear hl
    go_wp2_with fail
    refine (k_kn HL1.out).mono ?_
    rintro e w2 ⟨rfl, hl⟩
    have HL2 := Lib.hid hl.lw
    clear hl
    go_wp2_with fail
    go_ret
    exact ⟨rfl, HL2.out.bel⟩
  have hn8 : no ≤ 8 := by omega
  obtain ⟨u, hu⟩ : ∃ u, csE 32 al2 = u := ⟨_, rfl⟩
  have HU := Lib.hid hu
  clear hu
  go_enter Tryz.func3, Tryz.ntmps3
  go_wp2_with fail
  refine (k_kn HL0.out).mono ?_
  rintro e w0 ⟨rfl, hl⟩
  have HLk := Lib.hid hl.lw
  clear hl
  go_wp2_with fail
  refine (k_list (u := u) (mx := 32) HU.out (HLk.out.ints HSR.out) HON.out (by omega) HLk.out).mono ?_
  rintro e w1 ⟨rfl, hl⟩
  have HL1 := Lib.hid hl.lw
  clear hl
  by_cases hu0 : u = 0
  rotate_left
  · have b1 : (u == 0) = false := by simp [hu0]
    have b2 : (u != 0) = true := by simp [hu0]
    go_wp2_with fail
    refine (k_kn HL1.out).mono ?_
    rintro e w2 ⟨rfl, hl⟩
    have HL2 := Lib.hid hl.lw
    clear hl
    go_wp2_with fail
    go_ret
    exact ⟨rfl, HL2.out.bel⟩
  subst hu0
  have hr := HL1.out.bx.grid 0 rfl
  have hz := HL1.out.bx.lt 0 rfl
  go_wp2_with fail
  go_cut [7] from 26 to 29 (fun v wx => PreR W [(W.heap.size, [gv 0, gv 1, gv 2, gv 3, gv 4, gv 5, gv 6, gv 7, gv 8, gv 9, gv 10, gv 11, gv 12, gv 13, gv 14, gv 15, gv 16, gv 17, gv 18, gv 19, gv 20, gv 21, gv 22, gv 23, gv 24, gv 25, gv 26])] v wx)
  case first =>
    go_region_held3 (fun w' => GridOk w' W.heap.size ∧ ∀ i : Nat, i < 27 → w'.cell? ⟨W.heap.size, i, none⟩ = some (gv i)) (first | with_reducible exact grid_two (hr) | with_reducible exact grid_two (grid_drew hr) | with_reducible exact grid_two (grid_alloc hr hz _ _) | with_reducible exact grid_two (grid_drew (grid_alloc hr hz _ _)) | with_reducible exact grid_two (grid_set4 hr (by omega) _ _ _ _) | with_reducible exact grid_two (grid_set4 (grid_alloc hr hz _ _) (by omega) _ _ _ _))
      (first
      | (go_simp; go_at_call 13; refine (events_any x _ HS0.out).mono ?_; rintro e w2 ⟨al, hev, A0, c0, rfl, hrd, hb2, hc0, hc02⟩
         have HB2 := Lib.hid hb2
         have HEV := Lib.hid hev
         have HRD := Lib.hid hrd
         have hz2 := hb2.size
         have hr : ∀ i : Nat, i < 27 → w2.cell? ⟨W.heap.size, i, none⟩ = some (gv i) := by first | with_reducible exact grid_below' hb2 hr hz | with_reducible exact grid_below' hb2 (grid_drew hr) (lt_drew hz) | with_reducible exact grid_below' hb2 (grid_alloc hr hz _ _) (lt_alloc hz _ _) | with_reducible exact grid_below' hb2 (grid_drew (grid_alloc hr hz _ _)) (lt_drew (lt_alloc hz _ _))
         have hz : W.heap.size < w2.heap.size := by (try simp at hz2); omega
         try (have hq : Row w2 w1.heap.size 33 [.slice none 0 0, .int .i64 0, .slice none 0 0, .slice none 0 0] := Row.below (row_drew (Row.new w1 [.slice none 0 0, .int .i64 0, .slice none 0 0, .slice none 0 0] 33)) hb2 (by simp); have hq0 := Lib.hid hq)
         clear hb2 hev hrd)
      | (go_simp; go_at_call 12; refine (make_any A0 al.length c0 w2.heap.size al #[gv 0, gv 1, gv 2, gv 3, gv 4, gv 5, gv 6, gv 7, gv 8, gv 9, gv 10, gv 11, gv 12, gv 13, gv 14, gv 15, gv 16, gv 17, gv 18, gv 19, gv 20, gv 21, gv 22, gv 23, gv 24, gv 25, gv 26] _ (by first | exact HRD.out | exact HRD.out.below ((Below.refl _ w2).alloc (Nat.le_refl _) _) (Nat.le_refl _)) (by simp) rfl hc0 HEV.out HS1.out).mono ?_; rintro e w3 ⟨a, v3, hok, rfl, ⟨A, n, c, s, M, m, d, E, k, g, rfl, hau, hfr⟩, hb3⟩
         have HB3 := Lib.hid hb3
         have HOK := Lib.hid hok
         have HAU := Lib.hid (show AuF a (.agg #[.slice A n c, .int .i64 s, .slice M m d, .slice E k g]) w3 _ from ⟨A, n, c, s, M, m, d, E, k, g, rfl, hau, hfr⟩)
         have hz3 := hb3.size
         have hr : ∀ i : Nat, i < 27 → w3.cell? ⟨W.heap.size, i, none⟩ = some (gv i) := by first | with_reducible exact grid_below' hb3 hr hz | with_reducible exact grid_below' hb3 (grid_drew hr) (lt_drew hz) | with_reducible exact grid_below' hb3 (grid_alloc hr hz _ _) (lt_alloc hz _ _) | with_reducible exact grid_below' hb3 (grid_drew (grid_alloc hr hz _ _)) (lt_drew (lt_alloc hz _ _))
         have hz : W.heap.size < w3.heap.size := by (try simp at hz3); omega
         try (have hq : Row w3 w1.heap.size 33 [.slice none 0 0, .int .i64 0, .slice none 0 0, .slice none 0 0] := hq0.out.below hb3 hq0.out.lt; have hq1 := Lib.hid hq; have y0 := hq.cell 0 rfl; have y1 := hq.cell 1 rfl; have y2 := hq.cell 2 rfl; have y3 := hq.cell 3 rfl; have g0 := hq.frozen 0; have g1 := hq.frozen 1; have g2 := hq.frozen 2; have g3 := hq.frozen 3; clear hq)
         try (have hq : Row w3 w2.heap.size 33 [.slice none 0 0, .int .i64 0, .slice none 0 0, .slice none 0 0] := Row.below (Row.new w2 [.slice none 0 0, .int .i64 0, .slice none 0 0, .slice none 0 0] 33) hb3 (by simp); have hq1 := Lib.hid hq; have y0 := hq.cell 0 rfl; have y1 := hq.cell 1 rfl; have y2 := hq.cell 2 rfl; have y3 := hq.cell 3 rfl; have g0 := hq.frozen 0; have g1 := hq.frozen 1; have g2 := hq.frozen 2; have g3 := hq.frozen 3; clear hq)
         clear hb3 hok hau hfr))
    all_goals
      go_wp2_with fail
      go_meet
      case rel => first | exact pre_1 HL1.out HB2.out HB3.out HEV.out HOK.out HAU.out | exact pre_2 HL1.out HB2.out HB3.out hq1.out HEV.out HOK.out HAU.out | exact pre_3 HL1.out HB2.out HB3.out hq1.out HEV.out HOK.out HAU.out
  case rest =>
    obtain ⟨bc, al, a, A, n, c, s, M, m, d, E, k, g, rfl, HL4, HEV, HOK, HAU⟩ := hcut
    rename World => wb
    have HB0 := Lib.hid HL4.out.bel
    have HOB := Lib.hid (HL4.out.ints HSR.out)
    have HL5 := Lib.hid (show LW wb ((bc, [.slice A n c, .int .i64 s, .slice M m d, .slice E k g]) :: [(W.heap.size, [gv 0, gv 1, gv 2, gv 3, gv 4, gv 5, gv 6, gv 7, gv 8, gv 9, gv 10, gv 11, gv 12, gv 13, gv 14, gv 15, gv 16, gv 17, gv 18, gv 19, gv 20, gv 21, gv 22, gv 23, gv 24, gv 25, gv 26])]) wb from ⟨Below.refl _ _, HL4.out.bx⟩)
    have HC := Lib.hid HOK.out.r.chk
    have HRI := Lib.hid HOK.out.r.toRightW
    have HST := Lib.hid HAU.out.st
    have hbn := HAU.out.bn
    have hbk := HAU.out.bk
    have hs0 : 0 ≤ a.st := HRI.out.st0
    have hs5 : a.st ≤ 5 := HOK.out.st
    have HCW := Lib.hid (cwe_ok HC.out HU.out)
    have hfw := det_few HRI.out hs5 al2
    have HF4 := Lib.hid (show (fnd (detA a al2)).length ≤ 4096 by omega)
    obtain ⟨b, hbA⟩ : ∃ b, canA (detA a al2) = b := ⟨_, rfl⟩
    have HBA := Lib.hid hbA
    obtain ⟨el, hel⟩ : ∃ el, (fnd (detA a al2)).map (deR a al2) = el := ⟨_, rfl⟩
    have HEL := Lib.hid hel
    have HELL := Lib.hid (show el.length ≤ 32 by rw [← hel, List.length_map]; exact hfw)
    have HSHE := Lib.hid (show ∀ z ∈ el, z.length ≤ 100000 from fun z hz => by
      rw [← hel] at hz
      obtain ⟨y, hy, rfl⟩ := List.mem_map.1 hz
      have h2 : SubOk a.st.toNat (deR a al2 y) := st_ok _ _ _
      have h1 := sub_len h2
      have h3 := HOK.out.st
      omega)
    have HBI := Lib.hid (show isC b = true by
      rw [← hbA]
      exact isC_canJ (det_right HRI.out al2) HF4.out)
    clear hbA hel hfw
    have p0_0 := HL5.out.bx.at 0 rfl 0 rfl
    have p0_1 := HL5.out.bx.at 0 rfl 1 rfl
    have p0_2 := HL5.out.bx.at 0 rfl 2 rfl
    have p0_3 := HL5.out.bx.at 0 rfl 3 rfl
    go_wp2_with fail
    refine (k_jproj HCW.out HF4.out HEL.out HBA.out HAU.out HOB.out HON.out HSC.out (by omega) HL5.out).mono ?_
    rintro e w6 ⟨A1, n1, c1, s1, M1, m1, d1, E1, k1, g1, V, nV, cV, hs, rfl, hau1, hgv, hl⟩
    clear p0_0 p0_1 p0_2 p0_3
    have HL6 := Lib.hid hl.lw
    have HAU := Lib.hid (hl.aut HAU.out)
    have HOB := Lib.hid (hl.ints HOB.out)
    have HPU := Lib.hid hau1
    have HV1 := Lib.hid hgv.rd
    have HVN := Lib.hid hgv.len
    have HVZ := Lib.hid hgv.z
    clear hau1 hgv
    clear hl
    have p0_0 := HL6.out.bx.at 0 rfl 0 rfl
    have p0_1 := HL6.out.bx.at 0 rfl 1 rfl
    have p0_2 := HL6.out.bx.at 0 rfl 2 rfl
    have p0_3 := HL6.out.bx.at 0 rfl 3 rfl
    have HKa := Below.alloc (Below.refl w6.heap.size w6) (Nat.le_refl _) (.cells #[.slice A1 n1 c1, .int .i64 s1, .slice M1 m1 d1, .slice E1 k1 g1] 33)
    have HL6n := Lib.hid (HL6.out.new [.slice A1 n1 c1, .int .i64 s1, .slice M1 m1 d1, .slice E1 k1 g1] 33)
    have HAU := Lib.hid ((HAU.out.below HKa (Nat.le_refl _)).more HKa.size)
    have HOB := Lib.hid ((HOB.out.below HKa (Nat.le_refl _)).more HKa.size)
    have HPU := Lib.hid ((HPU.out.below HKa (Nat.le_refl _)).more HKa.size)
    have HV1 := Lib.hid ((HV1.out.below HKa (Nat.le_refl _)).more HKa.size)
    clear HKa
    clear p0_0 p0_1 p0_2 p0_3
    have p0_0 := HL6n.out.bx.at 0 rfl 0 rfl
    have p0_1 := HL6n.out.bx.at 0 rfl 1 rfl
    have p0_2 := HL6n.out.bx.at 0 rfl 2 rfl
    have p0_3 := HL6n.out.bx.at 0 rfl 3 rfl
    have p1_0 := HL6n.out.bx.at 1 rfl 0 rfl
    have p1_1 := HL6n.out.bx.at 1 rfl 1 rfl
    have p1_2 := HL6n.out.bx.at 1 rfl 2 rfl
    have p1_3 := HL6n.out.bx.at 1 rfl 3 rfl
    go_wp2_with fail
    refine (k_rproj HRI.out (by omega) HF4.out HEL.out HBA.out HAU.out HOB.out HON.out (by omega) HL6n.out).mono ?_
    rintro e w7 ⟨A2, n2, c2, s2, M2, m2, d2, E2, k2, g2, V2, nV2, cV2, hs2, rfl, hau2, hgv2, hvn2, hvz2, hl⟩
    clear p0_0 p0_1 p0_2 p0_3 p1_0 p1_1 p1_2 p1_3
    have HL7 := Lib.hid hl.lw
    have HAU := Lib.hid (hl.aut HAU.out)
    have HOB := Lib.hid (hl.ints HOB.out)
    have HPU := Lib.hid (hl.aut HPU.out)
    have HV1 := Lib.hid (hl.wds HV1.out)
    have HQU := Lib.hid hau2
    have HV2 := Lib.hid hgv2
    have HVN2 := Lib.hid hvn2
    have HVZ2 := Lib.hid hvz2
    clear hau2 hgv2 hvn2 hvz2
    clear hl
    have p0_0 := HL7.out.bx.at 0 rfl 0 rfl
    have p0_1 := HL7.out.bx.at 0 rfl 1 rfl
    have p0_2 := HL7.out.bx.at 0 rfl 2 rfl
    have p0_3 := HL7.out.bx.at 0 rfl 3 rfl
    have p1_0 := HL7.out.bx.at 1 rfl 0 rfl
    have p1_1 := HL7.out.bx.at 1 rfl 1 rfl
    have p1_2 := HL7.out.bx.at 1 rfl 2 rfl
    have p1_3 := HL7.out.bx.at 1 rfl 3 rfl
    have HKa := Below.alloc (Below.refl w7.heap.size w7) (Nat.le_refl _) (.cells #[.slice A2 n2 c2, .int .i64 s2, .slice M2 m2 d2, .slice E2 k2 g2] 33)
    have HL7n := Lib.hid (HL7.out.new [.slice A2 n2 c2, .int .i64 s2, .slice M2 m2 d2, .slice E2 k2 g2] 33)
    have HAU := Lib.hid ((HAU.out.below HKa (Nat.le_refl _)).more HKa.size)
    have HOB := Lib.hid ((HOB.out.below HKa (Nat.le_refl _)).more HKa.size)
    have HPU := Lib.hid ((HPU.out.below HKa (Nat.le_refl _)).more HKa.size)
    have HV1 := Lib.hid ((HV1.out.below HKa (Nat.le_refl _)).more HKa.size)
    have HQU := Lib.hid ((HQU.out.below HKa (Nat.le_refl _)).more HKa.size)
    have HV2 := Lib.hid ((HV2.out.below HKa (Nat.le_refl _)).more HKa.size)
    clear HKa
    clear p0_0 p0_1 p0_2 p0_3 p1_0 p1_1 p1_2 p1_3
    have p0_0 := HL7n.out.bx.at 0 rfl 0 rfl
    have p0_1 := HL7n.out.bx.at 0 rfl 1 rfl
    have p0_2 := HL7n.out.bx.at 0 rfl 2 rfl
    have p0_3 := HL7n.out.bx.at 0 rfl 3 rfl
    have p1_0 := HL7n.out.bx.at 1 rfl 0 rfl
    have p1_1 := HL7n.out.bx.at 1 rfl 1 rfl
    have p1_2 := HL7n.out.bx.at 1 rfl 2 rfl
    have p1_3 := HL7n.out.bx.at 1 rfl 3 rfl
    have p2_0 := HL7n.out.bx.at 2 rfl 0 rfl
    have p2_1 := HL7n.out.bx.at 2 rfl 1 rfl
    have p2_2 := HL7n.out.bx.at 2 rfl 2 rfl
    have p2_3 := HL7n.out.bx.at 2 rfl 3 rfl
    go_wp2_with fail
    refine (k_rsame A2 n2 c2 s2 M2 m2 d2 E2 k2 g2 (decide_eq_true rfl) HPU.out HQU.out HL7n.out).mono ?_
    rintro e w8 ⟨rfl, hl⟩
    clear p0_0 p0_1 p0_2 p0_3 p1_0 p1_1 p1_2 p1_3 p2_0 p2_1 p2_2 p2_3
    have HL8 := Lib.hid hl.lw
    have HAU := Lib.hid (hl.aut HAU.out)
    have HOB := Lib.hid (hl.ints HOB.out)
    have HPU := Lib.hid (hl.aut HPU.out)
    have HV1 := Lib.hid (hl.wds HV1.out)
    have HQU := Lib.hid (hl.aut HQU.out)
    have HV2 := Lib.hid (hl.wds HV2.out)
    clear hl
    have p0_0 := HL8.out.bx.at 0 rfl 0 rfl
    have p0_1 := HL8.out.bx.at 0 rfl 1 rfl
    have p0_2 := HL8.out.bx.at 0 rfl 2 rfl
    have p0_3 := HL8.out.bx.at 0 rfl 3 rfl
    have p1_0 := HL8.out.bx.at 1 rfl 0 rfl
    have p1_1 := HL8.out.bx.at 1 rfl 1 rfl
    have p1_2 := HL8.out.bx.at 1 rfl 2 rfl
    have p1_3 := HL8.out.bx.at 1 rfl 3 rfl
    have p2_0 := HL8.out.bx.at 2 rfl 0 rfl
    have p2_1 := HL8.out.bx.at 2 rfl 1 rfl
    have p2_2 := HL8.out.bx.at 2 rfl 2 rfl
    have p2_3 := HL8.out.bx.at 2 rfl 3 rfl
    have hnV : nV ≤ 32 := by rw [← HVN.out]; have h1 := congrArg List.length HVZ.out; rw [List.length_map] at h1; have := HELL.out; omega
    have hnV2 : nV2 ≤ 32 := by rw [← HVN2.out]; have h1 := congrArg List.length HVZ2.out; rw [List.length_map] at h1; have := HELL.out; omega
    have HSH1 := Lib.hid (show ShW hs from fun x hx => HSHE.out _ (by rw [← HVZ.out]; exact List.mem_map.2 ⟨x, hx, rfl⟩))
    have HSH2 := Lib.hid (show ShW hs2 from fun x hx => HSHE.out _ (by rw [← HVZ2.out]; exact List.mem_map.2 ⟨x, hx, rfl⟩))
    have HEQ := Lib.hid (show decide (hs.map Hd.z = hs2.map Hd.z) = true from decide_eq_true (by rw [HVZ.out, HVZ2.out]))
    go_wp2_with fail
    refine (k_samew HEQ.out HV1.out HV2.out HVN.out HVN2.out (by omega) (by omega) HSH1.out HSH2.out HL8.out).mono ?_
    rintro e w9 ⟨rfl, hl⟩
    clear p0_0 p0_1 p0_2 p0_3 p1_0 p1_1 p1_2 p1_3 p2_0 p2_1 p2_2 p2_3
    have HL9 := Lib.hid hl.lw
    have HAU := Lib.hid (hl.aut HAU.out)
    have HOB := Lib.hid (hl.ints HOB.out)
    have HPU := Lib.hid (hl.aut HPU.out)
    have HV1 := Lib.hid (hl.wds HV1.out)
    have HQU := Lib.hid (hl.aut HQU.out)
    have HV2 := Lib.hid (hl.wds HV2.out)
    clear hl
    have p0_0 := HL9.out.bx.at 0 rfl 0 rfl
    have p0_1 := HL9.out.bx.at 0 rfl 1 rfl
    have p0_2 := HL9.out.bx.at 0 rfl 2 rfl
    have p0_3 := HL9.out.bx.at 0 rfl 3 rfl
    have p1_0 := HL9.out.bx.at 1 rfl 0 rfl
    have p1_1 := HL9.out.bx.at 1 rfl 1 rfl
    have p1_2 := HL9.out.bx.at 1 rfl 2 rfl
    have p1_3 := HL9.out.bx.at 1 rfl 3 rfl
    have p2_0 := HL9.out.bx.at 2 rfl 0 rfl
    have p2_1 := HL9.out.bx.at 2 rfl 1 rfl
    have p2_2 := HL9.out.bx.at 2 rfl 2 rfl
    have p2_3 := HL9.out.bx.at 2 rfl 3 rfl
    go_wp2_with fail
    refine (k_isC HBI.out HPU.out HL9.out).mono ?_
    rintro e w10 ⟨rfl, hl⟩
    clear p0_0 p0_1 p0_2 p0_3 p1_0 p1_1 p1_2 p1_3 p2_0 p2_1 p2_2 p2_3
    have HL10 := Lib.hid hl.lw
    have HAU := Lib.hid (hl.aut HAU.out)
    have HOB := Lib.hid (hl.ints HOB.out)
    have HPU := Lib.hid (hl.aut HPU.out)
    have HV1 := Lib.hid (hl.wds HV1.out)
    have HQU := Lib.hid (hl.aut HQU.out)
    have HV2 := Lib.hid (hl.wds HV2.out)
    clear hl
    have p0_0 := HL10.out.bx.at 0 rfl 0 rfl
    have p0_1 := HL10.out.bx.at 0 rfl 1 rfl
    have p0_2 := HL10.out.bx.at 0 rfl 2 rfl
    have p0_3 := HL10.out.bx.at 0 rfl 3 rfl
    have p1_0 := HL10.out.bx.at 1 rfl 0 rfl
    have p1_1 := HL10.out.bx.at 1 rfl 1 rfl
    have p1_2 := HL10.out.bx.at 1 rfl 2 rfl
    have p1_3 := HL10.out.bx.at 1 rfl 3 rfl
    have p2_0 := HL10.out.bx.at 2 rfl 0 rfl
    have p2_1 := HL10.out.bx.at 2 rfl 1 rfl
    have p2_2 := HL10.out.bx.at 2 rfl 2 rfl
    have p2_3 := HL10.out.bx.at 2 rfl 3 rfl
    go_wp2_with fail
    go_ret
    exact ⟨rfl, HB0.out.trans (HL10.out.bel.mono HB0.out.size)⟩
end Go.Proofs.YtaadhpkpekmfoaaGreat
