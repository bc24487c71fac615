/- Texts merged: what follows were texts of their own. -/
import Derived.Test.YtcciiikaejjooaaZa6
import Derived.Test.YtcciiikaejjooaaZa8
/- Layer 3: Complete and Closed of the reference. -/
namespace Go.Proofs.Ytcciiikaejjooaa

section
open Go.RowKit Go.Sort
theorem toC_none {a : Au} {q ev : Int} (h : stepO a q ev = none) : toC a q ev = a.st := by rw [toC, h]; rfl
theorem toC_some {a : Au} {q ev t : Int} (h : stepO a q ev = some t) : toC a q ev = t := by rw [toC, h]; rfl

set_option maxHeartbeats 8000000 in
set_option maxRecDepth 100000 in
theorem rComplete_any (A : Option Addr) (n c : Nat) (s : Int) (M : Option Addr) (m d : Nat) (E : Option Addr) (k g : Nat) (a : Au) (B : Nat) (w : World) (h : AuR w B A n c s M m d E k g a) (hB : B ≤ w.heap.size) (hr : RightW a) (S : Nat) (hS : s = (S : Int)) (hS5 : S ≤ 100) :
    Calls Try.prog 44 #[.agg #[.slice A n c, .int .i64 s, .slice M m d, .slice E k g]] w fun e w' => ∃ v, e = .returned v ∧ AuF (canA (compA a)) v w' w.heap.size ∧ Below w.heap.size w w' := by
  have hb1 := ((Below.refl w.heap.size w).alloc (Nat.le_refl _) (.cells #[.slice A n c, .int .i64 s, .slice M m d, .slice E k g] 25)).alloc (by simp) (.cells #[.slice none 0 0, .int .i64 0, .slice none 0 0, .slice none 0 0] 25)
  have HB1 := Lib.hid hb1
  have hA := Lib.hid ((Row.new w [.slice A n c, .int .i64 s, .slice M m d, .slice E k g] 25).alloc (.cells #[.slice none 0 0, .int .i64 0, .slice none 0 0, .slice none 0 0] 25))
  have hRes := Lib.hid (show Row ((w.alloc (.cells #[.slice A n c, .int .i64 s, .slice M m d, .slice E k g] 25)).alloc (.cells #[.slice none 0 0, .int .i64 0, .slice none 0 0, .slice none 0 0] 25)) (w.heap.size + 1) 25 [.slice none 0 0, .int .i64 0, .slice none 0 0, .slice none 0 0] by
    have := Row.new (w.alloc (.cells #[.slice A n c, .int .i64 s, .slice M m d, .slice E k g] 25)) [.slice none 0 0, .int .i64 0, .slice none 0 0, .slice none 0 0] 25
    simpa using this)
  have HR := Lib.hid h
  have HRI := Lib.hid hr
  have HBw := Lib.hid hB
  have HST := Lib.hid (show a.st = (S : Int) by rw [h.st, hS])
  have hbn := h.bn
  have hnc := h.cn
  have hmc := h.cm
  have hal := al_len hr
  rw [h.hn] at hal
  obtain ⟨iE, iE0, iE1, iE2, iE3⟩ := info_parts info_edge
  subst hS
  have p0 := hA.out.cell 0 rfl
  have p1 := hA.out.cell 1 rfl
  have p2 := hA.out.cell 2 rfl
  have p3 := hA.out.cell 3 rfl
  have hzz : ((w.alloc (.cells #[.slice A n c, .int .i64 (S : Int), .slice M m d, .slice E k g] 25)).alloc (.cells #[.slice none 0 0, .int .i64 0, .slice none 0 0, .slice none 0 0] 25)).heap.size = w.heap.size + 2 := by simp
  have HZZ := Lib.hid hzz
  clear h hr hB hb1 hzz
  go_enter Try.func44, Try.ntmps44
  go_wp2_with fail
  obtain ⟨w1, hw1⟩ : ∃ w1, w1 = (w.alloc (.cells #[.slice A n c, .int .i64 (S : Int), .slice M m d, .slice E k g] 25)).alloc (.cells #[.slice none 0 0, .int .i64 0, .slice none 0 0, .slice none 0 0] 25) := ⟨_, rfl⟩
  rw [← hw1] at HB1 hA hRes HZZ ⊢
  rw [show w.heap.size + 2 = w1.heap.size from HZZ.out.symm]
  clear p0 p1 p2 p3 hw1
  have hbd0 := Lib.hid (show Bd w1 w1.heap.size w1.heap.size false true (.slice A n c) ((S : Int) + 1) (w1.alloc (.cells #[.slice A n c, .int .i64 ((S : Int) + 1), .slice M m d, .slice none 0 0] 25)) a.mr (.slice M m d) (compE a 0) (.slice none 0 0) from
    ⟨(Below.refl _ _).alloc (Nat.le_refl _) _, Row.new w1 [.slice A n c, .int .i64 ((S : Int) + 1), .slice M m d, .slice none 0 0] 25, fun h => (by cases h), fun _ => World.ownsRow_nil _ _ _ _, Nat.le_refl _⟩)
  have hlA := hA.out.lt
  have CB := Lib.hid (fun W (hW : Below w1.heap.size w1 W) => box_row A n c (S : Int) M m d E k g (hA.out.below hW hA.out.lt))
  go_loopw [4] (fun i wr => ∃ (j : Nat) (ve : Value), j ≤ S + 1 ∧ i = .int .i64 j ∧ Hid (Bd w1 w1.heap.size w1.heap.size false true (.slice A n c) ((S : Int) + 1) wr a.mr (.slice M m d) (compE a j) ve)) (fun i _ => S + 1 - (intOf i).toNat)
  case atStart => exact ⟨0, _, Nat.zero_le _, rfl, hbd0⟩
  case round =>
    clear hbd0
    obtain ⟨j, ve, hjS, rfl, hbd⟩ := hrel
    obtain ⟨p0, p1, p2, p3⟩ := CB.out _ hbd.out.bel
    by_cases hjl : j ≤ S
    · have y1 : (j : Int) ≤ (S : Int) := by omega
      have y2 : (0 : Int) ≤ (j : Int) := by omega
      have hcl := compE_len a j
      rw [HR.out.hn] at hcl
      have hcl2 : (compE a j).length ≤ 101 * 32 := by rw [hcl]; exact Nat.mul_le_mul (by omega) hal
      clear hcl
      go_wp2_with fail
      go_loopw [5] (fun i wr => ∃ (t : Nat) (ve : Value), t ≤ n ∧ i = .int .i64 t ∧ Hid (Bd w1 w1.heap.size w1.heap.size false true (.slice A n c) ((S : Int) + 1) wr a.mr (.slice M m d) (compE a j ++ (rowC a (j : Int)).take t) ve)) (fun i _ => n - (intOf i).toNat)
      case atStart => exact ⟨0, ve, Nat.zero_le _, rfl, by rw [List.take_zero, List.append_nil]; exact hbd⟩
      case round =>
        clear hbd p0 p1 p2 p3
        obtain ⟨t, ve, htn, rfl, hbd⟩ := hrel
        obtain ⟨p0, p1, p2, p3⟩ := CB.out _ hbd.out.bel
        by_cases htl : t < n
        · have hz' : t < a.al.length := by rw [HR.out.hn]; exact htl
          obtain ⟨bA, oA, rfl, hbA, hcA⟩ := HR.out.al (by rw [HR.out.hn]; omega)
          obtain ⟨ev, hev⟩ : ∃ ev, ev = a.al.getD t 0 := ⟨_, rfl⟩
          have CA := Lib.hid (fun W (hW : Below w1.heap.size w1 W) => by
            have := ((HB1.out.trans (hW.mono HB1.out.size)).cell (p := ⟨bA, oA + t, none⟩) (Nat.lt_of_lt_of_le hbA HBw.out)).trans (hcA t hz')
            rw [← hev] at this; exact this)
          have ca := CA.out wr hbd.out.bel
          obtain ⟨es, hes⟩ : ∃ es, es = compE a j ++ (rowC a (j : Int)).take t := ⟨_, rfl⟩
          have hel : es.length ≤ 101 * 32 + 32 := by rw [hes, List.length_append, List.length_take]; omega
          rw [← hes] at hbd
          have hnx := Lib.hid (show compE a j ++ (rowC a (j : Int)).take (t + 1) = es ++ [⟨(j : Int), ev, toC a (j : Int) ev⟩] by rw [rowC_take hz', ← List.append_assoc, ← hes, ← hev])
          obtain ⟨tt, htt⟩ : ∃ tt, tt = stepI a (j : Int) ev := ⟨_, rfl⟩
          have HTT := Lib.hid htt
          have HS := Lib.hid (fun W (hG : Bd w1 w1.heap.size w1.heap.size false true (.slice (some ⟨bA, oA, none⟩) n c) ((S : Int) + 1) W a.mr (.slice M m d) es ve) => (rStep_any (some ⟨bA, oA, none⟩) n c (S : Int) M m d E k g a (j : Int) ev B W (HR.out.below (HB1.out.trans (hG.bel.mono HB1.out.size)) HBw.out) (Nat.le_trans HBw.out (HB1.out.trans (hG.bel.mono HB1.out.size)).size)).mono (R' := fun e w' => e = .returned (.int .i64 tt) ∧ Bd w1 w1.heap.size w1.heap.size false true (.slice (some ⟨bA, oA, none⟩) n c) ((S : Int) + 1) w' a.mr (.slice M m d) es ve) fun e w' hh => ⟨by rw [hh.1, htt], hG.call hh.2⟩)
          have hbdd := Lib.hid hbd.out.drew
          have y3 : (t : Int) < (n : Int) := by omega
          have y4 : (0 : Int) ≤ (t : Int) := by omega
          clear hes hev htt hcA
          go_wp2_with fail
          go_region_held3 (fun w' => w'.cell? ⟨w.heap.size, 0, none⟩ = some (.slice (some ⟨bA, oA, none⟩) n c) ∧ w'.cell? ⟨w.heap.size, 1, none⟩ = some (.int .i64 (S : Int)) ∧ w'.cell? ⟨w.heap.size, 2, none⟩ = some (.slice M m d) ∧ w'.cell? ⟨w.heap.size, 3, none⟩ = some (.slice E k g) ∧ w'.cell? ⟨bA, oA + t, none⟩ = some (.int .i64 ev)) (first | with_reducible exact ⟨p0, p1, p2, p3, ca⟩ | go_keep)
            (first
            | (go_simp; go_at_call 37; (first | with_reducible refine (HS.out _ hbd.out).mono ?_ | with_reducible refine (HS.out _ hbdd.out).mono ?_); rintro e w4 ⟨rfl, hG⟩
               have HG := Lib.hid hG
               have HGd := Lib.hid hG.drew
               obtain ⟨p0, p1, p2, p3⟩ := CB.out _ hG.bel
               have ca := CA.out _ hG.bel
               clear hG))
          all_goals
            clear hbd hbdd HS
            cases hso : stepO a (j : Int) ev with
            | none =>
              have hto := stepI_neg hso
              rw [← HTT.out] at hto
              subst hto
              have hnx2 := Lib.hid (show compE a j ++ (rowC a (j : Int)).take (t + 1) = es ++ [⟨(j : Int), ev, (S : Int)⟩] by rw [hnx.out, toC_none hso, HST.out])
              clear hso
              have c3 := HG.out.cb.cell 3 rfl
              have f3 := HG.out.cb.frozen 3
              have heo := Lib.hid (HG.out.eo rfl)
              have hneV := HG.out.neE
              have hsq := HG.out.h2
              have hbs := HG.out.bel.size
              have v3 := fun cs : Array Value => (World.cell?_alloc_lt w4 (.cells cs 67) ⟨w1.heap.size, 3, none⟩ hsq).trans c3
              have v5 := fun cs : Array Value => (frozen?_alloc_cells w4 cs 67 ⟨w1.heap.size, 3, none⟩).trans f3
              go_wp2_with fail
              go_region_law (refine step_append_lies _ (by rfl) (.tmp 41) (.tmp 50) _ (by rfl) w1.heap.size 67 iE (.agg #[.int .i64 0, .int .i64 0, .int .i64 0]) 3 24 Try.underlying23 iE0 iE1 iE2 iE3 rfl (by omega) ve es.length (encE es) (by rfl) (by first | exact (heo.out.alloc _).drew | exact (heo.out.alloc _)) ⟨w4.heap.size, 0, none⟩ 1 1 [.int .i64 (j : Int), .int .i64 ev, .int .i64 (S : Int)] (by rfl) (by rfl) (World.news_of_block (cs := #[.int .i64 (j : Int), .int .i64 ev, .int .i64 (S : Int)]) (t := 67) (fr := (0, 0)) (heap_alloc_new w4 _)) (by simp [Value.oneCell']) (by omega) (by unfold maxLen; omega) (by omega) (by simp; omega) (w4.heap.size + 1) (by simp) ?_; intro gg cap w6 hown6 hgrow hat hlt1; have c6 := far12 hgrow hsq hneV c3; have f6 := far12f hgrow hsq hneV f3)
              all_goals
                have hown7 : OwnE w6 w1.heap.size (.slice (some ⟨gg, 0, none⟩) (es.length + 1) cap) (es ++ [⟨(j : Int), ev, (S : Int)⟩]) := by
                  unfold OwnE; rw [encE_app, List.length_append]; exact hown6
                have hbd7 := Lib.hid (show Bd w1 w1.heap.size w1.heap.size false true (.slice (some ⟨bA, oA, none⟩) n c) ((S : Int) + 1) (w6.setCell ⟨w1.heap.size, 3, none⟩ (.slice (some ⟨gg, 0, none⟩) (es.length + 1) cap)) a.mr (.slice M m d) (es ++ [⟨(j : Int), ev, (S : Int)⟩]) (.slice (some ⟨gg, 0, none⟩) (es.length + 1) cap) from by
                  first
                  | exact Bd.edge (HG.out.alloc _) hgrow hown7
                  | exact Bd.edge ((HG.out.alloc _).drew) hgrow hown7
                  | exact Bd.edge (HG.out.drew.alloc _) hgrow hown7)
                clear hown7 hown6 hgrow hat
                go_wp2_with fail
                go_roundw
                case measure => simp [intOf]; omega
                case rel => exact ⟨t + 1, _, by omega, by go_num, by rw [hnx2.out]; first | exact hbd7 | exact Lib.hid hbd7.out.drew⟩
            | some tq =>
              have hto := stepI_pos hso
              have hq0 := (step_range HRI.out hso).1
              rw [← HTT.out] at hto
              have hnx2 := Lib.hid (show compE a j ++ (rowC a (j : Int)).take (t + 1) = es ++ [⟨(j : Int), ev, tt⟩] by rw [hnx.out, toC_some hso, hto])
              rw [← hto] at hq0
              clear hso hto
              have c3 := HG.out.cb.cell 3 rfl
              have f3 := HG.out.cb.frozen 3
              have heo := Lib.hid (HG.out.eo rfl)
              have hneV := HG.out.neE
              have hsq := HG.out.h2
              have hbs := HG.out.bel.size
              have v3 := fun cs : Array Value => (World.cell?_alloc_lt w4 (.cells cs 67) ⟨w1.heap.size, 3, none⟩ hsq).trans c3
              have v5 := fun cs : Array Value => (frozen?_alloc_cells w4 cs 67 ⟨w1.heap.size, 3, none⟩).trans f3
              go_wp2_with fail
              go_region_law (refine step_append_lies _ (by rfl) (.tmp 41) (.tmp 50) _ (by rfl) w1.heap.size 67 iE (.agg #[.int .i64 0, .int .i64 0, .int .i64 0]) 3 24 Try.underlying23 iE0 iE1 iE2 iE3 rfl (by omega) ve es.length (encE es) (by rfl) (by first | exact (heo.out.alloc _).drew | exact (heo.out.alloc _)) ⟨w4.heap.size, 0, none⟩ 1 1 [.int .i64 (j : Int), .int .i64 ev, .int .i64 tt] (by rfl) (by rfl) (World.news_of_block (cs := #[.int .i64 (j : Int), .int .i64 ev, .int .i64 tt]) (t := 67) (fr := (0, 0)) (heap_alloc_new w4 _)) (by simp [Value.oneCell']) (by omega) (by unfold maxLen; omega) (by omega) (by simp; omega) (w4.heap.size + 1) (by simp) ?_; intro gg cap w6 hown6 hgrow hat hlt1; have c6 := far12 hgrow hsq hneV c3; have f6 := far12f hgrow hsq hneV f3)
              all_goals
                have hown7 : OwnE w6 w1.heap.size (.slice (some ⟨gg, 0, none⟩) (es.length + 1) cap) (es ++ [⟨(j : Int), ev, tt⟩]) := by
                  unfold OwnE; rw [encE_app, List.length_append]; exact hown6
                have hbd7 := Lib.hid (show Bd w1 w1.heap.size w1.heap.size false true (.slice (some ⟨bA, oA, none⟩) n c) ((S : Int) + 1) (w6.setCell ⟨w1.heap.size, 3, none⟩ (.slice (some ⟨gg, 0, none⟩) (es.length + 1) cap)) a.mr (.slice M m d) (es ++ [⟨(j : Int), ev, tt⟩]) (.slice (some ⟨gg, 0, none⟩) (es.length + 1) cap) from by
                  first
                  | exact Bd.edge (HG.out.alloc _) hgrow hown7
                  | exact Bd.edge ((HG.out.alloc _).drew) hgrow hown7
                  | exact Bd.edge (HG.out.drew.alloc _) hgrow hown7)
                clear hown7 hown6 hgrow hat
                go_wp2_with fail
                go_roundw
                case measure => simp [intOf]; omega
                case rel => exact ⟨t + 1, _, by omega, by go_num, by rw [hnx2.out]; first | exact hbd7 | exact Lib.hid hbd7.out.drew⟩
        · obtain rfl : t = n := by omega
          rw [rowC_all HR.out.hn, ← compE_succ] at hbd
          go_wp2_with fail
          go_roundw
          case rel => exact ⟨j + 1, _, by omega, by go_num, hbd⟩
          case measure => simp [intOf]; omega
    · obtain rfl : j = S + 1 := by omega
      obtain ⟨E3, g3, rfl, hE1, hE2, hE3⟩ := ownE_rd (hbd.out.eo rfl)
      have hcl := compE_len a (S + 1)
      rw [HR.out.hn] at hcl
      have hcl2 : (compE a (S + 1)).length ≤ 101 * 32 := by rw [hcl]; exact Nat.mul_le_mul (by omega) hal
      have s0 := hbd.out.cb.cell 0 rfl
      have s1 := hbd.out.cb.cell 1 rfl
      have s2 := hbd.out.cb.cell 2 rfl
      have s3 := hbd.out.cb.cell 3 rfl
      have y1 : (S : Int) < ((S + 1 : Nat) : Int) := by omega
      have hbs := hbd.out.bel.size
      have hst1 : a.st.toNat = S := by rw [HST.out]; simp
      have HAu := Lib.hid (show AuR wr wr.heap.size A n c ((S : Int) + 1) M m d E3 (compE a (S + 1)).length g3 (compA a) from
        { al := (HR.out.al.below (HB1.out.trans (hbd.out.bel.mono HB1.out.size)) HBw.out).more (Nat.le_trans HBw.out (HB1.out.trans (hbd.out.bel.mono HB1.out.size)).size), mr := (HR.out.mr.below (HB1.out.trans (hbd.out.bel.mono HB1.out.size)) HBw.out).more (Nat.le_trans HBw.out (HB1.out.trans (hbd.out.bel.mono HB1.out.size)).size), ed := by show RdG wr wr.heap.size E3 (compE a (a.st.toNat + 1)); rw [hst1]; exact hE1, hn := HR.out.hn, hm := HR.out.hm, hk := by show (compE a (a.st.toNat + 1)).length = _; rw [hst1], st := by show a.st + 1 = _; rw [HST.out], cn := HR.out.cn, cm := HR.out.cm, ck := ⟨hE2, hE3⟩, bn := HR.out.bn, bm := HR.out.bm, bk := by omega })
      have HCn := Lib.hid (rCanonical_any A n c ((S : Int) + 1) M m d E3 (compE a (S + 1)).length g3 (compA a) wr.heap.size wr HAu.out (Nat.le_refl _) (comp_right HRI.out) (by omega))
      have hR2 := Lib.hid (hRes.out.below hbd.out.bel hRes.out.lt)
      have hB2 := Lib.hid (HB1.out.trans (hbd.out.bel.mono HB1.out.size))
      have hzw : w.heap.size + 2 ≤ w1.heap.size := Nat.le_of_eq HZZ.out.symm
      clear hE1 hbd hcl
      go_wp2_with fail
      refine HCn.out.mono ?_
      rintro e w9 ⟨v9, rfl, hau9, hb9⟩
      obtain ⟨A9, n9, c9, s9, M9, m9, d9, E9, k9, g9, rfl, hr9, hf9⟩ := hau9
      have hAu9 := Lib.hid (show AuF _ _ w9 wr.heap.size from ⟨A9, n9, c9, s9, M9, m9, d9, E9, k9, g9, rfl, hr9, hf9⟩)
      have hR9 := Lib.hid (hR2.out.below hb9 hR2.out.lt)
      have hB9 := Lib.hid (hB2.out.trans (hb9.mono hB2.out.size))
      have r0 := hR9.out.cell 0 rfl
      have r1 := hR9.out.cell 1 rfl
      have r2 := hR9.out.cell 2 rfl
      have r3 := hR9.out.cell 3 rfl
      have z0 := hR9.out.frozen 0
      have z1 := hR9.out.frozen 1
      have z2 := hR9.out.frozen 2
      have z3 := hR9.out.frozen 3
      clear hb9 hr9 hf9
      go_wp2_with fail
      (try simp only [Exit.inBlock, Exit.then])
      refine bodyPost_ret (v := .agg #[.slice A9 n9 c9, .int .i64 s9, .slice M9 m9 d9, .slice E9 k9 g9]) ?_ rfl ⟨_, rfl, ?_, ?_⟩
      · rw [results_cell1 rfl]
        go_simp
      · exact (hAu9.out.set4 (by omega) _ _ _ _).more (by omega)
      · exact below_set4 hB9.out (by omega) _ _ _ _
end

section
open Go.RowKit Go.Sort
set_option maxHeartbeats 4000000 in
set_option maxRecDepth 100000 in
theorem rClosed_any (A : Option Addr) (n c : Nat) (s : Int) (M : Option Addr) (m d : Nat) (E : Option Addr) (k g : Nat) (a : Au) (B : Nat) (w : World) (h : AuR w B A n c s M m d E k g a) (hB : B ≤ w.heap.size) (hr : RightW a) (hS : s ≤ 4096) :
    Calls Try.prog 45 #[.agg #[.slice A n c, .int .i64 s, .slice M m d, .slice E k g]] w fun e w' => ∃ v, e = .returned v ∧ AuF (clsA a) v w' w.heap.size ∧ Below w.heap.size w w' := by
  have hb1 := ((Below.refl w.heap.size w).alloc (Nat.le_refl _) (.cells #[.slice A n c, .int .i64 s, .slice M m d, .slice E k g] 25)).alloc (by simp) (.cells #[.slice none 0 0, .int .i64 0, .slice none 0 0, .slice none 0 0] 25)
  have HB1 := Lib.hid hb1
  have HRes := Lib.hid (show Row ((w.alloc (.cells #[.slice A n c, .int .i64 s, .slice M m d, .slice E k g] 25)).alloc (.cells #[.slice none 0 0, .int .i64 0, .slice none 0 0, .slice none 0 0] 25)) (w.heap.size + 1) 25 [.slice none 0 0, .int .i64 0, .slice none 0 0, .slice none 0 0] by
    have := Row.new (w.alloc (.cells #[.slice A n c, .int .i64 s, .slice M m d, .slice E k g] 25)) [.slice none 0 0, .int .i64 0, .slice none 0 0, .slice none 0 0] 25
    simpa using this)
  have HA := Lib.hid ((Row.new w [.slice A n c, .int .i64 s, .slice M m d, .slice E k g] 25).alloc (.cells #[.slice none 0 0, .int .i64 0, .slice none 0 0, .slice none 0 0] 25))
  have hri := Lib.hid hr
  have HS4 := Lib.hid (show a.st ≤ 4096 by rw [h.st]; exact hS)
  have hCn := Lib.hid (rCanonical_any A n c s M m d E k g a B _ (h.below hb1 hB) (Nat.le_trans hB hb1.size) hr (by omega))
  obtain ⟨i0, hi, hz0, hz1, hz2⟩ := info_parts info_int
  have hz := (Nat.le_refl (w.heap.size + 2))
  have hzz := Lib.hid (show ((w.alloc (.cells #[.slice A n c, .int .i64 s, .slice M m d, .slice E k g] 25)).alloc (.cells #[.slice none 0 0, .int .i64 0, .slice none 0 0, .slice none 0 0] 25)).heap.size = w.heap.size + 2 by simp)
  have p0 := HA.out.cell 0 rfl
  have p1 := HA.out.cell 1 rfl
  have p2 := HA.out.cell 2 rfl
  have p3 := HA.out.cell 3 rfl
  clear h hr hS hb1 hB
  go_enter Try.func45, Try.ntmps45
  go_wp2_with fail
  obtain ⟨w0, hw0⟩ : ∃ w0, w0 = (w.alloc (.cells #[.slice A n c, .int .i64 s, .slice M m d, .slice E k g] 25)).alloc (.cells #[.slice none 0 0, .int .i64 0, .slice none 0 0, .slice none 0 0] 25) := ⟨_, rfl⟩
  rw [← hw0] at HB1 HRes HA hCn hzz p0 p1 p2 p3 ⊢
  clear hw0
  have hzw : w.heap.size + 2 ≤ w0.heap.size := Nat.le_of_eq hzz.out.symm
  refine hCn.out.mono ?_
  rintro e w2 ⟨v, rfl, ⟨A2, n2, c2, s2, M2, m2, d2, E2, k2, g2, rfl, hau, ha1, ha2, ha3⟩, hbw⟩
  have hR2 := Lib.hid (HRes.out.below hbw (by omega))
  have hB2 := Lib.hid (HB1.out.trans (hbw.mono HB1.out.size))
  have HAU := Lib.hid hau
  have HA1 := Lib.hid ha1
  have HA3 := Lib.hid ha3
  have hs2 : s2 = ((fnd a).length : Int) := by have := hau.st; simp only [canA] at this; exact this.symm
  obtain ⟨S, hSd⟩ : ∃ S, S = (fnd a).length := ⟨_, rfl⟩
  rw [← hSd] at hs2
  subst hs2
  have HSD := Lib.hid hSd
  have hSb : S ≤ 4096 := by have h1 := fnd_len hri.out; have h2 := HS4.out; have h3 := hri.out.st0; rw [← hSd] at h1; omega
  have hzz2 := hbw.size
  have hbd0 := Lib.hid (show Bd w2 w2.heap.size w2.heap.size true false (.slice A2 n2 c2) (S : Int) (w2.alloc (.cells #[.slice A2 n2 c2, .int .i64 (S : Int), .slice none 0 0, .slice E2 k2 g2] 25)) (rng 0) (.slice none 0 0) [] (.slice E2 k2 g2) from
    ⟨(Below.refl _ _).alloc (Nat.le_refl _) _, Row.new w2 [.slice A2 n2 c2, .int .i64 (S : Int), .slice none 0 0, .slice E2 k2 g2] 25, fun _ => World.ownsRow_nil _ _ _ _, fun h => (by cases h), Nat.le_refl _⟩)
  have hbd1 := Lib.hid (show Bd w2 w2.heap.size w2.heap.size true false (.slice A2 n2 c2) (S : Int) ((w2.alloc (.cells #[.slice A2 n2 c2, .int .i64 (S : Int), .slice M2 m2 d2, .slice E2 k2 g2] 25)).setCell ⟨w2.heap.size, 2, none⟩ (.slice none 0 0)) (rng 0) (.slice none 0 0) [] (.slice E2 k2 g2) from
    ⟨((Below.refl _ _).alloc (Nat.le_refl _) _).setCell (p := ⟨w2.heap.size, 2, none⟩) (Nat.le_refl _) _, (Row.new w2 [.slice A2 n2 c2, .int .i64 (S : Int), .slice M2 m2 d2, .slice E2 k2 g2] 25).set 2 _, fun _ => World.ownsRow_nil _ _ _ _, fun h => (by cases h), Nat.le_refl _⟩)
  clear hbw hau ha1 ha2 ha3 hSd p0 p1 p2 p3
  go_wp2_with fail
  go_loopw [4] (fun i wr => ∃ (t : Nat) (vm : Value), t ≤ S ∧ i = .int .i64 t ∧ Hid (Bd w2 w2.heap.size w2.heap.size true false (.slice A2 n2 c2) (S : Int) wr (rng t) vm [] (.slice E2 k2 g2))) (fun i _ => S - (intOf i).toNat)
  case atStart => exact ⟨0, _, Nat.zero_le _, rfl, by first | exact hbd1 | exact hbd0⟩
  case round =>
    clear hbd0 hbd1
    obtain ⟨t, vm, htS, rfl, hbd⟩ := hrel
    have hsz := hbd.out.h2
    have c2' := hbd.out.cb.cell 2 rfl
    have f2' := hbd.out.cb.frozen 2
    have c1' := hbd.out.cb.cell 1 rfl
    by_cases htl : t < S
    · obtain ⟨K0, hK0⟩ : ∃ K0, K0 = rng t := ⟨_, rfl⟩
      have hKl : K0.length = t := by rw [hK0, rng_len]
      have hy := Lib.hid (show rng (t + 1) = K0 ++ [(t : Int)] by rw [rng_succ, hK0])
      have HKL := Lib.hid hKl
      rw [← hK0] at hbd
      have hmo := Lib.hid (hbd.out.mo rfl)
      clear hK0
      go_wp2_with (at_builtin; refine wpList_append_own _ rfl _ _ 22 rfl w2.heap.size 3 i0 (.int .i64 0) 1 8 Try.underlying22 hi hz0 hz1 hz2 rfl (by decide) _ _ _ rfl (hmo.out.alloc _) ⟨wr.heap.size, 0, none⟩ 1 1 [.int .i64 (t : Int)] rfl rfl (news_one (by simp)) (by intro u hu; simp at hu; subst hu; rfl) (by unfold maxLen; omega) (by omega) (by simp; omega) ?_)
      intro v5 w5 hown5 hgrow5 _
      have hown6 : Own w5 w2.heap.size v5 (K0 ++ [(t : Int)]) := by unfold Own; rw [List.length_append, HKL.out]; simpa using hown5
      obtain ⟨A5, c5, hv5, _, _, _⟩ := own_rdc hown6
      rw [show (K0 ++ [(t : Int)]).length = t + 1 by simp [HKL.out]] at hv5
      subst hv5
      have hcb := Lib.hid ((hbd.out.alloc (.cells #[.int .i64 (t : Int)] 3)).cb.grown hgrow5 (fun e => (hbd.out.alloc (.cells #[.int .i64 (t : Int)] 3)).neM e.symm))
      have hbd6 := Lib.hid (Bd.mark (hbd.out.alloc (.cells #[.int .i64 (t : Int)] 3)) hgrow5 hown6)
      rw [← hy.out] at hbd6
      have c2' := hcb.out.cell 2 rfl
      have f2' := hcb.out.frozen 2
      clear hown5 hown6 hgrow5
      go_wp2_with fail
      go_roundw
      case rel => exact ⟨t + 1, _, by omega, by go_num, hbd6⟩
      case measure => simp [intOf]; omega
    · obtain rfl : t = S := by omega
      obtain ⟨M3, d3, rfl, hM1, hM2, hM3⟩ := own_rdc (hbd.out.mo rfl)
      have hMo := Lib.hid (own_from (hbd.out.mo rfl))
      have hrl := Lib.hid (rng_len t)
      have d0 := hbd.out.cb.cell 0 rfl
      have d1 := hbd.out.cb.cell 1 rfl
      have d2' := hbd.out.cb.cell 2 rfl
      have d3' := hbd.out.cb.cell 3 rfl
      have hRr := Lib.hid (hR2.out.below hbd.out.bel (by omega))
      have r0 := hRr.out.cell 0 rfl
      have r1 := hRr.out.cell 1 rfl
      have r2 := hRr.out.cell 2 rfl
      have r3 := hRr.out.cell 3 rfl
      have s0 := hRr.out.frozen 0
      have s1 := hRr.out.frozen 1
      have s2 := hRr.out.frozen 2
      have s3 := hRr.out.frozen 3
      have hfin := Lib.hid (show AuF (clsA a) (.agg #[.slice A2 n2 c2, .int .i64 (t : Int), .slice M3 (rng t).length d3, .slice E2 k2 g2]) wr w0.heap.size from by
        have hau := HAU.out.below hbd.out.bel (Nat.le_refl _)
        exact ⟨A2, n2, c2, (t : Int), M3, _, d3, E2, k2, g2, rfl,
          { al := hau.al.more hbd.out.bel.size, mr := by show RdI wr _ M3 (rng (fnd a).length); rw [← HSD.out]; exact hM1, ed := hau.ed.more hbd.out.bel.size, hn := hau.hn, hm := by show (rng (fnd a).length).length = _; rw [← HSD.out], hk := hau.hk, st := by show ((fnd a).length : Int) = _; rw [← HSD.out], cn := hau.cn, cm := ⟨hM2, hM3⟩, ck := hau.ck, bn := hau.bn, bm := by rw [hrl.out]; omega, bk := hau.bk },
          HA1.out, fun b o f e => by have := hMo.out b o f e; omega, HA3.out⟩)
      have HM1 := Lib.hid hM1
      clear hM1
      go_wp2_with fail
      (try simp only [Exit.inBlock, Exit.then])
      refine bodyPost_ret (v := .agg #[.slice A2 n2 c2, .int .i64 (t : Int), .slice M3 (rng t).length d3, .slice E2 k2 g2]) ?_ rfl ⟨_, rfl, ?_, ?_⟩
      · rw [results_cell1 rfl]
        go_simp
      · exact (hfin.out.set4 (by omega) _ _ _ _).more (by omega)
      · exact below_set4 (hB2.out.trans (hbd.out.bel.mono hB2.out.size)) (by omega) _ _ _ _
end
end Go.Proofs.Ytcciiikaejjooaa

/- Layer 3: bytes that came in; Complete, Closed, Same, Relabel in a law's walk. -/
namespace Go.Proofs.Ytcciiikaejjooaa

section
open Go.ChangeShapes Go.WideShapes Go.ChangeAt Go.RowKit Go.Deep
/-- A slice's address leads, below block B, to cells that hold these bytes (asked only where there are any). -/
def RdB (w : World) (B : Nat) (A : Option Addr) (zs : List Int) : Prop :=
  0 < zs.length → ∃ b off, A = some ⟨b, off, none⟩ ∧ b < B ∧ ∀ j, j < zs.length → w.cell? ⟨b, off + j, none⟩ = some (.int .u8 (zs.getD j 0))
variable {H : Type} {enc : TypeId × Value → H} {W : World} {a0 : Option Addr} {len cap : Nat} {d : DataW H} {p : List MemPlace}
set_option maxRecDepth 8000 in
theorem open_rdB (h : DataW.Trod enc Try.prog W 0 (fun _ => true) true 70 (.slice a0 len cap) d p) (hlt : ∀ x ∈ p, x.block < W.heap.size) :
    ∃ zs : List Int, zs.length = len ∧ RdB W W.heap.size a0 zs ∧ (∀ z ∈ zs, (Lit.int .u8 z).wf = true) ∧ len ≤ maxLen := by
  obtain ⟨fuel, hf⟩ := h
  rcases open_ints Try.underlying70 Try.underlying5 (by kernel_rfl) hf with ⟨hcs, _⟩ | ⟨a, l, c, zs, hcs, _, hl, hm, hz, hx, hcell, hwz⟩
  · simp [Value.cells] at hcs
    obtain ⟨rfl, rfl, rfl⟩ := hcs
    exact ⟨[], rfl, fun h => absurd h (by simp), by simp, by unfold maxLen; omega⟩
  · simp [Value.cells] at hcs
    obtain ⟨rfl, rfl, rfl⟩ := hcs
    simp only [Prod.mk.injEq] at hx
    obtain ⟨rfl, rfl⟩ := hx
    simp only [if_true] at hz
    refine ⟨zs.take len, by rw [List.length_take]; omega, fun h0 => ?_, fun z hz' => hwz z (List.mem_of_mem_take hz'), by omega⟩
    rw [List.length_take] at h0
    obtain ⟨b, off, spot⟩ := a
    have hspot : spot = none := by simpa [Addr.add] using World.cell?_spot (hcell 0 (by omega))
    subst hspot
    refine ⟨b, off, rfl, hlt (.cell b off) (MemPlace.mem_row.2 ⟨0, by omega, by simp⟩), fun j hj => ?_⟩
    rw [List.length_take] at hj
    rw [← add_plain, hcell j (by omega)]
    simp [List.getD, show j < len by omega]
end
section
open Go.RowKit Go.Sort
theorem wf_u8 {z : Int} (h : (Lit.int .u8 z).wf = true) : 0 ≤ z ∧ z < 256 := by
  have h1 : IntKind.u8.min = 0 := rfl
  have h2 : IntKind.u8.max = 255 := rfl
  simp only [Lit.wf, Bool.and_eq_true, decide_eq_true_eq] at h
  omega
section
variable {W w : World} {l : List (Nat × List Value)} {A : Option Addr} {n c : Nat} {s : Int} {M : Option Addr} {m d : Nat} {E : Option Addr} {k g : Nat} {a : Au}
theorem k_gives {f : FuncId} {args : Array Value} {x : Au} {u : Int} {r : Au × Int} (hc : Calls Try.prog f args w fun e w' => GivesA w r e w') (hr : r = (x, u)) (h : LW W l w) : Calls Try.prog f args w fun e w' => ∃ A n c s M m d E k g, e = .returned (.tuple #[.agg #[.slice A n c, .int .i64 s, .slice M m d, .slice E k g], .int .i64 u]) ∧ AuR w' w'.heap.size A n c s M m d E k g x ∧ KW W l w w' :=
  hc.mono fun e w' hh => by
    subst hr
    obtain ⟨v, e1, ⟨A, n, c, s, M, m, d, E, k, g, rfl, hr, _⟩, hb⟩ := hh
    exact ⟨A, n, c, s, M, m, d, E, k, g, e1, hr, KW.of h hb⟩
theorem k_auf {f : FuncId} {args : Array Value} {x : Au} (hc : Calls Try.prog f args w fun e w' => ∃ v, e = .returned v ∧ AuF x v w' w.heap.size ∧ Below w.heap.size w w') (h : LW W l w) : Calls Try.prog f args w fun e w' => ∃ A n c s M m d E k g, e = .returned (.agg #[.slice A n c, .int .i64 s, .slice M m d, .slice E k g]) ∧ AuR w' w'.heap.size A n c s M m d E k g x ∧ KW W l w w' :=
  hc.mono fun e w' hh => by
    obtain ⟨v, e1, ⟨A, n, c, s, M, m, d, E, k, g, rfl, hr, _⟩, hb⟩ := hh
    exact ⟨A, n, c, s, M, m, d, E, k, g, e1, hr, KW.of h hb⟩
theorem k_cmp (hc : chkE a = 0) (hs : a.st ≤ 5) (ha : AuR w w.heap.size A n c s M m d E k g a) (h : LW W l w) : Calls Try.prog 25 #[.agg #[.slice A n c, .int .i64 s, .slice M m d, .slice E k g]] w fun e w' => ∃ A n c s M m d E k g, e = .returned (.tuple #[.agg #[.slice A n c, .int .i64 s, .slice M m d, .slice E k g], .int .i64 0]) ∧ AuR w' w'.heap.size A n c s M m d E k g (canA (compA a)) ∧ KW W l w w' :=
  k_gives (mComplete_any A n c s M m d E k g a w ha (fun _ => by omega)) (by rw [cmpR, if_neg (by rw [hc]; simp)]) h
theorem k_cls (hc : chkE a = 0) (ha : AuR w w.heap.size A n c s M m d E k g a) (h : LW W l w) : Calls Try.prog 26 #[.agg #[.slice A n c, .int .i64 s, .slice M m d, .slice E k g]] w fun e w' => ∃ A n c s M m d E k g, e = .returned (.tuple #[.agg #[.slice A n c, .int .i64 s, .slice M m d, .slice E k g], .int .i64 0]) ∧ AuR w' w'.heap.size A n c s M m d E k g (clsA a) ∧ KW W l w w' :=
  k_gives (mClosed_any A n c s M m d E k g a w ha) (by rw [clsR, if_neg (by rw [hc]; simp)]) h
theorem k_rcmp (hr : RightW a) (h0 : 0 ≤ s) (hs : s ≤ 5) (ha : AuR w w.heap.size A n c s M m d E k g a) (h : LW W l w) : Calls Try.prog 44 #[.agg #[.slice A n c, .int .i64 s, .slice M m d, .slice E k g]] w fun e w' => ∃ A n c s M m d E k g, e = .returned (.agg #[.slice A n c, .int .i64 s, .slice M m d, .slice E k g]) ∧ AuR w' w'.heap.size A n c s M m d E k g (canA (compA a)) ∧ KW W l w w' :=
  k_auf (rComplete_any A n c s M m d E k g a w.heap.size w ha (Nat.le_refl _) hr s.toNat (by omega) (by omega)) h
theorem k_rcls (hr : RightW a) (hs : s ≤ 5) (ha : AuR w w.heap.size A n c s M m d E k g a) (h : LW W l w) : Calls Try.prog 45 #[.agg #[.slice A n c, .int .i64 s, .slice M m d, .slice E k g]] w fun e w' => ∃ A n c s M m d E k g, e = .returned (.agg #[.slice A n c, .int .i64 s, .slice M m d, .slice E k g]) ∧ AuR w' w'.heap.size A n c s M m d E k g (clsA a) ∧ KW W l w w' :=
  k_auf (rClosed_any A n c s M m d E k g a w.heap.size w ha (Nat.le_refl _) hr (by omega)) h
theorem k_rsame {b : Au} (A2 : Option Addr) (n2 c2 : Nat) (s2 : Int) (M2 : Option Addr) (m2 d2 : Nat) (E2 : Option Addr) (k2 g2 : Nat) {r : Bool} (hr : decide (a = b) = r) (ha : AuR w w.heap.size A n c s M m d E k g a) (hb : AuR w w.heap.size A2 n2 c2 s2 M2 m2 d2 E2 k2 g2 b) (h : LW W l w) : Calls Try.prog 30 #[.agg #[.slice A n c, .int .i64 s, .slice M m d, .slice E k g], .agg #[.slice A2 n2 c2, .int .i64 s2, .slice M2 m2 d2, .slice E2 k2 g2]] w fun e w' => e = .returned (.bool r) ∧ KW W l w w' := by
  have := kw_call (rSame_any A n c s M m d E k g A2 n2 c2 s2 M2 m2 d2 E2 k2 g2 a b w.heap.size w ha hb (Nat.le_refl _)) h
  rw [hr] at this; exact this
end
theorem AuR.dr {w : World} {B : Nat} {A : Option Addr} {n c : Nat} {s : Int} {M : Option Addr} {m d : Nat} {E : Option Addr} {k g : Nat} {a : Au} (h : AuR w B A n c s M m d E k g a) : AuR w.drew B A n c s M m d E k g a := h.keep fun _ _ _ => rfl
theorem AuR.drh {w : World} {A : Option Addr} {n c : Nat} {s : Int} {M : Option Addr} {m d : Nat} {E : Option Addr} {k g : Nat} {a : Au} (h : AuR w w.heap.size A n c s M m d E k g a) : AuR w.drew w.drew.heap.size A n c s M m d E k g a := h.dr
theorem cls_right {a : Au} (h : RightW a) : RightW (clsA a) where
  alr := (can_right h).alr
  alo := (can_right h).alo
  st0 := (can_right h).st0
  mrr x hx := by
    obtain ⟨i, hi, rfl⟩ := List.mem_map.1 (show x ∈ (List.range (fnd a).length).map _ from hx)
    have := List.mem_range.1 hi
    exact ⟨by omega, by show (i : Int) < ((fnd a).length : Int); omega⟩
  mro := by show (rng _).Pairwise _; unfold rng; rw [List.pairwise_map]; exact List.pairwise_lt_range.imp fun h => by omega
  edr := (can_right h).edr
  edo := (can_right h).edo
theorem cls_chk {a : Au} (h : RightW a) (hs : a.st ≤ 5) : chkE (clsA a) = 0 :=
  Right.chk { cls_right h with st1 := by have := fnd_len h; have := h.st0; show ((fnd a).length : Int) ≤ 4096; omega }
theorem comp_chk {a : Au} (h : RightW a) (hs : a.st ≤ 5) : chkE (canA (compA a)) = 0 := by
  have hc := comp_right h
  refine Right.chk { can_right hc with st1 := ?_ }
  have h1 := fnd_len hc
  have h2 := h.st0
  have h3 : (compA a).st = a.st + 1 := rfl
  show ((fnd (compA a)).length : Int) ≤ 4096
  omega
end
end Go.Proofs.Ytcciiikaejjooaa
