/- Layer 3: Closed of the program. -/
import Derived.Test.YtcciiikaejjooaaaEn
import Derived.Test.YtcciiikaejjooaaaLang
namespace Go.Proofs.Ytcciiikaejjooaa
open Go.RowKit Go.Sort

/-- The canonical form with all states marked. -/
def clsA (a : Au) : Au := ⟨a.al, ((fnd a).length : Int), rng (fnd a).length, canEn a (fnd a).length⟩
def clsR (a : Au) : Au × Int := if chkE a ≠ 0 then (zeroA, chkE a) else (clsA a, 0)
theorem rng_succ (t : Nat) : rng (t + 1) = rng t ++ [(t : Int)] := by simp [rng, List.range_succ]

set_option maxHeartbeats 4000000 in
set_option maxRecDepth 100000 in
theorem mClosed_any (A : Option Addr) (n c : Nat) (s : Int) (M : Option Addr) (m d : Nat) (E : Option Addr) (k g : Nat) (a : Au) (w : World) (h : AuR w w.heap.size A n c s M m d E k g a) :
    Calls Try.prog 26 #[.agg #[.slice A n c, .int .i64 s, .slice M m d, .slice E k g]] w fun e w' => GivesA w (clsR a) e w' := by
  have hb1 := ((Below.refl w.heap.size w).alloc (Nat.le_refl _) (.cells #[.slice A n c, .int .i64 s, .slice M m d, .slice E k g] 25)).alloc (by simp) (.cells #[.slice none 0 0, .int .i64 0, .slice none 0 0, .slice none 0 0] 25)
  have HB1 := Lib.hid hb1
  have hR1 := h.below hb1 (Nat.le_refl _)
  have HC := Lib.hid (mCheck_any A n c s M m d E k g a _ (hR1.more (by simp; omega)))
  have HA := Lib.hid ((Row.new w [.slice A n c, .int .i64 s, .slice M m d, .slice E k g] 25).alloc (.cells #[.slice none 0 0, .int .i64 0, .slice none 0 0, .slice none 0 0] 25))
  have HRes := Lib.hid (show Row ((w.alloc (.cells #[.slice A n c, .int .i64 s, .slice M m d, .slice E k g] 25)).alloc (.cells #[.slice none 0 0, .int .i64 0, .slice none 0 0, .slice none 0 0] 25)) (w.heap.size + 1) 25 [.slice none 0 0, .int .i64 0, .slice none 0 0, .slice none 0 0] by
    have := Row.new (w.alloc (.cells #[.slice A n c, .int .i64 s, .slice M m d, .slice E k g] 25)) [.slice none 0 0, .int .i64 0, .slice none 0 0, .slice none 0 0] 25
    simpa using this)
  have HR := Lib.hid h
  obtain ⟨i0, hi, hz0, hz1, hz2⟩ := info_parts info_int
  obtain ⟨u, hu⟩ : ∃ u, u = chkE a := ⟨_, rfl⟩
  rw [← hu] at HC
  have HU := Lib.hid hu
  clear h hR1 hu hb1
  by_cases h0 : u = 0
  · have hb0 : (u != 0) = false := by simp [h0]
    have hri := Lib.hid (right_of (a := a) (by rw [← HU.out, h0]))
    have hr := Lib.hid (show clsR a = (clsA a, 0) by rw [clsR, if_neg (by rw [← HU.out, h0]; simp)])
    have hS := Lib.hid (fun W (hW : Below w.heap.size w W) => canon_all A n c s M m d E k g a w.heap.size W (HR.out.below hW (Nat.le_refl _)) hW.size hri.out.toRightW (by have := hri.out.st1; omega))
    rw [hr.out]
    clear h0
    go_enter Try.func26, Try.ntmps26
    go_wp2_with fail
    refine HC.out.mono ?_
    rintro e w1 ⟨rfl, hbw⟩
    have hA1 := Lib.hid (HA.out.below hbw (by simp; omega))
    have hR1 := Lib.hid (HRes.out.below hbw (by simp))
    have hB1 := Lib.hid (HB1.out.trans (hbw.mono (by simp; omega)))
    have hz := hbw.size
    simp only [World.size_alloc] at hz
    clear hbw
    have p0 := hA1.out.cell 0 rfl
    have p1 := hA1.out.cell 1 rfl
    have p2 := hA1.out.cell 2 rfl
    have p3 := hA1.out.cell 3 rfl
    go_wp2_with fail
    refine (hS.out _ hB1.out).mono ?_
    rintro e w2 ⟨v, rfl, ⟨A2, n2, c2, s2, M2, m2, d2, E2, k2, g2, rfl, hau, ha1, ha2, ha3⟩, hbw⟩
    have hR2 := Lib.hid (hR1.out.below hbw (by omega))
    have hB2 := Lib.hid (hB1.out.trans (hbw.mono hB1.out.size))
    have HAU := Lib.hid hau
    have HA1 := Lib.hid ha1
    have HA3 := Lib.hid ha3
    have hs2 : s2 = ((fnd a).length : Int) := by have := hau.st; simp only [canA] at this; exact this.symm
    obtain ⟨S, hSd⟩ : ∃ S, S = (fnd a).length := ⟨_, rfl⟩
    rw [← hSd] at hs2
    subst hs2
    have HSD := Lib.hid hSd
    have hSb : S ≤ 4096 := by have h1 := fnd_len hri.out.toRightW; have h2 := hri.out.st1; have h3 := hri.out.st0; rw [← hSd] at h1; omega
    have hzz2 := hbw.size
    have hbd0 := Lib.hid (show Bd w2 w2.heap.size w2.heap.size true false (.slice A2 n2 c2) (S : Int) (w2.alloc (.cells #[.slice A2 n2 c2, .int .i64 (S : Int), .slice none 0 0, .slice E2 k2 g2] 25)) (rng 0) (.slice none 0 0) [] (.slice E2 k2 g2) from
      ⟨(Below.refl _ _).alloc (Nat.le_refl _) _, Row.new w2 [.slice A2 n2 c2, .int .i64 (S : Int), .slice none 0 0, .slice E2 k2 g2] 25, fun _ => World.ownsRow_nil _ _ _ _, fun h => (by cases h), Nat.le_refl _⟩)
    have hbd1 := Lib.hid (show Bd w2 w2.heap.size w2.heap.size true false (.slice A2 n2 c2) (S : Int) ((w2.alloc (.cells #[.slice A2 n2 c2, .int .i64 (S : Int), .slice M2 m2 d2, .slice E2 k2 g2] 25)).setCell ⟨w2.heap.size, 2, none⟩ (.slice none 0 0)) (rng 0) (.slice none 0 0) [] (.slice E2 k2 g2) from
      ⟨((Below.refl _ _).alloc (Nat.le_refl _) _).setCell (p := ⟨w2.heap.size, 2, none⟩) (Nat.le_refl _) _, (Row.new w2 [.slice A2 n2 c2, .int .i64 (S : Int), .slice M2 m2 d2, .slice E2 k2 g2] 25).set 2 _, fun _ => World.ownsRow_nil _ _ _ _, fun h => (by cases h), Nat.le_refl _⟩)
    clear hbw hau ha1 ha2 ha3 hSd p0 p1 p2 p3
    go_wp2_with fail
    go_loopw [18] (fun i wr => ∃ (t : Nat) (vm : Value), t ≤ S ∧ i = .int .i64 t ∧ Hid (Bd w2 w2.heap.size w2.heap.size true false (.slice A2 n2 c2) (S : Int) wr (rng t) vm [] (.slice E2 k2 g2))) (fun i _ => S - (intOf i).toNat)
    case atStart => exact ⟨0, _, Nat.zero_le _, rfl, by first | exact hbd1 | exact hbd0⟩
    case round =>
      clear hbd0 hbd1
      obtain ⟨t, vm, htS, rfl, hbd⟩ := hrel
      have hsz := hbd.out.h2
      have c2' := hbd.out.cb.cell 2 rfl
      have f2' := hbd.out.cb.frozen 2
      by_cases htl : t < S
      · obtain ⟨K0, hK0⟩ : ∃ K0, K0 = rng t := ⟨_, rfl⟩
        have hKl : K0.length = t := by rw [hK0, rng_len]
        have hy := Lib.hid (show rng (t + 1) = K0 ++ [(t : Int)] by rw [rng_succ, hK0])
        have HKL := Lib.hid hKl
        rw [← hK0] at hbd
        have hmo := Lib.hid (hbd.out.mo rfl)
        clear hK0
        go_wp2_with (at_builtin; refine wpList_append_own _ rfl _ _ 22 rfl w2.heap.size 3 i0 (.int .i64 0) 1 8 Try.underlying22 hi hz0 hz1 hz2 rfl (by decide) _ _ _ rfl (hmo.out.alloc _) ⟨wr.heap.size, 0, none⟩ 1 1 [.int .i64 (t : Int)] rfl rfl (news_one (by simp)) (by intro u hu; simp at hu; subst hu; rfl) (by unfold maxLen; omega) (by omega) (by simp; omega) ?_)
        intro v5 w5 hown5 hgrow5 _
        have hown6 : Own w5 w2.heap.size v5 (K0 ++ [(t : Int)]) := by unfold Own; rw [List.length_append, HKL.out]; simpa using hown5
        obtain ⟨A5, c5, hv5, _, _, _⟩ := own_rdc hown6
        rw [show (K0 ++ [(t : Int)]).length = t + 1 by simp [HKL.out]] at hv5
        subst hv5
        have hcb := Lib.hid ((hbd.out.alloc (.cells #[.int .i64 (t : Int)] 3)).cb.grown hgrow5 (fun e => (hbd.out.alloc (.cells #[.int .i64 (t : Int)] 3)).neM e.symm))
        have hbd6 := Lib.hid (Bd.mark (hbd.out.alloc (.cells #[.int .i64 (t : Int)] 3)) hgrow5 hown6)
        rw [← hy.out] at hbd6
        have c2' := hcb.out.cell 2 rfl
        have f2' := hcb.out.frozen 2
        clear hown5 hown6 hgrow5
        go_wp2_with fail
        go_roundw
        case rel => exact ⟨t + 1, _, by omega, by go_num, hbd6⟩
        case measure => simp [intOf]; omega
      · obtain rfl : t = S := by omega
        obtain ⟨M3, d3, rfl, hM1, hM2, hM3⟩ := own_rdc (hbd.out.mo rfl)
        have hMo := Lib.hid (own_from (hbd.out.mo rfl))
        have hrl := Lib.hid (rng_len t)
        have d0 := hbd.out.cb.cell 0 rfl
        have d1 := hbd.out.cb.cell 1 rfl
        have d2' := hbd.out.cb.cell 2 rfl
        have d3' := hbd.out.cb.cell 3 rfl
        have hRr := Lib.hid (hR2.out.below hbd.out.bel (by omega))
        have r0 := hRr.out.cell 0 rfl
        have r1 := hRr.out.cell 1 rfl
        have r2 := hRr.out.cell 2 rfl
        have r3 := hRr.out.cell 3 rfl
        have s0 := hRr.out.frozen 0
        have s1 := hRr.out.frozen 1
        have s2 := hRr.out.frozen 2
        have s3 := hRr.out.frozen 3
        have hfin := Lib.hid (show AuF (clsA a) (.agg #[.slice A2 n2 c2, .int .i64 (t : Int), .slice M3 (rng t).length d3, .slice E2 k2 g2]) wr w1.heap.size from by
          have hau := HAU.out.below hbd.out.bel (Nat.le_refl _)
          exact ⟨A2, n2, c2, (t : Int), M3, _, d3, E2, k2, g2, rfl,
            { al := hau.al.more hbd.out.bel.size, mr := by show RdI wr _ M3 (rng (fnd a).length); rw [← HSD.out]; exact hM1, ed := hau.ed.more hbd.out.bel.size, hn := hau.hn, hm := by show (rng (fnd a).length).length = _; rw [← HSD.out], hk := hau.hk, st := by show ((fnd a).length : Int) = _; rw [← HSD.out], cn := hau.cn, cm := ⟨hM2, hM3⟩, ck := hau.ck, bn := hau.bn, bm := by rw [hrl.out]; omega, bk := hau.bk },
            HA1.out, fun b o f e => by have := hMo.out b o f e; omega, HA3.out⟩)
        have HM1 := Lib.hid hM1
        clear hM1
        go_wp2_with fail
        (try simp only [Exit.inBlock, Exit.then])
        refine bodyPost_ret (v := .tuple #[.agg #[.slice A2 n2 c2, .int .i64 (t : Int), .slice M3 (rng t).length d3, .slice E2 k2 g2], .int .i64 0]) ?_ rfl ⟨_, rfl, ?_, ?_⟩
        · rw [results_cell_tmp1 rfl]
          go_simp
        · exact (hfin.out.set4 (by omega) _ _ _ _).more (by omega)
        · exact below_set4 (hB2.out.trans (hbd.out.bel.mono hB2.out.size)) (by omega) _ _ _ _
  · have hb0 : (u != 0) = true := by simp [h0]
    have hr := Lib.hid (show clsR a = (zeroA, u) by rw [clsR, if_pos (by rw [← HU.out]; exact h0), HU.out])
    rw [hr.out]
    clear h0
    go_enter Try.func26, Try.ntmps26
    go_wp2_with fail
    refine HC.out.mono ?_
    rintro e w1 ⟨rfl, hbw⟩
    have hR1 := Lib.hid (HRes.out.below hbw (by simp))
    have hB1 := Lib.hid (HB1.out.trans (hbw.mono (by simp; omega)))
    have hz := hbw.size
    simp only [World.size_alloc] at hz
    clear hbw
    have r0 := hR1.out.cell 0 rfl
    have r1 := hR1.out.cell 1 rfl
    have r2 := hR1.out.cell 2 rfl
    have r3 := hR1.out.cell 3 rfl
    have s0 := hR1.out.frozen 0
    have s1 := hR1.out.frozen 1
    have s2 := hR1.out.frozen 2
    have s3 := hR1.out.frozen 3
    go_wp2_with fail
    (try simp only [Exit.inBlock, Exit.then])
    refine bodyPost_ret (v := .tuple #[.agg #[.slice none 0 0, .int .i64 0, .slice none 0 0, .slice none 0 0], .int .i64 u]) ?_ rfl ⟨_, rfl, ?_, ?_⟩
    · rw [results_cell_tmp1 rfl]
      go_simp
    · exact AuF.zero _ _
    · exact below_set4 hB1.out (by omega) _ _ _ _
end Go.Proofs.Ytcciiikaejjooaa
