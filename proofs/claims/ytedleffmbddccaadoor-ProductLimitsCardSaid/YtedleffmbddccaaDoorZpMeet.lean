/- Layer 6: Meet of the program. -/
import Derived.Test.YtedleffmbddccaaDoorZpEna
import Derived.Test.YtedleffmbddccaaDoorZa7
set_option linter.unusedVariables false
set_option linter.unusedSimpArgs false
set_option linter.unusedSectionVars false
namespace Go.Proofs.YtedleffmbddccaaDoor
open Go.RowKit Go.Sort

def meetR (a b : Au) : Au × Int := if chkL [a, b] ≠ 0 then (zeroA, chkL [a, b]) else if a.al = b.al then ((synR [a, b]).1.1, (synR [a, b]).2) else (zeroA, 13)
theorem two_rd {W : World} {bg : Nat} (A : Option Addr) (n c : Nat) (s : Int) (M : Option Addr) (m d : Nat) (E : Option Addr) (k g : Nat) (A2 : Option Addr) (n2 c2 : Nat) (s2 : Int) (M2 : Option Addr) (m2 d2 : Nat) (E2 : Option Addr) (k2 g2 : Nat) {a b : Au} (hr : Row W bg 34 [.slice A n c, .int .i64 s, .slice M m d, .slice E k g, .slice A2 n2 c2, .int .i64 s2, .slice M2 m2 d2, .slice E2 k2 g2]) (h : AuR W W.heap.size A n c s M m d E k g a) (h2 : AuR W W.heap.size A2 n2 c2 s2 M2 m2 d2 E2 k2 g2 b) :
    RdAs W W.heap.size (some ⟨bg, 0, none⟩) [a, b] := fun _ => ⟨bg, 0, rfl, hr.lt, fun j x hj => by
  match j, hj with
  | 0, hj =>
    simp only [List.getElem?_cons_zero, Option.some.injEq] at hj
    subst hj
    exact ⟨A, n, c, s, M, m, d, E, k, g, hr.cell 0 rfl, hr.cell 1 rfl, hr.cell 2 rfl, hr.cell 3 rfl, h⟩
  | 1, hj =>
    simp only [List.getElem?_cons_succ, List.getElem?_cons_zero, Option.some.injEq] at hj
    subst hj
    exact ⟨A2, n2, c2, s2, M2, m2, d2, E2, k2, g2, hr.cell 4 rfl, hr.cell 5 rfl, hr.cell 6 rfl, hr.cell 7 rfl, h2⟩
  | j + 2, hj => simp at hj⟩

set_option maxHeartbeats 8000000 in
set_option maxRecDepth 100000 in
theorem pMeet_any (A : Option Addr) (n c : Nat) (s : Int) (M : Option Addr) (m d : Nat) (E : Option Addr) (k g : Nat) (A2 : Option Addr) (n2 c2 : Nat) (s2 : Int) (M2 : Option Addr) (m2 d2 : Nat) (E2 : Option Addr) (k2 g2 : Nat) (a b : Au) (w : World) (h : AuR w w.heap.size A n c s M m d E k g a) (h2 : AuR w w.heap.size A2 n2 c2 s2 M2 m2 d2 E2 k2 g2 b) :
    Calls Tryd.prog 32 #[.agg #[.slice A n c, .int .i64 s, .slice M m d, .slice E k g], .agg #[.slice A2 n2 c2, .int .i64 s2, .slice M2 m2 d2, .slice E2 k2 g2]] w (GivesA w (meetR a b)) := by
  have HLA := Lib.hid (fun W (hW : Below w.heap.size w W) => (h.below hW (Nat.le_refl _)).more hW.size)
  have HLB := Lib.hid (fun W (hW : Below w.heap.size w W) => (h2.below hW (Nat.le_refl _)).more hW.size)
  have HBx := Lib.hid ((((Below.refl w.heap.size w).alloc (Nat.le_refl _) (.cells #[.slice A n c, .int .i64 s, .slice M m d, .slice E k g] 34)).alloc (by simp <;> omega) (.cells #[.slice A2 n2 c2, .int .i64 s2, .slice M2 m2 d2, .slice E2 k2 g2] 34)).alloc (by simp <;> omega) (.cells #[.slice none 0 0, .int .i64 0, .slice none 0 0, .slice none 0 0] 34))
  have HA1 := Lib.hid (((Row.new w [.slice A n c, .int .i64 s, .slice M m d, .slice E k g] 34).alloc (.cells #[.slice A2 n2 c2, .int .i64 s2, .slice M2 m2 d2, .slice E2 k2 g2] 34)).alloc (.cells #[.slice none 0 0, .int .i64 0, .slice none 0 0, .slice none 0 0] 34))
  have HA2 := Lib.hid ((Row.newAt (w.alloc (.cells #[.slice A n c, .int .i64 s, .slice M m d, .slice E k g] 34)) [.slice A2 n2 c2, .int .i64 s2, .slice M2 m2 d2, .slice E2 k2 g2] 34 (g := w.heap.size + 1) (by simp)).alloc (.cells #[.slice none 0 0, .int .i64 0, .slice none 0 0, .slice none 0 0] 34))
  have HA3 := Lib.hid (Row.newAt ((w.alloc (.cells #[.slice A n c, .int .i64 s, .slice M m d, .slice E k g] 34)).alloc (.cells #[.slice A2 n2 c2, .int .i64 s2, .slice M2 m2 d2, .slice E2 k2 g2] 34)) [.slice none 0 0, .int .i64 0, .slice none 0 0, .slice none 0 0] 34 (g := w.heap.size + 1 + 1) (by simp))
  have HTwo := Lib.hid (fun W bg (hW : Below w.heap.size w W) (hr : Row W bg 34 [.slice A n c, .int .i64 s, .slice M m d, .slice E k g, .slice A2 n2 c2, .int .i64 s2, .slice M2 m2 d2, .slice E2 k2 g2]) => two_rd A n c s M m d E k g A2 n2 c2 s2 M2 m2 d2 E2 k2 g2 hr (HLA.out W hW) (HLB.out W hW))
  have HR4 := Lib.hid (Row.newAt (((w.alloc (.cells #[.slice A n c, .int .i64 s, .slice M m d, .slice E k g] 34)).alloc (.cells #[.slice A2 n2 c2, .int .i64 s2, .slice M2 m2 d2, .slice E2 k2 g2] 34)).alloc (.cells #[.slice none 0 0, .int .i64 0, .slice none 0 0, .slice none 0 0] 34)) [.slice A n c, .int .i64 s, .slice M m d, .slice E k g, .slice A2 n2 c2, .int .i64 s2, .slice M2 m2 d2, .slice E2 k2 g2] 34 (g := w.heap.size + 1 + 1 + 1) (by simp))
  have HB4 := Lib.hid (HBx.out.alloc (by simp; omega) (.cells #[.slice A n c, .int .i64 s, .slice M m d, .slice E k g, .slice A2 n2 c2, .int .i64 s2, .slice M2 m2 d2, .slice E2 k2 g2] 34))
  have HA14 := Lib.hid (HA1.out.alloc (.cells #[.slice A n c, .int .i64 s, .slice M m d, .slice E k g, .slice A2 n2 c2, .int .i64 s2, .slice M2 m2 d2, .slice E2 k2 g2] 34))
  have HA24 := Lib.hid (HA2.out.alloc (.cells #[.slice A n c, .int .i64 s, .slice M m d, .slice E k g, .slice A2 n2 c2, .int .i64 s2, .slice M2 m2 d2, .slice E2 k2 g2] 34))
  have HA34 := Lib.hid (HA3.out.alloc (.cells #[.slice A n c, .int .i64 s, .slice M m d, .slice E k g, .slice A2 n2 c2, .int .i64 s2, .slice M2 m2 d2, .slice E2 k2 g2] 34))
  have HEq := Lib.hid (fun W (hW : Below w.heap.size w W) => equalInt_any A A2 n n2 c c2 _ _ a.al b.al W (HLA.out W hW).al (HLB.out W hW).al h.hn h2.hn (by have := h.bn; omega) (by have := h2.bn; omega))
  obtain ⟨u, hu⟩ : ∃ u, u = chkL [a, b] := ⟨_, rfl⟩
  have HC := Lib.hid (pCheck_any (some ⟨w.heap.size + 1 + 1 + 1, 0, none⟩) 2 2 [a, b] _ _ (HTwo.out _ _ HB4.out HR4.out) (Nat.le_refl _) rfl)
  rw [← hu] at HC
  have HU := Lib.hid hu
  clear h h2 HBx HA1 HA2 HA3 HR4 hu
  go_enter Tryd.func32, Tryd.ntmps32
  go_wp2_with fail
  refine HC.out.mono ?_
  rintro e w5 ⟨rfl, hb5⟩
  have HB5 := Lib.hid (HB4.out.trans (hb5.mono HB4.out.size))
  have HA15 := Lib.hid (HA14.out.below hb5 HA14.out.lt)
  have HA25 := Lib.hid (HA24.out.below hb5 HA24.out.lt)
  have HA35 := Lib.hid (HA34.out.below hb5 HA34.out.lt)
  clear hb5 HC HB4 HA14 HA24 HA34
  by_cases h0 : u = 0
  · subst h0
    have p0 := HA15.out.cell 0 rfl
    have q0 := HA25.out.cell 0 rfl
    have HE := Lib.hid (HEq.out _ HB5.out)
    by_cases hab : a.al = b.al
    · have HR := Lib.hid (show meetR a b = ((synR [a, b]).1.1, (synR [a, b]).2) by rw [meetR, if_neg (by rw [← HU.out]; simp), if_pos hab])
      rw [decide_eq_true hab] at HE
      clear hab HEq
      go_wp2_with fail
      refine HE.out.mono ?_
      rintro e w6 ⟨rfl, q6, rfl⟩
      have HB6 := Lib.hid (HB5.out.trans ((below_drewN (Below.refl w5.heap.size w5) q6).mono HB5.out.size))
      have HA16 := Lib.hid (HA15.out.drewN q6)
      have HA26 := Lib.hid (HA25.out.drewN q6)
      have HA36 := Lib.hid (HA35.out.drewN q6)
      clear p0 q0 HB5 HA15 HA25 HA35 HE
      generalize World.drewN w5 q6 = w6 at *
      have p0 := HA16.out.cell 0 rfl
      have p1 := HA16.out.cell 1 rfl
      have p2 := HA16.out.cell 2 rfl
      have p3 := HA16.out.cell 3 rfl
      have q0 := HA26.out.cell 0 rfl
      have q1 := HA26.out.cell 1 rfl
      have q2 := HA26.out.cell 2 rfl
      have q3 := HA26.out.cell 3 rfl
      have HB7 := Lib.hid (HB6.out.alloc HB6.out.size (.cells #[.slice A n c, .int .i64 s, .slice M m d, .slice E k g, .slice A2 n2 c2, .int .i64 s2, .slice M2 m2 d2, .slice E2 k2 g2] 34))
      have HA37 := Lib.hid (HA36.out.alloc (.cells #[.slice A n c, .int .i64 s, .slice M m d, .slice E k g, .slice A2 n2 c2, .int .i64 s2, .slice M2 m2 d2, .slice E2 k2 g2] 34))
      have HCo := Lib.hid (pCompose_any (some ⟨w6.heap.size, 0, none⟩) 2 2 [a, b] _ (HTwo.out _ _ HB7.out (Row.new w6 [.slice A n c, .int .i64 s, .slice M m d, .slice E k g, .slice A2 n2 c2, .int .i64 s2, .slice M2 m2 d2, .slice E2 k2 g2] 34)) rfl)
      go_wp2_with fail
      refine HCo.out.mono ?_
      rintro e w8 ⟨v, rfl, hau, hb8⟩
      obtain ⟨A3, n3, c3, s3, M3, m3, d3, E3, k3, g3, rfl, hrest⟩ := hau
      have hau2 := Lib.hid (show AuF (synR [a, b]).1.1 (.agg #[.slice A3 n3 c3, .int .i64 s3, .slice M3 m3 d3, .slice E3 k3 g3]) w8 _ from ⟨_, _, _, _, _, _, _, _, _, _, rfl, hrest⟩)
      have hR8 := HA37.out.below hb8 HA37.out.lt
      have hB8 := Lib.hid (HB7.out.trans (hb8.mono HB7.out.size))
      have hz8 := HB6.out.size
      have hlt3 := HA36.out.lt
      have r0 := hR8.cell 0 rfl
      have r1 := hR8.cell 1 rfl
      have r2 := hR8.cell 2 rfl
      have r3 := hR8.cell 3 rfl
      have s0 := hR8.frozen 0
      have s1 := hR8.frozen 1
      have s2' := hR8.frozen 2
      have s3' := hR8.frozen 3
      obtain ⟨er, her⟩ : ∃ er, er = (synR [a, b]).2 := ⟨_, rfl⟩
      rw [← her]
      have HER := Lib.hid her
      clear hrest hb8 hR8 p0 p1 p2 p3 q0 q1 q2 q3 her HCo
      go_wp2_with fail
      (try simp only [Exit.inBlock, Exit.then])
      refine bodyPost_ret (v := .tuple #[.agg #[.slice A3 n3 c3, .int .i64 s3, .slice M3 m3 d3, .slice E3 k3 g3], .int .i64 er]) ?_ rfl ⟨_, by rw [HR.out, HER.out], ?_, ?_⟩
      · rw [results_cell_tmp1 rfl]
        go_simp
      · rw [HR.out]
        exact (hau2.out.set4 (by simp; omega) _ _ _ _).more (by simp; omega)
      · exact below_set4 hB8.out (by omega) _ _ _ _
    · have HR := Lib.hid (show meetR a b = (zeroA, 13) by rw [meetR, if_neg (by rw [← HU.out]; simp), if_neg hab])
      rw [decide_eq_false hab] at HE
      clear hab HEq
      go_wp2_with fail
      refine HE.out.mono ?_
      rintro e w6 ⟨rfl, q6, rfl⟩
      have HB6 := Lib.hid (HB5.out.trans ((below_drewN (Below.refl w5.heap.size w5) q6).mono HB5.out.size))
      have HA36 := Lib.hid (HA35.out.drewN q6)
      clear p0 q0 HB5 HA15 HA25 HA35 HE
      generalize World.drewN w5 q6 = w6 at *
      have r0 := HA36.out.cell 0 rfl
      have r1 := HA36.out.cell 1 rfl
      have r2 := HA36.out.cell 2 rfl
      have r3 := HA36.out.cell 3 rfl
      have s0 := HA36.out.frozen 0
      have s1 := HA36.out.frozen 1
      have s2' := HA36.out.frozen 2
      have s3' := HA36.out.frozen 3
      go_wp2_with fail
      (try simp only [Exit.inBlock, Exit.then])
      refine bodyPost_ret (v := .tuple #[.agg #[.slice none 0 0, .int .i64 0, .slice none 0 0, .slice none 0 0], .int .i64 13]) ?_ rfl ⟨_, by rw [HR.out], by rw [HR.out]; exact AuF.zero _ _, below_set4 HB6.out (by omega) _ _ _ _⟩
      rw [results_cell_tmp1 rfl]
      go_simp
  · have HR := Lib.hid (show meetR a b = (zeroA, u) by rw [meetR, if_pos (by rw [← HU.out]; exact h0), HU.out])
    have hb0 : (u != 0) = true := by simp [h0]
    have r0 := HA35.out.cell 0 rfl
    have r1 := HA35.out.cell 1 rfl
    have r2 := HA35.out.cell 2 rfl
    have r3 := HA35.out.cell 3 rfl
    have s0 := HA35.out.frozen 0
    have s1 := HA35.out.frozen 1
    have s2' := HA35.out.frozen 2
    have s3' := HA35.out.frozen 3
    clear h0 HEq
    go_wp2_with fail
    (try simp only [Exit.inBlock, Exit.then])
    refine bodyPost_ret (v := .tuple #[.agg #[.slice none 0 0, .int .i64 0, .slice none 0 0, .slice none 0 0], .int .i64 u]) ?_ rfl ⟨_, by rw [HR.out], by rw [HR.out]; exact AuF.zero _ _, below_set4 HB5.out (by omega) _ _ _ _⟩
    rw [results_cell_tmp1 rfl]
    go_simp
end Go.Proofs.YtedleffmbddccaaDoor
