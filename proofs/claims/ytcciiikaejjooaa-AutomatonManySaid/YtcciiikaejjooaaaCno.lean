/- Layer 3: Canonical of the program. -/
import Derived.Test.YtcciiikaejjooaaaCn
namespace Go.Proofs.Ytcciiikaejjooaa
open Go.RowKit Go.Sort

def zeroA : Au := ⟨[], 0, [], []⟩
/-- What Canonical hands back. -/
def canR (a : Au) : Au × Int := if chkE a ≠ 0 then (zeroA, chkE a) else (canA a, 0)
/-- An automaton in new memory and an error. -/
def GivesA (w : World) (r : Au × Int) (e : Ending) (w' : World) : Prop := ∃ v, e = .returned (.tuple #[v, .int .i64 r.2]) ∧ AuF r.1 v w' w.heap.size ∧ Below w.heap.size w w'
theorem AuF.set4 {a : Au} {v : Value} {w : World} {base X : Nat} (h : AuF a v w base) (hX : X < base) (v0 v1 v2 v3 : Value) : AuF a v ((((w.setCell ⟨X, 0, none⟩ v0).setCell ⟨X, 1, none⟩ v1).setCell ⟨X, 2, none⟩ v2).setCell ⟨X, 3, none⟩ v3) base :=
  (((h.set hX 0 v0).set hX 1 v1).set hX 2 v2).set hX 3 v3
theorem below_set4 {w w' : World} {B X : Nat} (h : Below B w w') (hX : B ≤ X) (v0 v1 v2 v3 : Value) : Below B w ((((w'.setCell ⟨X, 0, none⟩ v0).setCell ⟨X, 1, none⟩ v1).setCell ⟨X, 2, none⟩ v2).setCell ⟨X, 3, none⟩ v3) :=
  (((h.setCell (p := ⟨X, 0, none⟩) hX v0).setCell (p := ⟨X, 1, none⟩) hX v1).setCell (p := ⟨X, 2, none⟩) hX v2).setCell (p := ⟨X, 3, none⟩) hX v3

set_option maxHeartbeats 1000000 in
theorem mCanonical_any (A : Option Addr) (n c : Nat) (s : Int) (M : Option Addr) (m d : Nat) (E : Option Addr) (k g : Nat) (a : Au) (w : World) (h : AuR w w.heap.size A n c s M m d E k g a) :
    Calls Try.prog 17 #[.agg #[.slice A n c, .int .i64 s, .slice M m d, .slice E k g]] w fun e w' => GivesA w (canR a) e w' := by
  have hb1 := ((Below.refl w.heap.size w).alloc (Nat.le_refl _) (.cells #[.slice A n c, .int .i64 s, .slice M m d, .slice E k g] 25)).alloc (by simp) (.cells #[.slice none 0 0, .int .i64 0, .slice none 0 0, .slice none 0 0] 25)
  have HB1 := Lib.hid hb1
  have hR1 := h.below hb1 (Nat.le_refl _)
  have HC := Lib.hid (mCheck_any A n c s M m d E k g a _ (hR1.more (by simp; omega)))
  have HA := Lib.hid ((Row.new w [.slice A n c, .int .i64 s, .slice M m d, .slice E k g] 25).alloc (.cells #[.slice none 0 0, .int .i64 0, .slice none 0 0, .slice none 0 0] 25))
  have HRes := Lib.hid (Row.new (w.alloc (.cells #[.slice A n c, .int .i64 s, .slice M m d, .slice E k g] 25)) [.slice none 0 0, .int .i64 0, .slice none 0 0, .slice none 0 0] 25)
  have HR := Lib.hid h
  obtain ⟨u, hu⟩ : ∃ u, u = chkE a := ⟨_, rfl⟩
  rw [← hu] at HC
  have HU := Lib.hid hu
  clear h hR1 hu hb1
  by_cases h0 : u = 0
  · have hb0 : (u != 0) = false := by simp [h0]
    have hri := right_of (a := a) (by rw [← HU.out, h0])
    have hS := Lib.hid (fun W (hW : Below w.heap.size w W) => canon_all A n c s M m d E k g a w.heap.size W (HR.out.below hW (Nat.le_refl _)) hW.size hri.toRightW (by have := hri.st1; omega))
    have hr := Lib.hid (show canR a = (canA a, 0) by rw [canR, if_neg (by rw [← HU.out, h0]; simp)])
    clear h0 hri
    go_enter Try.func17, Try.ntmps17
    go_wp2_with fail
    refine HC.out.mono ?_
    rintro e w1 ⟨rfl, hbw⟩
    have hA1 := Lib.hid (HA.out.below hbw (by simp; omega))
    have hR1 := Lib.hid (show Row w1 (w.heap.size + 1) 25 [.slice none 0 0, .int .i64 0, .slice none 0 0, .slice none 0 0] by have := HRes.out.below hbw (by simp); simpa using this)
    have hB1 := Lib.hid (HB1.out.trans (hbw.mono (by simp; omega)))
    have hz := hbw.size
    simp only [World.size_alloc] at hz
    clear hbw
    have p0 := hA1.out.cell 0 rfl
    have p1 := hA1.out.cell 1 rfl
    have p2 := hA1.out.cell 2 rfl
    have p3 := hA1.out.cell 3 rfl
    go_wp2_with fail
    refine (hS.out _ hB1.out).mono ?_
    rintro e w2 ⟨v, rfl, hau, hbw⟩
    have hR2 := hR1.out.below hbw (by omega)
    have hB2 := Lib.hid (hB1.out.trans (hbw.mono hB1.out.size))
    obtain ⟨A2, n2, c2, s2, M2, m2, d2, E2, k2, g2, rfl, hrest⟩ := hau
    have hau2 := Lib.hid (show AuF (canA a) (.agg #[.slice A2 n2 c2, .int .i64 s2, .slice M2 m2 d2, .slice E2 k2 g2]) w2 w1.heap.size from ⟨_, _, _, _, _, _, _, _, _, _, rfl, hrest⟩)
    have r0 := hR2.cell 0 rfl
    have r1 := hR2.cell 1 rfl
    have r2 := hR2.cell 2 rfl
    have r3 := hR2.cell 3 rfl
    have s0 := hR2.frozen 0
    have s1 := hR2.frozen 1
    have s2' := hR2.frozen 2
    have s3 := hR2.frozen 3
    clear p0 p1 p2 p3 hrest hR2 hbw
    go_wp2_with fail
    (try simp only [Exit.inBlock, Exit.then])
    refine bodyPost_ret (v := .tuple #[.agg #[.slice A2 n2 c2, .int .i64 s2, .slice M2 m2 d2, .slice E2 k2 g2], .int .i64 0]) ?_ rfl ⟨.agg #[.slice A2 n2 c2, .int .i64 s2, .slice M2 m2 d2, .slice E2 k2 g2], by rw [hr.out], ?_, ?_⟩
    · rw [results_cell_tmp1 rfl]
      go_simp
    · rw [hr.out]
      exact (hau2.out.set4 (by omega) _ _ _ _).more (by omega)
    · exact below_set4 hB2.out (by omega) _ _ _ _
  · have hb0 : (u != 0) = true := by simp [h0]
    have hr := Lib.hid (show canR a = (zeroA, u) by rw [canR, ← HU.out, if_pos h0])
    clear h0
    go_enter Try.func17, Try.ntmps17
    go_wp2_with fail
    refine HC.out.mono ?_
    rintro e w1 ⟨rfl, hbw⟩
    have hR1 := Lib.hid (show Row w1 (w.heap.size + 1) 25 [.slice none 0 0, .int .i64 0, .slice none 0 0, .slice none 0 0] by have := HRes.out.below hbw (by simp); simpa using this)
    have hB1 := Lib.hid (HB1.out.trans (hbw.mono (by simp; omega)))
    clear hbw
    have r0 := hR1.out.cell 0 rfl
    have r1 := hR1.out.cell 1 rfl
    have r2 := hR1.out.cell 2 rfl
    have r3 := hR1.out.cell 3 rfl
    have s0 := hR1.out.frozen 0
    have s1 := hR1.out.frozen 1
    have s2 := hR1.out.frozen 2
    have s3 := hR1.out.frozen 3
    go_wp2_with fail
    (try simp only [Exit.inBlock, Exit.then])
    refine bodyPost_ret (v := .tuple #[.agg #[.slice none 0 0, .int .i64 0, .slice none 0 0, .slice none 0 0], .int .i64 u]) ?_ rfl ⟨_, by rw [hr.out], ?_, ?_⟩
    · rw [results_cell_tmp1 rfl]
      go_simp
    · rw [hr.out]; exact AuF.zero _ _
    · exact below_set4 hB1.out (by omega) _ _ _ _
end Go.Proofs.Ytcciiikaejjooaa
