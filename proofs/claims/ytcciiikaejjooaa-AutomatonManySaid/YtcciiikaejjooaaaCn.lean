/- Layer 3: canonical and Canonical of the program, every automaton. -/
import Derived.Test.YtcciiikaejjooaaaCan
namespace Go.Proofs.Ytcciiikaejjooaa
open Go.RowKit Go.Sort

theorem canA_zero {a : Au} (h : a.st = 0) : canA a = ⟨a.al, 0, [], []⟩ := by
  have : fnd a = [] := by rw [fnd, if_pos (by omega)]
  simp [canA, this, canM, canEn]
theorem fnd_zero {a : Au} (h : a.st = 0) : fnd a = [] := by rw [fnd, if_pos (by omega)]

set_option maxHeartbeats 1000000 in
theorem canonical_zero (A : Option Addr) (n c : Nat) (s : Int) (M : Option Addr) (m d : Nat) (E : Option Addr) (k g : Nat) (a : Au) (B : Nat) (w : World) (h : AuR w B A n c s M m d E k g a) (hB : B ≤ w.heap.size) (hS : s = 0) :
    Calls Try.prog 51 #[.agg #[.slice A n c, .int .i64 s, .slice M m d, .slice E k g]] w fun e w' => ∃ v, e = .returned v ∧ AuF (canA a) v w' w.heap.size ∧ Below w.heap.size w w' := by
  have hst := h.st
  subst hS
  have hca := Lib.hid (canA_zero hst)
  have HR := Lib.hid h
  have HA := Lib.hid (Row.new w [.slice A n c, .int .i64 0, .slice M m d, .slice E k g] 25)
  have HA2 := Lib.hid (HA.out.alloc (.cells #[.slice none 0 0, .int .i64 0, .slice none 0 0, .slice none 0 0] 25))
  have HRes := Lib.hid (Row.new (w.alloc (.cells #[.slice A n c, .int .i64 0, .slice M m d, .slice E k g] 25)) [.slice none 0 0, .int .i64 0, .slice none 0 0, .slice none 0 0] 25)
  have HB1 := Lib.hid (((Below.refl w.heap.size w).alloc (Nat.le_refl _) (.cells #[.slice A n c, .int .i64 0, .slice M m d, .slice E k g] 25)).alloc (by simp) (.cells #[.slice none 0 0, .int .i64 0, .slice none 0 0, .slice none 0 0] 25))
  have HCL := Lib.hid (clone_sl A n c a.al _ (((h.al.more hB).below HB1.out (Nat.le_refl _)).more HB1.out.size) h.hn (by have := h.bn; omega))
  clear h hst
  go_enter Try.func51, Try.ntmps51
  go_wp2_with fail
  refine HCL.out.mono ?_
  rintro e w1 ⟨Ac, cc, rfl, hoc, hbw⟩
  rw [HR.out.hn] at *
  have hz := hbw.size
  simp only [World.size_alloc] at hz
  have hB1 := Lib.hid (HB1.out.trans (hbw.mono (by simp; omega)))
  have hA1 := Lib.hid (HA2.out.below hbw (by simp; omega))
  have hR1 := Lib.hid (show Row w1 (w.heap.size + 1) 25 [.slice none 0 0, .int .i64 0, .slice none 0 0, .slice none 0 0] by have := HRes.out.below hbw (by simp); simpa using this)
  have hC1 := Lib.hid hoc
  have HCC := Lib.hid (show n ≤ cc ∧ cc ≤ 9223372036854775807 from by
    obtain ⟨A', c', e, _, q1, q2⟩ := own_rdc hoc
    injection e with e1 e2 e3
    rw [HR.out.hn] at q1; subst e3; exact ⟨q1, q2⟩)
  have HAC := Lib.hid (show ∀ b o f, Ac = some ⟨b, o, f⟩ → w.heap.size + 1 < b from fun b o f e => by
    subst e
    have := (hoc.lt b rfl).1
    simp at this; omega)
  have hrd := Lib.hid (show RdI w1 w1.heap.size Ac a.al by
    obtain ⟨A', c', e, hrd⟩ := own_rd hoc
    injection e with e1 e2 e3
    subst e1
    exact hrd)
  clear hoc hbw
  have hbl : w.heap.size + 1 < w1.heap.size := by omega
  have y1 := (hA1.out.alloc (.cells #[.slice Ac n cc, .int .i64 0, .slice none 0 0, .slice none 0 0] 25)).cell 1 rfl
  have hR2 := Lib.hid (hR1.out.alloc (.cells #[.slice Ac n cc, .int .i64 0, .slice none 0 0, .slice none 0 0] 25))
  have r0 := hR2.out.cell 0 rfl
  have r1 := hR2.out.cell 1 rfl
  have r2 := hR2.out.cell 2 rfl
  have r3 := hR2.out.cell 3 rfl
  have s0 := hR2.out.frozen 0
  have s1 := hR2.out.frozen 1
  have s2 := hR2.out.frozen 2
  have s3 := hR2.out.frozen 3
  have r0' := hR1.out.cell 0 rfl
  have r1' := hR1.out.cell 1 rfl
  have r2' := hR1.out.cell 2 rfl
  have r3' := hR1.out.cell 3 rfl
  have s0' := hR1.out.frozen 0
  have s1' := hR1.out.frozen 1
  have s2' := hR1.out.frozen 2
  have s3' := hR1.out.frozen 3
  have y1' := hA1.out.cell 1 rfl
  go_wp2_with fail
  (try simp only [Exit.inBlock, Exit.then])
  have hcr : CR w w.heap.size w1.heap.size Ac a.al (canM a) (canEn a 0) (.slice none 0 0) (.slice none 0 0) w1 :=
    { bel := hB1.out
      cl := hrd.out
      mo := by
        have : canM a = [] := by rw [canM, fnd_zero HR.out.st]; rfl
        rw [this]; exact World.ownsRow_nil _ _ _ _
      eo := World.ownsRow_nil _ _ _ _
      h1 := hbl
      h2 := Nat.le_refl _ }
  have hfin := ((hcr.set HAC.out 0 (.slice Ac n cc) |>.set HAC.out 1 (.int .i64 0) |>.set HAC.out 2 (.slice none 0 0) |>.set HAC.out 3 (.slice none 0 0)).alloc (.cells #[.slice Ac n cc, .int .i64 0, .slice none 0 0, .slice none 0 0] 25)).gives' (n0 := 0) HAC.out (by rw [fnd_zero HR.out.st]; rfl) HR.out.hn HCC.out HR.out.bn (by have := canM_len a; rw [fnd_zero HR.out.st] at this; simp at this; rw [this]; simp) (by simp [canEn])
  refine bodyPost_ret (v := .agg #[.slice Ac n cc, .int .i64 0, .slice none 0 0, .slice none 0 0]) ?_ rfl ⟨_, rfl, hfin.1, hfin.2⟩
  rw [results_cell1 rfl]
  go_simp

/-- canonical, every right automaton. -/
theorem canon_all (A : Option Addr) (n c : Nat) (s : Int) (M : Option Addr) (m d : Nat) (E : Option Addr) (k g : Nat) (a : Au) (B : Nat) (w : World) (h : AuR w B A n c s M m d E k g a) (hB : B ≤ w.heap.size) (hr : RightW a) (hb : a.st ≤ 5000) :
    Calls Try.prog 51 #[.agg #[.slice A n c, .int .i64 s, .slice M m d, .slice E k g]] w fun e w' => ∃ v, e = .returned v ∧ AuF (canA a) v w' w.heap.size ∧ Below w.heap.size w w' := by
  have h0 := hr.st0
  have hs := h.st
  by_cases hz : a.st = 0
  · exact canonical_zero A n c s M m d E k g a B w h hB (by omega)
  · exact canonical_any A n c s M m d E k g a a.st.toNat B w h hB hr (by omega) (by omega) (by omega)

end Go.Proofs.Ytcciiikaejjooaa
