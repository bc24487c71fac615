/- Layer 3: Step, index, Empty of the reference. -/
import Derived.Test.YtcciiikaejjooaaaRChk
import Derived.Test.YtcciiikaejjooaaaRow
namespace Go.Proofs.Ytcciiikaejjooaa
open Go.RowKit Go.Sort

/-- The state to which an event leads; -1 if it is not possible. -/
def stepI (a : Au) (q ev : Int) : Int := (stepO a q ev).getD (-1)
theorem edge_first {l : List Ed} {k : Nat} {q ev : Int} {x : Ed} (hx : l[k]? = some x) (h : ∀ y ∈ l.take k, ¬ (y.f = q ∧ y.e = ev)) (h1 : x.f = q) (h2 : x.e = ev) : edgeO l q ev = some x := by
  unfold edgeO
  have hl := (List.getElem?_eq_some_iff.1 hx)
  obtain ⟨hk, e⟩ := hl
  have e2 : l = l.take k ++ x :: l.drop (k + 1) := by
    rw [← e, List.getElem_cons_drop, List.take_append_drop]
  conv => lhs; rw [e2]
  rw [List.find?_append, List.find?_eq_none.2 (fun y hy => by simpa using h y hy)]
  simp [h1, h2]
theorem step_first {a : Au} {k : Nat} {q ev : Int} {x : Ed} (hx : a.ed[k]? = some x) (h : ∀ y ∈ a.ed.take k, ¬ (y.f = q ∧ y.e = ev)) (h1 : x.f = q) (h2 : x.e = ev) : stepI a q ev = x.t := by
  rw [stepI, stepO, edge_first hx h h1 h2]; rfl
theorem step_never {a : Au} {q ev : Int} {n : Nat} (hn : a.ed.length = n) (h : ∀ y ∈ a.ed.take n, ¬ (y.f = q ∧ y.e = ev)) : stepI a q ev = -1 := by
  rw [List.take_of_length_le (by omega)] at h
  rw [stepI, stepO, edgeO_none.2 h]; rfl
theorem not_next {l : List Ed} {k : Nat} {q ev : Int} {x : Ed} (hx : l[k]? = some x) (h : ∀ y ∈ l.take k, ¬ (y.f = q ∧ y.e = ev)) (hn : ¬ (x.f = q ∧ x.e = ev)) : ∀ y ∈ l.take (k + 1), ¬ (y.f = q ∧ y.e = ev) := fun y hy => by
  rw [take_succ_ed hx, List.mem_append] at hy
  rcases hy with hy | hy
  · exact h y hy
  · rw [List.mem_singleton] at hy; subst hy; exact hn

set_option maxHeartbeats 1600000 in
theorem rStep_any (A : Option Addr) (n c : Nat) (s : Int) (M : Option Addr) (m d : Nat) (E : Option Addr) (k g : Nat) (a : Au) (q ev : Int) (B : Nat) (w : World) (h : AuR w B A n c s M m d E k g a) (hB : B ≤ w.heap.size) :
    Calls Try.prog 37 #[.agg #[.slice A n c, .int .i64 s, .slice M m d, .slice E k g], .int .i64 q, .int .i64 ev] w fun e w' => e = .returned (.int .i64 (stepI a q ev)) ∧ Below w.heap.size w w' := by
  have HB1 := Lib.hid ((Below.refl w.heap.size w).alloc (Nat.le_refl _) (.cells #[.slice A n c, .int .i64 s, .slice M m d, .slice E k g] 25))
  have HR := Lib.hid h
  have HX := Lib.hid (BoxA.made w A n c s M m d E k g 25)
  have HB0 := Lib.hid hB
  have hk1 := h.bk
  have hk2 := Lib.hid h.hk
  obtain ⟨v, hv⟩ : ∃ v, v = stepI a q ev := ⟨_, rfl⟩
  have HV := Lib.hid hv
  rw [← hv]
  clear h hB hv
  go_enter Try.func37, Try.ntmps37
  go_wp2_with fail
  go_loopw [7] (fun i wr => ∃ j : Nat, j ≤ k ∧ i = .int .i64 j ∧ Hid (∀ y ∈ a.ed.take j, ¬ (y.f = q ∧ y.e = ev)) ∧ Hid (Below w.heap.size w wr ∧ BoxA wr w.heap.size A n c s M m d E k g ∧ w.heap.size < wr.heap.size)) (fun i _ => k - (intOf i).toNat)
  case atStart => exact ⟨0, Nat.zero_le _, rfl, by simp [Hid], HB1.out, HX.out, by simp⟩
  case round =>
    obtain ⟨j, hj, rfl, ht, hbel⟩ := hrel
    obtain ⟨p0, p1, p2, p3⟩ := hbel.out.2.1
    by_cases hlt : j < k
    · obtain ⟨b1, o1, rfl, hb1, hc1⟩ := HR.out.ed (by rw [hk2.out]; omega)
      obtain ⟨x, hx⟩ := edAt (l := a.ed) (k := j) (by rw [hk2.out]; exact hlt)
      obtain ⟨x0, x1, x2⟩ : EdAt wr b1 (o1 + j * 3) x := (hc1 j x hx).keep fun o => hbel.out.1.cell (p := ⟨b1, o, none⟩) (Nat.lt_of_lt_of_le hb1 HB0.out)
      have HX := Lib.hid hx
      obtain ⟨xf, xe, xt⟩ := x
      simp only at x0 x1 x2
      clear hc1 hx
      by_cases h1 : xf = q
      · have hq : (xf == q) = true := by simp [h1]
        by_cases h2 : xe = ev
        · have hq2 : (xe == ev) = true := by simp [h2]
          have hf := Lib.hid (show xt = v by rw [HV.out, step_first HX.out ht.out h1 h2])
          clear h1 h2 ht
          go_wp2_with fail
          go_ret
          exact ⟨ret_int hf.out, by first | exact hbel.out.1 | exact below_drewN hbel.out.1 _⟩
        · have hq2 : (xe == ev) = false := by simp [h2]
          have hn := Lib.hid (not_next HX.out ht.out (fun h => h2 h.2))
          clear h1 h2 ht
          go_wp2_with fail
          go_roundw
          case rel => exact ⟨j + 1, by omega, by go_num, hn, by first | exact hbel.out | exact ⟨below_drewN hbel.out.1 _, hbel.out.2.1.drewN _, hbel.out.2.2⟩⟩
          case measure => simp [intOf]; omega
      · have hq : (xf == q) = false := by simp [h1]
        have hn := Lib.hid (not_next HX.out ht.out (fun h => h1 h.1))
        clear h1 ht
        go_wp2_with fail
        go_roundw
        case rel => exact ⟨j + 1, by omega, by go_num, hn, by first | exact hbel.out | exact ⟨below_drewN hbel.out.1 _, hbel.out.2.1.drewN _, hbel.out.2.2⟩⟩
        case measure => simp [intOf]; omega
    · obtain rfl : j = k := by omega
      have hf := Lib.hid (show (-1 : Int) = v by rw [HV.out, step_never hk2.out ht.out])
      clear ht
      go_wp2_with fail
      go_ret
      exact ⟨ret_int hf.out, hbel.out.1⟩
end Go.Proofs.Ytcciiikaejjooaa
