/- Layer 7: a word, its observation, and the estimate to which it leads. -/
import Derived.Test.YtaadhpkpekmfoaaGreatZa6
import Derived.Test.YtaadhpkpekmfoaaGreatZa10
import Derived.Test.YtaadhpkpekmfoaaGreatZa15
set_option linter.unusedVariables false
set_option linter.unusedSimpArgs false
set_option linter.unusedSectionVars false
namespace Go.Proofs.YtaadhpkpekmfoaaGreat
open Go.RowKit Go.Sort

theorem rO_al {a : Au} (h : RightW a) : ∀ (ws : List Int) (q t : Int), rO a q ws = some t → ∀ x ∈ ws, x ∈ a.al
  | [], _, _, _ => by simp
  | x :: r, q, t, hr => by
    rw [rO] at hr
    cases hs : stepO a q x with
    | none => rw [hs] at hr; cases hr
    | some u =>
      rw [hs] at hr
      intro y hy
      rcases List.mem_cons.1 hy with hy | hy
      · rw [hy]; exact (step_alQ h hs).1
      · exact rO_al h r u t hr y hy
theorem rO_of {a : Au} {ws : List Int} {q t : Int} (h : runE a q ws = (t, ws.length)) : rO a q ws = some t := by
  rcases rO_run a ws q with ⟨u, h1, h2⟩ | ⟨_, h2⟩
  · rw [h] at h2; injection h2 with h3 _; rw [h1, h3]
  · rw [h] at h2; exact absurd rfl h2
theorem of_rO {a : Au} {ws : List Int} {q t : Int} (h : rO a q ws = some t) : runE a q ws = (t, ws.length) := by
  rcases rO_run a ws q with ⟨u, h1, h2⟩ | ⟨h1, _⟩
  · rw [h] at h1; injection h1 with h3; rw [h2, h3]
  · rw [h] at h1; cases h1
theorem wd_est {a : Au} (h : RightW a) (h0 : a.st ≠ 0) {on ws : List Int} {t : Int} (hl : (fnd (detA a on)).length ≤ 4096) (hr : runE a 0 ws = (t, ws.length)) : ∃ (j : Nat) (s' : List Int), runR (canA (detA a on)) 0 (ws.filter fun x => decide (x ∈ on)) = ((j : Int), (((ws.filter fun x => decide (x ∈ on)).length : Nat) : Int), 0) ∧ ((fnd (detA a on)).map (deR a on))[j]? = some s' ∧ t ∈ s' ∧ (accB a ws = true → accB (canA (detA a on)) (ws.filter fun x => decide (x ∈ on)) = true) := by
  have hrO := rO_of hr
  have hal := rO_al h ws 0 t hrO
  obtain ⟨s', e1, e2, e3⟩ := est_word h ws 0 t (fsR a on) (fs_cls h on) (zero_fs h h0 on) hrO
  have hk : ∀ x ∈ ws.filter fun x => decide (x ∈ on), x ∈ kpR a on := fun x hx => by
    obtain ⟨h1, h2⟩ := List.mem_filter.1 hx
    exact mem_kpR.2 ⟨hal x h1, by simpa using h2⟩
  obtain ⟨d1, d2⟩ := det_rO h h0 hk
  rw [e1] at d1
  have hd := det_right h on
  have hdn := det_st h0 on
  have hdp : 0 < (detA a on).st := by have := hd.st0; omega
  obtain ⟨z1, z2⟩ := zero_fnd hd hdp
  have hrun := of_rO d1
  obtain ⟨c1, c2⟩ := run_can hd (ws.filter fun x => decide (x ∈ on)) 0 z1
  rw [hrun] at c1 c2
  rw [z2] at c2
  have hin : inB (canA (detA a on)).al (ws.filter fun x => decide (x ∈ on)) = true := by
    unfold inB
    rw [List.all_eq_true]
    intro x hx
    rw [can_al, det_al]
    exact decide_eq_true (hk x hx)
  have hcR : chkE (canA (detA a on)) = 0 := Right.chk { can_right hd with st1 := by show ((fnd (detA a on)).length : Int) ≤ 4096; omega }
  have hpl := List.length_pos_of_mem z1
  have hst : inSt (canA (detA a on)).st 0 = true := by
    have : (canA (detA a on)).st = ((fnd (detA a on)).length : Int) := rfl
    rw [this]; simp [inSt]; exact hpl
  refine ⟨(fnd (detA a on)).idxOf ((detC a on).en s'), s', ?_, ?_, e2, ?_⟩
  · rw [runR_in hcR hst hin]
    have c3 : runE (canA (detA a on)) 0 (ws.filter fun x => decide (x ∈ on)) = (((fnd (detA a on)).idxOf ((detC a on).en s') : Int), (ws.filter fun x => decide (x ∈ on)).length) := c2
    rw [c3]
  · have hix : (fnd (detA a on)).idxOf ((detC a on).en s') < (fnd (detA a on)).length := List.idxOf_lt_length_of_mem c1
    rw [List.getElem?_map, List.getElem?_eq_getElem hix, List.getElem_idxOf]
    show some (deR a on ((detC a on).en s')) = some s'
    unfold deR
    rw [(det_ok h on).den s' (d2 s' e1)]
  · intro ha
    rw [acc_can hd]
    exact (det_acc h h0 hk).2 ⟨ws, hal, rfl, ha⟩
end Go.Proofs.YtaadhpkpekmfoaaGreat
