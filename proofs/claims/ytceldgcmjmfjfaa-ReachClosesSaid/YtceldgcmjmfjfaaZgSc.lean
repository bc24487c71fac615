/- Layer 4: Closed and Interior say what the reference says, as mathematics. -/
import Derived.Test.YtceldgcmjmfjfaaZgRI
set_option linter.unusedVariables false
set_option linter.unusedSimpArgs false
set_option linter.unusedSectionVars false
namespace Go.Proofs.Ytceldgcmjmfjfaa
open Go.RowKit Go.Sort

theorem clo_eq {S : Nat} {a : Au} {set ev : List Int} (hr : Right a) (hS : a.st = (S : Int)) (hset : ∀ x ∈ set, 0 ≤ x ∧ x < (S : Int)) : cloP a set ev = cloR4 a.ed set ev := by
  unfold cloP cloR4
  rw [List.not_any_eq_all_not]
  rw [Bool.eq_iff_iff, List.all_eq_true, List.all_eq_true]
  refine forall_congr' fun x => forall_congr' fun hx => ?_
  have he := hr.edr x hx
  rw [hS] at he
  have e1 : inF set x.f.toNat = decide (x.f ∈ set) := by unfold inF; rw [show ((x.f.toNat : Nat) : Int) = x.f by omega]
  have e2 : inF set x.t.toNat = decide (x.t ∈ set) := by unfold inF; rw [show ((x.t.toNat : Nat) : Int) = x.t by omega]
  have : clE set ev x = ouE4 set ev x := by
    unfold clE ouE4 byF
    rw [e1, e2, Bool.and_comm (decide (x.e ∈ ev))]
  rw [this]
/-- Lost: a state outside can be reached. -/
theorem in_eq {S : Nat} {a : Au} {set ev out : List Int} (hr : Right a) (hS : a.st = (S : Int)) (hset : ∀ x ∈ set, 0 ≤ x ∧ x < (S : Int)) (h : InI S a.ed set ev set out) : intR a set ev = out := by
  have he := edOk_of hr hS
  have hef : EdOk S (a.ed.filter (byF ev)) := fun x hx => he x (List.mem_filter.1 hx).1
  unfold intR intS
  rw [hS, show ((S : Int)).toNat = S by omega]
  have hout : ∀ q ∈ rngF S (fun q => !inF set q), 0 ≤ q ∧ q < (S : Int) := fun q hq => by
    obtain ⟨j, hj, _, rfl⟩ := mem_rngF.1 hq; omega
  -- reached backward from outside iff outside is reached forward
  have key : ∀ q : Int, 0 ≤ q ∧ q < (S : Int) → (Rb noF (trnE S (a.ed.filter (byF ev))) (rngF S fun q => !inF set q) q ↔ ∃ y, y ∉ set ∧ Cl a.ed Ed.f Ed.t (okF (rngF S fun _ => true) ev) (fun p => p ∈ [q] ∧ p ∈ rngF S fun _ => true) y) := by
    intro q hq
    have hall : ∀ z : Int, 0 ≤ z ∧ z < (S : Int) → z ∈ rngF S fun _ => true := fun z hz => mem_rngF.2 ⟨z.toNat, by omega, rfl, by omega⟩
    have hok : ∀ x ∈ a.ed, (okF (rngF S fun _ => true) ev x = true ↔ byF ev x = true) := fun x hx => by
      unfold okF byF
      rw [decide_eq_true (hall x.t (he x hx).2), Bool.true_and]
    constructor
    · intro hb
      have : ∀ q, Rb noF (trnE S (a.ed.filter (byF ev))) (rngF S fun q => !inF set q) q → (0 ≤ q ∧ q < (S : Int)) ∧ ∃ y, y ∉ set ∧ Cl a.ed Ed.f Ed.t (okF (rngF S fun _ => true) ev) (fun p => p ∈ [q] ∧ p ∈ rngF S fun _ => true) y := by
        intro q hb
        induction hb with
        | @base q h1 _ =>
          have hq := hout q h1
          refine ⟨hq, q, ?_, .base ⟨List.mem_singleton.2 rfl, hall q hq⟩⟩
          obtain ⟨j, hj, hn, rfl⟩ := mem_rngF.1 h1
          unfold inF at hn
          simpa using hn
        | @step x _ hx _ ih =>
          obtain ⟨y, hy, _, rfl⟩ := mem_trnE.1 hx
          obtain ⟨hy1, hy2⟩ := List.mem_filter.1 hy
          obtain ⟨_, z, hz, hc⟩ := ih
          have hr1 := he y hy1
          refine ⟨hr1.1, z, hz, ?_⟩
          -- prepend the edge y
          have hc' : ∀ z, Cl a.ed Ed.f Ed.t (okF (rngF S fun _ => true) ev) (fun p => p ∈ [(rvE y).f] ∧ p ∈ rngF S fun _ => true) z → Cl a.ed Ed.f Ed.t (okF (rngF S fun _ => true) ev) (fun p => p ∈ [(rvE y).t] ∧ p ∈ rngF S fun _ => true) z := by
            intro z hc
            induction hc with
            | base h1 =>
              rw [List.mem_singleton.1 h1.1]
              exact Cl.step (x := y) hy1 (.base ⟨List.mem_singleton.2 rfl, hall _ hr1.1⟩) ((hok y hy1).2 hy2)
            | step h1 _ h3 ih => exact .step h1 ih h3
          exact hc' z hc
      exact (this q hb).2
    · rintro ⟨y, hy, hc⟩
      have h2 : ∀ y, Cl a.ed Ed.f Ed.t (okF (rngF S fun _ => true) ev) (fun p => p ∈ [q] ∧ p ∈ rngF S fun _ => true) y → Rb noF (trnE S (a.ed.filter (byF ev))) (rngF S fun q => !inF set q) y → Rb noF (trnE S (a.ed.filter (byF ev))) (rngF S fun q => !inF set q) q := by
        intro y hc
        induction hc with
        | base h1 => intro hb; rw [List.mem_singleton.1 h1.1] at hb; exact hb
        | @step x hx _ h3 ih =>
          intro hb
          refine ih ?_
          have hm : rvE x ∈ trnE S (a.ed.filter (byF ev)) := mem_trnE.2 ⟨x, List.mem_filter.2 ⟨hx, (hok x hx).1 h3⟩, (he x hx).1, rfl⟩
          exact Rb.step (x := rvE x) hb hm rfl
      refine h2 y hc ?_
      have hyr : 0 ≤ y ∧ y < (S : Int) := by
        cases hc with
        | base h1 => rw [List.mem_singleton.1 h1.1]; exact hq
        | @step x hx _ _ => exact (he x hx).2
      refine .base (mem_rngF.2 ⟨y.toNat, by omega, ?_, by omega⟩) rfl
      unfold inF
      rw [show ((y.toNat : Nat) : Int) = y by omega]
      simpa using hy
  refine lt_ext (rngF_up _ _) h.up fun x => ?_
  rw [h.mem, mem_rngF]
  constructor
  · rintro ⟨q, hq, hs, rfl⟩
    have hs' : ¬ (q : Int) ∈ sts (spV noF S (trnE S (a.ed.filter (byF ev))) (rngF S fun q => !inF set q)) := by
      unfold seenF at hs
      rw [show noF q = false from rfl, Bool.false_or] at hs
      simpa using hs
    rw [spV_mem (trnE_ok hef) hout] at hs'
    rw [key q (by omega)] at hs'
    have hst : stI S a.ed set ev (q : Int) := fun y hy => Classical.byContradiction fun hn => hs' ⟨y, hn, hy⟩
    exact ⟨hst _ (.base ⟨List.mem_singleton.2 rfl, mem_rngF.2 ⟨q, hq, rfl, rfl⟩⟩), hst⟩
  · rintro ⟨hx, hst⟩
    have hxr := hset x hx
    refine ⟨x.toNat, by omega, ?_, by omega⟩
    unfold seenF
    rw [show noF x.toNat = false from rfl, Bool.false_or, show ((x.toNat : Nat) : Int) = x by omega]
    have : ¬ x ∈ sts (spV noF S (trnE S (a.ed.filter (byF ev))) (rngF S fun q => !inF set q)) := by
      rw [spV_mem (trnE_ok hef) hout, key x hxr]
      rintro ⟨y, hy, hc⟩
      exact hy (hst y hc)
    simpa using this
/-- The interior is closed. -/
theorem in_closed {S : Nat} {a : Au} {set ev out : List Int} (hr : Right a) (hS : a.st = (S : Int)) (h : InI S a.ed set ev set out) : cloR4 a.ed out ev = true := by
  have he := edOk_of hr hS
  unfold cloR4
  rw [List.all_eq_true]
  intro x hx
  unfold ouE4
  by_cases h1 : x.f ∈ out
  · by_cases h2 : x.e ∈ ev
    · have h3 : x.t ∈ out := by
        obtain ⟨_, hst⟩ := (h.mem x.f).1 h1
        have hall : ∀ z : Int, 0 ≤ z ∧ z < (S : Int) → z ∈ rngF S fun _ => true := fun z hz => mem_rngF.2 ⟨z.toNat, by omega, rfl, by omega⟩
        have hok : okF (rngF S fun _ => true) ev x = true := by
          unfold okF; rw [decide_eq_true (hall _ (he x hx).2), decide_eq_true h2]; rfl
        have hstep : Cl a.ed Ed.f Ed.t (okF (rngF S fun _ => true) ev) (fun p => p ∈ [x.f] ∧ p ∈ rngF S fun _ => true) x.t := Cl.step hx (.base ⟨List.mem_singleton.2 rfl, hall _ (he x hx).1⟩) hok
        refine (h.mem x.t).2 ⟨hst _ hstep, fun y hy => hst y ?_⟩
        induction hy with
        | base h4 => rw [List.mem_singleton.1 h4.1]; exact hstep
        | step h4 _ h5 ih => exact .step h4 ih h5
      simp [h3]
    · simp [h2]
  · simp [h1]
end Go.Proofs.Ytceldgcmjmfjfaa
