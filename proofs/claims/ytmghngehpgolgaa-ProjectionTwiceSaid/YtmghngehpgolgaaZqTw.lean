/- Layer 7: projecting twice, for the law. -/
import Derived.Test.YtmghngehpgolgaaZjEvB
import Derived.Test.YtmghngehpgolgaaZtPair
set_option linter.unusedVariables false
set_option linter.unusedSimpArgs false
set_option linter.unusedSectionVars false
namespace Go.Proofs.Ytmghngehpgolgaa
open Go.RowKit Go.Sort

theorem prT_12 {n : Nat} (h : n ≤ 12) : prT (twos n) ≤ 4096 := by
  have : ∀ n : Fin 13, prT (twos n.val) ≤ 4096 := by decide
  exact this ⟨n, by omega⟩
theorem det_len12 {a : Au} (h : RightW a) (hs : a.st ≤ 12) (onto : List Int) : (fnd (detA a onto)).length ≤ 4096 := by
  have h1 := fnd_len (det_right h onto)
  have h0 := h.st0
  unfold detA at h1 ⊢
  by_cases hz : a.st = 0
  · rw [if_pos hz] at h1 ⊢
    simp at h1
    simp [h1]
  · rw [if_neg hz] at h1 ⊢
    have h2 : (codA (detC a onto)).st = ((prT (twos a.st.toNat)).toNat : Int) := rfl
    rw [h2] at h1
    have h3 := prT_12 (n := a.st.toNat) (by omega)
    omega
theorem kp_two {a : Au} {on pt : List Int} (hp : ∀ x ∈ pt, x ∈ on) : kpR (canA (detA a on)) pt = kpR a pt := by
  unfold kpR
  rw [can_al, det_al]
  exact filter_two hp
theorem gen_zero {a : Au} (h : a.st = 0) (ws : List Int) : genB a ws = false ∧ accB a ws = false := by
  have : genB a ws = false := by unfold genB; simp [h]
  exact ⟨this, by unfold accB; rw [this]; rfl⟩
theorem det_st0 {a : Au} (h : a.st = 0) (on : List Int) : (canA (detA a on)).st = 0 := by
  have h1 : (detA a on).st = 0 := by unfold detA; rw [if_pos h]
  show ((fnd (detA a on)).length : Int) = 0
  rw [fnd_zero h1]; rfl
/-- What sameLanguages wants of the two. -/
theorem tw_same {a : Au} (h : RightW a) {on pt : List Int} (hp : ∀ x ∈ pt, x ∈ on) : (canA (detA (canA (detA a on)) pt)).al = (canA (detA a pt)).al ∧ (0 < (canA (detA (canA (detA a on)) pt)).st ↔ 0 < (canA (detA a pt)).st) ∧
    ∀ ws, (∀ x ∈ ws, x ∈ (canA (detA (canA (detA a on)) pt)).al) → genB (canA (detA (canA (detA a on)) pt)) ws = genB (canA (detA a pt)) ws ∧ accB (canA (detA (canA (detA a on)) pt)) ws = accB (canA (detA a pt)) ws := by
  have e1 : (canA (detA (canA (detA a on)) pt)).al = kpR a pt := by rw [can_al, det_al, kp_two hp]
  have e2 : (canA (detA a pt)).al = kpR a pt := by rw [can_al, det_al]
  have r1 := can_right (det_right h on)
  refine ⟨by rw [e1, e2], ?_, ?_⟩
  · by_cases h0 : a.st = 0
    · rw [det_st0 (det_st0 h0 on), det_st0 h0]
    · have s1 := can_st0 (det_right r1 pt) (det_st (can_st0 (det_right h on) (det_st h0 on)) pt)
      have s2 := can_st0 (det_right h pt) (det_st h0 pt)
      have t1 := (can_right (det_right r1 pt)).st0
      have t2 := (can_right (det_right h pt)).st0
      omega
  · intro ws hw
    rw [e1] at hw
    by_cases h0 : a.st = 0
    · have z1 := gen_zero (det_st0 (det_st0 h0 on) pt) ws
      have z2 := gen_zero (det_st0 h0 pt) ws
      exact ⟨by rw [z1.1, z2.1], by rw [z1.2, z2.2]⟩
    · rw [gen_can (det_right r1 pt), gen_can (det_right h pt), acc_can (det_right r1 pt), acc_can (det_right h pt)]
      exact ⟨twice_gen h h0 hp hw, twice_acc h h0 hp hw⟩
theorem all_ests {a : Au} (h : RightW a) (hc : canA a = a) : canA (detA a a.al) = a ∧ (fnd (detA a a.al)).map (deR a a.al) = (rng a.st.toNat).map fun q => [q] := by
  by_cases h0 : a.st = 0
  · have hd : detA a a.al = a := by
      unfold detA
      rw [if_pos h0, kp_all]
      obtain ⟨al, st, mr, ed⟩ := a
      simp only at h0
      subst h0
      have e1 : mr = [] := List.eq_nil_iff_forall_not_mem.2 fun x hx => by have := h.mrr x hx; simp only at this; omega
      have e2 : ed = [] := List.eq_nil_iff_forall_not_mem.2 fun x hx => by have := h.edr x hx; simp only at this; omega
      rw [e1, e2]
    rw [hd]
    refine ⟨hc, ?_⟩
    rw [fnd_zero h0, h0]; rfl
  · refine ⟨by rw [can_all h h0, hc], ?_⟩
    have e1 : (fnd (detA a a.al)).map (deR a a.al) = (fnd a).map fun q => [q] := ests_all h h0
    have e2 := fnd_can h
    rw [hc] at e2
    have e3 : a.st.toNat = (fnd a).length := by
      have : (canA a).st = ((fnd a).length : Int) := rfl
      rw [hc] at this; omega
    rw [e1, e3, ← e2]
end Go.Proofs.Ytmghngehpgolgaa
