/- Layer 6: what a product generates and marks, of its parts' words. -/
import Derived.Test.YtedleffmbddccaaDoorZlP
set_option linter.unusedVariables false
set_option linter.unusedSimpArgs false
set_option linter.unusedSectionVars false
namespace Go.Proofs.YtedleffmbddccaaDoor
open Go.RowKit Go.Sort

/-- The state to which a whole word leads. -/
def rO (a : Au) : Int → List Int → Option Int
  | q, [] => some q
  | q, x :: r => match stepO a q x with | none => none | some t => rO a t r
theorem rO_run (a : Au) : ∀ (ws : List Int) (q : Int), (∃ t, rO a q ws = some t ∧ runE a q ws = (t, ws.length)) ∨ (rO a q ws = none ∧ (runE a q ws).2 ≠ ws.length)
  | [], q => .inl ⟨q, rfl, runE_nil a q⟩
  | x :: r, q => by
    rw [rO]
    cases h : stepO a q x with
    | none => exact .inr ⟨rfl, by rw [runE_stop h]; simp⟩
    | some t =>
      rw [runE_go h]
      rcases rO_run a r t with ⟨u, h1, h2⟩ | ⟨h1, h2⟩
      · exact .inl ⟨u, h1, by rw [h2]; rfl⟩
      · exact .inr ⟨h1, by simp; exact h2⟩
theorem gen_rO {a : Au} {ws : List Int} (h : a.st ≠ 0) : genB a ws = (rO a 0 ws).isSome := by
  unfold genB
  rw [decide_eq_true h, Bool.true_and]
  rcases rO_run a ws 0 with ⟨t, h1, h2⟩ | ⟨h1, h2⟩
  · rw [h1, h2]; simp
  · rw [h1, decide_eq_false h2]; rfl
/-- A whole word leads to a marked state. -/
def mO (a : Au) (o : Option Int) : Bool := match o with | some t => decide (t ∈ a.mr) | none => false
theorem acc_rO {a : Au} {ws : List Int} (h : a.st ≠ 0) : accB a ws = mO a (rO a 0 ws) := by
  unfold accB
  rw [gen_rO h]
  rcases rO_run a ws 0 with ⟨t, h1, h2⟩ | ⟨h1, h2⟩
  · rw [h1, h2]; simp [mO]
  · rw [h1]; rfl
/-- The part of a word that an automaton knows. -/
abbrev pjW (a : Au) (ws : List Int) : List Int := ws.filter fun x => decide (x ∈ a.al)
def rT (l : List Au) : List Int → List Int → Option (List Int)
  | qs, [] => some qs
  | qs, x :: r => match stpT l qs x with | none => none | some t => rT l t r
theorem rT_nil : ∀ (ws : List Int), rT [] [] ws = some []
  | [] => rfl
  | x :: r => by have := rT_nil r; simp [rT, stpT, this]
def bothO (o : Option Int) (p : Option (List Int)) : Option (List Int) := match o, p with | some t, some ts => some (t :: ts) | _, _ => none
theorem rT_cons (a : Au) (l : List Au) : ∀ (ws : List Int) (q : Int) (qs : List Int), rT (a :: l) (q :: qs) ws = bothO (rO a q (pjW a ws)) (rT l qs ws)
  | [], q, qs => rfl
  | x :: r, q, qs => by
    have hf : pjW a (x :: r) = if x ∈ a.al then x :: pjW a r else pjW a r := by
      by_cases hx : x ∈ a.al <;> simp [pjW, hx]
    rw [rT, rT, stpT, hf]
    by_cases hx : x ∈ a.al
    · rw [if_pos hx, if_pos hx, rO]
      cases h1 : stepO a q x with
      | none => cases h2 : stpT l qs x <;> rfl
      | some t =>
        cases h2 : stpT l qs x with
        | none => cases h3 : rO a t (pjW a r) <;> simp [bothO, h3]
        | some ts => exact rT_cons a l r t ts
    · rw [if_neg hx, if_neg hx]
      cases h2 : stpT l qs x with
      | none => cases h3 : rO a q (pjW a r) <;> simp [bothO]
      | some ts => exact rT_cons a l r q ts
abbrev zrT (l : List Au) : List Int := l.map fun _ => 0
theorem rT_gen : ∀ (l : List Au) (ws : List Int), (rT l (zrT l) ws).isSome = l.all fun a => (rO a 0 (pjW a ws)).isSome
  | [], ws => by show (rT [] [] ws).isSome = _; rw [rT_nil]; rfl
  | a :: l, ws => by
    show (rT (a :: l) (0 :: zrT l) ws).isSome = _
    rw [rT_cons, List.all_cons, ← rT_gen l ws]
    cases rO a 0 (pjW a ws) <;> cases rT l (zrT l) ws <;> rfl
def mT (l : List Au) (o : Option (List Int)) : Bool := match o with | some t => mkT l t | none => false
theorem rT_acc : ∀ (l : List Au) (ws : List Int), mT l (rT l (zrT l) ws) = l.all fun a => mO a (rO a 0 (pjW a ws))
  | [], ws => by show mT [] (rT [] [] ws) = _; rw [rT_nil]; rfl
  | a :: l, ws => by
    show mT (a :: l) (rT (a :: l) (0 :: zrT l) ws) = _
    rw [rT_cons, List.all_cons, ← rT_acc l ws]
    cases rO a 0 (pjW a ws) <;> cases rT l (zrT l) ws <;> simp [bothO, mT, mO, mkT]
theorem cd_zr : ∀ (l : List Au), cdT (stsT l) (zrT l) = 0
  | [] => rfl
  | a :: l => by
    show cdT (a.st :: stsT l) (0 :: zrT l) = 0
    rw [cdT, cd_zr l]; simp
theorem in_zr : ∀ {l : List Au}, posT l = true → InT (stsT l) (zrT l)
  | [], _ => trivial
  | a :: l, h => by
    have h1 : 0 < a.st ∧ posT l = true := by simp [posT] at h ⊢; exact h
    exact ⟨⟨Int.le_refl _, h1.1⟩, in_zr h1.2⟩
theorem prod_rO {l : List Au} (h : ∀ a ∈ l, RightW a) (hp : posT l = true) : ∀ (ws : List Int) (qs : List Int), InT (stsT l) qs → (∀ x ∈ ws, x ∈ alT l) → rO (prodA l) (cdT (stsT l) qs) ws = (rT l qs ws).map (cdT (stsT l)) ∧ ∀ t, rT l qs ws = some t → InT (stsT l) t
  | [], qs, hq, _ => ⟨rfl, fun t ht => by simp [rT] at ht; subst ht; exact hq⟩
  | x :: r, qs, hq, hx => by
    have hs := prod_step h hp hq (hx x (List.mem_cons_self ..))
    rw [rO, rT, hs]
    cases e : stpT l qs x with
    | none => exact ⟨rfl, fun t ht => by simp at ht⟩
    | some t => exact prod_rO h hp r t (stp_in h hq e) fun y hy => hx y (List.mem_cons_of_mem _ hy)
theorem st_pos_all {l : List Au} (hp : posT l = true) : ∀ a ∈ l, a.st ≠ 0 := fun a ha => by
  have := List.all_eq_true.1 hp a ha; simp at this; omega
theorem all_congr_mem {l : List Au} {f g : Au → Bool} (h : ∀ a ∈ l, f a = g a) : l.all f = l.all g := by
  induction l with
  | nil => rfl
  | cons a l ih => rw [List.all_cons, List.all_cons, h a (List.mem_cons_self ..), ih fun b hb => h b (List.mem_cons_of_mem _ hb)]
theorem none_pos {l : List Au} (h : ∀ a ∈ l, RightW a) (hp : posT l = false) : ∃ a ∈ l, a.st = 0 := by
  simp only [posT, List.all_eq_false] at hp
  obtain ⟨a, ha, hn⟩ := hp
  have := (h a ha).st0
  exact ⟨a, ha, by simp at hn; omega⟩
theorem gen_prod {l : List Au} (h : ∀ a ∈ l, RightW a) {ws : List Int} (hw : ∀ x ∈ ws, x ∈ alT l) : genB (prodA l) ws = l.all fun a => genB a (pjW a ws) := by
  cases hp : posT l with
  | false =>
    obtain ⟨a, ha, h0⟩ := none_pos h hp
    have h1 : genB (prodA l) ws = false := by simp [genB, prod_st0 hp]
    have h2 : (l.all fun a => genB a (pjW a ws)) = false := List.all_eq_false.2 ⟨a, ha, by simp [genB, h0]⟩
    rw [h1, h2]
  | true =>
    have hst : (prodA l).st ≠ 0 := by rw [prod_st hp]; have := prT_pos (posT_iff.1 hp); omega
    have hr := (prod_rO h hp ws (zrT l) (in_zr hp) hw).1
    rw [cd_zr] at hr
    rw [gen_rO hst, hr, Option.isSome_map, rT_gen]
    exact all_congr_mem fun a ha => (gen_rO (st_pos_all hp a ha)).symm
theorem acc_prod {l : List Au} (h : ∀ a ∈ l, RightW a) {ws : List Int} (hw : ∀ x ∈ ws, x ∈ alT l) : accB (prodA l) ws = l.all fun a => accB a (pjW a ws) := by
  cases hp : posT l with
  | false =>
    obtain ⟨a, ha, h0⟩ := none_pos h hp
    have h1 : accB (prodA l) ws = false := by simp [accB, genB, prod_st0 hp]
    have h2 : (l.all fun a => accB a (pjW a ws)) = false := List.all_eq_false.2 ⟨a, ha, by simp [accB, genB, h0]⟩
    rw [h1, h2]
  | true =>
    have hst : (prodA l).st ≠ 0 := by rw [prod_st hp]; have := prT_pos (posT_iff.1 hp); omega
    obtain ⟨hr, hin⟩ := prod_rO h hp ws (zrT l) (in_zr hp) hw
    rw [cd_zr] at hr
    have hm : mO (prodA l) ((rT l (zrT l) ws).map (cdT (stsT l))) = mT l (rT l (zrT l) ws) := by
      cases e : rT l (zrT l) ws with
      | none => rfl
      | some t =>
        have := prod_mark hp (hin t e)
        show decide (cdT (stsT l) t ∈ (prodA l).mr) = mkT l t
        cases hk : mkT l t with
        | true => exact decide_eq_true (this.2 hk)
        | false => exact decide_eq_false fun hc => by have := this.1 hc; rw [hk] at this; cases this
    rw [acc_rO hst, hr, hm, rT_acc]
    exact all_congr_mem fun a ha => (acc_rO (st_pos_all hp a ha)).symm
theorem gen_syn {l : List Au} (h : ∀ a ∈ l, RightW a) {ws : List Int} (hw : ∀ x ∈ ws, x ∈ alT l) : genB (canA (prodA l)) ws = l.all fun a => genB a (pjW a ws) := by
  rw [gen_can (prod_right h), gen_prod h hw]
theorem acc_syn {l : List Au} (h : ∀ a ∈ l, RightW a) {ws : List Int} (hw : ∀ x ∈ ws, x ∈ alT l) : accB (canA (prodA l)) ws = l.all fun a => accB a (pjW a ws) := by
  rw [acc_can (prod_right h), acc_prod h hw]
end Go.Proofs.YtedleffmbddccaaDoor
