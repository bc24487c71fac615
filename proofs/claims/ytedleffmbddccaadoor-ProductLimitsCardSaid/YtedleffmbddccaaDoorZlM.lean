/- Layer 6, mathematics: products whose canonical form is known. -/
import Derived.Test.YtedleffmbddccaaDoorZlF
import Derived.Test.YtedleffmbddccaaDoorZa9
set_option linter.unusedVariables false
set_option linter.unusedSimpArgs false
set_option linter.unusedSectionVars false
namespace Go.Proofs.YtedleffmbddccaaDoor
open Go.RowKit Go.Sort

theorem step_al {a : Au} (h : RightW a) {q e t : Int} (hs : stepO a q e = some t) : e ∈ a.al := by
  unfold stepO at hs
  cases hx : edgeO a.ed q e with
  | none => rw [hx] at hs; cases hs
  | some x =>
    obtain ⟨hm, _, he⟩ := (edgeO_some h.edo).1 hx
    rw [← he]; exact (h.edr x hm).2.2
theorem fnd_zero_mem {a : Au} (h : RightW a) (h0 : 0 < a.st) : (0 : Int) ∈ fnd a := by
  have := Fd_fnd h h0 0
  exact this.subset (by simp [Fd])
theorem fnd_step {a : Au} (h : RightW a) {q e t : Int} (hq : q ∈ fnd a) (hs : stepO a q e = some t) : t ∈ fnd a := by
  obtain ⟨i, hi, rfl⟩ := List.getElem_of_mem hq
  unfold stepO at hs
  cases hx : edgeO a.ed (fnd a)[i] e with
  | none => rw [hx] at hs; cases hs
  | some x =>
    rw [hx] at hs
    obtain ⟨hm, hf, _⟩ := (edgeO_some h.edo).1 hx
    injection hs with hs
    rw [← hs]
    exact fnd_closed h hi (mem_succ.2 ⟨hm, by rw [hf, List.getD, List.getElem?_eq_getElem hi]; rfl⟩)
/-- A product whose found tuples are named by an automaton's found states. -/
theorem can_prod {b : Au} {l : List Au} (hb : RightW b) (hl : ∀ a ∈ l, RightW a) (hp : posT l = true) (hp' : 0 < b.st) (hal : alT l = b.al) (g : Int → List Int) (h0 : g 0 = dcT (stsT l) 0)
    (hin : ∀ q ∈ fnd b, InT (stsT l) (g q)) (hinj : ∀ x y, x ∈ fnd b → y ∈ fnd b → g x = g y → x = y)
    (hst : ∀ q ∈ fnd b, ∀ e ∈ b.al, stpT l (g q) e = (stepO b q e).map g) (hmk : ∀ q ∈ fnd b, mkT l (g q) = decide (q ∈ b.mr)) : canA (prodA l) = canA b := by
  have hpos := posT_iff.1 hp
  refine can_iso (b := b) (b' := prodA l) (f := fun q => cdT (stsT l) (g q)) ⟨hb, prod_right hl, hal, ?_, hp', ?_, ?_, ?_, ?_⟩
  · show cdT (stsT l) (g 0) = 0
    rw [h0, cd_dc hpos (Int.le_refl _) (prT_pos hpos)]
  · rw [prod_st hp]; exact prT_pos hpos
  · intro x y hx hy e
    exact hinj x y hx hy (cd_inj (hin x hx) (hin y hy) e)
  · intro q hq e
    by_cases he : e ∈ b.al
    · rw [prod_step hl hp (hin q hq) (by rw [hal]; exact he), hst q hq e he]
      cases stepO b q e <;> rfl
    · have h1 : stepO b q e = none := by
        cases hs : stepO b q e with
        | none => rfl
        | some t => exact absurd (step_al hb hs) he
      have h2 : stepO (prodA l) (cdT (stsT l) (g q)) e = none := by
        cases hs : stepO (prodA l) (cdT (stsT l) (g q)) e with
        | none => rfl
        | some t => exact absurd (hal ▸ step_al (prod_right hl) hs) he
      rw [h1, h2]; rfl
  · intro q hq
    rw [prod_mark hp (hin q hq), hmk q hq, decide_eq_true_eq]
theorem un_self {a : List Int} (h : a.Pairwise (· < ·)) : un a a = a :=
  sorted_ext (r := fun x y : Int => x < y) (fun x => by omega) (fun x y z h1 h2 => by omega) _ _ (un_sorted a a h h) h fun x => by rw [mem_un]; simp
theorem un_nil' (a : List Int) : un [] a = a := by rw [un]
theorem un_nilr (a : List Int) : un a [] = a := by cases a <;> rw [un]
theorem alT_two (a b : Au) : alT [a, b] = un a.al b.al := by unfold alT; simp [un_nil']
theorem alT_three (a b c : Au) : alT [a, b, c] = un (un a.al b.al) c.al := by unfold alT; simp [un_nil']
theorem pos_two {a b : Au} (ha : 0 < a.st) (hb : 0 < b.st) : posT [a, b] = true := by simp [posT, ha, hb]
/-- With itself. -/
theorem can_self {a : Au} (h : RightW a) (h0 : 0 < a.st) : canA (prodA [a, a]) = canA a := by
  have hl : ∀ x ∈ [a, a], RightW x := by intro x hx; simp at hx; subst hx; exact h
  refine can_prod h hl (pos_two h0 h0) h0 (by rw [alT_two, un_self h.alo]) (fun q => [q, q]) (by simp [stsT, dcT]) (fun q hq => ?_) (fun x y _ _ e => by simpa using e) (fun q hq e he => ?_) (fun q hq => ?_)
  · have := fnd_range h q hq; exact ⟨this, this, trivial⟩
  · simp only [stpT, if_pos he]
    cases stepO a q e <;> rfl
  · simp [mkT]
def oneA : Au := ⟨[], 1, [0], []⟩
theorem one_right : RightW oneA := { alr := by simp [oneA], alo := by simp [oneA], st0 := by simp [oneA], mrr := by simp [oneA], mro := by simp [oneA], edr := by simp [oneA], edo := by simp [oneA] }
/-- With the product of nothing. -/
theorem can_one {a : Au} (h : RightW a) (h0 : 0 < a.st) : canA (prodA [oneA, a]) = canA a := by
  have hl : ∀ x ∈ [oneA, a], RightW x := by
    intro x hx
    simp at hx
    rcases hx with rfl | rfl
    · exact one_right
    · exact h
  refine can_prod h hl (pos_two (by simp [oneA]) h0) h0 (by rw [alT_two]; exact un_nil' _) (fun q => [0, q]) (by simp [stsT, dcT, oneA]) (fun q hq => ?_) (fun x y _ _ e => by simpa using e) (fun q hq e he => ?_) (fun q hq => ?_)
  · have := fnd_range h q hq; exact ⟨⟨by omega, by simp [oneA]⟩, this, trivial⟩
  · simp only [stpT, if_pos he, show e ∉ oneA.al from by simp [oneA], if_false]
    cases stepO a q e <;> rfl
  · simp [mkT, oneA]
theorem pos_false2 {a b : Au} (ha : ¬ 0 < a.st ∨ ¬ 0 < b.st) : posT [a, b] = false := by
  simp only [posT, List.all_cons, List.all_nil, Bool.and_true]
  rcases ha with ha | ha
  · rw [decide_eq_false ha]; rfl
  · rw [decide_eq_false (p := 0 < b.st) ha, Bool.and_false]
theorem can_self' {a : Au} (h : RightW a) : canA (prodA [a, a]) = canA a := by
  by_cases h0 : 0 < a.st
  · exact can_self h h0
  · have hs := h.st0
    rw [can_zero (prod_st0 (pos_false2 (.inl h0))), can_zero (show a.st = 0 by omega)]
    show (⟨alT [a, a], 0, [], []⟩ : Au) = _
    rw [alT_two, un_self h.alo]
theorem can_one' {a : Au} (h : RightW a) : canA (prodA [oneA, a]) = canA a := by
  by_cases h0 : 0 < a.st
  · exact can_one h h0
  · have hs := h.st0
    rw [can_zero (prod_st0 (pos_false2 (.inr h0))), can_zero (show a.st = 0 by omega)]
    show (⟨alT [oneA, a], 0, [], []⟩ : Au) = _
    rw [alT_two]; exact congrArg (fun z => (⟨z, 0, [], []⟩ : Au)) (un_nil' _)
def emp7 : Au := ⟨[7], 0, [], []⟩
theorem emp7_right : RightW emp7 := { alr := by simp [emp7], alo := by simp [emp7], st0 := by simp [emp7], mrr := by simp [emp7], mro := by simp [emp7], edr := by simp [emp7], edo := by simp [emp7] }
theorem un_len7 {a : List Int} (h : ∀ x ∈ a, x < 7) : ∀ n, a.length = n → (un a [7]).length = n + 1 := by
  induction a with
  | nil => intro n hn; subst hn; rw [un_nil']; rfl
  | cons x a ih =>
    intro n hn
    subst hn
    have hx := h x (List.mem_cons_self ..)
    rw [un, if_pos hx, List.length_cons, ih (fun y hy => h y (List.mem_cons_of_mem _ hy)) _ rfl, List.length_cons]
end Go.Proofs.YtedleffmbddccaaDoor
