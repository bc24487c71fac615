/- The math of merge: what is taken so far stands in front; the answer's projections; when there is one. -/
import Derived.Test.YtdccmebkoibkhaaWmerge
namespace Go.Proofs.Ytdccmebkoibkhaa
open Go.RowKit

theorem mg_acc (cm : List Int) : ∀ (n : Nat) (acc a b : List Int), a.length + b.length ≤ n → mg cm acc a b = if (mg cm [] a b).2 = true then (acc ++ (mg cm [] a b).1, true) else ([], false) := by
  intro n
  induction n with
  | zero =>
    intro acc a b h
    obtain rfl : a = [] := List.eq_nil_of_length_eq_zero (by omega)
    obtain rfl : b = [] := List.eq_nil_of_length_eq_zero (by omega)
    simp [mg]
  | succ n ih =>
    intro acc a b h
    have one : ∀ (z : Int) (p q : List Int), p.length + q.length ≤ n → mg cm (acc ++ [z]) p q = if (mg cm ([] ++ [z]) p q).2 = true then (acc ++ (mg cm ([] ++ [z]) p q).1, true) else ([], false) := by
      intro z p q hpq
      rw [ih (acc ++ [z]) p q hpq, ih ([] ++ [z]) p q hpq]
      by_cases hh : (mg cm [] p q).2 = true
      · simp [hh]
      · simp [hh]
    match a, b with
    | [], [] => simp [mg]
    | x :: a, [] =>
      rw [mg, mg]
      by_cases hx : x ∈ cm
      · simp [hx]
      · rw [if_neg hx, if_neg hx]; exact one x a [] (by simp at h ⊢; omega)
    | [], y :: b =>
      rw [mg, mg]
      by_cases hx : y ∈ cm
      · simp [hx]
      · rw [if_neg hx, if_neg hx]; exact one y [] b (by simp at h ⊢; omega)
    | x :: a, y :: b =>
      rw [mg, mg]
      simp only [List.length_cons] at h
      by_cases h1 : x ∉ cm ∧ (y ∈ cm ∨ x < y)
      · rw [if_pos h1, if_pos h1]; exact one x a (y :: b) (by simp; omega)
      · rw [if_neg h1, if_neg h1]
        by_cases h2 : y ∉ cm
        · rw [if_pos h2, if_pos h2]; exact one y (x :: a) b (by simp; omega)
        · rw [if_neg h2, if_neg h2]
          by_cases h3 : x = y
          · rw [if_pos h3, if_pos h3]; exact one x a b (by omega)
          · rw [if_neg h3, if_neg h3]; simp
/-- One step: the event z in front of the rest's answer. -/
def cons1 (z : Int) (R : List Int × Bool) : List Int × Bool := if R.2 = true then (z :: R.1, true) else ([], false)
theorem mg_one (cm : List Int) (z : Int) (a b : List Int) : mg cm ([] ++ [z]) a b = cons1 z (mg cm [] a b) := by
  rw [mg_acc cm _ ([] ++ [z]) a b (Nat.le_refl _)]; rfl

/-- The two words lie over their sets. -/
structure Over (f s a b : List Int) : Prop where
  a : ∀ x ∈ a, x ∈ f
  b : ∀ y ∈ b, y ∈ s
def cmn (f s : List Int) : List Int := f.filter fun x => decide (x ∈ s)
theorem mem_cmn {f s : List Int} {x : Int} : x ∈ cmn f s ↔ x ∈ f ∧ x ∈ s := by simp [cmn, List.mem_filter]

theorem mg_end (cm : List Int) : mg cm [] [] [] = ([], true) := by simp [mg]
theorem mg_l0 {f s : List Int} {x : Int} {a : List Int} (hx : x ∈ f) (h : x ∈ s) : mg (cmn f s) [] (x :: a) [] = ([], false) := by
  rw [mg, if_pos (mem_cmn.2 ⟨hx, h⟩)]
theorem mg_l1 {f s : List Int} {x : Int} {a : List Int} (h : x ∉ s) : mg (cmn f s) [] (x :: a) [] = cons1 x (mg (cmn f s) [] a []) := by
  rw [mg, if_neg (fun e => h (mem_cmn.1 e).2)]; exact mg_one _ _ _ _
theorem mg_r0 {f s : List Int} {y : Int} {b : List Int} (hy : y ∈ s) (h : y ∈ f) : mg (cmn f s) [] [] (y :: b) = ([], false) := by
  rw [mg, if_pos (mem_cmn.2 ⟨h, hy⟩)]
theorem mg_r1 {f s : List Int} {y : Int} {b : List Int} (h : y ∉ f) : mg (cmn f s) [] [] (y :: b) = cons1 y (mg (cmn f s) [] [] b) := by
  rw [mg, if_neg (fun e => h (mem_cmn.1 e).1)]; exact mg_one _ _ _ _
theorem mg_a {f s : List Int} {x y : Int} {a b : List Int} (h : x ∉ s) (h2 : y ∈ cmn f s ∨ x < y) : mg (cmn f s) [] (x :: a) (y :: b) = cons1 x (mg (cmn f s) [] a (y :: b)) := by
  rw [mg, if_pos ⟨fun e => h (mem_cmn.1 e).2, h2⟩]; exact mg_one _ _ _ _
theorem mg_b {f s : List Int} {x y : Int} {a b : List Int} (h : y ∉ f) (h2 : x ∈ cmn f s ∨ y ≤ x) : mg (cmn f s) [] (x :: a) (y :: b) = cons1 y (mg (cmn f s) [] (x :: a) b) := by
  have hy : y ∉ cmn f s := fun e => h (mem_cmn.1 e).1
  have hn : ¬ (x ∉ cmn f s ∧ (y ∈ cmn f s ∨ x < y)) := by
    rintro ⟨e1, e2⟩
    rcases e2 with e2 | e2
    · exact hy e2
    · rcases h2 with h2 | h2
      · exact e1 h2
      · omega
  rw [mg, if_neg hn, if_pos hy]
  exact mg_one _ _ _ _
theorem mg_c {f s : List Int} {x : Int} {a b : List Int} (h : x ∈ cmn f s) : mg (cmn f s) [] (x :: a) (x :: b) = cons1 x (mg (cmn f s) [] a b) := by
  rw [mg, if_neg (fun e => e.1 h), if_neg (by simp [h]), if_pos rfl]
  exact mg_one _ _ _ _
theorem mg_no {f s : List Int} {x y : Int} {a b : List Int} (h : x ∈ cmn f s) (h2 : y ∈ cmn f s) (h3 : x ≠ y) : mg (cmn f s) [] (x :: a) (y :: b) = ([], false) := by
  rw [mg, if_neg (fun e => e.1 h), if_neg (by simp [h2]), if_neg h3]

/-- All that a step of the match can be. -/
inductive MgStep (f s : List Int) : List Int → List Int → Prop
  | nil : MgStep f s [] []
  | l0 {x a} (h : x ∈ s) : MgStep f s (x :: a) []
  | l1 {x a} (h : x ∉ s) : MgStep f s (x :: a) []
  | r0 {y b} (h : y ∈ f) : MgStep f s [] (y :: b)
  | r1 {y b} (h : y ∉ f) : MgStep f s [] (y :: b)
  | aLt {x y a b} (h : x ∉ s) (h2 : y ∉ f) (h3 : x < y) : MgStep f s (x :: a) (y :: b)
  | aIn {x y a b} (h : x ∉ s) (h2 : y ∈ f) (h3 : x ≠ y) : MgStep f s (x :: a) (y :: b)
  | bLt {x y a b} (h : x ∉ s) (h2 : y ∉ f) (h3 : y < x) : MgStep f s (x :: a) (y :: b)
  | bIn {x y a b} (h : x ∈ s) (h2 : y ∉ f) (h3 : x ≠ y) : MgStep f s (x :: a) (y :: b)
  | both {x a b} (h : x ∈ s) (h2 : x ∈ f) : MgStep f s (x :: a) (x :: b)
  | no {x y a b} (h : x ∈ s) (h2 : y ∈ f) (h3 : x ≠ y) : MgStep f s (x :: a) (y :: b)
theorem mgStep {f s : List Int} : ∀ {a b : List Int}, Over f s a b → MgStep f s a b
  | [], [], _ => .nil
  | x :: a, [], _ => by by_cases h : x ∈ s; exact .l0 h; exact .l1 h
  | [], y :: b, _ => by by_cases h : y ∈ f; exact .r0 h; exact .r1 h
  | x :: a, y :: b, ho => by
    have hx : x ∈ f := ho.a x (by simp)
    have hy : y ∈ s := ho.b y (by simp)
    by_cases h : x ∈ s <;> by_cases h2 : y ∈ f
    · by_cases h3 : x = y
      · subst h3; exact .both h h2
      · exact .no h h2 h3
    · exact .bIn h h2 (fun e => h2 (e ▸ hx))
    · exact .aIn h h2 (fun e => h (e ▸ hy))
    · have h3 : x ≠ y := fun e => h (e ▸ hy)
      by_cases h4 : x < y
      · exact .aLt h h2 h4
      · exact .bLt h h2 (by omega)

theorem Over.ta {f s a b : List Int} {x : Int} (h : Over f s (x :: a) b) : Over f s a b := ⟨fun z hz => h.a z (by simp [hz]), h.b⟩
theorem Over.tb {f s a b : List Int} {y : Int} (h : Over f s a (y :: b)) : Over f s a b := ⟨h.a, fun z hz => h.b z (by simp [hz])⟩

/-- What is told of an answer: its projections are the words, and there is one if both project alike. -/
def Told (f s a b : List Int) (R : List Int × Bool) : Prop :=
  (R.2 = true → R.1.filter (fun x => decide (x ∈ f)) = a ∧ R.1.filter (fun x => decide (x ∈ s)) = b) ∧ (R.2 = true ↔ a.filter (fun x => decide (x ∈ s)) = b.filter (fun x => decide (x ∈ f))) ∧ (R.2 = false → R.1 = [])
theorem cons1_snd (z : Int) (R : List Int × Bool) : (cons1 z R).2 = R.2 := by unfold cons1; by_cases h : R.2 = true <;> simp_all
theorem cons1_fst {z : Int} {R : List Int × Bool} (h : R.2 = true) : (cons1 z R).1 = z :: R.1 := by unfold cons1; simp [h]
theorem cons1_no {z : Int} {R : List Int × Bool} (h : R.2 = false) : (cons1 z R).1 = [] := by unfold cons1; simp [h]
theorem told_mg {f s : List Int} : ∀ (n : Nat) (a b : List Int), a.length + b.length ≤ n → Over f s a b → Told f s a b (mg (cmn f s) [] a b) := by
  intro n
  induction n with
  | zero =>
    intro a b h _
    obtain rfl : a = [] := List.eq_nil_of_length_eq_zero (by omega)
    obtain rfl : b = [] := List.eq_nil_of_length_eq_zero (by omega)
    rw [mg_end]; simp [Told]
  | succ n ih =>
    intro a b hn ho
    have H := mgStep ho
    cases H with
    | nil => rw [mg_end]; simp [Told]
    | @l0 x a h => rw [mg_l0 (ho.a x (by simp)) h]; simp [Told, h]
    | @r0 y b h => rw [mg_r0 (ho.b y (by simp)) h]; simp [Told, h]
    | @no x y a b h h2 h3 =>
      rw [mg_no (mem_cmn.2 ⟨ho.a x (by simp), h⟩) (mem_cmn.2 ⟨h2, ho.b y (by simp)⟩) h3]
      simp [Told, h, h2, h3]
    | @l1 x a h =>
      have hx := ho.a x (by simp)
      rw [mg_l1 h]
      obtain ⟨t1, t2, t3⟩ := ih a [] (by simp at hn ⊢; omega) ho.ta
      refine ⟨fun e => ?_, ?_, fun e => ?_⟩
      · rw [cons1_snd] at e; rw [cons1_fst e]; obtain ⟨e1, e2⟩ := t1 e; simp [hx, h]; exact ⟨e1, by simpa using e2⟩
      · rw [cons1_snd, t2]; simp [h]
      · rw [cons1_snd] at e; exact cons1_no e
    | @r1 y b h =>
      have hy := ho.b y (by simp)
      rw [mg_r1 h]
      obtain ⟨t1, t2, t3⟩ := ih [] b (by simp at hn ⊢; omega) ho.tb
      refine ⟨fun e => ?_, ?_, fun e => ?_⟩
      · rw [cons1_snd] at e; rw [cons1_fst e]; obtain ⟨e1, e2⟩ := t1 e; simp [hy, h]; exact ⟨by simpa using e1, e2⟩
      · rw [cons1_snd, t2]; simp [h]
      · rw [cons1_snd] at e; exact cons1_no e
    | @aLt x y a b h h2 h3 =>
      have hx := ho.a x (by simp)
      rw [mg_a h (.inr h3)]
      obtain ⟨t1, t2, t3⟩ := ih a (y :: b) (by simp at hn ⊢; omega) ho.ta
      refine ⟨fun e => ?_, ?_, fun e => ?_⟩
      · rw [cons1_snd] at e; rw [cons1_fst e]; obtain ⟨e1, e2⟩ := t1 e; simp [hx, h]; exact ⟨e1, e2⟩
      · rw [cons1_snd, t2]; simp [h]
      · rw [cons1_snd] at e; exact cons1_no e
    | @aIn x y a b h h2 h3 =>
      have hx := ho.a x (by simp)
      rw [mg_a h (.inl (mem_cmn.2 ⟨h2, ho.b y (by simp)⟩))]
      obtain ⟨t1, t2, t3⟩ := ih a (y :: b) (by simp at hn ⊢; omega) ho.ta
      refine ⟨fun e => ?_, ?_, fun e => ?_⟩
      · rw [cons1_snd] at e; rw [cons1_fst e]; obtain ⟨e1, e2⟩ := t1 e; simp [hx, h]; exact ⟨e1, e2⟩
      · rw [cons1_snd, t2]; simp [h]
      · rw [cons1_snd] at e; exact cons1_no e
    | @bLt x y a b h h2 h3 =>
      have hy := ho.b y (by simp)
      rw [mg_b h2 (.inr (by omega))]
      obtain ⟨t1, t2, t3⟩ := ih (x :: a) b (by simp at hn ⊢; omega) ho.tb
      refine ⟨fun e => ?_, ?_, fun e => ?_⟩
      · rw [cons1_snd] at e; rw [cons1_fst e]; obtain ⟨e1, e2⟩ := t1 e; simp [hy, h2]; exact ⟨e1, e2⟩
      · rw [cons1_snd, t2]; simp [h2]
      · rw [cons1_snd] at e; exact cons1_no e
    | @bIn x y a b h h2 h3 =>
      have hy := ho.b y (by simp)
      rw [mg_b h2 (.inl (mem_cmn.2 ⟨ho.a x (by simp), h⟩))]
      obtain ⟨t1, t2, t3⟩ := ih (x :: a) b (by simp at hn ⊢; omega) ho.tb
      refine ⟨fun e => ?_, ?_, fun e => ?_⟩
      · rw [cons1_snd] at e; rw [cons1_fst e]; obtain ⟨e1, e2⟩ := t1 e; simp [hy, h2]; exact ⟨e1, e2⟩
      · rw [cons1_snd, t2]; simp [h2]
      · rw [cons1_snd] at e; exact cons1_no e
    | @both x a b h h2 =>
      rw [mg_c (mem_cmn.2 ⟨h2, h⟩)]
      obtain ⟨t1, t2, t3⟩ := ih a b (by simp at hn ⊢; omega) ho.ta.tb
      refine ⟨fun e => ?_, ?_, fun e => ?_⟩
      · rw [cons1_snd] at e; rw [cons1_fst e]; obtain ⟨e1, e2⟩ := t1 e; simp [h, h2]; exact ⟨e1, e2⟩
      · rw [cons1_snd, t2]; simp [h, h2]
      · rw [cons1_snd] at e; exact cons1_no e
end Go.Proofs.Ytdccmebkoibkhaa
