/- Texts merged: what follows were texts of their own. -/
import Derived.Test.YtmghngehpgolgaaZa3
import Derived.RangeFuncBox
import Derived.RangeFuncLeaves
import Derived.Shelf.Abstract
import Derived.OwnWalkIn
import Derived.TacticsInMore
import Derived.LoopNIn
import Derived.LoopIn
import Derived.Maps.AppendAt
import Derived.Test.YtmghngehpgolgaaZa2
import Derived.Shelf.SlSortCmp.WholeK
import Derived.Shelf.SlSortCmp.NoneTotal
import Derived.Test.YtmghngehpgolgaaProg
import Derived.Shelf.Spec.SlicesGrow
import Derived.Test.YtmghngehpgolgaaZa1
set_option linter.unusedVariables false
set_option linter.unusedSimpArgs false
set_option linter.unusedSectionVars false
/- Layer 7: what some events reach; the automaton of the estimates. -/
namespace Go.Proofs.Ytmghngehpgolgaa

/-- What edges by some events reach from some states. -/
inductive Rc (a : Au) (ev fr : List Int) : Int → Prop
  | base {q : Int} : q ∈ fr → Rc a ev fr q
  | step {x : Ed} : Rc a ev fr x.f → x ∈ a.ed → x.e ∈ ev → Rc a ev fr x.t
open Classical in
/-- The list of these states, in order. -/
noncomputable def reR (a : Au) (ev fr : List Int) : List Int := (rng a.st.toNat).filter fun q => decide (Rc a ev fr q)
theorem mem_rng {n : Nat} {x : Int} : x ∈ rng n ↔ 0 ≤ x ∧ x < (n : Int) := by
  unfold rng
  rw [List.mem_map]
  constructor
  · rintro ⟨i, hi, rfl⟩; have := List.mem_range.1 hi; omega
  · rintro ⟨h0, h1⟩; exact ⟨x.toNat, List.mem_range.2 (by omega), by omega⟩
theorem rng_up (n : Nat) : (rng n).Pairwise (· < ·) := by
  unfold rng; rw [List.pairwise_map]; exact List.pairwise_lt_range.imp fun h => Int.ofNat_lt.2 h
theorem rc_range {a : Au} (h : RightW a) {ev fr : List Int} (hf : ∀ q ∈ fr, 0 ≤ q ∧ q < a.st) {q : Int} (hq : Rc a ev fr q) : 0 ≤ q ∧ q < a.st := by
  cases hq with
  | base hq => exact hf q hq
  | step _ hx _ => exact (h.edr _ hx).2.1
open Classical in
theorem mem_reR {a : Au} (h : RightW a) {ev fr : List Int} (hf : ∀ q ∈ fr, 0 ≤ q ∧ q < a.st) {q : Int} : q ∈ reR a ev fr ↔ Rc a ev fr q := by
  unfold reR
  rw [List.mem_filter, mem_rng]
  simp only [decide_eq_true_eq]
  have := h.st0
  exact ⟨fun h' => h'.2, fun h' => ⟨by have := rc_range h hf h'; omega, h'⟩⟩
theorem reR_ok (a : Au) (ev fr : List Int) : SubOk a.st.toNat (reR a ev fr) :=
  ⟨(rng_up _).sublist List.filter_sublist, fun _ hx => mem_rng.1 (List.mem_filter.1 hx).1⟩
theorem reR_ok' {a : Au} (h : RightW a) (ev fr : List Int) : ∀ q ∈ reR a ev fr, 0 ≤ q ∧ q < a.st := fun q hq => by
  have := (reR_ok a ev fr).2 q hq
  have := h.st0
  omega
/-- A list that rises and has just these states is the list. -/
theorem reR_of {a : Au} (h : RightW a) {ev fr zs : List Int} (hf : ∀ q ∈ fr, 0 ≤ q ∧ q < a.st) (hu : zs.Pairwise (· < ·)) (hz : ∀ q, q ∈ zs ↔ Rc a ev fr q) : zs = reR a ev fr :=
  sub_ext hu (reR_ok a ev fr).1 fun q => (hz q).trans (mem_reR h hf).symm
/-- What a search has found when it ends. -/
theorem rc_found {a : Au} {ev fr F : List Int} (h1 : ∀ q ∈ fr, q ∈ F) (h2 : ∀ q ∈ F, Rc a ev fr q) (h3 : ∀ x ∈ a.ed, x.f ∈ F → x.e ∈ ev → x.t ∈ F) (q : Int) : q ∈ F ↔ Rc a ev fr q :=
  ⟨h2 q, fun h => by
    induction h with
    | base h => exact h1 _ h
    | step _ hx he ih => exact h3 _ hx ih he⟩
theorem rc_mono {a : Au} {ev ev' fr fr' : List Int} (he : ∀ e ∈ ev, e ∈ ev') (hf : ∀ q ∈ fr, Rc a ev' fr' q) {q : Int} (h : Rc a ev fr q) : Rc a ev' fr' q := by
  induction h with
  | base h => exact hf _ h
  | step _ hx h2 ih => exact .step ih hx (he _ h2)
theorem reR_same {a : Au} (h : RightW a) {ev fr fr' : List Int} (hf : ∀ q ∈ fr, 0 ≤ q ∧ q < a.st) (hs : ∀ q, q ∈ fr ↔ q ∈ fr') : reR a ev fr = reR a ev fr' :=
  reR_of h (fun q hq => hf q ((hs q).2 hq)) (reR_ok a ev fr).1 fun _ => (mem_reR h hf).trans ⟨rc_mono (fun _ h => h) fun q hq => .base ((hs q).1 hq), rc_mono (fun _ h => h) fun q hq => .base ((hs q).2 hq)⟩
/-- The states to which an event leads from those of a list. -/
def tgR (a : Au) (s : List Int) (e : Int) : List Int := (a.ed.filter fun x => decide (x.e = e ∧ x.f ∈ s)).map Ed.t
theorem mem_tgR {a : Au} {s : List Int} {e q : Int} : q ∈ tgR a s e ↔ ∃ x ∈ a.ed, x.e = e ∧ x.f ∈ s ∧ x.t = q := by
  unfold tgR
  rw [List.mem_map]
  constructor
  · rintro ⟨x, hx, rfl⟩
    obtain ⟨h1, h2⟩ := List.mem_filter.1 hx
    rw [decide_eq_true_eq] at h2
    exact ⟨x, h1, h2.1, h2.2, rfl⟩
  · rintro ⟨x, h1, h2, h3, rfl⟩
    exact ⟨x, List.mem_filter.2 ⟨h1, decide_eq_true ⟨h2, h3⟩⟩, rfl⟩
theorem tgR_range {a : Au} (h : RightW a) {s : List Int} {e : Int} : ∀ q ∈ tgR a s e, 0 ≤ q ∧ q < a.st := fun q hq => by
  obtain ⟨x, hx, _, _, rfl⟩ := mem_tgR.1 hq
  exact (h.edr _ hx).2.1
/-- The events that are kept, and those that are erased. -/
def kpR (a : Au) (onto : List Int) : List Int := a.al.filter fun x => decide (x ∈ onto)
def erR (a : Au) (onto : List Int) : List Int := a.al.filter fun x => !decide (x ∈ onto)
theorem mem_kpR {a : Au} {onto : List Int} {x : Int} : x ∈ kpR a onto ↔ x ∈ a.al ∧ x ∈ onto := by simp [kpR]
theorem mem_erR {a : Au} {onto : List Int} {x : Int} : x ∈ erR a onto ↔ x ∈ a.al ∧ x ∉ onto := by simp [erR]
/-- The estimate after an event; the first one. -/
noncomputable def nxR (a : Au) (onto s : List Int) (e : Int) : List Int := reR a (erR a onto) (tgR a s e)
noncomputable def fsR (a : Au) (onto : List Int) : List Int := if a.st = 0 then [] else reR a (erR a onto) [0]
noncomputable def esR (a : Au) (onto ws : List Int) : List Int := ws.foldl (nxR a onto) (fsR a onto)
theorem nxR_nil {a : Au} (h : RightW a) {onto s : List Int} {e : Int} : nxR a onto s e = [] ↔ tgR a s e = [] := by
  constructor
  · intro h1
    cases ht : tgR a s e with
    | nil => rfl
    | cons q l =>
      have : q ∈ nxR a onto s e := (mem_reR h (tgR_range h)).2 (.base (by rw [ht]; simp))
      rw [h1] at this; cases this
  · intro h1
    cases ht : nxR a onto s e with
    | nil => rfl
    | cons q l =>
      have hq : Rc a (erR a onto) (tgR a s e) q := (mem_reR h (tgR_range h)).1 (by show q ∈ nxR a onto s e; rw [ht]; simp)
      rw [h1] at hq
      exfalso
      clear ht
      induction hq with
      | base h => cases h
      | step _ _ _ ih => exact ih
/-- Estimates with their numbers. -/
noncomputable def detC (a : Au) (onto : List Int) : Cod (List Int) where
  al := kpR a onto
  n := (prT (twos a.st.toNat)).toNat
  en := nmS a.st.toNat (fsR a onto)
  de := stS a.st.toNat (fsR a onto)
  st s e := if tgR a s e = [] then none else some (nxR a onto s e)
  mq s := s.any fun q => decide (q ∈ a.mr)
theorem det_ok {a : Au} (h : RightW a) (onto : List Int) : CodOk (detC a onto) (SubOk a.st.toNat) where
  alr x hx := h.alr x (mem_kpR.1 hx).1
  alo := h.alo.sublist List.filter_sublist
  enr s _ := by
    have := nm_range a.st.toNat (fsR a onto) s
    exact ⟨this.1, by show nmS _ _ _ < ((prT (twos a.st.toNat)).toNat : Int); omega⟩
  den s hs := st_nm hs
  okd x _ _ := st_ok _ _ _
  edn x h0 h1 := nm_st h0 (by have h1 : x < ((prT (twos a.st.toNat)).toNat : Int) := h1; have := two_pos a.st.toNat; omega)
  sto s e t _ ht := by
    have ht' : (if tgR a s e = [] then none else some (nxR a onto s e)) = some t := ht
    split at ht'
    · cases ht'
    · injection ht' with ht'; rw [← ht']; exact reR_ok _ _ _
/-- The automaton of the estimates' numbers. -/
noncomputable def detA (a : Au) (onto : List Int) : Au := if a.st = 0 then ⟨kpR a onto, 0, [], []⟩ else codA (detC a onto)
theorem det_right {a : Au} (h : RightW a) (onto : List Int) : RightW (detA a onto) := by
  unfold detA
  split
  · exact { alr := fun x hx => h.alr x (mem_kpR.1 hx).1, alo := h.alo.sublist List.filter_sublist, st0 := Int.le_refl _, mrr := (fun x hx => by cases hx), mro := List.Pairwise.nil, edr := (fun x hx => by cases hx), edo := List.Pairwise.nil }
  · exact cod_right (det_ok h onto)
theorem fs_ok {a : Au} (onto : List Int) : SubOk a.st.toNat (fsR a onto) := by
  unfold fsR
  split
  · exact ⟨List.Pairwise.nil, fun x hx => by cases hx⟩
  · exact reR_ok _ _ _
/-- The first estimate has the number 0; a step of the numbers is that of the estimates. -/
theorem det_zero (a : Au) (onto : List Int) : (detC a onto).en (fsR a onto) = 0 := nm_self _ _
theorem det_step {a : Au} (h : RightW a) (h0 : a.st ≠ 0) {onto s : List Int} (hs : SubOk a.st.toNat s) {e : Int} (he : e ∈ kpR a onto) : stepO (detA a onto) ((detC a onto).en s) e = if tgR a s e = [] then none else some ((detC a onto).en (nxR a onto s e)) := by
  unfold detA
  rw [if_neg h0, cod_step (det_ok h onto) hs he]
  show Option.map _ (if tgR a s e = [] then none else some (nxR a onto s e)) = _
  split <;> rfl
theorem det_mark {a : Au} (h : RightW a) (h0 : a.st ≠ 0) {onto s : List Int} (hs : SubOk a.st.toNat s) : (detC a onto).en s ∈ (detA a onto).mr ↔ ∃ q ∈ s, q ∈ a.mr := by
  unfold detA
  rw [if_neg h0, cod_mark (det_ok h onto) hs]
  show (s.any fun q => decide (q ∈ a.mr)) = true ↔ _
  simp
end Go.Proofs.Ytmghngehpgolgaa

/- Layer 3: the state to which a whole word leads. -/
namespace Go.Proofs.Ytmghngehpgolgaa
open Go.RowKit Go.Sort

/-- The state to which a whole word leads. -/
def rO (a : Au) : Int → List Int → Option Int
  | q, [] => some q
  | q, x :: r => match stepO a q x with | none => none | some t => rO a t r
theorem rO_run (a : Au) : ∀ (ws : List Int) (q : Int), (∃ t, rO a q ws = some t ∧ runE a q ws = (t, ws.length)) ∨ (rO a q ws = none ∧ (runE a q ws).2 ≠ ws.length)
  | [], q => .inl ⟨q, rfl, runE_nil a q⟩
  | x :: r, q => by
    rw [rO]
    cases h : stepO a q x with
    | none => exact .inr ⟨rfl, by rw [runE_stop h]; simp⟩
    | some t =>
      rw [runE_go h]
      rcases rO_run a r t with ⟨u, h1, h2⟩ | ⟨h1, h2⟩
      · exact .inl ⟨u, h1, by rw [h2]; rfl⟩
      · exact .inr ⟨h1, by simp; exact h2⟩
theorem gen_rO {a : Au} {ws : List Int} (h : a.st ≠ 0) : genB a ws = (rO a 0 ws).isSome := by
  unfold genB
  rw [decide_eq_true h, Bool.true_and]
  rcases rO_run a ws 0 with ⟨t, h1, h2⟩ | ⟨h1, h2⟩
  · rw [h1, h2]; simp
  · rw [h1, decide_eq_false h2]; rfl
/-- A whole word leads to a marked state. -/
def mO (a : Au) (o : Option Int) : Bool := match o with | some t => decide (t ∈ a.mr) | none => false
theorem acc_rO {a : Au} {ws : List Int} (h : a.st ≠ 0) : accB a ws = mO a (rO a 0 ws) := by
  unfold accB
  rw [gen_rO h]
  rcases rO_run a ws 0 with ⟨t, h1, h2⟩ | ⟨h1, h2⟩
  · rw [h1, h2]; simp [mO]
  · rw [h1]; rfl
end Go.Proofs.Ytmghngehpgolgaa

/- Layer 7: words of an automaton and their observations among the estimates. -/
namespace Go.Proofs.Ytmghngehpgolgaa

/-- The thing to which a whole word leads. -/
def rC {S : Type} (c : Cod S) : S → List Int → Option S
  | s, [] => some s
  | s, x :: r => match c.st s x with | none => none | some t => rC c t r
theorem cod_rO {S : Type} {c : Cod S} {ok : S → Prop} (h : CodOk c ok) : ∀ (ws : List Int) (s : S), ok s → (∀ x ∈ ws, x ∈ c.al) → rO (codA c) (c.en s) ws = (rC c s ws).map c.en ∧ ∀ t, rC c s ws = some t → ok t
  | [], s, hs, _ => ⟨rfl, fun t ht => by simp [rC] at ht; subst ht; exact hs⟩
  | x :: r, s, hs, hx => by
    have h1 := cod_step h hs (hx x (List.mem_cons_self ..))
    rw [rO, rC, h1]
    cases e : c.st s x with
    | none => exact ⟨rfl, fun t ht => by simp at ht⟩
    | some t => exact cod_rO h r t (h.sto _ _ _ hs e) fun y hy => hx y (List.mem_cons_of_mem _ hy)
/-- A set of states that erased events do not leave. -/
def ClS (a : Au) (onto s : List Int) : Prop := ∀ x ∈ a.ed, x.f ∈ s → x.e ∈ erR a onto → x.t ∈ s
theorem reR_cls {a : Au} (h : RightW a) {onto fr : List Int} (hf : ∀ q ∈ fr, 0 ≤ q ∧ q < a.st) : ClS a onto (reR a (erR a onto) fr) := fun _ hx hs he =>
  (mem_reR h hf).2 (.step ((mem_reR h hf).1 hs) hx he)
theorem fs_cls {a : Au} (h : RightW a) (onto : List Int) : ClS a onto (fsR a onto) := by
  unfold fsR
  split
  · intro x _ hs; cases hs
  · have := h.st0
    exact reR_cls h fun q hq => by simp at hq; omega
theorem zero_fs {a : Au} (h : RightW a) (h0 : a.st ≠ 0) (onto : List Int) : (0 : Int) ∈ fsR a onto := by
  unfold fsR
  rw [if_neg h0]
  have := h.st0
  exact (mem_reR h fun q hq => by simp at hq; omega).2 (.base (by simp))
/-- The state of a word lies in the estimate of its observation. -/
theorem est_word {a : Au} (h : RightW a) {onto : List Int} : ∀ (ws : List Int) (q t : Int) (s : List Int), ClS a onto s → q ∈ s → rO a q ws = some t → ∃ s', rC (detC a onto) s (ws.filter fun x => decide (x ∈ onto)) = some s' ∧ t ∈ s' ∧ ClS a onto s'
  | [], q, t, s, hc, hq, hr => by
    simp [rO] at hr
    subst hr
    exact ⟨s, rfl, hq, hc⟩
  | x :: r, q, t, s, hc, hq, hr => by
    rw [rO] at hr
    cases hs : stepO a q x with
    | none => rw [hs] at hr; cases hr
    | some u =>
      rw [hs] at hr
      cases he : edgeO a.ed q x with
      | none => rw [stepO, he] at hs; cases hs
      | some y =>
        rw [stepO, he] at hs
        obtain ⟨hy, hf, hev⟩ := (edgeO_some h.edo).1 he
        injection hs with hs
        by_cases hx : x ∈ onto
        · rw [List.filter_cons_of_pos (by simpa using hx), rC]
          have htg : y.t ∈ tgR a s x := mem_tgR.2 ⟨y, hy, hev, by rw [hf]; exact hq, rfl⟩
          have hst : (detC a onto).st s x = some (nxR a onto s x) := by
            show (if tgR a s x = [] then none else some (nxR a onto s x)) = _
            rw [if_neg]
            intro e; rw [e] at htg; cases htg
          rw [hst]
          exact est_word h r u t (nxR a onto s x) (reR_cls h (tgR_range h)) ((mem_reR h (tgR_range h)).2 (.base (by rw [← hs]; exact htg))) hr
        · rw [List.filter_cons_of_neg (by simpa using hx)]
          refine est_word h r u t s hc ?_ hr
          rw [← hs]
          exact hc y hy (by rw [hf]; exact hq) (mem_erR.2 ⟨(h.edr y hy).2.2, by rw [hev]; exact hx⟩)
/-- Each state of an estimate has a word with the observation. -/
theorem rc_word {a : Au} (h : RightW a) {onto fr : List Int} {q : Int} (hq : Rc a (erR a onto) fr q) : ∃ p ∈ fr, ∃ ws, rO a p ws = some q ∧ (ws.filter fun x => decide (x ∈ onto)) = [] ∧ ∀ x ∈ ws, x ∈ a.al := by
  induction hq with
  | base hq => exact ⟨_, hq, [], rfl, rfl, by simp⟩
  | @step x _ hx he ih =>
    obtain ⟨p, hp, ws, h1, h2, h3⟩ := ih
    have hm := mem_erR.1 he
    refine ⟨p, hp, ws ++ [x.e], ?_, ?_, ?_⟩
    · have : rO a p (ws ++ [x.e]) = (match rO a p ws with | none => none | some u => stepO a u x.e) := rO_snoc a ws p x.e
      rw [this, h1]
      show stepO a x.f x.e = some x.t
      rw [stepO, (edgeO_some h.edo).2 ⟨hx, rfl, rfl⟩]; rfl
    · rw [List.filter_append, h2, List.filter_cons_of_neg (by simpa using hm.2)]; rfl
    · intro y hy
      rcases List.mem_append.1 hy with hy | hy
      · exact h3 y hy
      · rw [List.mem_singleton] at hy; subst hy; exact hm.1
where
  rO_snoc (a : Au) : ∀ (ws : List Int) (q x : Int), rO a q (ws ++ [x]) = (match rO a q ws with | none => none | some u => stepO a u x)
    | [], q, x => by
      show rO a q [x] = stepO a q x
      rw [rO]
      cases stepO a q x <;> rfl
    | y :: r, q, x => by
      rw [List.cons_append, rO, rO]
      cases stepO a q y with
      | none => rfl
      | some t => exact rO_snoc a r t x
/-- What an estimate after a word is. -/
theorem rC_fold {a : Au} {onto : List Int} : ∀ (ws : List Int) (s t : List Int), rC (detC a onto) s ws = some t → t = ws.foldl (nxR a onto) s
  | [], s, t, h => by simp [rC] at h; exact h.symm
  | x :: r, s, t, h => by
    rw [rC] at h
    have hst : (detC a onto).st s x = if tgR a s x = [] then none else some (nxR a onto s x) := rfl
    rw [hst] at h
    by_cases he : tgR a s x = []
    · rw [if_pos he] at h; cases h
    · rw [if_neg he] at h; exact rC_fold r _ t h
theorem rO_app (a : Au) : ∀ (v w : List Int) (q : Int), rO a q (v ++ w) = (match rO a q v with | none => none | some u => rO a u w)
  | [], w, q => rfl
  | x :: v, w, q => by
    rw [List.cons_append, rO, rO]
    cases stepO a q x with
    | none => rfl
    | some t => exact rO_app a v w t
/-- Each state of an estimate is reached, from one of the states before, by a word with the observation. -/
theorem est_has {a : Au} (h : RightW a) {onto : List Int} : ∀ (ws s s' : List Int) (t : Int), (∀ x ∈ ws, x ∈ onto) → rC (detC a onto) s ws = some s' → t ∈ s' → ∃ q ∈ s, ∃ w, rO a q w = some t ∧ (w.filter fun x => decide (x ∈ onto)) = ws ∧ ∀ x ∈ w, x ∈ a.al
  | [], s, s', t, _, hr, ht => by
    simp [rC] at hr
    subst hr
    exact ⟨t, ht, [], rfl, rfl, by simp⟩
  | x :: r, s, s', t, ho, hr, ht => by
    rw [rC] at hr
    have hst : (detC a onto).st s x = if tgR a s x = [] then none else some (nxR a onto s x) := rfl
    rw [hst] at hr
    by_cases he : tgR a s x = []
    · rw [if_pos he] at hr; cases hr
    · rw [if_neg he] at hr
      obtain ⟨u, hu, w, h1, h2, h3⟩ := est_has h r _ s' t (fun y hy => ho y (List.mem_cons_of_mem _ hy)) hr ht
      obtain ⟨v, hv, w2, g1, g2, g3⟩ := rc_word h ((mem_reR h (tgR_range h)).1 hu)
      obtain ⟨y, hy, hye, hyf, hyt⟩ := mem_tgR.1 hv
      refine ⟨y.f, hyf, x :: (w2 ++ w), ?_, ?_, ?_⟩
      · have hs : stepO a y.f x = some v := by rw [stepO, (edgeO_some h.edo).2 ⟨hy, rfl, hye⟩, ← hyt]; rfl
        rw [rO, hs]
        show rO a v (w2 ++ w) = _
        rw [rO_app, g1]; exact h1
      · rw [List.filter_cons_of_pos (by simpa using ho x (by simp)), List.filter_append, g2, h2]; rfl
      · intro z hz
        rcases List.mem_cons.1 hz with hz | hz
        · rw [hz, ← hye]; exact (h.edr y hy).2.2
        · rcases List.mem_append.1 hz with hz | hz
          · exact g3 z hz
          · exact h3 z hz
theorem rC_ne {a : Au} (h : RightW a) {onto : List Int} : ∀ (ws s s' : List Int), s ≠ [] → rC (detC a onto) s ws = some s' → s' ≠ []
  | [], s, s', hs, hr => by simp [rC] at hr; rwa [← hr]
  | x :: r, s, s', hs, hr => by
    rw [rC] at hr
    have hst : (detC a onto).st s x = if tgR a s x = [] then none else some (nxR a onto s x) := rfl
    rw [hst] at hr
    by_cases he : tgR a s x = []
    · rw [if_pos he] at hr; cases hr
    · rw [if_neg he] at hr
      exact rC_ne h r _ s' (fun e => he ((nxR_nil h).1 e)) hr
/-- The projected automaton generates just the observations of the words, and marks those of the marked ones. -/
theorem det_gen {a : Au} (h : RightW a) (h0 : a.st ≠ 0) {onto ws : List Int} (hw : ∀ x ∈ ws, x ∈ kpR a onto) : genB (detA a onto) ws = true ↔ ∃ w, (∀ x ∈ w, x ∈ a.al) ∧ (w.filter fun x => decide (x ∈ onto)) = ws ∧ genB a w = true := by
  have hn : (detA a onto).st ≠ 0 := by
    unfold detA; rw [if_neg h0]
    show ((prT (twos a.st.toNat)).toNat : Int) ≠ 0
    have := two_pos a.st.toNat
    omega
  have hd : rO (detA a onto) 0 ws = (rC (detC a onto) (fsR a onto) ws).map (detC a onto).en := by
    have := (cod_rO (det_ok h onto) ws (fsR a onto) (fs_ok onto) hw).1
    rw [det_zero] at this
    unfold detA; rw [if_neg h0]; exact this
  rw [gen_rO hn, hd, Option.isSome_map]
  constructor
  · intro hs
    obtain ⟨s', hs'⟩ := Option.isSome_iff_exists.1 hs
    have hne := rC_ne h ws _ s' (fun e => by have := zero_fs h h0 onto; rw [e] at this; cases this) hs'
    obtain ⟨t, l, rfl⟩ : ∃ t l, s' = t :: l := by
      cases s' with
      | nil => exact absurd rfl hne
      | cons t l => exact ⟨t, l, rfl⟩
    obtain ⟨q, hq, w, g1, g2, g3⟩ := est_has h ws _ _ t (fun x hx => (mem_kpR.1 (hw x hx)).2) hs' (by simp)
    have hq' : Rc a (erR a onto) [0] q := by
      unfold fsR at hq
      rw [if_neg h0] at hq
      have := h.st0
      exact (mem_reR h fun y hy => by simp at hy; omega).1 hq
    obtain ⟨p, hp, v, k1, k2, k3⟩ := rc_word h hq'
    rw [List.mem_singleton] at hp
    subst hp
    refine ⟨v ++ w, fun x hx => (List.mem_append.1 hx).elim (k3 x) (g3 x), by rw [List.filter_append, k2, g2]; rfl, ?_⟩
    rw [gen_rO h0, rO_app, k1]
    show (rO a q w).isSome = true
    rw [g1]; rfl
  · rintro ⟨w, _, h2, h3⟩
    rw [gen_rO h0] at h3
    obtain ⟨t, ht⟩ := Option.isSome_iff_exists.1 h3
    obtain ⟨s', hs', _⟩ := est_word h w 0 t _ (fs_cls h onto) (zero_fs h h0 onto) ht
    rw [← h2, hs']; rfl
end Go.Proofs.Ytmghngehpgolgaa

/- Layer 3: slices.Sorted(slices.Values(l)): the numbers of a list in increasing order, in new memory. -/
namespace Go.Proofs.Ytmghngehpgolgaa
open Go.RowKit Go.Shelf

attribute [local go_sem] Oper.semAt_some

def uptoF {α : Type} (f : Nat → α) (k : Nat) : List α := (List.range k).map f
theorem uptoF_succ {α : Type} (f : Nat → α) (k : Nat) : uptoF f (k + 1) = uptoF f k ++ [f k] := by simp [uptoF, List.range_succ]
theorem uptoF_length {α : Type} (f : Nat → α) (k : Nat) : (uptoF f k).length = k := by simp [uptoF]
theorem uptoF_all (zs : List Int) : uptoF (fun j => zs[j]?.getD 0) zs.length = zs := by
  apply List.ext_getElem
  · simp [uptoF]
  · intro i h1 h2
    simp [uptoF, h2]
theorem uptoF_take (zs : List Int) {k : Nat} (hk : k ≤ zs.length) : uptoF (fun j => zs[j]?.getD 0) k = zs.take k := by
  apply List.ext_getElem
  · simp [uptoF, hk]
  · intro i h1 h2
    have : i < zs.length := by simp [uptoF] at h1; omega
    simp [uptoF, this]

set_option maxRecDepth 100000 in
set_option maxHeartbeats 2000000 in
/-- The iterator of slices.Values: each number in its turn, for every round that keeps what lay below n₀. -/
theorem values1_in (F : Fence) (n : Nat) (hf : F.fn 59) (hro : F.round = none) (hn : 1 ≤ n) (l Bs n₀ b off len cap : Nat) (zs : List Int) (hreach : len * 8 ≤ 140737488351232) (hb : b < n₀) (J Jx : List Int → World → Prop)
    (hY : ∀ pre x W, J pre W → pre.length < len → YieldAt F (n - 1) Try.prog l #[.int .i64 x] W fun e W' =>
      (e = .returned (.bool true) ∧ J (pre ++ [x]) W' ∧ Below n₀ W W') ∨ (e = .returned (.bool false) ∧ Jx (pre ++ [x]) W'))
    (W : World) (hBs : W.cell? ⟨Bs, 0, none⟩ = some (.slice (some ⟨b, off, none⟩) len cap)) (hc : ∀ j, j < len → W.cell? ⟨b, off + j, none⟩ = some (.int .i64 (zs[j]?.getD 0))) (h0 : J [] W) :
    CallsIn F n Try.prog 59 #[.func (.yield l) #[] #[], .pointer (some ⟨Bs, 0, none⟩)] W fun e W' => (∃ v, e = .returned v) ∧
      ((∃ ys, ys = uptoF (fun j => zs[j]?.getD 0) len ∧ J ys W') ∨ (∃ pre, (∃ k, k ≤ len ∧ pre = uptoF (fun j => zs[j]?.getD 0) k) ∧ Jx pre W')) := by
  refine callsIn_of_wp Try.func59 rfl hf ?_ hro
  simp only [Try.ntmps59, List.size_toArray, List.length_cons, List.length_nil, Nat.reduceAdd, Nat.reduceSub, Array.replicate_succ, Array.replicate_zero, List.push_toArray, List.append_toArray, List.nil_append, List.cons_append]
  gi_wp2
  gi_loopw [7] (fun i wr => ∃ k : Nat, k ≤ len ∧ i = .int .i64 k ∧ J (uptoF (fun j => zs[j]?.getD 0) k) wr ∧ Below n₀ W wr)
    (fun i _ => len - (intOf i).toNat)
  case atStart => exact ⟨0, Nat.zero_le _, rfl, h0, Below.refl _ _⟩
  case round =>
    obtain ⟨k, hk, rfl, hJs, hnx⟩ := hrel
    have hcx : k < len → wr.cell? ⟨b, off + k, none⟩ = some (.int .i64 (zs[k]?.getD 0)) := fun h => (hnx.cell (p := ⟨b, off + k, none⟩) hb).trans (hc k h)
    by_cases hlt : k < len
    · obtain ⟨fn, tmps, assign, body, hy, hR⟩ := hY _ (zs[k]?.getD 0) wr hJs (by rw [uptoF_length]; exact hlt)
      have hcx' := hcx hlt
      gi_wp2
      refine hR.mono ?_
      rintro e W3 (⟨rfl, hJ3, hk3⟩ | ⟨rfl, hJx3⟩)
      · gi_wp2
        go_roundw
        case rel => exact ⟨k + 1, by omega, by simp, by rw [uptoF_succ]; exact hJ3, hnx.trans hk3⟩
        case measure => simp [intOf]; omega
      · gi_wp2
        refine bodyPost_ret (results_none rfl _ _ _) rfl ?_
        exact ⟨⟨_, rfl⟩, .inr ⟨_, ⟨k + 1, by omega, (uptoF_succ _ _).symm⟩, hJx3⟩⟩
    · obtain rfl : k = len := by omega
      gi_wp2
      go_end0
      exact ⟨⟨_, rfl⟩, .inl ⟨_, rfl, hJs⟩⟩

set_option maxRecDepth 100000 in
set_option maxHeartbeats 1000000 in
theorem values1_nil_in (F : Fence) (n : Nat) (hf : F.fn 59) (hro : F.round = none) (l Bs : Nat) (ad : Option Addr) (cap : Nat) (J : List Int → World → Prop) (W : World) (hBs : W.cell? ⟨Bs, 0, none⟩ = some (.slice ad 0 cap)) (h0 : J [] W) :
    CallsIn F n Try.prog 59 #[.func (.yield l) #[] #[], .pointer (some ⟨Bs, 0, none⟩)] W fun e W' => (∃ v, e = .returned v) ∧ J [] W' := by
  refine callsIn_of_wp Try.func59 rfl hf ?_ hro
  simp only [Try.ntmps59, List.size_toArray, List.length_cons, List.length_nil, Nat.reduceAdd, Nat.reduceSub, Array.replicate_succ, Array.replicate_zero, List.push_toArray, List.append_toArray, List.nil_append, List.cons_append]
  gi_wp2
  gi_loopw [7] (fun i wr => i = .int .i64 0 ∧ J [] wr) (fun _ _ => 0)
  case atStart => exact ⟨rfl, h0⟩
  case round =>
    obtain ⟨rfl, hJs⟩ := hrel
    gi_wp2
    go_end0
    exact ⟨⟨_, rfl⟩, hJs⟩

theorem values_stops (F : Fence) (n : Nat) (hf : F.fn 59) (hro : F.round = none) (hn : 1 ≤ n) (Bs n₀ : Nat) (ad : Option Addr) (len cap : Nat) (zs : List Int) (hlen : zs.length = len) (hreach : len * 8 ≤ 140737488351232) (w : World) (hBs : Bs < w.heap.size) (hn₀ : n₀ ≤ w.heap.size)
    (hc : w.cell? ⟨Bs, 0, none⟩ = some (.slice ad len cap)) (hI : RdI w n₀ ad zs) :
    SeqStopsK F n Try.prog 59 #[.pointer (some ⟨Bs, 0, none⟩)] (fun x : Int => #[Value.int .i64 x]) (Below n₀) (fun ys => ys = zs) (fun pre => pre <+: zs) zs.length w := fun l J Jx W hW _ _ hY h0 => by
  have hc' := (hW.cell (p := ⟨Bs, 0, none⟩) hBs).trans hc
  have hI' := hI.below (hW.mono hn₀) (Nat.le_refl _)
  rcases Nat.eq_zero_or_pos len with h | h
  · subst h
    have hz : zs = [] := List.eq_nil_of_length_eq_zero hlen
    subst hz
    exact (values1_nil_in F n hf hro l Bs ad cap J W hc' h0).mono fun e W' ⟨he, hj⟩ => ⟨he, .inl ⟨_, rfl, hj⟩⟩
  · obtain ⟨b, off, rfl, hb, hcs⟩ := hI' (by omega)
    refine (values1_in F n hf hro hn l Bs n₀ b off len cap zs hreach hb J Jx (by rw [← hlen]; exact hY) W hc' (fun j hj => by rw [hcs j (by omega)]; rfl) h0).mono ?_
    rintro e W' ⟨he, ⟨ys, rfl, hj⟩ | ⟨pre, ⟨k, hk, rfl⟩, hj⟩⟩
    · exact ⟨he, .inl ⟨_, by rw [← hlen]; exact uptoF_all zs, hj⟩⟩
    · exact ⟨he, .inr ⟨_, by rw [uptoF_take zs (by omega)]; exact List.take_prefix _ _, hj⟩⟩

set_option maxRecDepth 100000 in
set_option maxHeartbeats 2000000 in
theorem appendSeq_in (F : Fence) (n : Nat) (hf : F.fn 76) (hf2 : F.fn 59) (hro : F.round = none) (hn : 3 ≤ n) (Bs : Nat) (ad : Option Addr) (len cap : Nat) (zs : List Int) (hl : zs.length = len) (hlen : len ≤ 100000) (w : World) (hBs : Bs < w.heap.size)
    (hc0 : w.cell? ⟨Bs, 0, none⟩ = some (.slice ad len cap)) (hI : RdI w w.heap.size ad zs) :
    CallsIn F n Try.prog 76 #[.slice none 0 0, .func (.func 59) #[] #[.pointer (some ⟨Bs, 0, none⟩)]] w fun e W' => ∃ v, e = .returned v ∧ W'.ownsRow w.heap.size 3 1 v zs.length (zs.map (Value.int .i64)) ∧ Below w.heap.size w W' := by
  have h1 : 1 ≤ n := by omega
  obtain ⟨i0, hi, hz0, hz1, hz2⟩ := info_parts info_int
  refine callsIn_of_wp_marks Try.func76 rfl hf ?_ hro
  simp only [Try.ntmps76, List.size_toArray, List.length_cons, List.length_nil, Nat.reduceAdd, Nat.reduceSub, Array.replicate_succ, Array.replicate_zero, List.push_toArray, List.append_toArray, List.nil_append, List.cons_append]
  gi_wp2
  have bO := Boxed.new w 22 (.slice none 0 0)
  have hB0 : Below w.heap.size w (w.alloc (.cells #[.slice none 0 0] 22)) := (Below.refl _ w).alloc (Nat.le_refl _) _
  refine wpIn_rangeFunc_ownG hro h1 (gf := 59) (lb := #[.pointer (some ⟨Bs, 0, none⟩)]) rfl hf2 (enters_of Try.func59 (by kernel_rfl) rfl)
    (values_stops F (n - 1) hf2 hro (by omega) Bs w.heap.size ad len cap zs hl (by omega) _ (by simp; omega) (by simp) ((hB0.cell (p := ⟨Bs, 0, none⟩) hBs).trans hc0) (hI.below hB0 (Nat.le_refl _))) belowK_t (belowK_b (by simp)) (Below.refl _ _) (fun _ => rfl)
    (fun pre W => (∃ v, Boxed W w.heap.size 22 v ∧ W.ownsRow w.heap.size 3 1 v pre.length (pre.map (Value.int .i64)) ∧ (v = .slice none 0 0 ↔ pre = [])) ∧ Below w.heap.size w W)
    (fun _ _ _ => False)
    (OwnFrom.and (Own.from (holdsRow_own w.heap.size w.heap.size 22 3 1 (fun pre => pre.length) (fun pre => pre.map (Value.int .i64)) (fun pre v => v = .slice none 0 0 ↔ pre = [])) _) (ownFrom_below (Nat.le_refl _) (by simp)))
    (fun _ _ _ _ _ hs _ _ => hs)
    ⟨⟨_, bO, World.ownsRow_nil _ _ _ _, by simp⟩, hB0⟩
    (fun x => { tmps := #[.slice none 0 0, .func (.func 59) #[] #[.pointer (some ⟨Bs, 0, none⟩)], .pointer (some ⟨w.heap.size, 0, none⟩), undef, .slice none 0 0, .int .i64 x, .func (.func 59) #[] #[.pointer (some ⟨Bs, 0, none⟩)], .int .i64 x, undef, undef, undef, undef, undef], defers := [] }) ?assign ?body ?done ?stop
  case assign =>
    intro l x W K hK
    gi_wp2
    exact hK
  case body =>
    rintro l pre x W ⟨⟨v, hv, hrow, hnil⟩, hB⟩ hlt
    have hc := hv.cell
    gi_wp2_with (gi_at_builtin; refine wpListIn_append_own _ rfl _ _ 22 rfl w.heap.size 3 i0 (.int .i64 0) 1 8 Try.underlying22 hi hz0 hz1 hz2 rfl (by decide) _ _ _ rfl (hrow.alloc _) ⟨W.heap.size, 0, none⟩ 1 1 [.int .i64 x] rfl rfl (cell_one_new _ _ _) (by simp [Value.oneCell']) (by unfold maxLen; omega) (by omega) (by have := hB.size; simp; omega) ?_; intro v' w1 hown' hgrow _; obtain ⟨g', cap', rfl⟩ := ownsRow_succ hown'; obtain ⟨hv1, hv2, hr2, hk2, hb2⟩ := hv.appended (by decide) hrow hB.size (Nat.le_refl _) hown' hgrow; have hc1 := hv1.cell; have hf1 := hv1.frozen)
    exact ⟨hk2.from _, hb2, ⟨_, hv2, by simpa using hr2, by simp⟩, hB.trans hb2⟩
  case done =>
    rintro D ys W hD rfl ⟨⟨v, hv, hrow, hnil⟩, hB⟩ hK
    have hc := hv.cell
    gi_wp2
    refine ⟨by simp, .inl ⟨_, _, rfl, run_takeDeferred hK, ?_⟩⟩
    exact ⟨_, results_tmp rfl _ _ _, v, rfl, ownsRow_putObj hrow _ hK rfl, hB.trans (belowK_b (w := w) (Nat.le_refl _) W D _ _ (by simp at hD; omega) hK rfl rfl)⟩
  case stop =>
    rintro D c pre W _ _ h _
    exact h.elim
end Go.Proofs.Ytmghngehpgolgaa

/- Contracts of the library at this program, laid in plain words. -/
namespace Go.Proofs.Ytmghngehpgolgaa
open Go.Shelf
def layEd_ren : Go.Shelf.Ren := ⟨fun | 6 => 34 | 15 => 62 | 14 => 61 | 28 => 86 | 29 => 87 | 20 => 78 | 21 => 79 | 22 => 80 | 23 => 81 | 24 => 82 | 25 => 83 | 26 => 84 | 27 => 85 | 46 => 103 | 47 => 104 | 48 => 105 | 49 => 106 | 50 => 107 | 57 => 112 | n => n, fun | 22 => 23 | 24 => 55 | 25 => 78 | 3 => 3 | 39 => 104 | 0 => 0 | 53 => 136 | 55 => 138 | 4 => 4 | 46 => 130 | 45 => 129 | 50 => 95 | 5 => 5 | 9 => 9 | 66 => 145 | 70 => 149 | 76 => 153 | 77 => 154 | n => n, fun | n => n⟩
theorem layEd : Go.Proofs.SlLaysF0.n6 Try.prog layEd_ren := {
  mixed := by kernel_rfl
  f6 := ⟨Try.f34.name, by decide, Try.func34.trans (congrArg some (by kernel_rfl))⟩
  f14 := ⟨Try.f61.name, by decide, Try.func61.trans (congrArg some (by kernel_rfl))⟩
  f15 := Try.func62.trans (congrArg some (by kernel_rfl))
  f20 := ⟨Try.f78.name, by decide, Try.func78.trans (congrArg some (by kernel_rfl))⟩
  f21 := ⟨Try.f79.name, by decide, Try.func79.trans (congrArg some (by kernel_rfl))⟩
  f22 := ⟨Try.f80.name, by decide, Try.func80.trans (congrArg some (by kernel_rfl))⟩
  f23 := ⟨Try.f81.name, by decide, Try.func81.trans (congrArg some (by kernel_rfl))⟩
  f24 := ⟨Try.f82.name, by decide, Try.func82.trans (congrArg some (by kernel_rfl))⟩
  f25 := ⟨Try.f83.name, by decide, Try.func83.trans (congrArg some (by kernel_rfl))⟩
  f26 := ⟨Try.f84.name, by decide, Try.func84.trans (congrArg some (by kernel_rfl))⟩
  f27 := ⟨Try.f85.name, by decide, Try.func85.trans (congrArg some (by kernel_rfl))⟩
  f28 := Try.func86.trans (congrArg some (by kernel_rfl))
  f29 := Try.func87.trans (congrArg some (by kernel_rfl))
  f46 := ⟨Try.f103.name, by decide, Try.func103.trans (congrArg some (by kernel_rfl))⟩
  f47 := Try.func104.trans (congrArg some (by kernel_rfl))
  f48 := Try.func105.trans (congrArg some (by kernel_rfl))
  f49 := ⟨Try.f106.name, by decide, Try.func106.trans (congrArg some (by kernel_rfl))⟩
  f50 := ⟨Try.f107.name, by decide, Try.func107.trans (congrArg some (by kernel_rfl))⟩
  f57 := ⟨Try.f112.name, by decide, Try.func112.trans (congrArg some (by kernel_rfl))⟩
  t0 := Try.underlying0
  a0 := Try.isAgg0
  z0 := Try.sizeOf0
  v0 := Try.zeroValue0
  t3 := Try.underlying3
  a3 := Try.isAgg3
  z3 := Try.sizeOf3
  v3 := Try.zeroValue3
  t4 := Try.underlying4
  a4 := Try.isAgg4
  z4 := Try.sizeOf4
  v4 := Try.zeroValue4
  t5 := Try.underlying5
  a5 := Try.isAgg5
  z5 := Try.sizeOf5
  v5 := Try.zeroValue5
  t9 := Try.underlying9
  a9 := Try.isAgg9
  z9 := Try.sizeOf9
  v9 := Try.zeroValue9
  t22 := Try.underlying23
  a22 := Try.isAgg23
  z22 := Try.sizeOf23
  v22 := Try.zeroValue23
  t25 := Try.underlying78
  a25 := Try.isAgg78
  z25 := Try.sizeOf78
  v25 := Try.zeroValue78
  t39 := Try.underlying104
  a39 := Try.isAgg104
  z39 := Try.sizeOf104
  v39 := Try.zeroValue104
  t45 := Try.underlying129
  a45 := Try.isAgg129
  z45 := Try.sizeOf129
  v45 := Try.zeroValue129
  t46 := Try.underlying130
  a46 := Try.isAgg130
  z46 := Try.sizeOf130
  v46 := Try.zeroValue130
  t50 := Try.underlying95
  a50 := Try.isAgg95
  z50 := Try.sizeOf95
  v50 := Try.zeroValue95
  t53 := Try.underlying136
  a53 := Try.isAgg136
  z53 := Try.sizeOf136
  v53 := Try.zeroValue136
  t55 := Try.underlying138
  a55 := Try.isAgg138
  z55 := Try.sizeOf138
  v55 := Try.zeroValue138
  t66 := Try.underlying145
  a66 := Try.isAgg145
  z66 := Try.sizeOf145
  v66 := Try.zeroValue145
  t70 := Try.underlying149
  a70 := Try.isAgg149
  z70 := Try.sizeOf149
  v70 := Try.zeroValue149
  t76 := Try.underlying153
  a76 := Try.isAgg153
  z76 := Try.sizeOf153
  v76 := Try.zeroValue153
  t77 := Try.underlying154
  a77 := Try.isAgg154
  z77 := Try.sizeOf154
  v77 := Try.zeroValue154 }
end Go.Proofs.Ytmghngehpgolgaa

/- Layer 3: slices.Sorted, checkNewEvents, slices.SortFunc of edges. -/
namespace Go.Proofs.Ytmghngehpgolgaa
open Go.RowKit Go.Sort

set_option maxHeartbeats 400000 in
theorem collect_any (Bs : Nat) (ad : Option Addr) (len cap : Nat) (zs : List Int) (hl : zs.length = len) (hlen : len ≤ 100000) (w : World) (hBs : Bs < w.heap.size)
    (hc0 : w.cell? ⟨Bs, 0, none⟩ = some (.slice ad len cap)) (hI : RdI w w.heap.size ad zs) :
    Calls Try.prog 57 #[.func (.func 59) #[] #[.pointer (some ⟨Bs, 0, none⟩)]] w fun e W' => ∃ v, e = .returned v ∧ Own W' w.heap.size v zs ∧ Below w.heap.size w W' := by
  have H := Lib.hid ((callsIn_wide (n := 5)).1 (appendSeq_in Fence.wide 5 trivial trivial rfl (by omega) Bs ad len cap zs hl hlen w hBs hc0 hI))
  clear hl hc0 hI hBs
  go_enter Try.func57, Try.ntmps57
  go_wp2_with (go_at_call 76; refine H.out.mono ?_; rintro e w1 ⟨v, rfl, ho, hb⟩)
  go_ret
  exact ⟨v, rfl, ho, hb⟩
set_option maxHeartbeats 400000 in
theorem sorted_any (Bs : Nat) (ad : Option Addr) (len cap : Nat) (zs : List Int) (hl : zs.length = len) (hlen : len ≤ 100000) (w : World) (hBs : Bs < w.heap.size)
    (hc0 : w.cell? ⟨Bs, 0, none⟩ = some (.slice ad len cap)) (hI : RdI w w.heap.size ad zs) :
    Calls Try.prog 30 #[.func (.func 59) #[] #[.pointer (some ⟨Bs, 0, none⟩)]] w fun e W' => ∃ A c, e = .returned (.slice A len c) ∧ Own W' w.heap.size (.slice A len c) (srtI zs) ∧ Below w.heap.size w W' := by
  have H := Lib.hid (collect_any Bs ad len cap zs hl hlen w hBs hc0 hI)
  have HL := Lib.hid hl
  clear hl hc0 hI hBs
  go_enter Try.func30, Try.ntmps30
  go_wp2_with fail
  refine H.out.mono ?_
  rintro e w1 ⟨v, rfl, ho, hb⟩
  have HO := Lib.hid ho
  have HB := Lib.hid hb
  have HS := Lib.hid (sort_own w1 ho (by rw [HL.out]; exact hlen))
  clear ho hb
  go_wp2_with fail
  refine HS.out.mono ?_
  rintro e w2 ⟨rfl, ho2, hg2⟩
  have HB2 := Lib.hid (HB.out.grown hg2 HB.out.size (fun k hk => (HO.out.lt k hk).1))
  obtain ⟨A', c', rfl, _⟩ := own_rd ho2
  have e1 : (srtI zs).length = len := by rw [srtI_len, HL.out]
  have HO2 := Lib.hid ho2
  rw [e1] at HO2
  have HE := Lib.hid e1
  clear ho2 hg2 e1
  go_wp2_with fail
  go_ret
  exact ⟨A', c', congrArg (fun k : Nat => Ending.returned (.slice A' k c')) HE.out, HO2.out, HB2.out⟩
theorem values_any (A : Option Addr) (n c : Nat) (w : World) : Calls Try.prog 31 #[.slice A n c] w fun e w' => e = .returned (.func (.func 59) #[] #[.pointer (some ⟨w.heap.size, 0, none⟩)]) ∧ w' = w.alloc (.cells #[.slice A n c] 22) := by
  go_enter Try.func31, Try.ntmps31
  go_wp2
  go_ret
  exact ⟨rfl, rfl⟩

theorem idx_none {zs : List Int} {x : Int} {k : Nat} (hk : k = zs.length) (h : x ∉ zs.take k) : x ∉ zs := by
  rwa [List.take_of_length_le (by omega)] at h
/-- The first error of a list of new events. -/
def neGo : List Int → List Int → Int
  | _, [] => 0
  | seen, x :: r => if x < 0 ∨ 32 ≤ x then 2 else if x ∈ seen then 8 else neGo (seen ++ [x]) r
def neE (zs : List Int) : Int := neGo [] zs
theorem ne_range {zs : List Int} {k : Nat} {v : Int} (h : k < zs.length) (hv : neGo (zs.take k) (zs.drop k) = v) (hx : zs.getD k 0 < 0 ∨ 32 ≤ zs.getD k 0) : v = 2 := by
  rw [← hv, drop_step zs k h, neGo, if_pos hx]
theorem ne_dup {zs : List Int} {k : Nat} {v : Int} (h : k < zs.length) (hv : neGo (zs.take k) (zs.drop k) = v) (hx : ¬ (zs.getD k 0 < 0 ∨ 32 ≤ zs.getD k 0)) (hm : zs.getD k 0 ∈ zs.take k) : v = 8 := by
  rw [← hv, drop_step zs k h, neGo, if_neg hx, if_pos hm]
theorem ne_next {zs : List Int} {k : Nat} {v : Int} (h : k < zs.length) (hv : neGo (zs.take k) (zs.drop k) = v) (hx : ¬ (zs.getD k 0 < 0 ∨ 32 ≤ zs.getD k 0)) (hm : zs.getD k 0 ∉ zs.take k) : neGo (zs.take (k + 1)) (zs.drop (k + 1)) = v := by
  rw [← hv, drop_step zs k h, neGo, if_neg hx, if_neg hm]
  congr 1
  rw [List.take_succ_eq_append_getElem h]; simp [List.getD, List.getElem?_eq_getElem h]
theorem ne_end {zs : List Int} {k : Nat} {v : Int} (hk : k = zs.length) (hv : neGo (zs.take k) (zs.drop k) = v) : v = 0 := by
  rw [← hv, hk, List.drop_of_length_le (Nat.le_refl _), neGo]

theorem grown_sort {α : Type} [Inhabited α] (enc : α → Value) (w : World) (blk off m : Nat) (dk : Array α) (os : Array Obj) : w.grownBy (Go.Sort.grow (putRow enc (Go.Sort.ahead w m) blk off dk) os) (some blk) := by
  refine ⟨rfl, rfl, rfl, by simp, fun k hk hne => ?_⟩
  rw [heap_grow_old _ _ (by simpa using hk)]
  have hne' : blk ≠ k := fun e => hne (by rw [e])
  simp only [putRow, mapBlock, Array.getElem?_modify, if_neg hne']
  rfl
instance : Inhabited Ed := ⟨⟨0, 0, 0⟩⟩
def encEd (x : Ed) : List Value := [.int .i64 x.f, .int .i64 x.e, .int .i64 x.t]
theorem cmp_swo : SWO (Go.Proofs.ltOf cmpE) where
  irrefl x := by unfold Go.Proofs.ltOf; simp only [decide_eq_false_iff_not]; rw [cmpE_lt]; exact ltE_irrefl x
  trans x y z h1 h2 := by unfold Go.Proofs.ltOf at *; simp only [decide_eq_true_eq] at *; rw [cmpE_lt] at *; exact ltE_trans h1 h2
  ntrans x y z h1 h2 := by unfold Go.Proofs.ltOf at *; simp only [decide_eq_false_iff_not] at *; rw [cmpE_lt] at *; unfold ltE at *; omega
theorem cmp_lays (blk off size : Nat) (w : World) : CmpLays Try.prog 94 #[] encEd 3 cmpE blk off size w :=
  fun _ _ _ _ x y => compareEdges_any x.f x.e x.t y.f y.e y.t _
theorem sortEd_any {base : Nat} {v : Value} {l : List Ed} (w : World) (h : OwnE w base v l) (hl : l.length ≤ 1000000) :
    Calls Try.prog 34 #[v, .func (.func 94) #[] #[]] w fun e w' => e = .returned (.tuple #[]) ∧ ∃ A c l', v = .slice A l'.length c ∧ l'.Perm l ∧ l'.Pairwise (fun x y => ¬ ltE y x) ∧ RdG w' w'.heap.size A l' ∧ w.grownBy w' v.ownBlock ∧ l'.length ≤ c ∧ c ≤ 9223372036854775807 := by
  rcases h.2 with ⟨rfl, h0⟩ | ⟨g, cap, cur, rfl, hg, hh, hn, hcap, hsz, htake⟩
  · have hz : l = [] := List.eq_nil_of_length_eq_zero h0
    subst hz
    refine Calls.mono (show Calls Try.prog 34 _ w _ from AnyF.slices_SortFunc_none layEd none 0 _ w) ?_
    rintro e w' ⟨rfl, rfl⟩
    exact ⟨rfl, none, 0, [], rfl, List.Perm.refl _, List.Pairwise.nil, RdG.nil _ _ _, World.grownBy.refl _ _, Nat.le_refl _, by omega⟩
  · have hgl := (h.lt g rfl).2
    have hH : HoldsK encEd 3 w g 0 l.toArray := fun t ht => by
      rw [size_flatK] at ht
      have ht3 : t < l.length * 3 := by simpa using ht
      have hj : t / 3 < l.length := by omega
      refine ⟨?_, ?_⟩
      · rw [Nat.zero_add, World.ownsRow.cellAt (cap := cap) h t (by omega), get_flatK _ _ _ t (by simpa using ht3)]
        obtain ⟨e0, e1, e2⟩ := encE_at l (t / 3) _ (List.getElem?_eq_getElem hj)
        have hg : l.toArray[t / 3]! = l[t / 3] := by simp [hj]
        rw [hg]
        rcases (show t % 3 = 0 ∨ t % 3 = 1 ∨ t % 3 = 2 by omega) with hm | hm | hm
        · rw [hm]; have ht : t = t / 3 * 3 := by omega
          conv => lhs; rw [ht]
          rw [e0]; rfl
        · rw [hm]; have ht : t = t / 3 * 3 + 1 := by omega
          conv => lhs; rw [ht]
          rw [e1]; rfl
        · rw [hm]; have ht : t = t / 3 * 3 + 2 := by omega
          conv => lhs; rw [ht]
          rw [e2]; rfl
      · rw [Nat.zero_add]
        exact World.ownsRow.frozenAt (cap := cap) h t
    have eg : ∀ args w, (callFunc 94 args).run Try.prog w = .ok (.enter 94 args) w := enters_of Try.func94 (by kernel_rfl) rfl
    refine Calls.mono (show Calls Try.prog 34 _ w _ from AnyQ.slices_SortFunc layEd 3 Try.isAgg55 Try.sizeOf55 encEd (fun _ => rfl) (fun x v hv => by simp [encEd] at hv; rcases hv with rfl | rfl | rfl <;> rfl) cmpE cmp_swo 94 #[] g 0 cap l.toArray w eg (cmp_lays _ _ _ _) hH hgl (by simp; omega)) ?_
    rintro e w' ⟨rfl, d', nn, os, hp, hs, rfl⟩
    have hsz2 : d'.size = l.length := by have := hp.1; simpa using this
    have hH2 := holdsK_sortWorldK encEd 3 w g 0 nn l.toArray d' os hgl hH (by simpa using hsz2)
    have hlen2 : d'.toList.length = l.length := by simpa using hsz2
    have hperm : d'.toList.Perm l := by
      have := hp.2.2
      simpa [hsz2, Array.extract_eq_self_of_le] using this
    refine ⟨rfl, some ⟨g, 0, none⟩, cap, d'.toList, by rw [hlen2], hperm, ?_, ?_, grown_sort id w g 0 nn _ os, by rw [hlen2]; exact hn, by unfold maxLen at hcap; omega⟩
    · rw [List.pairwise_iff_getElem]
      intro i j hi hj hij
      have h1 := hs i j (Nat.zero_le _) hij (by simp; omega)
      have h2 : i < d'.size := by simpa using hi
      have h3 : j < d'.size := by simpa using hj
      unfold Go.Proofs.ltOf at h1
      simp only [decide_eq_false_iff_not] at h1
      rw [cmpE_lt] at h1
      simpa [h2, h3] using h1
    · intro h0
      refine ⟨g, 0, rfl, lt_sortWorldK encEd 3 w g 0 nn d' os hgl, fun j x hj => ?_⟩
      have hj2 : j < d'.size := by have := (List.getElem?_eq_some_iff.1 hj).1; simpa using this
      have hx : d'[j]! = x := by
        have := (List.getElem?_eq_some_iff.1 hj).2
        simpa [hj2] using this
      have c0 := (hH2.cell (i := j) (c := 0) hj2 (by omega)).1
      have c1 := (hH2.cell (i := j) (c := 1) hj2 (by omega)).1
      have c2 := (hH2.cell (i := j) (c := 2) hj2 (by omega)).1
      rw [hx] at c0 c1 c2
      exact ⟨c0, c1, c2⟩
end Go.Proofs.Ytmghngehpgolgaa

/- Contracts of the library at this program, laid in plain words. -/
namespace Go.Proofs.Ytmghngehpgolgaa
open Go.Shelf
def layGr_ren : Go.Shelf.Ren := ⟨fun | 4 => 60 | n => n, fun | 22 => 22 | 25 => 3 | 3 => 3 | 4 => 4 | 9 => 9 | 20 => 20 | 0 => 0 | n => n, fun | n => n⟩
theorem layGr : Go.Proofs.Lays8.n4 Try.prog layGr_ren := {
  mixed := by kernel_rfl
  f4 := ⟨Try.f60.name, by decide, Try.func60.trans (congrArg some (by kernel_rfl))⟩
  t0 := Try.underlying0
  a0 := Try.isAgg0
  z0 := Try.sizeOf0
  v0 := Try.zeroValue0
  t3 := Try.underlying3
  a3 := Try.isAgg3
  z3 := Try.sizeOf3
  v3 := Try.zeroValue3
  t4 := Try.underlying4
  a4 := Try.isAgg4
  z4 := Try.sizeOf4
  v4 := Try.zeroValue4
  t9 := Try.underlying9
  a9 := Try.isAgg9
  z9 := Try.sizeOf9
  v9 := Try.zeroValue9
  t20 := Try.underlying20
  a20 := Try.isAgg20
  z20 := Try.sizeOf20
  v20 := Try.zeroValue20
  t22 := Try.underlying22
  a22 := Try.isAgg22
  z22 := Try.sizeOf22
  v22 := Try.zeroValue22 }
end Go.Proofs.Ytmghngehpgolgaa

/- Layer 3: slices.Grow from nil, slices.Concat of two lists; words held by slices; lists of words of the call's own. -/
namespace Go.Proofs.Ytmghngehpgolgaa
open Go.RowKit Go.Sort

set_option maxHeartbeats 1000000 in
theorem grow_nil (N : Nat) (hN : N ≤ 100000) (w : World) :
    Calls Try.prog 60 #[.slice none 0 0, .int .i64 (N : Int)] w fun e w' => ∃ v, e = .returned v ∧ Own w' w.heap.size v [] ∧ Below w.heap.size w w' := by
  rcases Nat.eq_zero_or_pos N with h0 | h0
  · subst h0
    refine Calls.mono (show Calls Try.prog 60 _ w _ from Any8.slices_Grow_room layGr none 0 0 0 w (Nat.le_refl _) (by omega) (by omega) (by omega)) ?_
    rintro e w' ⟨rfl, rfl⟩
    exact ⟨_, rfl, World.ownsRow_nil _ _ _ _, Below.refl _ _⟩
  · obtain ⟨i0, hi, hz0, hz1, hz2⟩ := info_parts info_int
    refine Calls.mono (show Calls Try.prog 60 _ w _ from Any8.slices_Grow_grow layGr i0 (.int .i64 0) hi hz0 (by rw [hz1]; omega) none 0 0 N [] w (Nat.le_refl _) (by omega) (by rw [hz2]; omega) (by omega) (by simp) (fun _ => rfl) (fun a h => by cases h)) ?_
    rintro e w' ⟨rfl, rfl⟩
    have hge := grownCap_ge w (0 + N) 0 3
    have hle := grownCap_le_maxLen w (0 + N) 0 3 (by unfold maxLen; omega)
    refine ⟨_, rfl, ?_, (Below.refl _ w).drew.alloc (Nat.le_refl _) _⟩
    refine ⟨rfl, .inr ⟨w.heap.size, _, _, rfl, Nat.le_refl _, heap_alloc_new w.drew _, Nat.zero_le _, hle, ?_, ?_⟩⟩
    · simp only [Array.size_append, size_zeroCells, List.size_toArray, List.length_nil, Value.cells, Nat.mul_one]
      have e : layGr_ren.t 25 = 3 := rfl
      rw [e]
      simp only [Nat.zero_add, Nat.sub_zero] at hge ⊢
      simp
      omega
    · simp

/-- The two slices that Concat takes. -/
structure TwoS (w : World) (b o : Nat) (A1 : Option Addr) (n1 c1 : Nat) (A2 : Option Addr) (n2 c2 : Nat) (xs ys : List Int) : Prop where
  c0 : w.cell? ⟨b, o, none⟩ = some (.slice A1 n1 c1)
  c1 : w.cell? ⟨b, o + 1, none⟩ = some (.slice A2 n2 c2)
  r0 : RdI w w.heap.size A1 xs
  r1 : RdI w w.heap.size A2 ys
  l0 : xs.length = n1
  l1 : ys.length = n2
  bb : b < w.heap.size
theorem TwoS.below {w w' : World} {b o : Nat} {A1 : Option Addr} {n1 c1 : Nat} {A2 : Option Addr} {n2 c2 : Nat} {xs ys : List Int} (h : TwoS w b o A1 n1 c1 A2 n2 c2 xs ys) (hb : Below w.heap.size w w') : TwoS w' b o A1 n1 c1 A2 n2 c2 xs ys :=
  ⟨(hb.cell (p := ⟨b, o, none⟩) h.bb).trans h.c0, (hb.cell (p := ⟨b, o + 1, none⟩) h.bb).trans h.c1, (h.r0.below hb (Nat.le_refl _)).more hb.size, (h.r1.below hb (Nat.le_refl _)).more hb.size, h.l0, h.l1, Nat.lt_of_lt_of_le h.bb hb.size⟩

set_option maxHeartbeats 2000000 in
theorem concat_any (b o cp : Nat) (A1 : Option Addr) (n1 c1 : Nat) (A2 : Option Addr) (n2 c2 : Nat) (xs ys : List Int) (w : World) (h : TwoS w b o A1 n1 c1 A2 n2 c2 xs ys) (hb1 : n1 ≤ 50000) (hb2 : n2 ≤ 50000) :
    Calls Try.prog 32 #[.slice (some ⟨b, o, none⟩) 2 cp] w fun e w' => ∃ A c, e = .returned (.slice A (n1 + n2) c) ∧ Own w' w.heap.size (.slice A (n1 + n2) c) (xs ++ ys) ∧ Below w.heap.size w w' := by
  have HT := Lib.hid h
  have HG := Lib.hid (grow_nil (n1 + n2) (by omega) w)
  have c0 := h.c0
  have c1' := h.c1
  clear h
  go_enter Try.func32, Try.ntmps32
  go_wp2_with fail
  go_loop [3, 11] (fun u i => (i = .int .i64 0 ∧ u = .int .i64 0) ∨ (i = .int .i64 1 ∧ u = .int .i64 (n1 : Int)) ∨ (i = .int .i64 2 ∧ u = .int .i64 ((n1 + n2 : Nat) : Int))) (fun _ i => 2 - (intOf i).toNat)
  case atStart => exact .inl ⟨rfl, rfl⟩
  case round =>
    rcases hrel with ⟨rfl, rfl⟩ | ⟨rfl, rfl⟩ | ⟨rfl, rfl⟩
    · have hn : ¬ ((n1 : Int) < 0) := by omega
      go_wp2_with fail
      go_round
      case rel => exact .inr (.inl ⟨rfl, by go_num⟩)
      case measure => simp [intOf]
    · have hn : ¬ ((n1 : Int) + (n2 : Int) < 0) := by omega
      go_wp2_with fail
      go_round
      case rel => exact .inr (.inr ⟨rfl, by go_num⟩)
      case measure => simp [intOf]
    · go_wp2_with fail
      refine HG.out.mono ?_
      rintro e w1 ⟨v1, rfl, ho1, hbw1⟩
      have HO1 := Lib.hid ho1
      have HB1 := Lib.hid hbw1
      have HT1 := Lib.hid (HT.out.below hbw1)
      clear c0 c1' ho1 hbw1
      go_wp2_with fail
      go_loopw [6, 27] (fun v i wr => Hid (Below w.heap.size w wr) ∧ Hid (TwoS wr b o A1 n1 c1 A2 n2 c2 xs ys) ∧ ((i = .int .i64 0 ∧ Hid (Own wr w.heap.size v [])) ∨ (i = .int .i64 1 ∧ Hid (Own wr w.heap.size v xs)) ∨ (i = .int .i64 2 ∧ Hid (Own wr w.heap.size v (xs ++ ys))))) (fun _ i _ => 2 - (intOf i).toNat)
      case atStart => exact ⟨HB1, HT1, .inl ⟨rfl, HO1⟩⟩
      case round =>
        clear HB1 HT1 HO1
        obtain ⟨hbel, ht, hor⟩ := hrel
        have c0 := ht.out.c0
        have c1' := ht.out.c1
        have hsz := hbel.out.size
        rcases hor with ⟨rfl, ho⟩ | ⟨rfl, ho⟩ | ⟨rfl, ho⟩
        · go_wp2_with (at_builtin; refine wpList_app_rd rfl (.tmp 31) (.tmp 32) rfl w.heap.size _ 0 [] rfl ho.out wr.heap.size A1 n1 c1 xs rfl ht.out.r0 ht.out.l0 (by unfold maxLen; omega) (by omega) hsz ?_)
          intro v' w2 hown hgrow
          have HB2 := Lib.hid (hbel.out.grown hgrow hsz (fun k hk => (ho.out.lt k hk).1))
          have HO2 := Lib.hid (show Own w2 w.heap.size v' xs by unfold Own; rw [ht.out.l0]; simpa using hown)
          have HT2 := Lib.hid (show TwoS w2 b o A1 n1 c1 A2 n2 c2 xs ys from HT.out.below HB2.out)
          clear hown hgrow
          go_wp2_with fail
          go_roundw
          case rel => exact ⟨HB2, HT2, .inr (.inl ⟨rfl, HO2⟩)⟩
          case measure => simp [intOf]
        · have ho' : wr.ownsRow w.heap.size 3 1 u6 n1 (xs.map (Value.int .i64)) := by have := ho.out; unfold Own at this; rwa [ht.out.l0] at this
          have HO := Lib.hid ho'
          clear ho'
          go_wp2_with (at_builtin; refine wpList_app_rd rfl (.tmp 31) (.tmp 32) rfl w.heap.size _ n1 xs rfl HO.out wr.heap.size A2 n2 c2 ys rfl ht.out.r1 ht.out.l1 (by unfold maxLen; omega) (by omega) hsz ?_)
          intro v' w2 hown hgrow
          have HB2 := Lib.hid (hbel.out.grown hgrow hsz (fun k hk => (ho.out.lt k hk).1))
          have HO2 := Lib.hid (show Own w2 w.heap.size v' (xs ++ ys) by unfold Own; rw [List.length_append, ht.out.l0, ht.out.l1, List.map_append]; first | exact hown | simpa using hown)
          have HT2 := Lib.hid (show TwoS w2 b o A1 n1 c1 A2 n2 c2 xs ys from HT.out.below HB2.out)
          clear hown hgrow
          go_wp2_with fail
          go_roundw
          case rel => exact ⟨HB2, HT2, .inr (.inr ⟨rfl, HO2⟩)⟩
          case measure => simp [intOf]
        · obtain ⟨A3, c3, rfl, _⟩ := own_rd ho.out
          have HO3 := Lib.hid (show Own wr w.heap.size (.slice A3 (n1 + n2) c3) (xs ++ ys) by have := ho.out; rwa [List.length_append, ht.out.l0, ht.out.l1] at this)
          have hlen := Lib.hid (show (xs ++ ys).length = n1 + n2 by rw [List.length_append, ht.out.l0, ht.out.l1])
          go_wp2_with fail
          go_ret
          exact ⟨A3, c3, congrArg (fun k : Nat => Ending.returned (.slice A3 k c3)) hlen.out, HO3.out, hbel.out⟩
end Go.Proofs.Ytmghngehpgolgaa

/- Layer 3: lists of words of the call's own; the words of an automaton. -/
namespace Go.Proofs.Ytmghngehpgolgaa
open Go.RowKit Go.Sort

theorem info_ints : (Try.prog.info? 22).map (fun i => (i.zero, i.size, i.bytes)) = some (some (.slice none 0 0), 1, 24) := by kernel_rfl
/-- A slice that holds a word: its address, its capacity, the word. -/
structure Hd where
  A : Option Addr
  c : Nat
  z : List Int
def Hd.enc (h : Hd) : Value := .slice h.A h.z.length h.c
instance : Inhabited Hd := ⟨⟨none, 0, []⟩⟩

theorem own_more {w : World} {base base' n : Nat} {e : TypeId} {sz : Nat} {v : Value} {xs : List Value} (h : w.ownsRow base e sz v n xs) (hb : base' ≤ base) : w.ownsRow base' e sz v n xs :=
  ⟨h.1, by
    rcases h.2 with h | ⟨g, cap, cur, e, hge, r⟩
    · exact .inl h
    · exact .inr ⟨g, cap, cur, e, by omega, r⟩⟩
/-- The words and the states to which they lead, in memory of the call's own. -/
structure GL (w : World) (base : Nat) (vw : Value) (hs : List Hd) (ve : Value) (es : List Int) : Prop where
  row : w.ownsRow base 22 1 vw hs.length (hs.map Hd.enc)
  own : ∀ h ∈ hs, Own w base h.enc h.z
  ends : Own w base ve es
  ne : ∀ h ∈ hs, h.enc.ownBlock = none ∨ h.enc.ownBlock ≠ ve.ownBlock
theorem GL.below {w w' : World} {base : Nat} {vw ve : Value} {hs : List Hd} {es : List Int} (h : GL w base vw hs ve es) (hb : Below w.heap.size w w') : GL w' base vw hs ve es :=
  ⟨own_below h.row hb, fun x hx => own_below (h.own x hx) hb, own_below h.ends hb, h.ne⟩
theorem GL.drewN {w : World} {base : Nat} {vw ve : Value} {hs : List Hd} {es : List Int} (h : GL w base vw hs ve es) (q : Nat) : GL (w.drewN q) base vw hs ve es := ⟨h.row, h.own, h.ends, h.ne⟩
theorem GL.base {w : World} {base B : Nat} {vw ve : Value} {hs : List Hd} {es : List Int} (h : GL w base vw hs ve es) (hB : B ≤ base) : GL w B vw hs ve es :=
  ⟨own_more h.row hB, fun x hx => own_more (h.own x hx) hB, own_more h.ends hB, h.ne⟩
theorem GL.drew {w : World} {base : Nat} {vw ve : Value} {hs : List Hd} {es : List Int} (h : GL w base vw hs ve es) : GL w.drew base vw hs ve es := ⟨h.row, h.own, h.ends, h.ne⟩
/-- A word in new memory is appended. -/
theorem GL.word {w w0 w1 : World} {base n : Nat} {vw vw' ve : Value} {hs : List Hd} {es : List Int} {x : Hd} (h : GL w base vw hs ve es) (hb : Below w.heap.size w w0) (hx : Own w0 w.heap.size x.enc x.z) (hbs : base ≤ w.heap.size)
    (hr : w1.ownsRow base 22 1 vw' n (hs.map Hd.enc ++ [x.enc])) (hn : n = hs.length + 1) (hg : w0.grownBy w1 vw.ownBlock) : GL w1 base vw' (hs ++ [x]) ve es := by
  subst hn
  have h0 := h.below hb
  have hxb : Own w0 base x.enc x.z := ⟨hx.1, by
    rcases hx.2 with h | ⟨g, cap, cur, e, hge, r⟩
    · exact .inl h
    · exact .inr ⟨g, cap, cur, e, by omega, r⟩⟩
  refine ⟨by simpa using hr, fun y hy => ?_, own_row h0.ends hg (owns_ne h0.ends h0.row (by decide)), fun y hy => ?_⟩
  · rcases List.mem_append.1 hy with hy | hy
    · exact own_row (h0.own y hy) hg (owns_ne (h0.own y hy) h0.row (by decide))
    · rw [List.mem_singleton] at hy; subst hy
      exact own_row hxb hg (owns_ne hxb h0.row (by decide))
  · rcases List.mem_append.1 hy with hy | hy
    · exact h.ne y hy
    · rw [List.mem_singleton] at hy; subst hy
      by_cases he : y.enc.ownBlock = none
      · exact .inl he
      · refine .inr fun e => ?_
        obtain ⟨j, hj⟩ := Option.ne_none_iff_exists'.1 he
        have h1 := (hx.lt j hj).1
        have h2 := (h.ends.lt j (by rw [← e, hj])).2
        omega
/-- A state is appended to the ends. -/
theorem GL.end_ {w w1 : World} {base : Nat} {vw ve ve' : Value} {hs : List Hd} {es : List Int} {t : Int} (h : GL w base vw hs ve es) (ho : Own w1 base ve' (es ++ [t])) (hg : w.grownBy w1 ve.ownBlock) (hs' : ∀ j, ve'.ownBlock = some j → ve.ownBlock = some j ∨ w.heap.size ≤ j) : GL w1 base vw hs ve' (es ++ [t]) := by
  refine ⟨own_row h.row hg (owns_ne h.row h.ends (by decide)), fun y hy => own_row (h.own y hy) hg (h.ne y hy), ho, fun y hy => ?_⟩
  by_cases he : y.enc.ownBlock = none
  · exact .inl he
  · refine .inr fun e => ?_
    obtain ⟨j, hj⟩ := Option.ne_none_iff_exists'.1 he
    have h1 := ((h.own y hy).lt j hj).2
    rcases hs' j (by rw [← e, hj]) with h2 | h2
    · rcases h.ne y hy with h3 | h3
      · exact he h3
      · exact h3 (by rw [hj, h2])
    · omega
theorem GL.len {w : World} {base : Nat} {vw ve : Value} {hs : List Hd} {es : List Int} {N : Nat} (h : GL w base vw hs ve es) (hN : hs.length = N) (h0 : 0 < N) : ∃ g cap, vw = .slice (some ⟨g, 0, none⟩) N cap ∧ N ≤ cap ∧ cap ≤ 9223372036854775807 ∧ ∀ j x, hs[j]? = some x → w.cell? ⟨g, j, none⟩ = some x.enc := by
  subst hN
  have hr := h.row
  rcases hr.2 with ⟨rfl, h1⟩ | ⟨g, cap, cur, rfl, hg, hh, hn, hcap, hsz, htake⟩
  · omega
  · refine ⟨g, cap, rfl, hn, by unfold maxLen at hcap; omega, fun j x hj => ?_⟩
    have hl := (List.getElem?_eq_some_iff.1 hj).1
    rw [World.ownsRow.cellAt (cap := cap) hr j (by omega), List.getElem?_map, hj]; rfl
theorem GL.word_rd {w : World} {base : Nat} {vw ve : Value} {hs : List Hd} {es : List Int} (h : GL w base vw hs ve es) {j : Nat} {x : Hd} (hj : hs[j]? = some x) : RdI w w.heap.size x.A x.z ∧ x.z.length ≤ x.c ∧ x.c ≤ 9223372036854775807 := by
  have ho := h.own x (List.mem_of_getElem? hj)
  obtain ⟨A, c, e, hrd, h1, h2⟩ := own_rdc ho
  unfold Hd.enc at e
  injection e with e1 e2 e3
  subst e1; subst e3
  exact ⟨hrd, h1, h2⟩

theorem two_made (w : World) {Ax : Option Addr} {lx cx : Nat} {zx : List Int} {xe : Int} (hr : RdI w w.heap.size Ax zx) (hl : zx.length = lx) :
    TwoS ((w.alloc (.cells #[.int .i64 xe] 3)).alloc (.cells #[.slice Ax lx cx, .slice (some ⟨w.heap.size, 0, none⟩) 1 1] 22)) (w.heap.size + 1) 0 Ax lx cx (some ⟨w.heap.size, 0, none⟩) 1 1 zx [xe] := by
  have hR := Row.new (w.alloc (.cells #[.int .i64 xe] 3)) [.slice Ax lx cx, .slice (some ⟨w.heap.size, 0, none⟩) 1 1] 22
  have hb := ((Below.refl w.heap.size w).alloc (Nat.le_refl _) (.cells #[.int .i64 xe] 3)).alloc (by simp) (.cells #[.slice Ax lx cx, .slice (some ⟨w.heap.size, 0, none⟩) 1 1] 22)
  have hI := (Row.new w [.int .i64 xe] 3).alloc (.cells #[.slice Ax lx cx, .slice (some ⟨w.heap.size, 0, none⟩) 1 1] 22)
  simp only [World.size_alloc] at hR
  exact ⟨hR.cell 0 rfl, hR.cell 1 rfl, (hr.below hb (Nat.le_refl _)).more (by simp; omega), fun _ => ⟨w.heap.size, 0, rfl, (by simp; try omega), fun j hj => by
    obtain rfl : j = 0 := by simp at hj; omega
    exact hI.cell 0 rfl⟩, hl, rfl, by simp⟩
/-- The words that go on from one. -/
def extW (a : Au) (p : List Int × Int) : List (List Int × Int) := (succ a.ed p.2).map fun x => (p.1 ++ [x.e], x.t)
/-- The words as they are found, from the i-th on; none if there are more than 1024. -/
def genF (a : Au) (most : Int) : Nat → Nat → List (List Int × Int) → Option (List (List Int × Int))
  | 0, _, _ => none
  | f + 1, i, L =>
    if i < L.length ∧ ((L.getD i ([], 0)).1.length : Int) < most then
      if 1024 < (L ++ extW a (L.getD i ([], 0))).length then none else genF a most f (i + 1) (L ++ extW a (L.getD i ([], 0)))
    else some L
def genO (a : Au) (most : Int) : Option (List (List Int × Int)) := if a.st = 0 then some [] else genF a most 1026 0 [([], 0)]
theorem genF_stop {a : Au} {most : Int} {f i : Nat} {L : List (List Int × Int)} {R : Option (List (List Int × Int))} (hR : genF a most f i L = R) (hf : 0 < f) (h : ¬ (i < L.length ∧ ((L.getD i ([], 0)).1.length : Int) < most)) : R = some L := by
  obtain ⟨g, rfl⟩ : ∃ g, f = g + 1 := ⟨f - 1, by omega⟩
  rw [genF, if_neg h] at hR; exact hR.symm
theorem genF_limit {a : Au} {most : Int} {f i : Nat} {L : List (List Int × Int)} {R : Option (List (List Int × Int))} (hR : genF a most f i L = R) (hf : 0 < f) (h : i < L.length ∧ ((L.getD i ([], 0)).1.length : Int) < most) (hl : 1024 < L.length + (extW a (L.getD i ([], 0))).length) : R = none := by
  obtain ⟨g, rfl⟩ : ∃ g, f = g + 1 := ⟨f - 1, by omega⟩
  rw [genF, if_pos h, if_pos (by rw [List.length_append]; exact hl)] at hR; exact hR.symm
theorem genF_go {a : Au} {most : Int} {f i : Nat} {L : List (List Int × Int)} {R : Option (List (List Int × Int))} (hR : genF a most f i L = R) (hf : 0 < f) (h : i < L.length ∧ ((L.getD i ([], 0)).1.length : Int) < most) (hl : L.length + (extW a (L.getD i ([], 0))).length ≤ 1024) : genF a most (f - 1) (i + 1) (L ++ extW a (L.getD i ([], 0))) = R := by
  obtain ⟨g, rfl⟩ : ∃ g, f = g + 1 := ⟨f - 1, by omega⟩
  rw [genF, if_pos h, if_neg (by rw [List.length_append]; omega)] at hR; exact hR
theorem extW_range {a : Au} (h : RightW a) (p : List Int × Int) : ∀ q ∈ extW a p, 0 ≤ q.2 ∧ q.2 < a.st := fun q hq => by
  obtain ⟨x, hx, rfl⟩ := List.mem_map.1 hq
  exact (h.edr x (mem_succ.1 hx).1).2.1
end Go.Proofs.Ytmghngehpgolgaa

/- Layer 3, the mathematics of relabelling. -/
namespace Go.Proofs.Ytmghngehpgolgaa
open Go.RowKit Go.Sort

/-- An edge with its event replaced. -/
def relE (al tl : List Int) (x : Ed) : Ed := ⟨x.f, tl.getD (al.idxOf x.e) 0, x.t⟩
/-- Edges in increasing order. -/
def srtE (l : List Ed) : List Ed := l.mergeSort fun x y => !decide (ltE y x)
theorem srtE_perm (l : List Ed) : (srtE l).Perm l := List.mergeSort_perm l _
theorem srtE_sorted (l : List Ed) : (srtE l).Pairwise fun x y => ¬ ltE y x := by
  have := List.pairwise_mergeSort (le := fun x y : Ed => !decide (ltE y x)) (fun x y z h1 h2 => by simp at *; unfold ltE at *; omega) (fun x y => by simp; unfold ltE; omega) l
  exact this.imp fun h => by simpa using h
/-- No two edges have one state and one event. -/
def KeyD (l : List Ed) : Prop := l.Pairwise fun x y => ¬ (x.f = y.f ∧ x.e = y.e)
theorem keyD_perm {l r : List Ed} (h : KeyD l) (hp : r.Perm l) : KeyD r :=
  (hp.pairwise_iff (R := fun x y : Ed => ¬ (x.f = y.f ∧ x.e = y.e)) (fun {x y} h h' => h ⟨h'.1.symm, h'.2.symm⟩)).2 h
theorem strict_of {l : List Ed} (h : l.Pairwise fun x y => ¬ ltE y x) (hk : KeyD l) : l.Pairwise ltE := by
  refine (h.and hk).imp fun h => ?_
  obtain ⟨h1, h2⟩ := h
  unfold ltE at *; omega
theorem srtE_eq {l r : List Ed} (hk : KeyD l) (hp : r.Perm l) (hs : r.Pairwise fun x y => ¬ ltE y x) : r = srtE l :=
  sorted_ext (r := ltE) ltE_irrefl (fun x y z => ltE_trans) _ _ (strict_of hs (keyD_perm hk hp)) (strict_of (srtE_sorted l) (keyD_perm hk (srtE_perm l))) fun x => by rw [hp.mem_iff, (srtE_perm l).mem_iff]
/-- The automaton with other events, ahead of its canonical form. -/
def relA (a : Au) (tl : List Int) : Au := ⟨srtI tl, a.st, a.mr, srtE (a.ed.map (relE a.al tl))⟩
theorem neGo_ok : ∀ (zs seen : List Int), neGo seen zs = 0 → (∀ x ∈ zs, 0 ≤ x ∧ x < 32) ∧ zs.Nodup ∧ ∀ x ∈ zs, x ∉ seen
  | [], seen, _ => ⟨by simp, List.nodup_nil, by simp⟩
  | x :: r, seen, h => by
    rw [neGo] at h
    by_cases h1 : x < 0 ∨ 32 ≤ x
    · rw [if_pos h1] at h; omega
    · rw [if_neg h1] at h
      by_cases h2 : x ∈ seen
      · rw [if_pos h2] at h; omega
      · rw [if_neg h2] at h
        obtain ⟨a, b, c⟩ := neGo_ok r (seen ++ [x]) h
        refine ⟨fun y hy => ?_, ?_, fun y hy => ?_⟩
        · rcases List.mem_cons.1 hy with rfl | hy
          · omega
          · exact a y hy
        · rw [List.nodup_cons]
          exact ⟨fun hm => c x hm (by simp), b⟩
        · rcases List.mem_cons.1 hy with rfl | hy
          · exact h2
          · exact fun hm => c y hy (by simp [hm])
theorem neE_ok {zs : List Int} (h : neE zs = 0) : (∀ x ∈ zs, 0 ≤ x ∧ x < 32) ∧ zs.Nodup := ⟨(neGo_ok zs [] h).1, (neGo_ok zs [] h).2.1⟩
theorem getD_inj {zs : List Int} (hd : zs.Nodup) {i j : Nat} (hi : i < zs.length) (hj : j < zs.length) (h : zs.getD i 0 = zs.getD j 0) : i = j := by
  rw [← idxOf_getD hd hi, h, idxOf_getD hd hj]
theorem rel_keys {a : Au} (h : RightW a) {tl : List Int} (hl : tl.length = a.al.length) (hd : tl.Nodup) : KeyD (a.ed.map (relE a.al tl)) := by
  unfold KeyD
  rw [List.pairwise_map]
  refine h.edo.imp_of_mem fun {x y} hx hy hlt => ?_
  rintro ⟨h1, h2⟩
  simp only [relE] at h1 h2
  have mx := (h.edr x hx).2.2
  have my := (h.edr y hy).2.2
  have e1 := getD_inj hd (by rw [hl]; exact List.idxOf_lt_length_iff.2 mx) (by rw [hl]; exact List.idxOf_lt_length_iff.2 my) h2
  have e2 := idx_inj mx my e1
  unfold ltE at hlt; omega
theorem rel_right {a : Au} (h : RightW a) {tl : List Int} (hl : tl.length = a.al.length) (hr : ∀ x ∈ tl, 0 ≤ x ∧ x < 32) (hd : tl.Nodup) : RightW (relA a tl) where
  alr x hx := hr x ((srtI_perm tl).mem_iff.1 hx)
  alo := srtI_lt hd
  st0 := h.st0
  mrr := h.mrr
  mro := h.mro
  edr x hx := by
    obtain ⟨y, hy, rfl⟩ := List.mem_map.1 ((srtE_perm _).mem_iff.1 hx)
    have := h.edr y hy
    exact ⟨this.1, this.2.1, (srtI_perm tl).mem_iff.2 (getD_mem (by rw [hl]; exact List.idxOf_lt_length_iff.2 this.2.2))⟩
  edo := strict_of (srtE_sorted _) (keyD_perm (rel_keys h hl hd) (srtE_perm _))
/-- What Relabel hands back. -/
def relR (a : Au) (tl : List Int) : Au × Int :=
  if chkE a ≠ 0 then (zeroA, chkE a) else if tl.length ≠ a.al.length then (zeroA, 4) else if neE tl ≠ 0 then (zeroA, neE tl) else (canA (relA a tl), 0)
theorem at_idx {zs : List Int} (hup : Up zs) {x : Int} {i : Nat} (h : At zs x i) (hm : x ∈ zs) : i = zs.idxOf x ∧ i < zs.length := by
  have hlt := List.idxOf_lt_length_iff.2 hm
  have hx := getD_idxOf hm
  obtain ⟨h1, h2, h3⟩ := h
  rcases Nat.lt_trichotomy i (zs.idxOf x) with hi | hi | hi
  · have := hup i _ hi hlt
    have := h3 (by omega)
    omega
  · exact ⟨hi, by omega⟩
  · have := h2 _ hi; omega

theorem grown_set {w : World} {blk i : Nat} (u : Value) : w.grownBy (w.setCell ⟨blk, i, none⟩ u) (some blk) :=
  ⟨rfl, rfl, rfl, by simp [World.setCell], fun k _ hne => Below.heap_setCell _ _ _ _ (fun e => hne (by rw [e]))⟩
/-- Relabel's new automaton while its edges are made. -/
structure RB (w1 : World) (bb : Nat) (As : Option Addr) (n cs : Nat) (s : Int) (M : Option Addr) (m d : Nat) (al : List Int) (wr : World) (es : List Ed) (ve : Value) : Prop where
  bel : Below w1.heap.size w1 wr
  row : Row wr bb 25 [.slice As n cs, .int .i64 s, .slice M m d, ve]
  so : Own wr w1.heap.size (.slice As n cs) al
  eo : OwnE wr w1.heap.size ve es
  h1 : w1.heap.size ≤ bb
section
variable {w1 : World} {bb : Nat} {As : Option Addr} {n cs : Nat} {s : Int} {M : Option Addr} {m d : Nat} {al : List Int} {wr w2 w3 : World} {es : List Ed} {ve ve' : Value}
theorem RB.alloc (h : RB w1 bb As n cs s M m d al wr es ve) (o : Obj) : RB w1 bb As n cs s M m d al (wr.alloc o) es ve :=
  ⟨h.bel.alloc h.bel.size o, h.row.alloc o, h.so.alloc o, h.eo.alloc o, h.h1⟩
theorem RB.drew (h : RB w1 bb As n cs s M m d al wr es ve) : RB w1 bb As n cs s M m d al wr.drew es ve := ⟨h.bel.drew, h.row, h.so, h.eo, h.h1⟩
theorem RB.below (h : RB w1 bb As n cs s M m d al wr es ve) (hb : Below wr.heap.size wr w2) : RB w1 bb As n cs s M m d al w2 es ve :=
  ⟨h.bel.trans (hb.mono h.bel.size), h.row.below hb h.row.lt, own_below h.so hb, own_below h.eo hb, h.h1⟩
theorem RB.grown (h : RB w1 bb As n cs s M m d al wr es ve) (hg : wr.grownBy w2 ve.ownBlock) : Below w1.heap.size w1 w2 ∧ Row w2 bb 25 [.slice As n cs, .int .i64 s, .slice M m d, ve] ∧ Own w2 w1.heap.size (.slice As n cs) al :=
  ⟨h.bel.grown hg h.bel.size (fun k hk => (h.eo.lt k hk).1), h.row.grown hg (row_ne_own h.row h.eo (by decide)), own_row h.so hg (owns_ne h.so h.eo (by decide))⟩
theorem RB.edge {x : Ed} (h : RB w1 bb As n cs s M m d al wr es ve) (hg : wr.grownBy w2 ve.ownBlock) (ho : OwnE w2 w1.heap.size ve' (es ++ [x])) :
    RB w1 bb As n cs s M m d al (w2.setCell ⟨bb, 3, none⟩ ve') (es ++ [x]) ve' := by
  obtain ⟨b1, b2, b3⟩ := h.grown hg
  exact ⟨b1.setCell (p := ⟨bb, 3, none⟩) h.h1 _, b2.set 3 ve', own_row b3 (grown_set ve') (.inr (row_ne_own b2 b3 (by decide))), own_row ho (grown_set ve') (.inr (row_ne_own b2 ho (by decide))), h.h1⟩
theorem RB.start1 (hb : Below w1.heap.size w1 w3) (ho : Own w3 w1.heap.size (.slice As n cs) al) : RB w1 w3.heap.size As n cs s M m d al (w3.alloc (.cells #[.slice As n cs, .int .i64 s, .slice M m d, .slice none 0 0] 25)) [] (.slice none 0 0) :=
  ⟨hb.alloc hb.size _, Row.new w3 [.slice As n cs, .int .i64 s, .slice M m d, .slice none 0 0] 25, ho.alloc _, World.ownsRow_nil _ _ _ _, hb.size⟩
theorem own_set4 {X base N : Nat} {v v0 v1 v2 v3 : Value} {xs : List Value} (h : w3.ownsRow base 3 1 v N xs) (hr : v.ownBlock ≠ some X) :
    ((((w3.setCell ⟨X, 0, none⟩ v0).setCell ⟨X, 1, none⟩ v1).setCell ⟨X, 2, none⟩ v2).setCell ⟨X, 3, none⟩ v3).ownsRow base 3 1 v N xs :=
  own_row (own_row (own_row (own_row h (grown_set v0) (.inr hr)) (grown_set v1) (.inr hr)) (grown_set v2) (.inr hr)) (grown_set v3) (.inr hr)
theorem RB.start2 (hb : Below w1.heap.size w1 w3) (ho : Own w3 w1.heap.size (.slice As n cs) al) {X : Nat} (hr : Row w3 X 25 [.slice none 0 0, .int .i64 0, .slice none 0 0, .slice none 0 0]) (hX : w1.heap.size ≤ X) :
    RB w1 X As n cs s M m d al ((((w3.setCell ⟨X, 0, none⟩ (.slice As n cs)).setCell ⟨X, 1, none⟩ (.int .i64 s)).setCell ⟨X, 2, none⟩ (.slice M m d)).setCell ⟨X, 3, none⟩ (.slice none 0 0)) [] (.slice none 0 0) :=
  ⟨below_set4 hb hX _ _ _ _, (((hr.set 0 (.slice As n cs)).set 1 (.int .i64 s)).set 2 (.slice M m d)).set 3 (.slice none 0 0), own_set4 ho (row_ne_own hr ho (by decide)), World.ownsRow_nil _ _ _ _, hX⟩
end
end Go.Proofs.Ytmghngehpgolgaa

/- Layer 3: slices.Equal of edges, Equal of the program, Same of the reference, few. -/
namespace Go.Proofs.Ytmghngehpgolgaa
open Go.RowKit Go.Sort

theorem edAt {l : List Ed} {k : Nat} (h : k < l.length) : ∃ x, l[k]? = some x := ⟨_, List.getElem?_eq_getElem h⟩
theorem eqE_step {xs ys : List Ed} {k : Nat} {x : Ed} (hx : xs[k]? = some x) (hy : ys[k]? = some x) (h : xs.take k = ys.take k) : xs.take (k + 1) = ys.take (k + 1) := by
  rw [take_succ_ed hx, take_succ_ed hy, h]
theorem neE_of {xs ys : List Ed} {k : Nat} {x y : Ed} (hx : xs[k]? = some x) (hy : ys[k]? = some y) (h : ¬ x = y) : decide (xs = ys) = false := by
  simp only [decide_eq_false_iff_not]; rintro rfl; rw [hx] at hy; injection hy with hy; exact h hy
theorem eqE_all {xs ys : List Ed} (hl : ys.length = xs.length) (h : xs.take xs.length = ys.take xs.length) : decide (xs = ys) = true := by
  rw [List.take_of_length_le (Nat.le_refl _), List.take_of_length_le (by omega)] at h
  simpa using h
theorem ed_ne {x y : Ed} (h : ¬ x = y) : ¬ (x.f = y.f ∧ x.e = y.e ∧ x.t = y.t) := fun ⟨h1, h2, h3⟩ => h (by cases x; cases y; simp_all)
theorem au_eq (a b : Au) : decide (a = b) = (decide (a.al = b.al) && (decide (a.st = b.st) && (decide (a.mr = b.mr) && decide (a.ed = b.ed)))) := by
  cases a; cases b; simp [Bool.decide_and]
theorem sameInts_b (A B : Option Addr) (n m c d Bx : Nat) (xs ys : List Int) (w : World) (hx : RdI w Bx A xs) (hy : RdI w Bx B ys) (hn : xs.length = n) (hm : ys.length = m) (hb : n ≤ 100000) (hb' : m ≤ 100000) :
    Calls Try.prog 19 #[.slice A n c, .slice B m d] w fun e w' => e = .returned (.bool (decide (xs = ys))) ∧ Below w.heap.size w w' :=
  (sameInts_any A B n m c d Bx Bx xs ys w hx hy hn hm (by omega) (by omega)).mono fun e w' ⟨h, q, e2⟩ => ⟨h, by rw [e2]; exact below_drewN (Below.refl _ _) q⟩
end Go.Proofs.Ytmghngehpgolgaa

/- Layer 3: Check of the reference. -/
namespace Go.Proofs.Ytmghngehpgolgaa
open Go.RowKit Go.Sort

set_option maxHeartbeats 3200000 in
set_option maxRecDepth 100000 in
theorem rCheck_any (A : Option Addr) (n c : Nat) (s : Int) (M : Option Addr) (m d : Nat) (E : Option Addr) (k g : Nat) (a : Au) (B : Nat) (w : World) (h : AuR w B A n c s M m d E k g a) (hB : B ≤ w.heap.size) :
    Calls Try.prog 6 #[.agg #[.slice A n c, .int .i64 s, .slice M m d, .slice E k g]] w fun e w' => e = .returned (.int .i64 (chkE a)) ∧ Below w.heap.size w w' := by
  have HB1 := Lib.hid ((Below.refl w.heap.size w).alloc (Nat.le_refl _) (.cells #[.slice A n c, .int .i64 s, .slice M m d, .slice E k g] 25))
  have HR := Lib.hid h
  have HX := Lib.hid (BoxA.made w A n c s M m d E k g 25)
  have HB0 := Lib.hid hB
  have hk1 := h.bk
  have HC1 := Lib.hid (rList_any A n c B a.al 32 _ (h.al.below HB1.out hB) h.hn (by have := h.bn; omega))
  have HC2 := Lib.hid (fun W (hW : Below w.heap.size w W) => rList_any M m d B a.mr s W (h.mr.below hW hB) h.hm (by have := h.bm; omega))
  have HE := Lib.hid (fun x W (hW : Below w.heap.size w W) => rHas_any A n c B a.al x W (h.al.below hW hB) h.hn (by have := h.bn; omega))
  have HST := Lib.hid h.st
  obtain ⟨u, hu⟩ : ∃ u, u = csE 32 a.al := ⟨_, rfl⟩
  rw [← hu] at HC1
  obtain ⟨v, hv⟩ : ∃ v, v = csE s a.mr := ⟨_, rfl⟩
  rw [← hv] at HC2
  have HU := Lib.hid hu
  have HV := Lib.hid hv
  clear h hu hv hB
  by_cases h0 : u = 0
  · have hb0 : (u != 0) = false := by simp [h0]
    have h0' := Lib.hid h0
    clear h0
    by_cases h1 : s < 0
    · have hr := Lib.hid (show chkE a = 2 by rw [chkE, HST.out, ← HU.out, if_neg (by simp [h0'.out]), if_pos h1])
      rw [hr.out]
      go_enter Try.func6, Try.ntmps6
      go_wp2_with fail
      refine HC1.out.mono ?_
      rintro e w' ⟨rfl, q, rfl⟩
      obtain ⟨p0, p1, p2, p3⟩ := HX.out.drewN q
      go_wp2_with fail
      go_ret
      exact ⟨rfl, below_drewN HB1.out q⟩
    · by_cases h2 : 4096 < s
      · have hr := Lib.hid (show chkE a = 3 by rw [chkE, HST.out, ← HU.out, if_neg (by simp [h0'.out]), if_neg h1, if_pos h2])
        rw [hr.out]
        go_enter Try.func6, Try.ntmps6
        go_wp2_with fail
        refine HC1.out.mono ?_
        rintro e w' ⟨rfl, q, rfl⟩
        obtain ⟨p0, p1, p2, p3⟩ := HX.out.drewN q
        go_wp2_with fail
        go_ret
        exact ⟨rfl, below_drewN HB1.out q⟩
      · by_cases h3 : v = 0
        · obtain ⟨v2, hv2⟩ : ∃ v2, v2 = egE a := ⟨_, rfl⟩
          have hr := Lib.hid (show chkE a = v2 by rw [hv2, chkE, HST.out, ← HU.out, if_neg (by simp [h0'.out]), if_neg h1, if_neg h2, ← HV.out, if_neg (by simp [h3])])
          have HV2 := Lib.hid (show egGo a.al s (prevE a.ed 0) (a.ed.drop 0) = v2 by rw [hv2, egE, HST.out]; rfl)
          rw [hr.out]
          have hb3 : (v != 0) = false := by simp [h3]
          have hk2 := Lib.hid HR.out.hk
          clear h3 hv2
          go_enter Try.func6, Try.ntmps6
          go_wp2_with fail
          refine HC1.out.mono ?_
          rintro e w' ⟨rfl, q, rfl⟩
          have HB2 := Lib.hid (below_drewN HB1.out q)
          obtain ⟨p0, p1, p2, p3⟩ := HX.out.drewN q
          go_wp2_with fail
          refine (HC2.out _ HB2.out).mono ?_
          rintro e w' ⟨rfl, q2, rfl⟩
          have HB3 := Lib.hid (below_drewN HB2.out q2)
          have HX3 := Lib.hid ((HX.out.drewN q).drewN q2)
          clear p0 p1 p2 p3
          obtain ⟨p0, p1, p2, p3⟩ := HX3.out
          go_wp2_with fail
          go_loopw [5] (fun i wr => ∃ j : Nat, j ≤ k ∧ i = .int .i64 j ∧ Hid (egGo a.al s (prevE a.ed j) (a.ed.drop j) = v2) ∧ Hid (Below w.heap.size w wr ∧ BoxA wr w.heap.size A n c s M m d E k g ∧ w.heap.size < wr.heap.size)) (fun i _ => k - (intOf i).toNat)
          case atStart => exact ⟨0, Nat.zero_le _, rfl, HV2, below_drewN HB1.out _, HX.out.drewN _, by simp [World.drewN]⟩
          case round =>
            clear p0 p1 p2 p3
            obtain ⟨j, hj, rfl, ht, hbel⟩ := hrel
            obtain ⟨p0, p1, p2, p3⟩ := hbel.out.2.1
            have hwl := hbel.out.2.2
            have hbk := HR.out.bk
            have HXA := Lib.hid (fun (x y z : Int) => hbel.out.2.1.below ((Below.refl _ wr).alloc (Nat.le_refl _) (.cells #[.int .i64 x, .int .i64 y, .int .i64 z] 55)) hwl)
            by_cases hlt : j < k
            · obtain ⟨b1, o1, rfl, hb1, hc1⟩ := HR.out.ed (by rw [hk2.out]; omega)
              obtain ⟨x, hx⟩ := edAt (l := a.ed) (k := j) (by rw [hk2.out]; exact hlt)
              obtain ⟨x0, x1, x2⟩ : EdAt wr b1 (o1 + j * 3) x := (hc1 j x hx).keep fun o => hbel.out.1.cell (p := ⟨b1, o, none⟩) (Nat.lt_of_lt_of_le hb1 HB0.out)
              have HX := Lib.hid hx
              obtain ⟨xf, xe, xt⟩ := x
              simp only at x0 x1 x2
              have hBA := Lib.hid (show Below w.heap.size w (wr.alloc (.cells #[.int .i64 xf, .int .i64 xe, .int .i64 xt] 55)) from hbel.out.1.alloc (by omega) _)
              clear hx
              by_cases c0 : xf < 0
              · have hf := Lib.hid (show (2 : Int) = v2 from (eg_range HX.out ht.out (.inl (by simp [inSt]; omega))).symm)
                clear ht hc1
                go_wp2_with fail
                go_ret
                exact ⟨ret_int hf.out, hBA.out⟩
              by_cases c1 : s ≤ xf
              · have hf := Lib.hid (show (2 : Int) = v2 from (eg_range HX.out ht.out (.inl (by simp [inSt]; omega))).symm)
                clear ht hc1
                go_wp2_with fail
                go_ret
                exact ⟨ret_int hf.out, hBA.out⟩
              by_cases c2 : xt < 0
              · have hf := Lib.hid (show (2 : Int) = v2 from (eg_range HX.out ht.out (.inr (by simp [inSt]; omega))).symm)
                clear ht hc1
                go_wp2_with fail
                go_ret
                exact ⟨ret_int hf.out, hBA.out⟩
              by_cases c3 : s ≤ xt
              · have hf := Lib.hid (show (2 : Int) = v2 from (eg_range HX.out ht.out (.inr (by simp [inSt]; omega))).symm)
                clear ht hc1
                go_wp2_with fail
                go_ret
                exact ⟨ret_int hf.out, hBA.out⟩
              have hu0 := Lib.hid (show inSt s xf = true by simp [inSt]; omega)
              have hu1 := Lib.hid (show inSt s xt = true by simp [inSt]; omega)
              obtain ⟨r, hr0⟩ : ∃ r, decide (xe ∈ a.al) = r := ⟨_, rfl⟩
              have H2 := Lib.hid (fun W (hw : Below w.heap.size w W) => by have h := HE.out xe W hw; rw [hr0] at h; exact h)
              cases r
              · have hf := Lib.hid (show (9 : Int) = v2 from (eg_unknown HX.out ht.out hu0.out hu1.out hr0).symm)
                clear ht hc1 hr0
                go_wp2_with fail
                refine (H2.out _ hBA.out).mono ?_
                rintro e w' ⟨rfl, rfl⟩
                go_wp2_with fail
                go_ret
                exact ⟨ret_int hf.out, hBA.out⟩
              · have hR0 := Lib.hid hr0
                clear hr0
                rcases Nat.eq_zero_or_pos j with hj0 | hj0
                · have hn := Lib.hid (eg_next HX.out ht.out hu0.out hu1.out hR0.out (fun y hy => absurd hy (by omega)))
                  have hd : decide (0 < j) = false := by simp; omega
                  clear hj0 ht hc1
                  go_wp2_with fail
                  refine (H2.out _ hBA.out).mono ?_
                  rintro e w' ⟨rfl, rfl⟩
                  go_wp2_with fail
                  go_quiet (fail)
                  go_wp2_with fail
                  go_roundw
                  case rel => exact ⟨j + 1, by omega, by go_num, hn, by first | exact below_drewN hBA.out _ | exact hBA.out, by first | exact HXA.out _ _ _ | exact (HXA.out _ _ _).drewN _, by first | (simp; omega) | (simp [World.drewN]; omega)⟩
                  case measure => simp [intOf]; omega
                · obtain ⟨y, hy⟩ := edAt (l := a.ed) (k := j - 1) (by rw [hk2.out]; omega)
                  obtain ⟨y0, y1, y2⟩ : EdAt wr b1 (o1 + (j - 1) * 3) y := (hc1 (j - 1) y hy).keep fun o => hbel.out.1.cell (p := ⟨b1, o, none⟩) (Nat.lt_of_lt_of_le hb1 HB0.out)
                  have HY := Lib.hid hy
                  obtain ⟨yf, ye, yt⟩ := y
                  simp only at y0 y1 y2
                  have hd : decide (0 < j) = true := by simp; omega
                  obtain ⟨l, hl⟩ : ∃ l, j - 1 = l := ⟨_, rfl⟩
                  rw [hl] at y0 y1 y2
                  have hl1 : (j : Int) - 1 = (l : Int) := by omega
                  have hl2 : IntKind.i64.wrap (l : Int) = (l : Int) := IntWalk.i64_in _ (by omega)
                  have hlk : (l : Int) < (k : Int) := by omega
                  have hl0 : (0 : Int) ≤ (l : Int) := by omega
                  have hB1l : b1 < wr.heap.size := by have := hbel.out.1.size; have := HB0.out; omega
                  have Y0 := fun cs : Array Value => fun ty => (World.cell?_alloc_lt wr (.cells cs ty) ⟨b1, o1 + l * 3, none⟩ hB1l).trans y0
                  have Y1 := fun cs : Array Value => fun ty => (World.cell?_alloc_lt wr (.cells cs ty) ⟨b1, o1 + l * 3 + 1, none⟩ hB1l).trans y1
                  clear hy hc1 hl
                  by_cases o0 : xf < yf
                  · have hf := Lib.hid (show (5 : Int) = v2 from (eg_order HX.out ht.out hu0.out hu1.out hR0.out hj0 HY.out (by rw [cmpE_le]; unfold ltE; simp; omega)).symm)
                    clear ht hj0
                    go_wp2_with fail
                    refine (H2.out _ hBA.out).mono ?_
                    rintro e w' ⟨rfl, rfl⟩
                    go_wp2_with fail
                    go_quiet (fail)
                    go_wp2_with fail
                    go_ret
                    exact ⟨ret_int hf.out, by first | exact below_drewN hBA.out _ | exact hBA.out⟩
                  have ho0 : decide (xf < yf) = false := by simp; omega
                  by_cases o1' : xf = yf
                  · by_cases o2 : xe ≤ ye
                    · have hf := Lib.hid (show (5 : Int) = v2 from (eg_order HX.out ht.out hu0.out hu1.out hR0.out hj0 HY.out (by rw [cmpE_le]; unfold ltE; simp; omega)).symm)
                      have hq : (xf == yf) = true := by simp [o1']
                      have hle : decide (xe ≤ ye) = true := by simp; omega
                      clear ht hj0 o1'
                      go_wp2_with fail
                      refine (H2.out _ hBA.out).mono ?_
                      rintro e w' ⟨rfl, rfl⟩
                      go_wp2_with fail
                      go_quiet (fail)
                      go_wp2_with fail
                      go_ret
                      exact ⟨ret_int hf.out, by first | exact below_drewN hBA.out _ | exact hBA.out⟩
                    · have hn := Lib.hid (eg_next HX.out ht.out hu0.out hu1.out hR0.out (fun y hj hy => by rw [HY.out] at hy; injection hy with hy; subst hy; rw [cmpE_le]; unfold ltE; simp; omega))
                      have hq : (xf == yf) = true := by simp [o1']
                      have hle : decide (xe ≤ ye) = false := by simp; omega
                      clear ht hj0 o1' o2
                      go_wp2_with fail
                      refine (H2.out _ hBA.out).mono ?_
                      rintro e w' ⟨rfl, rfl⟩
                      go_wp2_with fail
                      go_quiet (fail)
                      go_wp2_with fail
                      go_roundw
                      case rel => exact ⟨j + 1, by omega, by go_num, hn, by first | exact below_drewN hBA.out _ | exact hBA.out, by first | exact HXA.out _ _ _ | exact (HXA.out _ _ _).drewN _, by first | (simp; omega) | (simp [World.drewN]; omega)⟩
                      case measure => simp [intOf]; omega
                  · have hn := Lib.hid (eg_next HX.out ht.out hu0.out hu1.out hR0.out (fun y hj hy => by rw [HY.out] at hy; injection hy with hy; subst hy; rw [cmpE_le]; unfold ltE; simp; omega))
                    have hq : (xf == yf) = false := by simp [o1']
                    clear ht hj0 o1'
                    go_wp2_with fail
                    refine (H2.out _ hBA.out).mono ?_
                    rintro e w' ⟨rfl, rfl⟩
                    go_wp2_with fail
                    go_quiet (fail)
                    go_wp2_with fail
                    go_roundw
                    case rel => exact ⟨j + 1, by omega, by go_num, hn, by first | exact below_drewN hBA.out _ | exact hBA.out, by first | exact HXA.out _ _ _ | exact (HXA.out _ _ _).drewN _, by first | (simp; omega) | (simp [World.drewN]; omega)⟩
                    case measure => simp [intOf]; omega
            · obtain rfl : j = k := by omega
              have hf := Lib.hid (show (0 : Int) = v2 from (eg_end hk2.out ht.out).symm)
              clear ht
              go_wp2_with fail
              go_ret
              exact ⟨ret_int hf.out, hbel.out.1⟩
        · have hr := Lib.hid (show chkE a = v by rw [chkE, HST.out, ← HU.out, if_neg (by simp [h0'.out]), if_neg h1, if_neg h2, ← HV.out, if_pos h3])
          rw [hr.out]
          have hb3 : (v != 0) = true := by simp [h3]
          clear h3
          go_enter Try.func6, Try.ntmps6
          go_wp2_with fail
          refine HC1.out.mono ?_
          rintro e w' ⟨rfl, q, rfl⟩
          have HB2 := Lib.hid (below_drewN HB1.out q)
          obtain ⟨p0, p1, p2, p3⟩ := HX.out.drewN q
          go_wp2_with fail
          refine (HC2.out _ HB2.out).mono ?_
          rintro e w' ⟨rfl, q2, rfl⟩
          go_wp2_with fail
          go_ret
          exact ⟨rfl, below_drewN HB1.out _⟩
  · have hb0 : (u != 0) = true := by simp [h0]
    have hr := Lib.hid (show chkE a = u by rw [chkE, ← HU.out, if_pos h0])
    rw [hr.out]
    clear h0
    go_enter Try.func6, Try.ntmps6
    go_wp2_with fail
    refine HC1.out.mono ?_
    rintro e w' ⟨rfl, q, rfl⟩
    go_wp2_with fail
    go_ret
    exact ⟨rfl, below_drewN HB1.out q⟩
end Go.Proofs.Ytmghngehpgolgaa
