/- Texts merged: what follows were texts of their own. -/
import Derived.Test.YtceldgcmjmfjfaaZa3
import Derived.Test.YtceldgcmjmfjfaaZa2
import Derived.Test.YtceldgcmjmfjfaaZa1
import Derived.Deep.RegionHeld3
import Derived.Maps.AppendAt
import Derived.RangeFuncNested
import Derived.BigQuiet
import Derived.RangeFuncLeaves
import Derived.Shelf.Abstract
import Derived.Shelf.RegionOpen
import Derived.OwnWalkIn
import Derived.TacticsInMore
import Derived.LoopNIn
import Derived.LoopIn
set_option linter.unusedVariables false
set_option linter.unusedSimpArgs false
set_option linter.unusedSectionVars false
/- Layer 4, the mathematics of a search: what it visits, how far that lies. -/
namespace Go.Proofs.Ytceldgcmjmfjfaa

/-- A state that a search visits: the state, the distance, the event and the visit before. -/
structure Vi where
  s : Int
  d : Int
  e : Int
  b : Int
  deriving DecidableEq
def sts (V : List Vi) : List Int := V.map Vi.s
/-- What find does: B are the states that were flagged before. -/
def fndV (B : Nat → Bool) (V : List Vi) (v : Vi) : List Vi := if B v.s.toNat = true ∨ v.s ∈ sts V then V else V ++ [v]
def edV (i : Nat) (d : Int) (x : Ed) : Vi := ⟨x.t, d + 1, x.e, (i : Int)⟩
def viI (q : Int) : Vi := ⟨q, 0, 0, -1⟩
def frV (B : Nat → Bool) (fr : List Int) : List Vi := fr.foldl (fun V q => fndV B V (viI q)) []
def edsV (B : Nat → Bool) (i : Nat) (p : Vi) (V : List Vi) (l : List Ed) : List Vi := l.foldl (fun V x => fndV B V (edV i p.d x)) V
def spN (B : Nat → Bool) (es : List Ed) (fr : List Int) : Nat → List Vi
  | 0 => frV B fr
  | n + 1 => match (spN B es fr n)[n]? with | none => spN B es fr n | some p => edsV B n p (spN B es fr n) (succ es p.s)
theorem fndV_pre (B : Nat → Bool) (V : List Vi) (v : Vi) : V <+: fndV B V v := by
  unfold fndV; split
  · exact List.prefix_rfl
  · exact List.prefix_append _ _
theorem edsV_pre (B : Nat → Bool) (i : Nat) (p : Vi) : ∀ (l : List Ed) (V : List Vi), V <+: edsV B i p V l
  | [], _ => List.prefix_rfl
  | _ :: l, _ => (fndV_pre B _ _).trans (edsV_pre B i p l _)
theorem spN_pre (B : Nat → Bool) (es : List Ed) (fr : List Int) (n : Nat) : spN B es fr n <+: spN B es fr (n + 1) := by
  rw [spN]
  cases (spN B es fr n)[n]? with
  | none => exact List.prefix_rfl
  | some p => exact edsV_pre _ _ _ _ _
theorem spN_mono {B : Nat → Bool} {es : List Ed} {fr : List Int} {n m : Nat} (h : n ≤ m) : spN B es fr n <+: spN B es fr m := by
  obtain ⟨d, rfl⟩ : ∃ d, m = n + d := ⟨m - n, by omega⟩
  clear h
  induction d with
  | zero => exact List.prefix_rfl
  | succ d ih => exact ih.trans (spN_pre B es fr (n + d))
theorem mem_fndV {B : Nat → Bool} {V : List Vi} {v u : Vi} : u ∈ fndV B V v ↔ u ∈ V ∨ (u = v ∧ B v.s.toNat = false ∧ v.s ∉ sts V) := by
  unfold fndV
  split
  · next h =>
    refine ⟨.inl, fun h' => h'.elim id fun h' => ?_⟩
    rcases h with h | h
    · rw [h'.2.1] at h; exact absurd h (by simp)
    · exact absurd h h'.2.2
  · next h =>
    simp only [not_or, Bool.not_eq_true] at h
    rw [List.mem_append, List.mem_singleton]
    exact ⟨fun h' => h'.imp id fun e => ⟨e, h⟩, fun h' => h'.imp id And.left⟩
theorem sts_fndV {B : Nat → Bool} {V : List Vi} {v : Vi} {q : Int} : q ∈ sts (fndV B V v) ↔ q ∈ sts V ∨ (q = v.s ∧ B v.s.toNat = false) := by
  unfold fndV
  split
  · next h =>
    refine ⟨.inl, fun h' => h'.elim id fun h' => ?_⟩
    rcases h with h | h
    · rw [h'.2] at h; exact absurd h (by simp)
    · rw [h'.1]; exact h
  · next h =>
    simp only [not_or, Bool.not_eq_true] at h
    unfold sts
    rw [List.map_append, List.mem_append]
    exact ⟨fun h' => h'.imp id fun e => ⟨by simpa using e, h.1⟩, fun h' => h'.imp id fun e => by simpa using e.1⟩
/-- What holds of the visits from the start on. -/
structure VOk (B : Nat → Bool) (S : Nat) (V : List Vi) : Prop where
  nd : (sts V).Nodup
  rg : ∀ v ∈ V, 0 ≤ v.s ∧ v.s < (S : Int)
  nb : ∀ v ∈ V, B v.s.toNat = false
theorem VOk.nil (B : Nat → Bool) (S : Nat) : VOk B S [] := ⟨List.nodup_nil, fun _ h => (by cases h), fun _ h => (by cases h)⟩
theorem VOk.fnd {B : Nat → Bool} {S : Nat} {V : List Vi} (h : VOk B S V) {v : Vi} (hv : 0 ≤ v.s ∧ v.s < (S : Int)) : VOk B S (fndV B V v) := by
  refine ⟨?_, fun u hu => ?_, fun u hu => ?_⟩
  · unfold fndV
    split
    · exact h.nd
    · next h' =>
      simp only [not_or] at h'
      unfold sts
      rw [List.map_append, List.nodup_append]
      exact ⟨h.nd, by simp, fun x hx y hy e => by simp at hy; subst hy; subst e; exact h'.2 hx⟩
  · rcases mem_fndV.1 hu with hu | hu
    · exact h.rg u hu
    · rw [hu.1]; exact hv
  · rcases mem_fndV.1 hu with hu | hu
    · exact h.nb u hu
    · rw [hu.1]; exact hu.2.1
theorem VOk.len {B : Nat → Bool} {S : Nat} {V : List Vi} (h : VOk B S V) : V.length ≤ S := by
  have := nodup_len h.nd (S := S) fun x hx => by obtain ⟨v, hv, rfl⟩ := List.mem_map.1 hx; exact h.rg v hv
  simpa [sts] using this
theorem VOk.eds {B : Nat → Bool} {S : Nat} {i : Nat} {p : Vi} : ∀ (l : List Ed) {V : List Vi}, VOk B S V → (∀ x ∈ l, 0 ≤ x.t ∧ x.t < (S : Int)) → VOk B S (edsV B i p V l)
  | [], _, h, _ => h
  | _ :: l, _, h, hl => VOk.eds l (h.fnd (hl _ (List.mem_cons_self ..))) fun y hy => hl y (List.mem_cons_of_mem _ hy)
theorem frV_snoc (B : Nat → Bool) (fr : List Int) (q : Int) : frV B (fr ++ [q]) = fndV B (frV B fr) (viI q) := by simp [frV]
theorem edsV_snoc (B : Nat → Bool) (i : Nat) (p : Vi) (V : List Vi) (l : List Ed) (x : Ed) : edsV B i p V (l ++ [x]) = fndV B (edsV B i p V l) (edV i p.d x) := by simp [edsV]
theorem frl_ok {B : Nat → Bool} {S : Nat} : ∀ (fr : List Int) {V : List Vi}, VOk B S V → (∀ q ∈ fr, 0 ≤ q ∧ q < (S : Int)) → VOk B S (fr.foldl (fun V q => fndV B V (viI q)) V)
  | [], _, h, _ => h
  | _ :: l, _, h, hl => frl_ok l (h.fnd (hl _ (List.mem_cons_self ..))) fun y hy => hl y (List.mem_cons_of_mem _ hy)
theorem frV_ok {B : Nat → Bool} {S : Nat} {fr : List Int} (h : ∀ q ∈ fr, 0 ≤ q ∧ q < (S : Int)) : VOk B S (frV B fr) := frl_ok fr (VOk.nil B S) h
/-- Where the edges of a graph lead. -/
def EdOk (S : Nat) (es : List Ed) : Prop := ∀ x ∈ es, (0 ≤ x.f ∧ x.f < (S : Int)) ∧ 0 ≤ x.t ∧ x.t < (S : Int)
theorem spN_ok {B : Nat → Bool} {S : Nat} {es : List Ed} {fr : List Int} (he : EdOk S es) (h : ∀ q ∈ fr, 0 ≤ q ∧ q < (S : Int)) : ∀ n, VOk B S (spN B es fr n)
  | 0 => frV_ok h
  | n + 1 => by
    have ih := spN_ok (B := B) he h n
    rw [spN]
    cases (spN B es fr n)[n]? with
    | none => exact ih
    | some p => exact VOk.eds _ ih fun x hx => (he x (mem_succ.1 hx).1).2
theorem spN_go {B : Nat → Bool} {es : List Ed} {fr : List Int} {n : Nat} {p : Vi} (h : (spN B es fr n)[n]? = some p) : spN B es fr (n + 1) = edsV B n p (spN B es fr n) (succ es p.s) := by rw [spN, h]
theorem spN_stop {B : Nat → Bool} {es : List Ed} {fr : List Int} {n : Nat} (h : (spN B es fr n).length ≤ n) : ∀ m, spN B es fr (n + m) = spN B es fr n
  | 0 => rfl
  | m + 1 => by
    have ih := spN_stop h m
    show spN B es fr (n + m + 1) = _
    rw [spN, ih, List.getElem?_eq_none_iff.2 (by omega)]
/-- All visits. -/
def spV (B : Nat → Bool) (S : Nat) (es : List Ed) (fr : List Int) : List Vi := spN B es fr S
theorem spV_at {B : Nat → Bool} {S : Nat} {es : List Ed} {fr : List Int} {n : Nat} (hn : (spN B es fr n).length ≤ n) (hs : n ≤ S) : spV B S es fr = spN B es fr n := by
  obtain ⟨m, rfl⟩ : ∃ m, S = n + m := ⟨S - n, by omega⟩
  exact spN_stop hn m
theorem spV_pre {B : Nat → Bool} {S : Nat} {es : List Ed} {fr : List Int} (he : EdOk S es) (h : ∀ q ∈ fr, 0 ≤ q ∧ q < (S : Int)) (n : Nat) : spN B es fr n <+: spV B S es fr := by
  rcases Nat.le_total n S with hn | hn
  · exact spN_mono hn
  · obtain ⟨m, rfl⟩ : ∃ m, n = S + m := ⟨n - S, by omega⟩
    rw [spN_stop (spN_ok he h S).len m]; exact List.prefix_rfl
/-- What is found, by edges, outside of what was flagged. -/
inductive Rb (B : Nat → Bool) (es : List Ed) (fr : List Int) : Int → Prop
  | base {q : Int} : q ∈ fr → B q.toNat = false → Rb B es fr q
  | step {x : Ed} : Rb B es fr x.f → x ∈ es → B x.t.toNat = false → Rb B es fr x.t
theorem mem_frl {B : Nat → Bool} : ∀ (fr : List Int) (V : List Vi) (q : Int), q ∈ sts (fr.foldl (fun V q => fndV B V (viI q)) V) ↔ q ∈ sts V ∨ (q ∈ fr ∧ B q.toNat = false)
  | [], V, q => by simp
  | y :: fr, V, q => by
    rw [List.foldl_cons, mem_frl fr, sts_fndV, List.mem_cons]
    constructor
    · rintro ((h | ⟨rfl, h⟩) | h)
      · exact .inl h
      · exact .inr ⟨.inl rfl, h⟩
      · exact .inr ⟨.inr h.1, h.2⟩
    · rintro (h | ⟨rfl | h, hb⟩)
      · exact .inl (.inl h)
      · exact .inl (.inr ⟨rfl, hb⟩)
      · exact .inr ⟨h, hb⟩
theorem mem_edsV {B : Nat → Bool} {i : Nat} {p : Vi} : ∀ (l : List Ed) (V : List Vi) (q : Int), q ∈ sts (edsV B i p V l) ↔ q ∈ sts V ∨ ∃ x ∈ l, x.t = q ∧ B q.toNat = false
  | [], V, q => by simp [edsV]
  | y :: l, V, q => by
    show q ∈ sts (edsV B i p (fndV B V (edV i p.d y)) l) ↔ _
    rw [mem_edsV l, sts_fndV]
    constructor
    · rintro ((h | ⟨rfl, h⟩) | ⟨x, hx, h⟩)
      · exact .inl h
      · exact .inr ⟨y, List.mem_cons_self .., rfl, h⟩
      · exact .inr ⟨x, List.mem_cons_of_mem _ hx, h⟩
    · rintro (h | ⟨x, hx, rfl, hb⟩)
      · exact .inl (.inl h)
      · rcases List.mem_cons.1 hx with rfl | hx
        · exact .inl (.inr ⟨rfl, hb⟩)
        · exact .inr ⟨x, hx, rfl, hb⟩
theorem spN_sound {B : Nat → Bool} {es : List Ed} {fr : List Int} : ∀ (n : Nat) (q : Int), q ∈ sts (spN B es fr n) → Rb B es fr q
  | 0, q, h => by
    rcases (mem_frl fr [] q).1 h with h | h
    · simp [sts] at h
    · exact .base h.1 h.2
  | n + 1, q, h => by
    rw [spN] at h
    cases hp : (spN B es fr n)[n]? with
    | none => rw [hp] at h; exact spN_sound n q h
    | some p =>
      rw [hp] at h
      rcases (mem_edsV _ _ q).1 h with h | ⟨x, hx, rfl, hb⟩
      · exact spN_sound n q h
      · have hm := mem_succ.1 hx
        refine .step ?_ hm.1 hb
        rw [hm.2]
        exact spN_sound n _ (List.mem_map.2 ⟨p, List.mem_of_getElem? hp, rfl⟩)
/-- The visits are closed under the edges. -/
theorem spV_step {B : Nat → Bool} {S : Nat} {es : List Ed} {fr : List Int} (he : EdOk S es) (h : ∀ q ∈ fr, 0 ≤ q ∧ q < (S : Int)) {j : Nat} {p : Vi} (hp : (spV B S es fr)[j]? = some p) : edsV B j p (spN B es fr j) (succ es p.s) <+: spV B S es fr := by
  have hj := (List.getElem?_eq_some_iff.1 hp).1
  have hl : j < (spN B es fr j).length := by
    rcases Nat.lt_or_ge j (spN B es fr j).length with hl | hl
    · exact hl
    · have := spV_at (S := S) hl (by have := (spN_ok (B := B) he h S).len; unfold spV at hj; omega)
      rw [this] at hj; omega
  have hq : (spN B es fr j)[j]? = some p := by
    have h1 := List.getElem?_eq_getElem hl
    have h2 := pre_at (spV_pre (B := B) he h j) h1
    rw [hp] at h2
    rw [h1, h2]
  rw [← spN_go hq]
  exact spV_pre he h (j + 1)
theorem spV_mem {B : Nat → Bool} {S : Nat} {es : List Ed} {fr : List Int} (he : EdOk S es) (h : ∀ q ∈ fr, 0 ≤ q ∧ q < (S : Int)) (q : Int) : q ∈ sts (spV B S es fr) ↔ Rb B es fr q := by
  refine ⟨spN_sound S q, fun hr => ?_⟩
  induction hr with
  | @base q h1 h2 =>
    have : q ∈ sts (spN B es fr 0) := (mem_frl fr [] q).2 (.inr ⟨h1, h2⟩)
    obtain ⟨v, hv, hvq⟩ := List.mem_map.1 this
    exact List.mem_map.2 ⟨v, (spV_pre he h 0).subset hv, hvq⟩
  | @step x _ hx hb ih =>
    obtain ⟨p, hp, hps⟩ := List.mem_map.1 ih
    obtain ⟨j, hj, hpj⟩ := List.getElem_of_mem hp
    have hp' : (spV B S es fr)[j]? = some p := by rw [List.getElem?_eq_getElem hj, hpj]
    have hm : x.t ∈ sts (edsV B j p (spN B es fr j) (succ es p.s)) := (mem_edsV _ _ _).2 (.inr ⟨x, mem_succ.2 ⟨hx, hps.symm⟩, rfl, hb⟩)
    obtain ⟨v, hv, hvq⟩ := List.mem_map.1 hm
    exact List.mem_map.2 ⟨v, (spV_step he h hp').subset hv, hvq⟩
/-- Paths of some edges, outside of what was flagged. -/
inductive Pth (B : Nat → Bool) (es : List Ed) (fr : List Int) : Nat → Int → Prop
  | base {q : Int} : q ∈ fr → B q.toNat = false → Pth B es fr 0 q
  | step {n : Nat} {x : Ed} : Pth B es fr n x.f → x ∈ es → B x.t.toNat = false → Pth B es fr (n + 1) x.t
theorem rb_pth {B : Nat → Bool} {es : List Ed} {fr : List Int} {q : Int} : Rb B es fr q ↔ ∃ n, Pth B es fr n q := by
  constructor
  · intro h
    induction h with
    | base h1 h2 => exact ⟨0, .base h1 h2⟩
    | step _ h1 h2 ih => obtain ⟨n, hn⟩ := ih; exact ⟨n + 1, .step hn h1 h2⟩
  · rintro ⟨n, h⟩
    induction h with
    | base h1 h2 => exact .base h1 h2
    | step _ h1 h2 ih => exact .step ih h1 h2
structure LvI (B : Nat → Bool) (es : List Ed) (fr : List Int) (n : Nat) (T : List Vi) : Prop where
  pa : ∀ v ∈ T, ∃ k : Nat, v.d = (k : Int) ∧ Pth B es fr k v.s
  up : (T.map Vi.d).Pairwise (· ≤ ·)
  bd : ∀ p, T[n]? = some p → ∀ v ∈ T, v.d ≤ p.d + 1
theorem lv_fnd {B : Nat → Bool} {V : List Vi} {v : Vi} (h : ∀ u ∈ V, u.d ≤ v.d) (hu : (V.map Vi.d).Pairwise (· ≤ ·)) : ((fndV B V v).map Vi.d).Pairwise (· ≤ ·) := by
  unfold fndV
  split
  · exact hu
  · rw [List.map_append, List.pairwise_append]
    refine ⟨hu, by simp, fun x hx y hy => ?_⟩
    obtain ⟨u, hu', rfl⟩ := List.mem_map.1 hx
    simp at hy; subst hy
    exact h u hu'
theorem lv_eds {B : Nat → Bool} {es : List Ed} {fr : List Int} {i : Nat} {p : Vi} {k : Nat} (hp : p.d = (k : Int)) (hk : Pth B es fr k p.s) : ∀ (l : List Ed) (V : List Vi), (∀ x ∈ l, x ∈ es ∧ x.f = p.s) → (∀ v ∈ V, ∃ k : Nat, v.d = (k : Int) ∧ Pth B es fr k v.s) → (V.map Vi.d).Pairwise (· ≤ ·) → (∀ v ∈ V, v.d ≤ p.d + 1) →
    (∀ v ∈ edsV B i p V l, ∃ k : Nat, v.d = (k : Int) ∧ Pth B es fr k v.s) ∧ ((edsV B i p V l).map Vi.d).Pairwise (· ≤ ·) ∧ ∀ v ∈ edsV B i p V l, v.d ≤ p.d + 1
  | [], V, _, h1, h2, h3 => ⟨h1, h2, h3⟩
  | x :: l, V, hl, h1, h2, h3 => by
    have hx := hl x (List.mem_cons_self ..)
    refine lv_eds hp hk l (fndV B V (edV i p.d x)) (fun y hy => hl y (List.mem_cons_of_mem _ hy)) (fun v hv => ?_) (lv_fnd (fun u hu => h3 u hu) h2) (fun v hv => ?_)
    · rcases mem_fndV.1 hv with hv | ⟨rfl, hb, _⟩
      · exact h1 v hv
      · exact ⟨k + 1, by show p.d + 1 = _; omega, .step (x := x) (by rw [hx.2]; exact hk) hx.1 hb⟩
    · rcases mem_fndV.1 hv with hv | ⟨rfl, hb, _⟩
      · exact h3 v hv
      · exact Int.le_refl _
theorem frl_d {B : Nat → Bool} {fr0 : List Int} : ∀ (fr : List Int) (V : List Vi), (∀ q ∈ fr, q ∈ fr0) → (∀ v ∈ V, v.d = 0 ∧ v.s ∈ fr0 ∧ B v.s.toNat = false) → ∀ v ∈ fr.foldl (fun V q => fndV B V (viI q)) V, v.d = 0 ∧ v.s ∈ fr0 ∧ B v.s.toNat = false
  | [], V, _, h => h
  | q :: fr, V, hf, h => frl_d fr _ (fun y hy => hf y (List.mem_cons_of_mem _ hy)) fun v hv => by
    rcases mem_fndV.1 hv with hv | ⟨rfl, hb, _⟩
    · exact h v hv
    · exact ⟨rfl, hf _ (List.mem_cons_self ..), hb⟩
theorem spN_lv {B : Nat → Bool} {es : List Ed} {fr : List Int} : ∀ n, LvI B es fr n (spN B es fr n)
  | 0 => by
    have h0 := frl_d (B := B) (fr0 := fr) fr [] (fun _ h => h) (fun v h => (by cases h))
    refine ⟨fun v hv => ⟨0, (h0 v hv).1, .base (h0 v hv).2.1 (h0 v hv).2.2⟩, ?_, fun p hp v hv => ?_⟩
    · rw [List.pairwise_map]
      exact List.pairwise_of_forall_mem_list fun x hx y hy => by rw [(h0 x hx).1, (h0 y hy).1]; exact Int.le_refl _
    · rw [(h0 v hv).1, (h0 p (List.mem_of_getElem? hp)).1]; omega
  | n + 1 => by
    have ih := spN_lv (B := B) (es := es) (fr := fr) n
    cases hp : (spN B es fr n)[n]? with
    | none =>
      have e : spN B es fr (n + 1) = spN B es fr n := by rw [spN, hp]
      rw [e]
      refine ⟨ih.pa, ih.up, fun p hp' => ?_⟩
      rw [List.getElem?_eq_none_iff] at hp
      rw [List.getElem?_eq_none_iff.2 (by omega)] at hp'
      cases hp'
    | some p =>
      rw [spN_go hp]
      obtain ⟨k, hk1, hk2⟩ := ih.pa p (List.mem_of_getElem? hp)
      obtain ⟨h1, h2, h3⟩ := lv_eds (i := n) hk1 hk2 (succ es p.s) (spN B es fr n) (fun x hx => mem_succ.1 hx) ih.pa ih.up (ih.bd p hp)
      refine ⟨h1, h2, fun p' hp' v hv => ?_⟩
      have hpn := pre_at (edsV_pre B n p (succ es p.s) (spN B es fr n)) hp
      obtain ⟨l1, e1⟩ := List.getElem?_eq_some_iff.1 hpn
      obtain ⟨l2, e2⟩ := List.getElem?_eq_some_iff.1 hp'
      have := List.pairwise_iff_getElem.1 h2 n (n + 1) (by simpa using l1) (by simpa using l2) (Nat.lt_succ_self n)
      simp only [List.getElem_map, e1, e2] at this
      have := h3 v hv
      omega
/-- Each edge leads to a visit that is at most one farther. -/
theorem spV_near {B : Nat → Bool} {S : Nat} {es : List Ed} {fr : List Int} (he : EdOk S es) (h : ∀ q ∈ fr, 0 ≤ q ∧ q < (S : Int)) {p : Vi} (hp : p ∈ spV B S es fr) {x : Ed} (hx : x ∈ es) (hf : x.f = p.s) (hb : B x.t.toNat = false) : ∃ v ∈ spV B S es fr, v.s = x.t ∧ v.d ≤ p.d + 1 := by
  obtain ⟨j, hj, hpj⟩ := List.getElem_of_mem hp
  have hp' : (spV B S es fr)[j]? = some p := by rw [List.getElem?_eq_getElem hj, hpj]
  have hm : x.t ∈ sts (edsV B j p (spN B es fr j) (succ es p.s)) := (mem_edsV _ _ _).2 (.inr ⟨x, mem_succ.2 ⟨hx, hf⟩, rfl, hb⟩)
  obtain ⟨v, hv, hvq⟩ := List.mem_map.1 hm
  have hpre := spV_step he h hp'
  refine ⟨v, hpre.subset hv, hvq, ?_⟩
  have hlv := spN_lv (B := B) (es := es) (fr := fr) j
  have hl : (spN B es fr j)[j]? = some p := by
    have hl : j < (spN B es fr j).length := by
      rcases Nat.lt_or_ge j (spN B es fr j).length with hl | hl
      · exact hl
      · have := spV_at (S := S) hl (by have := (spN_ok (B := B) he h S).len; unfold spV at hj; omega)
        rw [this] at hj; omega
    have h1 := List.getElem?_eq_getElem hl
    have h2 := pre_at (spV_pre (B := B) he h j) h1
    rw [hp'] at h2
    rw [h1, h2]
  obtain ⟨k, hk1, hk2⟩ := hlv.pa p (List.mem_of_getElem? hl)
  exact (lv_eds (i := j) hk1 hk2 (succ es p.s) (spN B es fr j) (fun x hx => mem_succ.1 hx) hlv.pa hlv.up (hlv.bd p hl)).2.2 v hv
/-- A visit has the least distance. -/
theorem spV_least {B : Nat → Bool} {S : Nat} {es : List Ed} {fr : List Int} (he : EdOk S es) (h : ∀ q ∈ fr, 0 ≤ q ∧ q < (S : Int)) {n : Nat} {q : Int} (hq : Pth B es fr n q) : ∃ v ∈ spV B S es fr, v.s = q ∧ v.d ≤ (n : Int) := by
  induction hq with
  | @base q h1 h2 =>
    have : q ∈ sts (spN B es fr 0) := (mem_frl fr [] q).2 (.inr ⟨h1, h2⟩)
    obtain ⟨v, hv, hvq⟩ := List.mem_map.1 this
    have h0 := frl_d (B := B) (fr0 := fr) fr [] (fun _ h => h) (fun v h => (by cases h)) v hv
    exact ⟨v, (spV_pre he h 0).subset hv, hvq, by rw [h0.1]; exact Int.le_refl _⟩
  | @step n x _ hx hb ih =>
    obtain ⟨p, hp, hps, hpd⟩ := ih
    obtain ⟨v, hv, hvs, hvd⟩ := spV_near he h hp hx hps.symm hb
    exact ⟨v, hv, hvs, by omega⟩
theorem spV_path {B : Nat → Bool} {S : Nat} {es : List Ed} {fr : List Int} {v : Vi} (hv : v ∈ spV B S es fr) : ∃ k : Nat, v.d = (k : Int) ∧ Pth B es fr k v.s := (spN_lv S).pa v hv
theorem eds_d {B : Nat → Bool} {i : Nat} {p : Vi} {n : Int} (hp : 0 ≤ p.d ∧ p.d < n) : ∀ (l : List Ed) (V : List Vi), (∀ v ∈ V, 0 ≤ v.d ∧ v.d ≤ n) → ∀ v ∈ edsV B i p V l, 0 ≤ v.d ∧ v.d ≤ n
  | [], _, h => h
  | x :: l, V, h => eds_d hp l _ fun v hv => by
    rcases mem_fndV.1 hv with hv | ⟨rfl, _⟩
    · exact h v hv
    · show 0 ≤ p.d + 1 ∧ p.d + 1 ≤ n; omega
theorem spN_d {B : Nat → Bool} {es : List Ed} {fr : List Int} : ∀ (n : Nat), ∀ v ∈ spN B es fr n, 0 ≤ v.d ∧ v.d ≤ (n : Int)
  | 0 => fun v hv => by
    have := frl_d (B := B) (fr0 := fr) fr [] (fun _ h => h) (fun v h => (by cases h)) v hv
    omega
  | n + 1 => by
    have ih := spN_d (B := B) (es := es) (fr := fr) n
    cases hp : (spN B es fr n)[n]? with
    | none => rw [spN, hp]; exact fun v hv => by have := ih v hv; omega
    | some p =>
      rw [spN_go hp]
      refine eds_d ?_ _ _ fun v hv => ?_
      · have := ih p (List.mem_of_getElem? hp); omega
      · have := ih v hv; omega
end Go.Proofs.Ytceldgcmjmfjfaa

/- Layer 3: slices.Equal of edges, Equal of the program, Same of the reference, few. -/
namespace Go.Proofs.Ytceldgcmjmfjfaa
open Go.RowKit Go.Sort

theorem edAt {l : List Ed} {k : Nat} (h : k < l.length) : ∃ x, l[k]? = some x := ⟨_, List.getElem?_eq_getElem h⟩
theorem eqE_step {xs ys : List Ed} {k : Nat} {x : Ed} (hx : xs[k]? = some x) (hy : ys[k]? = some x) (h : xs.take k = ys.take k) : xs.take (k + 1) = ys.take (k + 1) := by
  rw [take_succ_ed hx, take_succ_ed hy, h]
theorem neE_of {xs ys : List Ed} {k : Nat} {x y : Ed} (hx : xs[k]? = some x) (hy : ys[k]? = some y) (h : ¬ x = y) : decide (xs = ys) = false := by
  simp only [decide_eq_false_iff_not]; rintro rfl; rw [hx] at hy; injection hy with hy; exact h hy
theorem eqE_all {xs ys : List Ed} (hl : ys.length = xs.length) (h : xs.take xs.length = ys.take xs.length) : decide (xs = ys) = true := by
  rw [List.take_of_length_le (Nat.le_refl _), List.take_of_length_le (by omega)] at h
  simpa using h
theorem ed_ne {x y : Ed} (h : ¬ x = y) : ¬ (x.f = y.f ∧ x.e = y.e ∧ x.t = y.t) := fun ⟨h1, h2, h3⟩ => h (by cases x; cases y; simp_all)
set_option maxHeartbeats 800000 in
theorem equalEd_any (A B : Option Addr) (n m c d Bx By : Nat) (xs ys : List Ed) (w : World) (hx : RdG w Bx A xs) (hy : RdG w By B ys) (hn : xs.length = n) (hm : ys.length = m) (hb : n ≤ 1000000) (hb' : m ≤ 1000000) :
    Calls Try.prog 82 #[.slice A n c, .slice B m d] w fun e w' => e = .returned (.bool (decide (xs = ys))) ∧ ∃ q, w' = w.drewN q := by
  by_cases hnm : n = m
  · subst hnm
    have HN := Lib.hid hn
    have HM := Lib.hid hm
    clear hn hm
    go_enter Try.func82, Try.ntmps82
    go_wp2
    go_loopw [13] (fun i wr => ∃ k : Nat, k ≤ n ∧ i = .int .i64 k ∧ Hid (xs.take k = ys.take k) ∧ ∃ q, wr = w.drewN q) (fun i _ => n - (intOf i).toNat)
    case atStart => exact ⟨0, Nat.zero_le _, rfl, rfl, 0, rfl⟩
    case round =>
      obtain ⟨k, hk, rfl, ht, q, rfl⟩ := hrel
      by_cases hlt : k < n
      · obtain ⟨b1, o1, rfl, _, hc1⟩ := hx (by rw [HN.out]; omega)
        obtain ⟨b2, o2, rfl, _, hc2⟩ := hy (by rw [HM.out]; omega)
        obtain ⟨x, hx1⟩ := edAt (l := xs) (k := k) (by rw [HN.out]; exact hlt)
        obtain ⟨y, hy1⟩ := edAt (l := ys) (k := k) (by rw [HM.out]; exact hlt)
        obtain ⟨u0, u1, u2⟩ := hc1 k x hx1
        obtain ⟨v0, v1, v2⟩ := hc2 k y hy1
        clear hc1 hc2 hx hy
        by_cases hxy : x = y
        · subst hxy
          have hs := Lib.hid (eqE_step hx1 hy1 ht.out)
          obtain ⟨xf, xe, xt⟩ := x
          clear hx1 hy1 ht
          go_wp2
          go_quiet (fail)
          go_wp2
          go_roundw
          case rel => exact ⟨k + 1, by omega, by go_num, hs, by first | exact ⟨_, rfl⟩ | exact dr_add _ _ _⟩
          case measure => simp [intOf]; omega
        · have hf := Lib.hid (neE_of hx1 hy1 hxy)
          have hne := ed_ne hxy
          obtain ⟨xf, xe, xt⟩ := x
          obtain ⟨yf, ye, yt⟩ := y
          simp only at hne u0 u1 u2 v0 v1 v2
          clear hx1 hy1 ht hxy
          by_cases h1 : xf = yf
          · by_cases h2 : xe = ye
            · have h3 : ¬ xt = yt := fun h3 => hne ⟨h1, h2, h3⟩
              subst h1; subst h2
              clear hne
              go_wp2
              go_quiet (fail)
              go_wp2
              go_ret
              exact ⟨ret_bool hf.out.symm, by first | exact ⟨_, rfl⟩ | exact dr_add _ _ _⟩
            · subst h1
              clear hne
              go_wp2
              go_quiet (fail)
              go_wp2
              go_ret
              exact ⟨ret_bool hf.out.symm, by first | exact ⟨_, rfl⟩ | exact dr_add _ _ _⟩
          · clear hne
            go_wp2
            go_quiet (fail)
            go_wp2
            go_ret
            exact ⟨ret_bool hf.out.symm, by first | exact ⟨_, rfl⟩ | exact dr_add _ _ _⟩
      · have hkn : k = n := by omega
        have hf := Lib.hid (eqE_all (xs := xs) (ys := ys) (by rw [HN.out, HM.out]) (by rw [HN.out, ← hkn]; exact ht.out))
        clear hkn ht
        go_wp2
        go_ret
        exact ⟨ret_bool hf.out.symm, _, rfl⟩
  · have hf : decide (xs = ys) = false := by simp only [decide_eq_false_iff_not]; rintro rfl; omega
    have hne : ((n : Int) != (m : Int)) = true := by simp; omega
    clear hn hm
    go_enter Try.func82, Try.ntmps82
    go_wp2
    go_ret
    exact ⟨ret_bool hf.symm, 0, rfl⟩

theorem au_eq (a b : Au) : decide (a = b) = (decide (a.al = b.al) && (decide (a.st = b.st) && (decide (a.mr = b.mr) && decide (a.ed = b.ed)))) := by
  cases a; cases b; simp [Bool.decide_and]
/-- The calls that compare lists, told by Below. -/
theorem equalInt_b (A B : Option Addr) (n m c d Bx : Nat) (xs ys : List Int) (w : World) (hx : RdI w Bx A xs) (hy : RdI w Bx B ys) (hn : xs.length = n) (hm : ys.length = m) (hb : n ≤ 100000) (hb' : m ≤ 100000) :
    Calls Try.prog 81 #[.slice A n c, .slice B m d] w fun e w' => e = .returned (.bool (decide (xs = ys))) ∧ Below w.heap.size w w' :=
  (equalInt_any A B n m c d Bx Bx xs ys w hx hy hn hm (by omega) (by omega)).mono fun e w' ⟨h, q, e2⟩ => ⟨h, by rw [e2]; exact below_drewN (Below.refl _ _) q⟩
theorem equalEd_b (A B : Option Addr) (n m c d Bx : Nat) (xs ys : List Ed) (w : World) (hx : RdG w Bx A xs) (hy : RdG w Bx B ys) (hn : xs.length = n) (hm : ys.length = m) (hb : n ≤ 1000000) (hb' : m ≤ 1000000) :
    Calls Try.prog 82 #[.slice A n c, .slice B m d] w fun e w' => e = .returned (.bool (decide (xs = ys))) ∧ Below w.heap.size w w' :=
  (equalEd_any A B n m c d Bx Bx xs ys w hx hy hn hm hb hb').mono fun e w' ⟨h, q, e2⟩ => ⟨h, by rw [e2]; exact below_drewN (Below.refl _ _) q⟩

set_option maxHeartbeats 1600000 in
theorem mEqual_any (A : Option Addr) (n c : Nat) (s : Int) (M : Option Addr) (m d : Nat) (E : Option Addr) (k g : Nat) (A2 : Option Addr) (n2 c2 : Nat) (s2 : Int) (M2 : Option Addr) (m2 d2 : Nat) (E2 : Option Addr) (k2 g2 : Nat) (a b : Au) (B : Nat) (w : World) (h : AuR w B A n c s M m d E k g a) (h2 : AuR w B A2 n2 c2 s2 M2 m2 d2 E2 k2 g2 b) (hB : B ≤ w.heap.size) :
    Calls Try.prog 59 #[.agg #[.slice A n c, .int .i64 s, .slice M m d, .slice E k g], .agg #[.slice A2 n2 c2, .int .i64 s2, .slice M2 m2 d2, .slice E2 k2 g2]] w fun e w' => e = .returned (.bool (decide (a = b))) ∧ Below w.heap.size w w' := by
  have hb1 := ((Below.refl w.heap.size w).alloc (Nat.le_refl _) (.cells #[.slice A n c, .int .i64 s, .slice M m d, .slice E k g] 30)).alloc (by simp) (.cells #[.slice A2 n2 c2, .int .i64 s2, .slice M2 m2 d2, .slice E2 k2 g2] 30)
  have HB1 := Lib.hid hb1
  have HX := Lib.hid (box_row A n c s M m d E k g ((Row.new w [.slice A n c, .int .i64 s, .slice M m d, .slice E k g] 30).alloc (.cells #[.slice A2 n2 c2, .int .i64 s2, .slice M2 m2 d2, .slice E2 k2 g2] 30)))
  have HX2 := Lib.hid (show BoxA ((w.alloc (.cells #[.slice A n c, .int .i64 s, .slice M m d, .slice E k g] 30)).alloc (.cells #[.slice A2 n2 c2, .int .i64 s2, .slice M2 m2 d2, .slice E2 k2 g2] 30)) (w.heap.size + 1) A2 n2 c2 s2 M2 m2 d2 E2 k2 g2 by
    have := box_row A2 n2 c2 s2 M2 m2 d2 E2 k2 g2 (Row.new (w.alloc (.cells #[.slice A n c, .int .i64 s, .slice M m d, .slice E k g] 30)) [.slice A2 n2 c2, .int .i64 s2, .slice M2 m2 d2, .slice E2 k2 g2] 30)
    simpa using this)
  have HC1 := Lib.hid (equalInt_b A A2 n n2 c c2 B a.al b.al _ (h.al.below hb1 hB) (h2.al.below hb1 hB) h.hn h2.hn h.bn h2.bn)
  have HC2 := Lib.hid (fun W (hW : Below w.heap.size w W) => equalInt_b M M2 m m2 d d2 B a.mr b.mr W (h.mr.below hW hB) (h2.mr.below hW hB) h.hm h2.hm h.bm h2.bm)
  have HC3 := Lib.hid (fun W (hW : Below w.heap.size w W) => equalEd_b E E2 k k2 g g2 B a.ed b.ed W (h.ed.below hW hB) (h2.ed.below hW hB) h.hk h2.hk h.bk h2.bk)
  have HST := Lib.hid h.st
  have HST2 := Lib.hid h2.st
  obtain ⟨r1, hr1⟩ : ∃ r, r = decide (a.al = b.al) := ⟨_, rfl⟩
  obtain ⟨r2, hr2⟩ : ∃ r, r = decide (a.mr = b.mr) := ⟨_, rfl⟩
  obtain ⟨r3, hr3⟩ : ∃ r, r = decide (a.ed = b.ed) := ⟨_, rfl⟩
  rw [← hr1] at HC1
  rw [← hr2] at HC2
  rw [← hr3] at HC3
  obtain ⟨v, hv⟩ : ∃ v, v = decide (a = b) := ⟨_, rfl⟩
  have HV := Lib.hid (show v = (r1 && (decide (s = s2) && (r2 && r3))) by rw [hv, au_eq, ← hr1, ← hr2, ← hr3, HST.out, HST2.out])
  rw [← hv]
  clear h h2 hb1 hr1 hr2 hr3 hv
  cases r1
  · have hf := Lib.hid (show v = false by rw [HV.out]; rfl)
    go_enter Try.func59, Try.ntmps59
    go_wp2_with fail
    refine HC1.out.mono ?_
    rintro e w1 ⟨rfl, hbw⟩
    have hB := HB1.out.trans (hbw.mono (by simp; omega))
    go_wp2_with fail
    go_ret
    exact ⟨ret_bool hf.out.symm, hB⟩
  · by_cases hs : s = s2
    · have hd : decide (s = s2) = true := by simp [hs]
      subst hs
      cases r2
      · have hf := Lib.hid (show v = false by rw [HV.out, hd]; rfl)
        go_enter Try.func59, Try.ntmps59
        go_wp2_with fail
        refine HC1.out.mono ?_
        rintro e w1 ⟨rfl, hbw⟩
        have hB := Lib.hid (HB1.out.trans (hbw.mono (by simp; omega)))
        obtain ⟨p0, p1, p2, p3⟩ := HX.out.below hbw (by simp; omega)
        obtain ⟨q0, q1, q2, q3⟩ := HX2.out.below hbw (by simp)
        clear hbw
        go_wp2_with fail
        refine (HC2.out w1 hB.out).mono ?_
        rintro e w2 ⟨rfl, hbw⟩
        have hB2 := Lib.hid (hB.out.trans (hbw.mono hB.out.size))
        go_wp2_with fail
        go_ret
        exact ⟨ret_bool hf.out.symm, hB2.out⟩
      · have hf := Lib.hid (show v = r3 by rw [HV.out, hd]; rfl)
        go_enter Try.func59, Try.ntmps59
        go_wp2_with fail
        refine HC1.out.mono ?_
        rintro e w1 ⟨rfl, hbw⟩
        have hB := Lib.hid (HB1.out.trans (hbw.mono (by simp; omega)))
        have hX1 := Lib.hid (HX.out.below hbw (by simp; omega))
        have hX2 := Lib.hid (HX2.out.below hbw (by simp))
        have hz := hbw.size
        simp only [World.size_alloc] at hz
        obtain ⟨p0, p1, p2, p3⟩ := hX1.out
        obtain ⟨q0, q1, q2, q3⟩ := hX2.out
        clear hbw
        go_wp2_with fail
        refine (HC2.out w1 hB.out).mono ?_
        rintro e w2 ⟨rfl, hbw⟩
        have hB2 := Lib.hid (hB.out.trans (hbw.mono hB.out.size))
        clear p0 p1 p2 p3 q0 q1 q2 q3
        obtain ⟨p0, p1, p2, p3⟩ := hX1.out.below hbw (by omega)
        obtain ⟨q0, q1, q2, q3⟩ := hX2.out.below hbw (by omega)
        clear hbw
        go_wp2_with fail
        refine (HC3.out w2 hB2.out).mono ?_
        rintro e w3 ⟨rfl, hbw⟩
        have hB3 := Lib.hid (hB2.out.trans (hbw.mono hB2.out.size))
        go_wp2_with fail
        go_ret
        exact ⟨ret_bool hf.out.symm, hB3.out⟩
    · have hd : decide (s = s2) = false := by simp [hs]
      have hf := Lib.hid (show v = false by rw [HV.out, hd]; rfl)
      have hd2 : (s == s2) = false := by simp [hs]
      go_enter Try.func59, Try.ntmps59
      go_wp2_with fail
      refine HC1.out.mono ?_
      rintro e w1 ⟨rfl, hbw⟩
      have hB := Lib.hid (HB1.out.trans (hbw.mono (by simp; omega)))
      obtain ⟨p0, p1, p2, p3⟩ := HX.out.below hbw (by simp; omega)
      obtain ⟨q0, q1, q2, q3⟩ := HX2.out.below hbw (by simp)
      clear hbw
      go_wp2_with fail
      go_ret
      exact ⟨ret_bool hf.out.symm, hB.out⟩
end Go.Proofs.Ytceldgcmjmfjfaa

/- Layer 3: Check of the reference. -/
namespace Go.Proofs.Ytceldgcmjmfjfaa
open Go.RowKit Go.Sort

end Go.Proofs.Ytceldgcmjmfjfaa

/- Layer 3: Step, index, Empty of the reference. -/
namespace Go.Proofs.Ytceldgcmjmfjfaa
open Go.RowKit Go.Sort

/-- The state to which an event leads; -1 if it is not possible. -/
def stepI (a : Au) (q ev : Int) : Int := (stepO a q ev).getD (-1)
theorem edge_first {l : List Ed} {k : Nat} {q ev : Int} {x : Ed} (hx : l[k]? = some x) (h : ∀ y ∈ l.take k, ¬ (y.f = q ∧ y.e = ev)) (h1 : x.f = q) (h2 : x.e = ev) : edgeO l q ev = some x := by
  unfold edgeO
  have hl := (List.getElem?_eq_some_iff.1 hx)
  obtain ⟨hk, e⟩ := hl
  have e2 : l = l.take k ++ x :: l.drop (k + 1) := by
    rw [← e, List.getElem_cons_drop, List.take_append_drop]
  conv => lhs; rw [e2]
  rw [List.find?_append, List.find?_eq_none.2 (fun y hy => by simpa using h y hy)]
  simp [h1, h2]
theorem step_first {a : Au} {k : Nat} {q ev : Int} {x : Ed} (hx : a.ed[k]? = some x) (h : ∀ y ∈ a.ed.take k, ¬ (y.f = q ∧ y.e = ev)) (h1 : x.f = q) (h2 : x.e = ev) : stepI a q ev = x.t := by
  rw [stepI, stepO, edge_first hx h h1 h2]; rfl
theorem step_never {a : Au} {q ev : Int} {n : Nat} (hn : a.ed.length = n) (h : ∀ y ∈ a.ed.take n, ¬ (y.f = q ∧ y.e = ev)) : stepI a q ev = -1 := by
  rw [List.take_of_length_le (by omega)] at h
  rw [stepI, stepO, edgeO_none.2 h]; rfl
theorem not_next {l : List Ed} {k : Nat} {q ev : Int} {x : Ed} (hx : l[k]? = some x) (h : ∀ y ∈ l.take k, ¬ (y.f = q ∧ y.e = ev)) (hn : ¬ (x.f = q ∧ x.e = ev)) : ∀ y ∈ l.take (k + 1), ¬ (y.f = q ∧ y.e = ev) := fun y hy => by
  rw [take_succ_ed hx, List.mem_append] at hy
  rcases hy with hy | hy
  · exact h y hy
  · rw [List.mem_singleton] at hy; subst hy; exact hn

end Go.Proofs.Ytceldgcmjmfjfaa

/- Layer 3: an automaton that is being built in a box. -/
namespace Go.Proofs.Ytceldgcmjmfjfaa
open Go.RowKit Go.Sort

/-- An automaton that is being built in box bc: below block b1 all is as it was; its edges and, if mk says so, its marked states lie in rows of its own. -/
structure Bd (w1 : World) (b1 bc : Nat) (mk ke : Bool) (va : Value) (s : Int) (wr : World) (ms : List Int) (vm : Value) (es : List Ed) (ve : Value) : Prop where
  bel : Below b1 w1 wr
  cb : Row wr bc 30 [va, .int .i64 s, vm, ve]
  mo : mk = true → Own wr b1 vm ms
  eo : ke = true → OwnE wr b1 ve es
  h1 : b1 ≤ bc
section
variable {w1 wr w2 : World} {b1 bc : Nat} {mk ke : Bool} {va vm ve vm' ve' : Value} {s : Int} {ms : List Int} {es : List Ed}
theorem Bd.h2 (h : Bd w1 b1 bc mk ke va s wr ms vm es ve) : bc < wr.heap.size := h.cb.lt
theorem Bd.call (h : Bd w1 b1 bc mk ke va s wr ms vm es ve) (hb : Below wr.heap.size wr w2) : Bd w1 b1 bc mk ke va s w2 ms vm es ve :=
  ⟨h.bel.trans (hb.mono (Nat.le_of_lt (Nat.lt_of_le_of_lt h.h1 h.h2))), h.cb.below hb h.h2, fun e => own_below (h.mo e) hb, fun e => own_below (h.eo e) hb, h.h1⟩
theorem Bd.alloc (h : Bd w1 b1 bc mk ke va s wr ms vm es ve) (o : Obj) : Bd w1 b1 bc mk ke va s (wr.alloc o) ms vm es ve := h.call ((Below.refl _ wr).alloc (Nat.le_refl _) o)
theorem Bd.drewN (h : Bd w1 b1 bc mk ke va s wr ms vm es ve) (q : Nat) : Bd w1 b1 bc mk ke va s (wr.drewN q) ms vm es ve := ⟨below_drewN h.bel q, h.cb, h.mo, h.eo, h.h1⟩
theorem Bd.drew (h : Bd w1 b1 bc mk ke va s wr ms vm es ve) : Bd w1 b1 bc mk ke va s wr.drew ms vm es ve := ⟨h.bel.drew, h.cb, h.mo, h.eo, h.h1⟩
theorem Bd.neM (h : Bd w1 b1 bc true ke va s wr ms vm es ve) : some bc ≠ vm.ownBlock := fun e => row_ne_own h.cb (h.mo rfl) (by decide) e.symm
theorem Bd.neE (h : Bd w1 b1 bc mk true va s wr ms vm es ve) : some bc ≠ ve.ownBlock := fun e => row_ne_own h.cb (h.eo rfl) (by decide) e.symm
/-- An edge is appended. -/
theorem Bd.edge {x : Ed} (h : Bd w1 b1 bc mk true va s wr ms vm es ve) (hg : wr.grownBy w2 ve.ownBlock) (ho : OwnE w2 b1 ve' (es ++ [x])) :
    Bd w1 b1 bc mk true va s (w2.setCell ⟨bc, 3, none⟩ ve') ms vm (es ++ [x]) ve' := by
  have g2 := h.h2
  have g1 := h.h1
  have hne := h.neE
  have he := h.eo rfl
  refine ⟨h.bel.trans (((Below.refl b1 wr).grown hg (by omega) (fun k hk => (he.lt k hk).1)).setCell (p := ⟨bc, 3, none⟩) h.h1 _), ?_, fun e => ?_, fun _ => ?_, h.h1⟩
  · exact (h.cb.grown hg (fun e => hne e.symm)).set 3 ve'
  · have h3 := own_row (h.mo e) hg (owns_ne (h.mo e) he (by decide))
    exact ownsRow_setCell_other h3 (a := ⟨bc, 3, none⟩) (row_ne_own (h.cb.grown hg (fun e => hne e.symm)) h3 (by decide)) ve'
  · exact ownsRow_setCell_other ho (a := ⟨bc, 3, none⟩) (row_ne_own (h.cb.grown hg (fun e => hne e.symm)) ho (by decide)) ve'
/-- A number is appended to the marked states. -/
theorem Bd.mark {x : Int} (h : Bd w1 b1 bc true ke va s wr ms vm es ve) (hg : wr.grownBy w2 vm.ownBlock) (ho : Own w2 b1 vm' (ms ++ [x])) :
    Bd w1 b1 bc true ke va s (w2.setCell ⟨bc, 2, none⟩ vm') (ms ++ [x]) vm' es ve := by
  have g2 := h.h2
  have g1 := h.h1
  have hne := h.neM
  have hm := h.mo rfl
  refine ⟨h.bel.trans (((Below.refl b1 wr).grown hg (by omega) (fun k hk => (hm.lt k hk).1)).setCell (p := ⟨bc, 2, none⟩) h.h1 _), ?_, fun e => ?_, fun e => ?_, h.h1⟩
  · exact (h.cb.grown hg (fun e => hne e.symm)).set 2 vm'
  · exact ownsRow_setCell_other ho (a := ⟨bc, 2, none⟩) (row_ne_own (h.cb.grown hg (fun e => hne e.symm)) ho (by decide)) vm'
  · have h3 := own_row (h.eo e) hg (owns_ne (h.eo e) hm (by decide))
    exact ownsRow_setCell_other h3 (a := ⟨bc, 2, none⟩) (row_ne_own (h.cb.grown hg (fun e => hne e.symm)) h3 (by decide)) vm'
/-- The number of the states is stored. -/
theorem Bd.state (h : Bd w1 b1 bc mk ke va s wr ms vm es ve) (s' : Int) : Bd w1 b1 bc mk ke va s' (wr.setCell ⟨bc, 1, none⟩ (.int .i64 s')) ms vm es ve := by
  refine ⟨h.bel.setCell (p := ⟨bc, 1, none⟩) h.h1 _, h.cb.set 1 _, fun e => ownsRow_setCell_other (h.mo e) (a := ⟨bc, 1, none⟩) (row_ne_own h.cb (h.mo e) (by decide)) _, fun e => ownsRow_setCell_other (h.eo e) (a := ⟨bc, 1, none⟩) (row_ne_own h.cb (h.eo e) (by decide)) _, h.h1⟩
end
end Go.Proofs.Ytceldgcmjmfjfaa

/- Layer 3: Found and index of the reference. -/
namespace Go.Proofs.Ytceldgcmjmfjfaa
open Go.RowKit Go.Sort

/-- Where a number is in a list; -1 if it isn't. -/
def idxI (l : List Int) (x : Int) : Int := if x ∈ l then (l.idxOf x : Int) else -1
theorem idx_yes {zs : List Int} {k : Nat} {x : Int} (h : k < zs.length) (ht : x ∉ zs.take k) (he : zs.getD k 0 = x) : idxI zs x = (k : Int) := by
  have hm : x ∈ zs := by rw [← he]; exact getD_mem h
  rw [idxI, if_pos hm]
  have e : zs = zs.take k ++ zs.drop k := (List.take_append_drop k zs).symm
  rw [e, List.idxOf_append, if_neg ht, drop_step zs k h, he]
  simp; omega
theorem idx_no {zs : List Int} {n : Nat} {x : Int} (hn : zs.length = n) (h : x ∉ zs.take n) : idxI zs x = -1 := by
  rw [List.take_of_length_le (by omega)] at h; rw [idxI, if_neg h]

/-- The edges of a state by the first events. -/
def succK (a : Au) (q : Int) (k : Nat) : List Ed := (a.al.take k).filterMap (edgeO a.ed q)
theorem succK_zero (a : Au) (q : Int) : succK a q 0 = [] := by simp [succK]
theorem take_getD {zs : List Int} {k : Nat} (h : k < zs.length) : zs.take (k + 1) = zs.take k ++ [zs.getD k 0] := by
  rw [List.take_add_one]; simp [List.getD, List.getElem?_eq_getElem h]
theorem succK_some {a : Au} {q : Int} {k : Nat} {x : Ed} (hk : k < a.al.length) (h : edgeO a.ed q (a.al.getD k 0) = some x) : succK a q (k + 1) = succK a q k ++ [x] := by
  unfold succK; rw [take_getD hk, List.filterMap_append]; simp only [List.filterMap_cons, h, List.filterMap_nil, List.append_nil]
theorem succK_none {a : Au} {q : Int} {k : Nat} (hk : k < a.al.length) (h : edgeO a.ed q (a.al.getD k 0) = none) : succK a q (k + 1) = succK a q k := by
  unfold succK; rw [take_getD hk, List.filterMap_append]; simp only [List.filterMap_cons, h, List.filterMap_nil, List.append_nil]
theorem succK_all {a : Au} (h : RightW a) {q : Int} {n : Nat} (hn : a.al.length = n) : succK a q n = succ a.ed q := by
  unfold succK; rw [List.take_of_length_le (by omega), succ_eq h]
theorem succK_pre {a : Au} (h : RightW a) (q : Int) (k : Nat) : succK a q k <+: succ a.ed q := by
  rw [succ_eq h, succK]
  conv => rhs; rw [← List.take_append_drop k a.al, List.filterMap_append]
  exact List.prefix_append _ _
theorem stepI_of {a : Au} {q ev : Int} {x : Ed} (h : edgeO a.ed q ev = some x) : stepI a q ev = x.t := by rw [stepI, stepO, h]; rfl
theorem stepI_no {a : Au} {q ev : Int} (h : edgeO a.ed q ev = none) : stepI a q ev = -1 := by rw [stepI, stepO, h]; rfl

/-- What Found keeps: the call's memory, its list. -/
structure FP (W1 : World) (v : Value) (fl : List Int) (wr : World) : Prop where
  bel : Below W1.heap.size W1 wr
  ow : Own wr W1.heap.size v fl
theorem FP.call {W1 wr w2 : World} {v : Value} {fl : List Int} (h : FP W1 v fl wr) (hb : Below wr.heap.size wr w2) : FP W1 v fl w2 := ⟨h.bel.trans (hb.mono h.bel.size), own_kept h.ow hb⟩
theorem FP.drew {W1 wr : World} {v : Value} {fl : List Int} (h : FP W1 v fl wr) : FP W1 v fl wr.drew := ⟨h.bel.drew, h.ow⟩
/-- The cells that a step's arguments are loaded from. -/
structure StC (H : Nat) (A : Option Addr) (n c : Nat) (s : Int) (M : Option Addr) (m d : Nat) (E : Option Addr) (k g : Nat) (gF j : Nat) (q : Int) (bA iA : Nat) (ev : Int) (wr : World) : Prop where
  bx : BoxA wr H A n c s M m d E k g
  cf : wr.cell? ⟨gF, j, none⟩ = some (.int .i64 q)
  ca : wr.cell? ⟨bA, iA, none⟩ = some (.int .i64 ev)
  l1 : H < wr.heap.size
  l2 : gF < wr.heap.size
  l3 : bA < wr.heap.size
section
variable {H : Nat} {A : Option Addr} {n c : Nat} {s : Int} {M : Option Addr} {m d : Nat} {E : Option Addr} {k g : Nat} {gF j : Nat} {q : Int} {bA iA : Nat} {ev : Int} {wr w2 : World}
theorem StC.call (h : StC H A n c s M m d E k g gF j q bA iA ev wr) (hb : Below wr.heap.size wr w2) : StC H A n c s M m d E k g gF j q bA iA ev w2 :=
  ⟨h.bx.below hb h.l1, (hb.cell (p := ⟨gF, j, none⟩) h.l2).trans h.cf, (hb.cell (p := ⟨bA, iA, none⟩) h.l3).trans h.ca, Nat.lt_of_lt_of_le h.l1 hb.size, Nat.lt_of_lt_of_le h.l2 hb.size, Nat.lt_of_lt_of_le h.l3 hb.size⟩
theorem StC.drew (h : StC H A n c s M m d E k g gF j q bA iA ev wr) : StC H A n c s M m d E k g gF j q bA iA ev wr.drew := ⟨⟨h.bx.c0, h.bx.c1, h.bx.c2, h.bx.c3⟩, h.cf, h.ca, h.l1, h.l2, h.l3⟩
end

end Go.Proofs.Ytceldgcmjmfjfaa

/- Layer 3: Enabled and IsCanonical of the program. -/
namespace Go.Proofs.Ytceldgcmjmfjfaa
open Go.RowKit Go.Sort

/-- What Enabled hands back. -/
def enR (a : Au) (q : Int) : List Int × Int := if plE a q ≠ 0 then ([], plE a q) else ((succ a.ed q).map Ed.e, 0)
/-- A list in new memory and an error. -/
def GivesP (w : World) (r : List Int × Int) (e : Ending) (w' : World) : Prop := ∃ A c, e = .returned (.tuple #[.slice A r.1.length c, .int .i64 r.2]) ∧ RdI w' w'.heap.size A r.1 ∧ Below w.heap.size w w' ∧ r.1.length ≤ c ∧ c ≤ 9223372036854775807
theorem succ_take_yes {l : List Ed} {t : Nat} {x : Ed} {q : Int} (h : l[t]? = some x) (hq : x.f = q) : (succ (l.take (t + 1)) q).map Ed.e = (succ (l.take t) q).map Ed.e ++ [x.e] := by
  rw [take_succ_ed h]; unfold succ; rw [List.filter_append, List.map_append]; simp [hq]
theorem succ_take_no {l : List Ed} {t : Nat} {x : Ed} {q : Int} (h : l[t]? = some x) (hq : ¬ x.f = q) : (succ (l.take (t + 1)) q).map Ed.e = (succ (l.take t) q).map Ed.e := by
  rw [take_succ_ed h]; unfold succ; rw [List.filter_append]; simp [hq]
theorem succ_take_len (l : List Ed) (t : Nat) (q : Int) : ((succ (l.take t) q).map Ed.e).length ≤ t := by
  rw [List.length_map]; unfold succ
  exact Nat.le_trans (List.length_filter_le _ _) (List.length_take_le _ _)

/-- Whether an automaton is right and its own canonical form. -/
def isC (a : Au) : Bool := decide (chkE a = 0) && decide (a = canA a)
/-- The argument's box. -/
structure IB (w : World) (A : Option Addr) (n c : Nat) (s : Int) (M : Option Addr) (m d : Nat) (E : Option Addr) (k g : Nat) (w' : World) : Prop where
  bel : Below w.heap.size w w'
  bx : BoxA w' w.heap.size A n c s M m d E k g
  lt : w.heap.size < w'.heap.size
section
variable {w w1 w2 : World} {A : Option Addr} {n c : Nat} {s : Int} {M : Option Addr} {m d : Nat} {E : Option Addr} {k g : Nat}
theorem IB.call (h : IB w A n c s M m d E k g w1) (hb : Below w1.heap.size w1 w2) : IB w A n c s M m d E k g w2 := ⟨h.bel.trans (hb.mono h.bel.size), h.bx.below hb h.lt, Nat.lt_of_lt_of_le h.lt hb.size⟩
theorem IB.drew (h : IB w A n c s M m d E k g w1) : IB w A n c s M m d E k g w1.drew := ⟨h.bel.drew, ⟨h.bx.c0, h.bx.c1, h.bx.c2, h.bx.c3⟩, h.lt⟩
theorem IB.made (w : World) : IB w A n c s M m d E k g (w.alloc (.cells #[.slice A n c, .int .i64 s, .slice M m d, .slice E k g] 30)) := ⟨(Below.refl _ _).alloc (Nat.le_refl _) _, BoxA.made w A n c s M m d E k g 30, by simp⟩
end

set_option maxHeartbeats 4000000 in
set_option maxRecDepth 100000 in
theorem mIsCanonical_any (A : Option Addr) (n c : Nat) (s : Int) (M : Option Addr) (m d : Nat) (E : Option Addr) (k g : Nat) (a : Au) (w : World) (h : AuR w w.heap.size A n c s M m d E k g a) :
    Calls Try.prog 25 #[.agg #[.slice A n c, .int .i64 s, .slice M m d, .slice E k g]] w fun e w' => e = .returned (.bool (isC a)) ∧ Below w.heap.size w w' := by
  have HI0 := Lib.hid (IB.made (A := A) (n := n) (c := c) (s := s) (M := M) (m := m) (d := d) (E := E) (k := k) (g := g) w)
  have HI0d := Lib.hid HI0.out.drew
  have HAt := Lib.hid (fun W (hW : Below w.heap.size w W) => (h.below hW (Nat.le_refl _)).more hW.size)
  obtain ⟨u, hu⟩ : ∃ u, u = chkE a := ⟨_, rfl⟩
  have HC := Lib.hid (fun W (hI : IB w A n c s M m d E k g W) => (mCheck_any A n c s M m d E k g a W (HAt.out W hI.bel)).mono (R' := fun e w' => e = .returned (.int .i64 u) ∧ IB w A n c s M m d E k g w') fun e w' hh => ⟨by rw [hh.1, hu], hI.call hh.2⟩)
  have HU := Lib.hid hu
  obtain ⟨p0, p1, p2, p3⟩ := HI0.out.bx
  by_cases h0 : u = 0
  · have hri := Lib.hid (right_of (a := a) (by rw [← hu, h0]))
    obtain ⟨r, hr⟩ : ∃ r, r = decide (a = canA a) := ⟨_, rfl⟩
    have hisC := Lib.hid (show isC a = r by rw [isC, ← hu, ← hr, h0]; simp)
    rw [hisC.out]
    have HCan := Lib.hid (fun W (hI : IB w A n c s M m d E k g W) => (canon_all A n c s M m d E k g a W.heap.size W (HAt.out W hI.bel) (Nat.le_refl _) hri.out.toRightW (by have := hri.out.st1; omega)).mono (R' := fun e w' => ∃ A2 n2 c2 s2 M2 m2 d2 E2 k2 g2, e = .returned (.agg #[.slice A2 n2 c2, .int .i64 s2, .slice M2 m2 d2, .slice E2 k2 g2]) ∧ AuR w' w'.heap.size A2 n2 c2 s2 M2 m2 d2 E2 k2 g2 (canA a) ∧ IB w A n c s M m d E k g w') fun e w' hh => by
      obtain ⟨v, e1, ⟨A2, n2, c2, s2, M2, m2, d2, E2, k2, g2, rfl, hx, _⟩, hb⟩ := hh
      exact ⟨A2, n2, c2, s2, M2, m2, d2, E2, k2, g2, e1, hx, hI.call hb⟩)
    have HRr := Lib.hid hr
    have hd : (u == 0) = true := by simp [h0]
    clear h hu hr h0
    go_enter Try.func25, Try.ntmps25
    go_wp2_with fail
    go_region_held3 (fun w' => w'.cell? ⟨w.heap.size, 0, none⟩ = some (.slice A n c) ∧ w'.cell? ⟨w.heap.size, 1, none⟩ = some (.int .i64 s) ∧ w'.cell? ⟨w.heap.size, 2, none⟩ = some (.slice M m d) ∧ w'.cell? ⟨w.heap.size, 3, none⟩ = some (.slice E k g)) (first | with_reducible exact ⟨p0, p1, p2, p3⟩ | go_keep)
      (first
      | (go_simp; go_at_call 42; (first | with_reducible refine (HC.out _ HI0.out).mono ?_ | with_reducible refine (HC.out _ HI0d.out).mono ?_); rintro e w3 ⟨rfl, hI3⟩
         have HI3 := Lib.hid hI3
         have HI3d := Lib.hid hI3.drew
         obtain ⟨p0, p1, p2, p3⟩ := hI3.bx
         clear hI3)
      | (go_simp; go_at_call 60; (first | with_reducible refine (HCan.out _ HI3.out).mono ?_ | with_reducible refine (HCan.out _ HI3d.out).mono ?_); rintro e w4 ⟨A2, n2, c2, s2, M2, m2, d2, E2, k2, g2, rfl, hau, hI4⟩
         have HI4 := Lib.hid hI4
         have HI4d := Lib.hid hI4.drew
         have HE4 := Lib.hid ((mEqual_any A n c s M m d E k g A2 n2 c2 s2 M2 m2 d2 E2 k2 g2 a (canA a) w4.heap.size w4 (HAt.out w4 hI4.bel) hau (Nat.le_refl _)).mono (R' := fun e w' => e = .returned (.bool r) ∧ IB w A n c s M m d E k g w') fun e w' hh => ⟨by rw [hh.1, ← HRr.out], hI4.call hh.2⟩)
         have HE4d := Lib.hid ((mEqual_any A n c s M m d E k g A2 n2 c2 s2 M2 m2 d2 E2 k2 g2 a (canA a) w4.heap.size w4.drew (HAt.out w4.drew hI4.drew.bel) (AuR.keep hau fun b o _ => rfl) (Nat.le_refl _)).mono (R' := fun e w' => e = .returned (.bool r) ∧ IB w A n c s M m d E k g w') fun e w' hh => ⟨by rw [hh.1, ← HRr.out], hI4.drew.call hh.2⟩)
         obtain ⟨p0, p1, p2, p3⟩ := hI4.bx
         clear hI4 hau)
      | (go_simp; go_at_call 59; (first | with_reducible refine HE4.out.mono ?_ | with_reducible refine HE4d.out.mono ?_); rintro e w5 ⟨rfl, hI5⟩
         have HI5 := Lib.hid hI5
         obtain ⟨p0, p1, p2, p3⟩ := hI5.bx
         clear hI5))
    all_goals
      go_wp2_with fail
      go_ret
      exact ⟨rfl, by first | exact HI5.out.bel | exact HI5.out.bel.drew⟩
  · have hisC := Lib.hid (show isC a = false by rw [isC, ← hu]; simp [h0])
    rw [hisC.out]
    have hd : (u == 0) = false := by simp [h0]
    clear h hu h0
    go_enter Try.func25, Try.ntmps25
    go_wp2_with fail
    go_region_law (first
      | (go_simp; go_at_call 42; refine (HC.out _ HI0d.out).mono ?_; rintro e w3 ⟨rfl, hI3⟩
         have HI3 := Lib.hid hI3
         obtain ⟨p0, p1, p2, p3⟩ := hI3.bx
         clear hI3))
    all_goals
      go_wp2_with fail
      go_ret
      exact ⟨rfl, by first | exact HI3.out.bel | exact HI3.out.bel.drew⟩
end Go.Proofs.Ytceldgcmjmfjfaa

/- Layer 3: Closed of the program. -/
namespace Go.Proofs.Ytceldgcmjmfjfaa
open Go.RowKit Go.Sort

/-- The canonical form with all states marked. -/
def clsA (a : Au) : Au := ⟨a.al, ((fnd a).length : Int), rng (fnd a).length, canEn a (fnd a).length⟩
def clsR (a : Au) : Au × Int := if chkE a ≠ 0 then (zeroA, chkE a) else (clsA a, 0)
theorem rng_succ (t : Nat) : rng (t + 1) = rng t ++ [(t : Int)] := by simp [rng, List.range_succ]

end Go.Proofs.Ytceldgcmjmfjfaa

/- Layer 3: Complete of the program. -/
namespace Go.Proofs.Ytceldgcmjmfjfaa
open Go.RowKit Go.Sort

/-- Where an event leads when the further state is there. -/
def toC (a : Au) (q ev : Int) : Int := (stepO a q ev).getD a.st
def rowC (a : Au) (q : Int) : List Ed := a.al.map fun ev => ⟨q, ev, toC a q ev⟩
def compE (a : Au) (n : Nat) : List Ed := (List.range n).flatMap fun (q : Nat) => rowC a (q : Int)
/-- An automaton with a further state to which all events lead that aren't possible. -/
def compA (a : Au) : Au := ⟨a.al, a.st + 1, a.mr, compE a (a.st.toNat + 1)⟩
def cmpR (a : Au) : Au × Int := if chkE a ≠ 0 then (zeroA, chkE a) else (canA (compA a), 0)
theorem compE_succ (a : Au) (n : Nat) : compE a (n + 1) = compE a n ++ rowC a (n : Int) := by simp [compE, List.range_succ]
theorem rowC_len (a : Au) (q : Int) : (rowC a q).length = a.al.length := by simp [rowC]
theorem compE_len (a : Au) : ∀ n, (compE a n).length = n * a.al.length
  | 0 => by simp [compE]
  | n + 1 => by rw [compE_succ, List.length_append, compE_len a n, rowC_len, Nat.add_mul, Nat.one_mul]
theorem rowC_take {a : Au} {q : Int} {t : Nat} (h : t < a.al.length) : (rowC a q).take (t + 1) = (rowC a q).take t ++ [⟨q, a.al.getD t 0, toC a q (a.al.getD t 0)⟩] := by
  unfold rowC
  rw [← List.map_take, ← List.map_take, take_getD h, List.map_append]; rfl
theorem rowC_all {a : Au} {q : Int} {n : Nat} (h : a.al.length = n) : (rowC a q).take n = rowC a q := List.take_of_length_le (by rw [rowC_len]; omega)
theorem mem_compE {a : Au} {n : Nat} {y : Ed} : y ∈ compE a n ↔ ∃ q : Nat, q < n ∧ ∃ ev ∈ a.al, y = ⟨(q : Int), ev, toC a q ev⟩ := by
  unfold compE rowC
  simp only [List.mem_flatMap, List.mem_range, List.mem_map]
  constructor
  · rintro ⟨i, hi, x, hx, e⟩; exact ⟨i, hi, x, hx, e.symm⟩
  · rintro ⟨i, hi, x, hx, e⟩; exact ⟨i, hi, x, hx, e.symm⟩
theorem toC_range {a : Au} (h : RightW a) (q ev : Int) : 0 ≤ toC a q ev ∧ toC a q ev < a.st + 1 := by
  unfold toC
  cases hs : stepO a q ev with
  | none => have := h.st0; simp; omega
  | some t => have := step_range h hs; simp; omega
theorem compE_sorted {a : Au} (h : RightW a) : ∀ n, (compE a n).Pairwise ltE
  | 0 => by simp [compE]
  | n + 1 => by
    rw [compE_succ, List.pairwise_append]
    refine ⟨compE_sorted h n, ?_, fun x hx y hy => ?_⟩
    · unfold rowC
      rw [List.pairwise_map]
      exact h.alo.imp fun hlt => by unfold ltE; simp; exact hlt
    · obtain ⟨i, hi, z, _, rfl⟩ := mem_compE.1 hx
      unfold rowC at hy
      obtain ⟨z2, _, rfl⟩ := List.mem_map.1 hy
      unfold ltE; simp; omega
theorem comp_right {a : Au} (h : RightW a) : RightW (compA a) where
  alr := h.alr
  alo := h.alo
  st0 := by have := h.st0; simp [compA]; omega
  mrr x hx := by have := h.mrr x hx; simp only [compA]; omega
  mro := h.mro
  edr y hy := by
    obtain ⟨q, hq, ev, hev, rfl⟩ := mem_compE.1 hy
    have := toC_range h q ev
    have := h.st0
    exact ⟨by simp only [compA]; omega, by simp only [compA]; omega, hev⟩
  edo := compE_sorted h _
theorem al_len {a : Au} (h : RightW a) : a.al.length ≤ 32 := nodup_len (lt_nodup h.alo) fun x hx => by have := h.alr x hx; omega
theorem news_three {W : World} {x y z : Value} {T : TypeId} {b : Nat} (hb : W.heap.size = b) : ∀ j u, [x, y, z][j]? = some u → (W.alloc (.cells #[x, y, z] T)).cell? ((⟨b, 0, none⟩ : Addr).add j) = some u := by
  subst hb
  intro j u hj
  rw [show ((⟨W.heap.size, 0, none⟩ : Addr).add j) = ⟨W.heap.size, j, none⟩ by (simp [Addr.add]; try exact fun h => h.symm)]
  exact (Row.new W [x, y, z] T).cell j hj

end Go.Proofs.Ytceldgcmjmfjfaa

/- Layer 4: the closure of spread, which finds a state once. -/
namespace Go.Proofs.Ytceldgcmjmfjfaa
open Go.RowKit Go.Sort

theorem rows_neG {w : World} {g1 g2 : Nat} {e1 e2 : TypeId} {c1 c2 : List Value} (h1 : Row w g1 e1 c1) (h2 : Row w g2 e2 c2) (he : e1 ≠ e2) : g1 ≠ g2 := by
  rintro rfl
  have h := h1.symm.trans h2
  simp only [Option.some.injEq, Obj.cells.injEq] at h
  exact he h.2.1
/-- The cells of visits. -/
def encV (l : List Vi) : List Value := l.flatMap fun v => [.int .i64 v.s, .int .i64 v.d, .int .i64 v.e, .int .i64 v.b]
theorem encV_len (l : List Vi) : (encV l).length = l.length * 4 := by
  induction l with
  | nil => rfl
  | cons x l ih => simp [encV] at ih ⊢; omega
theorem encV_app (l r : List Vi) : encV (l ++ r) = encV l ++ encV r := by simp [encV]
theorem encV_at : ∀ (l : List Vi) (j : Nat) (x : Vi), l[j]? = some x → (encV l)[j * 4]? = some (.int .i64 x.s) ∧ (encV l)[j * 4 + 1]? = some (.int .i64 x.d) ∧ (encV l)[j * 4 + 2]? = some (.int .i64 x.e) ∧ (encV l)[j * 4 + 3]? = some (.int .i64 x.b)
  | [], j, x, h => by simp at h
  | y :: l, 0, x, h => by simp at h; subst h; exact ⟨rfl, rfl, rfl, rfl⟩
  | y :: l, j + 1, x, h => by
    have e : ∀ i, (encV (y :: l))[i + 4]? = (encV l)[i]? := fun i => by
      show ([_, _, _, _] ++ encV l)[i + 4]? = _
      rw [List.getElem?_append_right (by simp)]; simp
    have ih := encV_at l j x (by simpa using h)
    rw [show (j + 1) * 4 = j * 4 + 4 by omega, show j * 4 + 4 + 1 = j * 4 + 1 + 4 by omega, show j * 4 + 4 + 2 = j * 4 + 2 + 4 by omega, show j * 4 + 4 + 3 = j * 4 + 3 + 4 by omega, e, e, e, e]
    exact ih
theorem info_visit : (Try.prog.info? 95).map (fun i => (i.zero, i.size, i.bytes)) = some (some (.agg #[.int .i64 0, .int .i64 0, .int .i64 0, .int .i64 0]), 4, 32) := by kernel_rfl
abbrev OwnV (w : World) (base : Nat) (v : Value) (l : List Vi) : Prop := w.ownsRow base 95 4 v l.length (encV l)
/-- These cells hold these visits. -/
def ViAt (w : World) (b o : Nat) (x : Vi) : Prop :=
  w.cell? ⟨b, o, none⟩ = some (.int .i64 x.s) ∧ w.cell? ⟨b, o + 1, none⟩ = some (.int .i64 x.d) ∧ w.cell? ⟨b, o + 2, none⟩ = some (.int .i64 x.e) ∧ w.cell? ⟨b, o + 3, none⟩ = some (.int .i64 x.b)
def RdV (w : World) (B : Nat) (A : Option Addr) (l : List Vi) : Prop :=
  0 < l.length → ∃ b off, A = some ⟨b, off, none⟩ ∧ b < B ∧ ∀ j x, l[j]? = some x → ViAt w b (off + j * 4) x
theorem RdV.keep {w w' : World} {B : Nat} {A : Option Addr} {l : List Vi} (h : RdV w B A l) (hk : ∀ b o, b < B → w'.cell? ⟨b, o, none⟩ = w.cell? ⟨b, o, none⟩) : RdV w' B A l := fun h0 => by
  obtain ⟨b, off, e, hb, hc⟩ := h h0
  exact ⟨b, off, e, hb, fun j x hj => ⟨(hk _ _ hb).trans (hc j x hj).1, (hk _ _ hb).trans (hc j x hj).2.1, (hk _ _ hb).trans (hc j x hj).2.2.1, (hk _ _ hb).trans (hc j x hj).2.2.2⟩⟩
theorem RdV.below {w w' : World} {B B' : Nat} {A : Option Addr} {l : List Vi} (h : RdV w B A l) (hb : Below B' w w') (hB : B ≤ B') : RdV w' B A l :=
  h.keep fun _ _ hlt => hb.cell (by exact Nat.lt_of_lt_of_le hlt hB)
theorem ownV_rd {w : World} {base : Nat} {v : Value} {l : List Vi} (h : OwnV w base v l) : ∃ A c, v = .slice A l.length c ∧ RdV w w.heap.size A l ∧ l.length ≤ c ∧ c ≤ 9223372036854775807 := by
  rcases h.2 with ⟨rfl, h0⟩ | ⟨g, cap, cur, rfl, hg, hh, hn, hcap, hsz, htake⟩
  · rw [h0]; exact ⟨none, 0, rfl, fun h => by omega, Nat.le_refl _, by omega⟩
  · refine ⟨some ⟨g, 0, none⟩, cap, rfl, fun _ => ⟨g, 0, rfl, (h.lt g rfl).2, fun j x hj => ?_⟩, hn, by unfold maxLen at hcap; omega⟩
    have hl := (List.getElem?_eq_some_iff.1 hj).1
    obtain ⟨e0, e1, e2, e3⟩ := encV_at l j x hj
    rw [Nat.zero_add]
    exact ⟨(World.ownsRow.cellAt (cap := cap) h (j * 4) (by omega)).trans e0, (World.ownsRow.cellAt (cap := cap) h (j * 4 + 1) (by omega)).trans e1, (World.ownsRow.cellAt (cap := cap) h (j * 4 + 2) (by omega)).trans e2, (World.ownsRow.cellAt (cap := cap) h (j * 4 + 3) (by omega)).trans e3⟩
/-- Flags of states, as cells. -/
def flN (n : Nat) (f : Nat → Bool) : List Value := (List.range n).map fun q => .bool (f q)
def flV (f : Nat → Bool) : List Value := flN 4096 f
theorem flV_at {f : Nat → Bool} {q : Nat} (h : q < 4096) : (flV f)[q]? = some (.bool (f q)) := by
  unfold flV flN; rw [List.getElem?_map, List.getElem?_range h]; rfl
theorem flN_set (n : Nat) {f : Nat → Bool} {q : Nat} (u : Bool) : (flN n f).set q (.bool u) = flN n (fun p => if p = q then u else f p) := by
  unfold flN
  apply List.ext_getElem
  · simp
  · intro i h1 h2
    rw [List.getElem_set]
    simp only [List.getElem_map, List.getElem_range]
    by_cases e : q = i
    · subst e; simp
    · rw [if_neg e, if_neg (fun e' => e e'.symm)]
theorem flV_set {f : Nat → Bool} {q : Nat} (u : Bool) : (flV f).set q (.bool u) = flV (fun p => if p = q then u else f p) := flN_set 4096 u
/-- The flags that a search has set. -/
def seenF (B : Nat → Bool) (V : List Vi) (q : Nat) : Bool := B q || decide ((q : Int) ∈ sts V)
/-- What a search has found: the flags, the list. -/
structure Sv (w : World) (bp bs bq base : Nat) (B : Nat → Bool) (v : Value) (V : List Vi) : Prop where
  pb : Row w bp 83 [.pointer (some ⟨bs, 0, none⟩)]
  sn : Row w bs 76 (flV (seenF B V))
  qb : Row w bq 77 [v]
  ow : OwnV w base v V
/-- All but the flags, the list's box and the list lies as it lay. -/
structure KpS (w w' : World) (bs bq : Nat) (v : Value) : Prop where
  os : w'.os = w.os
  tape : w'.tape = w.tape
  output : w'.output = w.output
  size : w.heap.size ≤ w'.heap.size
  block : ∀ k, k < w.heap.size → k ≠ bs → k ≠ bq → some k ≠ v.ownBlock → w'.heap[k]? = w.heap[k]?
theorem KpS.others {w w' : World} {bp bs bq base : Nat} {B : Nat → Bool} {v : Value} {V : List Vi} (h : KpS w w' bs bq v) (hs : Sv w bp bs bq base B v V) : KeepsOthers w w' := by
  refine ⟨h.size, fun k o hk ho => ?_⟩
  rw [h.block k (Array.getElem?_eq_some_iff.1 hk).1 (fun e => ?_) (fun e => ?_) (fun e => ?_)]
  · exact hk
  · subst e; rw [show w.heap[k]? = _ from hs.sn] at hk; cases hk; cases ho
  · subst e; rw [show w.heap[k]? = _ from hs.qb] at hk; cases hk; cases ho
  · rcases hs.ow.2 with ⟨rfl, _⟩ | ⟨g, cap, cur, rfl, _, hgb, _⟩
    · simp [Value.ownBlock] at e
    · simp only [Value.ownBlock, Option.some.injEq] at e
      subst e
      rw [hgb] at hk; cases hk; cases ho
theorem seenF_add {B : Nat → Bool} {V : List Vi} {x : Vi} {q : Nat} (hx : x.s = (q : Int)) (hb : B q = false) (_hn : x.s ∉ sts V) : (fun p => if p = q then true else seenF B V p) = seenF B (V ++ [x]) := by
  funext p
  unfold seenF sts
  by_cases e : p = q
  · subst e
    rw [if_pos rfl, List.map_append]
    simp [hx]
  · rw [if_neg e, List.map_append]
    congr 1
    have : ¬ (p : Int) = x.s := by rw [hx]; omega
    simp [this]
theorem news_four {W : World} {x y z u : Value} {T : TypeId} {b : Nat} (hb : W.heap.size = b) : ∀ j r, [x, y, z, u][j]? = some r → (W.alloc (.cells #[x, y, z, u] T)).cell? ((⟨b, 0, none⟩ : Addr).add j) = some r := by
  subst hb
  exact World.news_of_block (cs := #[x, y, z, u]) (t := T) (fr := (0, 0)) (heap_alloc_new W _)
set_option maxHeartbeats 4000000 in
set_option maxRecDepth 100000 in
theorem qFind_any (bp bs bq base q : Nat) (B : Nat → Bool) (v : Value) (V : List Vi) (xs xd xe xb : Int) (w : World) (h : Sv w bp bs bq base B v V) (hx : xs = (q : Int)) (hq : q < 4096) (hV : V.length ≤ 4096) (hba : base ≤ w.heap.size) :
    Calls Try.prog 79 #[.agg #[.int .i64 xs, .int .i64 xd, .int .i64 xe, .int .i64 xb], .pointer (some ⟨bp, 0, none⟩), .pointer (some ⟨bq, 0, none⟩)] w fun e w' => e = .returned (.tuple #[]) ∧ ∃ v', Sv w' bp bs bq base B v' (fndV B V ⟨xs, xd, xe, xb⟩) ∧ KpS w w' bs bq v := by
  subst hx
  obtain ⟨W, hW⟩ : ∃ W, W = w.alloc (.cells #[.int .i64 (q : Int), .int .i64 xd, .int .i64 xe, .int .i64 xb] 95) := ⟨_, rfl⟩
  obtain ⟨P, hP⟩ : ∃ P, P = w.heap.size := ⟨_, rfl⟩
  have HBX := Lib.hid (show Row W P 95 [.int .i64 (q : Int), .int .i64 xd, .int .i64 xe, .int .i64 xb] from by rw [hW, hP]; exact Row.new w _ _)
  have H := Lib.hid (show Sv W bp bs bq base B v V from by rw [hW]; exact ⟨h.pb.alloc _, h.sn.alloc _, h.qb.alloc _, h.ow.alloc _⟩)
  have HKW := Lib.hid (show ∀ k, k < w.heap.size → W.heap[k]? = w.heap[k]? from fun k hk => by rw [hW]; exact Below.heap_alloc _ _ _ hk)
  have hWs : W.heap.size = w.heap.size + 1 := by rw [hW]; simp
  have HWS := Lib.hid hWs
  have HWo := Lib.hid (show W.os = w.os ∧ W.tape = w.tape ∧ W.output = w.output from by rw [hW]; exact ⟨rfl, rfl, rfl⟩)
  have d0 := HBX.out.cell 0 rfl
  have d1 := HBX.out.cell 1 rfl
  have d2 := HBX.out.cell 2 rfl
  have d3 := HBX.out.cell 3 rfl
  have c1 := H.out.pb.cell 0 rfl
  have c2 := H.out.sn.cell q (flV_at hq)
  have c3 := H.out.qb.cell 0 rfl
  have f2 := H.out.sn.frozen q
  have f3 := H.out.qb.frozen 0
  obtain ⟨l, hl⟩ : ∃ l, l = V.length := ⟨_, rfl⟩
  rw [← hl] at hV
  have HL := Lib.hid hl
  obtain ⟨iV, iV0, iV1, iV2, iV3⟩ := info_parts info_visit
  have z0 : (0 : Int) ≤ (q : Int) := by omega
  have z1 : (q : Int) < 4096 := by omega
  have HW := Lib.hid hW
  have HP := Lib.hid hP
  have HH := Lib.hid h
  clear h hl hW hP hWs
  obtain ⟨r, hr⟩ : ∃ r, r = seenF B V q := ⟨_, rfl⟩
  rw [← hr] at c2
  cases r
  · have hbn : B q = false ∧ ((q : Int) ∉ sts V) := by unfold seenF at hr; simpa using hr.symm
    have HV := Lib.hid (show fndV B V ⟨(q : Int), xd, xe, xb⟩ = V ++ [⟨(q : Int), xd, xe, xb⟩] from by unfold fndV; rw [if_neg (by simp [hbn.1, hbn.2])])
    have HSF := Lib.hid (seenF_add (B := B) (V := V) (x := ⟨(q : Int), xd, xe, xb⟩) (q := q) rfl hbn.1 hbn.2)
    have HR := Lib.hid hr
    clear hr hbn
    go_enter Try.func79, Try.ntmps79
    go_upto_region 1 with fail
    rw [← HW.out, ← HP.out]
    go_wp2_with fail
    go_quiet (fail)
    have H2 := Lib.hid (show Sv (W.drewN nq) bp bs bq base B v V from ⟨H.out.pb, H.out.sn, H.out.qb, H.out.ow⟩)
    have HBX2 := Lib.hid (show Row (W.drewN nq) P 95 [.int .i64 (q : Int), .int .i64 xd, .int .i64 xe, .int .i64 xb] from HBX.out)
    have HK2 := Lib.hid (show ∀ k, k < w.heap.size → (W.drewN nq).heap[k]? = w.heap[k]? from HKW.out)
    have HS2 := Lib.hid (show (W.drewN nq).heap.size = w.heap.size + 1 from HWS.out)
    have HO2 := Lib.hid (show (W.drewN nq).os = w.os ∧ (W.drewN nq).tape = w.tape ∧ (W.drewN nq).output = w.output from HWo.out)
    clear d0 d1 d2 d3 c1 c2 c3 f2 f3 H HBX HKW HWS HWo HW
    generalize W.drewN nq = W2 at *
    have d0 := HBX2.out.cell 0 rfl
    have d1 := HBX2.out.cell 1 rfl
    have d2 := HBX2.out.cell 2 rfl
    have d3 := HBX2.out.cell 3 rfl
    have c1 := H2.out.pb.cell 0 rfl
    have c3 := H2.out.qb.cell 0 rfl
    have c2 : W2.cell? ⟨bs, q, none⟩ = some (.bool false) := by
      have := H2.out.sn.cell q (flV_at hq)
      rwa [← HR.out] at this
    have f2 := H2.out.sn.frozen q
    have f3 := H2.out.qb.frozen 0
    have hPS := rows_neG H2.out.pb H2.out.sn (by decide)
    have hQS := rows_neG H2.out.qb H2.out.sn (by decide)
    have hXS := rows_neG HBX2.out H2.out.sn (by decide)
    have HPB := Lib.hid (H2.out.pb.setOther (p := ⟨bs, q, none⟩) hPS (.bool true))
    have HQB := Lib.hid (H2.out.qb.setOther (p := ⟨bs, q, none⟩) hQS (.bool true))
    have HXB := Lib.hid (HBX2.out.setOther (p := ⟨bs, q, none⟩) hXS (.bool true))
    have hsn := H2.out.sn.set q (.bool true)
    rw [flV_set, HSF.out] at hsn
    have HSN := Lib.hid hsn
    have HOW := Lib.hid (show OwnV (W2.setCell ⟨bs, q, none⟩ (.bool true)) base v V from ownsRow_setCell_other H2.out.ow (a := ⟨bs, q, none⟩) (row_ne_own H2.out.sn H2.out.ow (by decide)) (.bool true))
    have HS3 := Lib.hid (show (W2.setCell ⟨bs, q, none⟩ (.bool true)).heap.size = w.heap.size + 1 from by rw [← HS2.out]; simp [World.setCell])
    have HK3 := Lib.hid (show ∀ k, k < w.heap.size → k ≠ bs → (W2.setCell ⟨bs, q, none⟩ (.bool true)).heap[k]? = w.heap[k]? from fun k hk h1 => (Below.heap_setCell W2 ⟨bs, q, none⟩ _ k h1).trans (HK2.out k hk))
    have e0 := HXB.out.cell 0 rfl
    have g3 := HQB.out.cell 0 rfl
    have hown := HOW.out
    unfold OwnV at hown
    rw [← HL.out] at hown
    have HOWl := Lib.hid hown
    clear hsn hown
    go_wp2_with fail
    go_region_law (fail)
    all_goals
      go_upto_region 3 with fail
      obtain ⟨W3, hW3⟩ : ∃ W, W = (W2.setCell ⟨bs, q, none⟩ (.bool true)).drew := ⟨_, rfl⟩
      rw [← hW3]
      have HPB3 := Lib.hid (show Row W3 bp 83 _ from by rw [hW3]; exact HPB.out)
      have HQB3 := Lib.hid (show Row W3 bq 77 _ from by rw [hW3]; exact HQB.out)
      have HXB3 := Lib.hid (show Row W3 P 95 _ from by rw [hW3]; exact HXB.out)
      have HSN3 := Lib.hid (show Row W3 bs 76 _ from by rw [hW3]; exact HSN.out)
      have HOW3 := Lib.hid (show W3.ownsRow base 95 4 v l (encV V) from by rw [hW3]; exact HOWl.out)
      have HSZ3 := Lib.hid (show W3.heap.size = w.heap.size + 1 from by rw [hW3]; exact HS3.out)
      have HKK3 := Lib.hid (show ∀ k, k < w.heap.size → k ≠ bs → W3.heap[k]? = w.heap[k]? from by rw [hW3]; exact HK3.out)
      have HOO3 := Lib.hid (show W3.os = w.os ∧ W3.tape = w.tape ∧ W3.output = w.output from by rw [hW3]; exact HO2.out)
      clear hW3 d0 d1 d2 d3 c1 c2 c3 f2 f3 e0 g3 HPB HQB HXB HSN HOW HOWl HS3 HK3 HO2 HS2 HK2 HBX2 H2
      have e0 := HXB3.out.cell 0 rfl
      have e1 := HXB3.out.cell 1 rfl
      have e2 := HXB3.out.cell 2 rfl
      have e3 := HXB3.out.cell 3 rfl
      have g3 := HQB3.out.cell 0 rfl
      have gf := HQB3.out.frozen 0
      obtain ⟨N, hN⟩ : ∃ N, N = W3.heap.size := ⟨_, rfl⟩
      go_wp2_with (at_builtin; refine wpList_append_own_at _ rfl _ _ 77 rfl base 95 iV (.agg #[.int .i64 0, .int .i64 0, .int .i64 0, .int .i64 0]) 4 32 Try.underlying77 iV0 iV1 iV2 iV3 rfl (by decide) _ l (encV V) rfl ((HOW3.out).alloc _) ⟨W3.heap.size, 0, none⟩ 1 1 [.int .i64 (q : Int), .int .i64 xd, .int .i64 xe, .int .i64 xb] rfl rfl (news_four rfl) (by intro u hu; simp at hu; rcases hu with rfl | rfl | rfl | rfl <;> rfl) (by unfold maxLen; omega) (by omega) (by have := HSZ3.out; simp; omega) ?_)
      intro v6 w6 hown6 hgrow6 _ _
      obtain ⟨gG, capG, rfl⟩ : ∃ g cap, v6 = .slice (some ⟨g, 0, none⟩) (l + 1) cap := by
        rcases hown6.2 with ⟨rfl, h0⟩ | ⟨g, cap, cur, rfl, _⟩
        · omega
        · exact ⟨g, cap, rfl⟩
      have hown7 : OwnV w6 base (.slice (some ⟨gG, 0, none⟩) (l + 1) capG) (V ++ [⟨(q : Int), xd, xe, xb⟩]) := by unfold OwnV; rw [List.length_append, ← HL.out, encV_app]; exact hown6
      have hqb6 := Lib.hid ((HQB3.out.alloc (.cells #[.int .i64 (q : Int), .int .i64 xd, .int .i64 xe, .int .i64 xb] 95)).grown hgrow6 (row_ne_own HQB3.out HOW3.out (by decide)))
      have hpb6 := Lib.hid ((HPB3.out.alloc (.cells #[.int .i64 (q : Int), .int .i64 xd, .int .i64 xe, .int .i64 xb] 95)).grown hgrow6 (row_ne_own HPB3.out HOW3.out (by decide)))
      have hsn6 := Lib.hid ((HSN3.out.alloc (.cells #[.int .i64 (q : Int), .int .i64 xd, .int .i64 xe, .int .i64 xb] 95)).grown hgrow6 (row_ne_own HSN3.out HOW3.out (by decide)))
      have HO7 := Lib.hid hown7
      have HG6 := Lib.hid hgrow6
      have c6 := hqb6.out.cell 0 rfl
      have f6 := hqb6.out.frozen 0
      clear hown6 hown7 hgrow6 e0 e1 e2 e3 g3 gf
      go_wp2_with fail
      first | go_end0 | refine bodyPost_ret (results_none rfl _ _ _) rfl ?_
      have hg := HG6.out
      have hsz6 := hg.size
      simp only [World.size_alloc, HSZ3.out] at hsz6
      rw [HV.out]
      refine ⟨rfl, .slice (some ⟨gG, 0, none⟩) (l + 1) capG, ⟨hpb6.out.setOther (p := ⟨bq, 0, none⟩) (rows_neG hpb6.out hqb6.out (by decide)) _, hsn6.out.setOther (p := ⟨bq, 0, none⟩) (rows_neG hsn6.out hqb6.out (by decide)) _, hqb6.out.set 0 _, ?_⟩, ⟨?_, ?_, ?_, ?_, ?_⟩⟩
      · exact ownsRow_setCell_other HO7.out (a := ⟨bq, 0, none⟩) (row_ne_own hqb6.out HO7.out (by decide)) _
      · exact Eq.trans (b := w6.os) rfl (hg.os.trans HOO3.out.1)
      · exact Eq.trans (b := w6.tape) rfl (hg.tape.trans HOO3.out.2.1)
      · exact Eq.trans (b := w6.output) rfl (hg.output.trans HOO3.out.2.2)
      · simp [World.setCell]; omega
      · intro k hk h1 h2 h3
        rw [Below.heap_setCell _ _ _ _ (show k ≠ (⟨bq, 0, none⟩ : Addr).block from h2), hg.block k (by rw [World.size_alloc, HSZ3.out]; omega) h3, Below.heap_alloc _ _ _ (by rw [HSZ3.out]; omega)]
        exact HKK3.out k hk h1
  · have hin : B q = true ∨ ((q : Int) ∈ sts V) := by unfold seenF at hr; simpa using hr.symm
    have HV := Lib.hid (show fndV B V ⟨(q : Int), xd, xe, xb⟩ = V from by unfold fndV; rw [if_pos (by simpa using hin)])
    have HR := Lib.hid hr
    clear hr hin
    go_enter Try.func79, Try.ntmps79
    go_upto_region 1 with fail
    rw [← HW.out, ← HP.out]
    go_wp2_with fail
    go_quiet (fail)
    go_wp2_with fail
    first | go_end0 | refine bodyPost_ret (results_none rfl _ _ _) rfl ?_
    rw [HV.out]
    exact ⟨rfl, v, ⟨H.out.pb, H.out.sn, H.out.qb, H.out.ow⟩, HWo.out.1, HWo.out.2.1, HWo.out.2.2, by show _ ≤ W.heap.size; rw [HWS.out]; omega, fun k hk _ _ _ => HKW.out k hk⟩
end Go.Proofs.Ytceldgcmjmfjfaa

/- Layer 4: the edges of a state, yielded one by one. -/
namespace Go.Proofs.Ytceldgcmjmfjfaa
open Go.RowKit Go.Sort Go.Shelf
attribute [local go_sem] Oper.semAt_some

def edL (x : Ed) : Value := .agg #[.int .i64 x.f, .int .i64 x.e, .int .i64 x.t]
/-- Some blocks lie as they lay. -/
structure KpZ (Z : Nat → Prop) (A B : World) : Prop where
  size : A.heap.size ≤ B.heap.size
  block : ∀ k, Z k → B.heap[k]? = A.heap[k]?
theorem KpZ.trans {Z : Nat → Prop} {A B C : World} (h : KpZ Z A B) (k : KpZ Z B C) : KpZ Z A C := ⟨Nat.le_trans h.size k.size, fun i hi => (k.block i hi).trans (h.block i hi)⟩
theorem KpZ.refl (Z : Nat → Prop) (A : World) : KpZ Z A A := ⟨Nat.le_refl _, fun _ _ => rfl⟩
theorem KpZ.alloc {Z : Nat → Prop} {A B : World} (h : KpZ Z A B) (hz : ∀ k, Z k → k < B.heap.size) (o : Obj) : KpZ Z A (B.alloc o) := ⟨by rw [World.size_alloc]; have := h.size; omega, fun k hk => (Below.heap_alloc B o k (hz k hk)).trans (h.block k hk)⟩
theorem KpZ.cell {Z : Nat → Prop} {A B : World} (h : KpZ Z A B) {b o : Nat} (hb : Z b) : B.cell? ⟨b, o, none⟩ = A.cell? ⟨b, o, none⟩ := World.cell?_of_block (h.block b hb)
theorem KpZ.below {Z : Nat → Prop} {n : Nat} {A B : World} (h : Below n A B) (hz : ∀ k, Z k → k < n) : KpZ Z A B := ⟨h.size, fun k hk => h.block k (hz k hk)⟩
theorem KpZ.putObj {Z : Nat → Prop} {l n : Nat} (W : World) (o' : Obj) (hl : n ≤ l) (hz : ∀ k, Z k → k < n) : KpZ Z W (W.putObj l o') :=
  ⟨(grownBy_putObj' W l o').size, fun k hk => World.putObj_heap_other (by have := hz k hk; omega)⟩
set_option maxHeartbeats 1000000 in
theorem qEdges_any (S bg : Nat) (q : Int) (w : World) :
    Calls Try.prog 80 #[.slice (some ⟨bg, 0, none⟩) S S, .int .i64 q] w fun e w' => e = .returned (.func (.func 100) #[] #[.pointer (some ⟨w.heap.size, 0, none⟩), .pointer (some ⟨w.heap.size + 1, 0, none⟩)]) ∧ w' = (w.alloc (.cells #[.slice (some ⟨bg, 0, none⟩) S S] 79)).alloc (.cells #[.int .i64 q] 3) := by
  go_enter Try.func80, Try.ntmps80
  go_wp2_with fail
  first | go_ret | refine bodyPost_ret (results_none rfl _ _ _) rfl ?_
  exact ⟨rfl, rfl⟩
/-- An edge that leads to one of S states. -/
abbrev EdT (S : Nat) := { x : Ed // 0 ≤ x.t ∧ x.t < (S : Int) }
def edT (S : Nat) (l : List Ed) (h : ∀ x ∈ l, 0 ≤ x.t ∧ x.t < (S : Int)) : List (EdT S) := l.attachWith _ h
theorem edT_val {S : Nat} {l : List Ed} (h : ∀ x ∈ l, 0 ≤ x.t ∧ x.t < (S : Int)) : (edT S l h).map (·.1) = l := by unfold edT; simp
theorem edT_len {S : Nat} {l : List Ed} (h : ∀ x ∈ l, 0 ≤ x.t ∧ x.t < (S : Int)) : (edT S l h).length = l.length := by rw [← List.length_map (f := fun x : EdT S => x.1), edT_val]
theorem edT_at {S : Nat} {l : List Ed} (h : ∀ x ∈ l, 0 ≤ x.t ∧ x.t < (S : Int)) {j : Nat} {x : EdT S} (hj : (edT S l h)[j]? = some x) : l[j]? = some x.1 := by
  have := congrArg (·[j]?) (edT_val h)
  simp only [List.getElem?_map, hj, Option.map_some] at this
  exact this.symm
theorem take_edT {S : Nat} {l : List (EdT S)} {k : Nat} {x : EdT S} (h : l[k]? = some x) : l.take (k + 1) = l.take k ++ [x] := by
  obtain ⟨hl, e⟩ := List.getElem?_eq_some_iff.1 h
  rw [List.take_succ_eq_append_getElem hl, e]
theorem take_ed {l : List Ed} {k : Nat} {x : Ed} (h : l[k]? = some x) : l.take (k + 1) = l.take k ++ [x] := by
  obtain ⟨hl, e⟩ := List.getElem?_eq_some_iff.1 h
  rw [List.take_succ_eq_append_getElem hl, e]
set_option maxRecDepth 100000 in
set_option maxHeartbeats 2000000 in
theorem qEdges1_in (F : Fence) (n : Nat) (h7 : F.fn 100) (hro : F.round = none) (hn : 1 ≤ n) (l bx1 bx2 S bg q len cap : Nat) (A : Option Addr) (es : List (EdT S)) (Z : Nat → Prop) (J Jx : List (EdT S) → World → Prop)
    (hY : ∀ pre x W, J pre W → pre.length < es.length → YieldAt F (n - 1) Try.prog l #[edL x.1] W fun e W' =>
      (e = .returned (.bool true) ∧ J (pre ++ [x]) W' ∧ KpZ Z W W') ∨ (e = .returned (.bool false) ∧ Jx (pre ++ [x]) W'))
    (W : World) (hJ : AbidesFrom W.heap.size J) (hZ : ∀ k, Z k → k < W.heap.size) (hq : q < S) (hlen : es.length = len) (hlb : len ≤ 1000000)
    (h1 : W.cell? ⟨bx1, 0, none⟩ = some (.slice (some ⟨bg, 0, none⟩) S S)) (h2 : W.cell? ⟨bx2, 0, none⟩ = some (.int .i64 (q : Int))) (h3 : W.cell? ⟨bg, q, none⟩ = some (.slice A len cap))
    (h4 : 0 < es.length → ∃ b off, A = some ⟨b, off, none⟩ ∧ Z b ∧ ∀ j x, es[j]? = some x → EdAt W b (off + j * 3) x.1) (h0 : J [] W) :
    CallsIn F n Try.prog 100 #[.func (.yield l) #[] #[], .pointer (some ⟨bx1, 0, none⟩), .pointer (some ⟨bx2, 0, none⟩)] W fun e W' => (∃ v, e = .returned v) ∧
      ((∃ ys, ys = es ∧ J ys W') ∨ (∃ pre, (pre <+: es) ∧ Jx pre W')) := by
  have HY := Lib.hid hY
  have HJ := Lib.hid hJ
  have HZ := Lib.hid hZ
  have HL := Lib.hid hlen
  have H4 := Lib.hid h4
  have z0 : (0 : Int) ≤ (q : Int) := by omega
  have z1 : (q : Int) < (S : Int) := by omega
  clear hY hJ hZ hlen h4
  refine callsIn_of_wp Try.func100 rfl h7 ?_ hro
  simp only [Try.ntmps100, List.size_toArray, List.length_cons, List.length_nil, Nat.reduceAdd, Nat.reduceSub, Array.replicate_succ, Array.replicate_zero, List.push_toArray, List.append_toArray, List.nil_append, List.cons_append]
  gi_wp2
  gi_loopw [11] (fun i wr => ∃ k : Nat, k ≤ len ∧ i = .int .i64 k ∧ Hid (J (es.take k) wr) ∧ Hid (KpZ Z W wr) ∧ Hid (W.heap.size ≤ wr.heap.size))
    (fun i _ => len - (intOf i).toNat)
  case atStart => exact ⟨0, Nat.zero_le _, rfl, Lib.hid h0, Lib.hid (KpZ.refl _ _), Lib.hid (Nat.le_refl _)⟩
  case round =>
    obtain ⟨k, hk, rfl, hJs, hnx, hsz⟩ := hrel
    by_cases hlt : k < len
    · obtain ⟨b, off, rfl, hzb, hce⟩ := H4.out (by rw [HL.out]; omega)
      obtain ⟨x, hx⟩ : ∃ x, es[k]? = some x := ⟨_, List.getElem?_eq_getElem (by rw [HL.out]; exact hlt)⟩
      obtain ⟨e0, e1, e2⟩ := hce k x hx
      have d0 := (hnx.out.cell (o := off + k * 3) hzb).trans e0
      have d1 := (hnx.out.cell (o := off + k * 3 + 1) hzb).trans e1
      have d2 := (hnx.out.cell (o := off + k * 3 + 2) hzb).trans e2
      have hlk : (es.take k).length < es.length := by rw [List.length_take, HL.out]; omega
      have HJA := Lib.hid (show J (es.take k) (wr.alloc (.cells #[.int .i64 x.1.f, .int .i64 x.1.e, .int .i64 x.1.t] 70)) from HJ.out _ _ _ none hJs.out (World.grownBy_alloc wr _ none) (fun r e => by cases e))
      have HKA := Lib.hid (show KpZ Z W (wr.alloc (.cells #[.int .i64 x.1.f, .int .i64 x.1.e, .int .i64 x.1.t] 70)) from hnx.out.alloc (fun k hk => Nat.lt_of_lt_of_le (HZ.out k hk) hsz.out) _)
      obtain ⟨fn, tmps, assign, body, hy, hR⟩ := HY.out _ x _ HJA.out hlk
      have HX := Lib.hid (take_edT hx)
      obtain ⟨⟨xf, xe, xt⟩, hxt⟩ := x
      dsimp only [edL] at hy d0 d1 d2 hR HKA HJA HX
      have z2 : (0 : Int) ≤ (k : Int) := by omega
      have z3 : (k : Int) < (len : Int) := by omega
      clear hce e0 e1 e2 hx hlk
      gi_wp2
      refine hR.mono ?_
      rintro e W3 (⟨rfl, hJ3, hk3⟩ | ⟨rfl, hJx3⟩)
      · have HJ3 := Lib.hid hJ3
        have HK3 := Lib.hid hk3
        clear hJ3 hk3
        gi_wp2
        go_roundw
        case rel => exact ⟨k + 1, by omega, by go_num, Lib.hid (by rw [HX.out]; exact HJ3.out), Lib.hid (HKA.out.trans HK3.out), Lib.hid (Nat.le_trans HKA.out.size HK3.out.size)⟩
        case measure => simp [intOf]; omega
      · have HX2 := Lib.hid (show Jx (es.take (k + 1)) W3 from by rw [HX.out]; exact hJx3)
        clear hJx3
        gi_wp2
        refine bodyPost_ret (results_none rfl _ _ _) rfl ?_
        exact ⟨⟨_, rfl⟩, .inr ⟨_, List.take_prefix _ _, HX2.out⟩⟩
    · obtain rfl : k = len := by omega
      gi_wp2
      go_end0
      exact ⟨⟨_, rfl⟩, .inl ⟨_, rfl, by have := hJs.out; rwa [List.take_of_length_le (by rw [HL.out]; exact Nat.le_refl _)] at this⟩⟩
/-- The edges of a state as a contract of an iterator. -/
theorem qEdges_stops (F : Fence) (n : Nat) (h7 : F.fn 100) (hro : F.round = none) (hn : 1 ≤ n) (bx1 bx2 S bg q len cap : Nat) (A : Option Addr) (es : List (EdT S)) (Z : Nat → Prop) (w : World)
    (hZ : ∀ k, Z k → k < w.heap.size) (hq : q < S) (hlen : es.length = len) (hlb : len ≤ 1000000) (hb1 : bx1 < w.heap.size) (hb2 : bx2 < w.heap.size) (hbg : bg < w.heap.size)
    (h1 : w.cell? ⟨bx1, 0, none⟩ = some (.slice (some ⟨bg, 0, none⟩) S S)) (h2 : w.cell? ⟨bx2, 0, none⟩ = some (.int .i64 (q : Int))) (h3 : w.cell? ⟨bg, q, none⟩ = some (.slice A len cap))
    (h4 : 0 < es.length → ∃ b off, A = some ⟨b, off, none⟩ ∧ Z b ∧ ∀ j x, es[j]? = some x → EdAt w b (off + j * 3) x.1) :
    SeqStopsK F n Try.prog 100 #[.pointer (some ⟨bx1, 0, none⟩), .pointer (some ⟨bx2, 0, none⟩)] (fun x : EdT S => #[edL x.1]) (KpZ Z) (fun ys => ys = es) (fun pre => pre <+: es) es.length w := fun l J Jx W hW hJ _ hY h0 =>
  qEdges1_in F n h7 hro hn l bx1 bx2 S bg q len cap A es Z J Jx hY W hJ (fun k hk => Nat.lt_of_lt_of_le (hZ k hk) hW.size) hq hlen hlb ((hW.cell hb1).trans h1) ((hW.cell hb2).trans h2) ((hW.cell hbg).trans h3)
    (fun h => by
      obtain ⟨b, off, e, hz, hc⟩ := h4 h
      exact ⟨b, off, e, hz, fun j x hj => (hc j x hj).keep fun o => hW.cell (hZ b hz)⟩) h0
end Go.Proofs.Ytceldgcmjmfjfaa
