/- Texts merged: what follows were texts of their own. -/
import Derived.Test.YtaadhpkpekmfoaaGreatZa4
import Derived.Test.YtaadhpkpekmfoaaGreatZa5
import Derived.Test.YtaadhpkpekmfoaaGreatZa2
set_option linter.unusedVariables false
set_option linter.unusedSimpArgs false
set_option linter.unusedSectionVars false
/- Layer 3, the mathematics of automata whose states or events have other names. -/
namespace Go.Proofs.YtaadhpkpekmfoaaGreat
open Go.RowKit Go.Sort

theorem edge_step {a : Au} (h : RightW a) (q ev : Int) : edgeO a.ed q ev = (stepO a q ev).map fun t => ⟨q, ev, t⟩ := by
  unfold stepO
  cases he : edgeO a.ed q ev with
  | none => rfl
  | some x =>
    obtain ⟨_, h1, h2⟩ := (edgeO_some h.edo).1 he
    subst h1 h2; rfl
theorem succ_step {a : Au} (h : RightW a) (q : Int) : succ a.ed q = a.al.filterMap fun ev => (stepO a q ev).map fun t => ⟨q, ev, t⟩ := by
  rw [succ_eq h]
  exact congrArg (fun f => a.al.filterMap f) (funext fun ev => edge_step h q ev)
/-- The second automaton is the first one with other names for the states that are found. -/
structure IsoA (b b' : Au) (f : Int → Int) : Prop where
  h : RightW b
  h' : RightW b'
  al : b'.al = b.al
  z : f 0 = 0
  p : 0 < b.st
  p' : 0 < b'.st
  inj : ∀ x y, x ∈ fnd b → y ∈ fnd b → f x = f y → x = y
  st : ∀ q ∈ fnd b, ∀ ev, stepO b' (f q) ev = (stepO b q ev).map f
  mq : ∀ q ∈ fnd b, (f q ∈ b'.mr ↔ q ∈ b.mr)
section
variable {b b' : Au} {f : Int → Int}
theorem iso_succ (H : IsoA b b' f) {q : Int} (hq : q ∈ fnd b) : succ b'.ed (f q) = (succ b.ed q).map fun x => ⟨f q, x.e, f x.t⟩ := by
  rw [succ_step H.h', succ_step H.h, H.al, List.map_filterMap]
  refine congrArg (fun g => b.al.filterMap g) (funext fun ev => ?_)
  rw [H.st q hq ev]
  cases stepO b q ev <;> rfl
theorem getD_map0 {l : List Int} {f : Int → Int} {i : Nat} (h : i < l.length) : (l.map f).getD i 0 = f (l.getD i 0) := by
  simp [List.getD, List.getElem?_eq_getElem h]
theorem Fd_iso (H : IsoA b b' f) : ∀ n, Fd b' n = (Fd b n).map f
  | 0 => by simp [Fd, H.z]
  | n + 1 => by
    have ih := Fd_iso H n
    have hp := Fd_fnd H.h H.p n
    by_cases hn : n < (Fd b n).length
    · rw [Fd_go hn, Fd_go (by rw [ih, List.length_map]; exact hn), ih, getD_map0 hn]
      have hnl : n < (fnd b).length := Nat.lt_of_lt_of_le hn hp.length_le
      have hq : (Fd b n).getD n 0 ∈ fnd b := hp.subset (getD_mem hn)
      rw [iso_succ H hq]
      refine visitL_map (fl := fnd b) H.inj _ _ hp.subset fun x hx => ⟨?_, rfl⟩
      rw [← getD_pre hp hn] at hx
      exact fnd_closed H.h hnl hx
    · rw [Fd_stop hn, Fd_stop (by rw [ih, List.length_map]; exact hn), ih]
theorem fnd_far {a : Au} (h : RightW a) (h0 : 0 < a.st) {n : Nat} (hn : a.st.toNat ≤ n) : Fd a n = fnd a := by
  have := Fd_still (a := a) (n := a.st.toNat) (Fd_len h h0 _) (n - a.st.toNat)
  rw [show a.st.toNat + (n - a.st.toNat) = n by omega] at this
  rw [this, fnd_pos h0]
theorem fnd_iso (H : IsoA b b' f) : fnd b' = (fnd b).map f := by
  rw [← fnd_far H.h' H.p' (n := b.st.toNat + b'.st.toNat) (by omega), ← fnd_far H.h H.p (n := b.st.toNat + b'.st.toNat) (by omega), Fd_iso H]
theorem idxOf_map {f : Int → Int} : ∀ {l : List Int} {x : Int}, (∀ a c, a ∈ l → c ∈ l → f a = f c → a = c) → x ∈ l → (l.map f).idxOf (f x) = l.idxOf x
  | [], x, _, h => by simp at h
  | y :: l, x, hi, h => by
    rw [List.map_cons, List.idxOf_cons, List.idxOf_cons]
    by_cases e : y = x
    · subst e; simp
    · have h1 : x ∈ l := (List.mem_cons.1 h).resolve_left fun h => e h.symm
      have h2 : ¬ f y = f x := fun e2 => e (hi y x (by simp) (by simp [h1]) e2)
      have e1 : (y == x) = false := by simpa using e
      have e2 : (f y == f x) = false := by simpa using h2
      rw [e1, e2, cond_false, cond_false, idxOf_map (fun a c ha hc => hi a c (by simp [ha]) (by simp [hc])) h1]
/-- The canonical forms are one. -/
theorem can_iso (H : IsoA b b' f) : canA b' = canA b := by
  have hf := fnd_iso H
  have hlen : (fnd b').length = (fnd b).length := by rw [hf, List.length_map]
  have hM : canM b' = canM b := by
    unfold canM
    rw [hlen]
    refine congrArg _ (List.filter_congr fun i hi => ?_)
    have hi' : i < (fnd b).length := List.mem_range.1 hi
    rw [hf, getD_map0 hi']
    exact decide_eq_decide.2 (H.mq _ (getD_mem hi'))
  have hE : canEn b' (fnd b').length = canEn b (fnd b).length := by
    unfold canEn
    rw [hlen, List.flatMap_def, List.flatMap_def]
    refine congrArg List.flatten (List.map_congr_left fun i hi => ?_)
    have hi' : i < (fnd b).length := List.mem_range.1 hi
    unfold outE
    rw [hf, getD_map0 hi', iso_succ H (getD_mem hi'), List.map_map]
    refine List.map_congr_left fun x hx => ?_
    rw [Function.comp_apply, idxOf_map H.inj (fnd_closed H.h hi' hx)]
  unfold canA
  rw [hlen, hM, H.al]
  rw [hlen] at hE
  rw [hE]
end
theorem can_zero {a : Au} (h : a.st = 0) : canA a = ⟨a.al, 0, [], []⟩ := by
  have hf : fnd a = [] := by rw [fnd, if_pos (by omega)]
  simp [canA, canM, canEn, hf]
/-- What is found is the least closed set. -/
theorem fnd_least {a : Au} (h : RightW a) (h0 : 0 < a.st) {S : List Int} (hz : (0 : Int) ∈ S) (hs : ∀ q ∈ S, ∀ ev t, stepO a q ev = some t → t ∈ S) : ∀ q ∈ fnd a, q ∈ S := by
  have : ∀ n, ∀ q ∈ Fd a n, q ∈ S := fun n => by
    induction n with
    | zero => intro q hq; simp [Fd] at hq; subst hq; exact hz
    | succ n ih =>
      intro q hq
      by_cases hn : n < (Fd a n).length
      · rw [Fd_go hn, mem_visitL] at hq
        rcases hq with hq | ⟨x, hx, rfl⟩
        · exact ih q hq
        · obtain ⟨h1, h2⟩ := mem_succ.1 hx
          exact hs _ (ih _ (getD_mem hn)) x.e x.t (stepO_some ((edgeO_some h.edo).2 ⟨h1, h2, rfl⟩))
      · rw [Fd_stop hn] at hq; exact ih q hq
  rw [fnd_pos h0]; exact this _

/-- The event that stands where a new one comes from. -/
def oldE (al tl : List Int) (e : Int) : Int := al.getD (tl.idxOf e) 0
section
variable {a : Au} {tl : List Int}
theorem mem_relE (h : RightW a) (hl : tl.length = a.al.length) (hd : tl.Nodup) {y : Ed} : y ∈ (relA a tl).ed ↔ y.e ∈ tl ∧ stepO a y.f (oldE a.al tl y.e) = some y.t := by
  show y ∈ srtE _ ↔ _
  rw [(srtE_perm _).mem_iff, List.mem_map]
  constructor
  · rintro ⟨x, hx, rfl⟩
    have hm := (h.edr x hx).2.2
    have hi : a.al.idxOf x.e < tl.length := by rw [hl]; exact List.idxOf_lt_length_iff.2 hm
    refine ⟨getD_mem hi, ?_⟩
    show stepO a x.f (a.al.getD (tl.idxOf (tl.getD (a.al.idxOf x.e) 0)) 0) = some x.t
    rw [idxOf_getD hd hi, getD_idxOf hm]
    exact stepO_some ((edgeO_some h.edo).2 ⟨hx, rfl, rfl⟩)
  · rintro ⟨h1, h2⟩
    have hi : tl.idxOf y.e < a.al.length := by rw [← hl]; exact List.idxOf_lt_length_iff.2 h1
    unfold stepO at h2
    cases he : edgeO a.ed y.f (oldE a.al tl y.e) with
    | none => rw [he] at h2; simp at h2
    | some x =>
      rw [he] at h2
      obtain ⟨g1, g2, g3⟩ := (edgeO_some h.edo).1 he
      refine ⟨x, g1, ?_⟩
      have e3 : tl.getD (a.al.idxOf x.e) 0 = y.e := by rw [g3]; unfold oldE; rw [idxOf_getD (lt_nodup h.alo) hi, getD_idxOf h1]
      have e2 : x.t = y.t := by simpa using h2
      unfold relE
      rw [e3, g2, e2]
theorem rel_step (h : RightW a) (hl : tl.length = a.al.length) (hr : ∀ x ∈ tl, 0 ≤ x ∧ x < 32) (hd : tl.Nodup) (q e : Int) : stepO (relA a tl) q e = if e ∈ tl then stepO a q (oldE a.al tl e) else none := by
  have hR := rel_right h hl hr hd
  by_cases he : e ∈ tl
  · rw [if_pos he]
    cases hs : stepO a q (oldE a.al tl e) with
    | some t => exact stepO_some (x := ⟨q, e, t⟩) ((edgeO_some hR.edo).2 ⟨(mem_relE h hl hd).2 ⟨he, hs⟩, rfl, rfl⟩)
    | none =>
      refine stepO_none (edgeO_none.2 fun y hy ⟨h1, h2⟩ => ?_)
      have := ((mem_relE h hl hd).1 hy).2
      rw [h1, h2, hs] at this; cases this
  · rw [if_neg he]
    refine stepO_none (edgeO_none.2 fun y hy ⟨h1, h2⟩ => ?_)
    have := ((mem_relE h hl hd).1 hy).1
    rw [h2] at this; exact he this
/-- The events that lead back. -/
def backL (al tl : List Int) : List Int := (srtI tl).map (oldE al tl)
theorem oldE_mem (hl : tl.length = a.al.length) {e : Int} (he : e ∈ tl) : oldE a.al tl e ∈ a.al := getD_mem (by rw [← hl]; exact List.idxOf_lt_length_iff.2 he)
theorem oldE_inj (h : RightW a) (hl : tl.length = a.al.length) {x y : Int} (hx : x ∈ tl) (hy : y ∈ tl) (e : oldE a.al tl x = oldE a.al tl y) : x = y := by
  have h1 : tl.idxOf x < a.al.length := by rw [← hl]; exact List.idxOf_lt_length_iff.2 hx
  have h2 : tl.idxOf y < a.al.length := by rw [← hl]; exact List.idxOf_lt_length_iff.2 hy
  exact idx_inj hx hy (getD_inj (lt_nodup h.alo) h1 h2 e)
theorem oldE_of (hl : tl.length = a.al.length) (hd : tl.Nodup) {ev : Int} (he : ev ∈ a.al) : ∃ e ∈ tl, oldE a.al tl e = ev := by
  have hi : a.al.idxOf ev < tl.length := by rw [hl]; exact List.idxOf_lt_length_iff.2 he
  refine ⟨tl.getD (a.al.idxOf ev) 0, getD_mem hi, ?_⟩
  unfold oldE
  rw [idxOf_getD hd hi, getD_idxOf he]
theorem back_nodup (h : RightW a) (hl : tl.length = a.al.length) (hd : tl.Nodup) : (backL a.al tl).Nodup := by
  unfold backL
  rw [List.nodup_iff_pairwise_ne, List.pairwise_map]
  refine (List.nodup_iff_pairwise_ne.1 (lt_nodup (srtI_lt hd))).imp_of_mem fun hx hy hne e => hne ?_
  exact oldE_inj h hl ((srtI_perm tl).mem_iff.1 hx) ((srtI_perm tl).mem_iff.1 hy) e
theorem mem_back (hl : tl.length = a.al.length) (hd : tl.Nodup) {ev : Int} : ev ∈ backL a.al tl ↔ ev ∈ a.al := by
  unfold backL
  rw [List.mem_map]
  constructor
  · rintro ⟨e, he, rfl⟩; exact oldE_mem hl ((srtI_perm tl).mem_iff.1 he)
  · intro h
    obtain ⟨e, he, rfl⟩ := oldE_of hl hd h
    exact ⟨e, (srtI_perm tl).mem_iff.2 he, rfl⟩
theorem back_len {al tl : List Int} : (backL al tl).length = (srtI tl).length := by unfold backL; rw [List.length_map]
theorem neE_mk : ∀ {zs seen : List Int}, (∀ x ∈ zs, 0 ≤ x ∧ x < 32) → zs.Nodup → (∀ x ∈ zs, x ∉ seen) → neGo seen zs = 0
  | [], seen, _, _, _ => by rw [neGo]
  | x :: r, seen, h1, h2, h3 => by
    rw [List.nodup_cons] at h2
    rw [neGo, if_neg (by have := h1 x (by simp); omega), if_neg (h3 x (by simp))]
    refine neE_mk (fun y hy => h1 y (by simp [hy])) h2.2 fun y hy hm => ?_
    first
    | (rcases List.mem_append.1 hm with hm | hm
       · exact h3 y (by simp [hy]) hm
       · simp at hm; subst hm; exact h2.1 hy)
    | (rcases List.mem_cons.1 hm with hm | hm
       · subst hm; exact h2.1 hy
       · exact h3 y (by simp [hy]) hm)
/-- The event that stands for an old one. -/
theorem oldE_back (h : RightW a) (hl : tl.length = a.al.length) (hd : tl.Nodup) {e : Int} (he : e ∈ tl) : oldE (srtI tl) (backL a.al tl) (oldE a.al tl e) = e := by
  have hm : e ∈ srtI tl := (srtI_perm tl).mem_iff.2 he
  have := idxOf_map (f := oldE a.al tl) (l := srtI tl) (x := e) (fun x y hx hy e => oldE_inj h hl ((srtI_perm tl).mem_iff.1 hx) ((srtI_perm tl).mem_iff.1 hy) e) hm
  show (srtI tl).getD ((backL a.al tl).idxOf (oldE a.al tl e)) 0 = e
  unfold backL
  rw [this, getD_idxOf hm]
/-- Relabelling back gives the automaton. -/
theorem rel_back (h : Right a) (hc : canA a = a) (hl : tl.length = a.al.length) (hr : ∀ x ∈ tl, 0 ≤ x ∧ x < 32) (hd : tl.Nodup) : relR (canA (relA a tl)) (backL a.al tl) = (a, 0) := by
  have hw := h.toRightW
  have hA1 := rel_right hw hl hr hd
  have hRi : Right (relA a tl) := { hA1 with st1 := h.st1 }
  have hR := hRi.can
  have hbl : (backL a.al tl).length = (canA (relA a tl)).al.length := back_len
  have hbd := back_nodup hw hl hd
  have hbr : ∀ x ∈ backL a.al tl, 0 ≤ x ∧ x < 32 := fun x hx => h.alr x ((mem_back hl hd).1 hx)
  have hB := rel_right hR.toRightW hbl hbr hbd
  have hal : (relA (canA (relA a tl)) (backL a.al tl)).al = a.al := lt_ext (srtI_lt hbd) h.alo fun x => (srtI_perm (backL a.al tl)).mem_iff.trans (mem_back hl hd)
  rw [relR, if_neg (by rw [hR.chk]; simp), if_neg (by rw [hbl]; simp), if_neg (by unfold neE; rw [neE_mk hbr hbd (by simp)]; simp)]
  congr 1
  by_cases h0 : a.st = 0
  · have h1 : (relA a tl).st = 0 := h0
    have h2 : (canA (relA a tl)).st = 0 := by rw [can_zero h1]
    rw [can_zero (a := relA (canA (relA a tl)) (backL a.al tl)) h2, hal]
    rw [← hc, can_zero h0]
  · have hp : 0 < a.st := by have := h.st0; omega
    have hp1 : 0 < (relA a tl).st := hp
    have hst : ∀ q e, stepO (relA a tl) q e = if e ∈ tl then stepO a q (oldE a.al tl e) else none := rel_step hw hl hr hd
    have hsub : ∀ q ∈ fnd a, q ∈ fnd (relA a tl) := fnd_least hw hp (zero_fnd hA1 hp1).1 fun q hq ev t hs => by
      obtain ⟨e, he, hoe⟩ := oldE_of hl hd (step_event hw hs).1
      refine step_in hA1 hq (ev := e) ?_
      rw [hst, if_pos he, hoe]; exact hs
    have hlen := List.length_pos_of_mem (zero_fnd hA1 hp1).1
    have hH : IsoA a (relA (canA (relA a tl)) (backL a.al tl)) (fun q => ((fnd (relA a tl)).idxOf q : Int)) := by
      refine { h := hw, h' := hB, al := hal, z := by rw [(zero_fnd hA1 hp1).2]; rfl, p := hp, p' := ?_, inj := fun x y hx hy e => idx_inj (hsub x hx) (hsub y hy) (by omega), st := fun q hq ev => ?_, mq := fun q hq => ?_ }
      · show (0 : Int) < ((fnd (relA a tl)).length : Int); omega
      · have hqi := List.idxOf_lt_length_iff.2 (hsub q hq)
        rw [rel_step hR.toRightW hbl hbr hbd]
        by_cases hev : ev ∈ a.al
        · rw [if_pos ((mem_back hl hd).2 hev)]
          obtain ⟨e, he, hoe⟩ := oldE_of hl hd hev
          have h3 : oldE (canA (relA a tl)).al (backL a.al tl) ev = e := by rw [← hoe]; exact oldE_back hw hl hd he
          rw [h3, step_can hA1 hqi, getD_idxOf (hsub q hq), hst, if_pos he, hoe]
        · rw [if_neg (fun hm => hev ((mem_back hl hd).1 hm))]
          cases hs : stepO a q ev with
          | none => rfl
          | some t => exact absurd (step_event hw hs).1 hev
      · show ((fnd (relA a tl)).idxOf q : Int) ∈ canM (relA a tl) ↔ q ∈ a.mr
        rw [mem_canM]
        have hqm := hsub q hq
        constructor
        · rintro ⟨i, h1, h2, h3⟩
          have : i = (fnd (relA a tl)).idxOf q := by omega
          rw [this, getD_idxOf hqm] at h2; exact h2
        · intro h1
          exact ⟨_, List.idxOf_lt_length_iff.2 hqm, by rw [getD_idxOf hqm]; exact h1, rfl⟩
    rw [can_iso hH, hc]
end
/-- The reference's edges of the first states, with the new events. -/
def relK (a : Au) (tl : List Int) (q : Int) : List Ed := (srtI tl).filterMap fun e => (stepO a q (oldE a.al tl e)).map fun t => ⟨q, e, t⟩
theorem relK_eq {a : Au} {tl : List Int} (h : RightW a) (hl : tl.length = a.al.length) (hr : ∀ x ∈ tl, 0 ≤ x ∧ x < 32) (hd : tl.Nodup) (q : Int) : relK a tl q = succ (relA a tl).ed q := by
  rw [succ_step (rel_right h hl hr hd)]
  have key : ∀ l : List Int, (∀ e ∈ l, e ∈ tl) → (l.filterMap fun e => (stepO a q (oldE a.al tl e)).map fun t => (⟨q, e, t⟩ : Ed)) = l.filterMap fun e => (stepO (relA a tl) q e).map fun t => ⟨q, e, t⟩ := fun l => by
    induction l with
    | nil => intro _; rfl
    | cons x l ih =>
      intro hm
      rw [List.filterMap_cons, List.filterMap_cons, ih fun e he => hm e (by simp [he]), rel_step h hl hr hd, if_pos (hm x (by simp))]
  exact key _ fun e he => (srtI_perm tl).mem_iff.1 he
/-- All edges, state by state. -/
theorem all_succ {a : Au} (h : RightW a) : a.ed = (List.range a.st.toNat).flatMap fun q : Nat => succ a.ed (q : Int) := by
  refine sorted_ext (r := ltE) ltE_irrefl (fun x y z => ltE_trans) _ _ h.edo ?_ fun x => ?_
  · rw [List.pairwise_flatMap]
    refine ⟨fun q _ => h.edo.sublist List.filter_sublist, ?_⟩
    refine List.pairwise_lt_range.imp fun hlt x hx y hy => ?_
    have h1 := (mem_succ.1 hx).2
    have h2 := (mem_succ.1 hy).2
    exact .inl (by omega)
  · rw [List.mem_flatMap]
    constructor
    · intro hx
      have := (h.edr x hx).1
      exact ⟨x.f.toNat, List.mem_range.2 (by omega), mem_succ.2 ⟨hx, by omega⟩⟩
    · rintro ⟨q, _, hx⟩; exact (mem_succ.1 hx).1

section
variable {a : Au}
theorem comp_step (h : RightW a) {q ev : Int} (hq : 0 ≤ q ∧ q ≤ a.st) (he : ev ∈ a.al) : stepO (compA a) q ev = some (toC a q ev) := by
  have hR := comp_right h
  refine stepO_some (x := ⟨q, ev, toC a q ev⟩) ((edgeO_some hR.edo).2 ⟨?_, rfl, rfl⟩)
  exact mem_compE.2 ⟨q.toNat, by omega, ev, he, by rw [show (q.toNat : Int) = q by omega]⟩
/-- In the further state a word stays. -/
theorem comp_sink (h : RightW a) : ∀ (ws : List Int), inB a.al ws = true → runE (compA a) a.st ws = (a.st, ws.length)
  | [], _ => by rw [runE_nil]; rfl
  | x :: r, hi => by
    unfold inB at hi
    rw [List.all_cons, Bool.and_eq_true] at hi
    have hx : x ∈ a.al := by simpa using hi.1
    have ht : toC a a.st x = a.st := by
      unfold toC
      cases hs : stepO a a.st x with
      | none => rfl
      | some t => have := step_event h hs; omega
    rw [runE_go (comp_step h ⟨h.st0, by omega⟩ hx), ht, comp_sink h r hi.2]; simp
theorem comp_run (h : RightW a) : ∀ (ws : List Int) (q : Int), 0 ≤ q → q < a.st → inB a.al ws = true → runE (compA a) q ws = (if (runE a q ws).2 = ws.length then (runE a q ws).1 else a.st, ws.length)
  | [], q, _, _, _ => by rw [runE_nil, runE_nil]; simp
  | x :: r, q, h0, h1, hi => by
    have hi0 := hi
    unfold inB at hi
    rw [List.all_cons, Bool.and_eq_true] at hi
    have hx : x ∈ a.al := by simpa using hi.1
    rw [runE_go (comp_step h ⟨h0, by omega⟩ hx)]
    unfold toC
    cases hs : stepO a q x with
    | none =>
      rw [runE_stop hs]
      show ((runE (compA a) a.st r).1, (runE (compA a) a.st r).2 + 1) = _
      rw [comp_sink h r hi.2, if_neg (by simp)]; simp
    | some t =>
      have ht := step_range h hs
      rw [runE_go hs]
      show ((runE (compA a) t r).1, (runE (compA a) t r).2 + 1) = _
      rw [comp_run h r t ht.1 ht.2 hi.2]
      simp
theorem comp_gen (h : RightW a) {ws : List Int} (hi : inB a.al ws = true) : genB (compA a) ws = true := by
  have h0 := h.st0
  have hs : ¬ (compA a).st = 0 := by show ¬ a.st + 1 = 0; omega
  unfold genB
  by_cases hz : a.st = 0
  · have := comp_sink h ws hi
    rw [hz] at this
    rw [this]; simp [hs]
  · rw [comp_run h ws 0 (by omega) (by omega) hi]; simp [hs]
theorem comp_acc (h : RightW a) {ws : List Int} (hi : inB a.al ws = true) : accB (compA a) ws = accB a ws := by
  have h0 := h.st0
  have hnm : a.st ∉ a.mr := fun hm => by have := h.mrr _ hm; omega
  unfold accB
  rw [comp_gen h hi]
  by_cases hz : a.st = 0
  · have := comp_sink h ws hi
    rw [hz] at this hnm
    rw [this]
    have hg : genB a ws = false := by simp [genB, hz]
    rw [hg]
    show (true && decide ((0 : Int) ∈ a.mr)) = (false && _)
    simp [hnm]
  · rw [comp_run h ws 0 (by omega) (by omega) hi]
    show (true && decide (_ ∈ a.mr)) = _
    by_cases hr : (runE a 0 ws).2 = ws.length
    · rw [if_pos hr]
      simp [genB, hz, hr]
    · rw [if_neg hr]
      simp [genB, hr, hnm]
theorem runE_ed {b : Au} (he : a.ed = b.ed) : ∀ (ws : List Int) (q : Int), runE a q ws = runE b q ws
  | [], q => by rw [runE_nil, runE_nil]
  | x :: r, q => by
    have hs : stepO a q x = stepO b q x := by unfold stepO; rw [he]
    cases e : stepO b q x with
    | none => rw [runE_stop (hs.trans e), runE_stop e]
    | some t => rw [runE_go (hs.trans e), runE_go e, runE_ed he r t]
theorem cls_acc (h : RightW a) (ws : List Int) : accB (clsA a) ws = genB a ws := by
  have hr := runE_ed (a := clsA a) (b := canA a) rfl ws 0
  have hg : genB (clsA a) ws = genB a ws := by rw [← gen_can h]; unfold genB; rw [hr]; rfl
  unfold accB
  rw [hg]
  by_cases hz : a.st = 0
  · simp [genB, hz]
  · have h0 := h.st0
    obtain ⟨hm, hi⟩ := zero_fnd h (by omega)
    obtain ⟨h1, h2⟩ := run_can h ws 0 hm
    rw [hi] at h2
    have h3 : (runE (clsA a) 0 ws).1 ∈ (clsA a).mr := by
      rw [hr, show ((0 : Int)) = ((0 : Nat) : Int) from rfl, h2]
      show _ ∈ rng _
      unfold rng
      exact List.mem_map.2 ⟨_, List.mem_range.2 (List.idxOf_lt_length_iff.2 h1), rfl⟩
    simp [h3]
end
end Go.Proofs.YtaadhpkpekmfoaaGreat

/- Layer 7: if all events are kept the projected automaton is the automaton itself. -/
namespace Go.Proofs.YtaadhpkpekmfoaaGreat

theorem step_alQ {b : Au} (h : RightW b) {q e t : Int} (hs : stepO b q e = some t) : e ∈ b.al ∧ 0 ≤ q ∧ q < b.st := by
  cases he : edgeO b.ed q e with
  | none => rw [stepO, he] at hs; cases hs
  | some y =>
    obtain ⟨hy, h1, h2⟩ := (edgeO_some h.edo).1 he
    have := h.edr y hy
    rw [← h2, ← h1]; exact ⟨this.2.2, this.1⟩
theorem er_all (a : Au) : erR a a.al = [] := List.filter_eq_nil_iff.2 fun x hx => by simp [hx]
theorem kp_all (a : Au) : kpR a a.al = a.al := List.filter_eq_self.2 fun x hx => by simp [hx]
theorem rc_none {a : Au} {fr : List Int} {q : Int} (h : Rc a [] fr q) : q ∈ fr := by
  cases h with
  | base h => exact h
  | step _ _ h => cases h
theorem one_ok {n : Nat} {q : Int} (h0 : 0 ≤ q) (h1 : q < (n : Int)) : SubOk n [q] := ⟨by simp, fun x hx => by simp at hx; omega⟩
theorem re_one {a : Au} (h : RightW a) {fr : List Int} {q : Int} (hq : 0 ≤ q ∧ q < a.st) (hf : ∀ x, x ∈ fr ↔ x = q) : reR a [] fr = [q] := by
  have hr : ∀ x ∈ fr, 0 ≤ x ∧ x < a.st := fun x hx => by rw [(hf x).1 hx]; exact hq
  refine (reR_of h hr (by simp) fun x => ?_).symm
  rw [List.mem_singleton, ← hf]
  exact ⟨.base, rc_none⟩
theorem fs_all {a : Au} (h : RightW a) (h0 : a.st ≠ 0) : fsR a a.al = [0] := by
  have := h.st0
  rw [fsR, if_neg h0, er_all]
  exact re_one h (by omega) fun x => by simp
theorem all_iso {a : Au} (h : RightW a) (h0 : a.st ≠ 0) : IsoA a (detA a a.al) fun q => (detC a a.al).en [q] := by
  have hst := h.st0
  have hin : ∀ q ∈ fnd a, SubOk a.st.toNat [q] := fun q hq => by
    have := fnd_range h q hq
    exact one_ok this.1 (by omega)
  exact {
    h := h
    h' := det_right h _
    al := by
      unfold detA; rw [if_neg h0]; exact kp_all a
    z := by
      have := det_zero a a.al
      rw [fs_all h h0] at this; exact this
    p := by omega
    p' := by
      unfold detA; rw [if_neg h0]
      show 0 < ((prT (twos a.st.toNat)).toNat : Int)
      have := two_pos a.st.toNat
      omega
    inj := fun x y hx hy e => by
      have h1 := (det_ok h a.al).den _ (hin x hx)
      have h2 := (det_ok h a.al).den _ (hin y hy)
      have e' : (detC a a.al).en [x] = (detC a a.al).en [y] := e
      rw [e', h2] at h1
      simpa using h1.symm
    st := fun q hq ev => by
      show stepO (detA a a.al) ((detC a a.al).en [q]) ev = _
      by_cases he : ev ∈ a.al
      · rw [det_step h h0 (hin q hq) (by rw [kp_all]; exact he)]
        cases hs : stepO a q ev with
        | none =>
          rw [if_pos]
          · rfl
          · cases ht : tgR a [q] ev with
            | nil => rfl
            | cons t l =>
              obtain ⟨y, hy, h1, h2, h3⟩ := mem_tgR.1 (show t ∈ tgR a [q] ev by rw [ht]; simp)
              rw [List.mem_singleton] at h2
              rw [stepO, (edgeO_some h.edo).2 ⟨hy, h2, h1⟩] at hs
              cases hs
        | some t =>
          cases hy : edgeO a.ed q ev with
          | none => rw [stepO, hy] at hs; cases hs
          | some y =>
            rw [stepO, hy] at hs
            injection hs with hs
            obtain ⟨k1, k2, k3⟩ := (edgeO_some h.edo).1 hy
            have hmem : ∀ x, x ∈ tgR a [q] ev ↔ x = t := fun x => by
              rw [mem_tgR]
              constructor
              · rintro ⟨z, hz, g1, g2, g3⟩
                rw [List.mem_singleton] at g2
                have : edgeO a.ed q ev = some z := (edgeO_some h.edo).2 ⟨hz, g2, g1⟩
                rw [hy] at this
                injection this with this
                rw [← g3, ← this]; exact hs
              · rintro rfl
                exact ⟨y, k1, k3, by rw [k2]; simp, hs⟩
            have htr : 0 ≤ t ∧ t < a.st := by rw [← hs]; exact (h.edr y k1).2.1
            rw [if_neg (fun e => by have := (hmem t).2 rfl; rw [e] at this; cases this)]
            show some ((detC a a.al).en (nxR a a.al [q] ev)) = some ((detC a a.al).en [t])
            rw [nxR, er_all, re_one h htr hmem]
      · have h1 : stepO a q ev = none := by
          cases hs : stepO a q ev with
          | none => rfl
          | some t => exact absurd (step_alQ h hs).1 he
        have h2 : stepO (detA a a.al) ((detC a a.al).en [q]) ev = none := by
          cases hs : stepO (detA a a.al) ((detC a a.al).en [q]) ev with
          | none => rfl
          | some t =>
            have := (step_alQ (det_right h a.al) hs).1
            unfold detA at this
            rw [if_neg h0] at this
            exact absurd (show ev ∈ a.al by rw [← kp_all a]; exact this) he
        rw [h1, h2]; rfl
    mq := fun q hq => by
      show (detC a a.al).en [q] ∈ (detA a a.al).mr ↔ _
      rw [det_mark h h0 (hin q hq)]
      simp }
/-- The projected automaton, and the estimates. -/
theorem can_all {a : Au} (h : RightW a) (h0 : a.st ≠ 0) : canA (detA a a.al) = canA a := can_iso (all_iso h h0)
theorem ests_all {a : Au} (h : RightW a) (h0 : a.st ≠ 0) : (fnd (detA a a.al)).map (detC a a.al).de = (fnd a).map fun q => [q] := by
  rw [fnd_iso (all_iso h h0), List.map_map]
  refine List.map_congr_left fun q hq => ?_
  have hr := fnd_range h q hq
  exact (det_ok h a.al).den _ (one_ok hr.1 (by have := h.st0; omega))
end Go.Proofs.YtaadhpkpekmfoaaGreat

/- Layer 7: the inverse projection, and its projection back. -/
namespace Go.Proofs.YtaadhpkpekmfoaaGreat

theorem tg_one {b : Au} (h : RightW b) {q ev x : Int} : x ∈ tgR b [q] ev ↔ stepO b q ev = some x := by
  rw [mem_tgR]
  constructor
  · rintro ⟨z, hz, g1, g2, g3⟩
    rw [List.mem_singleton] at g2
    rw [stepO, (edgeO_some h.edo).2 ⟨hz, g2, g1⟩, ← g3]; rfl
  · intro hs
    cases hy : edgeO b.ed q ev with
    | none => rw [stepO, hy] at hs; cases hs
    | some y =>
      rw [stepO, hy] at hs
      injection hs with hs
      obtain ⟨k1, k2, k3⟩ := (edgeO_some h.edo).1 hy
      exact ⟨y, k1, k3, by rw [k2]; simp, hs⟩
/-- Where erased edges are loops the closure of a state is the state. -/
theorem re_loop {b : Au} (h : RightW b) {ev fr : List Int} (hl : ∀ x ∈ b.ed, x.e ∈ ev → x.t = x.f) {q : Int} (hq : 0 ≤ q ∧ q < b.st) (hf : ∀ x, x ∈ fr ↔ x = q) : reR b ev fr = [q] := by
  have hr : ∀ x ∈ fr, 0 ≤ x ∧ x < b.st := fun x hx => by rw [(hf x).1 hx]; exact hq
  refine (reR_of h hr (by simp) fun x => ?_).symm
  rw [List.mem_singleton]
  constructor
  · rintro rfl; exact .base ((hf _).2 rfl)
  · intro hx
    induction hx with
    | base hx => exact (hf _).1 hx
    | step _ hx he ih => rw [hl _ hx he]; exact ih
/-- An automaton's projection that loses loops alone is the automaton. -/
theorem loop_iso {a b : Au} (ha : RightW a) (hb : RightW b) {onto : List Int} (a0 : a.st ≠ 0) (b0 : b.st ≠ 0) (hk : kpR b onto = a.al) {g : Int → Int} (g0 : g 0 = 0) (gr : ∀ q ∈ fnd a, 0 ≤ g q ∧ g q < b.st)
    (gi : ∀ x y, x ∈ fnd a → y ∈ fnd a → g x = g y → x = y) (gs : ∀ q ∈ fnd a, ∀ e ∈ a.al, stepO b (g q) e = (stepO a q e).map g) (gm : ∀ q ∈ fnd a, (g q ∈ b.mr ↔ q ∈ a.mr)) (hl : ∀ x ∈ b.ed, x.e ∈ erR b onto → x.t = x.f) :
    IsoA a (detA b onto) fun q => (detC b onto).en [g q] := by
  have hst := ha.st0
  have hsb := hb.st0
  have hin : ∀ q ∈ fnd a, SubOk b.st.toNat [g q] := fun q hq => by
    have := gr q hq
    exact one_ok this.1 (by omega)
  have hfs : fsR b onto = [0] := by
    rw [fsR, if_neg b0]
    exact re_loop hb hl (by omega) fun x => by simp
  exact {
    h := ha
    h' := det_right hb _
    al := by
      unfold detA; rw [if_neg b0]; exact hk
    z := by
      have := det_zero b onto
      rw [hfs] at this
      show (detC b onto).en [g 0] = 0
      rw [g0]; exact this
    p := by omega
    p' := by
      unfold detA; rw [if_neg b0]
      show 0 < ((prT (twos b.st.toNat)).toNat : Int)
      have := two_pos b.st.toNat
      omega
    inj := fun x y hx hy e => by
      have h1 := (det_ok hb onto).den _ (hin x hx)
      have h2 := (det_ok hb onto).den _ (hin y hy)
      have e' : (detC b onto).en [g x] = (detC b onto).en [g y] := e
      rw [e', h2] at h1
      exact gi x y hx hy (by simpa using h1.symm)
    st := fun q hq ev => by
      show stepO (detA b onto) ((detC b onto).en [g q]) ev = _
      by_cases he : ev ∈ a.al
      · rw [det_step hb b0 (hin q hq) (by rw [hk]; exact he)]
        have hs := gs q hq ev he
        cases ht : stepO a q ev with
        | none =>
          rw [ht] at hs
          rw [if_pos]
          · rfl
          · cases hh : tgR b [g q] ev with
            | nil => rfl
            | cons t l =>
              have := (tg_one hb).1 (show t ∈ tgR b [g q] ev by rw [hh]; simp)
              rw [this] at hs; cases hs
        | some t =>
          rw [ht] at hs
          have hs' : stepO b (g q) ev = some (g t) := hs
          have htf : t ∈ fnd a := step_in ha hq ht
          have hmem : ∀ x, x ∈ tgR b [g q] ev ↔ x = g t := fun x => by
            rw [tg_one hb, hs']
            exact ⟨fun e => by injection e with e; exact e.symm, fun e => by rw [e]⟩
          rw [if_neg (fun e => by have := (hmem (g t)).2 rfl; rw [e] at this; cases this)]
          show some ((detC b onto).en (nxR b onto [g q] ev)) = some ((detC b onto).en [g t])
          rw [nxR, re_loop hb hl (gr t htf) hmem]
      · have h1 : stepO a q ev = none := by
          cases hs : stepO a q ev with
          | none => rfl
          | some t => exact absurd (step_alQ ha hs).1 he
        have h2 : stepO (detA b onto) ((detC b onto).en [g q]) ev = none := by
          cases hs : stepO (detA b onto) ((detC b onto).en [g q]) ev with
          | none => rfl
          | some t =>
            have := (step_alQ (det_right hb onto) hs).1
            unfold detA at this
            rw [if_neg b0] at this
            exact absurd (show ev ∈ a.al by rw [← hk]; exact this) he
        rw [h1, h2]; rfl
    mq := fun q hq => by
      show (detC b onto).en [g q] ∈ (detA b onto).mr ↔ _
      rw [det_mark hb b0 (hin q hq), ← gm q hq]
      simp }
/-- The inverse projection: loops by the new events. -/
def invC (a : Au) (al2 : List Int) : Cod Int where
  al := (rng 32).filter fun x => decide (x ∈ a.al) || decide (x ∈ al2)
  n := a.st.toNat
  en q := q
  de q := q
  st q e := if e ∈ a.al then stepO a q e else some q
  mq q := decide (q ∈ a.mr)
def InS (a : Au) (q : Int) : Prop := 0 ≤ q ∧ q < a.st
theorem inv_ok {a : Au} (h : RightW a) (al2 : List Int) : CodOk (invC a al2) (InS a) where
  alr x hx := by have := mem_rng.1 (List.mem_filter.1 hx).1; omega
  alo := (rng_up 32).sublist List.filter_sublist
  enr s hs := ⟨hs.1, by have := hs.2; have := hs.1; show s < (a.st.toNat : Int); omega⟩
  den _ _ := rfl
  edn _ _ _ := rfl
  okd x h0 h1 := ⟨h0, by have h1 : x < (a.st.toNat : Int) := h1; show x < a.st; omega⟩
  sto s e t hs ht := by
    have ht : (if e ∈ a.al then stepO a s e else some s) = some t := ht
    split at ht
    · cases hy : edgeO a.ed s e with
      | none => rw [stepO, hy] at ht; cases ht
      | some y =>
        rw [stepO, hy] at ht
        injection ht with ht
        rw [← ht]; exact (h.edr y ((edgeO_some h.edo).1 hy).1).2.1
    · injection ht with ht; rw [← ht]; exact hs
def invA (a : Au) (al2 : List Int) : Au := codA (invC a al2)
theorem inv_right {a : Au} (h : RightW a) (al2 : List Int) : RightW (invA a al2) := cod_right (inv_ok h al2)
theorem mem_inv_al {a : Au} (h : RightW a) {al2 : List Int} (h2 : ∀ x ∈ al2, 0 ≤ x ∧ x < 32) {x : Int} : x ∈ (invA a al2).al ↔ x ∈ a.al ∨ x ∈ al2 := by
  show x ∈ (rng 32).filter (fun x => decide (x ∈ a.al) || decide (x ∈ al2)) ↔ _
  rw [List.mem_filter, mem_rng]
  simp only [Bool.or_eq_true, decide_eq_true_eq]
  constructor
  · exact fun h' => h'.2
  · intro h'
    refine ⟨?_, h'⟩
    rcases h' with h' | h'
    · have := h.alr x h'; omega
    · have := h2 x h'; omega
theorem inv_step {a : Au} (h : RightW a) {al2 : List Int} {q e : Int} (hq : InS a q) (he : e ∈ (invA a al2).al) : stepO (invA a al2) q e = if e ∈ a.al then stepO a q e else some q := by
  have := cod_step (inv_ok h al2) hq he
  refine this.trans ?_
  show Option.map (fun q => q) _ = _
  rw [Option.map_id']
  rfl
theorem inv_st {a : Au} (h : RightW a) (al2 : List Int) : (invA a al2).st = a.st := by
  have := h.st0
  show (a.st.toNat : Int) = a.st
  omega
theorem inv_found {a : Au} (h : RightW a) (h0 : a.st ≠ 0) {al2 : List Int} (h2 : ∀ x ∈ al2, 0 ≤ x ∧ x < 32) : ∀ q ∈ fnd a, q ∈ fnd (invA a al2) := by
  have hst := h.st0
  have hr := inv_right h al2
  refine fnd_least h (by omega) (zero_fnd hr (by rw [inv_st h]; omega)).1 fun q hq ev t hs => ?_
  have hin := step_alQ h hs
  refine step_in hr hq (ev := ev) ?_
  rw [inv_step h hin.2 ((mem_inv_al h h2).2 (.inl hin.1)), if_pos hin.1]; exact hs
/-- Projected back, the inverse projection is the automaton. -/
theorem inv_back {a : Au} (h : RightW a) (h0 : a.st ≠ 0) {al2 : List Int} (h2 : ∀ x ∈ al2, 0 ≤ x ∧ x < 32) : canA (detA (canA (invA a al2)) a.al) = canA a := by
  have hst := h.st0
  have hr := inv_right h al2
  have hc := can_right hr
  have hf := inv_found h h0 h2
  have hz := zero_fnd hr (by rw [inv_st h]; omega)
  have hlen := List.length_pos_of_mem hz.1
  refine can_iso (loop_iso (g := fun q => ((fnd (invA a al2)).idxOf q : Int)) h hc h0 ?_ ?_ ?_ ?_ ?_ ?_ ?_ ?_)
  · show ((fnd (invA a al2)).length : Int) ≠ 0; omega
  · refine sub_ext (hc.alo.sublist List.filter_sublist) h.alo fun x => ?_
    rw [mem_kpR]
    show x ∈ (invA a al2).al ∧ _ ↔ _
    rw [mem_inv_al h h2]
    exact ⟨fun h' => h'.2, fun h' => ⟨.inl h', h'⟩⟩
  · show ((fnd (invA a al2)).idxOf 0 : Int) = 0
    rw [hz.2]; rfl
  · intro q hq
    have := List.idxOf_lt_length_iff.2 (hf q hq)
    refine ⟨by omega, ?_⟩
    show ((fnd (invA a al2)).idxOf q : Int) < ((fnd (invA a al2)).length : Int)
    omega
  · intro x y hx hy e
    have e : ((fnd (invA a al2)).idxOf x : Int) = ((fnd (invA a al2)).idxOf y : Int) := e
    rw [← getD_idxOf (hf x hx), Int.ofNat_inj.1 e, getD_idxOf (hf y hy)]
  · intro q hq e he
    have hi := List.idxOf_lt_length_iff.2 (hf q hq)
    have hs := step_can hr hi e
    rw [getD_idxOf (hf q hq)] at hs
    show stepO (canA (invA a al2)) ((fnd (invA a al2)).idxOf q : Int) e = _
    have hq' := fnd_range h q hq
    rw [hs, inv_step h hq' ((mem_inv_al h h2).2 (.inl he)), if_pos he]
  · intro q hq
    have hi := List.idxOf_lt_length_iff.2 (hf q hq)
    have hq' := fnd_range h q hq
    show ((fnd (invA a al2)).idxOf q : Int) ∈ canM (invA a al2) ↔ _
    rw [mem_canM]
    have hmk : q ∈ (invA a al2).mr ↔ q ∈ a.mr := by
      have := cod_mark (inv_ok h al2) hq'
      refine (show q ∈ (invA a al2).mr ↔ decide (q ∈ a.mr) = true from this).trans ?_
      simp
    constructor
    · rintro ⟨i, h1, h3, h4⟩
      have : i = (fnd (invA a al2)).idxOf q := by omega
      rw [this, getD_idxOf (hf q hq)] at h3
      exact hmk.1 h3
    · intro h3
      exact ⟨_, hi, by rw [getD_idxOf (hf q hq)]; exact hmk.2 h3, rfl⟩
  · intro x hx he
    obtain ⟨i, hi, y, hy, e⟩ := mem_canEn.1 (show x ∈ canEn (invA a al2) (fnd (invA a al2)).length from hx)
    obtain ⟨hy1, hy2⟩ := mem_succ.1 hy
    subst e
    have hm := mem_erR.1 he
    have hye : y.e ∉ a.al := hm.2
    have hyr := (inv_right h al2).edr y hy1
    have hys : stepO (invA a al2) y.f y.e = some y.t := by rw [stepO, (edgeO_some (inv_right h al2).edo).2 ⟨hy1, rfl, rfl⟩]; rfl
    rw [inv_step h ⟨hyr.1.1, by rw [← inv_st h al2]; exact hyr.1.2⟩ hyr.2.2, if_neg hye] at hys
    injection hys with hys
    show ((fnd (invA a al2)).idxOf y.t : Int) = (i : Int)
    rw [← hys, hy2, idxOf_getD (fnd_nodup _) hi]
end Go.Proofs.YtaadhpkpekmfoaaGreat

/- Layer 7: marked words of a projection; projecting twice. -/
namespace Go.Proofs.YtaadhpkpekmfoaaGreat

theorem det_st {a : Au} (h0 : a.st ≠ 0) (onto : List Int) : (detA a onto).st ≠ 0 := by
  unfold detA; rw [if_neg h0]
  show ((prT (twos a.st.toNat)).toNat : Int) ≠ 0
  have := two_pos a.st.toNat
  omega
theorem det_rO {a : Au} (h : RightW a) (h0 : a.st ≠ 0) {onto ws : List Int} (hw : ∀ x ∈ ws, x ∈ kpR a onto) : rO (detA a onto) 0 ws = (rC (detC a onto) (fsR a onto) ws).map (detC a onto).en ∧ ∀ t, rC (detC a onto) (fsR a onto) ws = some t → SubOk a.st.toNat t := by
  have := cod_rO (det_ok h onto) ws (fsR a onto) (fs_ok onto) hw
  rw [det_zero] at this
  refine ⟨?_, this.2⟩
  unfold detA; rw [if_neg h0]; exact this.1
theorem fs_rc {a : Au} (h : RightW a) (h0 : a.st ≠ 0) {onto : List Int} {q : Int} (hq : q ∈ fsR a onto) : ∃ v, rO a 0 v = some q ∧ (v.filter fun x => decide (x ∈ onto)) = [] ∧ ∀ x ∈ v, x ∈ a.al := by
  unfold fsR at hq
  rw [if_neg h0] at hq
  have := h.st0
  obtain ⟨p, hp, v, k⟩ := rc_word h ((mem_reR h fun y hy => by simp at hy; omega).1 hq)
  rw [List.mem_singleton] at hp
  subst hp
  exact ⟨v, k⟩
theorem mO_some {a : Au} {o : Option Int} : mO a o = true ↔ ∃ t, o = some t ∧ t ∈ a.mr := by
  cases o with
  | none => simp [mO]
  | some t => simp [mO]
theorem det_acc {a : Au} (h : RightW a) (h0 : a.st ≠ 0) {onto ws : List Int} (hw : ∀ x ∈ ws, x ∈ kpR a onto) : accB (detA a onto) ws = true ↔ ∃ w, (∀ x ∈ w, x ∈ a.al) ∧ (w.filter fun x => decide (x ∈ onto)) = ws ∧ accB a w = true := by
  obtain ⟨hd, hok⟩ := det_rO h h0 hw
  rw [acc_rO (det_st h0 onto), hd, mO_some]
  constructor
  · rintro ⟨t, ht, hm⟩
    cases hs : rC (detC a onto) (fsR a onto) ws with
    | none => rw [hs] at ht; cases ht
    | some s' =>
      rw [hs] at ht
      injection ht with ht
      rw [← ht] at hm
      obtain ⟨y, hy, hym⟩ := (det_mark h h0 (hok s' hs)).1 hm
      obtain ⟨q, hq, w, g1, g2, g3⟩ := est_has h ws _ s' y (fun x hx => (mem_kpR.1 (hw x hx)).2) hs hy
      obtain ⟨v, k1, k2, k3⟩ := fs_rc h h0 hq
      refine ⟨v ++ w, fun x hx => (List.mem_append.1 hx).elim (k3 x) (g3 x), by rw [List.filter_append, k2, g2]; rfl, ?_⟩
      rw [acc_rO h0, mO_some, rO_app, k1]
      exact ⟨y, g1, hym⟩
  · rintro ⟨w, _, h2, h3⟩
    rw [acc_rO h0, mO_some] at h3
    obtain ⟨t, ht, hm⟩ := h3
    obtain ⟨s', hs', hts, _⟩ := est_word h w 0 t _ (fs_cls h onto) (zero_fs h h0 onto) ht
    rw [h2] at hs'
    rw [hs']
    exact ⟨_, rfl, (det_mark h h0 (hok s' hs')).2 ⟨t, hts, hm⟩⟩
theorem filter_two {onto part w : List Int} (hp : ∀ x ∈ part, x ∈ onto) : ((w.filter fun x => decide (x ∈ onto)).filter fun x => decide (x ∈ part)) = w.filter fun x => decide (x ∈ part) := by
  rw [List.filter_filter]
  refine List.filter_congr fun x _ => ?_
  by_cases hx : x ∈ part
  · simp [hx, hp x hx]
  · simp [hx]
theorem can_al (a : Au) : (canA a).al = a.al := rfl
theorem det_al {a : Au} (onto : List Int) : (detA a onto).al = kpR a onto := by
  unfold detA; split <;> rfl
theorem can_st0 {a : Au} (h : RightW a) (h0 : a.st ≠ 0) : (canA a).st ≠ 0 := by
  have := h.st0
  have := List.length_pos_of_mem (zero_fnd h (by omega)).1
  show ((fnd a).length : Int) ≠ 0
  omega
section
variable {a : Au} (h : RightW a) (h0 : a.st ≠ 0) {onto part ws : List Int} (hp : ∀ x ∈ part, x ∈ onto) (hw : ∀ x ∈ ws, x ∈ kpR a part)
include h h0 hp hw
omit h h0 in
theorem twice_kp : ∀ x ∈ ws, x ∈ kpR (canA (detA a onto)) part := fun x hx => by
  have := mem_kpR.1 (hw x hx)
  exact mem_kpR.2 ⟨by rw [can_al, det_al]; exact mem_kpR.2 ⟨this.1, hp x this.2⟩, this.2⟩
/-- Projecting twice generates, and marks, what projecting once does. -/
theorem twice_gen : genB (detA (canA (detA a onto)) part) ws = genB (detA a part) ws := by
  have hd := det_right h onto
  have key : genB (detA (canA (detA a onto)) part) ws = true ↔ genB (detA a part) ws = true := by
    rw [det_gen (can_right hd) (can_st0 hd (det_st h0 onto)) (twice_kp hp hw), det_gen h h0 hw]
    constructor
    · rintro ⟨v, hv, e1, hg⟩
      rw [gen_can hd, det_gen h h0 (fun x hx => by have := hv x hx; rwa [can_al, det_al] at this)] at hg
      obtain ⟨w, g1, g2, g3⟩ := hg
      exact ⟨w, g1, by rw [← e1, ← g2, filter_two hp], g3⟩
    · rintro ⟨w, g1, g2, g3⟩
      have hv : ∀ x ∈ w.filter fun x => decide (x ∈ onto), x ∈ kpR a onto := fun x hx => by
        obtain ⟨k1, k2⟩ := List.mem_filter.1 hx
        exact mem_kpR.2 ⟨g1 x k1, by simpa using k2⟩
      refine ⟨w.filter fun x => decide (x ∈ onto), fun x hx => by rw [can_al, det_al]; exact hv x hx, by rw [filter_two hp, g2], ?_⟩
      rw [gen_can hd, det_gen h h0 hv]
      exact ⟨w, g1, rfl, g3⟩
  cases h1 : genB (detA (canA (detA a onto)) part) ws <;> cases h2 : genB (detA a part) ws <;> simp [h1, h2] at key ⊢
theorem twice_acc : accB (detA (canA (detA a onto)) part) ws = accB (detA a part) ws := by
  have hd := det_right h onto
  have key : accB (detA (canA (detA a onto)) part) ws = true ↔ accB (detA a part) ws = true := by
    rw [det_acc (can_right hd) (can_st0 hd (det_st h0 onto)) (twice_kp hp hw), det_acc h h0 hw]
    constructor
    · rintro ⟨v, hv, e1, hg⟩
      rw [acc_can hd, det_acc h h0 (fun x hx => by have := hv x hx; rwa [can_al, det_al] at this)] at hg
      obtain ⟨w, g1, g2, g3⟩ := hg
      exact ⟨w, g1, by rw [← e1, ← g2, filter_two hp], g3⟩
    · rintro ⟨w, g1, g2, g3⟩
      have hv : ∀ x ∈ w.filter fun x => decide (x ∈ onto), x ∈ kpR a onto := fun x hx => by
        obtain ⟨k1, k2⟩ := List.mem_filter.1 hx
        exact mem_kpR.2 ⟨g1 x k1, by simpa using k2⟩
      refine ⟨w.filter fun x => decide (x ∈ onto), fun x hx => by rw [can_al, det_al]; exact hv x hx, by rw [filter_two hp, g2], ?_⟩
      rw [acc_can hd, det_acc h h0 hv]
      exact ⟨w, g1, rfl, g3⟩
  cases h1 : accB (detA (canA (detA a onto)) part) ws <;> cases h2 : accB (detA a part) ws <;> simp [h1, h2] at key ⊢
end
end Go.Proofs.YtaadhpkpekmfoaaGreat

/- The words of a breadth-first search: each found state has the least of all words that lead to it (shorter first, then by the events). -/
namespace Go.Proofs.YtaadhpkpekmfoaaGreat

/-- Words of one length are compared by their first unlike event. -/
def lexL : List Int → List Int → Prop
  | x :: v, y :: w => x < y ∨ (x = y ∧ lexL v w)
  | _, _ => False
def slx (v w : List Int) : Prop := v.length < w.length ∨ (v.length = w.length ∧ lexL v w)
theorem lexL_irrefl : ∀ v : List Int, ¬ lexL v v
  | [] => id
  | x :: v => fun h => h.elim (fun h => by omega) fun h => lexL_irrefl v h.2
theorem lexL_trans : ∀ {u v w : List Int}, lexL u v → lexL v w → lexL u w
  | _ :: _, _ :: _, _ :: _, h1, h2 => by
    rcases h1 with h1 | ⟨h1, h3⟩
    · rcases h2 with h2 | ⟨h2, _⟩
      · exact .inl (by omega)
      · exact .inl (by omega)
    · rcases h2 with h2 | ⟨h2, h4⟩
      · exact .inl (by omega)
      · exact .inr ⟨by omega, lexL_trans h3 h4⟩
theorem lexL_app : ∀ {u v : List Int} (a b : List Int), u.length = v.length → lexL u v → lexL (u ++ a) (v ++ b)
  | _ :: _, _ :: _, a, b, hl, h => by
    rcases h with h | ⟨h1, h2⟩
    · exact .inl h
    · exact .inr ⟨h1, lexL_app a b (by simpa using hl) h2⟩
theorem lexL_snoc : ∀ (u : List Int) {e f : Int}, e < f → lexL (u ++ [e]) (u ++ [f])
  | [], _, _, h => .inl h
  | _ :: u, _, _, h => .inr ⟨rfl, lexL_snoc u h⟩
theorem slx_irrefl (v : List Int) : ¬ slx v v := fun h => h.elim (fun h => by omega) fun h => lexL_irrefl v h.2
theorem slx_trans {u v w : List Int} (h1 : slx u v) (h2 : slx v w) : slx u w := by
  rcases h1 with h1 | ⟨h1, h3⟩
  · rcases h2 with h2 | ⟨h2, _⟩ <;> exact .inl (by omega)
  · rcases h2 with h2 | ⟨h2, h4⟩
    · exact .inl (by omega)
    · exact .inr ⟨by omega, lexL_trans h3 h4⟩
theorem slx_app {u v : List Int} (e f : Int) (h : slx u v) : slx (u ++ [e]) (v ++ [f]) := by
  rcases h with h | ⟨h1, h2⟩
  · exact .inl (by simp; omega)
  · exact .inr ⟨by simp; omega, lexL_app _ _ h1 h2⟩
theorem slx_snoc (u : List Int) {e f : Int} (h : e < f) : slx (u ++ [e]) (u ++ [f]) := .inr ⟨by simp, lexL_snoc u h⟩
theorem slx_nil (u : List Int) (e : Int) : slx [] (u ++ [e]) := .inl (by simp)
/-- A state that is found, with its word. -/
def visP (w : List Int) (T : List (Int × List Int)) (x : Ed) : List (Int × List Int) := if x.t ∈ T.map Prod.fst then T else T ++ [(x.t, w ++ [x.e])]
def Tr (a : Au) : Nat → List (Int × List Int)
  | 0 => [(0, [])]
  | n + 1 => match (Tr a n)[n]? with | none => Tr a n | some p => (succ a.ed p.1).foldl (visP p.2) (Tr a n)
theorem visP_fst (w : List Int) (T : List (Int × List Int)) (x : Ed) : (visP w T x).map Prod.fst = visit (T.map Prod.fst) x.t := by
  unfold visP visit
  split
  · rfl
  · simp
theorem visPL_fst (w : List Int) : ∀ (l : List Ed) (T : List (Int × List Int)), (l.foldl (visP w) T).map Prod.fst = visitL (T.map Prod.fst) l
  | [], _ => rfl
  | x :: l, T => by rw [List.foldl_cons, visPL_fst w l, visP_fst, visitL_cons]
/-- The states are found in the order of the canonical form. -/
theorem tr_fst (a : Au) : ∀ n, (Tr a n).map Prod.fst = Fd a n
  | 0 => rfl
  | n + 1 => by
    have ih := tr_fst a n
    rw [Tr]
    cases h : (Tr a n)[n]? with
    | none =>
      have : ¬ n < (Fd a n).length := by rw [← ih, List.length_map]; have := List.getElem?_eq_none_iff.1 h; omega
      rw [Fd_stop this]; exact ih
    | some p =>
      obtain ⟨hl, hp⟩ := List.getElem?_eq_some_iff.1 h
      have hlt : n < (Fd a n).length := by rw [← ih, List.length_map]; exact hl
      have hq : (Fd a n).getD n 0 = p.1 := by rw [← ih, List.getD, List.getElem?_map, h]; rfl
      show ((succ a.ed p.1).foldl (visP p.2) (Tr a n)).map Prod.fst = _
      rw [Fd_go hlt, visPL_fst, ih, hq]
theorem visP_mem {w : List Int} {T : List (Int × List Int)} {x : Ed} {p : Int × List Int} : p ∈ visP w T x ↔ p ∈ T ∨ (x.t ∉ T.map Prod.fst ∧ p = (x.t, w ++ [x.e])) := by
  unfold visP
  split
  · next h => exact ⟨.inl, fun h' => h'.elim id fun h' => absurd h h'.1⟩
  · next h => rw [List.mem_append, List.mem_singleton]; exact ⟨fun h' => h'.imp id fun e => ⟨h, e⟩, fun h' => h'.imp id fun e => e.2⟩
theorem visP_pre (w : List Int) (T : List (Int × List Int)) (x : Ed) : T <+: visP w T x := by
  unfold visP; split
  · exact List.prefix_rfl
  · exact List.prefix_append _ _
theorem visPL_pre (w : List Int) : ∀ (l : List Ed) (T : List (Int × List Int)), T <+: l.foldl (visP w) T
  | [], _ => List.prefix_rfl
  | x :: l, T => (visP_pre w T x).trans (visPL_pre w l _)
theorem tr_pre (a : Au) (n : Nat) : Tr a n <+: Tr a (n + 1) := by
  rw [Tr]
  cases (Tr a n)[n]? with
  | none => exact List.prefix_rfl
  | some p => exact visPL_pre _ _ _
theorem tr_mono {a : Au} {n m : Nat} (h : n ≤ m) : Tr a n <+: Tr a m := by
  obtain ⟨d, rfl⟩ : ∃ d, m = n + d := ⟨m - n, by omega⟩
  clear h
  induction d with
  | zero => exact List.prefix_rfl
  | succ d ih => exact ih.trans (tr_pre a (n + d))
theorem rO_snoc' (a : Au) : ∀ (ws : List Int) (q x : Int), rO a q (ws ++ [x]) = (match rO a q ws with | none => none | some u => stepO a u x)
  | [], q, x => by
    show rO a q [x] = stepO a q x
    rw [rO]
    cases stepO a q x <;> rfl
  | y :: r, q, x => by
    rw [List.cons_append, rO, rO]
    cases stepO a q y with
    | none => rfl
    | some t => exact rO_snoc' a r t x
/-- What the search keeps: words lead to their states, rise, and lie below what is found next. -/
structure TrI (a : Au) (n : Nat) (T : List (Int × List Int)) : Prop where
  run : ∀ p ∈ T, rO a 0 p.2 = some p.1
  up : (T.map Prod.snd).Pairwise slx
  bef : ∀ p ∈ T, p.2 = [] ∨ ∃ (j : Nat) (r : Int × List Int) (e : Int), j < n ∧ T[j]? = some r ∧ p.2 = r.2 ++ [e]
theorem pre_at {α : Type} {l r : List α} (h : l <+: r) {j : Nat} {x : α} (hx : l[j]? = some x) : r[j]? = some x := by
  obtain ⟨t, rfl⟩ := h
  rw [List.getElem?_append_left (List.getElem?_eq_some_iff.1 hx).1]; exact hx
/-- The edges of one state are passed over. -/
theorem tr_edges {a : Au} (h : RightW a) {n : Nat} {p : Int × List Int} (hr : rO a 0 p.2 = some p.1) : ∀ (l : List Ed) (T : List (Int × List Int)), (∀ x ∈ l, x ∈ a.ed ∧ x.f = p.1) → (l.Pairwise fun x y => x.e < y.e) → T[n]? = some p → TrI a (n + 1) T → (∀ x ∈ l, ∀ q ∈ T, slx q.2 (p.2 ++ [x.e])) →
    TrI a (n + 1) (l.foldl (visP p.2) T) ∧ ∀ x ∈ l, ∃ w, (x.t, w) ∈ l.foldl (visP p.2) T ∧ (w = p.2 ++ [x.e] ∨ slx w (p.2 ++ [x.e]))
  | [], T, _, _, _, hI, _ => ⟨hI, fun x hx => by cases hx⟩
  | x :: l, T, hl, ho, hn, hI, hb => by
    rw [List.pairwise_cons] at ho
    have hx := hl x (List.mem_cons_self ..)
    have hbx := hb x (List.mem_cons_self ..)
    have hst : rO a 0 (p.2 ++ [x.e]) = some x.t := by
      rw [rO_snoc', hr]
      show stepO a p.1 x.e = _
      rw [stepO, (edgeO_some h.edo).2 ⟨hx.1, hx.2, rfl⟩]; rfl
    have hI' : TrI a (n + 1) (visP p.2 T x) := by
      by_cases hm : x.t ∈ T.map Prod.fst
      · have : visP p.2 T x = T := by unfold visP; rw [if_pos hm]
        rw [this]; exact hI
      · have hv : visP p.2 T x = T ++ [(x.t, p.2 ++ [x.e])] := by unfold visP; rw [if_neg hm]
        rw [hv]
        refine ⟨fun q hq => ?_, ?_, fun q hq => ?_⟩
        · rcases List.mem_append.1 hq with hq | hq
          · exact hI.run q hq
          · rw [List.mem_singleton] at hq; subst hq; exact hst
        · rw [List.map_append, List.pairwise_append]
          refine ⟨hI.up, by simp, fun u hu v hv => ?_⟩
          obtain ⟨q, hq, rfl⟩ := List.mem_map.1 hu
          simp at hv
          subst hv
          exact hbx q hq
        · rcases List.mem_append.1 hq with hq | hq
          · rcases hI.bef q hq with h1 | ⟨j, r, e, h1, h2, h3⟩
            · exact .inl h1
            · exact .inr ⟨j, r, e, h1, pre_at (List.prefix_append _ _) h2, h3⟩
          · rw [List.mem_singleton] at hq
            subst hq
            exact .inr ⟨n, p, x.e, Nat.lt_succ_self n, pre_at (List.prefix_append _ _) hn, rfl⟩
    have hn' := pre_at (visP_pre p.2 T x) hn
    have hb' : ∀ y ∈ l, ∀ q ∈ visP p.2 T x, slx q.2 (p.2 ++ [y.e]) := fun y hy q hq => by
      rcases visP_mem.1 hq with hq | ⟨_, rfl⟩
      · exact hb y (List.mem_cons_of_mem _ hy) q hq
      · exact slx_snoc _ (ho.1 y hy)
    obtain ⟨k1, k2⟩ := tr_edges h hr l (visP p.2 T x) (fun y hy => hl y (List.mem_cons_of_mem _ hy)) ho.2 hn' hI' hb'
    refine ⟨k1, fun y hy => ?_⟩
    rcases List.mem_cons.1 hy with rfl | hy
    · have hpre := visPL_pre p.2 l (visP p.2 T y)
      by_cases hm : y.t ∈ T.map Prod.fst
      · obtain ⟨q, hq, e⟩ := List.mem_map.1 hm
        refine ⟨q.2, hpre.subset ((visP_pre p.2 T y).subset ?_), .inr (hbx q hq)⟩
        rw [← e]; exact hq
      · exact ⟨p.2 ++ [y.e], hpre.subset (visP_mem.2 (.inr ⟨hm, rfl⟩)), .inl rfl⟩
    · exact k2 y hy
theorem tr_inv {a : Au} (h : RightW a) : ∀ n, TrI a n (Tr a n) ∧ ∀ (i : Nat) (p : Int × List Int), i < n → (Tr a n)[i]? = some p → ∀ x ∈ succ a.ed p.1, ∃ w, (x.t, w) ∈ Tr a n ∧ (w = p.2 ++ [x.e] ∨ slx w (p.2 ++ [x.e]))
  | 0 => ⟨⟨fun p hp => by simp [Tr] at hp; subst hp; rfl, by simp [Tr], fun p hp => by simp [Tr] at hp; subst hp; exact .inl rfl⟩, fun i p hi => by omega⟩
  | n + 1 => by
    obtain ⟨hI, hd⟩ := tr_inv h n
    have hI1 : TrI a (n + 1) (Tr a n) := ⟨hI.run, hI.up, fun q hq => (hI.bef q hq).imp id fun ⟨j, r, e, h1, h2⟩ => ⟨j, r, e, Nat.lt_succ_of_lt h1, h2⟩⟩
    cases hn : (Tr a n)[n]? with
    | none =>
      have ht : Tr a (n + 1) = Tr a n := by rw [Tr, hn]
      rw [ht]
      refine ⟨hI1, fun i p hi hp => hd i p ?_ hp⟩
      have := (List.getElem?_eq_some_iff.1 hp).1
      have := List.getElem?_eq_none_iff.1 hn
      omega
    | some p =>
      have ht : Tr a (n + 1) = (succ a.ed p.1).foldl (visP p.2) (Tr a n) := by rw [Tr, hn]
      have hpm := List.mem_of_getElem? hn
      have hb : ∀ x ∈ succ a.ed p.1, ∀ q ∈ Tr a n, slx q.2 (p.2 ++ [x.e]) := fun x _ q hq => by
        rcases hI.bef q hq with h1 | ⟨j, r, e, h1, h2, h3⟩
        · rw [h1]; exact slx_nil _ _
        · rw [h3]
          refine slx_app _ _ ?_
          obtain ⟨hj, ej⟩ := List.getElem?_eq_some_iff.1 h2
          obtain ⟨hk, ek⟩ := List.getElem?_eq_some_iff.1 hn
          have := List.pairwise_iff_getElem.1 hI.up j n (by simpa using hj) (by simpa using hk) h1
          simpa [ej, ek] using this
      obtain ⟨k1, k2⟩ := tr_edges h (hI.run p hpm) (succ a.ed p.1) (Tr a n) (fun x hx => mem_succ.1 hx) (succ_sorted h.edo _) hn hI1 hb
      rw [ht]
      refine ⟨k1, fun i q hi hq x hx => ?_⟩
      have hpre := visPL_pre p.2 (succ a.ed p.1) (Tr a n)
      by_cases hin : i = n
      · subst hin
        have := pre_at hpre hn
        rw [hq] at this
        injection this with this
        subst this
        exact k2 x hx
      · have hil : i < (Tr a n).length := by have := (List.getElem?_eq_some_iff.1 hn).1; omega
        have hq' : (Tr a n)[i]? = some q := by
          rw [List.getElem?_eq_getElem hil]
          have := pre_at hpre (List.getElem?_eq_getElem hil)
          rw [hq] at this; exact this.symm
        obtain ⟨w, h1, h2⟩ := hd i q (by omega) hq' x hx
        exact ⟨w, hpre.subset h1, h2⟩
/-- All found states with their words. -/
def trA (a : Au) : List (Int × List Int) := Tr a a.st.toNat
theorem trA_fst {a : Au} (h0 : 0 < a.st) : (trA a).map Prod.fst = fnd a := by rw [trA, tr_fst, fnd_pos h0]
theorem trA_run {a : Au} (h : RightW a) : ∀ p ∈ trA a, rO a 0 p.2 = some p.1 := (tr_inv h _).1.run
theorem trA_up {a : Au} (h : RightW a) : ((trA a).map Prod.snd).Pairwise slx := (tr_inv h _).1.up
/-- No word that leads to a found state is less than its word. -/
theorem trA_least {a : Au} (h : RightW a) (h0 : 0 < a.st) (v : List Int) : ∀ q, rO a 0 v = some q → ∃ w, (q, w) ∈ trA a ∧ (w = v ∨ slx w v) := by
  have key : ∀ (k : Nat) (v : List Int), v.length = k → ∀ q, rO a 0 v = some q → ∃ w, (q, w) ∈ trA a ∧ (w = v ∨ slx w v) := by
    intro k
    induction k with
    | zero =>
      intro v hv q hq
      have : v = [] := List.eq_nil_of_length_eq_zero hv
      subst this
      simp [rO] at hq
      subst hq
      exact ⟨[], (tr_mono (Nat.zero_le _)).subset (by simp [Tr]), .inl rfl⟩
    | succ k ih =>
      intro v hv q hq
      obtain ⟨u, e, rfl⟩ : ∃ u e, v = u ++ [e] := ⟨v.dropLast, v.getLast (fun hh => by rw [hh] at hv; simp at hv), (List.dropLast_concat_getLast _).symm⟩
      rw [rO_snoc'] at hq
      cases hu : rO a 0 u with
      | none => rw [hu] at hq; cases hq
      | some p =>
        rw [hu] at hq
        have hq : stepO a p e = some q := hq
        obtain ⟨wp, hm, hle⟩ := ih u (by simp at hv; exact hv) p hu
        obtain ⟨i, hi⟩ := List.getElem?_of_mem hm
        have hil := (List.getElem?_eq_some_iff.1 hi).1
        have hlen : (trA a).length ≤ a.st.toNat := by
          have := Fd_len h h0 a.st.toNat
          rw [← tr_fst, List.length_map] at this; exact this
        cases hy : edgeO a.ed p e with
        | none => rw [stepO, hy] at hq; cases hq
        | some y =>
          rw [stepO, hy] at hq
          injection hq with hq
          obtain ⟨k1, k2, k3⟩ := (edgeO_some h.edo).1 hy
          obtain ⟨w, g1, g2⟩ := (tr_inv h a.st.toNat).2 i (p, wp) (by omega) hi y (mem_succ.2 ⟨k1, k2⟩)
          refine ⟨w, by rw [← hq]; exact g1, ?_⟩
          rw [k3] at g2
          rcases hle with rfl | hle
          · exact g2
          · rcases g2 with rfl | g2
            · exact .inr (slx_app _ _ hle)
            · exact .inr (slx_trans g2 (slx_app _ _ hle))
  exact key v.length v rfl
end Go.Proofs.YtaadhpkpekmfoaaGreat

/- Layer 7: words with an observation: a search among places, which are pairs of the events done and a state. -/
namespace Go.Proofs.YtaadhpkpekmfoaaGreat

/-- The places: d events of ob are done, and the state is q. -/
def plC (a : Au) (onto ob : List Int) (g : Int → Bool) : Cod (Nat × Int) where
  al := a.al
  n := (ob.length + 1) * a.st.toNat
  en p := (p.1 : Int) * a.st + p.2
  de x := ((x / a.st).toNat, x % a.st)
  st p e := match stepO a p.2 e with
    | none => none
    | some t => if e ∈ onto then (if ob[p.1]? = some e then some (p.1 + 1, t) else none) else some (p.1, t)
  mq p := decide (p.1 = ob.length) && g p.2
def PlOk (a : Au) (ob : List Int) (p : Nat × Int) : Prop := p.1 ≤ ob.length ∧ 0 ≤ p.2 ∧ p.2 < a.st
theorem pl_en_lt {s q : Int} {d l : Nat} (hd : d ≤ l) (hq : q < s) (hs : 0 < s) : (d : Int) * s + q < (((l + 1) * s.toNat : Nat) : Int) := by
  have h1 : (d : Int) * s ≤ (l : Int) * s := Int.mul_le_mul_of_nonneg_right (by omega) (by omega)
  have h2 : (((l + 1) * s.toNat : Nat) : Int) = (l : Int) * s + s := by
    rw [Int.natCast_mul, show ((s.toNat : Nat) : Int) = s by omega, show (((l + 1 : Nat)) : Int) = (l : Int) + 1 by omega, Int.add_mul, Int.one_mul]
  omega
theorem pl_div {s q : Int} {d : Nat} (h0 : 0 ≤ q) (hq : q < s) : ((d : Int) * s + q) / s = (d : Int) ∧ ((d : Int) * s + q) % s = q := by
  have hs : s ≠ 0 := by omega
  rw [Int.add_comm]
  exact ⟨by rw [Int.add_mul_ediv_right _ _ hs, Int.ediv_eq_zero_of_lt h0 hq]; omega, by rw [Int.add_mul_emod_self_right, Int.emod_eq_of_lt h0 hq]⟩
theorem pl_ok {a : Au} (h : RightW a) (h0 : 0 < a.st) (onto ob : List Int) (g : Int → Bool) : CodOk (plC a onto ob g) (PlOk a ob) where
  alr := h.alr
  alo := h.alo
  enr p hp := by
    obtain ⟨h1, h2, h3⟩ := hp
    exact ⟨Int.add_nonneg (Int.mul_nonneg (by omega) (by omega)) h2, pl_en_lt h1 h3 h0⟩
  den p hp := by
    obtain ⟨h1, h2, h3⟩ := hp
    obtain ⟨e1, e2⟩ := pl_div (d := p.1) h2 h3
    show ((((p.1 : Int) * a.st + p.2) / a.st).toNat, ((p.1 : Int) * a.st + p.2) % a.st) = p
    rw [e1, e2]
    exact Prod.ext (by simp) rfl
  okd x hx hn := by
    have hx2 : x < (((ob.length + 1) * a.st.toNat : Nat) : Int) := hn
    refine ⟨?_, Int.emod_nonneg _ (by omega), Int.emod_lt_of_pos _ h0⟩
    show (x / a.st).toNat ≤ ob.length
    have : x / a.st < ((ob.length : Int) + 1) := by
      rw [Int.ediv_lt_iff_lt_mul h0]
      rw [Int.natCast_mul, show ((a.st.toNat : Nat) : Int) = a.st by omega] at hx2
      simpa using hx2
    omega
  edn x hx hn := by
    show (((x / a.st).toNat : Nat) : Int) * a.st + x % a.st = x
    have h1 : 0 ≤ x / a.st := Int.ediv_nonneg hx (by omega)
    rw [show (((x / a.st).toNat : Nat) : Int) = x / a.st by omega]
    exact Int.ediv_mul_add_emod x a.st
  sto p e t hp ht := by
    have ht' : (match stepO a p.2 e with | none => none | some t => if e ∈ onto then (if ob[p.1]? = some e then some (p.1 + 1, t) else none) else some (p.1, t)) = some t := ht
    cases hs : stepO a p.2 e with
    | none => rw [hs] at ht'; cases ht'
    | some u =>
      rw [hs] at ht'
      have hu := step_range h hs
      simp only at ht'
      split at ht'
      · split at ht'
        · next h2 =>
          injection ht' with ht'
          have := (List.getElem?_eq_some_iff.1 h2).1
          rw [← ht']; exact ⟨this, hu⟩
        · cases ht'
      · injection ht' with ht'
        rw [← ht']; exact ⟨hp.1, hu⟩
/-- The automaton of the places' numbers. -/
def plA (a : Au) (onto ob : List Int) : Au := codA (plC a onto ob fun _ => true)
section
variable {a : Au} (h : RightW a) (h0 : 0 < a.st) {onto ob : List Int}
include h h0
theorem plc_right : RightW (plA a onto ob) := cod_right (pl_ok h h0 onto ob _)
omit h in
theorem plc_pos : 0 < (plA a onto ob).st := by
  have : 0 < (ob.length + 1) * a.st.toNat := Nat.mul_pos (by omega) (by omega)
  show (0 : Int) < (((ob.length + 1) * a.st.toNat : Nat) : Int)
  omega
/-- The edges of a place, one for each edge of its state that goes on. -/
def plY (a : Au) (onto ob : List Int) (p : Nat × Int) (y : Ed) : Option Ed :=
  if y.e ∈ onto then (if ob[p.1]? = some y.e then some ⟨(p.1 : Int) * a.st + p.2, y.e, ((p.1 + 1 : Nat) : Int) * a.st + y.t⟩ else none) else some ⟨(p.1 : Int) * a.st + p.2, y.e, (p.1 : Int) * a.st + y.t⟩
theorem pl_edgeO {p : Nat × Int} (hp : PlOk a ob p) {e : Int} (he : e ∈ a.al) : edgeO (plA a onto ob).ed ((p.1 : Int) * a.st + p.2) e = (edgeO a.ed p.2 e).bind (plY a onto ob p) := by
  have hok := pl_ok h h0 onto ob fun _ => true
  have hde := hok.den p hp
  have hen := hok.enr p hp
  have hl := cod_link hok (q := (p.1 : Int) * a.st + p.2) hen he
  rw [show (plC a onto ob fun _ => true).de ((p.1 : Int) * a.st + p.2) = p from hde] at hl
  have hst : (plC a onto ob fun _ => true).st p e = (match stepO a p.2 e with | none => none | some t => if e ∈ onto then (if ob[p.1]? = some e then some (p.1 + 1, t) else none) else some (p.1, t)) := rfl
  rw [hst] at hl
  cases hy : edgeO a.ed p.2 e with
  | none =>
    rw [stepO, hy] at hl
    rcases hl with ⟨_, h2⟩ | ⟨t, h1, _⟩
    · exact h2
    · cases h1
  | some y =>
    obtain ⟨_, _, k3⟩ := (edgeO_some h.edo).1 hy
    rw [stepO, hy] at hl
    show _ = plY a onto ob p y
    unfold plY
    rw [k3]
    simp only [Option.map_some] at hl
    by_cases h1 : e ∈ onto
    · by_cases h2 : ob[p.1]? = some e
      · rw [if_pos h1, if_pos h2]
        rw [if_pos h1, if_pos h2] at hl
        rcases hl with ⟨h3, _⟩ | ⟨t, h3, _, _, _, h4⟩
        · cases h3
        · injection h3 with h3; rw [← h3] at h4; exact h4
      · rw [if_pos h1, if_neg h2]
        rw [if_pos h1, if_neg h2] at hl
        rcases hl with ⟨_, h3⟩ | ⟨t, h3, _⟩
        · exact h3
        · cases h3
    · rw [if_neg h1]
      rw [if_neg h1] at hl
      rcases hl with ⟨h3, _⟩ | ⟨t, h3, _, _, _, h4⟩
      · cases h3
      · injection h3 with h3; rw [← h3] at h4; exact h4
theorem pl_succ {p : Nat × Int} (hp : PlOk a ob p) : succ (plA a onto ob).ed ((p.1 : Int) * a.st + p.2) = (succ a.ed p.2).filterMap (plY a onto ob p) := by
  rw [succ_eq (plc_right h h0), succ_eq h, List.filterMap_filterMap]
  have key : ∀ l : List Int, (∀ e ∈ l, e ∈ a.al) → l.filterMap (edgeO (plA a onto ob).ed ((p.1 : Int) * a.st + p.2)) = l.filterMap fun e => (edgeO a.ed p.2 e).bind (plY a onto ob p) := by
    intro l
    induction l with
    | nil => intro _; rfl
    | cons e l ih =>
      intro hl
      rw [List.filterMap_cons, List.filterMap_cons, pl_edgeO h h0 hp (hl e (by simp)), ih fun x hx => hl x (List.mem_cons_of_mem _ hx)]
  exact key _ fun _ h => h
end
/-- The number of a place; a place of a number. -/
theorem pl_place {a : Au} (h : RightW a) (h0 : 0 < a.st) {onto ob : List Int} {x : Int} (hx : 0 ≤ x ∧ x < (plA a onto ob).st) : ∃ p, PlOk a ob p ∧ x = (p.1 : Int) * a.st + p.2 := by
  have hok := pl_ok h h0 onto ob fun _ => true
  exact ⟨_, hok.okd x hx.1 hx.2, (hok.edn x hx.1 hx.2).symm⟩
theorem pl_inj {a : Au} {ob : List Int} {p r : Nat × Int} (hp : PlOk a ob p) (hr : PlOk a ob r) (e : (p.1 : Int) * a.st + p.2 = (r.1 : Int) * a.st + r.2) : p = r := by
  obtain ⟨a1, a2⟩ := pl_div (d := p.1) hp.2.1 hp.2.2
  obtain ⟨b1, b2⟩ := pl_div (d := r.1) hr.2.1 hr.2.2
  rw [e] at a1 a2
  exact Prod.ext (by omega) (by omega)
/-- Whether a place is a goal. -/
def glB (a : Au) (ob : List Int) (mk : Bool) (x : Int) : Bool := decide (x / a.st = (ob.length : Int)) && (!mk || decide (x % a.st ∈ a.mr))
theorem gl_place {a : Au} {ob : List Int} {mk : Bool} {p : Nat × Int} (hp : PlOk a ob p) : glB a ob mk ((p.1 : Int) * a.st + p.2) = (decide (p.1 = ob.length) && (!mk || decide (p.2 ∈ a.mr))) := by
  obtain ⟨a1, a2⟩ := pl_div (d := p.1) hp.2.1 hp.2.2
  unfold glB
  rw [a1, a2]
  congr 1
  simp [Int.ofNat_inj]
/-- The least word with an observation that leads to a goal. -/
def lfO (a : Au) (onto ob : List Int) (mk : Bool) : Option (List Int) := if a.st = 0 then none else ((trA (plA a onto ob)).find? fun p => glB a ob mk p.1).map Prod.snd
theorem lf_at {a : Au} (h0 : 0 < a.st) {onto ob : List Int} {mk : Bool} {n i : Nat} {p : Int × List Int} (hp : (Tr (plA a onto ob) n)[i]? = some p) (hg : glB a ob mk p.1 = true) (hn : ∀ (j : Nat) (r : Int × List Int), j < i → (Tr (plA a onto ob) n)[j]? = some r → glB a ob mk r.1 = false) (hN : n ≤ (plA a onto ob).st.toNat) : lfO a onto ob mk = some p.2 := by
  have hpre : Tr (plA a onto ob) n <+: trA (plA a onto ob) := tr_mono hN
  have hp' := pre_at hpre hp
  have hlen := (List.getElem?_eq_some_iff.1 hp).1
  unfold lfO
  rw [if_neg (by omega)]
  have : (trA (plA a onto ob)).find? (fun p => glB a ob mk p.1) = some p := by
    rw [List.find?_eq_some_iff_getElem]
    obtain ⟨hl, e⟩ := List.getElem?_eq_some_iff.1 hp'
    refine ⟨hg, i, hl, e, fun j hj => ?_⟩
    have hjl : j < (Tr (plA a onto ob) n).length := by omega
    have h1 := hn j _ hj (List.getElem?_eq_getElem hjl)
    have h2 := pre_at hpre (List.getElem?_eq_getElem hjl)
    obtain ⟨h3, h4⟩ := List.getElem?_eq_some_iff.1 h2
    rw [h4, h1]; rfl
  rw [this]; rfl
theorem tr_len_le {a : Au} (h : RightW a) (h0 : 0 < a.st) (n : Nat) : (Tr a n).length ≤ a.st.toNat := by
  have := Fd_len h h0 n
  rw [← tr_fst, List.length_map] at this; exact this
theorem tr_still {a : Au} {n : Nat} (hn : (Tr a n).length ≤ n) : ∀ d, Tr a (n + d) = Tr a n
  | 0 => rfl
  | d + 1 => by
    have ih := tr_still hn d
    rw [← Nat.add_assoc, Tr, ih, List.getElem?_eq_none (by omega)]
theorem lf_none {a : Au} (h0 : 0 < a.st) {onto ob : List Int} {mk : Bool} {n : Nat} (hl : (Tr (plA a onto ob) n).length ≤ n) (hn : ∀ (j : Nat) (r : Int × List Int), (Tr (plA a onto ob) n)[j]? = some r → glB a ob mk r.1 = false) (hN : n ≤ (plA a onto ob).st.toNat) : lfO a onto ob mk = none := by
  have e : trA (plA a onto ob) = Tr (plA a onto ob) n := by
    obtain ⟨d, hd⟩ : ∃ d, (plA a onto ob).st.toNat = n + d := ⟨_, (Nat.add_sub_cancel' hN).symm⟩
    rw [trA, hd, tr_still hl]
  unfold lfO
  rw [if_neg (by omega), e, Option.map_eq_none_iff, List.find?_eq_none]
  intro r hr
  obtain ⟨j, hj⟩ := List.getElem?_of_mem hr
  rw [hn j r hj]; simp
/-- What is observed of a word. -/
def obR (onto ws : List Int) : List Int := ws.filter fun x => decide (x ∈ onto)
theorem pl_run {a : Au} (h : RightW a) (h0 : 0 < a.st) {onto ob : List Int} : ∀ (v : List Int) (p : Nat × Int), PlOk a ob p → (∀ e ∈ v, e ∈ a.al) → ∀ x, rO (plA a onto ob) ((p.1 : Int) * a.st + p.2) v = some x ↔ ∃ q, rO a p.2 v = some q ∧ x = ((p.1 + (obR onto v).length : Nat) : Int) * a.st + q ∧ obR onto v <+: ob.drop p.1
  | [], p, hp, _, x => by
    simp only [rO, obR, List.filter_nil, List.length_nil, Nat.add_zero, List.nil_prefix, and_true, Option.some.injEq]
    constructor
    · rintro rfl; exact ⟨_, rfl, rfl⟩
    · rintro ⟨q, rfl, rfl⟩; rfl
  | e :: v, p, hp, hv, x => by
    have hev := hv e (List.mem_cons_self ..)
    have hstep : stepO (plA a onto ob) ((p.1 : Int) * a.st + p.2) e = (match stepO a p.2 e with | none => none | some t => if e ∈ onto then (if ob[p.1]? = some e then some (((p.1 + 1 : Nat) : Int) * a.st + t) else none) else some ((p.1 : Int) * a.st + t)) := by
      rw [stepO, pl_edgeO h h0 hp hev, stepO]
      cases hy : edgeO a.ed p.2 e with
      | none => rfl
      | some y =>
        obtain ⟨_, _, k3⟩ := (edgeO_some h.edo).1 hy
        show Option.map _ (plY a onto ob p y) = _
        unfold plY
        rw [k3]
        simp only [Option.map_some]
        split
        · split <;> rfl
        · rfl
    rw [rO, hstep, rO]
    cases hs : stepO a p.2 e with
    | none => simp
    | some t =>
      have ht := step_range h hs
      have hv' : ∀ e ∈ v, e ∈ a.al := fun y hy => hv y (List.mem_cons_of_mem _ hy)
      simp only
      by_cases h1 : e ∈ onto
      · have ho : obR onto (e :: v) = e :: obR onto v := by unfold obR; simp [h1]
        rw [if_pos h1, ho]
        by_cases h2 : ob[p.1]? = some e
        · obtain ⟨h3, h4⟩ := List.getElem?_eq_some_iff.1 h2
          rw [if_pos h2]
          have ih := pl_run h h0 (onto := onto) v (p.1 + 1, t) ⟨h3, ht⟩ hv' x
          simp only at ih ⊢
          rw [ih]
          have e1 : ob.drop p.1 = e :: ob.drop (p.1 + 1) := by rw [List.drop_eq_getElem_cons h3, h4]
          rw [e1, List.length_cons]
          constructor
          · rintro ⟨q, k1, k2, k3⟩
            exact ⟨q, k1, by rw [k2]; congr 2; omega, List.cons_prefix_cons.2 ⟨rfl, k3⟩⟩
          · rintro ⟨q, k1, k2, k3⟩
            exact ⟨q, k1, by rw [k2]; congr 2; omega, (List.cons_prefix_cons.1 k3).2⟩
        · rw [if_neg h2]
          constructor
          · intro hh; cases hh
          · rintro ⟨q, k1, k2, k3⟩
            exfalso
            obtain ⟨r, hr⟩ := k3
            have h5 : (ob.drop p.1)[0]? = some e := by rw [← hr]; rfl
            rw [List.getElem?_drop] at h5
            exact h2 (by simpa using h5)
      · have ho : obR onto (e :: v) = obR onto v := by unfold obR; simp [h1]
        rw [if_neg h1, ho]
        exact pl_run h h0 v (p.1, t) ⟨hp.1, ht⟩ hv' x
theorem run_al {a : Au} (h : RightW a) : ∀ (v : List Int) (q t : Int), rO a q v = some t → ∀ e ∈ v, e ∈ a.al
  | [], _, _, _, e, he => by cases he
  | x :: v, q, t, hr, e, he => by
    rw [rO] at hr
    cases hs : stepO a q x with
    | none => rw [hs] at hr; cases hr
    | some u =>
      rw [hs] at hr
      rcases List.mem_cons.1 he with rfl | he
      · cases hy : edgeO a.ed q e with
        | none => rw [stepO, hy] at hs; cases hs
        | some y =>
          obtain ⟨k1, _, k3⟩ := (edgeO_some h.edo).1 hy
          rw [← k3]; exact (h.edr y k1).2.2
      · exact run_al h v u t hr e he
/-- Of a word that a generates, the word that is found for its observation: alike, generated, not greater. -/
theorem lf_least {a : Au} (h : RightW a) (h0 : 0 < a.st) {onto w : List Int} {q : Int} (hw : rO a 0 w = some q) : ∃ v, lfO a onto (obR onto w) false = some v ∧ obR onto v = obR onto w ∧ (∃ t, rO a 0 v = some t) ∧ (v = w ∨ slx v w) := by
  have hal := run_al h w 0 q hw
  have hz : PlOk a (obR onto w) (0, 0) := ⟨Nat.zero_le _, Int.le_refl _, h0⟩
  have hR := plc_right h h0 (onto := onto) (ob := obR onto w)
  have hP := plc_pos h0 (onto := onto) (ob := obR onto w)
  have e0 : ((0 : Nat) : Int) * a.st + 0 = 0 := by simp
  have hq0 : 0 ≤ q ∧ q < a.st := by
    cases w with
    | nil => simp [rO] at hw; omega
    | cons x w =>
      obtain ⟨u, e, hu⟩ : ∃ u e, x :: w = u ++ [e] := ⟨(x :: w).dropLast, (x :: w).getLast (by simp), (List.dropLast_concat_getLast _).symm⟩
      rw [hu, rO_snoc'] at hw
      cases h1 : rO a 0 u with
      | none => rw [h1] at hw; cases hw
      | some s => rw [h1] at hw; exact step_range h hw
  have hrun := (pl_run h h0 (onto := onto) (ob := obR onto w) w (0, 0) hz hal _).2 ⟨q, hw, rfl, by simp⟩
  simp only [Nat.zero_add, e0] at hrun
  obtain ⟨w', hm, hle⟩ := trA_least hR hP w _ hrun
  have hgl : glB a (obR onto w) false ((((obR onto w).length : Nat) : Int) * a.st + q) = true := by
    have := gl_place (mk := false) (show PlOk a (obR onto w) ((obR onto w).length, q) from ⟨Nat.le_refl _, hq0⟩)
    simpa using this
  cases hf : (trA (plA a onto (obR onto w))).find? (fun p => glB a (obR onto w) false p.1) with
  | none =>
    rw [List.find?_eq_none] at hf
    exact absurd hgl (hf _ hm)
  | some p =>
    obtain ⟨hg, i, hi, e, hbef⟩ := List.find?_eq_some_iff_getElem.1 hf
    have hpm : p ∈ trA (plA a onto (obR onto w)) := by rw [← e]; exact List.getElem_mem _
    have hpr := trA_run hR p hpm
    have hpal : ∀ x ∈ p.2, x ∈ a.al := run_al hR p.2 0 p.1 hpr
    rw [show (0 : Int) = ((0 : Nat) : Int) * a.st + 0 by simp] at hpr
    obtain ⟨t, k1, k2, k3⟩ := (pl_run h h0 p.2 (0, 0) hz hpal _).1 hpr
    simp only [Nat.zero_add, List.drop_zero] at k2 k3
    refine ⟨p.2, by unfold lfO; rw [if_neg (by omega), hf]; rfl, ?_, ⟨t, k1⟩, ?_⟩
    · obtain ⟨r, hr⟩ := k3
      have hlen : (obR onto p.2).length ≤ (obR onto w).length := by rw [← hr]; simp
      have ht0 : 0 ≤ t ∧ t < a.st := by
        cases hp2 : p.2 with
        | nil => rw [hp2] at k1; simp [rO] at k1; omega
        | cons x u =>
          obtain ⟨u', e', hu⟩ : ∃ u' e', x :: u = u' ++ [e'] := ⟨(x :: u).dropLast, (x :: u).getLast (by simp), (List.dropLast_concat_getLast _).symm⟩
          rw [hp2, hu, rO_snoc'] at k1
          cases h1 : rO a 0 u' with
          | none => rw [h1] at k1; cases k1
          | some s => rw [h1] at k1; exact step_range h k1
      rw [k2] at hg
      have h5 := gl_place (mk := false) (show PlOk a (obR onto w) ((obR onto p.2).length, t) from ⟨hlen, ht0⟩)
      simp only at h5
      rw [h5] at hg
      simp at hg
      have : r = [] := List.eq_nil_of_length_eq_zero (by have := congrArg List.length hr; rw [List.length_append] at this; omega)
      rw [this, List.append_nil] at hr; exact hr
    · obtain ⟨j, hj, ej⟩ := List.getElem_of_mem hm
      have hij : i ≤ j := by
        rcases Nat.lt_or_ge j i with hlt | hge
        · have := hbef j hlt
          rw [ej, hgl] at this; cases this
        · exact hge
      have hup := trA_up hR
      rcases Nat.eq_or_lt_of_le hij with rfl | hlt
      · have : p = (((((obR onto w).length : Nat) : Int) * a.st + q), w') := by rw [← e, ej]
        rw [this]; exact hle
      · have h6 := List.pairwise_iff_getElem.1 hup i j (by simpa using hi) (by simpa using hj) hlt
        simp [e, ej] at h6
        rcases hle with rfl | hle
        · exact .inr h6
        · exact .inr (slx_trans h6 hle)
end Go.Proofs.YtaadhpkpekmfoaaGreat

/- Layer 7: the errors of an automaton, of a list of events and of a set of states. -/
namespace Go.Proofs.YtaadhpkpekmfoaaGreat
open Go.RowKit

/-- The first error of a list. -/
def fstE : List Int → Int
  | [] => 0
  | x :: r => if x ≠ 0 then x else fstE r
theorem fst_drop {xs : List Int} {k : Nat} (h : k < xs.length) : fstE (xs.drop k) = if xs.getD k 0 ≠ 0 then xs.getD k 0 else fstE (xs.drop (k + 1)) := by
  have e : xs.getD k 0 = xs[k] := by simp [List.getD, List.getElem?_eq_getElem h]
  rw [List.drop_eq_getElem_cons h, fstE, e]
set_option maxHeartbeats 800000 in
theorem cmpOr_any (A : Option Addr) (n c B : Nat) (xs : List Int) (w : World) (hx : RdI w B A xs) (hn : xs.length = n) (hb : n ≤ 100000) :
    Calls Tryz.prog 53 #[.slice A n c] w fun e w' => e = .returned (.int .i64 (fstE xs)) ∧ w = w' := by
  have HX := Lib.hid hx
  have HN := Lib.hid hn
  obtain ⟨u, hu⟩ : ∃ u, u = fstE xs := ⟨_, rfl⟩
  rw [← hu]
  have HU := Lib.hid (show u = fstE (xs.drop 0) by rw [List.drop_zero]; exact hu)
  clear hx hn hu
  go_enter Tryz.func53, Tryz.ntmps53
  go_wp2_with fail
  go_loopw [5, 8] (fun _ i wr => ∃ k : Nat, k ≤ n ∧ i = .int .i64 k ∧ w = wr ∧ Hid (u = fstE (xs.drop k))) (fun _ i _ => n - (intOf i).toNat)
  case atStart => exact ⟨0, Nat.zero_le _, rfl, rfl, HU⟩
  case round =>
    obtain ⟨k, hk, rfl, rfl, hf⟩ := hrel
    by_cases hlt : k < n
    · obtain ⟨b, o, rfl, _, hc⟩ := HX.out (by rw [HN.out]; omega)
      have hz : k < xs.length := by rw [HN.out]; exact hlt
      have hc1 := hc k hz
      obtain ⟨x, hxe⟩ : ∃ x, x = xs.getD k 0 := ⟨_, rfl⟩
      have hd := fst_drop hz
      rw [← hxe] at hc1 hd
      have HD := Lib.hid hd
      have z0 : (k : Int) < (n : Int) := by omega
      have z1 : (0 : Int) ≤ (k : Int) := by omega
      clear hc hz hxe hd
      by_cases h0 : x = 0
      · have hb : (x != 0) = false := by simp [h0]
        have hg := Lib.hid (show u = fstE (xs.drop (k + 1)) by rw [hf.out, HD.out, if_neg (by simp [h0])])
        clear h0
        go_wp2_with fail
        go_roundw
        case rel => exact ⟨k + 1, by omega, by go_num, by first | rfl | trivial, hg⟩
        case measure => simp [intOf]; omega
      · have hb : (x != 0) = true := by simp [h0]
        have hg := Lib.hid (show u = x by rw [hf.out, HD.out, if_pos h0])
        clear h0
        go_wp2_with fail
        go_ret
        exact ⟨by rw [hg.out]; rfl, rfl⟩
    · have hg := Lib.hid (show u = 0 by rw [hf.out, List.drop_of_length_le (by rw [HN.out]; omega)]; rfl)
      have z0 : (n : Int) ≤ (k : Int) := by omega
      go_wp2_with fail
      go_ret
      exact ⟨by rw [hg.out]; rfl, rfl⟩
theorem au_events {w : World} {A : Option Addr} {n c : Nat} {zs : List Int} (h : RdI w w.heap.size A zs) (hn : zs.length = n) (hc : n ≤ c ∧ c ≤ 9223372036854775807) (hb : n ≤ 100000) : AuR w w.heap.size A n c 0 none 0 0 none 0 0 ⟨zs, 0, [], []⟩ where
  al := h
  mr := RdI.nil _ _ _
  ed := fun h0 => by simp at h0
  hn := hn
  hm := rfl
  hk := rfl
  st := rfl
  cn := hc
  cm := by omega
  ck := by omega
  bn := hb
  bm := by omega
  bk := by omega
theorem au_states {w : World} {A : Option Addr} {n c : Nat} {s : Int} {zs : List Int} (h : RdI w w.heap.size A zs) (hn : zs.length = n) (hc : n ≤ c ∧ c ≤ 9223372036854775807) (hb : n ≤ 100000) : AuR w w.heap.size none 0 0 s A n c none 0 0 ⟨[], s, zs, []⟩ where
  al := RdI.nil _ _ _
  mr := h
  ed := fun h0 => by simp at h0
  hn := rfl
  hm := hn
  hk := rfl
  st := rfl
  cn := by omega
  cm := hc
  ck := by omega
  bn := by omega
  bm := hb
  bk := by omega
theorem rd_two {w : World} {x y : Int} : RdI (w.alloc (.cells #[.int .i64 x, .int .i64 y] 29)) (w.alloc (.cells #[.int .i64 x, .int .i64 y] 29)).heap.size (some ⟨w.heap.size, 0, none⟩) [x, y] := fun _ => ⟨w.heap.size, 0, rfl, by simp, fun j hj => by
  match j, hj with
  | 0, _ => rw [World.cell?_alloc_at _ _ _ _ rfl]; rfl
  | 1, _ => rw [World.cell?_alloc_at _ _ _ _ rfl]; rfl
  | j + 2, hj => (simp at hj) <;> omega⟩
/-- The error of an automaton and of a list of events. -/
def cweE (a : Au) (ev : List Int) : Int := fstE [chkE a, chkE ⟨ev, 0, [], []⟩]
set_option maxHeartbeats 1600000 in
theorem jCheckEvents_any (A : Option Addr) (n c : Nat) (s : Int) (M : Option Addr) (m d : Nat) (E : Option Addr) (k g : Nat) (a : Au) (A2 : Option Addr) (n2 c2 : Nat) (ev : List Int) (w : World) (h : AuR w w.heap.size A n c s M m d E k g a) (hx : RdI w w.heap.size A2 ev) (hn : ev.length = n2) (hc : n2 ≤ c2 ∧ c2 ≤ 9223372036854775807) (hb : n2 ≤ 100000) :
    Calls Tryz.prog 42 #[.agg #[.slice A n c, .int .i64 s, .slice M m d, .slice E k g], .slice A2 n2 c2] w fun e w' => e = .returned (.int .i64 (cweE a ev)) ∧ Below w.heap.size w w' := by
  have hb1 := (Below.refl w.heap.size w).alloc (Nat.le_refl _) (.cells #[.slice A n c, .int .i64 s, .slice M m d, .slice E k g] 33)
  have HB1 := Lib.hid hb1
  have HC := Lib.hid (mCheck_any A n c s M m d E k g a _ ((h.below hb1 (Nat.le_refl _)).more (by simp)))
  have HE := Lib.hid (fun W (hW : Below w.heap.size w W) => mCheck_any A2 n2 c2 0 none 0 0 none 0 0 ⟨ev, 0, [], []⟩ W (au_events ((hx.below hW (Nat.le_refl _)).more hW.size) hn hc hb))
  have HX := Lib.hid (BoxA.made w A n c s M m d E k g 33)
  obtain ⟨u, hu⟩ : ∃ u, u = chkE a := ⟨_, rfl⟩
  obtain ⟨v, hv⟩ : ∃ v, v = chkE ⟨ev, 0, [], []⟩ := ⟨_, rfl⟩
  rw [← hu] at HC
  rw [← hv] at HE
  have HR := Lib.hid (show cweE a ev = fstE [u, v] by rw [cweE, hu, hv])
  rw [HR.out]
  clear h hx hn hu hv hb1 HR
  go_enter Tryz.func42, Tryz.ntmps42
  go_wp2_with fail
  refine HC.out.mono ?_
  rintro e w1 ⟨rfl, hbw⟩
  have hB := Lib.hid (HB1.out.trans (hbw.mono HB1.out.size))
  clear hbw
  go_wp2_with fail
  refine (HE.out _ hB.out).mono ?_
  rintro e w2 ⟨rfl, hbw⟩
  have hB := Lib.hid (hB.out.trans (hbw.mono hB.out.size))
  clear hbw
  go_wp2_with fail
  refine (cmpOr_any _ 2 2 _ [u, v] _ rd_two rfl (by omega)).mono ?_
  rintro e w3 ⟨rfl, rfl⟩
  go_wp2_with fail
  go_ret
  exact ⟨rfl, hB.out.alloc hB.out.size _⟩
/-- The error of a set of states. -/
def cstE (s : Int) (zs : List Int) : Int := chkE ⟨[], s, zs, []⟩
set_option maxHeartbeats 1600000 in
theorem jCheckStates_any (A : Option Addr) (n c : Nat) (s : Int) (M : Option Addr) (m d : Nat) (E : Option Addr) (k g : Nat) (a : Au) (A2 : Option Addr) (n2 c2 : Nat) (zs : List Int) (w : World) (_h : AuR w w.heap.size A n c s M m d E k g a) (hx : RdI w w.heap.size A2 zs) (hn : zs.length = n2) (hc : n2 ≤ c2 ∧ c2 ≤ 9223372036854775807) (hb : n2 ≤ 100000) :
    Calls Tryz.prog 54 #[.agg #[.slice A n c, .int .i64 s, .slice M m d, .slice E k g], .slice A2 n2 c2] w fun e w' => e = .returned (.int .i64 (cstE s zs)) ∧ Below w.heap.size w w' := by
  have hb1 := (Below.refl w.heap.size w).alloc (Nat.le_refl _) (.cells #[.slice A n c, .int .i64 s, .slice M m d, .slice E k g] 33)
  have HB1 := Lib.hid hb1
  have HC := Lib.hid (mCheck_any none 0 0 s A2 n2 c2 none 0 0 ⟨[], s, zs, []⟩ _ (au_states ((hx.below hb1 (Nat.le_refl _)).more (by simp)) hn hc hb))
  obtain ⟨p0, p1, p2, p3⟩ := BoxA.made w A n c s M m d E k g 33
  obtain ⟨u, hu⟩ : ∃ u, u = chkE ⟨[], s, zs, []⟩ := ⟨_, rfl⟩
  rw [← hu] at HC
  have HR := Lib.hid (show cstE s zs = u by rw [cstE, hu])
  rw [HR.out]
  clear _h hx hn hu hb1 HR
  go_enter Tryz.func54, Tryz.ntmps54
  go_wp2_with fail
  refine HC.out.mono ?_
  rintro e w1 ⟨rfl, hbw⟩
  have hB := HB1.out.trans (hbw.mono HB1.out.size)
  clear hbw p0 p1 p2 p3
  go_wp2_with fail
  go_ret
  exact ⟨rfl, hB⟩
end Go.Proofs.YtaadhpkpekmfoaaGreat
