/- Layer 3, the mathematics of automata whose states or events have other names. -/
import Derived.Test.YtcciiikaejjooaaaLang
import Derived.Test.YtcciiikaejjooaaaRelM
import Derived.Test.YtcciiikaejjooaaaStep
import Derived.Test.YtcciiikaejjooaaaApi
import Derived.Test.YtcciiikaejjooaaaCmp
import Derived.Test.YtcciiikaejjooaaaClo
namespace Go.Proofs.Ytcciiikaejjooaa
open Go.RowKit Go.Sort

theorem edge_step {a : Au} (h : RightW a) (q ev : Int) : edgeO a.ed q ev = (stepO a q ev).map fun t => ⟨q, ev, t⟩ := by
  unfold stepO
  cases he : edgeO a.ed q ev with
  | none => rfl
  | some x =>
    obtain ⟨_, h1, h2⟩ := (edgeO_some h.edo).1 he
    subst h1 h2; rfl
theorem succ_step {a : Au} (h : RightW a) (q : Int) : succ a.ed q = a.al.filterMap fun ev => (stepO a q ev).map fun t => ⟨q, ev, t⟩ := by
  rw [succ_eq h]
  exact congrArg (fun f => a.al.filterMap f) (funext fun ev => edge_step h q ev)
/-- The second automaton is the first one with other names for the states that are found. -/
structure IsoA (b b' : Au) (f : Int → Int) : Prop where
  h : RightW b
  h' : RightW b'
  al : b'.al = b.al
  z : f 0 = 0
  p : 0 < b.st
  p' : 0 < b'.st
  inj : ∀ x y, x ∈ fnd b → y ∈ fnd b → f x = f y → x = y
  st : ∀ q ∈ fnd b, ∀ ev, stepO b' (f q) ev = (stepO b q ev).map f
  mq : ∀ q ∈ fnd b, (f q ∈ b'.mr ↔ q ∈ b.mr)
section
variable {b b' : Au} {f : Int → Int}
theorem iso_succ (H : IsoA b b' f) {q : Int} (hq : q ∈ fnd b) : succ b'.ed (f q) = (succ b.ed q).map fun x => ⟨f q, x.e, f x.t⟩ := by
  rw [succ_step H.h', succ_step H.h, H.al, List.map_filterMap]
  refine congrArg (fun g => b.al.filterMap g) (funext fun ev => ?_)
  rw [H.st q hq ev]
  cases stepO b q ev <;> rfl
theorem getD_map0 {l : List Int} {f : Int → Int} {i : Nat} (h : i < l.length) : (l.map f).getD i 0 = f (l.getD i 0) := by
  simp [List.getD, List.getElem?_eq_getElem h]
theorem Fd_iso (H : IsoA b b' f) : ∀ n, Fd b' n = (Fd b n).map f
  | 0 => by simp [Fd, H.z]
  | n + 1 => by
    have ih := Fd_iso H n
    have hp := Fd_fnd H.h H.p n
    by_cases hn : n < (Fd b n).length
    · rw [Fd_go hn, Fd_go (by rw [ih, List.length_map]; exact hn), ih, getD_map0 hn]
      have hnl : n < (fnd b).length := Nat.lt_of_lt_of_le hn hp.length_le
      have hq : (Fd b n).getD n 0 ∈ fnd b := hp.subset (getD_mem hn)
      rw [iso_succ H hq]
      refine visitL_map (fl := fnd b) H.inj _ _ hp.subset fun x hx => ⟨?_, rfl⟩
      rw [← getD_pre hp hn] at hx
      exact fnd_closed H.h hnl hx
    · rw [Fd_stop hn, Fd_stop (by rw [ih, List.length_map]; exact hn), ih]
theorem fnd_far {a : Au} (h : RightW a) (h0 : 0 < a.st) {n : Nat} (hn : a.st.toNat ≤ n) : Fd a n = fnd a := by
  have := Fd_still (a := a) (n := a.st.toNat) (Fd_len h h0 _) (n - a.st.toNat)
  rw [show a.st.toNat + (n - a.st.toNat) = n by omega] at this
  rw [this, fnd_pos h0]
theorem fnd_iso (H : IsoA b b' f) : fnd b' = (fnd b).map f := by
  rw [← fnd_far H.h' H.p' (n := b.st.toNat + b'.st.toNat) (by omega), ← fnd_far H.h H.p (n := b.st.toNat + b'.st.toNat) (by omega), Fd_iso H]
theorem idxOf_map {f : Int → Int} : ∀ {l : List Int} {x : Int}, (∀ a c, a ∈ l → c ∈ l → f a = f c → a = c) → x ∈ l → (l.map f).idxOf (f x) = l.idxOf x
  | [], x, _, h => by simp at h
  | y :: l, x, hi, h => by
    rw [List.map_cons, List.idxOf_cons, List.idxOf_cons]
    by_cases e : y = x
    · subst e; simp
    · have h1 : x ∈ l := (List.mem_cons.1 h).resolve_left fun h => e h.symm
      have h2 : ¬ f y = f x := fun e2 => e (hi y x (by simp) (by simp [h1]) e2)
      have e1 : (y == x) = false := by simpa using e
      have e2 : (f y == f x) = false := by simpa using h2
      rw [e1, e2, cond_false, cond_false, idxOf_map (fun a c ha hc => hi a c (by simp [ha]) (by simp [hc])) h1]
/-- The canonical forms are one. -/
theorem can_iso (H : IsoA b b' f) : canA b' = canA b := by
  have hf := fnd_iso H
  have hlen : (fnd b').length = (fnd b).length := by rw [hf, List.length_map]
  have hM : canM b' = canM b := by
    unfold canM
    rw [hlen]
    refine congrArg _ (List.filter_congr fun i hi => ?_)
    have hi' : i < (fnd b).length := List.mem_range.1 hi
    rw [hf, getD_map0 hi']
    exact decide_eq_decide.2 (H.mq _ (getD_mem hi'))
  have hE : canEn b' (fnd b').length = canEn b (fnd b).length := by
    unfold canEn
    rw [hlen, List.flatMap_def, List.flatMap_def]
    refine congrArg List.flatten (List.map_congr_left fun i hi => ?_)
    have hi' : i < (fnd b).length := List.mem_range.1 hi
    unfold outE
    rw [hf, getD_map0 hi', iso_succ H (getD_mem hi'), List.map_map]
    refine List.map_congr_left fun x hx => ?_
    rw [Function.comp_apply, idxOf_map H.inj (fnd_closed H.h hi' hx)]
  unfold canA
  rw [hlen, hM, H.al]
  rw [hlen] at hE
  rw [hE]
end
theorem can_zero {a : Au} (h : a.st = 0) : canA a = ⟨a.al, 0, [], []⟩ := by
  have hf : fnd a = [] := by rw [fnd, if_pos (by omega)]
  simp [canA, canM, canEn, hf]
/-- What is found is the least closed set. -/
theorem fnd_least {a : Au} (h : RightW a) (h0 : 0 < a.st) {S : List Int} (hz : (0 : Int) ∈ S) (hs : ∀ q ∈ S, ∀ ev t, stepO a q ev = some t → t ∈ S) : ∀ q ∈ fnd a, q ∈ S := by
  have : ∀ n, ∀ q ∈ Fd a n, q ∈ S := fun n => by
    induction n with
    | zero => intro q hq; simp [Fd] at hq; subst hq; exact hz
    | succ n ih =>
      intro q hq
      by_cases hn : n < (Fd a n).length
      · rw [Fd_go hn, mem_visitL] at hq
        rcases hq with hq | ⟨x, hx, rfl⟩
        · exact ih q hq
        · obtain ⟨h1, h2⟩ := mem_succ.1 hx
          exact hs _ (ih _ (getD_mem hn)) x.e x.t (stepO_some ((edgeO_some h.edo).2 ⟨h1, h2, rfl⟩))
      · rw [Fd_stop hn] at hq; exact ih q hq
  rw [fnd_pos h0]; exact this _

/-- The event that stands where a new one comes from. -/
def oldE (al tl : List Int) (e : Int) : Int := al.getD (tl.idxOf e) 0
section
variable {a : Au} {tl : List Int}
theorem mem_relE (h : RightW a) (hl : tl.length = a.al.length) (hd : tl.Nodup) {y : Ed} : y ∈ (relA a tl).ed ↔ y.e ∈ tl ∧ stepO a y.f (oldE a.al tl y.e) = some y.t := by
  show y ∈ srtE _ ↔ _
  rw [(srtE_perm _).mem_iff, List.mem_map]
  constructor
  · rintro ⟨x, hx, rfl⟩
    have hm := (h.edr x hx).2.2
    have hi : a.al.idxOf x.e < tl.length := by rw [hl]; exact List.idxOf_lt_length_iff.2 hm
    refine ⟨getD_mem hi, ?_⟩
    show stepO a x.f (a.al.getD (tl.idxOf (tl.getD (a.al.idxOf x.e) 0)) 0) = some x.t
    rw [idxOf_getD hd hi, getD_idxOf hm]
    exact stepO_some ((edgeO_some h.edo).2 ⟨hx, rfl, rfl⟩)
  · rintro ⟨h1, h2⟩
    have hi : tl.idxOf y.e < a.al.length := by rw [← hl]; exact List.idxOf_lt_length_iff.2 h1
    unfold stepO at h2
    cases he : edgeO a.ed y.f (oldE a.al tl y.e) with
    | none => rw [he] at h2; simp at h2
    | some x =>
      rw [he] at h2
      obtain ⟨g1, g2, g3⟩ := (edgeO_some h.edo).1 he
      refine ⟨x, g1, ?_⟩
      have e3 : tl.getD (a.al.idxOf x.e) 0 = y.e := by rw [g3]; unfold oldE; rw [idxOf_getD (lt_nodup h.alo) hi, getD_idxOf h1]
      have e2 : x.t = y.t := by simpa using h2
      unfold relE
      rw [e3, g2, e2]
theorem rel_step (h : RightW a) (hl : tl.length = a.al.length) (hr : ∀ x ∈ tl, 0 ≤ x ∧ x < 32) (hd : tl.Nodup) (q e : Int) : stepO (relA a tl) q e = if e ∈ tl then stepO a q (oldE a.al tl e) else none := by
  have hR := rel_right h hl hr hd
  by_cases he : e ∈ tl
  · rw [if_pos he]
    cases hs : stepO a q (oldE a.al tl e) with
    | some t => exact stepO_some (x := ⟨q, e, t⟩) ((edgeO_some hR.edo).2 ⟨(mem_relE h hl hd).2 ⟨he, hs⟩, rfl, rfl⟩)
    | none =>
      refine stepO_none (edgeO_none.2 fun y hy ⟨h1, h2⟩ => ?_)
      have := ((mem_relE h hl hd).1 hy).2
      rw [h1, h2, hs] at this; cases this
  · rw [if_neg he]
    refine stepO_none (edgeO_none.2 fun y hy ⟨h1, h2⟩ => ?_)
    have := ((mem_relE h hl hd).1 hy).1
    rw [h2] at this; exact he this
/-- The events that lead back. -/
def backL (al tl : List Int) : List Int := (srtI tl).map (oldE al tl)
theorem oldE_mem (hl : tl.length = a.al.length) {e : Int} (he : e ∈ tl) : oldE a.al tl e ∈ a.al := getD_mem (by rw [← hl]; exact List.idxOf_lt_length_iff.2 he)
theorem oldE_inj (h : RightW a) (hl : tl.length = a.al.length) {x y : Int} (hx : x ∈ tl) (hy : y ∈ tl) (e : oldE a.al tl x = oldE a.al tl y) : x = y := by
  have h1 : tl.idxOf x < a.al.length := by rw [← hl]; exact List.idxOf_lt_length_iff.2 hx
  have h2 : tl.idxOf y < a.al.length := by rw [← hl]; exact List.idxOf_lt_length_iff.2 hy
  exact idx_inj hx hy (getD_inj (lt_nodup h.alo) h1 h2 e)
theorem oldE_of (hl : tl.length = a.al.length) (hd : tl.Nodup) {ev : Int} (he : ev ∈ a.al) : ∃ e ∈ tl, oldE a.al tl e = ev := by
  have hi : a.al.idxOf ev < tl.length := by rw [hl]; exact List.idxOf_lt_length_iff.2 he
  refine ⟨tl.getD (a.al.idxOf ev) 0, getD_mem hi, ?_⟩
  unfold oldE
  rw [idxOf_getD hd hi, getD_idxOf he]
theorem back_nodup (h : RightW a) (hl : tl.length = a.al.length) (hd : tl.Nodup) : (backL a.al tl).Nodup := by
  unfold backL
  rw [List.nodup_iff_pairwise_ne, List.pairwise_map]
  refine (List.nodup_iff_pairwise_ne.1 (lt_nodup (srtI_lt hd))).imp_of_mem fun hx hy hne e => hne ?_
  exact oldE_inj h hl ((srtI_perm tl).mem_iff.1 hx) ((srtI_perm tl).mem_iff.1 hy) e
theorem mem_back (hl : tl.length = a.al.length) (hd : tl.Nodup) {ev : Int} : ev ∈ backL a.al tl ↔ ev ∈ a.al := by
  unfold backL
  rw [List.mem_map]
  constructor
  · rintro ⟨e, he, rfl⟩; exact oldE_mem hl ((srtI_perm tl).mem_iff.1 he)
  · intro h
    obtain ⟨e, he, rfl⟩ := oldE_of hl hd h
    exact ⟨e, (srtI_perm tl).mem_iff.2 he, rfl⟩
theorem back_len {al tl : List Int} : (backL al tl).length = (srtI tl).length := by unfold backL; rw [List.length_map]
theorem neE_mk : ∀ {zs seen : List Int}, (∀ x ∈ zs, 0 ≤ x ∧ x < 32) → zs.Nodup → (∀ x ∈ zs, x ∉ seen) → neGo seen zs = 0
  | [], seen, _, _, _ => by rw [neGo]
  | x :: r, seen, h1, h2, h3 => by
    rw [List.nodup_cons] at h2
    rw [neGo, if_neg (by have := h1 x (by simp); omega), if_neg (h3 x (by simp))]
    refine neE_mk (fun y hy => h1 y (by simp [hy])) h2.2 fun y hy hm => ?_
    first
    | (rcases List.mem_append.1 hm with hm | hm
       · exact h3 y (by simp [hy]) hm
       · simp at hm; subst hm; exact h2.1 hy)
    | (rcases List.mem_cons.1 hm with hm | hm
       · subst hm; exact h2.1 hy
       · exact h3 y (by simp [hy]) hm)
/-- The event that stands for an old one. -/
theorem oldE_back (h : RightW a) (hl : tl.length = a.al.length) (hd : tl.Nodup) {e : Int} (he : e ∈ tl) : oldE (srtI tl) (backL a.al tl) (oldE a.al tl e) = e := by
  have hm : e ∈ srtI tl := (srtI_perm tl).mem_iff.2 he
  have := idxOf_map (f := oldE a.al tl) (l := srtI tl) (x := e) (fun x y hx hy e => oldE_inj h hl ((srtI_perm tl).mem_iff.1 hx) ((srtI_perm tl).mem_iff.1 hy) e) hm
  show (srtI tl).getD ((backL a.al tl).idxOf (oldE a.al tl e)) 0 = e
  unfold backL
  rw [this, getD_idxOf hm]
/-- Relabelling back gives the automaton. -/
theorem rel_back (h : Right a) (hc : canA a = a) (hl : tl.length = a.al.length) (hr : ∀ x ∈ tl, 0 ≤ x ∧ x < 32) (hd : tl.Nodup) : relR (canA (relA a tl)) (backL a.al tl) = (a, 0) := by
  have hw := h.toRightW
  have hA1 := rel_right hw hl hr hd
  have hRi : Right (relA a tl) := { hA1 with st1 := h.st1 }
  have hR := hRi.can
  have hbl : (backL a.al tl).length = (canA (relA a tl)).al.length := back_len
  have hbd := back_nodup hw hl hd
  have hbr : ∀ x ∈ backL a.al tl, 0 ≤ x ∧ x < 32 := fun x hx => h.alr x ((mem_back hl hd).1 hx)
  have hB := rel_right hR.toRightW hbl hbr hbd
  have hal : (relA (canA (relA a tl)) (backL a.al tl)).al = a.al := lt_ext (srtI_lt hbd) h.alo fun x => (srtI_perm (backL a.al tl)).mem_iff.trans (mem_back hl hd)
  rw [relR, if_neg (by rw [hR.chk]; simp), if_neg (by rw [hbl]; simp), if_neg (by unfold neE; rw [neE_mk hbr hbd (by simp)]; simp)]
  congr 1
  by_cases h0 : a.st = 0
  · have h1 : (relA a tl).st = 0 := h0
    have h2 : (canA (relA a tl)).st = 0 := by rw [can_zero h1]
    rw [can_zero (a := relA (canA (relA a tl)) (backL a.al tl)) h2, hal]
    rw [← hc, can_zero h0]
  · have hp : 0 < a.st := by have := h.st0; omega
    have hp1 : 0 < (relA a tl).st := hp
    have hst : ∀ q e, stepO (relA a tl) q e = if e ∈ tl then stepO a q (oldE a.al tl e) else none := rel_step hw hl hr hd
    have hsub : ∀ q ∈ fnd a, q ∈ fnd (relA a tl) := fnd_least hw hp (zero_fnd hA1 hp1).1 fun q hq ev t hs => by
      obtain ⟨e, he, hoe⟩ := oldE_of hl hd (step_event hw hs).1
      refine step_in hA1 hq (ev := e) ?_
      rw [hst, if_pos he, hoe]; exact hs
    have hlen := List.length_pos_of_mem (zero_fnd hA1 hp1).1
    have hH : IsoA a (relA (canA (relA a tl)) (backL a.al tl)) (fun q => ((fnd (relA a tl)).idxOf q : Int)) := by
      refine { h := hw, h' := hB, al := hal, z := by rw [(zero_fnd hA1 hp1).2]; rfl, p := hp, p' := ?_, inj := fun x y hx hy e => idx_inj (hsub x hx) (hsub y hy) (by omega), st := fun q hq ev => ?_, mq := fun q hq => ?_ }
      · show (0 : Int) < ((fnd (relA a tl)).length : Int); omega
      · have hqi := List.idxOf_lt_length_iff.2 (hsub q hq)
        rw [rel_step hR.toRightW hbl hbr hbd]
        by_cases hev : ev ∈ a.al
        · rw [if_pos ((mem_back hl hd).2 hev)]
          obtain ⟨e, he, hoe⟩ := oldE_of hl hd hev
          have h3 : oldE (canA (relA a tl)).al (backL a.al tl) ev = e := by rw [← hoe]; exact oldE_back hw hl hd he
          rw [h3, step_can hA1 hqi, getD_idxOf (hsub q hq), hst, if_pos he, hoe]
        · rw [if_neg (fun hm => hev ((mem_back hl hd).1 hm))]
          cases hs : stepO a q ev with
          | none => rfl
          | some t => exact absurd (step_event hw hs).1 hev
      · show ((fnd (relA a tl)).idxOf q : Int) ∈ canM (relA a tl) ↔ q ∈ a.mr
        rw [mem_canM]
        have hqm := hsub q hq
        constructor
        · rintro ⟨i, h1, h2, h3⟩
          have : i = (fnd (relA a tl)).idxOf q := by omega
          rw [this, getD_idxOf hqm] at h2; exact h2
        · intro h1
          exact ⟨_, List.idxOf_lt_length_iff.2 hqm, by rw [getD_idxOf hqm]; exact h1, rfl⟩
    rw [can_iso hH, hc]
end
/-- The reference's edges of the first states, with the new events. -/
def relK (a : Au) (tl : List Int) (q : Int) : List Ed := (srtI tl).filterMap fun e => (stepO a q (oldE a.al tl e)).map fun t => ⟨q, e, t⟩
theorem relK_eq {a : Au} {tl : List Int} (h : RightW a) (hl : tl.length = a.al.length) (hr : ∀ x ∈ tl, 0 ≤ x ∧ x < 32) (hd : tl.Nodup) (q : Int) : relK a tl q = succ (relA a tl).ed q := by
  rw [succ_step (rel_right h hl hr hd)]
  have key : ∀ l : List Int, (∀ e ∈ l, e ∈ tl) → (l.filterMap fun e => (stepO a q (oldE a.al tl e)).map fun t => (⟨q, e, t⟩ : Ed)) = l.filterMap fun e => (stepO (relA a tl) q e).map fun t => ⟨q, e, t⟩ := fun l => by
    induction l with
    | nil => intro _; rfl
    | cons x l ih =>
      intro hm
      rw [List.filterMap_cons, List.filterMap_cons, ih fun e he => hm e (by simp [he]), rel_step h hl hr hd, if_pos (hm x (by simp))]
  exact key _ fun e he => (srtI_perm tl).mem_iff.1 he
/-- All edges, state by state. -/
theorem all_succ {a : Au} (h : RightW a) : a.ed = (List.range a.st.toNat).flatMap fun q : Nat => succ a.ed (q : Int) := by
  refine sorted_ext (r := ltE) ltE_irrefl (fun x y z => ltE_trans) _ _ h.edo ?_ fun x => ?_
  · rw [List.pairwise_flatMap]
    refine ⟨fun q _ => h.edo.sublist List.filter_sublist, ?_⟩
    refine List.pairwise_lt_range.imp fun hlt x hx y hy => ?_
    have h1 := (mem_succ.1 hx).2
    have h2 := (mem_succ.1 hy).2
    exact .inl (by omega)
  · rw [List.mem_flatMap]
    constructor
    · intro hx
      have := (h.edr x hx).1
      exact ⟨x.f.toNat, List.mem_range.2 (by omega), mem_succ.2 ⟨hx, by omega⟩⟩
    · rintro ⟨q, _, hx⟩; exact (mem_succ.1 hx).1

section
variable {a : Au}
theorem comp_step (h : RightW a) {q ev : Int} (hq : 0 ≤ q ∧ q ≤ a.st) (he : ev ∈ a.al) : stepO (compA a) q ev = some (toC a q ev) := by
  have hR := comp_right h
  refine stepO_some (x := ⟨q, ev, toC a q ev⟩) ((edgeO_some hR.edo).2 ⟨?_, rfl, rfl⟩)
  exact mem_compE.2 ⟨q.toNat, by omega, ev, he, by rw [show (q.toNat : Int) = q by omega]⟩
/-- In the further state a word stays. -/
theorem comp_sink (h : RightW a) : ∀ (ws : List Int), inB a.al ws = true → runE (compA a) a.st ws = (a.st, ws.length)
  | [], _ => by rw [runE_nil]; rfl
  | x :: r, hi => by
    unfold inB at hi
    rw [List.all_cons, Bool.and_eq_true] at hi
    have hx : x ∈ a.al := by simpa using hi.1
    have ht : toC a a.st x = a.st := by
      unfold toC
      cases hs : stepO a a.st x with
      | none => rfl
      | some t => have := step_event h hs; omega
    rw [runE_go (comp_step h ⟨h.st0, by omega⟩ hx), ht, comp_sink h r hi.2]; simp
theorem comp_run (h : RightW a) : ∀ (ws : List Int) (q : Int), 0 ≤ q → q < a.st → inB a.al ws = true → runE (compA a) q ws = (if (runE a q ws).2 = ws.length then (runE a q ws).1 else a.st, ws.length)
  | [], q, _, _, _ => by rw [runE_nil, runE_nil]; simp
  | x :: r, q, h0, h1, hi => by
    have hi0 := hi
    unfold inB at hi
    rw [List.all_cons, Bool.and_eq_true] at hi
    have hx : x ∈ a.al := by simpa using hi.1
    rw [runE_go (comp_step h ⟨h0, by omega⟩ hx)]
    unfold toC
    cases hs : stepO a q x with
    | none =>
      rw [runE_stop hs]
      show ((runE (compA a) a.st r).1, (runE (compA a) a.st r).2 + 1) = _
      rw [comp_sink h r hi.2, if_neg (by simp)]; simp
    | some t =>
      have ht := step_range h hs
      rw [runE_go hs]
      show ((runE (compA a) t r).1, (runE (compA a) t r).2 + 1) = _
      rw [comp_run h r t ht.1 ht.2 hi.2]
      simp
theorem comp_gen (h : RightW a) {ws : List Int} (hi : inB a.al ws = true) : genB (compA a) ws = true := by
  have h0 := h.st0
  have hs : ¬ (compA a).st = 0 := by show ¬ a.st + 1 = 0; omega
  unfold genB
  by_cases hz : a.st = 0
  · have := comp_sink h ws hi
    rw [hz] at this
    rw [this]; simp [hs]
  · rw [comp_run h ws 0 (by omega) (by omega) hi]; simp [hs]
theorem comp_acc (h : RightW a) {ws : List Int} (hi : inB a.al ws = true) : accB (compA a) ws = accB a ws := by
  have h0 := h.st0
  have hnm : a.st ∉ a.mr := fun hm => by have := h.mrr _ hm; omega
  unfold accB
  rw [comp_gen h hi]
  by_cases hz : a.st = 0
  · have := comp_sink h ws hi
    rw [hz] at this hnm
    rw [this]
    have hg : genB a ws = false := by simp [genB, hz]
    rw [hg]
    show (true && decide ((0 : Int) ∈ a.mr)) = (false && _)
    simp [hnm]
  · rw [comp_run h ws 0 (by omega) (by omega) hi]
    show (true && decide (_ ∈ a.mr)) = _
    by_cases hr : (runE a 0 ws).2 = ws.length
    · rw [if_pos hr]
      simp [genB, hz, hr]
    · rw [if_neg hr]
      simp [genB, hr, hnm]
theorem runE_ed {b : Au} (he : a.ed = b.ed) : ∀ (ws : List Int) (q : Int), runE a q ws = runE b q ws
  | [], q => by rw [runE_nil, runE_nil]
  | x :: r, q => by
    have hs : stepO a q x = stepO b q x := by unfold stepO; rw [he]
    cases e : stepO b q x with
    | none => rw [runE_stop (hs.trans e), runE_stop e]
    | some t => rw [runE_go (hs.trans e), runE_go e, runE_ed he r t]
theorem cls_acc (h : RightW a) (ws : List Int) : accB (clsA a) ws = genB a ws := by
  have hr := runE_ed (a := clsA a) (b := canA a) rfl ws 0
  have hg : genB (clsA a) ws = genB a ws := by rw [← gen_can h]; unfold genB; rw [hr]; rfl
  unfold accB
  rw [hg]
  by_cases hz : a.st = 0
  · simp [genB, hz]
  · have h0 := h.st0
    obtain ⟨hm, hi⟩ := zero_fnd h (by omega)
    obtain ⟨h1, h2⟩ := run_can h ws 0 hm
    rw [hi] at h2
    have h3 : (runE (clsA a) 0 ws).1 ∈ (clsA a).mr := by
      rw [hr, show ((0 : Int)) = ((0 : Nat) : Int) from rfl, h2]
      show _ ∈ rng _
      unfold rng
      exact List.mem_map.2 ⟨_, List.mem_range.2 (List.idxOf_lt_length_iff.2 h1), rfl⟩
    simp [h3]
end
end Go.Proofs.Ytcciiikaejjooaa
