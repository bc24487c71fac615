/- Layer 3, the mathematics of the canonical form. -/
import Derived.Test.YtcciiikaejjooaaaStarts
namespace Go.Proofs.Ytcciiikaejjooaa
open Go.RowKit

/-- Two lists that are increasing in one order and have the same elements are one. -/
theorem sorted_ext {α : Type} {r : α → α → Prop} (hi : ∀ x, ¬ r x x) (ht : ∀ x y z, r x y → r y z → r x z) : ∀ (a b : List α), a.Pairwise r → b.Pairwise r → (∀ x, x ∈ a ↔ x ∈ b) → a = b
  | [], [], _, _, _ => rfl
  | [], y :: b, _, _, h => absurd ((h y).2 (by simp)) (by simp)
  | x :: a, [], _, _, h => absurd ((h x).1 (by simp)) (by simp)
  | x :: a, y :: b, ha, hb, h => by
    rw [List.pairwise_cons] at ha hb
    have hxy : x = y := by
      rcases List.mem_cons.1 ((h x).1 (by simp)) with e | h1
      · exact e
      · rcases List.mem_cons.1 ((h y).2 (by simp)) with e | h2
        · exact e.symm
        · exact absurd (ht _ _ _ (ha.1 y h2) (hb.1 x h1)) (hi x)
    subst hxy
    have : a = b := sorted_ext hi ht a b ha.2 hb.2 fun z => by
      constructor
      · intro hz
        rcases List.mem_cons.1 ((h z).1 (by simp [hz])) with e | h1
        · subst e; exact absurd (ha.1 z hz) (hi z)
        · exact h1
      · intro hz
        rcases List.mem_cons.1 ((h z).2 (by simp [hz])) with e | h1
        · subst e; exact absurd (hb.1 z hz) (hi z)
        · exact h1
    rw [this]

/-- The edges of a state, in order. -/
def succ (l : List Ed) (q : Int) : List Ed := l.filter fun x => decide (x.f = q)
theorem mem_succ {l : List Ed} {q : Int} {x : Ed} : x ∈ succ l q ↔ x ∈ l ∧ x.f = q := by simp [succ]
theorem succ_sorted {l : List Ed} (h : l.Pairwise ltE) (q : Int) : (succ l q).Pairwise fun x y => x.e < y.e := by
  have h1 : (succ l q).Pairwise ltE := h.sublist List.filter_sublist
  refine h1.imp_of_mem fun hx hy hlt => ?_
  rw [mem_succ] at hx hy
  unfold ltE at hlt; omega
theorem succ_eq {a : Au} (h : RightW a) (q : Int) : succ a.ed q = a.al.filterMap (edgeO a.ed q) := by
  refine sorted_ext (r := fun x y : Ed => x.e < y.e) (fun x => by omega) (fun x y z h1 h2 => by omega) _ _ (succ_sorted h.edo q) ?_ fun x => ?_
  · rw [List.pairwise_filterMap]
    refine h.alo.imp fun hlt y hy z hz => ?_
    rw [edgeO_some h.edo] at hy hz
    omega
  · rw [mem_succ, List.mem_filterMap]
    constructor
    · rintro ⟨h1, h2⟩
      exact ⟨x.e, (h.edr x h1).2.2, (edgeO_some h.edo).2 ⟨h1, h2, rfl⟩⟩
    · rintro ⟨ev, _, h2⟩
      have := (edgeO_some h.edo).1 h2
      exact ⟨this.1, this.2.1⟩
theorem split_f : ∀ (l : List Ed) (q : Int), l.Pairwise (fun x y => x.f ≤ y.f) → l = l.filter (fun x => decide (x.f < q)) ++ l.filter (fun x => decide (¬ x.f < q))
  | [], q, _ => rfl
  | x :: l, q, h => by
    rw [List.pairwise_cons] at h
    by_cases hx : x.f < q
    · have := split_f l q h.2
      simp only [List.filter_cons, hx, decide_true, if_true, not_true, decide_false, if_false, List.cons_append]
      simp only [Bool.false_eq_true, if_false]
      exact congrArg _ this
    · have e1 : l.filter (fun x => decide (x.f < q)) = [] := by
        rw [List.filter_eq_nil_iff]; intro y hy; have := h.1 y hy; simp; omega
      have e2 : l.filter (fun x => decide (¬ x.f < q)) = l := by
        rw [List.filter_eq_self]; intro y hy; have := h.1 y hy; simp; omega
      simp only [List.filter_cons, hx, decide_false, not_false_iff, decide_true, if_true, e1, e2]
      simp
theorem le_of_ltE {l : List Ed} (h : l.Pairwise ltE) : l.Pairwise (fun x y => x.f ≤ y.f) := h.imp fun h => by unfold ltE at h; omega
/-- The edges between two starts are those of the state. -/
theorem slice_succ {l : List Ed} (h : l.Pairwise ltE) (q : Nat) : (l.drop (startN l q)).take (startN l (q + 1) - startN l q) = succ l (q : Int) := by
  have h1 := split_f l (q : Int) (le_of_ltE h)
  have e1 : (l.filter fun x => decide (x.f < (q : Int))).length = startN l q := by rw [startN, List.countP_eq_length_filter]
  have e2 : l.drop (startN l q) = l.filter fun x => decide (¬ x.f < (q : Int)) := by
    exact (congrArg (List.drop (startN l q)) h1).trans (by rw [← e1, List.drop_left])
  have h3 : (l.filter fun x => decide (¬ x.f < (q : Int))).Pairwise (fun x y => x.f ≤ y.f) := (le_of_ltE h).sublist List.filter_sublist
  have h4 := split_f _ ((q + 1 : Nat) : Int) h3
  have e3 : ((l.filter fun x => decide (¬ x.f < (q : Int))).filter fun x => decide (x.f < ((q + 1 : Nat) : Int))) = succ l q := by
    rw [List.filter_filter, succ]
    apply List.filter_congr
    intro x _
    rw [Bool.eq_iff_iff]; simp; omega
  have e4 : startN l (q + 1) - startN l q = (succ l q).length := by
    rw [startN_succ, fromN, succ, List.countP_eq_length_filter]
    have : (l.filter fun x => decide (x.f + 1 = ((q + 1 : Nat) : Int))) = l.filter fun x => decide (x.f = (q : Int)) := by
      apply List.filter_congr; intro x _; rw [Bool.eq_iff_iff]; simp
    rw [this, Nat.add_sub_cancel_left]
  rw [e2, h4, e3, e4, List.take_left]

/-- A state that is found. -/
def visit (fl : List Int) (t : Int) : List Int := if t ∈ fl then fl else fl ++ [t]
def visitL (fl : List Int) (l : List Ed) : List Int := l.foldl (fun fl x => visit fl x.t) fl
theorem visit_pre (fl : List Int) (t : Int) : fl <+: visit fl t := by
  unfold visit; split
  · exact List.prefix_rfl
  · exact List.prefix_append _ _
theorem mem_visit {fl : List Int} {t x : Int} : x ∈ visit fl t ↔ x ∈ fl ∨ x = t := by
  unfold visit; split
  · next h => exact ⟨Or.inl, fun h' => h'.elim id fun e => e ▸ h⟩
  · simp
theorem visitL_nil (fl : List Int) : visitL fl [] = fl := rfl
theorem visitL_cons (fl : List Int) (x : Ed) (l : List Ed) : visitL fl (x :: l) = visitL (visit fl x.t) l := rfl
theorem visitL_snoc (fl : List Int) (x : Ed) (l : List Ed) : visitL fl (l ++ [x]) = visit (visitL fl l) x.t := by simp [visitL]
theorem visitL_app (fl : List Int) (l r : List Ed) : visitL fl (l ++ r) = visitL (visitL fl l) r := by simp [visitL]
theorem visitL_pre : ∀ (l : List Ed) (fl : List Int), fl <+: visitL fl l
  | [], fl => List.prefix_rfl
  | x :: l, fl => by rw [visitL_cons]; exact (visit_pre fl x.t).trans (visitL_pre l _)
theorem mem_visitL : ∀ (l : List Ed) (fl : List Int) (q : Int), q ∈ visitL fl l ↔ q ∈ fl ∨ ∃ x ∈ l, x.t = q
  | [], fl, q => by simp [visitL_nil]
  | x :: l, fl, q => by
    rw [visitL_cons, mem_visitL l, mem_visit]
    simp only [List.mem_cons, exists_eq_or_imp]
    constructor
    · rintro ((h | h) | h)
      · exact .inl h
      · exact .inr (.inl h.symm)
      · exact .inr (.inr h)
    · rintro (h | h | h)
      · exact .inl (.inl h)
      · exact .inl (.inr h.symm)
      · exact .inr h
theorem visit_nodup {fl : List Int} (h : fl.Nodup) (t : Int) : (visit fl t).Nodup := by
  unfold visit; split
  · exact h
  · next hn => rw [List.nodup_append]; exact ⟨h, by simp, fun x hx y hy => by simp at hy; subst hy; rintro rfl; exact hn hx⟩
theorem visitL_nodup : ∀ (l : List Ed) {fl : List Int}, fl.Nodup → (visitL fl l).Nodup
  | [], _, h => h
  | x :: l, fl, h => by rw [visitL_cons]; exact visitL_nodup l (visit_nodup h x.t)

/-- What is found when the first n of the found states are done. -/
def Fd (a : Au) : Nat → List Int
  | 0 => [0]
  | n + 1 => if n < (Fd a n).length then visitL (Fd a n) (succ a.ed ((Fd a n).getD n 0)) else Fd a n
theorem Fd_go {a : Au} {n : Nat} (h : n < (Fd a n).length) : Fd a (n + 1) = visitL (Fd a n) (succ a.ed ((Fd a n).getD n 0)) := by rw [Fd, if_pos h]
theorem Fd_stop {a : Au} {n : Nat} (h : ¬ n < (Fd a n).length) : Fd a (n + 1) = Fd a n := by rw [Fd, if_neg h]
theorem Fd_pre (a : Au) (n : Nat) : Fd a n <+: Fd a (n + 1) := by
  by_cases h : n < (Fd a n).length
  · rw [Fd_go h]; exact visitL_pre _ _
  · rw [Fd_stop h]; exact List.prefix_rfl
theorem Fd_mono (a : Au) (n : Nat) : ∀ m, Fd a n <+: Fd a (n + m)
  | 0 => List.prefix_rfl
  | m + 1 => (Fd_mono a n m).trans (Fd_pre a (n + m))
theorem Fd_mono' {a : Au} {n m : Nat} (h : n ≤ m) : Fd a n <+: Fd a m := by
  obtain ⟨d, rfl⟩ : ∃ d, m = n + d := ⟨m - n, by omega⟩
  exact Fd_mono a n d
theorem Fd_nodup (a : Au) : ∀ n, (Fd a n).Nodup
  | 0 => by simp [Fd]
  | n + 1 => by
    by_cases h : n < (Fd a n).length
    · rw [Fd_go h]; exact visitL_nodup _ (Fd_nodup a n)
    · rw [Fd_stop h]; exact Fd_nodup a n
theorem Fd_range {a : Au} (h : RightW a) (h0 : 0 < a.st) : ∀ n, ∀ x ∈ Fd a n, 0 ≤ x ∧ x < a.st
  | 0, x, hx => by simp [Fd] at hx; omega
  | n + 1, x, hx => by
    by_cases hn : n < (Fd a n).length
    · rw [Fd_go hn, mem_visitL] at hx
      rcases hx with hx | ⟨y, hy, rfl⟩
      · exact Fd_range h h0 n x hx
      · exact (h.edr y (mem_succ.1 hy).1).2.1
    · rw [Fd_stop hn] at hx; exact Fd_range h h0 n x hx
/-- A list without repetition whose elements lie in a range is no longer than that. -/
theorem nodup_len {S : Nat} {l : List Int} (hd : l.Nodup) (h : ∀ x ∈ l, 0 ≤ x ∧ x < (S : Int)) : l.length ≤ S := by
  have h1 : (l.map Int.toNat).Nodup := by
    rw [List.nodup_iff_pairwise_ne, List.pairwise_map]
    exact (List.nodup_iff_pairwise_ne.1 hd).imp_of_mem fun hx hy hne e => hne (by have := h _ hx; have := h _ hy; omega)
  have h2 : (l.map Int.toNat) ⊆ List.range S := fun x hx => by
    obtain ⟨y, hy, rfl⟩ := List.mem_map.1 hx
    have := h y hy
    simp; omega
  have := h1.length_le_of_subset h2
  simpa using this
theorem Fd_len {a : Au} (h : RightW a) (h0 : 0 < a.st) (n : Nat) : (Fd a n).length ≤ a.st.toNat :=
  nodup_len (Fd_nodup a n) fun x hx => by have := Fd_range h h0 n x hx; omega
theorem Fd_still {a : Au} {n : Nat} (h : (Fd a n).length ≤ n) : ∀ m, Fd a (n + m) = Fd a n
  | 0 => rfl
  | m + 1 => by
    have ih := Fd_still h m
    rw [← Nat.add_assoc, Fd_stop (by rw [ih]; omega), ih]
/-- All states that are found, in order. -/
def fnd (a : Au) : List Int := if a.st ≤ 0 then [] else Fd a a.st.toNat
theorem fnd_pos {a : Au} (h : 0 < a.st) : fnd a = Fd a a.st.toNat := by rw [fnd, if_neg (by omega)]
theorem fnd_at {a : Au} (h : RightW a) (h0 : 0 < a.st) {n : Nat} (hn : (Fd a n).length ≤ n) (hs : n ≤ a.st.toNat) : fnd a = Fd a n := by
  rw [fnd_pos h0]
  obtain ⟨d, hd⟩ : ∃ d, a.st.toNat = n + d := ⟨a.st.toNat - n, by omega⟩
  rw [hd, Fd_still hn]
theorem Fd_fnd {a : Au} (h : RightW a) (h0 : 0 < a.st) (n : Nat) : Fd a n <+: fnd a := by
  rw [fnd_pos h0]
  by_cases hn : n ≤ a.st.toNat
  · exact Fd_mono' hn
  · have := Fd_still (a := a) (n := a.st.toNat) (Fd_len h h0 _) (n - a.st.toNat)
    rw [← this]
    rw [show a.st.toNat + (n - a.st.toNat) = n by omega]; exact List.prefix_rfl
theorem fnd_nodup (a : Au) : (fnd a).Nodup := by
  unfold fnd; split
  · exact List.nodup_nil
  · exact Fd_nodup _ _
theorem fnd_range {a : Au} (h : RightW a) : ∀ x ∈ fnd a, 0 ≤ x ∧ x < a.st := by
  by_cases h0 : 0 < a.st
  · rw [fnd_pos h0]; exact Fd_range h h0 _
  · rw [fnd, if_pos (by omega)]; simp
theorem fnd_len {a : Au} (h : RightW a) : (fnd a).length ≤ a.st.toNat := nodup_len (fnd_nodup a) fun x hx => by have := fnd_range h x hx; omega
theorem idx_pre {l r : List Int} (h : l <+: r) {x : Int} (hx : x ∈ l) : r.idxOf x = l.idxOf x := by
  obtain ⟨t, rfl⟩ := h
  rw [List.idxOf_append, if_pos hx]
theorem getD_pre {l r : List Int} (h : l <+: r) {i : Nat} (hi : i < l.length) : r.getD i 0 = l.getD i 0 := by
  obtain ⟨t, rfl⟩ := h
  simp [List.getD, List.getElem?_append_left hi]

/-- The edges of the canonical form that leave its state n. -/
def outE (a : Au) (fl : List Int) (n : Nat) : List Ed := (succ a.ed (fl.getD n 0)).map fun x => ⟨(n : Int), x.e, (fl.idxOf x.t : Int)⟩
def canEn (a : Au) (n : Nat) : List Ed := (List.range n).flatMap (outE a (fnd a))
def canM (a : Au) : List Int := ((List.range (fnd a).length).filter fun i => decide ((fnd a).getD i 0 ∈ a.mr)).map fun (i : Nat) => (i : Int)
/-- The canonical form. -/
def canA (a : Au) : Au := ⟨a.al, ((fnd a).length : Int), canM a, canEn a (fnd a).length⟩
theorem canEn_succ (a : Au) (n : Nat) : canEn a (n + 1) = canEn a n ++ outE a (fnd a) n := by simp [canEn, List.range_succ]
theorem sum_one (x : Int) : ∀ qs : List Int, qs.Nodup → (qs.map fun q => if x = q then 1 else 0).sum ≤ 1
  | [], _ => by simp
  | q :: qs, h => by
    rw [List.nodup_cons] at h
    by_cases e : x = q
    · have : (qs.map fun q => if x = q then 1 else 0) = qs.map fun _ => 0 := List.map_congr_left fun y hy => by rw [if_neg]; rintro rfl; exact h.1 (e ▸ hy)
      simp only [List.map_cons, List.sum_cons, if_pos e, this]
      have h0 : ∀ l : List Int, (l.map fun _ => (0 : Nat)).sum = 0 := fun l => by induction l <;> simp_all
      rw [h0]; exact Nat.le_refl _
    · simp only [List.map_cons, List.sum_cons, if_neg e, Nat.zero_add]; exact sum_one x qs h.2
theorem sum_map_add' (f g : Int → Nat) : ∀ qs : List Int, (qs.map fun q => f q + g q).sum = (qs.map f).sum + (qs.map g).sum
  | [] => rfl
  | q :: qs => by simp only [List.map_cons, List.sum_cons, sum_map_add' f g qs]; omega
theorem sum_cnt : ∀ (l : List Ed) (qs : List Int), qs.Nodup → (qs.map fun q => (succ l q).length).sum ≤ l.length
  | [], qs, _ => by
    have h0 : ∀ l : List Int, (l.map fun q => (succ [] q).length).sum = 0 := fun l => by induction l <;> simp_all [succ]
    rw [h0]; exact Nat.le_refl _
  | x :: l, qs, h => by
    have e : (fun q => (succ (x :: l) q).length) = fun q => (succ l q).length + if x.f = q then 1 else 0 := by
      funext q; unfold succ; rw [List.filter_cons]; by_cases hq : x.f = q <;> simp [hq]
    rw [e, sum_map_add']
    have := sum_cnt l qs h
    have := sum_one x.f qs h
    simp only [List.length_cons]; omega
theorem canEn_len (a : Au) {n : Nat} (hn : n ≤ (fnd a).length) : (canEn a n).length ≤ a.ed.length := by
  have h1 : (canEn a n).length = (((fnd a).take n).map fun q => (succ a.ed q).length).sum := by
    unfold canEn
    rw [List.length_flatMap]
    congr 1
    apply List.ext_getElem
    · simp; omega
    · intro i h1 h2
      have : i < (fnd a).length := by simp at h1; omega
      simp [outE, List.getD, List.getElem?_eq_getElem this]
  rw [h1]
  exact sum_cnt a.ed _ ((fnd_nodup a).sublist (List.take_sublist _ _))
end Go.Proofs.Ytcciiikaejjooaa
