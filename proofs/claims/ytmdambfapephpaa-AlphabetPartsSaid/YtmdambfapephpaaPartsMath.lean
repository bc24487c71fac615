/- The parts of an alphabet, as lists of indices. -/
import Derived.Test.YtmdambfapephpaaPartsC
namespace Go.Proofs.Ytmdambfapephpaa
open Go.RowKit

theorem mem_whFrom (p : Ev → Bool) : ∀ (l : List Ev) (i : Nat) (z : Int), z ∈ whFrom p i l ↔ ∃ (k : Nat) (x : Ev), l[k]? = some x ∧ p x = true ∧ z = ((i + k : Nat) : Int)
  | [], i, z => by simp [whFrom]
  | y :: r, i, z => by
    have ih := mem_whFrom p r (i + 1) z
    have key : (∃ (k : Nat) (x : Ev), (y :: r)[k]? = some x ∧ p x = true ∧ z = ((i + k : Nat) : Int)) ↔ (p y = true ∧ z = (i : Int)) ∨ ∃ (k : Nat) (x : Ev), r[k]? = some x ∧ p x = true ∧ z = ((i + 1 + k : Nat) : Int) := by
      constructor
      · rintro ⟨k, x, hx, hp, hz⟩
        cases k with
        | zero => simp at hx; subst hx; exact .inl ⟨hp, by simpa using hz⟩
        | succ k => exact .inr ⟨k, x, by simpa using hx, hp, by rw [hz]; congr 1; omega⟩
      · rintro (⟨hp, hz⟩ | ⟨k, x, hx, hp, hz⟩)
        · exact ⟨0, y, by simp, hp, by simpa using hz⟩
        · exact ⟨k + 1, x, by simpa using hx, hp, by rw [hz]; congr 1; omega⟩
    rw [key, ← ih, whFrom]
    by_cases h : p y = true
    · rw [if_pos h, List.mem_cons]; simp [h]
    · rw [if_neg h]; simp [h]
theorem whFrom_inc (p : Ev → Bool) : ∀ (l : List Ev) (i : Nat), Inc (whFrom p i l)
  | [], i => by simp [whFrom]
  | y :: r, i => by
    rw [whFrom]
    split
    · refine List.pairwise_cons.2 ⟨fun z hz => ?_, whFrom_inc p r (i + 1)⟩
      obtain ⟨k, x, _, _, e⟩ := (mem_whFrom p r (i + 1) z).1 hz
      omega
    · exact whFrom_inc p r (i + 1)
theorem mem_wh {p : Ev → Bool} {l : List Ev} {z : Int} : z ∈ wh p l ↔ ∃ (k : Nat) (x : Ev), l[k]? = some x ∧ p x = true ∧ z = (k : Int) := by
  have := mem_whFrom p l 0 z
  simpa [wh] using this
theorem wh_inc (p : Ev → Bool) (l : List Ev) : Inc (wh p l) := whFrom_inc p l 0
theorem mem_wh_at {p : Ev → Bool} {l : List Ev} {k : Nat} {x : Ev} (hx : l[k]? = some x) : ((k : Int) ∈ wh p l) ↔ p x = true := by
  rw [mem_wh]
  constructor
  · rintro ⟨j, y, hy, hp, e⟩
    have : j = k := by omega
    subst this; rw [hx] at hy; cases hy; exact hp
  · intro h; exact ⟨k, x, hx, h, rfl⟩
theorem un_wh (p q : Ev → Bool) (l : List Ev) : un (wh p l) (wh q l) = wh (fun x => p x || q x) l :=
  sorted_ext _ _ (un_sorted _ _ (wh_inc p l) (wh_inc q l)) (wh_inc _ l) fun z => by
    rw [mem_un]
    constructor
    · rintro (h | h)
      · obtain ⟨k, x, hx, hp, rfl⟩ := mem_wh.1 h; exact (mem_wh_at hx).2 (by simp [hp])
      · obtain ⟨k, x, hx, hp, rfl⟩ := mem_wh.1 h; exact (mem_wh_at hx).2 (by simp [hp])
    · intro h
      obtain ⟨k, x, hx, hp, rfl⟩ := mem_wh.1 h
      rw [Bool.or_eq_true] at hp
      rcases hp with hp | hp
      · exact .inl ((mem_wh_at hx).2 hp)
      · exact .inr ((mem_wh_at hx).2 hp)
theorem inter_wh (p q : Ev → Bool) (l : List Ev) (h : ∀ x ∈ l, p x = true → q x = true → False) : inter (wh p l) (wh q l) = [] := by
  rw [List.filter_eq_nil_iff]
  intro z hz
  obtain ⟨k, x, hx, hp, rfl⟩ := mem_wh.1 hz
  simp only [decide_eq_true_eq]
  intro hq
  exact h x (List.mem_of_getElem? hx) hp ((mem_wh_at hx).1 hq)
theorem wh_congr (p q : Ev → Bool) (l : List Ev) (h : ∀ x ∈ l, p x = q x) : wh p l = wh q l :=
  sorted_ext _ _ (wh_inc p l) (wh_inc q l) fun z => by
    constructor
    · intro hz; obtain ⟨k, x, hx, hp, rfl⟩ := mem_wh.1 hz; exact (mem_wh_at hx).2 (by rw [← h x (List.mem_of_getElem? hx)]; exact hp)
    · intro hz; obtain ⟨k, x, hx, hp, rfl⟩ := mem_wh.1 hz; exact (mem_wh_at hx).2 (by rw [h x (List.mem_of_getElem? hx)]; exact hp)
theorem sub_wh (p q : Ev → Bool) (l : List Ev) (h : ∀ x ∈ l, p x = true → q x = true) : subB (wh p l) (wh q l) = true := by
  unfold subB
  rw [List.all_eq_true]
  intro z hz
  obtain ⟨k, x, hx, hp, rfl⟩ := mem_wh.1 hz
  simpa using (mem_wh_at hx).2 (h x (List.mem_of_getElem? hx) hp)
theorem whFrom_true : ∀ (l : List Ev) (i : Nat), (whFrom (fun _ => true) i l).length = l.length
  | [], i => rfl
  | y :: r, i => by rw [whFrom, if_pos rfl, List.length_cons, whFrom_true r (i + 1), List.length_cons]
theorem un_compl (p q : Ev → Bool) (l : List Ev) (h : ∀ x, (p x || q x) = true) : (un (wh p l) (wh q l)).length = l.length := by
  rw [un_wh, wh_congr _ (fun _ => true) l (fun x _ => h x)]
  exact whFrom_true l 0

theorem chFrom_ok : ∀ (r done : List Ev), chFrom done r = 0 → ∀ x ∈ r, ∃ t, evE x t = 0
  | [], _, _, x, hx => by simp at hx
  | y :: r, done, h, x, hx => by
    rw [chFrom] at h
    by_cases h1 : evE y (fidx done y.name.data.toList).isSome ≠ 0
    · rw [if_pos h1] at h; exact absurd h h1
    · rw [if_neg h1] at h
      rcases List.mem_cons.1 hx with rfl | hx
      · exact ⟨_, Classical.not_not.1 h1⟩
      · exact chFrom_ok r _ h x hx
theorem evE_zero {x : Ev} {t : Bool} (h : evE x t = 0) : 0 ≤ x.fault ∧ x.fault ≤ 4 ∧ (x.fault ≠ 0 → x.con = false ∧ x.obs = false) := by
  unfold evE at h
  by_cases h1 : nameB x.name.data.toList = false
  · rw [if_pos h1] at h; omega
  · rw [if_neg h1] at h
    by_cases h2 : t = true
    · rw [if_pos h2] at h; omega
    · rw [if_neg h2] at h
      by_cases h3 : x.fault < 0 ∨ 4 < x.fault
      · rw [if_pos h3] at h; omega
      · rw [if_neg h3] at h
        by_cases h4 : x.fault ≠ 0 ∧ (x.con = true ∨ x.obs = true)
        · rw [if_pos h4] at h; omega
        · refine ⟨by omega, by omega, fun hf => ?_⟩
          have h5 : ¬ (x.con = true ∨ x.obs = true) := fun h6 => h4 ⟨hf, h6⟩
          rw [not_or] at h5
          simpa using h5
theorem chE_valid {l : List Ev} (h : chE l = 0) : ∀ x ∈ l, 0 ≤ x.fault ∧ x.fault ≤ 4 ∧ (x.fault ≠ 0 → x.con = false ∧ x.obs = false) := by
  intro x hx
  unfold chE at h
  by_cases h1 : 32 < l.length
  · rw [if_pos h1] at h; omega
  · rw [if_neg h1] at h
    obtain ⟨t, ht⟩ := chFrom_ok l [] h x hx
    exact evE_zero ht

def isF (c : Int) (x : Ev) : Bool := decide (x.fault = c)
/-- The faults of the classes before c. -/
def fa (c : Int) (x : Ev) : Bool := decide (1 ≤ x.fault) && decide (x.fault < c)
theorem fa_one (l : List Ev) : wh (fa 1) l = [] := by
  have : wh (fa 1) l = wh (fun _ => false) l := wh_congr _ _ _ fun x _ => by
    unfold fa
    first | (simp; done) | (simp; omega)
  rw [this]
  unfold wh
  suffices ∀ i, whFrom (fun _ => false) i l = [] from this 0
  intro i
  induction l generalizing i with
  | nil => rfl
  | cons y r ih =>
    rw [whFrom, if_neg (by simp)]
    exact ih (by
      refine wh_congr _ _ _ fun x _ => ?_
      unfold fa
      first | (simp; done) | (simp; omega)) (i + 1)
theorem fa_inter (c : Int) (l : List Ev) : inter (wh (fa c) l) (wh (isF c) l) = [] := inter_wh _ _ _ fun x _ h1 h2 => by
  unfold fa at h1; unfold isF at h2; simp at h1 h2; omega
theorem fa_un (c : Int) (l : List Ev) (hc : 1 ≤ c) : un (wh (fa c) l) (wh (isF c) l) = wh (fa (c + 1)) l := by
  rw [un_wh]
  exact wh_congr _ _ _ fun x _ => by
    unfold fa isF
    rw [Bool.eq_iff_iff]; simp; omega
theorem fa_five {l : List Ev} (h : chE l = 0) : wh (fa 5) l = wh (kindP 6) l := wh_congr _ _ _ fun x hx => by
  have := chE_valid h x hx
  unfold fa kindP
  simp
  rw [Bool.eq_iff_iff]; simp; omega
theorem k12 (x : Ev) : (kindP 1 x || kindP 2 x) = true := by unfold kindP; cases x.con <;> simp
theorem k34 (x : Ev) : (kindP 3 x || kindP 4 x) = true := by unfold kindP; cases x.obs <;> simp
theorem i12 (l : List Ev) : inter (wh (kindP 1) l) (wh (kindP 2) l) = [] := inter_wh _ _ _ fun x _ h1 h2 => by unfold kindP at h1 h2; simp at h1 h2; rw [h1] at h2; simp at h2
theorem i34 (l : List Ev) : inter (wh (kindP 3) l) (wh (kindP 4) l) = [] := inter_wh _ _ _ fun x _ h1 h2 => by unfold kindP at h1 h2; simp at h1 h2; rw [h1] at h2; simp at h2
theorem s62 {l : List Ev} (h : chE l = 0) : subB (wh (kindP 6) l) (wh (kindP 2) l) = true := sub_wh _ _ _ fun x hx h1 => by
  have := chE_valid h x hx
  unfold kindP at *
  simp at *
  exact (this.2.2 h1).1
theorem s64 {l : List Ev} (h : chE l = 0) : subB (wh (kindP 6) l) (wh (kindP 4) l) = true := sub_wh _ _ _ fun x hx h1 => by
  have := chE_valid h x hx
  unfold kindP at *
  simp at *
  exact (this.2.2 h1).2
end Go.Proofs.Ytmdambfapephpaa
