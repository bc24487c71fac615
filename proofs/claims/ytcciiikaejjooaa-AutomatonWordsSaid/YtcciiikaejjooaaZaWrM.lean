/- Layer 3, the mathematics of the words of the reference: how many there are at most, where they lead. -/
import Derived.Test.YtcciiikaejjooaaZa7
import Derived.Test.YtcciiikaejjooaaZa8
namespace Go.Proofs.Ytcciiikaejjooaa
open Go.RowKit Go.Sort

/-- How many words go on from one at most, if r further events may follow and there are five events. -/
def cst : Nat → Nat
  | 0 => 0
  | r + 1 => 5 * (1 + cst r)
theorem cst_mono (r : Nat) : cst r ≤ cst (r + 1) := by
  induction r with
  | zero => simp [cst]
  | succ r ih => rw [cst, cst.eq_2 (r + 1)]; omega
/-- What may still come of the words from the i-th on. -/
def rst (m : Nat) (L : List (List Int × Int)) (i : Nat) : Nat := ((L.drop i).map fun p => cst (m - p.1.length)).sum
theorem rst_step {m : Nat} {L : List (List Int × Int)} {i : Nat} (h : i < L.length) : rst m L i = cst (m - (L.getD i ([], 0)).1.length) + rst m L (i + 1) := by
  unfold rst
  rw [List.drop_eq_getElem_cons h, List.map_cons, List.sum_cons]
  simp only [List.getD, List.getElem?_eq_getElem h, Option.getD_some]
theorem rst_app {m : Nat} {L R : List (List Int × Int)} {i : Nat} (h : i ≤ L.length) : rst m (L ++ R) i = rst m L i + (R.map fun p => cst (m - p.1.length)).sum := by
  unfold rst
  rw [List.drop_append_of_le_length h, List.map_append, List.sum_append]
theorem ext_sum (a : Au) (m : Nat) (p : List Int × Int) : ((extW a p).map fun q => cst (m - q.1.length)).sum = (extW a p).length * cst (m - (p.1.length + 1)) := by
  unfold extW
  rw [List.map_map, List.length_map]
  induction succ a.ed p.2 with
  | nil => simp
  | cons x l ih => simp only [List.map_cons, List.sum_cons, ih, List.length_cons, Function.comp_apply, List.length_append, List.length_nil, Nat.zero_add]; rw [Nat.add_mul]; omega
theorem ext_len {a : Au} (h : RightW a) (h5 : a.al.length ≤ 5) (p : List Int × Int) : (extW a p).length ≤ 5 := by
  unfold extW
  rw [List.length_map, succ_eq h]
  exact Nat.le_trans (List.length_filterMap_le _ _) h5
/-- All words are found. -/
theorem genF_some {a : Au} (h : RightW a) (h5 : a.al.length ≤ 5) (m : Nat) : ∀ (f i : Nat) (L : List (List Int × Int)), i ≤ L.length → L.length + rst m L i ≤ 1024 → L.length + rst m L i < f + i → ∃ R, genF a (m : Int) f i L = some R ∧ R.length ≤ 1024
  | 0, i, L, hi, h1, h2 => by omega
  | f + 1, i, L, hi, h1, h2 => by
    rw [genF]
    by_cases hc : i < L.length ∧ ((L.getD i ([], 0)).1.length : Int) < (m : Int)
    · rw [if_pos hc]
      obtain ⟨p, hp⟩ : ∃ p, p = L.getD i ([], 0) := ⟨_, rfl⟩
      have hs := rst_step (m := m) hc.1
      rw [← hp] at hc hs ⊢
      have hlt : p.1.length < m := by omega
      obtain ⟨r, hr⟩ : ∃ r, m - p.1.length = r + 1 := ⟨m - p.1.length - 1, by omega⟩
      have hr2 : m - (p.1.length + 1) = r := by omega
      have hx := ext_len h h5 p
      have hes := ext_sum a m p
      rw [hr2] at hes
      rw [hr, cst] at hs
      have hmul : (extW a p).length * cst r ≤ 5 * cst r := Nat.mul_le_mul_right _ hx
      have ha : rst m (L ++ extW a p) (i + 1) = rst m L (i + 1) + (extW a p).length * cst r := by rw [rst_app (by omega), hes]
      have hl : (L ++ extW a p).length = L.length + (extW a p).length := List.length_append
      have hd : 5 * (1 + cst r) = 5 + 5 * cst r := by omega
      rw [if_neg (by omega)]
      exact genF_some h h5 m f (i + 1) (L ++ extW a p) (by omega) (by omega) (by omega)
    · rw [if_neg hc]
      exact ⟨L, rfl, by omega⟩
theorem genO_some {a : Au} (h : RightW a) (h5 : a.al.length ≤ 5) {m : Nat} (hm : m ≤ 4) : ∃ R, genO a (m : Int) = some R ∧ R.length ≤ 1024 := by
  unfold genO
  by_cases h0 : a.st = 0
  · rw [if_pos h0]; exact ⟨[], rfl, by simp⟩
  · rw [if_neg h0]
    have hc : cst m ≤ 780 := by
      have h4 : cst 4 = 780 := by decide
      match m, hm with
      | 0, _ => decide
      | 1, _ => decide
      | 2, _ => decide
      | 3, _ => decide
      | 4, _ => decide
    have hr : rst m [(([] : List Int), (0 : Int))] 0 = cst m := by simp [rst]
    exact genF_some h h5 m 1026 0 [([], 0)] (by simp) (by rw [hr]; simp; omega) (by rw [hr]; simp; omega)
theorem runE_snoc {a : Au} : ∀ (ws : List Int) (q t u ev : Int), runE a q ws = (t, ws.length) → stepO a t ev = some u → runE a q (ws ++ [ev]) = (u, (ws ++ [ev]).length)
  | [], q, t, u, ev, h, hs => by
    rw [runE_nil] at h
    obtain rfl : q = t := (Prod.mk.inj h).1
    rw [List.nil_append, runE_go hs, runE_nil]; rfl
  | x :: r, q, t, u, ev, h, hs => by
    cases e : stepO a q x with
    | none => rw [runE_stop e] at h; simp at h
    | some v =>
      rw [runE_go e] at h
      have h1 : runE a v r = (t, r.length) := by
        rw [Prod.mk.injEq] at h ⊢
        exact ⟨h.1, by have := h.2; simp at this; exact this⟩
      have := runE_snoc r v t u ev h1 hs
      rw [List.cons_append, runE_go e, this]; simp
/-- Each word leads to its state. -/
def Leads (a : Au) (L : List (List Int × Int)) : Prop := ∀ p ∈ L, runE a 0 p.1 = (p.2, p.1.length)
theorem leads_ext {a : Au} (h : RightW a) {p : List Int × Int} (hp : runE a 0 p.1 = (p.2, p.1.length)) : Leads a (extW a p) := fun q hq => by
  obtain ⟨x, hx, rfl⟩ := List.mem_map.1 hq
  obtain ⟨hx1, hx2⟩ := mem_succ.1 hx
  refine runE_snoc _ _ _ _ _ hp (stepO_some ((edgeO_some h.edo).2 ⟨hx1, hx2, rfl⟩))
theorem leads_app {a : Au} {L R : List (List Int × Int)} (h1 : Leads a L) (h2 : Leads a R) : Leads a (L ++ R) := fun p hp => by
  rcases List.mem_append.1 hp with hp | hp
  · exact h1 p hp
  · exact h2 p hp
theorem leads_gen {a : Au} (h : RightW a) (most : Int) : ∀ (f i : Nat) (L R : List (List Int × Int)), Leads a L → genF a most f i L = some R → Leads a R
  | 0, i, L, R, _, hR => by rw [genF] at hR; cases hR
  | f + 1, i, L, R, hL, hR => by
    rw [genF] at hR
    split at hR
    · rename_i hc
      split at hR
      · cases hR
      · have hm := getD_memP hc.1
        exact leads_gen h most f (i + 1) _ R (leads_app hL (leads_ext h (hL _ hm))) hR
    · injection hR with hR; subst hR; exact hL
theorem leads_genO {a : Au} (h : RightW a) {most : Int} {R : List (List Int × Int)} (hR : genO a most = some R) : Leads a R := by
  unfold genO at hR
  split at hR
  · injection hR with hR; subst hR; intro p hp; simp at hp
  · exact leads_gen h most _ _ _ _ (fun p hp => by rw [List.mem_singleton] at hp; subst hp; rw [runE_nil]; rfl) hR
theorem acc_leads {a : Au} {L : List (List Int × Int)} (h : Leads a L) {p : List Int × Int} (hp : p ∈ L) (h0 : a.st ≠ 0) : accB a p.1 = decide (p.2 ∈ a.mr) := by
  unfold accB genB
  rw [h p hp]; simp [h0]
/-- The marked words are the accepted ones. -/
theorem sel_acc {a : Au} {L : List (List Int × Int)} (h : Leads a L) (h0 : a.st ≠ 0) : selL a.mr true L = (L.map Prod.fst).filter fun w => accB a w := by
  unfold selL
  rw [List.filter_map]
  congr 1
  refine List.filter_congr fun p hp => ?_
  rw [Function.comp_apply, acc_leads h hp h0]; simp
theorem sel_all (mr : List Int) (L : List (List Int × Int)) : selL mr false L = L.map Prod.fst := by
  unfold selL
  rw [List.filter_eq_self.2]; simp
theorem sel_acc' {a : Au} {most : Int} {L : List (List Int × Int)} (h : RightW a) (hL : genO a most = some L) : selL a.mr true L = (L.map Prod.fst).filter fun w => accB a w := by
  by_cases h0 : a.st = 0
  · rw [genO, if_pos h0] at hL; injection hL with hL; subst hL; rfl
  · exact sel_acc (leads_genO h hL) h0
theorem ext_en {a : Au} (h : RightW a) (p : List Int × Int) : (extW a p).map Prod.fst = (enI a p.2).map fun ev => p.1 ++ [ev] := by
  rw [← en_eq h]; unfold extW; rw [List.map_map, List.map_map]; rfl
end Go.Proofs.Ytcciiikaejjooaa
