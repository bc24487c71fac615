/- The math of texts of words: names between blanks; what is parsed of them. -/
import Derived.Test.YtdccmebkoibkhaaWparse
namespace Go.Proofs.Ytdccmebkoibkhaa
open Go.RowKit

/-- Names, each behind a blank. -/
def tl : List (List UInt8) → List UInt8
  | [] => []
  | x :: r => 32 :: (x ++ tl r)
/-- Names between blanks. -/
def jn : List (List UInt8) → List UInt8
  | [] => []
  | x :: r => x ++ tl r
theorem tl_snoc (xs : List (List UInt8)) (y : List UInt8) : tl (xs ++ [y]) = tl xs ++ 32 :: y := by
  induction xs with
  | nil => simp [tl]
  | cons x r ih => simp [tl, ih]
theorem jn_snoc (xs : List (List UInt8)) (y : List UInt8) (h : xs ≠ []) : jn (xs ++ [y]) = jn xs ++ 32 :: y := by
  cases xs with
  | nil => exact absurd rfl h
  | cons x r => simp [jn, tl_snoc]
theorem jn_one (y : List UInt8) : jn [y] = y := by simp [jn, tl]
/-- A name: not empty, and without a blank. -/
def Nm (x : List UInt8) : Prop := x ≠ [] ∧ ∀ b ∈ x, b ≠ 32
theorem takeWhile_name {x r : List UInt8} (h : ∀ b ∈ x, b ≠ 32) (hr : r = [] ∨ ∃ t, r = 32 :: t) : (x ++ r).takeWhile (· != 32) = x := by
  induction x with
  | nil =>
    rcases hr with rfl | ⟨t, rfl⟩
    · rfl
    · rw [List.nil_append, List.takeWhile_cons]; rfl
  | cons b x ih =>
    rw [List.cons_append, List.takeWhile_cons, if_pos (by simpa using h b (by simp)), ih (fun c hc => h c (by simp [hc]))]
theorem tl_form (r : List (List UInt8)) : tl r = [] ∨ ∃ t, tl r = 32 :: t := by
  cases r with
  | nil => exact .inl rfl
  | cons x r => exact .inr ⟨x ++ tl r, rfl⟩
theorem takeWhile_blank {x r : List UInt8} (h : Nm x) : (x ++ r).takeWhile (· == 32) = [] := by
  obtain ⟨h0, h1⟩ := h
  cases x with
  | nil => exact absurd rfl h0
  | cons b x =>
    rw [List.cons_append, List.takeWhile_cons, if_neg (by simpa using h1 b (by simp))]
/-- What the next part is where names are left. -/
theorem pt_name {s : List UInt8} {pos : Nat} {x : List UInt8} {r : List (List UInt8)} (hx : Nm x) (h : s.drop pos = x ++ tl r) : ptS s pos = pos ∧ ptE s pos = pos + x.length ∧ partZ s pos = x ∧ s.drop (pos + x.length) = tl r := by
  have e1 : ptS s pos = pos := by unfold ptS skN; rw [h, takeWhile_blank hx]; rfl
  have e2 : stN (s.drop pos) = x.length := by unfold stN; rw [h, takeWhile_name hx.2 (tl_form r)]
  refine ⟨e1, by unfold ptE; rw [e1, e2], by unfold partZ; rw [e2, h]; simp, ?_⟩
  rw [← List.drop_drop, h]; simp
theorem pt_next {s : List UInt8} {pos : Nat} {x : List UInt8} {r : List (List UInt8)} (hx : Nm x) (h : s.drop pos = 32 :: (x ++ tl r)) : ptS s pos = pos + 1 ∧ ptE s pos = pos + 1 + x.length ∧ partZ s (pos + 1) = x ∧ s.drop (pos + 1 + x.length) = tl r := by
  have hd : s.drop (pos + 1) = x ++ tl r := by rw [← List.drop_drop, h]; rfl
  obtain ⟨a1, a2, a3, a4⟩ := pt_name hx hd
  have e1 : ptS s pos = pos + 1 := by
    unfold ptS skN
    rw [h, List.takeWhile_cons, if_pos (by rfl), List.length_cons, takeWhile_blank hx]; rfl
  have e2 : stN (s.drop (pos + 1)) = x.length := by unfold stN; rw [hd, takeWhile_name hx.2 (tl_form r)]
  exact ⟨e1, by unfold ptE; rw [e1, e2], a3, a4⟩
theorem pt_over {s : List UInt8} {pos : Nat} (h : s.drop pos = []) : ptE s pos ≤ ptS s pos := by
  unfold ptE ptS skN stN
  rw [h]
  simp
  have : s.length ≤ pos := by
    have := congrArg List.length h
    rw [List.length_drop] at this
    simp at this; omega
  rw [List.drop_of_length_le (by omega)]
  exact Nat.le_refl _
/-- The names of a word. -/
def nms (l : List Ev) (w : List Int) : List (List UInt8) := w.map fun i => ((l.getD i.toNat ⟨ByteArray.empty, false, false, false, 0⟩).name.data.toList)
theorem pz_tl {l : List Ev} {s : List UInt8} (hf : ∀ i : Nat, i < l.length → fndZ l (l.getD i ⟨ByteArray.empty, false, false, false, 0⟩).name.data.toList = (i : Int)) (hnm : ∀ i : Nat, i < l.length → Nm (l.getD i ⟨ByteArray.empty, false, false, false, 0⟩).name.data.toList) :
    ∀ (w : List Int) (m pos : Nat) (acc : List Int), (∀ i ∈ w, 0 ≤ i ∧ i < (l.length : Int)) → s.drop pos = tl (nms l w) → w.length < m → acc.length + w.length < 4096 → pz l s m pos acc = ⟨acc ++ w, 0, 0⟩ := by
  intro w
  induction w with
  | nil =>
    intro m pos acc _ h hm _
    obtain ⟨m', rfl⟩ : ∃ m', m = m' + 1 := ⟨m - 1, by simp at hm; omega⟩
    rw [pz, if_pos (pt_over h)]; simp
  | cons i w ih =>
    intro m pos acc hw h hm hl
    obtain ⟨m', rfl⟩ : ∃ m', m = m' + 1 := ⟨m - 1, by simp at hm; omega⟩
    obtain ⟨h0, h1⟩ := hw i (by simp)
    have hx := hnm i.toNat (by omega)
    obtain ⟨a1, a2, a3, a4⟩ := pt_next hx h
    have hp : 0 < (l.getD i.toNat ⟨ByteArray.empty, false, false, false, 0⟩).name.data.toList.length := by
      have := hx.1
      exact List.length_pos_iff.2 this
    simp only [List.length_cons] at hl hm
    rw [pz, if_neg (by rw [a1, a2]; omega), if_neg (by omega), a1, a2, a3, hf i.toNat (by omega), if_neg (by omega), ih m' _ _ (fun j hj => hw j (by simp [hj])) a4 (by omega) (by simp; omega), show ((i.toNat : Nat) : Int) = i from by omega]
    simp
theorem pz_jn {l : List Ev} {s : List UInt8} (hf : ∀ i : Nat, i < l.length → fndZ l (l.getD i ⟨ByteArray.empty, false, false, false, 0⟩).name.data.toList = (i : Int)) (hnm : ∀ i : Nat, i < l.length → Nm (l.getD i ⟨ByteArray.empty, false, false, false, 0⟩).name.data.toList)
    (w : List Int) (m : Nat) (hw : ∀ i ∈ w, 0 ≤ i ∧ i < (l.length : Int)) (h : s = jn (nms l w)) (hm : w.length < m) (hl : w.length < 4096) : pz l s m 0 [] = ⟨w, 0, 0⟩ := by
  cases w with
  | nil =>
    obtain ⟨m', rfl⟩ : ∃ m', m = m' + 1 := ⟨m - 1, by simp at hm; omega⟩
    rw [pz, if_pos (pt_over (by rw [h]; rfl))]
  | cons i w =>
    obtain ⟨m', rfl⟩ : ∃ m', m = m' + 1 := ⟨m - 1, by simp at hm; omega⟩
    obtain ⟨h0, h1⟩ := hw i (by simp)
    have hx := hnm i.toNat (by omega)
    obtain ⟨a1, a2, a3, a4⟩ := pt_name (s := s) (pos := 0) hx (by rw [h]; rfl)
    have hp : 0 < (l.getD i.toNat ⟨ByteArray.empty, false, false, false, 0⟩).name.data.toList.length := List.length_pos_iff.2 hx.1
    simp only [List.length_cons] at hl hm
    rw [pz, if_neg (by rw [a1, a2]; omega), if_neg (by simp), a1, a2, a3, hf i.toNat (by omega), if_neg (by omega), pz_tl hf hnm w m' _ _ (fun j hj => hw j (by simp [hj])) a4 (by omega) (by simp; omega), show ((i.toNat : Nat) : Int) = i from by omega]
    simp
end Go.Proofs.Ytdccmebkoibkhaa
