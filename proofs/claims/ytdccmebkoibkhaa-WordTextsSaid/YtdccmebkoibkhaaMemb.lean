/- Membership in the beginning of a list; what it means that CheckSet finds no error. -/
import Derived.Test.YtdccmebkoibkhaaSearch
namespace Go.Proofs.Ytdccmebkoibkhaa
open Go.RowKit

theorem mem_snoc_take {zs : List Int} {k : Nat} {x : Int} (h : k < zs.length) : x ∈ zs.take (k + 1) ↔ x ∈ zs.take k ∨ zs.getD k 0 = x := by
  rw [List.take_succ_eq_append_getElem h, List.mem_append]
  simp [List.getD, List.getElem?_eq_getElem h, eq_comm]
theorem con_yes {zs : List Int} {k : Nat} {x : Int} (h : k < zs.length) (he : zs.getD k 0 = x) : decide (x ∈ zs) = true := by
  simp only [decide_eq_true_eq]; rw [← he]; exact getD_mem h
theorem con_no {zs : List Int} {n : Nat} {x : Int} (hn : zs.length = n) (h : x ∉ zs.take n) : decide (x ∈ zs) = false := by
  rw [List.take_of_length_le (by omega)] at h; simpa using h

theorem csGo_ok {m : Int} : ∀ (zs : List Int) (p : Option Int), csGo m p zs = 0 → (∀ x ∈ zs, 0 ≤ x ∧ x < m) ∧ zs.Pairwise (· < ·) ∧ ∀ y, p = some y → ∀ x ∈ zs, y < x
  | [], p, _ => ⟨by simp, List.Pairwise.nil, by simp⟩
  | x :: r, p, h => by
    rw [csGo] at h
    by_cases h1 : x < 0 ∨ m ≤ x
    · rw [if_pos h1] at h; omega
    · rw [if_neg h1] at h
      by_cases h2 : ordB p x = true
      · rw [if_pos h2] at h; omega
      · rw [if_neg h2] at h
        obtain ⟨a, b, c⟩ := csGo_ok r (some x) h
        have hlt : ∀ z ∈ r, x < z := c x rfl
        refine ⟨fun z hz => ?_, List.pairwise_cons.2 ⟨hlt, b⟩, fun y hy z hz => ?_⟩
        · rcases List.mem_cons.1 hz with rfl | hz
          · omega
          · exact a z hz
        · subst hy
          have hyx : y < x := by simpa [ordB] using h2
          rcases List.mem_cons.1 hz with rfl | hz
          · exact hyx
          · have := hlt z hz; omega
theorem cs_range_ok {m : Int} {zs : List Int} (h : csE m zs = 0) : ∀ t, t < zs.length → 0 ≤ zs.getD t 0 ∧ zs.getD t 0 < m := fun t ht => by
  have := (csGo_ok zs none h).1 (zs.getD t 0) (getD_mem ht)
  exact this
theorem cs_up {m : Int} {zs : List Int} (h : csE m zs = 0) : Up zs := fun s t hst ht => by
  have := (List.pairwise_iff_getElem.1 (csGo_ok zs none h).2.1) s t (by omega) ht hst
  simpa [List.getD, List.getElem?_eq_getElem ht, List.getElem?_eq_getElem (show s < zs.length by omega)] using this
end Go.Proofs.Ytdccmebkoibkhaa
