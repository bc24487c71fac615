/- What is told of arrays that came in: of two or three slices of ints, of two or three bytes. -/
import Derived.Test.YtdccmebkoibkhaaOpenB
namespace Go.Proofs.Ytdccmebkoibkhaa
open Go.ChangeShapes Go.WideShapes Go.ChangeAt Go.RowKit Go.Deep

/-- A slice of ints that came in. -/
structure SlI (W : World) (v : Value) (A : Option Addr) (n c : Nat) (zs : List Int) : Prop where
  eq : v = .slice A n c
  len : zs.length = n
  rd : RdI W W.heap.size A zs
  wf : ∀ z ∈ zs, (Lit.int .i64 z).wf = true
  cap : n ≤ c
  top : c ≤ 9223372036854775807

section
variable {H : Type} {enc : TypeId × Value → H} {W : World} {d : DataW H} {p : List MemPlace} {v : Value} {base : Nat}
set_option maxRecDepth 8000 in
theorem open_sl {n : Nat} {c : Value} {y : DataW H × List MemPlace} (hf : DataW.trod enc Try.prog W 0 (fun _ => true) true n 22 [c] = some y) (hlt : ∀ x ∈ y.2, x.block < W.heap.size) : ∃ A len cap zs, SlI W c A len cap zs := by
  rcases open_ints Try.underlying22 Try.underlying3 (by kernel_rfl) hf with ⟨hcs, _⟩ | ⟨a, l, cp, zs, hcs, _, hl, hm, _⟩
  · simp at hcs
    subst hcs
    exact ⟨none, 0, 0, [], rfl, rfl, RdI.nil _ _ _, by simp, Nat.le_refl _, by omega⟩
  · simp at hcs
    subst hcs
    have ht : DataW.Trod enc Try.prog W 0 (fun _ => true) true 22 (.slice (some a) l cp) y.1 y.2 := ⟨n, hf⟩
    obtain ⟨z, e1, e2, e3, _⟩ := open_rdI ht hlt
    exact ⟨some a, l, cp, z, rfl, e1, e2, e3, hl, by unfold maxLen at hm; omega⟩
theorem cells_agg (cs : Array Value) : (Value.agg cs).cells = cs := rfl

set_option maxRecDepth 8000 in
theorem open_arr2I (hval : Value.okWide Try.prog W .any base 52 v) (h : DataW.Trod enc Try.prog W 0 (fun _ => true) true 52 v d p) (hlt : ∀ x ∈ p, x.block < W.heap.size) :
    ∃ s0 s1, v = .agg #[s0, s1] ∧ (∃ A n c zs, SlI W s0 A n c zs) ∧ (∃ A n c zs, SlI W s1 A n c zs) := by
  simp only [Value.okWide, Try.underlying52] at hval
  obtain ⟨cs, rfl, hsz, _⟩ := hval
  have h2 : Try.prog.cellsOf 52 = 2 := by kernel_rfl
  have h1 : Try.prog.cellsOf 22 = 1 := by kernel_rfl
  rw [h2] at hsz
  obtain ⟨fuel, hf⟩ := h
  obtain ⟨xs, m, _, hx, _, hl, hi⟩ := DataW.trod_array Try.underlying52 hf
  obtain ⟨l⟩ := cs
  match l, hsz with
  | [s0, s1], _ =>
    match xs, hl with
    | [y0, y1], _ =>
      have f0 := hi 0 (by decide)
      have f1 := hi 1 (by decide)
      rw [h1] at f0 f1
      have e0 : DataW.trod enc Try.prog W 0 (fun _ => true) true m 22 [s0] = some y0 := f0
      have e1 : DataW.trod enc Try.prog W 0 (fun _ => true) true m 22 [s1] = some y1 := f1
      injection hx with hx1 hx2
      subst hx2
      exact ⟨s0, s1, rfl, open_sl e0 (fun x hx => hlt x (by simp [hx])), open_sl e1 (fun x hx => hlt x (by simp [hx]))⟩
set_option maxRecDepth 8000 in
theorem open_arr3I (hval : Value.okWide Try.prog W .any base 29 v) (h : DataW.Trod enc Try.prog W 0 (fun _ => true) true 29 v d p) (hlt : ∀ x ∈ p, x.block < W.heap.size) :
    ∃ s0 s1 s2, v = .agg #[s0, s1, s2] ∧ (∃ A n c zs, SlI W s0 A n c zs) ∧ (∃ A n c zs, SlI W s1 A n c zs) ∧ (∃ A n c zs, SlI W s2 A n c zs) := by
  simp only [Value.okWide, Try.underlying29] at hval
  obtain ⟨cs, rfl, hsz, _⟩ := hval
  have h2 : Try.prog.cellsOf 29 = 3 := by kernel_rfl
  have h1 : Try.prog.cellsOf 22 = 1 := by kernel_rfl
  rw [h2] at hsz
  obtain ⟨fuel, hf⟩ := h
  obtain ⟨xs, m, _, hx, _, hl, hi⟩ := DataW.trod_array Try.underlying29 hf
  obtain ⟨l⟩ := cs
  match l, hsz with
  | [s0, s1, s2], _ =>
    match xs, hl with
    | [y0, y1, y2], _ =>
      have f0 := hi 0 (by decide)
      have f1 := hi 1 (by decide)
      have f2 := hi 2 (by decide)
      rw [h1] at f0 f1 f2
      have e0 : DataW.trod enc Try.prog W 0 (fun _ => true) true m 22 [s0] = some y0 := f0
      have e1 : DataW.trod enc Try.prog W 0 (fun _ => true) true m 22 [s1] = some y1 := f1
      have e2 : DataW.trod enc Try.prog W 0 (fun _ => true) true m 22 [s2] = some y2 := f2
      injection hx with hx1 hx2
      subst hx2
      exact ⟨s0, s1, s2, rfl, open_sl e0 (fun x hx => hlt x (by simp [hx])), open_sl e1 (fun x hx => hlt x (by simp [hx])), open_sl e2 (fun x hx => hlt x (by simp [hx]))⟩
theorem open_u8 {n : Nat} {c : Value} {y : DataW H × List MemPlace} (hf : DataW.trod enc Try.prog W 0 (fun _ => true) true n 5 [c] = some y) : ∃ z, c = .int .u8 z ∧ 0 ≤ z ∧ z < 256 := by
  obtain ⟨q, e, _, hw⟩ := DataW.trod_int Try.underlying5 hf
  simp at e
  exact ⟨q, e, wf_u8 hw⟩
set_option maxRecDepth 8000 in
theorem open_arr2B (hval : Value.okWide Try.prog W .any base 46 v) (h : DataW.Trod enc Try.prog W 0 (fun _ => true) true 46 v d p) :
    ∃ x y : Int, v = .agg #[.int .u8 x, .int .u8 y] ∧ (0 ≤ x ∧ x < 256) ∧ (0 ≤ y ∧ y < 256) := by
  simp only [Value.okWide, Try.underlying46] at hval
  obtain ⟨cs, rfl, hsz, _⟩ := hval
  have h2 : Try.prog.cellsOf 46 = 2 := by kernel_rfl
  have h1 : Try.prog.cellsOf 5 = 1 := by kernel_rfl
  rw [h2] at hsz
  obtain ⟨fuel, hf⟩ := h
  obtain ⟨xs, m, _, hx, _, hl, hi⟩ := DataW.trod_array Try.underlying46 hf
  obtain ⟨l⟩ := cs
  match l, hsz with
  | [s0, s1], _ =>
    match xs, hl with
    | [y0, y1], _ =>
      have f0 := hi 0 (by decide)
      have f1 := hi 1 (by decide)
      rw [h1] at f0 f1
      have e0 : DataW.trod enc Try.prog W 0 (fun _ => true) true m 5 [s0] = some y0 := f0
      have e1 : DataW.trod enc Try.prog W 0 (fun _ => true) true m 5 [s1] = some y1 := f1
      obtain ⟨a, rfl, ha⟩ := open_u8 e0
      obtain ⟨b, rfl, hb⟩ := open_u8 e1
      exact ⟨a, b, rfl, ha, hb⟩
end
end Go.Proofs.Ytdccmebkoibkhaa
