/- Layer 3: what is told of graphs that came in, and of two ints. -/
import Derived.Test.YtcciiikaejjooaaaOpen
import Derived.Test.YtcciiikaejjooaaaMkA
namespace Go.Proofs.Ytcciiikaejjooaa
open Go.ChangeShapes Go.WideShapes Go.ChangeAt Go.RowKit Go.Deep

section
variable {H : Type} {enc : TypeId × Value → H} {W : World} {d : DataW H} {p : List MemPlace} {v : Value} {base : Nat}
theorem open_u8 {n : Nat} {c : Value} {y : DataW H × List MemPlace} (hf : DataW.trod enc Try.prog W 0 (fun _ => true) true n 5 [c] = some y) : ∃ z, c = .int .u8 z ∧ 0 ≤ z ∧ z < 256 := by
  obtain ⟨q, e, _, hw⟩ := DataW.trod_int Try.underlying5 hf
  simp at e
  subst e
  exact ⟨q, rfl, by simp [Lit.wf, IntKind.min, IntKind.max, IntKind.signed, IntKind.bits] at hw; omega⟩
theorem drop_one {cs : List Value} {i : Nat} (h : i < cs.length) : (cs.drop i).take 1 = [cs[i]] := by
  rw [List.drop_eq_getElem_cons h]; rfl
set_option maxRecDepth 8000 in
theorem open_graph (hval : Value.okWide Try.prog W .any base 50 v) (h : DataW.Trod enc Try.prog W 0 (fun _ => true) true 50 v d p) : ∃ cs, v = .agg cs ∧ GrC cs := by
  simp only [Value.okWide, Try.underlying50] at hval
  obtain ⟨cs, rfl, hsz, _⟩ := hval
  have h27 : Try.prog.cellsOf 50 = 27 := by kernel_rfl
  have h25 : Try.prog.cellsOf 48 = 25 := by kernel_rfl
  have h5 : Try.prog.cellsOf 47 = 5 := by kernel_rfl
  have h1 : Try.prog.cellsOf 5 = 1 := by kernel_rfl
  rw [h27] at hsz
  obtain ⟨fuel, hf⟩ := h
  obtain ⟨ys, n', _, hx, _, hyl, hfd⟩ := DataW.trod_struct Try.underlying50 hf
  have hcl : cs.toList.length = 27 := by simpa using hsz
  match ys, hyl with
  | [y0, y1, y2], _ =>
    have f0 : DataW.trod enc Try.prog W 0 (fun _ => true) true n' 5 ((cs.toList.drop 0).take (Try.prog.cellsOf 5)) = some y0 := hfd 0 _ rfl
    have f1 : DataW.trod enc Try.prog W 0 (fun _ => true) true n' 5 ((cs.toList.drop 1).take (Try.prog.cellsOf 5)) = some y1 := hfd 1 _ rfl
    have f2 : DataW.trod enc Try.prog W 0 (fun _ => true) true n' 48 ((cs.toList.drop 2).take (Try.prog.cellsOf 48)) = some y2 := hfd 2 _ rfl
    rw [h1, drop_one (by omega)] at f0 f1
    rw [h25] at f2
    obtain ⟨a0, e0, b0⟩ := open_u8 f0
    obtain ⟨a1, e1, b1⟩ := open_u8 f1
    obtain ⟨xs, m, _, hx2, _, hl2, hi2⟩ := DataW.trod_array Try.underlying48 f2
    refine ⟨cs, rfl, hsz, fun i hi => ?_⟩
    have key : ∃ x : Int, cs.toList[i]'(by omega) = .int .u8 x ∧ 0 ≤ x ∧ x < 256 := by
      rcases Nat.lt_or_ge i 2 with h2 | h2
      · rcases Nat.lt_or_ge i 1 with h3 | h3
        · obtain rfl : i = 0 := by omega
          exact ⟨a0, e0, b0⟩
        · obtain rfl : i = 1 := by omega
          exact ⟨a1, e1, b1⟩
      · obtain ⟨q, r, hq, hr, he⟩ : ∃ q r, q < 5 ∧ r < 5 ∧ i = 2 + q * 5 + r := ⟨(i - 2) / 5, (i - 2) % 5, by omega, by omega, by omega⟩
        have g := hi2 q hq
        rw [List.getElem?_eq_getElem (by omega), h5] at g
        obtain ⟨zs, m2, _, _, _, hl3, hi3⟩ := DataW.trod_array Try.underlying47 g
        have g2 := hi3 r hr
        rw [List.getElem?_eq_getElem (by omega), h1, Nat.mul_one] at g2
        rw [drop_one (by simp; omega)] at g2
        obtain ⟨x, ex, bx⟩ := open_u8 g2
        refine ⟨x, ?_, bx⟩
        rw [← ex]
        simp only [List.getElem_take, List.getElem_drop]
        congr 1
        omega
    obtain ⟨x, ex, bx⟩ := key
    refine ⟨x, ?_, bx⟩
    rw [← ex]
    simp [hsz, hi]
set_option maxRecDepth 100000 in
theorem list27 (gv : Nat → Value) : ([gv 0, gv 1, gv 2, gv 3, gv 4, gv 5, gv 6, gv 7, gv 8, gv 9, gv 10, gv 11, gv 12, gv 13, gv 14, gv 15, gv 16, gv 17, gv 18, gv 19, gv 20, gv 21, gv 22, gv 23, gv 24, gv 25, gv 26] : List Value) = (List.range 27).map gv := rfl
theorem grid27 {gv : Nat → Value} : ∀ i : Nat, i < 27 → ([gv 0, gv 1, gv 2, gv 3, gv 4, gv 5, gv 6, gv 7, gv 8, gv 9, gv 10, gv 11, gv 12, gv 13, gv 14, gv 15, gv 16, gv 17, gv 18, gv 19, gv 20, gv 21, gv 22, gv 23, gv 24, gv 25, gv 26] : List Value)[i]? = some (gv i) := by
  intro i hi
  rw [list27, List.getElem?_map, List.getElem?_range hi]; rfl
set_option maxRecDepth 100000 in
theorem graph_form {cs : Array Value} (h : GrC cs) : ∃ gv : Nat → Value, cs = #[gv 0, gv 1, gv 2, gv 3, gv 4, gv 5, gv 6, gv 7, gv 8, gv 9, gv 10, gv 11, gv 12, gv 13, gv 14, gv 15, gv 16, gv 17, gv 18, gv 19, gv 20, gv 21, gv 22, gv 23, gv 24, gv 25, gv 26] := by
  refine ⟨fun i => cs[i]?.getD (Value.bool false), ?_⟩
  have e : ∀ gv : Nat → Value, #[gv 0, gv 1, gv 2, gv 3, gv 4, gv 5, gv 6, gv 7, gv 8, gv 9, gv 10, gv 11, gv 12, gv 13, gv 14, gv 15, gv 16, gv 17, gv 18, gv 19, gv 20, gv 21, gv 22, gv 23, gv 24, gv 25, gv 26] = ((List.range 27).map gv).toArray := fun gv => congrArg List.toArray (list27 gv)
  refine Eq.trans ?_ (e (fun i => cs[i]?.getD (Value.bool false))).symm
  refine Array.ext_getElem? fun i => ?_
  by_cases hi : i < 27
  · simp [h.sz, hi]
  · rw [Array.getElem?_eq_none (by rw [h.sz]; omega), Array.getElem?_eq_none (by simp; omega)]
set_option maxRecDepth 100000 in
theorem open_graph2 (hval : Value.okWide Try.prog W .any base 50 v) (h : DataW.Trod enc Try.prog W 0 (fun _ => true) true 50 v d p) : ∃ gv : Nat → Value, v = .agg #[gv 0, gv 1, gv 2, gv 3, gv 4, gv 5, gv 6, gv 7, gv 8, gv 9, gv 10, gv 11, gv 12, gv 13, gv 14, gv 15, gv 16, gv 17, gv 18, gv 19, gv 20, gv 21, gv 22, gv 23, gv 24, gv 25, gv 26] ∧ GrC #[gv 0, gv 1, gv 2, gv 3, gv 4, gv 5, gv 6, gv 7, gv 8, gv 9, gv 10, gv 11, gv 12, gv 13, gv 14, gv 15, gv 16, gv 17, gv 18, gv 19, gv 20, gv 21, gv 22, gv 23, gv 24, gv 25, gv 26] := by
  obtain ⟨cs, rfl, hg⟩ := open_graph hval h
  obtain ⟨gv, rfl⟩ := graph_form hg
  exact ⟨gv, rfl, hg⟩
theorem open_int1 {n : Nat} {c : Value} {y : DataW H × List MemPlace} (hf : DataW.trod enc Try.prog W 0 (fun _ => true) true n 3 [c] = some y) : ∃ z, c = .int .i64 z := by
  obtain ⟨q, e, _, _⟩ := DataW.trod_int Try.underlying3 hf
  simp at e
  exact ⟨q, e⟩
set_option maxRecDepth 8000 in
theorem open_arr2 (hval : Value.okWide Try.prog W .any base 51 v) (h : DataW.Trod enc Try.prog W 0 (fun _ => true) true 51 v d p) : ∃ x y : Int, v = .agg #[.int .i64 x, .int .i64 y] := by
  simp only [Value.okWide, Try.underlying51] at hval
  obtain ⟨cs, rfl, hsz, _⟩ := hval
  have h2 : Try.prog.cellsOf 51 = 2 := by kernel_rfl
  have h1 : Try.prog.cellsOf 3 = 1 := by kernel_rfl
  rw [h2] at hsz
  obtain ⟨fuel, hf⟩ := h
  obtain ⟨xs, m, _, hx, _, hl, hi⟩ := DataW.trod_array Try.underlying51 hf
  obtain ⟨l⟩ := cs
  match l, hsz with
  | [s0, s1], _ =>
    match xs, hl with
    | [y0, y1], _ =>
      have f0 := hi 0 (by decide)
      have f1 := hi 1 (by decide)
      rw [h1] at f0 f1
      have e0 : DataW.trod enc Try.prog W 0 (fun _ => true) true m 3 [s0] = some y0 := f0
      have e1 : DataW.trod enc Try.prog W 0 (fun _ => true) true m 3 [s1] = some y1 := f1
      obtain ⟨a, rfl⟩ := open_int1 e0
      obtain ⟨b, rfl⟩ := open_int1 e1
      exact ⟨a, b, rfl⟩
end
end Go.Proofs.Ytcciiikaejjooaa
