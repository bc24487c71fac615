/- Layer 6: parts by value: boxes, slices of them. -/
import Derived.Test.YtedleffmbddccaaDoorZlG
import Derived.Great.BuildSlice
import Derived.Great.FillDense
import Derived.Laws.Rows
set_option linter.unusedVariables false
set_option linter.unusedSimpArgs false
set_option linter.unusedSectionVars false
namespace Go.Proofs.YtedleffmbddccaaDoor
section
open Go.ChangeShapes Go.WideShapes Go.ChangeAt Go.RowKit Go.Deep
variable {H : Type} {enc : TypeId × Value → H} {W : World} {d : DataW H} {p : List MemPlace} {v : Value} {base : Nat}
/-- The cells of a part. -/
def pcs (q : Pt) : List Value := .int .u8 q.1 :: q.2.toList
theorem pcs_len {q : Pt} (h : PtOk q) : (pcs q).length = 28 := by unfold pcs; rw [List.length_cons, Array.length_toList, h.2.sz]
set_option maxRecDepth 100000 in
theorem open_part (hval : Value.okWide Tryd.prog W .any base 66 v) (h : DataW.Trod enc Tryd.prog W 0 (fun _ => true) true 66 v d p) : ∃ q : Pt, v = .agg (pcs q).toArray ∧ PtOk q := by
  obtain ⟨cs, rfl, hsz⟩ := okWide_struct Tryd.underlying66 hval
  have h28 : Tryd.prog.cellsOf 66 = 28 := by kernel_rfl
  rw [h28] at hsz
  obtain ⟨fuel, hf⟩ := h
  obtain ⟨x, gl, e, wx, hg⟩ := part_cells (cl := cs.toList) (by simpa using hsz) hf
  exact ⟨(x, gl.toArray), by unfold pcs; rw [← e], wx, hg⟩
set_option maxRecDepth 100000 in
theorem open_part3 (hval : Value.okWide Tryd.prog W .any base 80 v) (h : DataW.Trod enc Tryd.prog W 0 (fun _ => true) true 80 v d p) : ∃ q0 q1 q2 : Pt, v = .agg (pcs q0 ++ pcs q1 ++ pcs q2).toArray ∧ PtOk q0 ∧ PtOk q1 ∧ PtOk q2 := by
  simp only [Value.okWide, Tryd.underlying80] at hval
  obtain ⟨cs, rfl, hsz, _⟩ := hval
  have h84 : Tryd.prog.cellsOf 80 = 84 := by kernel_rfl
  have h28 : Tryd.prog.cellsOf 66 = 28 := by kernel_rfl
  rw [h84] at hsz
  obtain ⟨fuel, hf⟩ := h
  obtain ⟨xs, m, _, hx, _, hl, hi⟩ := DataW.trod_array Tryd.underlying80 hf
  obtain ⟨l⟩ := cs
  have hll : l.length = 84 := by simpa using hsz
  have key : ∀ i, i < 3 → ∃ q : Pt, (l.drop (i * 28)).take 28 = pcs q ∧ PtOk q := fun i hi3 => by
    have g := hi i hi3
    rw [List.getElem?_eq_getElem (by omega), h28] at g
    have g' : DataW.trod enc Tryd.prog W 0 (fun _ => true) true m 66 ((l.drop (i * 28)).take 28) = some xs[i] := g
    obtain ⟨x, gl, e, wx, hg⟩ := part_cells (cl := (l.drop (i * 28)).take 28) (by rw [List.length_take, List.length_drop]; omega) g'
    exact ⟨(x, gl.toArray), by unfold pcs; rw [e], wx, hg⟩
  obtain ⟨q0, e0, k0⟩ := key 0 (by omega)
  obtain ⟨q1, e1, k1⟩ := key 1 (by omega)
  obtain ⟨q2, e2, k2⟩ := key 2 (by omega)
  refine ⟨q0, q1, q2, ?_, k0, k1, k2⟩
  rw [← e0, ← e1, ← e2]
  have s1 : l = l.take 28 ++ ((l.drop 28).take 28 ++ (l.drop 56)) := by
    have a1 := (List.take_append_drop 28 l).symm
    have a2 := (List.take_append_drop 28 (l.drop 28)).symm
    rw [List.drop_drop] at a2
    exact a1.trans (congrArg _ a2)
  have s2 : (l.drop 56).take 28 = l.drop 56 := List.take_of_length_le (by rw [List.length_drop]; omega)
  have : l = (l.drop (0 * 28)).take 28 ++ (l.drop (1 * 28)).take 28 ++ (l.drop (2 * 28)).take 28 := by
    rw [Nat.zero_mul, Nat.one_mul, List.drop_zero, show 2 * 28 = 56 from rfl, s2, List.append_assoc]; exact s1
  rw [← this]
end
section
open Go.RowKit Go.Sort
theorem row_part {w : World} {b k : Nat} {e : TypeId} {pre post : List Value} {q : Pt} (h : Row w b e (pre ++ pcs q ++ post)) (hk : pre.length = k) (hq : PtOk q) : PtAt w b k q := by
  have hl := pcs_len hq
  have hc : ∀ i v, (pcs q)[i]? = some v → w.cell? ⟨b, k + i, none⟩ = some v := fun i v hv => by
    have hi := (List.getElem?_eq_some_iff.1 hv).1
    refine h.cell (k + i) ?_
    rw [List.append_assoc, List.getElem?_append_right (by omega), show k + i - pre.length = i by omega, List.getElem?_append_left hi]; exact hv
  have hs : q.2.toList.length = 27 := by rw [Array.length_toList]; exact hq.2.sz
  have hG := grid_of_cells (w := w) (b := b) (o := k + 1) hs (fun i v hv => by
    have := hc (i + 1) v (by unfold pcs; simpa using hv)
    rw [show k + 1 + i = k + (i + 1) by omega]; exact this)
  exact ⟨hc 0 _ rfl, hG.1, by rw [hG.2]⟩
theorem row_parts1 {w : World} {b : Nat} {e : TypeId} {q : Pt} (h : Row w b e (pcs q)) (hq : PtOk q) : RdPs w w.heap.size (some ⟨b, 0, none⟩) [q] := fun _ => ⟨b, 0, rfl, h.lt, fun j p hj => by
  match j, hj with
  | 0, hj =>
    simp at hj; subst hj
    exact row_part (pre := []) (post := []) (by simpa using h) rfl hq
  | j + 1, hj => simp at hj⟩
theorem row_parts2 {w : World} {b : Nat} {e : TypeId} {q r : Pt} (h : Row w b e (pcs q ++ pcs r)) (hq : PtOk q) (hr : PtOk r) : RdPs w w.heap.size (some ⟨b, 0, none⟩) [q, r] := fun _ => ⟨b, 0, rfl, h.lt, fun j p hj => by
  match j, hj with
  | 0, hj =>
    simp at hj; subst hj
    exact row_part (pre := []) (post := pcs r) (by simpa using h) rfl hq
  | 1, hj =>
    simp at hj; subst hj
    exact row_part (pre := pcs q) (post := []) (by simpa using h) (by rw [pcs_len hq]) hr
  | j + 2, hj => simp at hj⟩
theorem row_parts3 {w : World} {b : Nat} {e : TypeId} {q r s : Pt} (h : Row w b e (pcs q ++ pcs r ++ pcs s)) (hq : PtOk q) (hr : PtOk r) (hs : PtOk s) : RdPs w w.heap.size (some ⟨b, 0, none⟩) [q, r, s] := fun _ => ⟨b, 0, rfl, h.lt, fun j p hj => by
  match j, hj with
  | 0, hj =>
    simp at hj; subst hj
    exact row_part (pre := []) (post := pcs r ++ pcs s) (by simpa using h) rfl hq
  | 1, hj =>
    simp at hj; subst hj
    exact row_part (pre := pcs q) (post := pcs s) (by simpa using h) (by rw [pcs_len hq]) hr
  | 2, hj =>
    simp at hj; subst hj
    exact row_part (pre := pcs q ++ pcs r) (post := []) (by simpa using h) (by rw [List.length_append, pcs_len hq, pcs_len hr]) hs
  | j + 3, hj => simp at hj⟩
theorem info_part : ∃ iP z, Tryd.prog.info? 66 = some iP ∧ iP.zero = some z ∧ iP.size = 28 ∧ z.cells.size = 28 := by
  have h : ((Tryd.prog.info? 66).bind fun i => i.zero.map fun z => (i.size, z.cells.size)) = some (28, 28) := by kernel_rfl
  cases hi : Tryd.prog.info? 66 with
  | none => rw [hi] at h; cases h
  | some iP =>
    rw [hi] at h
    cases hz : iP.zero with
    | none => simp [hz] at h
    | some z =>
      simp [hz] at h
      exact ⟨iP, z, rfl, hz, h.1, h.2⟩
theorem part_size {q : Pt} (h : PtOk q) : (Tryd.prog.info? 66).map (·.size) = some (pcs q).toArray.size := by
  obtain ⟨iP, z, h1, _, h3, _⟩ := info_part
  rw [h1, Option.map_some, h3, List.size_toArray, pcs_len h]
theorem wpList_part1 {ops : Array Oper} {rest : List Oper} {o : Oper} {a : Act} {w : World} {Q : Exit → Act → World → Prop} (hg : o.guard = none) (x : Operand) (ho : o.op = .buildSlice 49 1 #[(0, x)]) (q : Pt) (hq : PtOk q) (hx : a.eval x = .agg (pcs q).toArray)
    (h : wpList Tryd.prog ops Q rest (a.put o.dst (.slice (some ⟨w.heap.size, 0, none⟩) 1 1)) (w.alloc (.cells (pcs q).toArray 66))) : wpList Tryd.prog ops Q (o :: rest) a w := by
  obtain ⟨iP, z, h1, h2, h3, h4⟩ := info_part
  refine wpList_buildSlice hg 49 66 1 #[(0, x)] ho (pcs q).toArray iP z Tryd.underlying49 h1 h2 (by rw [h3]; omega) (by rw [h3]; omega) ?_ h
  rw [h3]
  have e : (#[(0, x)].map fun (p : Nat × Operand) => (p.1, a.eval p.2)).toList = [(0, .agg (pcs q).toArray)] := by simp [hx]
  refine (congrArg _ e).trans ?_
  have := Great.fill_whole (s := 28) (by decide) [.agg (pcs q).toArray] ((Array.range (1 * 28)).map (z.cells[· % z.cells.size]!)) (by intro v hv; rw [List.mem_singleton.1 hv]; simp [Value.cells, pcs_len hq]) (by simp)
  simpa [Value.cells] using this
theorem wpList_part2 {ops : Array Oper} {rest : List Oper} {o : Oper} {a : Act} {w : World} {Q : Exit → Act → World → Prop} (hg : o.guard = none) (x y : Operand) (ho : o.op = .buildSlice 49 2 #[(0, x), (1, y)]) (q r : Pt) (hq : PtOk q) (hr : PtOk r) (hx : a.eval x = .agg (pcs q).toArray) (hy : a.eval y = .agg (pcs r).toArray)
    (h : wpList Tryd.prog ops Q rest (a.put o.dst (.slice (some ⟨w.heap.size, 0, none⟩) 2 2)) (w.alloc (.cells (pcs q ++ pcs r).toArray 66))) : wpList Tryd.prog ops Q (o :: rest) a w := by
  obtain ⟨iP, z, h1, h2, h3, h4⟩ := info_part
  refine wpList_buildSlice hg 49 66 2 #[(0, x), (1, y)] ho (pcs q ++ pcs r).toArray iP z Tryd.underlying49 h1 h2 (by rw [h3]; omega) (by rw [h3]; omega) ?_ h
  rw [h3]
  have e : (#[(0, x), (1, y)].map fun (p : Nat × Operand) => (p.1, a.eval p.2)).toList = [(0, .agg (pcs q).toArray), (1, .agg (pcs r).toArray)] := by simp [hx, hy]
  refine (congrArg _ e).trans ?_
  have := Great.fill_whole (s := 28) (by decide) [.agg (pcs q).toArray, .agg (pcs r).toArray] ((Array.range (2 * 28)).map (z.cells[· % z.cells.size]!)) (by
    intro v hv
    rcases List.mem_cons.1 hv with rfl | hv
    · simp [Value.cells, pcs_len hq]
    · rw [List.mem_singleton.1 hv]; simp [Value.cells, pcs_len hr]) (by simp)
  simpa [Value.cells] using this
end
end Go.Proofs.YtedleffmbddccaaDoor
