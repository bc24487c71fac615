/- Layer 3: what is told of graphs that came in; Events, Make and other calls in a law's walk over graphs. -/
import Derived.Test.YtcciiikaejjooaaaOpen
import Derived.Test.YtcciiikaejjooaaaMkA
import Derived.Test.YtcciiikaejjooaaaLw
import Derived.Test.YtcciiikaejjooaaaRRun
import Derived.Deep.MidRow
namespace Go.Proofs.Ytcciiikaejjooaa

section
open Go.ChangeShapes Go.WideShapes Go.ChangeAt Go.RowKit Go.Deep
section
variable {H : Type} {enc : TypeId × Value → H} {W : World} {d : DataW H} {p : List MemPlace} {v : Value} {base : Nat}
theorem open_u8 {n : Nat} {c : Value} {y : DataW H × List MemPlace} (hf : DataW.trod enc Try.prog W 0 (fun _ => true) true n 5 [c] = some y) : ∃ z, c = .int .u8 z ∧ 0 ≤ z ∧ z < 256 := by
  obtain ⟨q, e, _, hw⟩ := DataW.trod_int Try.underlying5 hf
  simp at e
  subst e
  exact ⟨q, rfl, by simp [Lit.wf, IntKind.min, IntKind.max, IntKind.signed, IntKind.bits] at hw; omega⟩
theorem drop_one {cs : List Value} {i : Nat} (h : i < cs.length) : (cs.drop i).take 1 = [cs[i]] := by
  rw [List.drop_eq_getElem_cons h]; rfl
set_option maxRecDepth 8000 in
theorem open_graph (hval : Value.okWide Try.prog W .any base 50 v) (h : DataW.Trod enc Try.prog W 0 (fun _ => true) true 50 v d p) : ∃ cs, v = .agg cs ∧ GrC cs := by
  simp only [Value.okWide, Try.underlying50] at hval
  obtain ⟨cs, rfl, hsz, _⟩ := hval
  have h27 : Try.prog.cellsOf 50 = 27 := by kernel_rfl
  have h25 : Try.prog.cellsOf 48 = 25 := by kernel_rfl
  have h5 : Try.prog.cellsOf 47 = 5 := by kernel_rfl
  have h1 : Try.prog.cellsOf 5 = 1 := by kernel_rfl
  rw [h27] at hsz
  obtain ⟨fuel, hf⟩ := h
  obtain ⟨ys, n', _, hx, _, hyl, hfd⟩ := DataW.trod_struct Try.underlying50 hf
  have hcl : cs.toList.length = 27 := by simpa using hsz
  match ys, hyl with
  | [y0, y1, y2], _ =>
    have f0 : DataW.trod enc Try.prog W 0 (fun _ => true) true n' 5 ((cs.toList.drop 0).take (Try.prog.cellsOf 5)) = some y0 := hfd 0 _ rfl
    have f1 : DataW.trod enc Try.prog W 0 (fun _ => true) true n' 5 ((cs.toList.drop 1).take (Try.prog.cellsOf 5)) = some y1 := hfd 1 _ rfl
    have f2 : DataW.trod enc Try.prog W 0 (fun _ => true) true n' 48 ((cs.toList.drop 2).take (Try.prog.cellsOf 48)) = some y2 := hfd 2 _ rfl
    rw [h1, drop_one (by omega)] at f0 f1
    rw [h25] at f2
    obtain ⟨a0, e0, b0⟩ := open_u8 f0
    obtain ⟨a1, e1, b1⟩ := open_u8 f1
    obtain ⟨xs, m, _, hx2, _, hl2, hi2⟩ := DataW.trod_array Try.underlying48 f2
    refine ⟨cs, rfl, hsz, fun i hi => ?_⟩
    have key : ∃ x : Int, cs.toList[i]'(by omega) = .int .u8 x ∧ 0 ≤ x ∧ x < 256 := by
      rcases Nat.lt_or_ge i 2 with h2 | h2
      · rcases Nat.lt_or_ge i 1 with h3 | h3
        · obtain rfl : i = 0 := by omega
          exact ⟨a0, e0, b0⟩
        · obtain rfl : i = 1 := by omega
          exact ⟨a1, e1, b1⟩
      · obtain ⟨q, r, hq, hr, he⟩ : ∃ q r, q < 5 ∧ r < 5 ∧ i = 2 + q * 5 + r := ⟨(i - 2) / 5, (i - 2) % 5, by omega, by omega, by omega⟩
        have g := hi2 q hq
        rw [List.getElem?_eq_getElem (by omega), h5] at g
        obtain ⟨zs, m2, _, _, _, hl3, hi3⟩ := DataW.trod_array Try.underlying47 g
        have g2 := hi3 r hr
        rw [List.getElem?_eq_getElem (by omega), h1, Nat.mul_one] at g2
        rw [drop_one (by simp; omega)] at g2
        obtain ⟨x, ex, bx⟩ := open_u8 g2
        refine ⟨x, ?_, bx⟩
        rw [← ex]
        simp only [List.getElem_take, List.getElem_drop]
        congr 1
        omega
    obtain ⟨x, ex, bx⟩ := key
    refine ⟨x, ?_, bx⟩
    rw [← ex]
    simp [hsz, hi]
set_option maxRecDepth 100000 in
theorem list27 (gv : Nat → Value) : ([gv 0, gv 1, gv 2, gv 3, gv 4, gv 5, gv 6, gv 7, gv 8, gv 9, gv 10, gv 11, gv 12, gv 13, gv 14, gv 15, gv 16, gv 17, gv 18, gv 19, gv 20, gv 21, gv 22, gv 23, gv 24, gv 25, gv 26] : List Value) = (List.range 27).map gv := rfl
theorem grid27 {gv : Nat → Value} : ∀ i : Nat, i < 27 → ([gv 0, gv 1, gv 2, gv 3, gv 4, gv 5, gv 6, gv 7, gv 8, gv 9, gv 10, gv 11, gv 12, gv 13, gv 14, gv 15, gv 16, gv 17, gv 18, gv 19, gv 20, gv 21, gv 22, gv 23, gv 24, gv 25, gv 26] : List Value)[i]? = some (gv i) := by
  intro i hi
  rw [list27, List.getElem?_map, List.getElem?_range hi]; rfl
set_option maxRecDepth 100000 in
theorem graph_form {cs : Array Value} (h : GrC cs) : ∃ gv : Nat → Value, cs = #[gv 0, gv 1, gv 2, gv 3, gv 4, gv 5, gv 6, gv 7, gv 8, gv 9, gv 10, gv 11, gv 12, gv 13, gv 14, gv 15, gv 16, gv 17, gv 18, gv 19, gv 20, gv 21, gv 22, gv 23, gv 24, gv 25, gv 26] := by
  refine ⟨fun i => cs[i]?.getD (Value.bool false), ?_⟩
  have e : ∀ gv : Nat → Value, #[gv 0, gv 1, gv 2, gv 3, gv 4, gv 5, gv 6, gv 7, gv 8, gv 9, gv 10, gv 11, gv 12, gv 13, gv 14, gv 15, gv 16, gv 17, gv 18, gv 19, gv 20, gv 21, gv 22, gv 23, gv 24, gv 25, gv 26] = ((List.range 27).map gv).toArray := fun gv => congrArg List.toArray (list27 gv)
  refine Eq.trans ?_ (e (fun i => cs[i]?.getD (Value.bool false))).symm
  refine Array.ext_getElem? fun i => ?_
  by_cases hi : i < 27
  · simp [h.sz, hi]
  · rw [Array.getElem?_eq_none (by rw [h.sz]; omega), Array.getElem?_eq_none (by simp; omega)]
set_option maxRecDepth 100000 in
theorem open_graph2 (hval : Value.okWide Try.prog W .any base 50 v) (h : DataW.Trod enc Try.prog W 0 (fun _ => true) true 50 v d p) : ∃ gv : Nat → Value, v = .agg #[gv 0, gv 1, gv 2, gv 3, gv 4, gv 5, gv 6, gv 7, gv 8, gv 9, gv 10, gv 11, gv 12, gv 13, gv 14, gv 15, gv 16, gv 17, gv 18, gv 19, gv 20, gv 21, gv 22, gv 23, gv 24, gv 25, gv 26] ∧ GrC #[gv 0, gv 1, gv 2, gv 3, gv 4, gv 5, gv 6, gv 7, gv 8, gv 9, gv 10, gv 11, gv 12, gv 13, gv 14, gv 15, gv 16, gv 17, gv 18, gv 19, gv 20, gv 21, gv 22, gv 23, gv 24, gv 25, gv 26] := by
  obtain ⟨cs, rfl, hg⟩ := open_graph hval h
  obtain ⟨gv, rfl⟩ := graph_form hg
  exact ⟨gv, rfl, hg⟩
theorem open_int1 {n : Nat} {c : Value} {y : DataW H × List MemPlace} (hf : DataW.trod enc Try.prog W 0 (fun _ => true) true n 3 [c] = some y) : ∃ z, c = .int .i64 z := by
  obtain ⟨q, e, _, _⟩ := DataW.trod_int Try.underlying3 hf
  simp at e
  exact ⟨q, e⟩
set_option maxRecDepth 8000 in
theorem open_arr2 (hval : Value.okWide Try.prog W .any base 51 v) (h : DataW.Trod enc Try.prog W 0 (fun _ => true) true 51 v d p) : ∃ x y : Int, v = .agg #[.int .i64 x, .int .i64 y] := by
  simp only [Value.okWide, Try.underlying51] at hval
  obtain ⟨cs, rfl, hsz, _⟩ := hval
  have h2 : Try.prog.cellsOf 51 = 2 := by kernel_rfl
  have h1 : Try.prog.cellsOf 3 = 1 := by kernel_rfl
  rw [h2] at hsz
  obtain ⟨fuel, hf⟩ := h
  obtain ⟨xs, m, _, hx, _, hl, hi⟩ := DataW.trod_array Try.underlying51 hf
  obtain ⟨l⟩ := cs
  match l, hsz with
  | [s0, s1], _ =>
    match xs, hl with
    | [y0, y1], _ =>
      have f0 := hi 0 (by decide)
      have f1 := hi 1 (by decide)
      rw [h1] at f0 f1
      have e0 : DataW.trod enc Try.prog W 0 (fun _ => true) true m 3 [s0] = some y0 := f0
      have e1 : DataW.trod enc Try.prog W 0 (fun _ => true) true m 3 [s1] = some y1 := f1
      obtain ⟨a, rfl⟩ := open_int1 e0
      obtain ⟨b, rfl⟩ := open_int1 e1
      exact ⟨a, b, rfl⟩
end
end

section
open Go.RowKit Go.Sort
theorem Bxs.range {w : World} {l : List (Nat × List Value)} (h : Bxs w l) (j : Nat) {b : Nat} {cs : List Value} (hj : l[j]? = some (b, cs)) : w.rangeAt b 0 cs := fun i v hi => by
  have := h.at j hj i hi
  simpa using this
/-- The cells of a graph's box. -/
theorem Bxs.grid {w : World} {l : List (Nat × List Value)} (h : Bxs w l) (j : Nat) {b : Nat} {gv : Nat → Value} (hj : l[j]? = some (b, [gv 0, gv 1, gv 2, gv 3, gv 4, gv 5, gv 6, gv 7, gv 8, gv 9, gv 10, gv 11, gv 12, gv 13, gv 14, gv 15, gv 16, gv 17, gv 18, gv 19, gv 20, gv 21, gv 22, gv 23, gv 24, gv 25, gv 26])) : ∀ i : Nat, i < 27 → w.cell? ⟨b, i, none⟩ = some (gv i) := fun i hi => h.at j hj i (grid27 i hi)
/-- A graph's box is there. -/
def GridOk (w : World) (b : Nat) : Prop := ∀ i : Nat, i < 27 → (w.cell? ⟨b, i, none⟩).isSome = true
theorem gridOk {w : World} {b : Nat} {gv : Nat → Value} (h : ∀ i : Nat, i < 27 → w.cell? ⟨b, i, none⟩ = some (gv i)) : GridOk w b := fun i hi => by rw [h i hi]; rfl
theorem grid_two {w : World} {b : Nat} {gv : Nat → Value} (h : ∀ i : Nat, i < 27 → w.cell? ⟨b, i, none⟩ = some (gv i)) : GridOk w b ∧ ∀ i : Nat, i < 27 → w.cell? ⟨b, i, none⟩ = some (gv i) := ⟨gridOk h, h⟩
/-- A graph's box is read. -/
theorem load_graph (w : World) (b : Nat) (h : GridOk w b) : (Instr.loadAt 50 (.pointer (some ⟨b, 0, none⟩))).run Try.prog w = .ok (.agg #[(w.cell? ⟨b, 0, none⟩).getD (Value.bool false), (w.cell? ⟨b, 1, none⟩).getD (Value.bool false), (w.cell? ⟨b, 2, none⟩).getD (Value.bool false), (w.cell? ⟨b, 3, none⟩).getD (Value.bool false), (w.cell? ⟨b, 4, none⟩).getD (Value.bool false), (w.cell? ⟨b, 5, none⟩).getD (Value.bool false), (w.cell? ⟨b, 6, none⟩).getD (Value.bool false), (w.cell? ⟨b, 7, none⟩).getD (Value.bool false), (w.cell? ⟨b, 8, none⟩).getD (Value.bool false), (w.cell? ⟨b, 9, none⟩).getD (Value.bool false), (w.cell? ⟨b, 10, none⟩).getD (Value.bool false), (w.cell? ⟨b, 11, none⟩).getD (Value.bool false), (w.cell? ⟨b, 12, none⟩).getD (Value.bool false), (w.cell? ⟨b, 13, none⟩).getD (Value.bool false), (w.cell? ⟨b, 14, none⟩).getD (Value.bool false), (w.cell? ⟨b, 15, none⟩).getD (Value.bool false), (w.cell? ⟨b, 16, none⟩).getD (Value.bool false), (w.cell? ⟨b, 17, none⟩).getD (Value.bool false), (w.cell? ⟨b, 18, none⟩).getD (Value.bool false), (w.cell? ⟨b, 19, none⟩).getD (Value.bool false), (w.cell? ⟨b, 20, none⟩).getD (Value.bool false), (w.cell? ⟨b, 21, none⟩).getD (Value.bool false), (w.cell? ⟨b, 22, none⟩).getD (Value.bool false), (w.cell? ⟨b, 23, none⟩).getD (Value.bool false), (w.cell? ⟨b, 24, none⟩).getD (Value.bool false), (w.cell? ⟨b, 25, none⟩).getD (Value.bool false), (w.cell? ⟨b, 26, none⟩).getD (Value.bool false)]) w := by
  obtain ⟨gv, hgv⟩ : ∃ gv : Nat → Value, gv = fun i => (w.cell? ⟨b, i, none⟩).getD (Value.bool false) := ⟨_, rfl⟩
  have e : ∀ i, (w.cell? ⟨b, i, none⟩).getD (Value.bool false) = gv i := fun i => by rw [hgv]
  simp only [e]
  refine run_loadAt_mid w b 0 50 [gv 0, gv 1, gv 2, gv 3, gv 4, gv 5, gv 6, gv 7, gv 8, gv 9, gv 10, gv 11, gv 12, gv 13, gv 14, gv 15, gv 16, gv 17, gv 18, gv 19, gv 20, gv 21, gv 22, gv 23, gv 24, gv 25, gv 26] _ (fun i v hi => ?_) Try.underlying50 rfl (by kernel_rfl)
  have hi27 : i < 27 := (List.getElem?_eq_some_iff.1 hi).1
  rw [grid27 i hi27] at hi
  injection hi with hi
  obtain ⟨u, hu⟩ := Option.isSome_iff_exists.1 (h i hi27)
  rw [Nat.zero_add, ← hi, ← e, hu]; rfl
def blkOf : Value → Nat
  | .pointer (some a) => a.block
  | _ => 0
theorem blkOf_ptr (b o : Nat) : blkOf (.pointer (some ⟨b, o, none⟩)) = b := rfl
theorem load_graph' (w : World) (p : Value) (hp : p = .pointer (some ⟨blkOf p, 0, none⟩)) (h : GridOk w (blkOf p)) : (Instr.loadAt 50 p).run Try.prog w = .ok (.agg #[(w.cell? ⟨blkOf p, 0, none⟩).getD (Value.bool false), (w.cell? ⟨blkOf p, 1, none⟩).getD (Value.bool false), (w.cell? ⟨blkOf p, 2, none⟩).getD (Value.bool false), (w.cell? ⟨blkOf p, 3, none⟩).getD (Value.bool false), (w.cell? ⟨blkOf p, 4, none⟩).getD (Value.bool false), (w.cell? ⟨blkOf p, 5, none⟩).getD (Value.bool false), (w.cell? ⟨blkOf p, 6, none⟩).getD (Value.bool false), (w.cell? ⟨blkOf p, 7, none⟩).getD (Value.bool false), (w.cell? ⟨blkOf p, 8, none⟩).getD (Value.bool false), (w.cell? ⟨blkOf p, 9, none⟩).getD (Value.bool false), (w.cell? ⟨blkOf p, 10, none⟩).getD (Value.bool false), (w.cell? ⟨blkOf p, 11, none⟩).getD (Value.bool false), (w.cell? ⟨blkOf p, 12, none⟩).getD (Value.bool false), (w.cell? ⟨blkOf p, 13, none⟩).getD (Value.bool false), (w.cell? ⟨blkOf p, 14, none⟩).getD (Value.bool false), (w.cell? ⟨blkOf p, 15, none⟩).getD (Value.bool false), (w.cell? ⟨blkOf p, 16, none⟩).getD (Value.bool false), (w.cell? ⟨blkOf p, 17, none⟩).getD (Value.bool false), (w.cell? ⟨blkOf p, 18, none⟩).getD (Value.bool false), (w.cell? ⟨blkOf p, 19, none⟩).getD (Value.bool false), (w.cell? ⟨blkOf p, 20, none⟩).getD (Value.bool false), (w.cell? ⟨blkOf p, 21, none⟩).getD (Value.bool false), (w.cell? ⟨blkOf p, 22, none⟩).getD (Value.bool false), (w.cell? ⟨blkOf p, 23, none⟩).getD (Value.bool false), (w.cell? ⟨blkOf p, 24, none⟩).getD (Value.bool false), (w.cell? ⟨blkOf p, 25, none⟩).getD (Value.bool false), (w.cell? ⟨blkOf p, 26, none⟩).getD (Value.bool false)]) w := by
  obtain ⟨b, hb⟩ : ∃ b, b = blkOf p := ⟨_, rfl⟩
  rw [← hb] at hp h ⊢
  subst hp
  exact load_graph w b h
theorem exec_load_graph (ρ : Operand → Value) (o : Oper) (w : World) (x : Operand) (ho : o.op = .load 50 x) (hp : ρ x = .pointer (some ⟨blkOf (ρ x), 0, none⟩)) (h : GridOk w (blkOf (ρ x))) : (execOp ρ o).run Try.prog w = .ok (.value (.agg #[(w.cell? ⟨blkOf (ρ x), 0, none⟩).getD (Value.bool false), (w.cell? ⟨blkOf (ρ x), 1, none⟩).getD (Value.bool false), (w.cell? ⟨blkOf (ρ x), 2, none⟩).getD (Value.bool false), (w.cell? ⟨blkOf (ρ x), 3, none⟩).getD (Value.bool false), (w.cell? ⟨blkOf (ρ x), 4, none⟩).getD (Value.bool false), (w.cell? ⟨blkOf (ρ x), 5, none⟩).getD (Value.bool false), (w.cell? ⟨blkOf (ρ x), 6, none⟩).getD (Value.bool false), (w.cell? ⟨blkOf (ρ x), 7, none⟩).getD (Value.bool false), (w.cell? ⟨blkOf (ρ x), 8, none⟩).getD (Value.bool false), (w.cell? ⟨blkOf (ρ x), 9, none⟩).getD (Value.bool false), (w.cell? ⟨blkOf (ρ x), 10, none⟩).getD (Value.bool false), (w.cell? ⟨blkOf (ρ x), 11, none⟩).getD (Value.bool false), (w.cell? ⟨blkOf (ρ x), 12, none⟩).getD (Value.bool false), (w.cell? ⟨blkOf (ρ x), 13, none⟩).getD (Value.bool false), (w.cell? ⟨blkOf (ρ x), 14, none⟩).getD (Value.bool false), (w.cell? ⟨blkOf (ρ x), 15, none⟩).getD (Value.bool false), (w.cell? ⟨blkOf (ρ x), 16, none⟩).getD (Value.bool false), (w.cell? ⟨blkOf (ρ x), 17, none⟩).getD (Value.bool false), (w.cell? ⟨blkOf (ρ x), 18, none⟩).getD (Value.bool false), (w.cell? ⟨blkOf (ρ x), 19, none⟩).getD (Value.bool false), (w.cell? ⟨blkOf (ρ x), 20, none⟩).getD (Value.bool false), (w.cell? ⟨blkOf (ρ x), 21, none⟩).getD (Value.bool false), (w.cell? ⟨blkOf (ρ x), 22, none⟩).getD (Value.bool false), (w.cell? ⟨blkOf (ρ x), 23, none⟩).getD (Value.bool false), (w.cell? ⟨blkOf (ρ x), 24, none⟩).getD (Value.bool false), (w.cell? ⟨blkOf (ρ x), 25, none⟩).getD (Value.bool false), (w.cell? ⟨blkOf (ρ x), 26, none⟩).getD (Value.bool false)])) w := by
  unfold execOp
  simp only [ho, Sem.run_bind, load_graph' w (ρ x) hp h, Result.andThen_ok, Sem.run_pure]
theorem exec_load_graph' (ρ : Operand → Value) (d : Option Nat) (x : Operand) (T : TypeId) (pos : String) (af) (g) (w : World) (hp : ρ x = .pointer (some ⟨blkOf (ρ x), 0, none⟩)) (h : GridOk w (blkOf (ρ x))) : (execOp ρ { dst := d, op := .load 50 x, type := T, pos := pos, after := af, guard := g }).run Try.prog w = .ok (.value (.agg #[(w.cell? ⟨blkOf (ρ x), 0, none⟩).getD (Value.bool false), (w.cell? ⟨blkOf (ρ x), 1, none⟩).getD (Value.bool false), (w.cell? ⟨blkOf (ρ x), 2, none⟩).getD (Value.bool false), (w.cell? ⟨blkOf (ρ x), 3, none⟩).getD (Value.bool false), (w.cell? ⟨blkOf (ρ x), 4, none⟩).getD (Value.bool false), (w.cell? ⟨blkOf (ρ x), 5, none⟩).getD (Value.bool false), (w.cell? ⟨blkOf (ρ x), 6, none⟩).getD (Value.bool false), (w.cell? ⟨blkOf (ρ x), 7, none⟩).getD (Value.bool false), (w.cell? ⟨blkOf (ρ x), 8, none⟩).getD (Value.bool false), (w.cell? ⟨blkOf (ρ x), 9, none⟩).getD (Value.bool false), (w.cell? ⟨blkOf (ρ x), 10, none⟩).getD (Value.bool false), (w.cell? ⟨blkOf (ρ x), 11, none⟩).getD (Value.bool false), (w.cell? ⟨blkOf (ρ x), 12, none⟩).getD (Value.bool false), (w.cell? ⟨blkOf (ρ x), 13, none⟩).getD (Value.bool false), (w.cell? ⟨blkOf (ρ x), 14, none⟩).getD (Value.bool false), (w.cell? ⟨blkOf (ρ x), 15, none⟩).getD (Value.bool false), (w.cell? ⟨blkOf (ρ x), 16, none⟩).getD (Value.bool false), (w.cell? ⟨blkOf (ρ x), 17, none⟩).getD (Value.bool false), (w.cell? ⟨blkOf (ρ x), 18, none⟩).getD (Value.bool false), (w.cell? ⟨blkOf (ρ x), 19, none⟩).getD (Value.bool false), (w.cell? ⟨blkOf (ρ x), 20, none⟩).getD (Value.bool false), (w.cell? ⟨blkOf (ρ x), 21, none⟩).getD (Value.bool false), (w.cell? ⟨blkOf (ρ x), 22, none⟩).getD (Value.bool false), (w.cell? ⟨blkOf (ρ x), 23, none⟩).getD (Value.bool false), (w.cell? ⟨blkOf (ρ x), 24, none⟩).getD (Value.bool false), (w.cell? ⟨blkOf (ρ x), 25, none⟩).getD (Value.bool false), (w.cell? ⟨blkOf (ρ x), 26, none⟩).getD (Value.bool false)])) w :=
  exec_load_graph ρ _ w x rfl hp h
theorem grid_alloc {w : World} {b : Nat} {gv : Nat → Value} (h : ∀ i : Nat, i < 27 → w.cell? ⟨b, i, none⟩ = some (gv i)) (hlt : b < w.heap.size) (cs : Array Value) (T : TypeId) : ∀ i : Nat, i < 27 → (w.alloc (.cells cs T)).cell? ⟨b, i, none⟩ = some (gv i) := fun i hi => (World.cell?_alloc_lt w (.cells cs T) ⟨b, i, none⟩ hlt).trans (h i hi)
theorem grid_set {w : World} {b : Nat} {gv : Nat → Value} (h : ∀ i : Nat, i < 27 → w.cell? ⟨b, i, none⟩ = some (gv i)) {X j : Nat} (hne : b ≠ X) (v : Value) : ∀ i : Nat, i < 27 → (w.setCell ⟨X, j, none⟩ v).cell? ⟨b, i, none⟩ = some (gv i) := fun i hi => (World.cell?_of_block (a := ⟨b, i, none⟩) (Below.heap_setCell w ⟨X, j, none⟩ v b hne)).trans (h i hi)
theorem grid_made {w : World} {b : Nat} {gv : Nat → Value} (h : ∀ i : Nat, i < 27 → w.cell? ⟨b, i, none⟩ = some (gv i)) (hlt : b < w.heap.size) (cs : Array Value) (T : TypeId) (v0 v1 v2 v3 : Value) : ∀ i : Nat, i < 27 → (((((w.alloc (.cells cs T)).setCell ⟨w.heap.size, 0, none⟩ v0).setCell ⟨w.heap.size, 1, none⟩ v1).setCell ⟨w.heap.size, 2, none⟩ v2).setCell ⟨w.heap.size, 3, none⟩ v3).cell? ⟨b, i, none⟩ = some (gv i) :=
  grid_set (grid_set (grid_set (grid_set (grid_alloc h hlt cs T) (by omega) _) (by omega) _) (by omega) _) (by omega) _
theorem grid_below {w w' : World} {b : Nat} {gv : Nat → Value} (h : ∀ i : Nat, i < 27 → w.cell? ⟨b, i, none⟩ = some (gv i)) (hlt : b < w.heap.size) (hb : Below w.heap.size w w') : ∀ i : Nat, i < 27 → w'.cell? ⟨b, i, none⟩ = some (gv i) := fun i hi => (hb.cell (p := ⟨b, i, none⟩) hlt).trans (h i hi)
theorem grid_below' {w w' : World} {b : Nat} {gv : Nat → Value} (hb : Below w.heap.size w w') (h : ∀ i : Nat, i < 27 → w.cell? ⟨b, i, none⟩ = some (gv i)) (hlt : b < w.heap.size) : ∀ i : Nat, i < 27 → w'.cell? ⟨b, i, none⟩ = some (gv i) := grid_below h hlt hb
theorem lt_alloc {w : World} {b : Nat} (h : b < w.heap.size) (cs : Array Value) (T : TypeId) : b < (w.alloc (.cells cs T)).heap.size := by simp; omega
theorem grid_drew {w : World} {b : Nat} {gv : Nat → Value} (h : ∀ i : Nat, i < 27 → w.cell? ⟨b, i, none⟩ = some (gv i)) : ∀ i : Nat, i < 27 → w.drew.cell? ⟨b, i, none⟩ = some (gv i) := h
theorem lt_drew {w : World} {b : Nat} (h : b < w.heap.size) : b < w.drew.heap.size := h
theorem row_drew {w : World} {g : Nat} {e : TypeId} {cs : List Value} (h : Row w g e cs) : Row w.drew g e cs := h
theorem grid_set4 {w : World} {b X : Nat} {gv : Nat → Value} (h : ∀ i : Nat, i < 27 → w.cell? ⟨b, i, none⟩ = some (gv i)) (hne : b ≠ X) (v0 v1 v2 v3 : Value) : ∀ i : Nat, i < 27 → ((((w.setCell ⟨X, 0, none⟩ v0).setCell ⟨X, 1, none⟩ v1).setCell ⟨X, 2, none⟩ v2).setCell ⟨X, 3, none⟩ v3).cell? ⟨b, i, none⟩ = some (gv i) :=
  grid_set (grid_set (grid_set (grid_set h hne _) hne _) hne _) hne _
/-- An automaton is stored into a box of its own. -/
theorem LW.put {W w : World} {l : List (Nat × List Value)} {b : Nat} {x0 x1 x2 x3 : Value} (h : LW W l w) (hr : Row w b 25 [x0, x1, x2, x3]) (hb : W.heap.size ≤ b) (hne : ∀ x ∈ l, x.1 ≠ b) (v0 v1 v2 v3 : Value) : LW W ((b, [v0, v1, v2, v3]) :: l) ((((w.setCell ⟨b, 0, none⟩ v0).setCell ⟨b, 1, none⟩ v1).setCell ⟨b, 2, none⟩ v2).setCell ⟨b, 3, none⟩ v3) := by
  refine ⟨below_set4 h.bel hb _ _ _ _, fun b' cs hm => ?_⟩
  have hR : Row ((((w.setCell ⟨b, 0, none⟩ v0).setCell ⟨b, 1, none⟩ v1).setCell ⟨b, 2, none⟩ v2).setCell ⟨b, 3, none⟩ v3) b 25 [v0, v1, v2, v3] := (((hr.set 0 v0).set 1 v1).set 2 v2).set 3 v3
  rcases List.mem_cons.1 hm with e | hm
  · injection e with e1 e2
    subst e1 e2
    exact ⟨hR.lt, fun i v hi => hR.cell i hi⟩
  · obtain ⟨h1, h2⟩ := h.bx b' cs hm
    have hn : b' ≠ b := hne _ hm
    refine ⟨by simp only [World.size_setCell]; exact h1, fun i v hi => ?_⟩
    rw [cell_set4 hn]; exact h2 i v hi
theorem AuR.put {w : World} {B b : Nat} {a : Au} (A : Option Addr) (n c : Nat) (s : Int) (M : Option Addr) (m d : Nat) (E : Option Addr) (k g : Nat) (h : AuR w B A n c s M m d E k g a) (hB : B ≤ b) (v0 v1 v2 v3 : Value) : AuR ((((w.setCell ⟨b, 0, none⟩ v0).setCell ⟨b, 1, none⟩ v1).setCell ⟨b, 2, none⟩ v2).setCell ⟨b, 3, none⟩ v3) B A n c s M m d E k g a :=
  h.keep fun b' o hlt => cell_set4 (by omega)
theorem AuF.aur {a : Au} {w : World} {base : Nat} (A : Option Addr) (n c : Nat) (s : Int) (M : Option Addr) (m d : Nat) (E : Option Addr) (k g : Nat) (h : AuF a (.agg #[.slice A n c, .int .i64 s, .slice M m d, .slice E k g]) w base) : AuR w w.heap.size A n c s M m d E k g a := by
  obtain ⟨A', n', c', s', M', m', d', E', k', g', e, hr, _⟩ := h
  simp only [Value.agg.injEq, Array.mk.injEq, List.cons.injEq, Value.slice.injEq, Value.int.injEq, and_true, true_and] at e
  obtain ⟨⟨rfl, rfl, rfl⟩, rfl, ⟨rfl, rfl, rfl⟩, rfl, rfl, rfl⟩ := e
  exact hr
theorem LW.put' {W w w1 : World} {l : List (Nat × List Value)} {b : Nat} {x0 x1 x2 x3 : Value} (h1 : LW W l w1) (h : LW W l w) (hr : Row w b 25 [x0, x1, x2, x3]) (hb : w1.heap.size ≤ b) (v0 v1 v2 v3 : Value) : LW W ((b, [v0, v1, v2, v3]) :: l) ((((w.setCell ⟨b, 0, none⟩ v0).setCell ⟨b, 1, none⟩ v1).setCell ⟨b, 2, none⟩ v2).setCell ⟨b, 3, none⟩ v3) :=
  h.put hr (Nat.le_trans h1.bel.size hb) (fun x hx => Nat.ne_of_lt (Nat.lt_of_lt_of_le (h1.bx x.1 x.2 hx).1 hb)) v0 v1 v2 v3
/-- The three ways in which the box is made: behind the calls, between them, ahead of them. -/
def PreR (W : World) (l : List (Nat × List Value)) (v : Value) (wx : World) : Prop := ∃ (bc : Nat) (al : List Int) (a : Au) (A : Option Addr) (n c : Nat) (s : Int) (M : Option Addr) (m d : Nat) (E : Option Addr) (k g : Nat), v = .pointer (some ⟨bc, 0, none⟩) ∧ Hid (LW W ((bc, [.slice A n c, .int .i64 s, .slice M m d, .slice E k g]) :: l) wx) ∧ Hid (Ev5 5 al) ∧ Hid (OkM al a) ∧ Hid (AuR wx wx.heap.size A n c s M m d E k g a)
section
variable {W w1 w2 w3 : World} {l : List (Nat × List Value)} {al : List Int} {a : Au} {A : Option Addr} {n c : Nat} {s : Int} {M : Option Addr} {m d : Nat} {E : Option Addr} {k g : Nat} {base : Nat}
theorem pre_1 (h1 : LW W l w1) (hb2 : Below w1.drew.heap.size w1.drew w2) (hb3 : Below w2.heap.size w2 w3) (hev : Ev5 5 al) (hok : OkM al a) (hau : AuF a (.agg #[.slice A n c, .int .i64 s, .slice M m d, .slice E k g]) w3 base) : PreR W l (.pointer (some ⟨w3.heap.size, 0, none⟩)) (w3.alloc (.cells #[.slice A n c, .int .i64 s, .slice M m d, .slice E k g] 25)) :=
  ⟨_, al, a, A, n, c, s, M, m, d, E, k, g, rfl, ((h1.drew.call hb2).call hb3).new [.slice A n c, .int .i64 s, .slice M m d, .slice E k g] 25, hev, hok, ((hau.aur A n c s M m d E k g).below ((Below.refl _ w3).alloc (Nat.le_refl _) _) (Nat.le_refl _)).more (by simp)⟩
theorem pre_2 {x0 x1 x2 x3 : Value} {o : Obj} (h1 : LW W l w1) (hb2 : Below w1.drew.heap.size w1.drew w2) (hb3 : Below (w2.alloc o).heap.size (w2.alloc o) w3) (hq : Row w3 w2.heap.size 25 [x0, x1, x2, x3]) (hev : Ev5 5 al) (hok : OkM al a) (hau : AuF a (.agg #[.slice A n c, .int .i64 s, .slice M m d, .slice E k g]) w3 (w2.alloc o).heap.size) : PreR W l (.pointer (some ⟨w2.heap.size, 0, none⟩)) ((((w3.setCell ⟨w2.heap.size, 0, none⟩ (.slice A n c)).setCell ⟨w2.heap.size, 1, none⟩ (.int .i64 s)).setCell ⟨w2.heap.size, 2, none⟩ (.slice M m d)).setCell ⟨w2.heap.size, 3, none⟩ (.slice E k g)) :=
  ⟨_, al, a, A, n, c, s, M, m, d, E, k, g, rfl, LW.put' h1 (((h1.drew.call hb2).alloc o).call hb3) hq hb2.size _ _ _ _, hev, hok, AuF.aur A n c s M m d E k g (hau.set4 (by simp) _ _ _ _)⟩
theorem pre_3 {x0 x1 x2 x3 : Value} {o : Obj} (h1 : LW W l w1) (hb2 : Below (w1.alloc o).drew.heap.size (w1.alloc o).drew w2) (hb3 : Below w2.heap.size w2 w3) (hq : Row w3 w1.heap.size 25 [x0, x1, x2, x3]) (hev : Ev5 5 al) (hok : OkM al a) (hau : AuF a (.agg #[.slice A n c, .int .i64 s, .slice M m d, .slice E k g]) w3 w2.heap.size) : PreR W l (.pointer (some ⟨w1.heap.size, 0, none⟩)) ((((w3.setCell ⟨w1.heap.size, 0, none⟩ (.slice A n c)).setCell ⟨w1.heap.size, 1, none⟩ (.int .i64 s)).setCell ⟨w1.heap.size, 2, none⟩ (.slice M m d)).setCell ⟨w1.heap.size, 3, none⟩ (.slice E k g)) :=
  ⟨_, al, a, A, n, c, s, M, m, d, E, k, g, rfl, LW.put' h1 (((h1.alloc o).drew.call hb2).call hb3) hq (Nat.le_refl _) _ _ _ _, hev, hok, AuF.aur A n c s M m d E k g (hau.set4 (by have := hb2.size; simp at this; omega) _ _ _ _)⟩
end
section
variable {W w : World} {l : List (Nat × List Value)}
theorem lw_events {x : Int} (hx : (Lit.int .u8 x).wf = true) (h : LW W l w) : Calls Try.prog 33 #[.int .u8 x] w fun e w' => ∃ zs A n c, zs.length = n ∧ e = .returned (.slice A n c) ∧ Ev5 5 zs ∧ RdI w' w'.heap.size A zs ∧ n ≤ c ∧ LW W l w' :=
  (events_any x w hx).mono fun e w' hh => by
    obtain ⟨zs, hev, A, c, e1, hr, hb, hc, _⟩ := hh
    exact ⟨zs, A, _, c, rfl, e1, hev, hr, hc, h.call hb⟩
theorem lw_make {A0 : Option Addr} {n0 c0 : Nat} {al : List Int} {cs : Array Value} (hx : RdI w w.heap.size A0 al) (hn : al.length = n0) (hc : n0 ≤ c0) (hev : Ev5 5 al) (hg : GrC cs) (h : LW W l w) : Calls Try.prog 32 #[.slice A0 n0 c0, .agg cs] w fun e w' => ∃ a A n c s M m d E k g, e = .returned (.agg #[.slice A n c, .int .i64 s, .slice M m d, .slice E k g]) ∧ OkM al a ∧ AuR w' w'.heap.size A n c s M m d E k g a ∧ LW W l w' :=
  (make_any A0 n0 c0 w.heap.size al cs w hx (Nat.le_refl _) hn hc hev hg).mono fun e w' hh => by
    obtain ⟨a, v, hok, e1, ⟨A, n, c, s, M, m, d, E, k, g, rfl, hr, _⟩, hb⟩ := hh
    exact ⟨a, A, n, c, s, M, m, d, E, k, g, e1, hok, hr, h.call hb⟩
theorem lw_list' {f : FuncId} {args : Array Value} {r : List Int × Int} (hc : Calls Try.prog f args w fun e w' => GivesP w r e w') (h : LW W l w) : Calls Try.prog f args w fun e w' => ∃ A n c, r.1.length = n ∧ e = .returned (.tuple #[.slice A n c, .int .i64 r.2]) ∧ RdI w' w'.heap.size A r.1 ∧ LW W l w' :=
  hc.mono fun e w' hh => by
    obtain ⟨A, c, e1, hr, hb, _⟩ := hh
    exact ⟨A, _, c, rfl, e1, hr, h.call hb⟩
theorem lw_givesC {f : FuncId} {args : Array Value} {zs : List Int} (hc : Calls Try.prog f args w fun e w' => GivesC w zs e w') (h : LW W l w) : Calls Try.prog f args w fun e w' => ∃ A n c, zs.length = n ∧ e = .returned (.slice A n c) ∧ RdI w' w'.heap.size A zs ∧ LW W l w' :=
  hc.mono fun e w' hh => by
    obtain ⟨A, c, e1, hr, hb, _⟩ := hh
    exact ⟨A, _, c, rfl, e1, hr, h.call hb⟩
end
theorem stepR_out {a : Au} {q ev : Int} (hc : chkE a = 0) (hq : inSt a.st q = false) : stepR a q ev = (0, false, 2) := by
  simp [stepR, plE, hc, hq]
theorem stepR_in {a : Au} {q ev : Int} (hc : chkE a = 0) (hq : inSt a.st q = true) (he : ev ∈ a.al) : stepR a q ev = ((stepO a q ev).getD 0, (stepO a q ev).isSome, 0) := by
  simp [stepR, plE, hc, hq, he]
theorem stepR_un {a : Au} {q ev : Int} (hc : chkE a = 0) (hq : inSt a.st q = true) (he : ev ∉ a.al) : stepR a q ev = (0, false, 9) := by
  simp [stepR, plE, hc, hq, he]
theorem enR_out {a : Au} {q : Int} (hc : chkE a = 0) (hq : inSt a.st q = false) : enR a q = ([], 2) := by
  simp [enR, plE, hc, hq]
theorem enR_in {a : Au} {q : Int} (hr : RightW a) (hc : chkE a = 0) (hq : inSt a.st q = true) : enR a q = (enI a q, 0) := by
  simp [enR, plE, hc, hq, en_eq hr]
/-- The way goes on: the boxes are as they were, and so is all memory. -/
structure KW (W : World) (l : List (Nat × List Value)) (w w' : World) : Prop where
  lw : LW W l w'
  bel : Below w.heap.size w w'
theorem KW.of {W w w' : World} {l : List (Nat × List Value)} (h : LW W l w) (hb : Below w.heap.size w w') : KW W l w w' := ⟨h.call hb, hb⟩
theorem KW.ints {W w w' : World} {l : List (Nat × List Value)} (h : KW W l w w') {A : Option Addr} {zs : List Int} (ha : RdI w w.heap.size A zs) : RdI w' w'.heap.size A zs := (ha.below h.bel (Nat.le_refl _)).more h.bel.size
theorem KW.aut {W w w' : World} {l : List (Nat × List Value)} (h : KW W l w w') {a : Au} {A : Option Addr} {n c : Nat} {s : Int} {M : Option Addr} {m d : Nat} {E : Option Addr} {k g : Nat} (ha : AuR w w.heap.size A n c s M m d E k g a) : AuR w' w'.heap.size A n c s M m d E k g a := (ha.below h.bel (Nat.le_refl _)).more h.bel.size
theorem kw_call {f : FuncId} {args : Array Value} {v : Value} {W w : World} {l : List (Nat × List Value)} (hc : Calls Try.prog f args w fun e w' => e = .returned v ∧ Below w.heap.size w w') (h : LW W l w) : Calls Try.prog f args w fun e w' => e = .returned v ∧ KW W l w w' :=
  hc.mono fun e w' hh => ⟨hh.1, KW.of h hh.2⟩
section
variable {W w : World} {l : List (Nat × List Value)} {A : Option Addr} {n c : Nat} {s : Int} {M : Option Addr} {m d : Nat} {E : Option Addr} {k g : Nat} {a : Au}
theorem k_step {q ev nx : Int} {ps : Bool} {er : Int} (hs : stepR a q ev = (nx, ps, er)) (ha : AuR w w.heap.size A n c s M m d E k g a) (h : LW W l w) : Calls Try.prog 18 #[.agg #[.slice A n c, .int .i64 s, .slice M m d, .slice E k g], .int .i64 q, .int .i64 ev] w fun e w' => e = .returned (.tuple #[.int .i64 nx, .bool ps, .int .i64 er]) ∧ KW W l w w' := by
  have := kw_call (mStep_any A n c s M m d E k g a q ev w ha) h
  rw [hs] at this; exact this
theorem k_en {q : Int} {zs : List Int} {er : Int} (hs : enR a q = (zs, er)) (ha : AuR w w.heap.size A n c s M m d E k g a) (h : LW W l w) : Calls Try.prog 20 #[.agg #[.slice A n c, .int .i64 s, .slice M m d, .slice E k g], .int .i64 q] w fun e w' => ∃ A n c, e = .returned (.tuple #[.slice A n c, .int .i64 er]) ∧ zs.length = n ∧ RdI w' w'.heap.size A zs ∧ KW W l w w' := by
  have := (mEnabled_any A n c s M m d E k g a q w ha).mono fun e w' hh => (show ∃ A n c, e = .returned (.tuple #[.slice A n c, .int .i64 (enR a q).2]) ∧ (enR a q).1.length = n ∧ RdI w' w'.heap.size A (enR a q).1 ∧ KW W l w w' by
    obtain ⟨A, c, e1, hr, hb, _⟩ := hh
    exact ⟨A, _, c, e1, rfl, hr, KW.of h hb⟩)
  rw [hs] at this; exact this
theorem k_ren {q : Int} (hr : RightW a) (ha : AuR w w.heap.size A n c s M m d E k g a) (h : LW W l w) : Calls Try.prog 35 #[.agg #[.slice A n c, .int .i64 s, .slice M m d, .slice E k g], .int .i64 q] w fun e w' => ∃ A n c, e = .returned (.slice A n c) ∧ (enI a q).length = n ∧ RdI w' w'.heap.size A (enI a q) ∧ KW W l w w' :=
  (rEnabled_any A n c s M m d E k g a q w.heap.size w ha (Nat.le_refl _) hr).mono fun e w' hh => by
    obtain ⟨A, c, e1, hr, hb, _⟩ := hh
    exact ⟨A, _, c, e1, rfl, hr, KW.of h hb⟩
theorem k_same {A1 A2 : Option Addr} {n1 c1 n2 c2 : Nat} {xs ys : List Int} {r : Bool} (hr : decide (xs = ys) = r) (h1 : RdI w w.heap.size A1 xs) (h2 : RdI w w.heap.size A2 ys) (l1 : xs.length = n1) (l2 : ys.length = n2) (hb : n1 ≤ 100000) (hb2 : n2 ≤ 100000) (h : LW W l w) : Calls Try.prog 34 #[.slice A1 n1 c1, .slice A2 n2 c2] w fun e w' => e = .returned (.bool r) ∧ KW W l w w' :=
  (sameInts_any A1 A2 n1 n2 c1 c2 w.heap.size w.heap.size xs ys w h1 h2 l1 l2 (by omega) (by omega)).mono fun e w' hh => by
    obtain ⟨e1, q, rfl⟩ := hh
    exact ⟨by rw [e1, hr], KW.of h (below_drewN (Below.refl _ _) q)⟩
theorem k_has {A1 : Option Addr} {n1 c1 : Nat} {xs : List Int} {x : Int} {r : Bool} (hr : decide (x ∈ xs) = r) (h1 : RdI w w.heap.size A1 xs) (l1 : xs.length = n1) (hb : n1 ≤ 100000) (h : LW W l w) : Calls Try.prog 36 #[.slice A1 n1 c1, .int .i64 x] w fun e w' => e = .returned (.bool r) ∧ KW W l w w' :=
  (lHas_any A1 n1 c1 w.heap.size xs x w h1 l1 (by omega)).mono fun e w' hh => by
    obtain ⟨e1, rfl⟩ := hh
    exact ⟨by rw [e1, hr], KW.of h (Below.refl _ _)⟩
theorem k_rstep {q ev t : Int} (ht : stepI a q ev = t) (ha : AuR w w.heap.size A n c s M m d E k g a) (h : LW W l w) : Calls Try.prog 37 #[.agg #[.slice A n c, .int .i64 s, .slice M m d, .slice E k g], .int .i64 q, .int .i64 ev] w fun e w' => e = .returned (.int .i64 t) ∧ KW W l w w' := by
  have := kw_call (rStep_any A n c s M m d E k g a q ev w.heap.size w ha (Nat.le_refl _)) h
  rw [ht] at this; exact this
end
theorem succ_en_len {a : Au} (h : RightW a) (q : Int) : (enI a q).length ≤ 32 := Nat.le_trans (List.length_filter_le _ _) (al_len h)
end

section
open Go.RowKit Go.Sort
section
variable {W w : World} {l : List (Nat × List Value)} {A : Option Addr} {n c : Nat} {s : Int} {M : Option Addr} {m d : Nat} {E : Option Addr} {k g : Nat} {a : Au} {A1 : Option Addr} {n1 c1 : Nat} {ws : List Int}
theorem k_gen {b : Bool} (hc : chkE a = 0) (hb : genB a ws = b) (ha : AuR w w.heap.size A n c s M m d E k g a) (hw : RdI w w.heap.size A1 ws) (hl : ws.length = n1) (hn : n1 ≤ 100000) (h : LW W l w) : Calls Try.prog 21 #[.agg #[.slice A n c, .int .i64 s, .slice M m d, .slice E k g], .slice A1 n1 c1] w fun e w' => e = .returned (.tuple #[.bool b, .int .i64 0]) ∧ KW W l w w' := by
  have := kw_call (mGenerates_any A n c s M m d E k g a A1 n1 c1 ws w ha hw hl hn) h
  rw [show genR a ws = (b, 0) by simp [genR, hc, hb]] at this; exact this
theorem k_acc {b : Bool} (hc : chkE a = 0) (hb : accB a ws = b) (ha : AuR w w.heap.size A n c s M m d E k g a) (hw : RdI w w.heap.size A1 ws) (hl : ws.length = n1) (hn : n1 ≤ 100000) (h : LW W l w) : Calls Try.prog 22 #[.agg #[.slice A n c, .int .i64 s, .slice M m d, .slice E k g], .slice A1 n1 c1] w fun e w' => e = .returned (.tuple #[.bool b, .int .i64 0]) ∧ KW W l w w' := by
  have := kw_call (mAccepts_any A n c s M m d E k g a A1 n1 c1 ws w ha hw hl hn) h
  rw [show accR a ws = (b, 0) by simp [accR, hc, hb]] at this; exact this
theorem k_rgen {b : Bool} (hr : RightW a) (hb : genB a ws = b) (ha : AuR w w.heap.size A n c s M m d E k g a) (hw : RdI w w.heap.size A1 ws) (hl : ws.length = n1) (hn : n1 ≤ 100000) (h : LW W l w) : Calls Try.prog 38 #[.agg #[.slice A n c, .int .i64 s, .slice M m d, .slice E k g], .slice A1 n1 c1] w fun e w' => e = .returned (.bool b) ∧ KW W l w w' := by
  have := kw_call (rGenerates_any A n c s M m d E k g a A1 n1 c1 ws w.heap.size w ha (Nat.le_refl _) hr hw hl hn) h
  rw [hb] at this; exact this
theorem k_racc {b : Bool} (hr : RightW a) (hb : accB a ws = b) (ha : AuR w w.heap.size A n c s M m d E k g a) (hw : RdI w w.heap.size A1 ws) (hl : ws.length = n1) (hn : n1 ≤ 100000) (h : LW W l w) : Calls Try.prog 39 #[.agg #[.slice A n c, .int .i64 s, .slice M m d, .slice E k g], .slice A1 n1 c1] w fun e w' => e = .returned (.bool b) ∧ KW W l w w' := by
  have := kw_call (rAccepts_any A n c s M m d E k g a A1 n1 c1 ws w.heap.size w ha (Nat.le_refl _) hr hw hl hn) h
  rw [hb] at this; exact this
theorem k_run {q x y er : Int} (hs : runR a q ws = (x, y, er)) (ha : AuR w w.heap.size A n c s M m d E k g a) (hw : RdI w w.heap.size A1 ws) (hl : ws.length = n1) (hn : n1 ≤ 100000) (h : LW W l w) : Calls Try.prog 19 #[.agg #[.slice A n c, .int .i64 s, .slice M m d, .slice E k g], .int .i64 q, .slice A1 n1 c1] w fun e w' => e = .returned (.tuple #[.int .i64 x, .int .i64 y, .int .i64 er]) ∧ KW W l w w' := by
  have := kw_call (mRun_any A n c s M m d E k g a q A1 n1 c1 ws w ha hw hl hn) h
  rw [hs] at this; exact this
theorem k_rrun {q x y : Int} (hx : (runE a q ws).1 = x) (hy : ((runE a q ws).2 : Int) = y) (hr : RightW a) (ha : AuR w w.heap.size A n c s M m d E k g a) (hw : RdI w w.heap.size A1 ws) (hl : ws.length = n1) (hn : n1 ≤ 100000) (h : LW W l w) : Calls Try.prog 40 #[.agg #[.slice A n c, .int .i64 s, .slice M m d, .slice E k g], .int .i64 q, .slice A1 n1 c1] w fun e w' => e = .returned (.tuple #[.int .i64 x, .int .i64 y]) ∧ KW W l w w' := by
  have := kw_call (rRun_any A n c s M m d E k g a q A1 n1 c1 ws w.heap.size w ha (Nat.le_refl _) hr hw hl hn) h
  rw [hx, hy] at this; exact this
end
theorem runR_out {a : Au} {q : Int} {ws : List Int} (hc : chkE a = 0) (hq : inSt a.st q = false) : runR a q ws = (0, 0, 2) := by simp [runR, plE, hc, hq]
theorem runR_in {a : Au} {q : Int} {ws : List Int} (hc : chkE a = 0) (hq : inSt a.st q = true) (hi : inB a.al ws = true) : runR a q ws = ((runE a q ws).1, ((runE a q ws).2 : Int), 0) := by simp [runR, plE, hc, hq, hi]
theorem runR_un {a : Au} {q : Int} {ws : List Int} (hc : chkE a = 0) (hq : inSt a.st q = true) (hi : inB a.al ws = false) : runR a q ws = (0, 0, 9) := by simp [runR, plE, hc, hq, hi]
theorem in_at {zs ws : List Int} {k : Nat} (h : inB zs ws = true) (hk : k < ws.length) : decide (ws.getD k 0 ∈ zs) = true := by
  unfold inB at h
  exact List.all_eq_true.1 h _ (getD_mem hk)
end
end Go.Proofs.Ytcciiikaejjooaa
