/- Texts merged: what follows were texts of their own. -/
import Derived.Test.YtceldgcmjmfjfaaZa2
import Derived.ProofKit
import Derived.OpenShut
import Derived.ShutString
import Derived.ChangeOld
import Derived.Below
import Derived.Deep.Slices
import Derived.Deep.Fields
import Derived.Test.YtceldgcmjmfjfaaZa8
set_option linter.unusedVariables false
set_option linter.unusedSimpArgs false
set_option linter.unusedSectionVars false
/- Layer 3: what is told of arguments that came in: an automaton, a slice of ints. -/
namespace Go.Proofs.Ytceldgcmjmfjfaa
open Go.ChangeShapes Go.WideShapes Go.ChangeAt Go.RowKit Go.Deep
open Go.ChangeMaps (open_string shut_string)

theorem own : ownKnob Try.prog.godebug = none := by kernel_rfl
theorem laidOut : laidOutB Try.prog = true := by kernel_rfl

/-- A slice of ints that came in. -/
structure SlI (W : World) (v : Value) (A : Option Addr) (n c : Nat) (zs : List Int) : Prop where
  eq : v = .slice A n c
  len : zs.length = n
  rd : RdI W W.heap.size A zs
  wf : ∀ z ∈ zs, (Lit.int .i64 z).wf = true
  cap : n ≤ c
  top : c ≤ 9223372036854775807

section
variable {H : Type} {enc : TypeId × Value → H} {W : World} {a0 : Option Addr} {len cap : Nat} {d : DataW H} {p : List MemPlace}

set_option maxRecDepth 8000 in
theorem open_rdI (h : DataW.Trod enc Try.prog W 0 (fun _ => true) true 27 (.slice a0 len cap) d p) (hlt : ∀ x ∈ p, x.block < W.heap.size) :
    ∃ zs : List Int, zs.length = len ∧ RdI W W.heap.size a0 zs ∧ (∀ z ∈ zs, (Lit.int .i64 z).wf = true) ∧ len ≤ maxLen := by
  obtain ⟨fuel, hf⟩ := h
  rcases open_ints Try.underlying27 Try.underlying3 (by kernel_rfl) hf with ⟨hcs, _⟩ | ⟨a, l, c, zs, hcs, _, hl, hm, hz, hx, hcell, hwz⟩
  · simp [Value.cells] at hcs
    obtain ⟨rfl, rfl, rfl⟩ := hcs
    exact ⟨[], rfl, RdI.nil _ _ _, by simp, by unfold maxLen; omega⟩
  · simp [Value.cells] at hcs
    obtain ⟨rfl, rfl, rfl⟩ := hcs
    simp only [Prod.mk.injEq] at hx
    obtain ⟨rfl, rfl⟩ := hx
    simp only [if_true] at hz
    refine ⟨zs.take len, by rw [List.length_take]; omega, fun h0 => ?_, fun z hz' => hwz z (List.mem_of_mem_take hz'), by omega⟩
    rw [List.length_take] at h0
    obtain ⟨b, off, spot⟩ := a
    have hspot : spot = none := by simpa [Addr.add] using World.cell?_spot (hcell 0 (by omega))
    subst hspot
    refine ⟨b, off, rfl, hlt (.cell b off) (MemPlace.mem_row.2 ⟨0, by omega, by simp⟩), fun j hj => ?_⟩
    rw [List.length_take] at hj
    rw [← add_plain, hcell j (by omega)]
    simp [List.getD, show j < len by omega]

set_option maxRecDepth 8000 in
theorem open_rdG (h : DataW.Trod enc Try.prog W 0 (fun _ => true) true 28 (.slice a0 len cap) d p) (hlt : ∀ x ∈ p, x.block < W.heap.size) :
    ∃ l : List Ed, l.length = len ∧ RdG W W.heap.size a0 l ∧ len ≤ maxLen := by
  obtain ⟨fuel, hf⟩ := h
  rcases open_slice Try.underlying28 hf with ⟨hcs, _⟩ | ⟨a, l, c, m, n, D, Pl, hcs, _, hl, hm, hmm, hx, hi⟩
  · simp [Value.cells] at hcs
    obtain ⟨rfl, rfl, rfl⟩ := hcs
    exact ⟨[], rfl, fun h => absurd h (by simp), by unfold maxLen; omega⟩
  · simp [Value.cells] at hcs
    obtain ⟨rfl, rfl, rfl⟩ := hcs
    have h5 : Try.prog.cellsOf 70 = 3 := by kernel_rfl
    simp only [if_true] at hmm
    have each : ∀ j, j < m → ∃ x : Ed, W.cell? (a.add (j * 3)) = some (.int .i64 x.f) ∧ W.cell? ((a.add (j * 3)).add 1) = some (.int .i64 x.e) ∧ W.cell? ((a.add (j * 3)).add 2) = some (.int .i64 x.t) := by
      intro j hj
      obtain ⟨cs', hc, ht⟩ := hi j hj
      rw [h5] at hc
      obtain ⟨_, hcl, hat⟩ := World.cells?_some hc
      obtain ⟨ys, n', _, _, _, hyl, hfd⟩ := DataW.trod_struct Try.underlying70 ht
      match cs', hcl with
      | [c0, c1, c2], _ =>
        match ys, hyl with
        | [y0, y1, y2], _ =>
          have f0 : DataW.trod enc Try.prog W 0 (fun _ => true) true n' 3 (([c0, c1, c2].drop 0).take (Try.prog.cellsOf 3)) = some y0 := hfd 0 _ rfl
          have f1 : DataW.trod enc Try.prog W 0 (fun _ => true) true n' 3 (([c0, c1, c2].drop 1).take (Try.prog.cellsOf 3)) = some y1 := hfd 1 _ rfl
          have f2 : DataW.trod enc Try.prog W 0 (fun _ => true) true n' 3 (([c0, c1, c2].drop 2).take (Try.prog.cellsOf 3)) = some y2 := hfd 2 _ rfl
          have k3 : Try.prog.cellsOf 3 = 1 := by kernel_rfl
          rw [k3] at f0 f1 f2
          obtain ⟨q0, e0, _, _⟩ := DataW.trod_int Try.underlying3 f0
          obtain ⟨q1, e1, _, _⟩ := DataW.trod_int Try.underlying3 f1
          obtain ⟨q2, e2, _, _⟩ := DataW.trod_int Try.underlying3 f2
          simp only [List.drop, List.take, List.cons.injEq, and_true] at e0 e1 e2
          subst e0 e1 e2
          refine ⟨⟨q0, q1, q2⟩, ?_, hat 1 (by omega), hat 2 (by omega)⟩
          have := hat 0 (by omega)
          simpa [Addr.add] using this
    have each' : ∀ j : Nat, ∃ x : Ed, j < m → W.cell? (a.add (j * 3)) = some (.int .i64 x.f) ∧ W.cell? ((a.add (j * 3)).add 1) = some (.int .i64 x.e) ∧ W.cell? ((a.add (j * 3)).add 2) = some (.int .i64 x.t) := by
      intro j
      by_cases hj : j < m
      · obtain ⟨x, hx⟩ := each j hj
        exact ⟨x, fun _ => hx⟩
      · exact ⟨⟨0, 0, 0⟩, fun h => absurd h hj⟩
    obtain ⟨E, hE⟩ := Classical.axiomOfChoice each'
    refine ⟨(List.range len).map E, by simp, fun h0 => ?_, by omega⟩
    have h0' : 0 < len := by simpa using h0
    obtain ⟨b, off, spot⟩ := a
    have hspot : spot = none := by simpa [Addr.add] using World.cell?_spot (hE 0 (by omega)).1
    subst hspot
    simp only [Prod.mk.injEq] at hx
    obtain ⟨rfl, rfl⟩ := hx
    refine ⟨b, off, rfl, hlt (.cell b off) (List.mem_append_left _ (MemPlace.mem_row.2 ⟨0, by rw [h5]; omega, by simp⟩)), fun j x hj => ?_⟩
    rw [List.getElem?_map] at hj
    by_cases hjl : j < len
    · rw [List.getElem?_range hjl] at hj
      simp only [Option.map_some, Option.some.injEq] at hj
      subst hj
      obtain ⟨g0, g1, g2⟩ := hE j (by omega)
      simp only [add_plain] at g0 g1 g2
      exact ⟨g0, g1, g2⟩
    · rw [List.getElem?_eq_none (by simp; omega)] at hj
      cases hj
theorem cap_ints (h : DataW.Trod enc Try.prog W 0 (fun _ => true) true 27 (.slice a0 len cap) d p) : len ≤ cap := by
  obtain ⟨fuel, hf⟩ := h
  rcases open_slice Try.underlying27 hf with ⟨hcs, _⟩ | ⟨a, l, c, m, n, D, Pl, hcs, _, hl, _⟩
  · simp [Value.cells] at hcs; omega
  · simp [Value.cells] at hcs; omega
end

section
variable {H : Type} {enc : TypeId × Value → H} {W : World} {d : DataW H} {p : List MemPlace} {v : Value} {base : Nat}
set_option maxRecDepth 8000 in
theorem open_sl {n : Nat} {c : Value} {y : DataW H × List MemPlace} (hf : DataW.trod enc Try.prog W 0 (fun _ => true) true n 27 [c] = some y) (hlt : ∀ x ∈ y.2, x.block < W.heap.size) : ∃ A len cap zs, SlI W c A len cap zs := by
  rcases open_ints Try.underlying27 Try.underlying3 (by kernel_rfl) hf with ⟨hcs, _⟩ | ⟨a, l, cp, zs, hcs, _, hl, hm, _⟩
  · simp at hcs
    subst hcs
    exact ⟨none, 0, 0, [], rfl, rfl, RdI.nil _ _ _, by simp, Nat.le_refl _, by omega⟩
  · simp at hcs
    subst hcs
    have ht : DataW.Trod enc Try.prog W 0 (fun _ => true) true 27 (.slice (some a) l cp) y.1 y.2 := ⟨n, hf⟩
    obtain ⟨z, e1, e2, e3, _⟩ := open_rdI ht hlt
    exact ⟨some a, l, cp, z, rfl, e1, e2, e3, hl, by unfold maxLen at hm; omega⟩
/-- A slice of edges that came in. -/
structure SlG (W : World) (v : Value) (A : Option Addr) (n c : Nat) (l : List Ed) : Prop where
  eq : v = .slice A n c
  len : l.length = n
  rd : RdG W W.heap.size A l
  cap : n ≤ c
  top : c ≤ 9223372036854775807
set_option maxRecDepth 8000 in
theorem open_slG {n : Nat} {c : Value} {y : DataW H × List MemPlace} (hf : DataW.trod enc Try.prog W 0 (fun _ => true) true n 28 [c] = some y) (hlt : ∀ x ∈ y.2, x.block < W.heap.size) : ∃ A len cap zs, SlG W c A len cap zs := by
  rcases open_slice Try.underlying28 hf with ⟨hcs, _⟩ | ⟨a, l, cp, m, n', D, Pl, hcs, _, hl, hm, _⟩
  · simp at hcs
    subst hcs
    exact ⟨none, 0, 0, [], rfl, rfl, RdG.nil _ _ _, Nat.le_refl _, by omega⟩
  · simp at hcs
    subst hcs
    have ht : DataW.Trod enc Try.prog W 0 (fun _ => true) true 28 (.slice (some a) l cp) y.1 y.2 := ⟨n, hf⟩
    obtain ⟨z, e1, e2, _⟩ := open_rdG ht hlt
    exact ⟨some a, l, cp, z, rfl, e1, e2, hl, by unfold maxLen at hm; omega⟩
/-- An automaton that came in, of any size. -/
structure AuI (W : World) (A : Option Addr) (n c : Nat) (s : Int) (M : Option Addr) (m d : Nat) (E : Option Addr) (k g : Nat) (a : Au) : Prop where
  al : RdI W W.heap.size A a.al
  mr : RdI W W.heap.size M a.mr
  ed : RdG W W.heap.size E a.ed
  hn : a.al.length = n
  hm : a.mr.length = m
  hk : a.ed.length = k
  st : a.st = s
  cn : n ≤ c ∧ c ≤ 9223372036854775807
  cm : m ≤ d ∧ d ≤ 9223372036854775807
  ck : k ≤ g ∧ g ≤ 9223372036854775807
  wf : (Lit.int .i64 s).wf = true
theorem AuI.r {W : World} {A : Option Addr} {n c : Nat} {s : Int} {M : Option Addr} {m d : Nat} {E : Option Addr} {k g : Nat} {a : Au} (h : AuI W A n c s M m d E k g a) (h1 : n ≤ 12) (h2 : m ≤ 12) (h3 : k ≤ 12) : AuR W W.heap.size A n c s M m d E k g a :=
  { al := h.al, mr := h.mr, ed := h.ed, hn := h.hn, hm := h.hm, hk := h.hk, st := h.st, cn := h.cn, cm := h.cm, ck := h.ck, bn := by omega, bm := by omega, bk := by omega }
set_option maxRecDepth 8000 in
theorem open_aut (hval : Value.okWide Try.prog W .any base 30 v) (h : DataW.Trod enc Try.prog W 0 (fun _ => true) true 30 v d p) (hlt : ∀ x ∈ p, x.block < W.heap.size) :
    ∃ A n c s M m d' E k g a, v = .agg #[.slice A n c, .int .i64 s, .slice M m d', .slice E k g] ∧ AuI W A n c s M m d' E k g a := by
  obtain ⟨cs, rfl, hsz⟩ := okWide_struct Try.underlying30 hval
  have h4 : Try.prog.cellsOf 30 = 4 := by kernel_rfl
  have h1 : Try.prog.cellsOf 27 = 1 := by kernel_rfl
  have h2 : Try.prog.cellsOf 3 = 1 := by kernel_rfl
  have h3 : Try.prog.cellsOf 28 = 1 := by kernel_rfl
  rw [h4] at hsz
  obtain ⟨fuel, hf⟩ := h
  obtain ⟨ys, n', _, hx, _, hyl, hfd⟩ := DataW.trod_struct Try.underlying30 hf
  obtain ⟨l⟩ := cs
  match l, hsz with
  | [s0, s1, s2, s3], _ =>
    match ys, hyl with
    | [y0, y1, y2, y3], _ =>
      have f0 : DataW.trod enc Try.prog W 0 (fun _ => true) true n' 27 (([s0, s1, s2, s3].drop 0).take (Try.prog.cellsOf 27)) = some y0 := hfd 0 _ rfl
      have f1 : DataW.trod enc Try.prog W 0 (fun _ => true) true n' 3 (([s0, s1, s2, s3].drop 1).take (Try.prog.cellsOf 3)) = some y1 := hfd 1 _ rfl
      have f2 : DataW.trod enc Try.prog W 0 (fun _ => true) true n' 27 (([s0, s1, s2, s3].drop 2).take (Try.prog.cellsOf 27)) = some y2 := hfd 2 _ rfl
      have f3 : DataW.trod enc Try.prog W 0 (fun _ => true) true n' 28 (([s0, s1, s2, s3].drop 3).take (Try.prog.cellsOf 28)) = some y3 := hfd 3 _ rfl
      rw [h1] at f0 f2
      rw [h2] at f1
      rw [h3] at f3
      injection hx with hx1 hx2
      subst hx2
      obtain ⟨A, n, c, za, SA⟩ := open_sl (c := s0) f0 (fun x hx => hlt x (by simp [hx]))
      obtain ⟨q, e1, _, hq⟩ := DataW.trod_int Try.underlying3 f1
      obtain ⟨M, m, dd, zm, SM⟩ := open_sl (c := s2) f2 (fun x hx => hlt x (by simp [hx]))
      obtain ⟨E, k, g, ze, SE⟩ := open_slG (c := s3) f3 (fun x hx => hlt x (by simp [hx]))
      simp only [List.drop, List.take, List.cons.injEq, and_true] at e1
      refine ⟨A, n, c, q, M, m, dd, E, k, g, ⟨za, q, zm, ze⟩, by rw [SA.eq, SM.eq, SE.eq, e1], SA.rd, SM.rd, SE.rd, SA.len, SM.len, SE.len, rfl, ⟨SA.cap, SA.top⟩, ⟨SM.cap, SM.top⟩, ⟨SE.cap, SE.top⟩, hq⟩
end
end Go.Proofs.Ytceldgcmjmfjfaa

/- Layer 4: what is told of descriptions that came in. -/
namespace Go.Proofs.Ytceldgcmjmfjfaa

section
open Go.ChangeShapes Go.WideShapes Go.ChangeAt Go.RowKit Go.Deep
section
variable {H : Type} {enc : TypeId × Value → H} {W : World} {d : DataW H} {p : List MemPlace} {v : Value} {base : Nat}
theorem open_u8 {n : Nat} {c : Value} {y : DataW H × List MemPlace} (hf : DataW.trod enc Try.prog W 0 (fun _ => true) true n 5 [c] = some y) : ∃ z, c = .int .u8 z ∧ 0 ≤ z ∧ z < 256 := by
  obtain ⟨q, e, _, hw⟩ := DataW.trod_int Try.underlying5 hf
  simp at e
  subst e
  exact ⟨q, rfl, by simp [Lit.wf, IntKind.min, IntKind.max, IntKind.signed, IntKind.bits] at hw; omega⟩
theorem drop_one {cs : List Value} {i : Nat} (h : i < cs.length) : (cs.drop i).take 1 = [cs[i]] := by
  rw [List.drop_eq_getElem_cons h]; rfl
set_option maxRecDepth 8000 in
theorem open_small4 (hval : Value.okWide Try.prog W .any base 25 v) (h : DataW.Trod enc Try.prog W 0 (fun _ => true) true 25 v d p) : ∃ cs, v = .agg cs ∧ SmC cs := by
  simp only [Value.okWide, Try.underlying25] at hval
  obtain ⟨cs, rfl, hsz, _⟩ := hval
  have h26 : Try.prog.cellsOf 25 = 26 := by kernel_rfl
  have h24 : Try.prog.cellsOf 23 = 24 := by kernel_rfl
  have h4 : Try.prog.cellsOf 22 = 4 := by kernel_rfl
  have h1 : Try.prog.cellsOf 5 = 1 := by kernel_rfl
  rw [h26] at hsz
  obtain ⟨fuel, hf⟩ := h
  obtain ⟨ys, n', _, hx, _, hyl, hfd⟩ := DataW.trod_struct Try.underlying25 hf
  have hcl : cs.toList.length = 26 := by simpa using hsz
  match ys, hyl with
  | [y0, y1, y2], _ =>
    have f0 : DataW.trod enc Try.prog W 0 (fun _ => true) true n' 5 ((cs.toList.drop 0).take (Try.prog.cellsOf 5)) = some y0 := hfd 0 _ rfl
    have f1 : DataW.trod enc Try.prog W 0 (fun _ => true) true n' 5 ((cs.toList.drop 1).take (Try.prog.cellsOf 5)) = some y1 := hfd 1 _ rfl
    have f2 : DataW.trod enc Try.prog W 0 (fun _ => true) true n' 23 ((cs.toList.drop 2).take (Try.prog.cellsOf 23)) = some y2 := hfd 2 _ rfl
    rw [h1, drop_one (by omega)] at f0 f1
    rw [h24] at f2
    obtain ⟨a0, e0, b0⟩ := open_u8 f0
    obtain ⟨a1, e1, b1⟩ := open_u8 f1
    obtain ⟨xs, m, _, hx2, _, hl2, hi2⟩ := DataW.trod_array Try.underlying23 f2
    refine ⟨cs, rfl, hsz, fun i hi => ?_⟩
    have key : ∃ x : Int, cs.toList[i]'(by omega) = .int .u8 x ∧ 0 ≤ x ∧ x < 256 := by
      rcases Nat.lt_or_ge i 2 with h2 | h2
      · rcases Nat.lt_or_ge i 1 with h3 | h3
        · obtain rfl : i = 0 := by omega
          exact ⟨a0, e0, b0⟩
        · obtain rfl : i = 1 := by omega
          exact ⟨a1, e1, b1⟩
      · obtain ⟨q, r, hq, hr, he⟩ : ∃ q r, q < 6 ∧ r < 4 ∧ i = 2 + q * 4 + r := ⟨(i - 2) / 4, (i - 2) % 4, by omega, by omega, by omega⟩
        have g := hi2 q hq
        rw [List.getElem?_eq_getElem (by omega), h4] at g
        obtain ⟨zs, m2, _, _, _, hl3, hi3⟩ := DataW.trod_array Try.underlying22 g
        have g2 := hi3 r hr
        rw [List.getElem?_eq_getElem (by omega), h1, Nat.mul_one] at g2
        rw [drop_one (by simp; omega)] at g2
        obtain ⟨x, ex, bx⟩ := open_u8 g2
        refine ⟨x, ?_, bx⟩
        rw [← ex]
        simp only [List.getElem_take, List.getElem_drop]
        congr 1
        omega
    obtain ⟨x, ex, bx⟩ := key
    refine ⟨x, ?_, bx⟩
    rw [← ex]
    simp [hsz, hi]
end
end
end Go.Proofs.Ytceldgcmjmfjfaa
