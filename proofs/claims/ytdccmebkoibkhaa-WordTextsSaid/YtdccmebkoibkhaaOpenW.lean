/- What is told of arguments that came in: a slice of ints reads as a list of ints, a slice of events as a list of events. -/
import Derived.Test.YtdccmebkoibkhaaEvents
import Derived.ProofKit
import Derived.OpenShut
import Derived.ShutString
import Derived.ChangeOld
import Derived.Below
import Derived.Deep.Slices
import Derived.Deep.Fields
namespace Go.Proofs.Ytdccmebkoibkhaa
open Go.ChangeShapes Go.WideShapes Go.ChangeAt Go.RowKit Go.Deep
open Go.ChangeMaps (open_string shut_string)

theorem own : ownKnob Try.prog.godebug = none := by kernel_rfl
theorem laidOut : laidOutB Try.prog = true := by kernel_rfl

section
variable {H : Type} {enc : TypeId × Value → H} {W : World} {a0 : Option Addr} {len cap : Nat} {d : DataW H} {p : List MemPlace}

set_option maxRecDepth 8000 in
theorem open_rdI (h : DataW.Trod enc Try.prog W 0 (fun _ => true) true 22 (.slice a0 len cap) d p) (hlt : ∀ x ∈ p, x.block < W.heap.size) :
    ∃ zs : List Int, zs.length = len ∧ RdI W W.heap.size a0 zs ∧ (∀ z ∈ zs, (Lit.int .i64 z).wf = true) ∧ len ≤ maxLen := by
  obtain ⟨fuel, hf⟩ := h
  rcases open_ints Try.underlying22 Try.underlying3 (by kernel_rfl) hf with ⟨hcs, _⟩ | ⟨a, l, c, zs, hcs, _, hl, hm, hz, hx, hcell, hwz⟩
  · simp [Value.cells] at hcs
    obtain ⟨rfl, rfl, rfl⟩ := hcs
    exact ⟨[], rfl, RdI.nil _ _ _, by simp, by unfold maxLen; omega⟩
  · simp [Value.cells] at hcs
    obtain ⟨rfl, rfl, rfl⟩ := hcs
    simp only [Prod.mk.injEq] at hx
    obtain ⟨rfl, rfl⟩ := hx
    simp only [if_true] at hz
    refine ⟨zs.take len, by rw [List.length_take]; omega, fun h0 => ?_, fun z hz' => hwz z (List.mem_of_mem_take hz'), by omega⟩
    rw [List.length_take] at h0
    obtain ⟨b, off, spot⟩ := a
    have hspot : spot = none := by simpa [Addr.add] using World.cell?_spot (hcell 0 (by omega))
    subst hspot
    refine ⟨b, off, rfl, hlt (.cell b off) (MemPlace.mem_row.2 ⟨0, by omega, by simp⟩), fun j hj => ?_⟩
    rw [List.length_take] at hj
    rw [← add_plain, hcell j (by omega)]
    simp [List.getD, show j < len by omega]

set_option maxRecDepth 8000 in
theorem open_rdE (h : DataW.Trod enc Try.prog W 0 (fun _ => true) true 54 (.slice a0 len cap) d p) (hlt : ∀ x ∈ p, x.block < W.heap.size) :
    ∃ l : List Ev, l.length = len ∧ RdE W W.heap.size a0 l ∧ (∀ x ∈ l, x.name.size ≤ maxLen ∧ (Lit.int .i64 x.fault).wf = true) ∧ len ≤ maxLen := by
  obtain ⟨fuel, hf⟩ := h
  rcases open_slice Try.underlying54 hf with ⟨hcs, _⟩ | ⟨a, l, c, m, n, D, Pl, hcs, _, hl, hm, hmm, hx, hi⟩
  · simp [Value.cells] at hcs
    obtain ⟨rfl, rfl, rfl⟩ := hcs
    exact ⟨[], rfl, fun h => absurd h (by simp), by simp, by unfold maxLen; omega⟩
  · simp [Value.cells] at hcs
    obtain ⟨rfl, rfl, rfl⟩ := hcs
    have h5 : Try.prog.cellsOf 75 = 5 := by kernel_rfl
    simp only [if_true] at hmm
    have each : ∀ j, j < m → ∃ x : Ev, x.name.size ≤ maxLen ∧ (Lit.int .i64 x.fault).wf = true ∧ W.cell? (a.add (j * 5)) = some (.string x.name) ∧ W.cell? ((a.add (j * 5)).add 1) = some (.bool x.con) ∧ W.cell? ((a.add (j * 5)).add 2) = some (.bool x.obs) ∧
        W.cell? ((a.add (j * 5)).add 3) = some (.bool x.frc) ∧ W.cell? ((a.add (j * 5)).add 4) = some (.int .i64 x.fault) := by
      intro j hj
      obtain ⟨cs', hc, ht⟩ := hi j hj
      rw [h5] at hc
      obtain ⟨_, hcl, hat⟩ := World.cells?_some hc
      obtain ⟨ys, n', _, _, _, hyl, hfd⟩ := DataW.trod_struct Try.underlying75 ht
      match cs', hcl with
      | [c0, c1, c2, c3, c4], _ =>
        match ys, hyl with
        | [y0, y1, y2, y3, y4], _ =>
          have f0 : DataW.trod enc Try.prog W 0 (fun _ => true) true n' 9 (([c0, c1, c2, c3, c4].drop 0).take (Try.prog.cellsOf 9)) = some y0 := hfd 0 _ rfl
          have f1 : DataW.trod enc Try.prog W 0 (fun _ => true) true n' 4 (([c0, c1, c2, c3, c4].drop 1).take (Try.prog.cellsOf 4)) = some y1 := hfd 1 _ rfl
          have f2 : DataW.trod enc Try.prog W 0 (fun _ => true) true n' 4 (([c0, c1, c2, c3, c4].drop 2).take (Try.prog.cellsOf 4)) = some y2 := hfd 2 _ rfl
          have f3 : DataW.trod enc Try.prog W 0 (fun _ => true) true n' 4 (([c0, c1, c2, c3, c4].drop 3).take (Try.prog.cellsOf 4)) = some y3 := hfd 3 _ rfl
          have f4 : DataW.trod enc Try.prog W 0 (fun _ => true) true n' 3 (([c0, c1, c2, c3, c4].drop 4).take (Try.prog.cellsOf 3)) = some y4 := hfd 4 _ rfl
          have k9 : Try.prog.cellsOf 9 = 1 := by kernel_rfl
          have k4 : Try.prog.cellsOf 4 = 1 := by kernel_rfl
          have k3 : Try.prog.cellsOf 3 = 1 := by kernel_rfl
          rw [k9] at f0
          rw [k4] at f1 f2 f3
          rw [k3] at f4
          obtain ⟨s, e0, _, hs⟩ := DataW.trod_string Try.underlying9 f0
          obtain ⟨b1, e1, _⟩ := DataW.trod_bool Try.underlying4 f1
          obtain ⟨b2, e2, _⟩ := DataW.trod_bool Try.underlying4 f2
          obtain ⟨b3, e3, _⟩ := DataW.trod_bool Try.underlying4 f3
          obtain ⟨q, e4, _, hw⟩ := DataW.trod_int Try.underlying3 f4
          simp only [List.drop, List.take, List.cons.injEq, and_true] at e0 e1 e2 e3 e4
          subst e0 e1 e2 e3 e4
          refine ⟨⟨s, b1, b2, b3, q⟩, hs, hw, ?_, hat 1 (by omega), hat 2 (by omega), hat 3 (by omega), hat 4 (by omega)⟩
          have := hat 0 (by omega)
          simpa [Addr.add] using this
    have each' : ∀ j : Nat, ∃ x : Ev, j < m → x.name.size ≤ maxLen ∧ (Lit.int .i64 x.fault).wf = true ∧ W.cell? (a.add (j * 5)) = some (.string x.name) ∧ W.cell? ((a.add (j * 5)).add 1) = some (.bool x.con) ∧ W.cell? ((a.add (j * 5)).add 2) = some (.bool x.obs) ∧
        W.cell? ((a.add (j * 5)).add 3) = some (.bool x.frc) ∧ W.cell? ((a.add (j * 5)).add 4) = some (.int .i64 x.fault) := by
      intro j
      by_cases hj : j < m
      · obtain ⟨x, hx⟩ := each j hj
        exact ⟨x, fun _ => hx⟩
      · exact ⟨⟨ByteArray.empty, false, false, false, 0⟩, fun h => absurd h hj⟩
    obtain ⟨E, hE⟩ := Classical.axiomOfChoice each'
    refine ⟨(List.range len).map E, by simp, fun h0 => ?_, fun x hx => ?_, by omega⟩
    · have h0' : 0 < len := by simpa using h0
      obtain ⟨b, off, spot⟩ := a
      have hspot : spot = none := by simpa [Addr.add] using World.cell?_spot (hE 0 (by omega)).2.2.1
      subst hspot
      simp only [Prod.mk.injEq] at hx
      obtain ⟨rfl, rfl⟩ := hx
      refine ⟨b, off, rfl, hlt (.cell b off) (List.mem_append_left _ (MemPlace.mem_row.2 ⟨0, by rw [h5]; omega, by simp⟩)), fun j x hj => ?_⟩
      rw [List.getElem?_map] at hj
      by_cases hjl : j < len
      · rw [List.getElem?_range hjl] at hj
        simp only [Option.map_some, Option.some.injEq] at hj
        subst hj
        obtain ⟨_, _, g0, g1, g2, g3, g4⟩ := hE j (by omega)
        simp only [add_plain] at g0 g1 g2 g3 g4
        exact ⟨g0, g1, g2, g3, g4⟩
      · rw [List.getElem?_eq_none (by simp; omega)] at hj
        cases hj
    · obtain ⟨j, hj, rfl⟩ := List.mem_map.1 hx
      have := hE j (by have := List.mem_range.1 hj; omega)
      exact ⟨this.1, this.2.1⟩
theorem cap_ints (h : DataW.Trod enc Try.prog W 0 (fun _ => true) true 22 (.slice a0 len cap) d p) : len ≤ cap := by
  obtain ⟨fuel, hf⟩ := h
  rcases open_slice Try.underlying22 hf with ⟨hcs, _⟩ | ⟨a, l, c, m, n, D, Pl, hcs, _, hl, _⟩
  · simp [Value.cells] at hcs; omega
  · simp [Value.cells] at hcs; omega
theorem cap_events (h : DataW.Trod enc Try.prog W 0 (fun _ => true) true 54 (.slice a0 len cap) d p) : len ≤ cap := by
  obtain ⟨fuel, hf⟩ := h
  rcases open_slice Try.underlying54 hf with ⟨hcs, _⟩ | ⟨a, l, c, m, n, D, Pl, hcs, _, hl, _⟩
  · simp [Value.cells] at hcs; omega
  · simp [Value.cells] at hcs; omega
end
end Go.Proofs.Ytdccmebkoibkhaa
