/- The walk of the law AlphabetChecks. -/
import Derived.Test.YtmdambfapephpaaRefCheck
namespace Go.Proofs.Ytmdambfapephpaa
open Go.ChangeShapes Go.WideShapes Go.ChangeAt Go.RowKit Go.Deep

section
variable {H : Type} {enc : TypeId × Value → H} {W : World} {a0 : Option Addr} {len cap : Nat} {d : DataW H} {p : List MemPlace}
theorem cap_ints (h : DataW.Trod enc Try.prog W 0 (fun _ => true) true 37 (.slice a0 len cap) d p) : len ≤ cap := by
  obtain ⟨fuel, hf⟩ := h
  rcases open_slice Try.underlying37 hf with ⟨hcs, _⟩ | ⟨a, l, c, m, n, D, Pl, hcs, _, hl, _⟩
  · simp [Value.cells] at hcs; omega
  · simp [Value.cells] at hcs; omega
theorem cap_events (h : DataW.Trod enc Try.prog W 0 (fun _ => true) true 26 (.slice a0 len cap) d p) : len ≤ cap := by
  obtain ⟨fuel, hf⟩ := h
  rcases open_slice Try.underlying26 hf with ⟨hcs, _⟩ | ⟨a, l, c, m, n, D, Pl, hcs, _, hl, _⟩
  · simp [Value.cells] at hcs; omega
  · simp [Value.cells] at hcs; omega
end

/-- The beginning of a law over a small alphabet: where few says no, the examples are asked once more. -/
theorem lawChecks (A : Option Addr) (n c : Nat) (l : List Ev) (w : World) (hx : RdE w w.heap.size A l) (hn : l.length = n) (hf : ∀ x ∈ l, x.name.size ≤ maxLen ∧ (Lit.int .i64 x.fault).wf = true) (hnc : n ≤ c) :
    Calls Try.prog 4 #[.slice A n c] w fun e w' => e = .returned (.bool true) ∧ Below w.heap.size w w' := by
  have HK := Lib.hid known_any
  have HX := Lib.hid (fun w1 (h : Below w.heap.size w w1) => hx.below h (Nat.le_refl _))
  have H1 := Lib.hid (fun w1 (h : Below w.heap.size w w1) => few_any A n c w.heap.size l w1 (HX.out w1 h) hn)
  cases hfew : fewB l
  · clear hn hf
    go_enter Try.func4, Try.ntmps4
    go_wp2_with fail
    refine (HK.out _).mono ?_
    rintro e w1 ⟨rfl, hb1⟩
    go_wp2_with fail
    refine (H1.out _ hb1).mono ?_
    rintro e w2 ⟨rfl, rfl⟩
    go_wp2_with fail
    refine (HK.out _).mono ?_
    rintro e w2 ⟨rfl, hb2⟩
    go_wp2
    go_ret
    exact ⟨rfl, hb1.trans (hb2.mono hb1.size)⟩
  · obtain ⟨hl, hnm⟩ := few_out hfew
    have HC := Lib.hid (fun w1 (h : Below w.heap.size w w1) => aCheck_any A n c l w1 ((HX.out w1 h).more h.size) hn (by omega) (fun x hx => (hf x hx).1))
    have HR := Lib.hid (fun w1 (h : Below w.heap.size w w1) => r1Check_any A n c l w1 ((HX.out w1 h).more h.size) hn hnc (fun x hx => (hf x hx).1))
    clear hn hf hl hnm hx
    go_enter Try.func4, Try.ntmps4
    go_wp2_with fail
    refine (HK.out _).mono ?_
    rintro e w1 ⟨rfl, hb1⟩
    go_wp2_with fail
    refine (H1.out _ hb1).mono ?_
    rintro e w2 ⟨rfl, rfl⟩
    go_wp2_with fail
    refine (HC.out _ hb1).mono ?_
    rintro e w2 ⟨rfl, hb2⟩
    have hb12 := hb1.trans (hb2.mono hb1.size)
    go_wp2_with fail
    refine (HR.out _ hb12).mono ?_
    rintro e w3 ⟨rfl, hb3⟩
    have hb13 := hb12.trans (hb3.mono hb12.size)
    go_wp2
    go_ret
    exact ⟨by simp, hb13⟩
end Go.Proofs.Ytmdambfapephpaa
