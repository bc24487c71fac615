/- Layer 3: bytes that came in; Complete, Closed, Same, Relabel in a law's walk. -/
import Derived.Test.YtmghngehpgolgaaZa13
import Derived.Test.YtmghngehpgolgaaZaRCC
set_option linter.unusedVariables false
set_option linter.unusedSimpArgs false
set_option linter.unusedSectionVars false
namespace Go.Proofs.Ytmghngehpgolgaa

section
open Go.ChangeShapes Go.WideShapes Go.ChangeAt Go.RowKit Go.Deep
/-- A slice's address leads, below block B, to cells that hold these bytes (asked only where there are any). -/
def RdB (w : World) (B : Nat) (A : Option Addr) (zs : List Int) : Prop :=
  0 < zs.length → ∃ b off, A = some ⟨b, off, none⟩ ∧ b < B ∧ ∀ j, j < zs.length → w.cell? ⟨b, off + j, none⟩ = some (.int .u8 (zs.getD j 0))
variable {H : Type} {enc : TypeId × Value → H} {W : World} {a0 : Option Addr} {len cap : Nat} {d : DataW H} {p : List MemPlace}
set_option maxRecDepth 8000 in
theorem open_rdB (h : DataW.Trod enc Try.prog W 0 (fun _ => true) true 124 (.slice a0 len cap) d p) (hlt : ∀ x ∈ p, x.block < W.heap.size) :
    ∃ zs : List Int, zs.length = len ∧ RdB W W.heap.size a0 zs ∧ (∀ z ∈ zs, (Lit.int .u8 z).wf = true) ∧ len ≤ maxLen := by
  obtain ⟨fuel, hf⟩ := h
  rcases open_ints Try.underlying124 Try.underlying5 (by kernel_rfl) hf with ⟨hcs, _⟩ | ⟨a, l, c, zs, hcs, _, hl, hm, hz, hx, hcell, hwz⟩
  · simp [Value.cells] at hcs
    obtain ⟨rfl, rfl, rfl⟩ := hcs
    exact ⟨[], rfl, fun h => absurd h (by simp), by simp, by unfold maxLen; omega⟩
  · simp [Value.cells] at hcs
    obtain ⟨rfl, rfl, rfl⟩ := hcs
    simp only [Prod.mk.injEq] at hx
    obtain ⟨rfl, rfl⟩ := hx
    simp only [if_true] at hz
    refine ⟨zs.take len, by rw [List.length_take]; omega, fun h0 => ?_, fun z hz' => hwz z (List.mem_of_mem_take hz'), by omega⟩
    rw [List.length_take] at h0
    obtain ⟨b, off, spot⟩ := a
    have hspot : spot = none := by simpa [Addr.add] using World.cell?_spot (hcell 0 (by omega))
    subst hspot
    refine ⟨b, off, rfl, hlt (.cell b off) (MemPlace.mem_row.2 ⟨0, by omega, by simp⟩), fun j hj => ?_⟩
    rw [List.length_take] at hj
    rw [← add_plain, hcell j (by omega)]
    simp [List.getD, show j < len by omega]
end
section
open Go.RowKit Go.Sort
theorem wf_u8 {z : Int} (h : (Lit.int .u8 z).wf = true) : 0 ≤ z ∧ z < 256 := by
  have h1 : IntKind.u8.min = 0 := rfl
  have h2 : IntKind.u8.max = 255 := rfl
  simp only [Lit.wf, Bool.and_eq_true, decide_eq_true_eq] at h
  omega
section
variable {W w : World} {l : List (Nat × List Value)} {A : Option Addr} {n c : Nat} {s : Int} {M : Option Addr} {m d : Nat} {E : Option Addr} {k g : Nat} {a : Au}
theorem k_gives {f : FuncId} {args : Array Value} {x : Au} {u : Int} {r : Au × Int} (hc : Calls Try.prog f args w fun e w' => GivesA w r e w') (hr : r = (x, u)) (h : LW W l w) : Calls Try.prog f args w fun e w' => ∃ A n c s M m d E k g, e = .returned (.tuple #[.agg #[.slice A n c, .int .i64 s, .slice M m d, .slice E k g], .int .i64 u]) ∧ AuR w' w'.heap.size A n c s M m d E k g x ∧ KW W l w w' :=
  hc.mono fun e w' hh => by
    subst hr
    obtain ⟨v, e1, ⟨A, n, c, s, M, m, d, E, k, g, rfl, hr, _⟩, hb⟩ := hh
    exact ⟨A, n, c, s, M, m, d, E, k, g, e1, hr, KW.of h hb⟩
theorem k_auf {f : FuncId} {args : Array Value} {x : Au} (hc : Calls Try.prog f args w fun e w' => ∃ v, e = .returned v ∧ AuF x v w' w.heap.size ∧ Below w.heap.size w w') (h : LW W l w) : Calls Try.prog f args w fun e w' => ∃ A n c s M m d E k g, e = .returned (.agg #[.slice A n c, .int .i64 s, .slice M m d, .slice E k g]) ∧ AuR w' w'.heap.size A n c s M m d E k g x ∧ KW W l w w' :=
  hc.mono fun e w' hh => by
    obtain ⟨v, e1, ⟨A, n, c, s, M, m, d, E, k, g, rfl, hr, _⟩, hb⟩ := hh
    exact ⟨A, n, c, s, M, m, d, E, k, g, e1, hr, KW.of h hb⟩
theorem k_rsame {b : Au} (A2 : Option Addr) (n2 c2 : Nat) (s2 : Int) (M2 : Option Addr) (m2 d2 : Nat) (E2 : Option Addr) (k2 g2 : Nat) {r : Bool} (hr : decide (a = b) = r) (ha : AuR w w.heap.size A n c s M m d E k g a) (hb : AuR w w.heap.size A2 n2 c2 s2 M2 m2 d2 E2 k2 g2 b) (h : LW W l w) : Calls Try.prog 18 #[.agg #[.slice A n c, .int .i64 s, .slice M m d, .slice E k g], .agg #[.slice A2 n2 c2, .int .i64 s2, .slice M2 m2 d2, .slice E2 k2 g2]] w fun e w' => e = .returned (.bool r) ∧ KW W l w w' := by
  have := kw_call (rSame_any A n c s M m d E k g A2 n2 c2 s2 M2 m2 d2 E2 k2 g2 a b w.heap.size w ha hb (Nat.le_refl _)) h
  rw [hr] at this; exact this
end
theorem AuR.dr {w : World} {B : Nat} {A : Option Addr} {n c : Nat} {s : Int} {M : Option Addr} {m d : Nat} {E : Option Addr} {k g : Nat} {a : Au} (h : AuR w B A n c s M m d E k g a) : AuR w.drew B A n c s M m d E k g a := h.keep fun _ _ _ => rfl
theorem AuR.drh {w : World} {A : Option Addr} {n c : Nat} {s : Int} {M : Option Addr} {m d : Nat} {E : Option Addr} {k g : Nat} {a : Au} (h : AuR w w.heap.size A n c s M m d E k g a) : AuR w.drew w.drew.heap.size A n c s M m d E k g a := h.dr
theorem cls_right {a : Au} (h : RightW a) : RightW (clsA a) where
  alr := (can_right h).alr
  alo := (can_right h).alo
  st0 := (can_right h).st0
  mrr x hx := by
    obtain ⟨i, hi, rfl⟩ := List.mem_map.1 (show x ∈ (List.range (fnd a).length).map _ from hx)
    have := List.mem_range.1 hi
    exact ⟨by omega, by show (i : Int) < ((fnd a).length : Int); omega⟩
  mro := by show (rng _).Pairwise _; unfold rng; rw [List.pairwise_map]; exact List.pairwise_lt_range.imp fun h => by omega
  edr := (can_right h).edr
  edo := (can_right h).edo
theorem cls_chk {a : Au} (h : RightW a) (hs : a.st ≤ 5) : chkE (clsA a) = 0 :=
  Right.chk { cls_right h with st1 := by have := fnd_len h; have := h.st0; show ((fnd a).length : Int) ≤ 4096; omega }
theorem comp_chk {a : Au} (h : RightW a) (hs : a.st ≤ 5) : chkE (canA (compA a)) = 0 := by
  have hc := comp_right h
  refine Right.chk { can_right hc with st1 := ?_ }
  have h1 := fnd_len hc
  have h2 := h.st0
  have h3 : (compA a).st = a.st + 1 := rfl
  show ((fnd (compA a)).length : Int) ≤ 4096
  omega
end
end Go.Proofs.Ytmghngehpgolgaa
