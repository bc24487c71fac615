/- Lists of events in memory, and the contract of firstIndices: the map leads from each name to the first event that has it. -/
import Derived.Test.YtdccmebkoibkhaaRdI
import Derived.Maps.OwnOps
import Derived.Maps.OwnSet
namespace Go.Proofs.Ytdccmebkoibkhaa
open Go.RowKit Go.WideMaps Go.Maps

structure Ev where
  name : ByteArray
  con : Bool
  obs : Bool
  frc : Bool
  fault : Int

/-- At this address lie the five cells of an event. -/
def EvAt (w : World) (b o : Nat) (x : Ev) : Prop :=
  w.cell? ⟨b, o, none⟩ = some (.string x.name) ∧ w.cell? ⟨b, o + 1, none⟩ = some (.bool x.con) ∧ w.cell? ⟨b, o + 2, none⟩ = some (.bool x.obs) ∧ w.cell? ⟨b, o + 3, none⟩ = some (.bool x.frc) ∧ w.cell? ⟨b, o + 4, none⟩ = some (.int .i64 x.fault)

/-- A slice's address leads, below block B, to these events (asked only where there are any). -/
def RdE (w : World) (B : Nat) (A : Option Addr) (l : List Ev) : Prop :=
  0 < l.length → ∃ b off, A = some ⟨b, off, none⟩ ∧ b < B ∧ ∀ j x, l[j]? = some x → EvAt w b (off + j * 5) x

theorem EvAt.keep {w w' : World} {b o : Nat} {x : Ev} (h : EvAt w b o x) (hk : ∀ o, w'.cell? ⟨b, o, none⟩ = w.cell? ⟨b, o, none⟩) : EvAt w' b o x :=
  ⟨(hk _).trans h.1, (hk _).trans h.2.1, (hk _).trans h.2.2.1, (hk _).trans h.2.2.2.1, (hk _).trans h.2.2.2.2⟩
theorem RdE.keep {w w' : World} {B : Nat} {A : Option Addr} {l : List Ev} (h : RdE w B A l) (hk : ∀ b o, b < B → w'.cell? ⟨b, o, none⟩ = w.cell? ⟨b, o, none⟩) : RdE w' B A l := fun h0 => by
  obtain ⟨b, off, e, hb, hc⟩ := h h0
  exact ⟨b, off, e, hb, fun j x hj => (hc j x hj).keep fun o => hk b o hb⟩
theorem RdE.more {w : World} {B B' : Nat} {A : Option Addr} {l : List Ev} (h : RdE w B A l) (hB : B ≤ B') : RdE w B' A l := fun h0 => by
  obtain ⟨b, off, e, hb, hc⟩ := h h0
  exact ⟨b, off, e, by omega, hc⟩
theorem RdE.below {w w' : World} {B B' : Nat} {A : Option Addr} {l : List Ev} (h : RdE w B A l) (hb : Below B' w w') (hB : B ≤ B') : RdE w' B A l :=
  h.keep fun _ _ hlt => hb.cell (by exact Nat.lt_of_lt_of_le hlt hB)

/-- The first event with this name. -/
def fidx (l : List Ev) (s : List UInt8) : Option Nat := l.findIdx? fun x => x.name.data.toList == s
/-- The map tells the first event with each name. -/
def View (D : DataW Unit) (l : List Ev) : Prop :=
  Maps.IsMap D ∧ ∀ s : List UInt8, Maps.has D (.string s) = (fidx l s).isSome ∧ D.atKey (.string s) (.lit (.int .i64 0)) = .lit (.int .i64 (((fidx l s).getD 0 : Nat) : Int))
theorem fidx_nil (s : List UInt8) : fidx [] s = none := rfl
theorem fidx_snoc_old {l : List Ev} {x : Ev} {s : List UInt8} {i : Nat} (h : fidx l s = some i) : fidx (l ++ [x]) s = some i := by
  unfold fidx at *; rw [List.findIdx?_append, h]; rfl
theorem fidx_snoc_hit {l : List Ev} {x : Ev} {s : List UInt8} (h : fidx l s = none) (hx : x.name.data.toList = s) : fidx (l ++ [x]) s = some l.length := by
  unfold fidx at *; rw [List.findIdx?_append, h]; simp [List.findIdx?_cons, hx]
theorem fidx_snoc_miss {l : List Ev} {x : Ev} {s : List UInt8} (h : fidx l s = none) (hx : x.name.data.toList ≠ s) : fidx (l ++ [x]) s = none := by
  unfold fidx at *; rw [List.findIdx?_append, h]; simp [List.findIdx?_cons, hx]
theorem View.start : View (.map []) [] := ⟨⟨[], rfl⟩, fun s => ⟨by simp [Maps.has_eq, fidx_nil], by simp [fidx_nil, DataW.atKey]⟩⟩
theorem View.old {D : DataW Unit} {l : List Ev} {x : Ev} (h : View D l) (hx : (fidx l x.name.data.toList).isSome = true) : View D (l ++ [x]) := by
  refine ⟨h.1, fun s => ?_⟩
  obtain ⟨h1, h2⟩ := h.2 s
  cases hf : fidx l s with
  | some i => rw [fidx_snoc_old hf]; rw [hf] at h1 h2; exact ⟨h1, h2⟩
  | none =>
    have hne : x.name.data.toList ≠ s := by rintro rfl; rw [hf] at hx; simp at hx
    rw [fidx_snoc_miss hf hne]; rw [hf] at h1 h2; exact ⟨h1, h2⟩
theorem View.new {D : DataW Unit} {l : List Ev} {x : Ev} (h : View D l) (hx : fidx l x.name.data.toList = none) : View (D.put (.string x.name.data.toList) (.lit (.int .i64 (l.length : Int)))) (l ++ [x]) := by
  refine ⟨h.1.put _ _, fun s => ?_⟩
  obtain ⟨h1, h2⟩ := h.2 s
  by_cases hs : x.name.data.toList = s
  · subst hs
    rw [fidx_snoc_hit hx rfl, Maps.has_put_same h.1 (by trivial), Maps.atKey_put_same h.1 (by trivial)]
    exact ⟨rfl, rfl⟩
  · rw [Maps.has_put_other (fun e => hs (by injection e with e; exact e.symm)), Maps.atKey_put_other (fun e => hs (by injection e with e; exact e.symm)), h1, h2]
    cases hf : fidx l s with
    | some i => rw [fidx_snoc_old hf]; exact ⟨rfl, rfl⟩
    | none => rw [fidx_snoc_miss hf hs]; exact ⟨rfl, rfl⟩

theorem keyLaw : Keyed Try.prog 9 := string_keyed Try.underlying9
theorem zeroInt (w : World) : (zeroValue 3).run Try.prog w = .ok (.int .i64 0) w := by kernel_rfl
/-- The block is a map that tells the first event with each name. -/
def MapIs (w : World) (mb n : Nat) (l : List Ev) : Prop := ∃ D : DataW Unit, w.ownsMap Try.prog 9 (plainElem Try.prog 3) mb n D ∧ View D l
end Go.Proofs.Ytdccmebkoibkhaa
