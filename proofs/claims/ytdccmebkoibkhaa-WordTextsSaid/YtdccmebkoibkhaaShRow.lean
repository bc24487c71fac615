/- Words held by the slices of a row; the sort's row read anew. -/
import Derived.Test.YtdccmebkoibkhaaShMath
import Derived.Test.YtdccmebkoibkhaaShKeep
import Derived.Sort.Grow
namespace Go.Proofs.Ytdccmebkoibkhaa
open Go.RowKit Go.Sort

/-- A slice that holds a word: its address, its capacity, the word. -/
structure Hd where
  A : Option Addr
  c : Nat
  z : List Int
def Hd.enc (h : Hd) : Value := .slice h.A h.z.length h.c
instance : Inhabited Hd := ⟨⟨none, 0, []⟩⟩

/-- The slice reads as its word, in a block of its own that is not the row's. -/
structure Good (w : World) (blk : Nat) (h : Hd) : Prop where
  rd : RdI w w.heap.size h.A h.z
  ne : ∀ b o, h.A = some ⟨b, o, none⟩ → 0 < h.z.length → b ≠ blk
  len : h.z.length ≤ 4096
  cap : h.z.length ≤ h.c
  top : h.c ≤ 9223372036854775807
theorem Good.keep {w w' : World} {blk : Nat} {h : Hd} (g : Good w blk h) (hg : w.grownBy w' (some blk)) : Good w' blk h := by
  refine ⟨fun h0 => ?_, g.ne, g.len, g.cap, g.top⟩
  obtain ⟨b, o, e, hb, hc⟩ := g.rd h0
  refine ⟨b, o, e, Nat.lt_of_lt_of_le hb hg.size, fun j hj => ?_⟩
  have hne := g.ne b o e h0
  have : w'.cell? ⟨b, o + j, none⟩ = w.cell? ⟨b, o + j, none⟩ := World.cell?_of_block (hg.block b hb (fun e => hne (by injection e)))
  rw [this]; exact hc j hj
theorem Good.of_own {w : World} {base blk : Nat} {h : Hd} {vr : Value} {n b2 : Nat} {xs : List Value} (ho : Own w base h.enc h.z) (hr : w.ownsRow b2 22 1 vr n xs) (hb : vr.ownBlock = some blk) (hl : h.z.length ≤ 4096) : Good w blk h := by
  obtain ⟨A, c, e, hrd, hc1, hc2⟩ := own_rdc ho
  have ho' := ho
  unfold Hd.enc at e
  injection e with e1 e2 e3
  subst e1; subst e3
  refine ⟨hrd, fun b o e h0 hbk => ?_, hl, hc1, hc2⟩
  subst hbk
  rcases own_types hr ho (by decide) with h1 | h1
  · rw [Hd.enc, e] at h1; simp [Value.ownBlock] at h1
  · rw [hb, Hd.enc, e] at h1; simp [Value.ownBlock] at h1

/-- The row's cells hold these slices. -/
def RowH (w : World) (blk : Nat) (hs : List Hd) : Prop := ∀ i h, hs[i]? = some h → w.cell? ⟨blk, i, none⟩ = some h.enc ∧ w.frozen? ⟨blk, i, none⟩ = false

theorem grown_sort {α : Type} [Inhabited α] (enc : α → Value) (w : World) (blk off m : Nat) (dk : Array α) (os : Array Obj) : w.grownBy (Go.Sort.grow (putRow enc (Go.Sort.ahead w m) blk off dk) os) (some blk) := by
  refine ⟨rfl, rfl, rfl, by simp, fun k hk hne => ?_⟩
  rw [heap_grow_old _ _ (by simpa using hk)]
  have hne' : blk ≠ k := fun e => hne (by rw [e])
  simp only [putRow, mapBlock, Array.getElem?_modify, if_neg hne']
  rfl
theorem grown_drewN {w w' : World} {r : Option Nat} (h : w.grownBy w' r) (q : Nat) : w.grownBy (w'.drewN q) r := ⟨h.os, h.tape, h.output, h.size, h.block⟩
theorem grown_trans {a b c : World} {r : Option Nat} (h : a.grownBy b r) (k : b.grownBy c r) : a.grownBy c r :=
  ⟨k.os.trans h.os, k.tape.trans h.tape, k.output.trans h.output, Nat.le_trans h.size k.size, fun i hi hne => (k.block i (Nat.lt_of_lt_of_le hi h.size) hne).trans (h.block i hi hne)⟩
theorem grown_set {w : World} {blk i : Nat} (u : Value) : w.grownBy (w.setCell ⟨blk, i, none⟩ u) (some blk) :=
  ⟨rfl, rfl, rfl, by simp [World.setCell], fun k _ hne => Below.heap_setCell _ _ _ _ (fun e => hne (by rw [e]))⟩
theorem grown_below {w w' : World} {r : Option Nat} (h : Below w.heap.size w w') : w.grownBy w' r := ⟨h.os, h.tape, h.output, h.size, fun i hi _ => h.block i hi⟩
theorem below_grown {w w' : World} {B blk : Nat} (h : w.grownBy w' (some blk)) (h1 : B ≤ blk) (h2 : B ≤ w.heap.size) : Below B w w' :=
  ⟨h.os, h.tape, h.output, h.size, fun k hk => h.block k (by omega) (fun e => by injection e with e; omega)⟩

/-- The words of a sorted permutation of slices are sorted, and the same. -/
theorem sorted_words {p : Hd → Prop} [Inhabited {h : Hd // p h}] {d d' : Array {h : Hd // p h}} (hp : PermIn 0 d.size d d') (hs : SortedIn (fun x y => decide (cmpI x.1.z y.1.z < 0)) 0 d.size d') :
    Srt (d'.toList.map (·.1.z)) ∧ (∀ x, x ∈ d'.toList.map (·.1.z) ↔ x ∈ d.toList.map (·.1.z)) ∧ d'.size = d.size := by
  obtain ⟨h1, _, h3⟩ := hp
  have h4 : d'.toList.Perm d.toList := by
    have e1 : (d'.extract 0 d.size) = d' := by rw [← h1]; exact Array.extract_size
    have e2 : (d.extract 0 d.size) = d := Array.extract_size
    rw [e1, e2] at h3; exact h3
  refine ⟨fun i j hij hj => ?_, fun x => (h4.map _).mem_iff, h1⟩
  have hj' : j < d'.size := by simpa using hj
  have := hs i j (Nat.zero_le _) hij (by omega)
  rw [getElem!_pos d' j hj', getElem!_pos d' i (by omega)] at this
  have e1 : (d'.toList.map (·.1.z)).getD i [] = (d'[i]'(by omega)).1.z := by simp [List.getD, show i < d'.size by omega]
  have e2 : (d'.toList.map (·.1.z)).getD j [] = (d'[j]'hj').1.z := by simp [List.getD, hj']
  rw [e1, e2, cmpI_neg]
  simp only [decide_eq_false_iff_not] at this
  omega
end Go.Proofs.Ytdccmebkoibkhaa
