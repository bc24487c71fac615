/- The contract of the function value in Shuffles: behind it the captured list holds the clones of all shuffles. -/
import Derived.Test.YtdccmebkoibkhaaWclone
import Derived.Test.YtdccmebkoibkhaaWfree
import Derived.Test.YtdccmebkoibkhaaShGP
import Derived.Deep.RegionHeld3
import Derived.Deep.DrawnRows
namespace Go.Proofs.Ytdccmebkoibkhaa
open Go.RowKit
attribute [local go_sem ↓] Go.wp_at_zero Go.wp_at_succ

theorem info_ints : (Try.prog.info? 22).map (fun i => (i.zero, i.size, i.bytes)) = some (some (.slice none 0 0), 1, 24) := by kernel_rfl
theorem own_below {w w' : World} {B : Nat} {e : TypeId} {v : Value} {n : Nat} {xs : List Value} (h : w.ownsRow B e 1 v n xs) (hb : Below w.heap.size w w') : w'.ownsRow B e 1 v n xs :=
  World.ownsRow.kept (row := none) h ⟨hb.os, hb.tape, hb.output, hb.size, fun i hi _ => hb.block i hi⟩ (Classical.em _)
/-- What a call of the function value gives. -/
def Gp (base ba : Nat) (v : Value) (L : List (List Int)) (xs : List Value) (w : World) (e : Ending) (w' : World) : Prop := e = .returned (.tuple #[]) ∧ ∃ hs vA, GP base ba v L xs hs vA w w'

set_option maxHeartbeats 1600000 in
set_option maxRecDepth 4000 in
theorem grow_leaf (ba bg : Nat) (v : Value) (B1 B2 : Option Addr) (c1 c2 : Nat) (zs : List Int) (w : World) (base : Nat) (hv : Own w base v zs) (hb : zs.length * 8 ≤ 140737488351232)
    (va : Value) (xs : List Value) (hc : w.cell? ⟨ba, 0, none⟩ = some va) (hf : w.frozen? ⟨ba, 0, none⟩ = false) (hown : w.ownsRow base 22 1 va xs.length xs) (hba : ba < base) (hbase : base ≤ w.heap.size) (hxs : xs.length + 1 ≤ 100000) :
    Calls Try.prog 51 #[v, .slice B1 0 c1, .slice B2 0 c2, .pointer (some ⟨ba, 0, none⟩), .pointer (some ⟨bg, 0, none⟩)] w (Gp base ba v [zs] xs w) := by
  obtain ⟨i0, hi, hz0, hz1, hz2⟩ := info_parts info_ints
  obtain ⟨A, c, rfl, hrd, _, _⟩ := own_rdc hv
  have HC := Lib.hid (fun W (h : Below w.heap.size w W) => clone_sl A zs.length c zs W ((hrd.below h (Nat.le_refl _)).more h.size) rfl hb)
  obtain ⟨n, hn⟩ : ∃ n, n = zs.length := ⟨_, rfl⟩
  rw [← hn] at HC
  rw [← hn]
  have HN := Lib.hid hn.symm
  clear hrd hn hv
  have hne := World.new_ne w ⟨ba, 0, none⟩ hc
  have hbd : Below w.heap.size w w.drew := (Below.refl _ _).drew
  have hag : va.ownBlock ≠ some ba := fun h => by have := (hown.lt ba h).1; omega
  have HO := Lib.hid hown
  have hlt := World.block_lt_of_cell? w _ hc
  simp only at hlt
  clear hown
  go_enter Try.func51, Try.ntmps51
  go_wp2_with fail
  go_region_law (first
      | (refine step_append_lies _ (by rfl) _ _ _ (by rfl) base 22 i0 _ 1 24 Try.underlying37 hi hz0 hz1 hz2 rfl (by omega) va xs.length xs (by rfl) ((own_below HO.out (hbd.trans hbc)).alloc _) ⟨w1.heap.size, 0, none⟩ 1 1 [.slice Ac n cc] (by rfl) (by rfl) (World.news_of_block (cs := #[.slice Ac n cc]) (t := 22) (fr := (0, 0)) (heap_alloc_new w1 _)) (by simp [Value.oneCell']) (by omega) (by unfold maxLen; omega) (by omega) (by have := hbc.size; simp at this ⊢; omega) (w1.heap.size + 1) (by simp) ?_; intro gg cap w2 hown1 hgrow hat hlt2
         have hc2 := (hgrow.cell_far ⟨ba, 0, none⟩ (Nat.lt_of_lt_of_le (Nat.lt_of_lt_of_le hlt hbc.size) (by simp)) (fun h => hag h.symm)).trans (hc1a _)
         have hf2 := (hgrow.frozen_far ⟨ba, 0, none⟩ (Nat.lt_of_lt_of_le (Nat.lt_of_lt_of_le hlt hbc.size) (by simp)) (fun h => hag h.symm)).trans (hf1a _)
         have HG := Lib.hid hgrow)
      | (go_simp; go_at_call 50; refine (HC.out _ hbd).mono ?_; rintro e w1 ⟨Ac, cc, rfl, hoc, hbc⟩
         have hc1 := (hbc.cell (p := ⟨ba, 0, none⟩) hlt).trans hc
         have hf1 := (hbc.frozen (p := ⟨ba, 0, none⟩) hlt).trans hf
         have hc1a := fun cs : Array Value => (World.cell?_alloc_lt w1 (.cells cs 22) ⟨ba, 0, none⟩ (Nat.lt_of_lt_of_le hlt hbc.size)).trans hc1
         have hf1a := fun cs : Array Value => (frozen?_alloc_cells w1 cs 22 ⟨ba, 0, none⟩).trans hf1
         have hne1 := World.new_ne w1 ⟨ba, 0, none⟩ hc1
         have hoc := Lib.hid hoc))
  all_goals
    go_wp2_with fail
    refine bodyPost_ret (results_none rfl _ _ _) rfl ?_
    have hb1 := hbd.trans hbc
    have hocc := hoc.out
    have hnn := HN.out
    subst hnn
    exact ⟨rfl, [⟨Ac, cc, zs⟩], _, GP.leaf hb1 hocc hbase (own_below HO.out hb1) hba ((Below.refl _ _).alloc (Nat.le_refl _) _) HG.out hown1 hc2 hf2⟩
end Go.Proofs.Ytdccmebkoibkhaa
