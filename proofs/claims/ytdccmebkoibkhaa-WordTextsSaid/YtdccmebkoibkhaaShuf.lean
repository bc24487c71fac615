/- The contract of Shuffles. -/
import Derived.Test.YtdccmebkoibkhaaShRec
import Derived.Test.YtdccmebkoibkhaaShSort
import Derived.Test.YtdccmebkoibkhaaShComp
import Derived.Test.YtdccmebkoibkhaaRdL
import Derived.Laws.EntriesVeiled
namespace Go.Proofs.Ytdccmebkoibkhaa
open Go.RowKit

/-- What Shuffles gives where there are few events: all shuffles, increasing. -/
def ShufGives (a b : List Int) (w : World) (e : Ending) (w' : World) : Prop :=
  ∃ zs A c, e = .returned (.tuple #[.slice A zs.length c, .int .i64 0]) ∧ RdL w' w'.heap.size A zs ∧ Below w.heap.size w w' ∧ Inc zs ∧ (∀ x, x ∈ zs ↔ x ∈ shufL [] a b) ∧ zs.length ≤ 4096

theorem shuf_long (A B : Option Addr) (n m c d : Nat) (w : World) (h : 12 < n + m) (hn : n ≤ 140737488355328) (hm : m ≤ 140737488355328) :
    Calls Try.prog 30 #[.slice A n c, .slice B m d] w fun e w' => e = .returned (.tuple #[.slice none 0 0, .int .i64 3]) ∧ w = w' := by
  have h1 : (12 : Int) < (n : Int) + (m : Int) := by omega
  go_enter Try.func30, Try.ntmps30
  go_wp2_with fail
  go_ret2
  exact ⟨rfl, rfl⟩

set_option maxHeartbeats 4000000 in
set_option maxRecDepth 4000 in
theorem shuf_any (A B : Option Addr) (c d : Nat) (a b : List Int) (w : World) (hx : RdI w w.heap.size A a) (hy : RdI w w.heap.size B b) (hn : a.length + b.length ≤ 12) (hc : a.length ≤ c) (hc2 : c ≤ 9223372036854775807) (hd : b.length ≤ d) (hd2 : d ≤ 9223372036854775807) :
    Calls Try.prog 30 #[.slice A a.length c, .slice B b.length d] w (ShufGives a b w) := by
  obtain ⟨n, hnn⟩ : ∃ n, n = a.length := ⟨_, rfl⟩
  obtain ⟨m, hmm⟩ : ∃ m, m = b.length := ⟨_, rfl⟩
  have HG := Lib.hid (by
    obtain ⟨w0, hw0⟩ : ∃ w0, w0 = (w.alloc (.cells #[.slice none 0 0] 37)).alloc (.cells #[.func (.func 51) #[] #[.pointer (some ⟨w.heap.size, 0, none⟩), .pointer (some ⟨w.heap.size + 1, 0, none⟩)]] 68) := ⟨_, rfl⟩
    have hb0 : Below w.heap.size w w0 := by rw [hw0]; exact ((Below.refl _ _).alloc (Nat.le_refl _) _).alloc (by simp) _
    have hs0 : w0.heap.size = w.heap.size + 2 := by rw [hw0]; simp
    have hc0 : w0.cell? ⟨w.heap.size, 0, none⟩ = some (.slice none 0 0) := by rw [hw0, World.cell?_alloc_lt _ _ _ (by simp), World.cell?_alloc_at _ _ _ _ rfl]; rfl
    have hf0 : w0.frozen? ⟨w.heap.size, 0, none⟩ = false := by rw [hw0, frozen?_alloc_cells, frozen?_alloc_cells]; simp [World.frozen?]
    have hg0 : w0.cell? ⟨w.heap.size + 1, 0, none⟩ = some (.func (.func 51) #[] #[.pointer (some ⟨w.heap.size, 0, none⟩), .pointer (some ⟨w.heap.size + 1, 0, none⟩)]) := by rw [hw0, World.cell?_alloc_at _ _ _ _ (by simp)]; rfl
    have st : St w.heap.size (w.heap.size + 2) w.heap.size (w.heap.size + 1) (.slice A a.length c) (.slice B b.length d) (.slice none 0 0) a b [] w0 :=
      ⟨⟨A, c, rfl, hx.below hb0 (Nat.le_refl _), hc, hc2⟩, ⟨B, d, rfl, hy.below hb0 (Nat.le_refl _), hd, hd2⟩, hc0, hf0, World.ownsRow_nil _ _ _ _, hg0, by omega⟩
    have h2 : 2 ^ (a.length + b.length) ≤ 2 ^ 12 := Nat.pow_le_pow_right (by omega) hn
    have := grow_any (B0 := w.heap.size) (base := w.heap.size + 2) (ba := w.heap.size) (bg := w.heap.size + 1) (Nat.le_refl _) (by omega) (by omega) (by omega) (a.length + b.length) (.slice none 0 0) _ _ _ [] a b [] w0 rfl (World.ownsRow_nil _ _ _ _) st (by simp; omega) (by simp; omega)
    rw [hw0] at this
    exact And.intro this (show Below w.heap.size w ((w.alloc (.cells #[.slice none 0 0] 37)).alloc (.cells #[.func (.func 51) #[] #[.pointer (some ⟨w.heap.size, 0, none⟩), .pointer (some ⟨w.heap.size + 1, 0, none⟩)]] 68)) by rw [← hw0]; exact hb0))
  rw [← hnn, ← hmm] at HG
  have hnm : (n : Int) + (m : Int) ≤ 12 := by omega
  have hn1 : n ≤ 12 := by omega
  have hm1 : m ≤ 12 := by omega
  rw [← hnn, ← hmm]
  have hlen := Lib.hid (shufL_len (a.length + b.length) [] a b rfl)
  have hword := Lib.hid (shufL_word (a.length + b.length) [] a b rfl)
  have hne := Lib.hid (shufL_ne (a.length + b.length) [] a b rfl)
  have h12 := Lib.hid hn
  have hmf : ∀ (fn : Fn) (first cap : Array Value) (w : World), (Instr.makeFunc fn first cap).run Try.prog w = .ok (.func fn first cap) w := fun _ _ _ _ => rfl
  clear hx hy hn hc hd hnn hmm
  have hcg := callGrow
  go_enter Try.func30, Try.ntmps30
  go_wp2_with fail
  refine HG.out.1.mono ?_
  rintro e w1 ⟨rfl, hs, vA, gp⟩
  have hL : hs.length = (shufL [] a b).length := by rw [← gp.words, List.length_map]
  have hpos : 0 < hs.length := by
    rcases Nat.eq_zero_or_pos hs.length with h0 | h0
    · exact absurd (List.eq_nil_of_length_eq_zero (by omega)) hne.out
    · exact h0
  have hle : hs.length ≤ 4096 := by
    have h1 := hlen.out
    have h2 : 2 ^ (a.length + b.length) ≤ 2 ^ 12 := Nat.pow_le_pow_right (by omega) h12.out
    omega
  have hrow := gp.row
  simp only [List.length_nil, Nat.zero_add, List.nil_append] at hrow
  obtain ⟨blk, cap, hvA, hb1, hb2⟩ := hrow.form hpos
  subst hvA
  have hcells := hrow.cells (g := blk) rfl
  have hcapc : hs.length ≤ cap := by
    rcases hrow.2 with ⟨e, _⟩ | ⟨_, _, _, e, _, _, h, _⟩
    · cases e
    · injection e with _ _ e; omega
  have hgood : ∀ h ∈ hs, Good w1 blk h := fun h hh => Good.of_own (gp.own h hh).1 hrow rfl (by
    have := hword.out h.z (by rw [← gp.words]; exact List.mem_map.2 ⟨h, hh, rfl⟩)
    have h2 := h12.out
    simp at this
    omega)
  have hrowh : RowH w1 blk hs := fun i h hi => by
    refine ⟨?_, ?_⟩
    · have := hcells i h.enc (by rw [List.getElem?_map, hi]; rfl)
      have hadd : (⟨blk, 0, none⟩ : Addr).add i = ⟨blk, i, none⟩ := by unfold Addr.add; split <;> simp_all
      rwa [hadd] at this
    · rcases hrow.2 with ⟨e, _⟩ | ⟨g, _, cur, e, _, hg, _⟩
      · cases e
      · injection e with e _ _
        injection e with e
        injection e with e
        subst e
        simp [World.frozen?, hg]
  have hca := gp.cell
  have hbelow := gp.fr.below (B := w.heap.size) (by omega) (Nat.le_refl _)
  have HB := Lib.hid (HG.out.2.trans hbelow)
  have HS := Lib.hid (sort_any blk cap hs w1 hrowh hb2 hgood (by omega))
  have HW := Lib.hid gp.words
  have hbl2 : w.heap.size + 2 ≤ blk := hb1
  obtain ⟨N, hN⟩ : ∃ N, N = hs.length := ⟨_, rfl⟩
  rw [← hN] at hca HS
  have HN := Lib.hid hN
  have hcc := callCompare
  have hce := callEqual
  have hs1 := Lib.hid (Below.size hbelow)
  clear gp hL hrow hcells hgood hrowh hbelow hN
  go_wp2_with fail
  refine HS.out.mono ?_
  rintro e w2 ⟨rfl, hs2, hl2, hrow2, hgood2, hsrt2, hmem2, hgr2⟩
  have hca2 : w2.cell? ⟨w.heap.size, 0, none⟩ = some (.slice (some ⟨blk, 0, none⟩) N cap) := (World.cell?_of_block (hgr2.block w.heap.size (by omega) (fun e => by injection e with e; omega))).trans hca
  have HC := Lib.hid (comp_any blk cap hs2 w2 hrow2 hgood2 hsrt2 (by have := HN.out; omega) (by have := HN.out; omega))
  rw [hl2] at HC
  have HM := Lib.hid hmem2
  have HGd := Lib.hid hgood2
  have HGr := Lib.hid hgr2
  have HL2 := Lib.hid hl2
  clear hl2 hrow2 hgood2 hsrt2 hmem2 hgr2
  go_wp2_with fail
  refine HC.out.mono ?_
  rintro e w3 ⟨out, rfl, hcell3, hinc, hmem3, hsub, hgr3, hol⟩
  have HF := Lib.hid (show ShufGives a b w (.returned (.tuple #[.slice (some ⟨blk, 0, none⟩) out.length cap, .int .i64 0])) w3 by
    have hb3 : w.heap.size ≤ w1.heap.size := by omega
    have b2 : Below w.heap.size w1 w2 := below_grown HGr.out (by omega) hb3
    have b3 : Below w.heap.size w2 w3 := below_grown hgr3 (by omega) (by have := HGr.out.size; omega)
    refine ⟨out.map (·.z), some ⟨blk, 0, none⟩, cap, by rw [List.length_map], RdL.of_row (by have := HGr.out.size; have := hgr3.size; omega) hcell3 (fun h hh => (HGd.out h (hsub h hh)).keep hgr3), (HB.out.trans b2).trans b3, hinc, fun x => ?_, by have := HL2.out; have := HN.out; rw [List.length_map]; omega⟩
    rw [hmem3, HM.out, HW.out])
  clear hcell3 hinc hmem3 hsub hgr3 hol
  go_wp2_with fail
  go_ret2
  exact HF.out
end Go.Proofs.Ytdccmebkoibkhaa
