/- The contracts of Word and Set of the law: a word of small events that bytes choose; the events whose bits are set. -/
import Derived.Test.YtdccmebkoibkhaaOwnC
namespace Go.Proofs.Ytdccmebkoibkhaa
open Go.RowKit

/-- A slice's address leads, below block B, to cells that hold these bytes (asked only where there are any). -/
def RdB (w : World) (B : Nat) (A : Option Addr) (zs : List Int) : Prop :=
  0 < zs.length → ∃ b off, A = some ⟨b, off, none⟩ ∧ b < B ∧ ∀ j, j < zs.length → w.cell? ⟨b, off + j, none⟩ = some (.int .u8 (zs.getD j 0))
theorem RdB.keep {w w' : World} {B : Nat} {A : Option Addr} {zs : List Int} (h : RdB w B A zs) (hk : ∀ b o, b < B → w'.cell? ⟨b, o, none⟩ = w.cell? ⟨b, o, none⟩) : RdB w' B A zs := fun h0 => by
  obtain ⟨b, off, e, hb, hc⟩ := h h0
  exact ⟨b, off, e, hb, fun j hj => (hk b _ hb).trans (hc j hj)⟩
theorem RdB.more {w : World} {B B' : Nat} {A : Option Addr} {zs : List Int} (h : RdB w B A zs) (hB : B ≤ B') : RdB w B' A zs := fun h0 => by
  obtain ⟨b, off, e, hb, hc⟩ := h h0
  exact ⟨b, off, e, by omega, hc⟩
theorem RdB.below {w w' : World} {B B' : Nat} {A : Option Addr} {zs : List Int} (h : RdB w B A zs) (hb : Below B' w w') (hB : B ≤ B') : RdB w' B A zs :=
  h.keep fun _ _ hlt => hb.cell (by exact Nat.lt_of_lt_of_le hlt hB)

/-- The word that bytes choose. -/
def wordZ (bs : List Int) (n : Nat) : List Int := (bs.take n).map (· % 5)
theorem wordZ_succ {bs : List Int} {k : Nat} (h : k < bs.length) : wordZ bs (k + 1) = wordZ bs k ++ [bs.getD k 0 % 5] := by
  unfold wordZ
  rw [List.take_succ_eq_append_getElem h, List.map_append]
  simp [List.getD, List.getElem?_eq_getElem h]
theorem wordZ_len {bs : List Int} {k : Nat} (h : k ≤ bs.length) : (wordZ bs k).length = k := by simp [wordZ]; omega
theorem wordZ_all {bs : List Int} {k n : Nat} (h : k = bs.length) (hn : k ≤ n) : wordZ bs k = wordZ bs n := by
  unfold wordZ; rw [List.take_of_length_le (by omega), List.take_of_length_le (by omega)]

/-- What a function gives that makes a list of ints, behind a name of its own. -/
def GivesD (w : World) (zs : List Int) (e : Ending) (w' : World) : Prop := GivesC w zs e w'

set_option maxHeartbeats 1600000 in
set_option maxRecDepth 4000 in
theorem word_any (A : Option Addr) (m c n : Nat) (bs : List Int) (w : World) (hx : RdB w w.heap.size A bs) (hm : bs.length = m) (hb : ∀ z ∈ bs, 0 ≤ z ∧ z < 256) (hn : n ≤ 1000) :
    Calls Try.prog 25 #[.slice A m c, .int .i64 n] w (GivesD w (wordZ bs n)) := by
  obtain ⟨i0, hi, hz0, hz1, hz2⟩ := info_parts info_int
  have HX := Lib.hid hx
  have HM := Lib.hid hm
  have HB := Lib.hid hb
  clear hx hm hb
  go_enter Try.func25, Try.ntmps25
  go_wp2_with fail
  go_loopw [5, 6] (fun v i wr => ∃ k : Nat, k ≤ m ∧ k ≤ n ∧ i = .int .i64 k ∧ Hid (Own wr w.heap.size v (wordZ bs k)) ∧ Below w.heap.size w wr) (fun _ i _ => n - (intOf i).toNat)
  case atStart => exact ⟨0, Nat.zero_le _, Nat.zero_le _, rfl, World.ownsRow_nil _ _ _ _, Below.refl _ _⟩
  case round =>
    obtain ⟨k, hkm, hkn, rfl, ho, hnx⟩ := hrel
    by_cases h1 : k < m
    · have d1 : decide ((k : Int) < (m : Int)) = true := by simp; omega
      by_cases h2 : k < n
      · have d2 : decide ((k : Int) < (n : Int)) = true := by simp; omega
        have hk := HM.out
        obtain ⟨b1, o1, rfl, _, hc1⟩ := (HX.out.below hnx (Nat.le_refl _)) (by omega)
        have g1 := hc1 k (by omega)
        have hmem : bs.getD k 0 ∈ bs := by rw [List.getD, List.getElem?_eq_getElem (by omega)]; exact List.getElem_mem _
        obtain ⟨y0, y1⟩ := HB.out _ hmem
        have hs := Lib.hid (wordZ_succ (bs := bs) (k := k) (by omega))
        have hl := Lib.hid (wordZ_len (bs := bs) (k := k) (by omega))
        generalize bs.getD k 0 = y at *
        have q0 : 0 ≤ y % 5 := by omega
        have q1 : y % 5 ≤ 4 := by omega
        have hown : wr.ownsRow w.heap.size 3 1 u5 k ((wordZ bs k).map (Value.int .i64)) := by have := ho.out; rwa [Own, hl.out] at this
        have HO := Lib.hid hown
        have hws := hnx.size
        have k1 : (k : Int) < (m : Int) := by omega
        have hk1000 : k < 1000 := by omega
        clear hc1 hk hmem hown
        go_wp2_with (at_builtin; refine wpList_append_own _ rfl _ _ 22 rfl w.heap.size 3 i0 (.int .i64 0) 1 8 Try.underlying22 hi hz0 hz1 hz2 rfl (by decide) _ _ _ rfl (HO.out.alloc _) ⟨wr.heap.size, 0, none⟩ 1 1 [.int .i64 (y % 5)] rfl rfl own_one (by simp [Value.oneCell']) (by unfold maxLen; omega) (by omega) (by simp; omega) ?_)
        intro v' w1 hown1 hgrow _
        have HO1 := Lib.hid (show Own w1 w.heap.size v' (wordZ bs (k + 1)) by
          rw [Own, hs.out]
          simp only [List.length_append, List.length_singleton, List.map_append, List.map_cons, List.map_nil, hl.out]
          exact hown1)
        have HB1 := Lib.hid ((hnx.alloc hws (.cells #[.int .i64 (y % 5)] 3)).grown hgrow (by simp; omega) (fun j hj => (HO.out.lt j hj).1))
        clear hown1 hgrow hnx
        go_wp2_with fail
        go_roundw
        case rel => exact ⟨k + 1, by omega, by omega, by go_num, HO1, HB1.out⟩
        case measure => simp [intOf]; omega
      · have d2 : decide ((k : Int) < (n : Int)) = false := by simp; omega
        have hf := Lib.hid (show GivesD w (wordZ bs n) (.returned u5) wr by
          obtain rfl : k = n := by omega
          obtain ⟨A', c', e, hr, h1, h2⟩ := own_rdc ho.out
          exact ⟨A', c', by rw [e], hr, hnx, h1, h2⟩)
        go_wp2_with fail
        go_ret
        exact hf.out
    · have d1 : decide ((k : Int) < (m : Int)) = false := by simp; omega
      have hf := Lib.hid (show GivesD w (wordZ bs n) (.returned u5) wr by
        have hm := HM.out
        obtain ⟨A', c', e, hr, h1, h2⟩ := own_rdc ho.out
        rw [wordZ_all (n := n) (by omega) hkn] at e hr h1
        exact ⟨A', c', by rw [e], hr, hnx, h1, h2⟩)
      go_wp2_with fail
      go_ret
      exact hf.out
end Go.Proofs.Ytdccmebkoibkhaa
