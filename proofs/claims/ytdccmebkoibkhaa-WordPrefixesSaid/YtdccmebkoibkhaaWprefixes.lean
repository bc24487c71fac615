/- The contract of Prefixes. -/
import Derived.Test.YtdccmebkoibkhaaAppW
import Derived.IntWalk
namespace Go.Proofs.Ytdccmebkoibkhaa
open Go.RowKit

/-- All beginnings of a word. -/
def preL (xs : List Int) (k : Nat) : List (List Int) := (List.range k).map xs.take
theorem preL_succ (xs : List Int) (k : Nat) : preL xs (k + 1) = preL xs k ++ [xs.take k] := by
  unfold preL; rw [List.range_succ, List.map_append]; rfl
theorem preL_len (xs : List Int) (k : Nat) : (preL xs k).length = k := by simp [preL]
theorem preL_get (xs : List Int) {k i : Nat} (h : i < k) : (preL xs k).getD i [] = xs.take i := by
  simp [preL, List.getD, List.getElem?_range h]

theorem make_intss (n : Nat) (h : n ≤ 1000) (W : World) : (Instr.makeSlice 37 (.int .i64 0) (.int .i64 ((n : Int) + 1))).run Try.prog W = .ok (.slice (some ⟨W.heap.size, 0, none⟩) 0 (n + 1)) (W.alloc (.cells (madeCells #[.slice none 0 0] (n + 1)) 22)) := by
  obtain ⟨i0, hi, hz0, hz1, hz2⟩ := info_parts info_ints
  have := run_make (P := Try.prog) W 37 22 i0 (.slice none 0 0) Try.underlying37 hi hz0 .i64 .i64 0 ((n : Int) + 1) (by omega) (by omega) (by rw [hz2]; omega) (by omega)
  rw [hz1] at this
  simp only [Nat.mul_one] at this
  exact this

/-- What Prefixes gives. -/
def PreGives (xs : List Int) (n : Nat) (w : World) (e : Ending) (w' : World) : Prop := ∃ A' c', e = .returned (.slice A' (n + 1) c') ∧ RdL w' w'.heap.size A' (preL xs (n + 1)) ∧ Below w.heap.size w w'

set_option maxHeartbeats 2000000 in
set_option maxRecDepth 4000 in
theorem prefixes_any (A : Option Addr) (n c : Nat) (xs : List Int) (w : World) (hx : RdI w w.heap.size A xs) (hn : xs.length = n) (hnc : n ≤ c) (hb : n ≤ 1000) :
    Calls Try.prog 26 #[.slice A n c] w (PreGives xs n w) := by
  have HC := Lib.hid (fun (k : Nat) (W : World) (hk : k ≤ n) (h : Below w.heap.size w W) => clone_sl A k c (xs.take k) W (((hx.below h (Nat.le_refl _)).more h.size).take k) (by rw [List.length_take]; omega) (by omega))
  have HN := Lib.hid hn
  have hmk := make_intss n hb
  have hmz : (madeCells #[Value.slice none 0 0] (n + 1)).size = (n + 1) * 1 := by rw [size_madeCells]; omega
  generalize madeCells #[Value.slice none 0 0] (n + 1) = Z at *
  have HO := Lib.hid (World.ownsRow_made (e := 22) (size := 1) w Z (n + 1) (Nat.le_refl _) (by unfold maxLen; omega) hmz)
  have hb0 := Lib.hid ((Below.refl w.heap.size w).alloc (Nat.le_refl _) (.cells Z 22))
  clear hx hn hmz
  go_enter Try.func26, Try.ntmps26
  go_wp2_with fail
  go_loopg [3, 12] (n + 1) (fun g v i wr => ∃ (k : Nat) (hs : List Hd), k ≤ n + 1 ∧ n + 1 - k ≤ g ∧ i = .int .i64 k ∧ Hid (OwnL wr w.heap.size v hs) ∧ Hid (hs.map (·.z) = preL xs k) ∧ Hid (hs.length = k) ∧ Below w.heap.size w wr)
  case atStart => exact ⟨0, [], Nat.zero_le _, by omega, rfl, ⟨HO.out, fun x hx => by cases hx⟩, rfl, rfl, hb0.out⟩
  case round =>
    obtain ⟨k, hs, hk, hgk, rfl, ho, hz, hlen, hnx⟩ := hrel
    by_cases hlt : k < n + 1
    · have hk1 : (k : Int) < (n : Int) + 1 := by omega
      have hk2 : (k : Int) ≤ (c : Int) := by omega
      have hkn : k ≤ n := by omega
      have hkc : k ≤ c := by omega
      have hw : w.heap.size ≤ wr.heap.size := hnx.size
      have hrow : wr.ownsRow w.heap.size 22 1 u3 k (hs.map Hd.enc) := by have := ho.out.row; rwa [hlen.out] at this
      have HR := Lib.hid hrow
      clear hrow
      go_wp2_with fail
      refine (HC.out k _ hkn hnx).mono ?_
      rintro e w1 ⟨Ac, cc, rfl, hoc, hbc⟩
      have hl : (xs.take k).length = k := by rw [List.length_take, HN.out]; omega
      rw [hl] at hoc
      have HOC := Lib.hid hoc
      have hw1 : w.heap.size ≤ w1.heap.size := by have := hbc.size; omega
      have HB1 := Lib.hid hbc
      have HLK := Lib.hid hl
      clear hoc hbc hl
      rw [HLK.out]
      go_wp2_with (at_builtin; refine wpList_app1 rfl (.tmp 15) (.tmp 20) rfl w.heap.size u3 k (hs.map Hd.enc) rfl ((own_below HR.out HB1.out).alloc _) ⟨w1.heap.size, 0, none⟩ 1 (.slice Ac k cc) rfl (by simp) rfl (by omega) (by simp; omega) ?_)
      intro v' w2 hr2 hg2
      have hb2 : Below w.heap.size w w2 := ((hnx.trans (HB1.out.mono hw)).alloc hw1 (.cells #[.slice Ac k cc] 22)).grown hg2 (by simp; omega) (fun j hj => (HR.out.lt j hj).1)
      have hO2 : OwnL w2 w.heap.size v' (hs ++ [⟨Ac, cc, xs.take k⟩]) := by
        refine (ho.out.below HB1.out).snoc (x := ⟨Ac, cc, xs.take k⟩) (n := k) ?_ ((Below.refl _ _).alloc (Nat.le_refl _) (.cells #[.slice Ac k cc] 22)) ?_ hlen.out.symm hg2
        · have := HOC.out
          show Own w1 w.heap.size (.slice Ac (xs.take k).length cc) (xs.take k)
          rw [HLK.out]
          exact own_base this hw
        · show w2.ownsRow _ _ 1 v' (k + 1) (hs.map Hd.enc ++ [.slice Ac (xs.take k).length cc])
          rw [HLK.out]
          exact hr2
      have H1 := Lib.hid hO2
      have H2 := Lib.hid (show (hs ++ [(⟨Ac, cc, xs.take k⟩ : Hd)]).map (·.z) = preL xs (k + 1) by rw [List.map_append, hz.out, preL_succ]; rfl)
      have H3 := Lib.hid (show (hs ++ [(⟨Ac, cc, xs.take k⟩ : Hd)]).length = k + 1 by have := hlen.out; simp; omega)
      have H4 := Lib.hid hb2
      clear hr2 hg2 hb2 hO2
      go_wp2_with fail
      go_roundg (n + 1 - (k + 1))
      case measure => omega
      case rel => exact ⟨k + 1, _, by omega, Nat.le_refl _, by go_num, H1, H2, H3, H4.out⟩
    · have hkn : k = n + 1 := by omega
      have hf := Lib.hid (by
        have h1 := ho.out
        have h2 := hz.out
        have h3 := hlen.out
        rw [hkn] at h2 h3
        obtain ⟨A', c', e, hr⟩ := h1.rd (fun x hx => by
          have : x.z ∈ preL xs (n + 1) := by rw [← h2]; exact List.mem_map.2 ⟨x, hx, rfl⟩
          obtain ⟨i, _, hi⟩ := List.mem_map.1 this
          rw [← hi, List.length_take]
          have := HN.out
          omega)
        rw [h2] at hr
        rw [h3] at e
        exact (⟨A', c', e, hr, hnx⟩ : ∃ A' c', u3 = .slice A' (n + 1) c' ∧ RdL wr wr.heap.size A' (preL xs (n + 1)) ∧ Below w.heap.size w wr))
      clear hkn
      have hk1 : ¬ (k : Int) < (n : Int) + 1 := by omega
      go_wp2_with fail
      go_ret
      obtain ⟨A', c', e, hr, hb⟩ := hf.out
      exact ⟨A', c', by rw [← e]; rfl, hr, hb⟩
end Go.Proofs.Ytdccmebkoibkhaa
