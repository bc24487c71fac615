/- The contract of slices.Clone of ints: the same list in new memory. -/
import Derived.Test.YtdccmebkoibkhaaApp
namespace Go.Proofs.Ytdccmebkoibkhaa
open Go.RowKit

theorem sliceNil_yes (n c : Nat) (W : World) : (binOp .eql 22 (.slice none n c) (.slice none 0 0)).run Try.prog W = .ok (.bool true) W := by kernel_rfl
theorem sliceNil_no (ad : Addr) (n c : Nat) (W : World) : (binOp .eql 22 (.slice (some ad) n c) (.slice none 0 0)).run Try.prog W = .ok (.bool false) W := by kernel_rfl

set_option maxHeartbeats 800000 in
set_option maxRecDepth 4000 in
theorem clone_own (A : Option Addr) (n c : Nat) (zs : List Int) (w : World) (hx : RdI w w.heap.size A zs) (hn : zs.length = n) (hb : n * 8 ≤ 140737488351232) :
    Calls Try.prog 50 #[.slice A n c] w fun e w' => ∃ v, e = .returned v ∧ Own w' w.heap.size v zs ∧ Below w.heap.size w w' := by
  rcases A with _ | ad
  · have hz : zs = [] := by
      rcases Nat.eq_zero_or_pos zs.length with h | h
      · exact List.eq_nil_of_length_eq_zero h
      · obtain ⟨b, o, e, _⟩ := hx h; cases e
    subst hz
    obtain rfl : n = 0 := hn.symm
    clear hx hn
    have hq := sliceNil_yes 0 c
    go_enter Try.func50, Try.ntmps50
    go_wp2_with fail
    go_ret
    exact ⟨_, rfl, World.ownsRow_nil _ _ _ _, Below.refl _ _⟩
  · have HX := Lib.hid hx
    have HN := Lib.hid hn
    clear hx hn
    have hq := sliceNil_no ad n c
    go_enter Try.func50, Try.ntmps50
    have hb1 : Below w.heap.size w (w.alloc (.cells #[] 3)) := (Below.refl _ _).alloc (Nat.le_refl _) _
    have hown0 := World.ownsRow_lit (e := 3) (size := 1) w #[] 0 (Nat.le_refl w.heap.size) (by unfold maxLen; omega) rfl
    have HO := Lib.hid hown0
    have HB1 := Lib.hid hb1
    clear hb1 hown0
    go_wp2_with (at_builtin; refine wpList_app_rd rfl (.tmp 5) (.tmp 6) rfl w.heap.size _ 0 [] rfl HO.out w.heap.size (some ad) n c zs rfl (HX.out.below HB1.out (Nat.le_refl _)) HN.out (by unfold maxLen; omega) (by omega) (by simp) ?_)
    intro v' w1 hown1 hgrow
    have R := HB1.out.trans ((Below.refl w.heap.size _).grown hgrow (by simp) (fun k hk => (HO.out.lt k hk).1))
    have R1 := Lib.hid (show Own w1 w.heap.size v' zs by unfold Own; rw [HN.out]; simpa using hown1)
    clear hown1 hgrow
    go_wp2_with fail
    go_ret
    exact ⟨v', rfl, R1.out, R⟩
theorem clone_any (A : Option Addr) (n c : Nat) (zs : List Int) (w : World) (hx : RdI w w.heap.size A zs) (hn : zs.length = n) (hb : n * 8 ≤ 140737488351232) :
    Calls Try.prog 50 #[.slice A n c] w fun e w' => GivesC w zs e w' :=
  (clone_own A n c zs w hx hn hb).mono fun e w' ⟨v, e1, ho, hbel⟩ => by
    obtain ⟨A', c', e', hr, h1, h2⟩ := own_rdc ho
    exact ⟨A', c', by rw [e1, e'], hr, hbel, h1, h2⟩
theorem clone_sl (A : Option Addr) (n c : Nat) (zs : List Int) (w : World) (hx : RdI w w.heap.size A zs) (hn : zs.length = n) (hb : n * 8 ≤ 140737488351232) :
    Calls Try.prog 50 #[.slice A n c] w fun e w' => ∃ A' c', e = .returned (.slice A' zs.length c') ∧ Own w' w.heap.size (.slice A' zs.length c') zs ∧ Below w.heap.size w w' :=
  (clone_own A n c zs w hx hn hb).mono fun e w' ⟨v, e1, ho, hbel⟩ => by
    obtain ⟨A', c', e', hr, h1, h2⟩ := own_rdc ho
    exact ⟨A', c', by rw [e1, e'], by rw [← e']; exact ho, hbel⟩
end Go.Proofs.Ytdccmebkoibkhaa
