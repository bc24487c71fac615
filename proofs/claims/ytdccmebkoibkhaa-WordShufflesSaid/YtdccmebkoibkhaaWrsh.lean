/- The contract of the reference's Shuffles. -/
import Derived.Test.YtdccmebkoibkhaaWputB
import Derived.Test.YtdccmebkoibkhaaWrmatchE
import Derived.Deep.RegionLaw
namespace Go.Proofs.Ytdccmebkoibkhaa
open Go.RowKit
attribute [local go_sem ↓] Go.wp_at_zero Go.wp_at_succ
set_option linter.unusedVariables false

set_option maxHeartbeats 1600000 in
set_option maxRecDepth 4000 in
theorem put_nil (B : Option Addr) (m d : Nat) (xs : List Int) (w : World) (hy : Sl w w.heap.size (.slice B m d) xs) : Calls Try.prog 54 #[.slice none 0 0, .slice B m d] w (GivesL w (putZ [] xs)) := by
  have HY := Lib.hid hy
  clear hy
  go_enter Try.func54, Try.ntmps54
  go_wp2_with fail
  go_loopw [5] (fun i wr => i = .int .i64 0 ∧ wr = w) (fun _ _ => 0)
  case atStart => exact ⟨rfl, rfl⟩
  case round =>
    obtain ⟨rfl, rfl⟩ := hrel
    go_wp2_with (first
      | (at_builtin; refine wpList_appL rfl (.tmp 36) (.tmp 39) rfl wr.heap.size _ [] rfl (own_litL0 wr wr.heap.size (Nat.le_refl _)) wr.heap.size none 0 0 [] rfl (fun h => absurd h (by simp)) rfl (by simp) (by simp) ?_))
    intro v1 w1 r1 hown hrow hgrow
    have hr1 : r1 = [] := List.eq_nil_of_length_eq_zero hrow.1
    subst hr1
    have HO1 := Lib.hid (show w1.ownsRow wr.heap.size 22 1 v1 0 [] from hown)
    have HB1 := Lib.hid (show Below wr.heap.size wr w1 from ((Below.refl _ _).alloc (Nat.le_refl _) (.cells #[] 22)).grown hgrow (by simp) (fun j hj => by cases hj; exact Nat.le_refl _))
    have hws1 := HB1.out.size
    clear hown hrow hgrow
    go_wp2_with (at_builtin; refine wpList_app1 rfl (.tmp 41) (.tmp 43) rfl wr.heap.size v1 0 [] rfl (HO1.out.alloc _) ⟨w1.heap.size, 0, none⟩ 1 (.slice B m d) rfl (by simp) rfl (by omega) (by simp; omega) ?_)
    intro v2 w2 hown hgrow
    have HO2 := Lib.hid (show w2.ownsRow wr.heap.size 22 1 v2 [Value.slice B m d].length [Value.slice B m d] from hown)
    have HB2 := Lib.hid (HB1.out.trans (((Below.refl _ _).alloc hws1 (.cells #[.slice B m d] 22)).grown hgrow (by simp; omega) (fun j hj => (HO1.out.lt j hj).1)))
    have hws2 := HB2.out.size
    clear hown hgrow
    go_wp2_with (at_builtin; refine wpList_appL rfl (.tmp 45) (.tmp 48) rfl wr.heap.size _ [Value.slice B m d] rfl HO2.out wr.heap.size none 0 0 [] rfl (fun h => absurd h (by simp)) rfl (by simp) hws2 ?_)
    intro v3 w3 r3 hown hrow hgrow
    have hr3 : r3 = [] := List.eq_nil_of_length_eq_zero hrow.1
    subst hr3
    have HB3 := Lib.hid (HB2.out.trans ((Below.refl _ _).grown hgrow hws2 (fun j hj => (HO2.out.lt j hj).1)))
    have HF := Lib.hid (row_rdl (vals := [Value.slice B m d]) (zs := [xs]) (show w3.ownsRow wr.heap.size 22 1 v3 [Value.slice B m d].length [Value.slice B m d] from hown) ((Row.one (HY.out.below HB3.out)).more HB3.out.size))
    clear hown hrow hgrow
    go_wp2_with fail
    go_ret
    obtain ⟨A', c', e', hr', h1, h2⟩ := HF.out
    exact ⟨A', c', (show Ending.returned v3 = _ by rw [e']; rfl), hr', HB3.out, h1, h2⟩

/-- A list of words that Put takes: nil, or one that is not empty. -/
def LV (W : World) (v : Value) (zs : List (List Int)) : Prop := (v = .slice none 0 0 ∧ zs = []) ∨ (0 < zs.length ∧ ∃ b o c, v = .slice (some ⟨b, o, none⟩) zs.length c ∧ RdL W W.heap.size (some ⟨b, o, none⟩) zs ∧ zs.length ≤ c ∧ c ≤ 9223372036854775807)
theorem LV.below {W W' : World} {v : Value} {zs : List (List Int)} (h : LV W v zs) (hb : Below W.heap.size W W') : LV W' v zs := by
  rcases h with h | ⟨h0, b, o, c, e, hr, h1, h2⟩
  · exact .inl h
  · exact .inr ⟨h0, b, o, c, e, (hr.below hb (Nat.le_refl _)).more hb.size, h1, h2⟩
theorem putZ_pos (l : List (List Int)) (x : List Int) : 0 < (putZ l x).length := by
  cases l with
  | nil => simp [putZ]
  | cons z r => rw [putZ]; split <;> (try split) <;> simp
theorem put_lv (v : Value) (zs : List (List Int)) (B : Option Addr) (m d : Nat) (xs : List Int) (w : World) (hv : LV w v zs) (bn : zs.length ≤ 10000) (hl : ∀ z ∈ zs, z.length ≤ 1000) (hy : RdI w w.heap.size B xs) (hm : xs.length = m) (hmd : m ≤ d) (hdt : d ≤ 9223372036854775807) (bm : m ≤ 1000) :
    Calls Try.prog 54 #[v, .slice B m d] w fun e w' => ∃ v', e = .returned v' ∧ LV w' v' (putZ zs xs) ∧ Below w.heap.size w w' := by
  have fin : ∀ {e : Ending} {w' : World}, GivesL w (putZ zs xs) e w' → ∃ v', e = .returned v' ∧ LV w' v' (putZ zs xs) ∧ Below w.heap.size w w' := by
    rintro e w' ⟨A, c, rfl, hr, hb, h1, h2⟩
    have hp := putZ_pos zs xs
    obtain ⟨b, o, rfl, _, _⟩ := hr hp
    exact ⟨_, rfl, .inr ⟨hp, b, o, c, rfl, hr, h1, h2⟩, hb⟩
  rcases hv with ⟨rfl, rfl⟩ | ⟨h0, b, o, c, rfl, hr, h1, h2⟩
  · exact (put_nil B m d xs w ⟨B, d, by rw [hm], hy, by omega, hdt⟩).mono fun e w' h => fin h
  · exact (put_some b o zs.length c zs B m d xs w hr rfl h1 h2 bn h0 hl hy hm hmd hdt bm).mono fun e w' h => fin h

set_option maxHeartbeats 1600000 in
set_option maxRecDepth 4000 in
theorem rsh_base (A1 A3 : Option Addr) (n1 n3 c1 c3 : Nat) (a b : List Int) (w : World) (ha : RdI w w.heap.size A1 a) (hb : RdI w w.heap.size A3 b) (l1 : a.length = n1) (l3 : b.length = n3) (h0 : n1 = 0 ∨ n3 = 0) (b1 : n1 ≤ 100) (b3 : n3 ≤ 100) :
    Calls Try.prog 32 #[.slice A1 n1 c1, .slice A3 n3 c3] w (GivesL w [a ++ b]) := by
  have HA := Lib.hid ha
  have HB := Lib.hid hb
  have H1 := Lib.hid l1
  have H3 := Lib.hid l3
  have key : n1 = 0 ∨ (¬ n1 = 0 ∧ ((n1 : Int) == 0) = false ∧ n3 = 0) := by
    by_cases h : n1 = 0
    · exact .inl h
    · exact .inr ⟨h, by simp; omega, by omega⟩
  clear ha hb h0 l1 l3
  rcases key with rfl | ⟨k1, k2, rfl⟩
  all_goals
    go_enter Try.func32, Try.ntmps32
    go_wp2_with (at_builtin; refine wpList_app_at rfl (.tmp 17) (.tmp 18) rfl w.heap.size _ [] rfl (own_lit0 w w.heap.size (Nat.le_refl _)) w.heap.size A1 _ c1 a rfl (HA.out.alloc (Nat.le_refl _) _) H1.out (by simp <;> omega) (by simp) ?_)
    intro v1 w1 hown hgrow _
    have HO := Lib.hid (show Own w1 w.heap.size v1 a by simpa using hown)
    have HW := Lib.hid (((Below.refl w.heap.size w).alloc (Nat.le_refl _) (.cells #[] 3)).grown hgrow (by simp) (fun j hj => by cases hj; exact Nat.le_refl _))
    have hws := HW.out.size
    have hlx : a.length ≤ 100 := by have := H1.out; omega
    clear hown hgrow
    go_wp2_with (at_builtin; refine wpList_app_at rfl (.tmp 19) (.tmp 20) rfl w.heap.size _ a rfl HO.out w.heap.size A3 _ c3 b rfl (HB.out.below HW.out (Nat.le_refl _)) H3.out (by omega) hws ?_)
    intro v2 w2 hown hgrow _
    have HO2 := Lib.hid (show Own w2 w.heap.size v2 (a ++ b) from hown)
    have HW2 := Lib.hid (HW.out.grown hgrow hws (fun j hj => (HO.out.lt j hj).1))
    have hs2 := HW2.out.size
    clear hown hgrow
    obtain ⟨A', c', rfl, hr, h1, h2⟩ := own_rdc HO2.out
    have HF := Lib.hid (rdL_lit1 (w := w2) (v := .slice A' (a ++ b).length c') (z := a ++ b) (B := w2.heap.size) ⟨A', c', rfl, hr, h1, h2⟩ (Nat.le_refl _))
    clear hr HO2
    generalize (a ++ b).length = la at *
    go_wp2_with fail
    go_ret
    exact ⟨some ⟨w2.heap.size, 0, none⟩, 1, rfl, by simpa using HF.out, HW2.out.alloc hs2 _, Nat.le_refl _, by omega⟩
end Go.Proofs.Ytdccmebkoibkhaa
