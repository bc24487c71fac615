/- The contract of the reference's Union: the merged list in new memory. -/
import Derived.Test.YtmdambfapephpaaUnion
namespace Go.Proofs.Ytmdambfapephpaa
open Go.RowKit

theorem ru_lt {xs ys pre zs : List Int} {i k : Nat} (hi : i < xs.length) (hk : k < ys.length) (h : zs = pre ++ un (xs.drop i) (ys.drop k)) (hc : xs.getD i 0 < ys.getD k 0) : zs = (pre ++ [xs.getD i 0]) ++ un (xs.drop (i + 1)) (ys.drop k) := by
  rw [h, drop_step xs i hi, drop_step ys k hk, un_lt hc]; simp
theorem ru_eq {xs ys pre zs : List Int} {i k : Nat} (hi : i < xs.length) (hk : k < ys.length) (h : zs = pre ++ un (xs.drop i) (ys.drop k)) (hc : xs.getD i 0 = ys.getD k 0) : zs = (pre ++ [xs.getD i 0]) ++ un (xs.drop (i + 1)) (ys.drop (k + 1)) := by
  rw [h, drop_step xs i hi, drop_step ys k hk, un_eq hc]; simp
theorem ru_gt {xs ys pre zs : List Int} {i k : Nat} (hi : i < xs.length) (hk : k < ys.length) (h : zs = pre ++ un (xs.drop i) (ys.drop k)) (hc : ys.getD k 0 < xs.getD i 0) : zs = (pre ++ [ys.getD k 0]) ++ un (xs.drop i) (ys.drop (k + 1)) := by
  rw [h, drop_step xs i hi, drop_step ys k hk, un_gt hc]; simp
theorem ru_left {xs ys pre zs : List Int} {i k : Nat} (hi : i < xs.length) (hk : ys.length = k) (h : zs = pre ++ un (xs.drop i) (ys.drop k)) : zs = (pre ++ [xs.getD i 0]) ++ un (xs.drop (i + 1)) (ys.drop k) := by
  rw [h, List.drop_of_length_le (l := ys) (by omega), un_nil, un_nil, drop_step xs i hi]; simp
theorem ru_right {xs ys pre zs : List Int} {i k : Nat} (hi : xs.length = i) (hk : k < ys.length) (h : zs = pre ++ un (xs.drop i) (ys.drop k)) : zs = (pre ++ [ys.getD k 0]) ++ un (xs.drop i) (ys.drop (k + 1)) := by
  rw [h, List.drop_of_length_le (l := xs) (by omega), nil_un, nil_un, drop_step ys k hk]; simp
theorem ru_end {xs ys pre zs : List Int} {i k : Nat} (hi : xs.length = i) (hk : ys.length = k) (h : zs = pre ++ un (xs.drop i) (ys.drop k)) : zs = pre := by
  rw [h, List.drop_of_length_le (l := xs) (by omega), List.drop_of_length_le (l := ys) (by omega), nil_un]; simp

set_option maxHeartbeats 3200000 in
theorem r1Union_any (A C : Option Addr) (n c m d : Nat) (xs ys : List Int) (w : World) (hx : RdI w w.heap.size A xs) (hy : RdI w w.heap.size C ys) (hn : xs.length = n) (hm : ys.length = m) (hb : n * 16 ≤ 140737488351232) (hb' : m * 16 ≤ 140737488351232) :
    Calls Try.prog 27 #[.slice A n c, .slice C m d] w fun e w' => Gives w (un xs ys) e w' := by
  obtain ⟨i0, hi, hz0, hz1, hz2⟩ := info_parts info_int
  obtain ⟨zs, hzs⟩ : ∃ zs, zs = un xs ys := ⟨_, rfl⟩
  rw [← hzs]
  obtain ⟨B, hB⟩ : ∃ B, B = w.heap.size := ⟨_, rfl⟩
  rw [← hB] at hx hy
  have HB := Lib.hid hB
  have hBw : B ≤ w.heap.size := by omega
  have HX := Lib.hid hx
  have HY := Lib.hid hy
  have HN := Lib.hid hn
  have HM := Lib.hid hm
  have HZ := Lib.hid hzs
  clear hB hx hy hn hm hzs
  go_enter Try.func27, Try.ntmps27
  go_wp2
  go_loopw [5, 6, 7] (fun v si sk wr => ∃ (i k : Nat) (pre : List Int), i ≤ n ∧ k ≤ m ∧ si = .int .i64 i ∧ sk = .int .i64 k ∧ Hid (Own wr B v pre) ∧ Hid (zs = pre ++ un (xs.drop i) (ys.drop k)) ∧ pre.length ≤ i + k ∧ Below B w wr) (fun _ si sk _ => (n - (intOf si).toNat) + (m - (intOf sk).toNat))
  case atStart => exact ⟨0, 0, [], by omega, by omega, rfl, rfl, World.ownsRow_nil _ _ _ _, by show zs = [] ++ un (xs.drop 0) (ys.drop 0); simpa using HZ.out, by simp, Below.refl _ _⟩
  case round =>
    obtain ⟨i, k, pre, hi1, hk1, rfl, rfl, hown, hun, hlen, hnx⟩ := hrel
    have hsz := hnx.size
    by_cases h1 : i < n
    · have hix : i < xs.length := by rw [HN.out]; exact h1
      obtain ⟨b1, o1, rfl, hbB1, hcx⟩ := HX.out (by omega)
      obtain ⟨x, hxe⟩ : ∃ x, x = xs.getD i 0 := ⟨_, rfl⟩
      have hx0 : wr.cell? ⟨b1, o1 + i, none⟩ = some (.int .i64 x) := by rw [hxe]; exact (hnx.cell hbB1).trans (hcx i hix)
      have HXE := Lib.hid hxe
      clear hcx hxe
      have hd1 : decide (i < n) = true := by simpa using h1
      by_cases h2 : k < m
      · have hkx : k < ys.length := by rw [HM.out]; exact h2
        obtain ⟨b2, o2, rfl, hbB2, hcy⟩ := HY.out (by omega)
        obtain ⟨y, hye⟩ : ∃ y, y = ys.getD k 0 := ⟨_, rfl⟩
        have hy0 : wr.cell? ⟨b2, o2 + k, none⟩ = some (.int .i64 y) := by rw [hye]; exact (hnx.cell hbB2).trans (hcy k hkx)
        have HYE := Lib.hid hye
        clear hcy hye
        have hd2 : decide (k < m) = true := by simpa using h2
        have hd3 : ((k : Int) == (m : Int)) = false := by simp; omega
        rcases Int.lt_trichotomy x y with hxy | hxy | hxy
        · have hU := Lib.hid (by have := ru_lt hix hkx hun.out (by rw [← HXE.out, ← HYE.out]; exact hxy); rw [← HXE.out] at this; exact this)
          have ha : decide (x ≤ y) = true := by simp; omega
          have hb1 : (x == y) = false := by simp; omega
          clear hun
          go_wp2
          go_quiet (fail)
          go_wp2
          go_quiet (fail)
          go_wp2_with (at_builtin; refine wpList_append_own _ rfl _ _ 37 rfl B 3 i0 (.int .i64 0) 1 8 Try.underlying37 hi hz0 hz1 hz2 rfl (by decide) _ _ _ rfl ((own_dr hown.out _).alloc _) ⟨wr.heap.size, 0, none⟩ 1 1 [.int .i64 x] rfl rfl ?c1 ?c2 ?c3 ?c4 ?c5 ?_)
          case c1 => exact own_one
          case c2 => intro u hu; simp at hu; subst hu; rfl
          case c3 => unfold maxLen; omega
          case c4 => omega
          case c5 => simp; omega
          intro v' w1 hown' hgrow _
          have R := own_app (K' := pre ++ [x]) rfl (below_drewN hnx _) (own_dr hown.out _) hown' hgrow hBw
          have R1 := Lib.hid R.1
          have R2 := R.2
          have hl' : (pre ++ [x]).length ≤ (i + 1) + k := by simp; omega
          clear R hown' hgrow hown
          go_wp2
          go_roundw
          case rel => exact ⟨(i + 1), k, _, by omega, by omega, by go_num, by go_num, R1, hU, hl', R2⟩
          case measure => simp [intOf]; omega
        · have hU := Lib.hid (by have := ru_eq hix hkx hun.out (by rw [← HXE.out, ← HYE.out]; exact hxy); rw [← HXE.out] at this; exact this)
          have ha : decide (x ≤ y) = true := by simp; omega
          have hb1 : (x == y) = true := by simpa using hxy
          clear hxy
          clear hun
          go_wp2
          go_quiet (fail)
          go_wp2
          go_quiet (fail)
          go_wp2_with (at_builtin; refine wpList_append_own _ rfl _ _ 37 rfl B 3 i0 (.int .i64 0) 1 8 Try.underlying37 hi hz0 hz1 hz2 rfl (by decide) _ _ _ rfl ((own_dr hown.out _).alloc _) ⟨wr.heap.size, 0, none⟩ 1 1 [.int .i64 x] rfl rfl ?c1 ?c2 ?c3 ?c4 ?c5 ?_)
          case c1 => exact own_one
          case c2 => intro u hu; simp at hu; subst hu; rfl
          case c3 => unfold maxLen; omega
          case c4 => omega
          case c5 => simp; omega
          intro v' w1 hown' hgrow _
          have R := own_app (K' := pre ++ [x]) rfl (below_drewN hnx _) (own_dr hown.out _) hown' hgrow hBw
          have R1 := Lib.hid R.1
          have R2 := R.2
          have hl' : (pre ++ [x]).length ≤ (i + 1) + (k + 1) := by simp; omega
          clear R hown' hgrow hown
          go_wp2
          go_roundw
          case rel => exact ⟨(i + 1), (k + 1), _, by omega, by omega, by go_num, by go_num, R1, hU, hl', R2⟩
          case measure => simp [intOf]; omega
        · have hU := Lib.hid (by have := ru_gt hix hkx hun.out (by rw [← HXE.out, ← HYE.out]; exact hxy); rw [← HYE.out] at this; exact this)
          have ha : decide (x ≤ y) = false := by simp; omega
          clear hun
          go_wp2
          go_quiet (fail)
          go_wp2_with (at_builtin; refine wpList_append_own _ rfl _ _ 37 rfl B 3 i0 (.int .i64 0) 1 8 Try.underlying37 hi hz0 hz1 hz2 rfl (by decide) _ _ _ rfl ((own_dr hown.out _).alloc _) ⟨wr.heap.size, 0, none⟩ 1 1 [.int .i64 y] rfl rfl ?c1 ?c2 ?c3 ?c4 ?c5 ?_)
          case c1 => exact own_one
          case c2 => intro u hu; simp at hu; subst hu; rfl
          case c3 => unfold maxLen; omega
          case c4 => omega
          case c5 => simp; omega
          intro v' w1 hown' hgrow _
          have R := own_app (K' := pre ++ [y]) rfl (below_drewN hnx _) (own_dr hown.out _) hown' hgrow hBw
          have R1 := Lib.hid R.1
          have R2 := R.2
          have hl' : (pre ++ [y]).length ≤ i + (k + 1) := by simp; omega
          clear R hown' hgrow hown
          go_wp2
          go_roundw
          case rel => exact ⟨i, (k + 1), _, by omega, by omega, by go_num, by go_num, R1, hU, hl', R2⟩
          case measure => simp [intOf]; omega
      · have hkm : ys.length = k := by rw [HM.out]; omega
        have HKM := Lib.hid hkm
        have hd2 : decide (k < m) = false := by simp; omega
        have hd3 : ((k : Int) == (m : Int)) = true := by simp; omega
        clear hkm
        have hU := Lib.hid (by have := ru_left hix HKM.out hun.out; rw [← HXE.out] at this; exact this)
        clear hun
        go_wp2
        go_quiet (fail)
        go_wp2
        go_quiet (fail)
        go_wp2_with (at_builtin; refine wpList_append_own _ rfl _ _ 37 rfl B 3 i0 (.int .i64 0) 1 8 Try.underlying37 hi hz0 hz1 hz2 rfl (by decide) _ _ _ rfl ((own_dr hown.out _).alloc _) ⟨wr.heap.size, 0, none⟩ 1 1 [.int .i64 x] rfl rfl ?c1 ?c2 ?c3 ?c4 ?c5 ?_)
        case c1 => exact own_one
        case c2 => intro u hu; simp at hu; subst hu; rfl
        case c3 => unfold maxLen; omega
        case c4 => omega
        case c5 => simp; omega
        intro v' w1 hown' hgrow _
        have R := own_app (K' := pre ++ [x]) rfl (below_drewN hnx _) (own_dr hown.out _) hown' hgrow hBw
        have R1 := Lib.hid R.1
        have R2 := R.2
        have hl' : (pre ++ [x]).length ≤ (i + 1) + k := by simp; omega
        clear R hown' hgrow hown
        go_wp2
        go_roundw
        case rel => exact ⟨(i + 1), k, _, by omega, by omega, by go_num, by go_num, R1, hU, hl', R2⟩
        case measure => simp [intOf]; omega
    · have hin : xs.length = i := by rw [HN.out]; omega
      have HIN := Lib.hid hin
      have hd1 : decide (i < n) = false := by simp; omega
      clear hin
      by_cases h2 : k < m
      · have hkx : k < ys.length := by rw [HM.out]; exact h2
        obtain ⟨b2, o2, rfl, hbB2, hcy⟩ := HY.out (by omega)
        obtain ⟨y, hye⟩ : ∃ y, y = ys.getD k 0 := ⟨_, rfl⟩
        have hy0 : wr.cell? ⟨b2, o2 + k, none⟩ = some (.int .i64 y) := by rw [hye]; exact (hnx.cell hbB2).trans (hcy k hkx)
        have HYE := Lib.hid hye
        clear hcy hye
        have hd2 : decide (k < m) = true := by simpa using h2
        have hd3 : ((k : Int) == (m : Int)) = false := by simp; omega
        have hU := Lib.hid (by have := ru_right HIN.out hkx hun.out; rw [← HYE.out] at this; exact this)
        clear hun
        go_wp2
        go_quiet (fail)
        go_wp2_with (at_builtin; refine wpList_append_own _ rfl _ _ 37 rfl B 3 i0 (.int .i64 0) 1 8 Try.underlying37 hi hz0 hz1 hz2 rfl (by decide) _ _ _ rfl ((own_dr hown.out _).alloc _) ⟨wr.heap.size, 0, none⟩ 1 1 [.int .i64 y] rfl rfl ?c1 ?c2 ?c3 ?c4 ?c5 ?_)
        case c1 => exact own_one
        case c2 => intro u hu; simp at hu; subst hu; rfl
        case c3 => unfold maxLen; omega
        case c4 => omega
        case c5 => simp; omega
        intro v' w1 hown' hgrow _
        have R := own_app (K' := pre ++ [y]) rfl (below_drewN hnx _) (own_dr hown.out _) hown' hgrow hBw
        have R1 := Lib.hid R.1
        have R2 := R.2
        have hl' : (pre ++ [y]).length ≤ i + (k + 1) := by simp; omega
        clear R hown' hgrow hown
        go_wp2
        go_roundw
        case rel => exact ⟨i, (k + 1), _, by omega, by omega, by go_num, by go_num, R1, hU, hl', R2⟩
        case measure => simp [intOf]; omega
      · have hkm : ys.length = k := by rw [HM.out]; omega
        have hE := Lib.hid (ru_end HIN.out hkm hun.out)
        have hd2 : decide (k < m) = false := by simp; omega
        have hf := Lib.hid (own_rd hown.out)
        have hnx' : Below w.heap.size w wr := by rw [← HB.out]; exact hnx
        clear hkm hun
        go_wp2
        go_ret
        obtain ⟨A', c', e', hr⟩ := hf.out
        rw [hE.out]
        exact ⟨A', c', by rw [← e']; rfl, hr, hnx'⟩
end Go.Proofs.Ytmdambfapephpaa
