/- Contracts of the two Projects. -/
import Derived.Test.YtdccmebkoibkhaaWhas
import Derived.Test.YtdccmebkoibkhaaOwnC
namespace Go.Proofs.Ytdccmebkoibkhaa
open Go.RowKit

set_option maxHeartbeats 1600000 in
theorem r2Project_any (A C : Option Addr) (n c m d : Nat) (xs ys : List Int) (w : World) (hx : RdI w w.heap.size A xs) (hy : RdI w w.heap.size C ys) (hn : xs.length = n) (hm : ys.length = m) (hb : n * 8 ≤ 140737488351232) (hb' : m * 8 ≤ 140737488351232) :
    Calls Try.prog 24 #[.slice A n c, .slice C m d] w fun e w' => GivesC w (xs.filter fun x => decide (x ∈ ys)) e w' := by
  obtain ⟨i0, hi, hz0, hz1, hz2⟩ := info_parts info_int
  have HC := Lib.hid (fun x W (h : RdI W w.heap.size C ys) => r2Has_any C m d w.heap.size ys x W h hm (by omega))
  have HY := Lib.hid hy
  have HN := Lib.hid hn
  clear hn hm hy
  obtain ⟨p, hpd⟩ : ∃ p : Int → Bool, p = (fun x => decide (x ∈ ys)) := ⟨_, rfl⟩
  have HP := Lib.hid hpd
  rw [← hpd]
  clear hpd
  obtain ⟨B, hB⟩ : ∃ B, B = w.heap.size := ⟨_, rfl⟩
  rw [← hB] at hx
  have HB := Lib.hid hB
  have hBw : B ≤ w.heap.size := by omega
  have hBw' : w.heap.size ≤ B := by omega
  clear hB
  go_enter Try.func24, Try.ntmps24
  go_wp2
  go_loopw [5, 6] (fun v i wr => ∃ k : Nat, k ≤ n ∧ i = .int .i64 k ∧ Hid (Own wr B v ((xs.take k).filter p)) ∧ Below B w wr) (fun _ i _ => n - (intOf i).toNat)
  case atStart => exact ⟨0, Nat.zero_le _, rfl, World.ownsRow_nil _ _ _ _, Below.refl _ _⟩
  case round =>
    obtain ⟨k, hk, rfl, hown, hnx⟩ := hrel
    have hsz := hnx.size
    by_cases hlt : k < n
    · obtain ⟨b1, o1, rfl, hbB, hc1⟩ := hx (by rw [HN.out]; omega)
      have hz : k < xs.length := by rw [HN.out]; exact hlt
      obtain ⟨x, hxe⟩ : ∃ x, x = xs.getD k 0 := ⟨_, rfl⟩
      have hc : wr.cell? ⟨b1, o1 + k, none⟩ = some (.int .i64 x) := by rw [hxe]; exact (hnx.cell (by exact hbB)).trans (hc1 k hz)
      have HX := Lib.hid hxe
      have HCC := Lib.hid (HC.out x wr (HY.out.below hnx (by omega)))
      have hlen := filter_take_le p xs k
      clear hc1 hx hxe
      obtain ⟨r, hr⟩ : ∃ r, decide (x ∈ ys) = r := ⟨_, rfl⟩
      rw [hr] at HCC
      have hpx : p x = r := by rw [HP.out, ← hr]
      clear hr
      cases r
      · have hp : p x = false := hpx
        clear hpx
        have hN := Lib.hid (filter_take_no (p := p) hz (by rw [← HX.out]; exact hp))
        clear hz hp
        go_wp2_with (go_at_call 45; refine HCC.out.mono ?_; rintro e w' ⟨rfl, rfl⟩)
        go_roundw
        case rel => exact ⟨k + 1, by omega, by go_num, by rw [hN.out]; exact hown, hnx⟩
        case measure => simp [intOf]; omega
      · have hp : p x = true := hpx
        clear hpx
        have hY := Lib.hid (filter_take_yes (p := p) hz (by rw [← HX.out]; exact hp))
        clear hz hp
        go_wp2_with (first
          | (go_at_call 45; refine HCC.out.mono ?_; rintro e w' ⟨rfl, rfl⟩)
          | (at_builtin; refine wpList_append_own _ rfl _ _ 22 rfl B 3 i0 (.int .i64 0) 1 8 Try.underlying22 hi hz0 hz1 hz2 rfl (by decide) _ _ _ rfl (hown.out.alloc _) ⟨wr.heap.size, 0, none⟩ 1 1 [.int .i64 x] rfl rfl ?c1 ?c2 ?c3 ?c4 ?c5 ?_))
        case c1 => exact own_one
        case c2 => intro u hu; simp at hu; subst hu; rfl
        case c3 => unfold maxLen; omega
        case c4 => omega
        case c5 => simp; omega
        intro v' w1 hown' hgrow _
        have R := own_app (hY.out.trans (by rw [← HX.out])) hnx hown.out hown' hgrow hBw
        have R1 := Lib.hid R.1
        have R2 := R.2
        clear R hown' hgrow hY
        go_wp2
        go_roundw
        case rel => exact ⟨k + 1, by omega, by go_num, R1, R2⟩
        case measure => simp [intOf]; omega
    · have hkn : k = n := by omega
      have e := Lib.hid (filter_take_all (p := p) (zs := xs) (k := k) (by rw [HN.out, hkn]))
      rw [e.out] at hown
      have hf := Lib.hid (own_rdc hown.out)
      have hnx' : Below w.heap.size w wr := by rw [← HB.out]; exact hnx
      clear hkn hown
      go_wp2
      go_ret
      obtain ⟨A', c', e', hr, hq1, hq2⟩ := hf.out
      exact ⟨A', c', by rw [← e']; rfl, hr, hnx', hq1, hq2⟩

set_option maxHeartbeats 1600000 in
theorem wProject_any (A C : Option Addr) (n c m d : Nat) (xs ys : List Int) (w : World) (hx : RdI w w.heap.size A xs) (hy : RdI w w.heap.size C ys) (hn : xs.length = n) (hm : ys.length = m) (hb : n * 8 ≤ 140737488351232) (hb' : m * 8 ≤ 140737488351232) (hup : Up ys) :
    Calls Try.prog 21 #[.slice A n c, .slice C m d] w fun e w' => GivesC w (xs.filter fun x => decide (x ∈ ys)) e w' := by
  obtain ⟨i0, hi, hz0, hz1, hz2⟩ := info_parts info_int
  have HC := Lib.hid (fun x W (h : RdI W w.heap.size C ys) => aContains_any C m d w.heap.size ys x W h hm (by omega) hup)
  have HY := Lib.hid hy
  have HN := Lib.hid hn
  clear hn hm hy hup
  obtain ⟨p, hpd⟩ : ∃ p : Int → Bool, p = (fun x => decide (x ∈ ys)) := ⟨_, rfl⟩
  have HP := Lib.hid hpd
  rw [← hpd]
  clear hpd
  obtain ⟨B, hB⟩ : ∃ B, B = w.heap.size := ⟨_, rfl⟩
  rw [← hB] at hx
  have HB := Lib.hid hB
  have hBw : B ≤ w.heap.size := by omega
  have hBw' : w.heap.size ≤ B := by omega
  clear hB
  go_enter Try.func21, Try.ntmps21
  go_wp2
  go_loopw [5, 10] (fun v i wr => ∃ k : Nat, k ≤ n ∧ i = .int .i64 k ∧ Hid (Own wr B v ((xs.take k).filter p)) ∧ Below B w wr) (fun _ i _ => n - (intOf i).toNat)
  case atStart => exact ⟨0, Nat.zero_le _, rfl, World.ownsRow_nil _ _ _ _, Below.refl _ _⟩
  case round =>
    obtain ⟨k, hk, rfl, hown, hnx⟩ := hrel
    have hsz := hnx.size
    by_cases hlt : k < n
    · obtain ⟨b1, o1, rfl, hbB, hc1⟩ := hx (by rw [HN.out]; omega)
      have hz : k < xs.length := by rw [HN.out]; exact hlt
      obtain ⟨x, hxe⟩ : ∃ x, x = xs.getD k 0 := ⟨_, rfl⟩
      have hc : wr.cell? ⟨b1, o1 + k, none⟩ = some (.int .i64 x) := by rw [hxe]; exact (hnx.cell (by exact hbB)).trans (hc1 k hz)
      have HX := Lib.hid hxe
      have HCC := Lib.hid (HC.out x wr (HY.out.below hnx (by omega)))
      have hlen := filter_take_le p xs k
      clear hc1 hx hxe
      obtain ⟨r, hr⟩ : ∃ r, decide (x ∈ ys) = r := ⟨_, rfl⟩
      rw [hr] at HCC
      have hpx : p x = r := by rw [HP.out, ← hr]
      clear hr
      cases r
      · have hp : p x = false := hpx
        clear hpx
        have hN := Lib.hid (filter_take_no (p := p) hz (by rw [← HX.out]; exact hp))
        clear hz hp
        go_wp2_with (go_at_call 49; refine HCC.out.mono ?_; rintro e w' ⟨rfl, rfl⟩)
        go_roundw
        case rel => exact ⟨k + 1, by omega, by go_num, by rw [hN.out]; exact hown, hnx⟩
        case measure => simp [intOf]; omega
      · have hp : p x = true := hpx
        clear hpx
        have hY := Lib.hid (filter_take_yes (p := p) hz (by rw [← HX.out]; exact hp))
        clear hz hp
        go_wp2_with (first
          | (go_at_call 49; refine HCC.out.mono ?_; rintro e w' ⟨rfl, rfl⟩)
          | (at_builtin; refine wpList_append_own _ rfl _ _ 22 rfl B 3 i0 (.int .i64 0) 1 8 Try.underlying22 hi hz0 hz1 hz2 rfl (by decide) _ _ _ rfl (hown.out.alloc _) ⟨wr.heap.size, 0, none⟩ 1 1 [.int .i64 x] rfl rfl ?c1 ?c2 ?c3 ?c4 ?c5 ?_))
        case c1 => exact own_one
        case c2 => intro u hu; simp at hu; subst hu; rfl
        case c3 => unfold maxLen; omega
        case c4 => omega
        case c5 => simp; omega
        intro v' w1 hown' hgrow _
        have R := own_app (hY.out.trans (by rw [← HX.out])) hnx hown.out hown' hgrow hBw
        have R1 := Lib.hid R.1
        have R2 := R.2
        clear R hown' hgrow hY
        go_wp2
        go_roundw
        case rel => exact ⟨k + 1, by omega, by go_num, R1, R2⟩
        case measure => simp [intOf]; omega
    · have hkn : k = n := by omega
      have e := Lib.hid (filter_take_all (p := p) (zs := xs) (k := k) (by rw [HN.out, hkn]))
      rw [e.out] at hown
      have hf := Lib.hid (own_rdc hown.out)
      have hnx' : Below w.heap.size w wr := by rw [← HB.out]; exact hnx
      clear hkn hown
      go_wp2
      go_ret
      obtain ⟨A', c', e', hr, hq1, hq2⟩ := hf.out
      exact ⟨A', c', by rw [← e']; rfl, hr, hnx', hq1, hq2⟩
end Go.Proofs.Ytdccmebkoibkhaa
