/- Contracts of the reference's Is, Select and Faults, of the program's Faults, and the walks of the laws AlphabetSelects and AlphabetFaults. -/
import Derived.Test.YtmdambfapephpaaLchecks
namespace Go.Proofs.Ytmdambfapephpaa
open Go.RowKit Go.WideMaps Go.Maps

theorem kindP_other {kind : Int} {x : Ev} (h : kind < 1 ∨ 5 < kind) : kindP kind x = (x.fault != 0) := by
  unfold kindP; rw [if_neg (by omega), if_neg (by omega), if_neg (by omega), if_neg (by omega), if_neg (by omega)]

set_option maxHeartbeats 800000 in
theorem r1Is_any (nm : ByteArray) (cn ob fr : Bool) (fl kind : Int) (w : World) :
    Calls Try.prog 54 #[.agg #[.string nm, .bool cn, .bool ob, .bool fr, .int .i64 fl], .int .i64 kind] w fun e w' => e = .returned (.bool (kindP kind ⟨nm, cn, ob, fr, fl⟩)) ∧ Below w.heap.size w w' := by
  have HB := Lib.hid (fun o => (Below.refl w.heap.size w).alloc (Nat.le_refl _) o)
  by_cases hk : kind < 1 ∨ 5 < kind
  · have hr := Lib.hid (kindP_other (x := ⟨nm, cn, ob, fr, fl⟩) hk)
    have h1 : (kind == 1) = false := by simp; omega
    have h2 : (kind == 2) = false := by simp; omega
    have h3 : (kind == 3) = false := by simp; omega
    have h4 : (kind == 4) = false := by simp; omega
    have h5 : (kind == 5) = false := by simp; omega
    clear hk
    go_enter Try.func54, Try.ntmps54
    go_wp2
    go_ret
    exact ⟨ret_bool hr.out.symm, HB.out _⟩
  · obtain rfl | rfl | rfl | rfl | rfl : kind = 1 ∨ kind = 2 ∨ kind = 3 ∨ kind = 4 ∨ kind = 5 := by omega
    all_goals
      clear hk
      go_enter Try.func54, Try.ntmps54
      go_wp2
      go_ret
      exact ⟨rfl, HB.out _⟩

set_option maxHeartbeats 1600000 in
theorem r1Select_any (A : Option Addr) (n c : Nat) (l : List Ev) (kd : Int) (w : World) (hx : RdE w w.heap.size A l) (hn : l.length = n) (hb : n * 40 ≤ 140737488351232) :
    Calls Try.prog 36 #[.slice A n c, .int .i64 kd] w fun e w' => Gives w (wh (kindP kd) l) e w' := by
  obtain ⟨i0, hi, hz0, hz1, hz2⟩ := info_parts info_int
  have HN := Lib.hid hn
  clear hn
  obtain ⟨p, hpd⟩ : ∃ p : Ev → Bool, p = (kindP kd) := ⟨_, rfl⟩
  have HP := Lib.hid hpd
  rw [← hpd]
  clear hpd
  obtain ⟨B, hB⟩ : ∃ B, B = w.heap.size := ⟨_, rfl⟩
  rw [← hB] at hx
  have HB := Lib.hid hB
  have hBw : B ≤ w.heap.size := by omega
  clear hB
  go_enter Try.func36, Try.ntmps36
  go_wp2
  go_loopw [5, 6] (fun v i wr => ∃ k : Nat, k ≤ n ∧ i = .int .i64 k ∧ Hid (Own wr B v (wh p (l.take k))) ∧ Below B w wr) (fun _ i _ => n - (intOf i).toNat)
  case atStart => exact ⟨0, Nat.zero_le _, rfl, World.ownsRow_nil _ _ _ _, Below.refl _ _⟩
  case round =>
    obtain ⟨k, hk, rfl, hown, hnx⟩ := hrel
    by_cases hlt : k < n
    · obtain ⟨b1, o1, rfl, hbB, hc1⟩ := hx (by rw [HN.out]; omega)
      have hz : k < l.length := by rw [HN.out]; exact hlt
      obtain ⟨x, hxe⟩ : ∃ x, l[k]? = some x := ⟨_, List.getElem?_eq_getElem hz⟩
      have hc := hc1 k x hxe
      clear hc1 hx
      have HX := Lib.hid hxe
      clear hxe hz
      obtain ⟨nm, cn, ob, fr, fl⟩ := x
      obtain ⟨g1, g2, g3, g4, g5⟩ : EvAt wr b1 (o1 + k * 5) ⟨nm, cn, ob, fr, fl⟩ := hc.keep fun o => hnx.cell hbB
      clear hc
      dsimp only at g1 g2 g3 g4 g5
      have hsz := hnx.size
      have HI := Lib.hid (fun W => r1Is_any nm cn ob fr fl kd W)
      have hpx : kindP kd ⟨nm, cn, ob, fr, fl⟩ = p ⟨nm, cn, ob, fr, fl⟩ := by rw [HP.out]
      cases hp : p ⟨nm, cn, ob, fr, fl⟩
      · rw [hp] at hpx
        have hN := Lib.hid (wh_no HX.out hp)
        rw [hpx] at HI
        clear hp hpx
        go_wp2_with (go_at_call 54; refine (HI.out _).mono ?_; rintro e w' ⟨rfl, hbel⟩)
        have r1 : Below B w w' := hnx.trans (hbel.mono (by omega))
        have r2 : Own w' B u5 (wh p (l.take (k + 1))) := by rw [hN.out]; exact own_kept hown.out hbel
        exact ⟨⟨k + 1, by omega, by go_num, r2, r1⟩, by simp [intOf]; omega⟩
      · rw [hp] at hpx
        have hY := Lib.hid (wh_yes HX.out hp)
        have hlen := wh_le p l k
        rw [hpx] at HI
        clear hp hpx
        go_wp2_with (first
          | (go_at_call 54; refine (HI.out _).mono ?_; rintro e w' ⟨rfl, hbel⟩; have hown2 := Lib.hid (own_kept hown.out hbel))
          | (at_builtin; refine wpList_append_own _ rfl _ _ 37 rfl B 3 i0 (.int .i64 0) 1 8 Try.underlying37 hi hz0 hz1 hz2 rfl (by decide) _ _ _ rfl (hown2.out.alloc _) ⟨w'.heap.size, 0, none⟩ 1 1 [.int .i64 k] rfl rfl ?c1 ?c2 ?c3 ?c4 ?c5 ?_))
        case c1 => exact own_one
        case c2 => intro u hu; simp at hu; subst hu; rfl
        case c3 => unfold maxLen; omega
        case c4 => omega
        case c5 => have := hbel.size; simp; omega
        intro v' w1 hown' hgrow _
        have r1 : Below B w w' := hnx.trans (hbel.mono (by omega))
        have R := own_app hY.out r1 hown2.out hown' hgrow hBw
        have R1 := Lib.hid R.1
        have R2 := R.2
        clear R hown' hgrow hY r1
        go_wp2
        go_roundw
        case rel => exact ⟨k + 1, by omega, by go_num, R1, R2⟩
        case measure => simp [intOf]; omega
    · have hkn : k = n := by omega
      have e := Lib.hid (wh_all (p := p) HN.out)
      rw [hkn] at hown
      rw [e.out] at hown
      have hf := Lib.hid (own_rd hown.out)
      have hnx' : Below w.heap.size w wr := by rw [← HB.out]; exact hnx
      clear hkn hown
      go_wp2
      go_ret
      obtain ⟨A', c', e', hr⟩ := hf.out
      exact ⟨A', c', by rw [← e']; rfl, hr, hnx'⟩

set_option maxHeartbeats 1600000 in
theorem r1Faults_any (A : Option Addr) (n c : Nat) (l : List Ev) (kd : Int) (w : World) (hx : RdE w w.heap.size A l) (hn : l.length = n) (hb : n * 40 ≤ 140737488351232) :
    Calls Try.prog 38 #[.slice A n c, .int .i64 kd] w fun e w' => Gives w (wh (fun x => decide (x.fault = kd)) l) e w' := by
  obtain ⟨i0, hi, hz0, hz1, hz2⟩ := info_parts info_int
  have HN := Lib.hid hn
  clear hn
  obtain ⟨p, hpd⟩ : ∃ p : Ev → Bool, p = (fun x => decide (x.fault = kd)) := ⟨_, rfl⟩
  have HP := Lib.hid hpd
  rw [← hpd]
  clear hpd
  obtain ⟨B, hB⟩ : ∃ B, B = w.heap.size := ⟨_, rfl⟩
  rw [← hB] at hx
  have HB := Lib.hid hB
  have hBw : B ≤ w.heap.size := by omega
  clear hB
  go_enter Try.func38, Try.ntmps38
  go_wp2
  go_loopw [5, 6] (fun v i wr => ∃ k : Nat, k ≤ n ∧ i = .int .i64 k ∧ Hid (Own wr B v (wh p (l.take k))) ∧ Below B w wr) (fun _ i _ => n - (intOf i).toNat)
  case atStart => exact ⟨0, Nat.zero_le _, rfl, World.ownsRow_nil _ _ _ _, Below.refl _ _⟩
  case round =>
    obtain ⟨k, hk, rfl, hown, hnx⟩ := hrel
    by_cases hlt : k < n
    · obtain ⟨b1, o1, rfl, hbB, hc1⟩ := hx (by rw [HN.out]; omega)
      have hz : k < l.length := by rw [HN.out]; exact hlt
      obtain ⟨x, hxe⟩ : ∃ x, l[k]? = some x := ⟨_, List.getElem?_eq_getElem hz⟩
      have hc := hc1 k x hxe
      clear hc1 hx
      have HX := Lib.hid hxe
      clear hxe hz
      obtain ⟨nm, cn, ob, fr, fl⟩ := x
      obtain ⟨g1, g2, g3, g4, g5⟩ : EvAt wr b1 (o1 + k * 5) ⟨nm, cn, ob, fr, fl⟩ := hc.keep fun o => hnx.cell hbB
      clear hc
      dsimp only at g1 g2 g3 g4 g5
      have hsz := hnx.size
      have hpx : decide (fl = kd) = p ⟨nm, cn, ob, fr, fl⟩ := by rw [HP.out]
      cases hp : p ⟨nm, cn, ob, fr, fl⟩
      · have hN := Lib.hid (wh_no HX.out hp)
        have hb1 : (fl == kd) = false := by rw [hp] at hpx; simpa using hpx
        clear hp hpx
        go_wp2
        go_roundw
        case rel => exact ⟨k + 1, by omega, by go_num, by rw [hN.out]; exact hown, hnx⟩
        case measure => simp [intOf]; omega
      · have hY := Lib.hid (wh_yes HX.out hp)
        have hlen := wh_le p l k
        have hb1 : (fl == kd) = true := by rw [hp] at hpx; simpa using hpx
        clear hp hpx
        go_wp2_with (at_builtin; refine wpList_append_own _ rfl _ _ 37 rfl B 3 i0 (.int .i64 0) 1 8 Try.underlying37 hi hz0 hz1 hz2 rfl (by decide) _ _ _ rfl (hown.out.alloc _) ⟨wr.heap.size, 0, none⟩ 1 1 [.int .i64 k] rfl rfl ?c1 ?c2 ?c3 ?c4 ?c5 ?_)
        case c1 => exact own_one
        case c2 => intro u hu; simp at hu; subst hu; rfl
        case c3 => unfold maxLen; omega
        case c4 => omega
        case c5 => simp; omega
        intro v' w1 hown' hgrow _
        have R := own_app hY.out hnx hown.out hown' hgrow hBw
        have R1 := Lib.hid R.1
        have R2 := R.2
        clear R hown' hgrow hY
        go_wp2
        go_roundw
        case rel => exact ⟨k + 1, by omega, by go_num, R1, R2⟩
        case measure => simp [intOf]; omega
    · have hkn : k = n := by omega
      have e := Lib.hid (wh_all (p := p) HN.out)
      rw [hkn] at hown
      rw [e.out] at hown
      have hf := Lib.hid (own_rd hown.out)
      have hnx' : Below w.heap.size w wr := by rw [← HB.out]; exact hnx
      clear hkn hown
      go_wp2
      go_ret
      obtain ⟨A', c', e', hr⟩ := hf.out
      exact ⟨A', c', by rw [← e']; rfl, hr, hnx'⟩

theorem faultsFn_any (cb : Nat) (kd : Int) (x : Ev) (w : World) (hc : w.cell? ⟨cb, 0, none⟩ = some (.int .i64 kd)) (hb : cb < w.heap.size) :
    Calls Try.prog 55 #[evV x, .pointer (some ⟨cb, 0, none⟩)] w fun e w' => e = .returned (.bool (decide (x.fault = kd))) ∧ Below w.heap.size w w' := by
  obtain ⟨nm, cn, ob, fr, fl⟩ := x
  have HB := Lib.hid (fun o => (Below.refl w.heap.size w).alloc (Nat.le_refl _) o)
  have hc' := fun o => (World.cell?_alloc_lt w o ⟨cb, 0, none⟩ hb).trans hc
  unfold evV
  by_cases h : fl = kd
  · have hb1 : (fl == kd) = true := by simpa using h
    have hr := Lib.hid (show decide (fl = kd) = true by simpa using h)
    clear h
    go_enter Try.func55, Try.ntmps55
    go_wp2
    go_ret
    exact ⟨ret_bool hr.out.symm, HB.out _⟩
  · have hb1 : (fl == kd) = false := by simpa using h
    have hr := Lib.hid (show decide (fl = kd) = false by simpa using h)
    clear h
    go_enter Try.func55, Try.ntmps55
    go_wp2
    go_ret
    exact ⟨ret_bool hr.out.symm, HB.out _⟩

/-- The events of a class of faults, and the first error. -/
def fltZ (l : List Ev) (kd : Int) : List Int := if chE l ≠ 0 then [] else if kd < 1 ∨ 4 < kd then [] else wh (fun x => decide (x.fault = kd)) l
def fltE (l : List Ev) (kd : Int) : Int := if chE l ≠ 0 then chE l else if kd < 1 ∨ 4 < kd then 2 else 0
end Go.Proofs.Ytmdambfapephpaa
