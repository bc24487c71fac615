/- The contracts of short (few events with short names), of the second reference's Find and of Events. -/
import Derived.Test.YtdccmebkoibkhaaRefEv
namespace Go.Proofs.Ytdccmebkoibkhaa
open Go.RowKit Go.WideMaps Go.Maps

def shortB (l : List Ev) : Bool := decide (l.length ≤ 40) && l.all fun x => decide (x.name.size ≤ 40)
theorem short_long {l : List Ev} (h : 40 < l.length) : shortB l = false := by unfold shortB; simp; omega
theorem short_bad {l : List Ev} {k : Nat} {x : Ev} (h : l[k]? = some x) (hx : 40 < x.name.size) : shortB l = false := by
  unfold shortB
  rw [Bool.and_eq_false_iff]; right
  rw [List.all_eq_false]; exact ⟨x, List.mem_of_getElem? h, by simp; omega⟩
theorem short_next {l : List Ev} {k : Nat} {x : Ev} (h : l[k]? = some x) (ht : (l.take k).all (fun x => decide (x.name.size ≤ 40)) = true) (hx : ¬ 40 < x.name.size) : (l.take (k + 1)).all (fun x => decide (x.name.size ≤ 40)) = true := by
  rw [take_snoc_ev h, List.all_append, ht]; simp; omega
theorem short_yes {l : List Ev} (h : l.length ≤ 40) (ht : (l.take l.length).all (fun x => decide (x.name.size ≤ 40)) = true) : shortB l = true := by
  rw [List.take_of_length_le (Nat.le_refl _)] at ht; unfold shortB; rw [ht]; simpa using h
theorem short_out {l : List Ev} (h : shortB l = true) : l.length ≤ 40 ∧ ∀ x ∈ l, x.name.size ≤ 40 := by
  unfold shortB at h
  rw [Bool.and_eq_true, List.all_eq_true] at h
  exact ⟨by simpa using h.1, fun x hx => by simpa using h.2 x hx⟩


set_option maxHeartbeats 1600000 in
theorem short_any (A : Option Addr) (n c Bx : Nat) (l : List Ev) (w : World) (hx : RdE w Bx A l) (hn : l.length = n) :
    Calls Try.prog 37 #[.slice A n c] w fun e w' => e = .returned (.bool (shortB l)) ∧ w = w' := by
  have HN := Lib.hid hn
  clear hn
  go_enter Try.func37, Try.ntmps37
  go_wp2
  go_loop [3] (fun i => ∃ k : Nat, k ≤ n ∧ k ≤ 41 ∧ i = .int .i64 k ∧ Hid ((l.take k).all (fun x => decide (x.name.size ≤ 40)) = true)) (fun i => n - (intOf i).toNat)
  case atStart => exact ⟨0, Nat.zero_le _, by omega, rfl, by simp [Hid]⟩
  case round =>
    obtain ⟨k, hk, hk41, rfl, ht⟩ := hrel
    by_cases hlt : k < n
    · by_cases h41 : k < 41
      · obtain ⟨b1, o1, rfl, _, hc1⟩ := hx (by rw [HN.out]; omega)
        have hz : k < l.length := by rw [HN.out]; exact hlt
        obtain ⟨x, hxe⟩ : ∃ x, l[k]? = some x := ⟨_, List.getElem?_eq_getElem hz⟩
        obtain ⟨g1, _⟩ := hc1 k x hxe
        have HX := Lib.hid hxe
        have i1 : (k : Int) < 41 := by omega
        clear hc1 hx hxe
        by_cases he : 40 < x.name.size
        · have hr := Lib.hid (short_bad HX.out he)
          clear ht
          go_wp2
          go_ret
          exact ⟨ret_bool hr.out.symm, rfl⟩
        · have hr := Lib.hid (short_next HX.out ht.out he)
          clear ht
          go_wp2
          go_round
          case rel => exact ⟨k + 1, by omega, by omega, by go_num, hr⟩
          case measure => simp [intOf]; omega
      · have hr := Lib.hid (short_long (l := l) (by rw [HN.out]; omega))
        have i1 : ¬ (k : Int) < 41 := by omega
        have i2 : decide ((n : Int) ≤ 40) = false := by simp; omega
        have i3 : ¬ (n : Int) ≤ 40 := by omega
        clear ht hx
        go_wp2
        go_ret
        exact ⟨ret_bool hr.out.symm, rfl⟩
    · by_cases h40 : n ≤ 40
      · have hkn : k = l.length := by rw [HN.out]; omega
        rw [hkn] at ht
        have hr := Lib.hid (short_yes (by rw [HN.out]; omega) ht.out)
        have i3 : (n : Int) ≤ 40 := by omega
        clear hkn ht hx
        go_wp2
        go_ret
        exact ⟨ret_bool hr.out.symm, rfl⟩
      · have hr := Lib.hid (short_long (l := l) (by rw [HN.out]; omega))
        have i3 : ¬ (n : Int) ≤ 40 := by omega
        clear ht hx
        go_wp2
        go_ret
        exact ⟨ret_bool hr.out.symm, rfl⟩

set_option maxHeartbeats 400000 in
theorem r2Find_any (A : Option Addr) (n c Bx : Nat) (l : List Ev) (nm : ByteArray) (w : World) (hx : RdE w Bx A l) (hn : l.length = n) (hb : n ≤ 140737488355328) :
    Calls Try.prog 62 #[.slice A n c, .string nm] w fun e w' => e = .returned (.int .i64 (fndZ l nm.data.toList)) ∧ w = w' := by
  have HN := Lib.hid hn
  clear hn
  go_enter Try.func62, Try.ntmps62
  go_wp2
  go_loop [5] (fun i => ∃ k : Nat, k ≤ n ∧ i = .int .i64 k ∧ Hid (fidx (l.take k) nm.data.toList = none)) (fun i => n - (intOf i).toNat)
  case atStart => exact ⟨0, Nat.zero_le _, rfl, rfl⟩
  case round =>
    obtain ⟨k, hk, rfl, ht⟩ := hrel
    by_cases hlt : k < n
    · obtain ⟨b1, o1, rfl, _, hc1⟩ := hx (by rw [HN.out]; omega)
      have hz : k < l.length := by rw [HN.out]; exact hlt
      obtain ⟨x, hxe⟩ : ∃ x, l[k]? = some x := ⟨_, List.getElem?_eq_getElem hz⟩
      obtain ⟨g1, _⟩ := hc1 k x hxe
      have HX := Lib.hid hxe
      clear hc1 hx hxe
      by_cases he : x.name.data.toList = nm.data.toList
      · have hr := Lib.hid (fnd_hit HX.out ht.out he)
        have hb1 := toList_beq x.name nm true (by simpa using he)
        obtain ⟨xn, hxn⟩ : ∃ xn, xn = x.name := ⟨_, rfl⟩
        rw [← hxn] at g1 hb1
        clear he hxn ht
        go_wp2
        go_ret
        exact ⟨ret_int hr.out.symm, rfl⟩
      · have hr := Lib.hid (fnd_miss HX.out ht.out he)
        have hb1 := toList_beq x.name nm false (by simpa using he)
        obtain ⟨xn, hxn⟩ : ∃ xn, xn = x.name := ⟨_, rfl⟩
        rw [← hxn] at g1 hb1
        clear he hxn ht
        go_wp2
        go_round
        case rel => exact ⟨k + 1, by omega, by go_num, hr⟩
        case measure => simp [intOf]; omega
    · have hkn : k = n := by omega
      rw [hkn] at ht
      have hr := Lib.hid (fnd_none HN.out ht.out)
      clear hkn ht
      go_wp2
      go_ret
      exact ⟨ret_int hr.out.symm, rfl⟩

/-- The reference's Events is the first error of an alphabet. -/
theorem r2Events_any (A : Option Addr) (n c : Nat) (l : List Ev) (w : World) (hx : RdE w w.heap.size A l) (hn : l.length = n) (hnc : n ≤ c) (hs : ∀ x ∈ l, x.name.size ≤ maxLen) :
    Calls Try.prog 38 #[.slice A n c] w fun e w' => e = .returned (.int .i64 (chE l)) ∧ Below w.heap.size w w' := by
  have H := Lib.hid (r1Check_any A n c l w hx hn hnc hs)
  obtain ⟨v, hv⟩ : ∃ v, v = chE l := ⟨_, rfl⟩
  rw [← hv] at H ⊢
  clear hx hn hs hv
  go_enter Try.func38, Try.ntmps38
  go_wp2_with fail
  refine H.out.mono ?_
  rintro e w' ⟨rfl, hb⟩
  have HB := Lib.hid hb
  clear hb
  go_wp2_with fail
  go_ret
  exact ⟨rfl, HB.out⟩
end Go.Proofs.Ytdccmebkoibkhaa
