/- Contracts of the reference's Find and Check: the first event with a name; the first error of an alphabet; whether an alphabet is small. -/
import Derived.Test.YtdccmebkoibkhaaRname
import Derived.Deep.QuietTactic
import Derived.BigQuiet
namespace Go.Proofs.Ytdccmebkoibkhaa
open Go.RowKit Go.WideMaps Go.Maps

def fndZ (l : List Ev) (s : List UInt8) : Int := match fidx l s with | some i => (i : Int) | none => -1
theorem fnd_hit {l : List Ev} {k : Nat} {x : Ev} {s : List UInt8} (h : l[k]? = some x) (hp : fidx (l.take k) s = none) (hx : x.name.data.toList = s) : fndZ l s = (k : Int) := by
  have hl : l = l.take k ++ x :: l.drop (k + 1) := by rw [← ch_drop h, List.take_append_drop]
  have hk := (List.getElem?_eq_some_iff.1 h).1
  have h2 : fidx l s = some k := by
    rw [hl]; unfold fidx at *; rw [List.findIdx?_append, hp]; simp [List.findIdx?_cons, List.length_take, hx]; omega
  rw [fndZ, h2]
theorem fnd_miss {l : List Ev} {k : Nat} {x : Ev} {s : List UInt8} (h : l[k]? = some x) (hp : fidx (l.take k) s = none) (hx : x.name.data.toList ≠ s) : fidx (l.take (k + 1)) s = none := by
  rw [take_snoc_ev h]; exact fidx_snoc_miss hp hx
theorem fnd_none {l : List Ev} {s : List UInt8} {n : Nat} (hn : l.length = n) (hp : fidx (l.take n) s = none) : fndZ l s = -1 := by
  rw [List.take_of_length_le (by omega)] at hp; rw [fndZ, hp]
theorem fndZ_ge (l : List Ev) (s : List UInt8) : decide (0 ≤ fndZ l s) = (fidx l s).isSome := by
  unfold fndZ; cases fidx l s with
  | some i => simp
  | none => simp
theorem toList_beq (a b : ByteArray) (v : Bool) (h : decide (a.data.toList = b.data.toList) = v) : (a.toList == b.toList) = v := by
  rw [Lib.toList_data, Lib.toList_data, ← h, Bool.eq_iff_iff]; simp

set_option maxHeartbeats 800000 in
theorem r1Find_any (A : Option Addr) (n c Bx : Nat) (l : List Ev) (nm : ByteArray) (w : World) (hx : RdE w Bx A l) (hn : l.length = n) (hb : n ≤ 140737488355328) :
    Calls Try.prog 72 #[.slice A n c, .string nm] w fun e w' => e = .returned (.int .i64 (fndZ l nm.data.toList)) ∧ w = w' := by
  have HN := Lib.hid hn
  clear hn
  go_enter Try.func72, Try.ntmps72
  go_wp2
  go_loop [5] (fun i => ∃ k : Nat, k ≤ n ∧ i = .int .i64 k ∧ Hid (fidx (l.take k) nm.data.toList = none)) (fun i => n - (intOf i).toNat)
  case atStart => exact ⟨0, Nat.zero_le _, rfl, rfl⟩
  case round =>
    obtain ⟨k, hk, rfl, ht⟩ := hrel
    by_cases hlt : k < n
    · obtain ⟨b1, o1, rfl, _, hc1⟩ := hx (by rw [HN.out]; omega)
      have hz : k < l.length := by rw [HN.out]; exact hlt
      obtain ⟨x, hxe⟩ : ∃ x, l[k]? = some x := ⟨_, List.getElem?_eq_getElem hz⟩
      obtain ⟨g1, _⟩ := hc1 k x hxe
      have HX := Lib.hid hxe
      clear hc1 hx hxe
      by_cases he : x.name.data.toList = nm.data.toList
      · have hr := Lib.hid (fnd_hit HX.out ht.out he)
        have hb1 := toList_beq x.name nm true (by simpa using he)
        obtain ⟨xn, hxn⟩ : ∃ xn, xn = x.name := ⟨_, rfl⟩
        rw [← hxn] at g1 hb1
        clear he hxn ht
        go_wp2
        go_ret
        exact ⟨ret_int hr.out.symm, rfl⟩
      · have hr := Lib.hid (fnd_miss HX.out ht.out he)
        have hb1 := toList_beq x.name nm false (by simpa using he)
        obtain ⟨xn, hxn⟩ : ∃ xn, xn = x.name := ⟨_, rfl⟩
        rw [← hxn] at g1 hb1
        clear he hxn ht
        go_wp2
        go_round
        case rel => exact ⟨k + 1, by omega, by go_num, hr⟩
        case measure => simp [intOf]; omega
    · have hkn : k = n := by omega
      rw [hkn] at ht
      have hr := Lib.hid (fnd_none HN.out ht.out)
      clear hkn ht
      go_wp2
      go_ret
      exact ⟨ret_int hr.out.symm, rfl⟩

theorem calls_sym {P : Program} {f : FuncId} {args : Array Value} {w : World} {v : Value} (h : Calls P f args w fun e w' => e = .returned v ∧ w = w') : Calls P f args w fun e w' => e = .returned v ∧ w' = w :=
  h.mono fun _ _ ⟨h1, h2⟩ => ⟨h1, h2.symm⟩

set_option maxHeartbeats 3200000 in
theorem r1Check_any (A : Option Addr) (n c : Nat) (l : List Ev) (w : World) (hx : RdE w w.heap.size A l) (hn : l.length = n) (hnc : n ≤ c) (hs : ∀ x ∈ l, x.name.size ≤ maxLen) :
    Calls Try.prog 58 #[.slice A n c] w fun e w' => e = .returned (.int .i64 (chE l)) ∧ Below w.heap.size w w' := by
  by_cases h32 : 32 < n
  · have HE := Lib.hid (chE_long (l := l) (by omega))
    clear hn hs
    go_enter Try.func58, Try.ntmps58
    go_wp2
    go_ret
    exact ⟨ret_int HE.out.symm, Below.refl _ _⟩
  · have HN := Lib.hid hn
    have HS := Lib.hid hs
    obtain ⟨v, hv⟩ : ∃ v, chE l = v := ⟨_, rfl⟩
    have HV := Lib.hid ((chE_start (l := l) (by omega)).trans hv)
    have HV' := Lib.hid hv
    clear hn hs hv
    go_enter Try.func58, Try.ntmps58
    go_wp2
    go_loopw [3] (fun i wr => ∃ k : Nat, k ≤ n ∧ i = .int .i64 k ∧ Hid (chFrom (l.take k) (l.drop k) = v) ∧ Below w.heap.size w wr) (fun i _ => n - (intOf i).toNat)
    case atStart => exact ⟨0, Nat.zero_le _, rfl, HV, Below.refl _ _⟩
    case round =>
      obtain ⟨k, hk, rfl, ht, hnx⟩ := hrel
      by_cases hlt : k < n
      · have hxb := hx.below hnx (Nat.le_refl _)
        obtain ⟨b1, o1, rfl, hbB, hc1⟩ := hxb (by rw [HN.out]; omega)
        have hz : k < l.length := by rw [HN.out]; exact hlt
        obtain ⟨x, hxe⟩ : ∃ x, l[k]? = some x := ⟨_, List.getElem?_eq_getElem hz⟩
        have hc := hc1 k x hxe
        have hF0 : RdE wr w.heap.size (some ⟨b1, o1, none⟩) (l.take k) := fun _ => ⟨b1, o1, rfl, hbB, fun j y hj => hc1 j y (by
          rw [List.getElem?_take] at hj; split at hj
          · exact hj
          · cases hj)⟩
        clear hc1 hx hxb
        have HX := Lib.hid hxe
        have hnm := HS.out _ (List.mem_of_getElem? hxe)
        clear hxe
        obtain ⟨nm, cn, ob, fr, fl⟩ := x
        obtain ⟨g1, g2, g3, g4, g5⟩ := hc
        dsimp only at g1 g2 g3 g4 g5 hnm
        obtain ⟨fz, hfz⟩ : ∃ fz, fz = fndZ (l.take k) nm.data.toList := ⟨_, rfl⟩
        have hfz' : decide (0 ≤ fz) = (fidx (l.take k) nm.data.toList).isSome := by rw [hfz]; exact fndZ_ge _ _
        have HF := Lib.hid (fun W (h : RdE W w.heap.size (some ⟨b1, o1, none⟩) (l.take k)) => calls_sym (r1Find_any (some ⟨b1, o1, none⟩) k c w.heap.size (l.take k) nm W h (take_len (by omega)) (by omega)))
        rw [← hfz] at HF
        have HI := Lib.hid (fun W => r1IsName_any nm W hnm)
        have HF1 := Lib.hid (fun o q => HF.out ((wr.alloc o).drewN q) (hF0.keep fun b o' hb => World.cell?_alloc_lt wr o _ (Nat.lt_of_lt_of_le hb hnx.size)))
        have HB := Lib.hid (fun o => hnx.alloc hnx.size o)
        have hkc : (k : Int) ≤ (c : Int) := by omega
        clear hF0 HF hfz
        cases hnb : nameB nm.data.toList
        · have hr := Lib.hid (ch_err (c := 7) HX.out ht.out (evE_name hnb) (by simp))
          clear ht hfz'
          go_wp2_with (go_at_call 71; refine (HI.out _).mono ?_; rintro e w' ⟨rfl, rfl⟩)
          go_ret
          exact ⟨ret_int (hr.out.symm.trans HV'.out.symm), HB.out _⟩
        · by_cases hf0 : 0 ≤ fz
          · have hs1 : (fidx (l.take k) nm.data.toList).isSome = true := by rw [← hfz']; simpa using hf0
            have hr := Lib.hid (ch_err (c := 8) HX.out ht.out (by rw [hs1]; exact evE_taken hnb) (by simp))
            clear ht hfz' hs1
            go_wp2_with (go_at_call 71; refine (HI.out _).mono ?_; rintro e w' ⟨rfl, rfl⟩)
            go_quiet ((go_at_call 72; exact Calls.quiet_of_same (HF1.out _ _)))
            go_wp2
            go_ret
            exact ⟨ret_int (hr.out.symm.trans HV'.out.symm), below_drewN (HB.out _) _⟩
          · have hs1 : (fidx (l.take k) nm.data.toList).isSome = false := by rw [← hfz']; simpa using hf0
            have hd0 : decide (0 ≤ fz) = false := by simpa using hf0
            clear hfz'
            by_cases h0 : fl < 0
            · have hr := Lib.hid (ch_err (c := 2) HX.out ht.out (by rw [hs1]; exact evE_range hnb (.inl h0)) (by simp))
              clear ht hs1
              go_wp2_with (go_at_call 71; refine (HI.out _).mono ?_; rintro e w' ⟨rfl, rfl⟩)
              go_quiet ((go_at_call 72; exact Calls.quiet_of_same (HF1.out _ _)))
              go_wp2
              go_ret
              exact ⟨ret_int (hr.out.symm.trans HV'.out.symm), below_drewN (HB.out _) _⟩
            · by_cases h4 : 4 < fl
              · have hr := Lib.hid (ch_err (c := 2) HX.out ht.out (by rw [hs1]; exact evE_range hnb (.inr h4)) (by simp))
                clear ht hs1
                go_wp2_with (go_at_call 71; refine (HI.out _).mono ?_; rintro e w' ⟨rfl, rfl⟩)
                go_quiet ((go_at_call 72; exact Calls.quiet_of_same (HF1.out _ _)))
                go_wp2
                go_ret
                exact ⟨ret_int (hr.out.symm.trans HV'.out.symm), below_drewN (HB.out _) _⟩
              · by_cases hp : 0 < fl
                · cases cn
                  · cases ob
                    · have hr := Lib.hid (ch_next HX.out ht.out (by rw [hs1]; exact evE_ok hnb h0 h4 (.inr ⟨rfl, rfl⟩)))
                      clear ht hs1
                      go_wp2_with (go_at_call 71; refine (HI.out _).mono ?_; rintro e w' ⟨rfl, rfl⟩)
                      go_quiet ((go_at_call 72; exact Calls.quiet_of_same (HF1.out _ _)))
                      go_wp2
                      go_roundw
                      case rel => exact ⟨k + 1, by omega, by go_num, hr, below_drewN (HB.out _) _⟩
                      case measure => simp [intOf]; omega
                    · have hr := Lib.hid (ch_err (c := 13) HX.out ht.out (by rw [hs1]; exact evE_conflict hnb h0 h4 (by show fl ≠ 0; omega) (.inr rfl)) (by simp))
                      clear ht hs1
                      go_wp2_with (go_at_call 71; refine (HI.out _).mono ?_; rintro e w' ⟨rfl, rfl⟩)
                      go_quiet ((go_at_call 72; exact Calls.quiet_of_same (HF1.out _ _)))
                      go_wp2
                      go_ret
                      exact ⟨ret_int (hr.out.symm.trans HV'.out.symm), below_drewN (HB.out _) _⟩
                  · have hr := Lib.hid (ch_err (c := 13) HX.out ht.out (by rw [hs1]; exact evE_conflict hnb h0 h4 (by show fl ≠ 0; omega) (.inl rfl)) (by simp))
                    clear ht hs1
                    go_wp2_with (go_at_call 71; refine (HI.out _).mono ?_; rintro e w' ⟨rfl, rfl⟩)
                    go_quiet ((go_at_call 72; exact Calls.quiet_of_same (HF1.out _ _)))
                    go_wp2
                    go_ret
                    exact ⟨ret_int (hr.out.symm.trans HV'.out.symm), below_drewN (HB.out _) _⟩
                · have hr := Lib.hid (ch_next HX.out ht.out (by rw [hs1]; exact evE_ok hnb h0 h4 (.inl (by show fl = 0; omega))))
                  clear ht hs1
                  go_wp2_with (go_at_call 71; refine (HI.out _).mono ?_; rintro e w' ⟨rfl, rfl⟩)
                  go_quiet ((go_at_call 72; exact Calls.quiet_of_same (HF1.out _ _)))
                  go_wp2
                  go_roundw
                  case rel => exact ⟨k + 1, by omega, by go_num, hr, below_drewN (HB.out _) _⟩
                  case measure => simp [intOf]; omega
      · have hkn : k = l.length := by rw [HN.out]; omega
        rw [hkn] at ht
        have hr := Lib.hid (ch_end ht.out)
        clear hkn ht
        go_wp2
        go_ret
        exact ⟨ret_int (hr.out.symm.trans HV'.out.symm), hnx⟩
end Go.Proofs.Ytdccmebkoibkhaa
