/- The walk of WordTexts. -/
import Derived.Test.YtdccmebkoibkhaaWknown
import Derived.Test.YtdccmebkoibkhaaWrtext
namespace Go.Proofs.Ytdccmebkoibkhaa
open Go.RowKit
set_option linter.unusedVariables false

theorem mk_ints (n : Nat) (h : n ≤ 1000000) (W : World) : (Instr.makeSlice 22 (.int .i64 n) (.int .i64 n)).run Try.prog W = .ok (.slice (some ⟨W.heap.size, 0, none⟩) n n) (W.alloc (.cells (madeCells #[.int .i64 0] n) 3)) := by
  obtain ⟨i0, hi, hz0, hz1, hz2⟩ := info_parts info_int
  have := run_make (P := Try.prog) W 22 3 i0 (.int .i64 0) Try.underlying22 hi hz0 .i64 .i64 n n (by omega) (Int.le_refl _) (by rw [hz2]; omega) (by omega)
  rw [hz1] at this
  simp only [Nat.mul_one] at this
  exact this

set_option maxHeartbeats 8000000 in
set_option maxRecDepth 100000 in
theorem lawTexts (A : Option Addr) (n c : Nat) (l : List Ev) (C : Option Addr) (m d : Nat) (zs : List Int) (w : World) (hx : RdE w w.heap.size A l) (hn : l.length = n) (hf : ∀ x ∈ l, x.name.size ≤ maxLen ∧ (Lit.int .i64 x.fault).wf = true) (hnc : n ≤ c)
    (hy : RdI w w.heap.size C zs) (hm : zs.length = m) (_hg : ∀ z ∈ zs, (Lit.int .i64 z).wf = true) :
    Calls Try.prog 12 #[.slice A n c, .slice C m d] w fun e w' => e = .returned (.bool true) ∧ Below w.heap.size w w' := by
  have HK := Lib.hid known_any
  have up : ∀ W, Below w.heap.size w W → RdE W W.heap.size A l := fun W h => (hx.below h (Nat.le_refl _)).more h.size
  have upI : ∀ W, Below w.heap.size w W → RdI W W.heap.size C zs := fun W h => (hy.below h (Nat.le_refl _)).more h.size
  have SH := Lib.hid (fun (W : World) (h : Below w.heap.size w W) => short_any A n c w.heap.size l W (hx.below h (Nat.le_refl _)) hn)
  obtain ⟨b, hb⟩ : ∃ b, b = shortB l := ⟨_, rfl⟩
  rw [← hb] at SH
  have HN := Lib.hid hn
  have HM := Lib.hid hm
  have HF := Lib.hid (show ∀ x ∈ l, x.name.size ≤ maxLen from fun x h => (hf x h).1)
  have HU := Lib.hid up
  have HV := Lib.hid upI
  cases b with
  | false =>
    clear hx hn hf up hy hm upI
    go_enter Try.func12, Try.ntmps12
    go_wp2_with fail
    refine (HK.out _).mono ?_
    rintro e w1 ⟨rfl, hb1⟩
    have B1 := Lib.hid hb1
    clear hb1
    go_wp2_with fail
    refine (SH.out _ B1.out).mono ?_
    rintro e w' ⟨rfl, rfl⟩
    go_wp2_with fail
    refine (HK.out _).mono ?_
    rintro e w2 ⟨rfl, hb2⟩
    have B2 := Lib.hid (B1.out.trans (hb2.mono B1.out.size))
    clear hb2
    go_wp2_with fail
    go_ret
    exact ⟨rfl, B2.out⟩
  | true =>
    obtain ⟨hn40, hnm⟩ := short_out hb.symm
    have hn40' : n ≤ 40 := by rw [← hn]; exact hn40
    by_cases hbig : 20 < m
    · have hi : (20 : Int) < (m : Int) := by omega
      have hi2 : decide ((20 : Int) < (m : Int)) = true := by simp; omega
      clear hx hn hf up hy hm upI hb hnm hn40 hbig
      go_enter Try.func12, Try.ntmps12
      go_wp2_with fail
      refine (HK.out _).mono ?_
      rintro e w1 ⟨rfl, hb1⟩
      have B1 := Lib.hid hb1
      clear hb1
      go_wp2_with fail
      refine (SH.out _ B1.out).mono ?_
      rintro e w' ⟨rfl, rfl⟩
      go_wp2_with fail
      refine (HK.out _).mono ?_
      rintro e w2 ⟨rfl, hb2⟩
      have B2 := Lib.hid (B1.out.trans (hb2.mono B1.out.size))
      clear hb2 hi hi2 hn40'
      go_wp2_with fail
      go_ret
      exact ⟨rfl, B2.out⟩
    · have hi : ¬ (20 : Int) < (m : Int) := by omega
      have hm20 : m ≤ 20 := by omega
      have HNM := Lib.hid hnm
      by_cases he : chE l = 0
      · have HE := Lib.hid he
        have T1 := Lib.hid (fun (W : World) (h : Below w.heap.size w W) => wText_ok A C n c m d l zs W (HU.out W h) (HV.out W h) HN.out HM.out (by omega) (by omega) HF.out HNM.out he)
        have T3 := Lib.hid (fun (W : World) (D : Option Addr) (h : Below w.heap.size w W) => wText_long A D n c 4097 4097 l W (HU.out W h) HN.out (by omega) HF.out he (by decide) (by decide))
        have EV := Lib.hid (fun (W : World) (h : Below w.heap.size w W) => r2Events_any A n c l W (HU.out W h) HN.out hnc HF.out)
        rw [he] at EV
        obtain ⟨t, ht⟩ : ∃ t, t = txt l zs := ⟨_, rfl⟩
        have P1 := Lib.hid (fun (W : World) (h : Below w.heap.size w W) (hin : inR n zs = true) => by
          have := wParse_ok A n c l t W (HU.out W h) HN.out HF.out he (by rw [ht]; have := txt_size HNM.out zs; have := HM.out; omega)
          rw [ht, back he HN.out hin (by have := HM.out; omega), ← ht] at this
          exact this)
        have T2 := Lib.hid (fun (W : World) (h : Below w.heap.size w W) (hin : inR n zs = true) => by
          have := r2Text_any A C n c m d l zs W (HU.out W h) (HV.out W h) HN.out HM.out (by omega) (by omega) hin HNM.out
          rw [← ht] at this
          exact this)
        rw [← ht] at T1
        have MK : ∀ W : World, (Instr.makeSlice 22 (.int .i64 4097) (.int .i64 4097)).run Try.prog W = .ok (.slice (some ⟨W.heap.size, 0, none⟩) 4097 4097) (W.alloc (.cells (madeCells #[.int .i64 0] 4097) 3)) := mk_ints 4097 (by decide)
        generalize madeCells #[Value.int .i64 0] 4097 = Z at *
        have HY := Lib.hid hy
        clear hx hn hf up hy hm upI hb hnm hn40 hbig ht he
        go_enter Try.func12, Try.ntmps12
        go_wp2_with fail
        refine (HK.out _).mono ?_
        rintro e w1 ⟨rfl, hb1⟩
        have B1 := Lib.hid hb1
        clear hb1
        go_wp2_with fail
        refine (SH.out _ B1.out).mono ?_
        rintro e w' ⟨rfl, rfl⟩
        go_wp2_with fail
        refine (EV.out _ B1.out).mono ?_
        rintro e w2 ⟨rfl, hb⟩
        have B2 := Lib.hid (B1.out.trans (hb.mono B1.out.size))
        clear hb
        go_wp2_with fail
        go_loopw [5, 6] (fun e i wr => ∃ k : Nat, k ≤ m ∧ i = .int .i64 k ∧ ((e = .int .i64 0 ∧ Hid (inR n (zs.take k) = true)) ∨ (e = .int .i64 2 ∧ Hid (inR n zs = false))) ∧ Below w.heap.size w wr) (fun _ i _ => m - (intOf i).toNat)
        case atStart => exact ⟨0, Nat.zero_le _, rfl, .inl ⟨rfl, Lib.hid rfl⟩, B2.out⟩
        case round =>
          obtain ⟨k, hk, rfl, he, hnx⟩ := hrel
          rcases he with ⟨rfl, hin⟩ | ⟨rfl, hno⟩
          · by_cases hlt : k < m
            · have hz : k < zs.length := by rw [HM.out]; exact hlt
              obtain ⟨b2, o2, rfl, hbB2, hc2⟩ := HY.out (by omega)
              obtain ⟨z, hzz⟩ : ∃ z, z = zs.getD k 0 := ⟨_, rfl⟩
              have hcz : wr.cell? ⟨b2, o2 + k, none⟩ = some (.int .i64 z) := by rw [hzz]; exact (hnx.cell hbB2).trans (hc2 k hz)
              have HNX := Lib.hid hnx
              by_cases hneg : z < 0
              · have HNO := Lib.hid (inR_bad (n := n) hz (by rw [← hzz]; omega))
                have d1 : decide (z < 0) = true := decide_eq_true hneg
                clear hc2 hzz hz hnx hin
                go_wp2
                go_roundw
                case rel => exact ⟨k + 1, by omega, by go_num, .inr ⟨rfl, HNO⟩, HNX.out⟩
                case measure => simp [intOf]; omega
              · by_cases hge : (n : Int) ≤ z
                · have HNO := Lib.hid (inR_bad (n := n) hz (by rw [← hzz]; omega))
                  have d1 : decide (z < 0) = false := decide_eq_false hneg
                  have d2 : decide ((n : Int) ≤ z) = true := decide_eq_true hge
                  clear hc2 hzz hz hnx hin
                  go_wp2
                  go_roundw
                  case rel => exact ⟨k + 1, by omega, by go_num, .inr ⟨rfl, HNO⟩, HNX.out⟩
                  case measure => simp [intOf]; omega
                · have HIN := Lib.hid (inR_next (n := n) hz hin.out (by rw [← hzz]; omega) (by rw [← hzz]; omega))
                  have d1 : decide (z < 0) = false := decide_eq_false hneg
                  have d2 : decide ((n : Int) ≤ z) = false := decide_eq_false hge
                  clear hc2 hzz hz hnx hin
                  go_wp2
                  go_roundw
                  case rel => exact ⟨k + 1, by omega, by go_num, .inl ⟨rfl, HIN⟩, HNX.out⟩
                  case measure => simp [intOf]; omega
            · have hkm : k = m := by omega
              rw [hkm] at hin
              have hi2 := inR_all HM.out hin.out
              have HNX := Lib.hid hnx
              rw [hi2] at T1
              simp only [if_true] at T1
              have P1' := Lib.hid (fun (W : World) (h : Below w.heap.size w W) => P1.out W h hi2)
              have T2' := Lib.hid (fun (W : World) (h : Below w.heap.size w W) => T2.out W h hi2)
              clear P1 T2 hi2 hin hnx hkm
              go_wp2_with fail
              refine (T1.out _ HNX.out).mono ?_
              rintro e w3 ⟨rfl, hb⟩
              have B3 := Lib.hid (HNX.out.trans (hb.mono HNX.out.size))
              clear hb
              go_wp2_with fail
              refine (P1'.out _ B3.out).mono ?_
              rintro e w4 ⟨A4, c4, rfl, hr, hb⟩
              have R4 := Lib.hid hr
              have B4 := Lib.hid (B3.out.trans (hb.mono B3.out.size))
              have hs4 := B4.out.size
              clear hr hb
              go_wp2_with fail
              refine (T3.out _ _ (B4.out.alloc hs4 _)).mono ?_
              rintro e w5 ⟨rfl, hb⟩
              have hb45 : Below w4.heap.size w4 w5 := ((Below.refl _ _).alloc (Nat.le_refl _) _).trans (hb.mono (by simp))
              have R5 := Lib.hid ((R4.out.below hb45 (Nat.le_refl _)).more hb45.size)
              have B5 := Lib.hid (B4.out.trans (hb45.mono hs4))
              clear hb hb45
              go_wp2_with fail
              refine (T2'.out _ B5.out).mono ?_
              rintro e w6 ⟨rfl, hb⟩
              have R6 := Lib.hid ((R5.out.below hb (Nat.le_refl _)).more hb.size)
              have B6 := Lib.hid (B5.out.trans (hb.mono B5.out.size))
              clear hb
              have tt : (t.toList == t.toList) = true := by simp
              go_wp2_with fail
              refine (l2same_any A4 C _ _ c4 d _ _ zs zs w6 R6.out (HV.out _ B6.out) rfl HM.out (by have := HM.out; omega) (by omega)).mono ?_
              rintro e w7 ⟨rfl, hq⟩
              have B7 := Lib.hid (B6.out.trans ((below_of_draws (B := w6.heap.size) hq).mono B6.out.size))
              rw [decide_eq_true (rfl : zs = zs)]
              clear hq
              go_wp2_with fail
              go_ret
              exact ⟨ret_bool (by simp), B7.out⟩
          · have HNX := Lib.hid hnx
            rw [hno.out] at T1
            simp only [if_false, Bool.false_eq_true] at T1
            clear P1 T2 hno hnx
            by_cases hlt : k < m
            all_goals
              go_wp2_with fail
              refine (T1.out _ HNX.out).mono ?_
              rintro e w3 ⟨rfl, hb⟩
              have B3 := Lib.hid (HNX.out.trans (hb.mono HNX.out.size))
              clear hb
              go_wp2_with fail
              go_ret
              exact ⟨ret_bool (by simp), B3.out⟩
      · obtain ⟨v, hv⟩ : ∃ v, v = chE l := ⟨_, rfl⟩
        have T1 := Lib.hid (fun (W : World) (h : Below w.heap.size w W) => wText_err A C n c m d l W (HU.out W h) HN.out (by omega) HF.out he)
        have EV := Lib.hid (fun (W : World) (h : Below w.heap.size w W) => r2Events_any A n c l W (HU.out W h) HN.out hnc HF.out)
        rw [← hv] at T1 EV he
        have v1 : (v == 0) = false := by simpa using he
        have v2 : (v != 0) = true := by simpa using he
        have v3 : (v == v) = true := by simp
        clear hx hn hf up hy hm upI hv he hb hnm hn40 hbig
        go_enter Try.func12, Try.ntmps12
        go_wp2_with fail
        refine (HK.out _).mono ?_
        rintro e w1 ⟨rfl, hb1⟩
        have B1 := Lib.hid hb1
        clear hb1
        go_wp2_with fail
        refine (SH.out _ B1.out).mono ?_
        rintro e w' ⟨rfl, rfl⟩
        go_wp2_with fail
        refine (EV.out _ B1.out).mono ?_
        rintro e w2 ⟨rfl, hb⟩
        have B2 := Lib.hid (B1.out.trans (hb.mono B1.out.size))
        clear hb
        go_wp2_with fail
        go_loopw [5, 6] (fun e i wr => e = .int .i64 v ∧ i = .int .i64 0 ∧ Below w.heap.size w wr) (fun _ _ _ => 0)
        case atStart => exact ⟨rfl, rfl, B2.out⟩
        case round =>
          obtain ⟨rfl, rfl, hnx⟩ := hrel
          have HNX := Lib.hid hnx
          clear hnx
          by_cases hlt : 0 < m
          all_goals
            have hlt' := Lib.hid hlt
            go_wp2_with fail
            refine (T1.out _ HNX.out).mono ?_
            rintro e w3 ⟨rfl, hb⟩
            have B3 := Lib.hid (HNX.out.trans (hb.mono HNX.out.size))
            clear hb
            go_wp2_with fail
            go_ret
            exact ⟨ret_bool (by simp), B3.out⟩
end Go.Proofs.Ytdccmebkoibkhaa
