/- The walk of WordParses. -/
import Derived.Test.YtdccmebkoibkhaaWknown
import Derived.Test.YtdccmebkoibkhaaWparse
import Derived.Test.YtdccmebkoibkhaaAppB
import Derived.Laws.BytesArg
namespace Go.Proofs.Ytdccmebkoibkhaa
open Go.RowKit
set_option linter.unusedVariables false

theorem make_bytes (n : Nat) (h : n ≤ 1000000) (W : World) : (Instr.makeSlice 34 (.int .i64 n) (.int .i64 n)).run Try.prog W = .ok (.slice (some ⟨W.heap.size, 0, none⟩) n n) (W.alloc (.cells (madeCells #[.int .u8 0] n) 5)) := by
  obtain ⟨i0, hi, hz0, hz1, hz2⟩ := info_parts info_u8
  have := run_make (P := Try.prog) W 34 5 i0 (.int .u8 0) Try.underlying34 hi hz0 .i64 .i64 n n (by omega) (Int.le_refl _) (by rw [hz2]; omega) (by omega)
  rw [hz1] at this
  simp only [Nat.mul_one] at this
  exact this
theorem conv_zeros (n : Nat) (W : World) : (convert 34 9 (.slice (some ⟨W.heap.size, 0, none⟩) n n)).run Try.prog (W.alloc (.cells (madeCells #[.int .u8 0] n) 5)) = .ok (.string (strOfNums (List.replicate n 0))) (W.alloc (.cells (madeCells #[.int .u8 0] n) 5)) := by
  refine run_convert_bytes_arg _ 34 5 Try.underlying34 Try.underlying5 W.heap.size 0 n n (List.replicate n 0) (by simp) (fun i hi => ?_) 9 Try.underlying9
  rw [World.cell?_alloc_at _ _ _ _ rfl, Nat.zero_add]
  have h1 : (madeCells #[Value.int .u8 0] n)[i]? = (madeCells #[Value.int .u8 0] n).toList[i]? := by simp
  rw [h1, toList_madeCells_one, List.getElem?_replicate, if_pos hi]
  simp [List.getD, hi]
theorem size_zeros (n : Nat) : (strOfNums (List.replicate n 0)).size = n := by
  unfold strOfNums
  show (((List.replicate n (0 : Int)).map _).toArray).size = n
  simp

theorem rz_len (l : List Ev) (s : List UInt8) : ∀ (n i : Nat) (acc : List Int), (rz l s n i acc).w.length ≤ acc.length + n := by
  intro n
  induction n with
  | zero => intro i acc; simp [rz]
  | succ n ih =>
    intro i acc
    rw [rz]
    split
    · have := ih (i + 1) acc; omega
    · split
      · simp
      · split
        · simp
        · have := ih (i + 1) (acc ++ [fndZ l (partZ s i)])
          simp at this
          omega

set_option maxHeartbeats 8000000 in
set_option maxRecDepth 100000 in
theorem lawParses (A : Option Addr) (n c : Nat) (l : List Ev) (s : ByteArray) (w : World) (hx : RdE w w.heap.size A l) (hn : l.length = n) (hf : ∀ x ∈ l, x.name.size ≤ maxLen ∧ (Lit.int .i64 x.fault).wf = true) (hnc : n ≤ c) (hs : s.size ≤ maxLen) :
    Calls Try.prog 13 #[.slice A n c, .string s] w fun e w' => e = .returned (.bool true) ∧ Below w.heap.size w w' := by
  have HK := Lib.hid known_any
  have up : ∀ W, Below w.heap.size w W → RdE W W.heap.size A l := fun W h => (hx.below h (Nat.le_refl _)).more h.size
  have SH := Lib.hid (fun (W : World) (h : Below w.heap.size w W) => short_any A n c w.heap.size l W (hx.below h (Nat.le_refl _)) hn)
  obtain ⟨b, hb⟩ : ∃ b, b = shortB l := ⟨_, rfl⟩
  rw [← hb] at SH
  have HN := Lib.hid hn
  have HF := Lib.hid (show ∀ x ∈ l, x.name.size ≤ maxLen from fun x h => (hf x h).1)
  have HU := Lib.hid up
  have hs64 : s.size ≤ 9223372036854775807 := by unfold maxLen at hs; omega
  cases b with
  | false =>
    clear hx hn hf up hs
    go_enter Try.func13, Try.ntmps13
    go_wp2_with fail
    refine (HK.out _).mono ?_
    rintro e w1 ⟨rfl, hb1⟩
    have B1 := Lib.hid hb1
    clear hb1
    go_wp2_with fail
    refine (SH.out _ B1.out).mono ?_
    rintro e w' ⟨rfl, rfl⟩
    go_wp2_with fail
    refine (HK.out _).mono ?_
    rintro e w2 ⟨rfl, hb2⟩
    have B2 := Lib.hid (B1.out.trans (hb2.mono B1.out.size))
    clear hb2
    go_wp2_with fail
    go_ret
    exact ⟨rfl, B2.out⟩
  | true =>
    obtain ⟨hn40, hnm⟩ := short_out hb.symm
    have hn40' : n ≤ 40 := by rw [← hn]; exact hn40
    by_cases hbig : 400 < s.size
    · have hi : (400 : Int) < (s.size : Int) := by omega
      have hi2 : decide ((400 : Int) < (s.size : Int)) = true := by simp; omega
      clear hx hn hf up hs hb hnm hn40 hbig
      go_enter Try.func13, Try.ntmps13
      go_wp2_with fail
      refine (HK.out _).mono ?_
      rintro e w1 ⟨rfl, hb1⟩
      have B1 := Lib.hid hb1
      clear hb1
      go_wp2_with fail
      refine (SH.out _ B1.out).mono ?_
      rintro e w' ⟨rfl, rfl⟩
      go_wp2_with fail
      refine (HK.out _).mono ?_
      rintro e w2 ⟨rfl, hb2⟩
      have B2 := Lib.hid (B1.out.trans (hb2.mono B1.out.size))
      clear hb2 hi hi2 hs64 hn40'
      go_wp2_with fail
      go_ret
      exact ⟨rfl, B2.out⟩
    · have hi : ¬ (400 : Int) < (s.size : Int) := by omega
      by_cases he : chE l = 0
      · obtain ⟨ans, hans⟩ : ∃ a, a = rz l s.data.toList s.size 0 [] := ⟨_, rfl⟩
        have P1 := Lib.hid (fun (W : World) (h : Below w.heap.size w W) => wParse_ok A n c l s W (HU.out W h) HN.out HF.out he (by omega))
        have P2 := Lib.hid (fun (W : World) (h : Below w.heap.size w W) => r2Parse_any A n c l s W (HU.out W h) HN.out (by omega) (by omega))
        have EV := Lib.hid (fun (W : World) (h : Below w.heap.size w W) => r2Events_any A n c l W (HU.out W h) HN.out hnc HF.out)
        rw [he] at EV
        rw [← hans] at P1 P2
        obtain ⟨big, hbg⟩ : ∃ z, z = strOfNums (List.replicate 65537 0) := ⟨_, rfl⟩
        have MK : ∀ W : World, (Instr.makeSlice 34 (.int .i64 65537) (.int .i64 65537)).run Try.prog W = .ok (.slice (some ⟨W.heap.size, 0, none⟩) 65537 65537) (W.alloc (.cells (madeCells #[.int .u8 0] 65537) 5)) := make_bytes 65537 (by decide)
        have CV : ∀ W : World, (convert 34 9 (.slice (some ⟨W.heap.size, 0, none⟩) 65537 65537)).run Try.prog (W.alloc (.cells (madeCells #[.int .u8 0] 65537) 5)) = .ok (.string (strOfNums (List.replicate 65537 0))) (W.alloc (.cells (madeCells #[.int .u8 0] 65537) 5)) := conv_zeros 65537
        have hbs : big.size = 65537 := by rw [hbg]; exact size_zeros 65537
        rw [← hbg] at CV
        have P3 := Lib.hid (fun (W : World) (h : Below w.heap.size w W) => wParse_long A n c l big W (HU.out W h) HN.out (by omega) HF.out he (by omega) (by omega))
        generalize madeCells #[Value.int .u8 0] 65537 = Z at *
        have hal : ans.w.length ≤ 1000 := by rw [hans]; have := rz_len l s.data.toList s.size 0 []; simp at this; omega
        clear hx hn hf up hs hbg he hans hb hnm hn40 hbig
        go_enter Try.func13, Try.ntmps13
        go_wp2_with fail
        refine (HK.out _).mono ?_
        rintro e w1 ⟨rfl, hb1⟩
        have B1 := Lib.hid hb1
        clear hb1
        go_wp2_with fail
        refine (SH.out _ B1.out).mono ?_
        rintro e w' ⟨rfl, rfl⟩
        go_wp2_with fail
        refine (P1.out _ B1.out).mono ?_
        rintro e w2 ⟨A2, c2, rfl, hr, hb⟩
        have R2 := Lib.hid hr
        have B2 := Lib.hid (B1.out.trans (hb.mono B1.out.size))
        clear hr hb
        go_wp2_with fail
        refine (EV.out _ B2.out).mono ?_
        rintro e w3 ⟨rfl, hb⟩
        have R3 := Lib.hid ((R2.out.below hb (Nat.le_refl _)).more hb.size)
        have B3 := Lib.hid (B2.out.trans (hb.mono B2.out.size))
        clear hb
        go_wp2_with fail
        refine (P2.out _ B3.out).mono ?_
        rintro e w4 ⟨A4, c4, rfl, hr, hb⟩
        have R4 := Lib.hid hr
        have R34 := Lib.hid ((R3.out.below hb (Nat.le_refl _)).more hb.size)
        have B4 := Lib.hid (B3.out.trans (hb.mono B3.out.size))
        have hs4 := B4.out.size
        clear hr hb
        go_wp2_with fail
        refine (P3.out _ (B4.out.alloc hs4 _)).mono ?_
        rintro e w5 ⟨rfl, hb⟩
        have hb45 : Below w4.heap.size w4 w5 := ((Below.refl _ _).alloc (Nat.le_refl _) _).trans (hb.mono (by simp))
        have R5 := Lib.hid ((R34.out.below hb45 (Nat.le_refl _)).more hb45.size)
        have R45 := Lib.hid ((R4.out.below hb45 (Nat.le_refl _)).more hb45.size)
        have B5 := Lib.hid (B4.out.trans (hb45.mono hs4))
        clear hb hb45
        go_wp2_with fail
        refine (l2same_any A2 A4 _ _ c2 c4 _ _ ans.w ans.w w5 R5.out R45.out rfl rfl (by omega) (by omega)).mono ?_
        rintro e w6 ⟨rfl, hq⟩
        have B6 := Lib.hid (B5.out.trans ((below_of_draws (B := w5.heap.size) hq).mono B5.out.size))
        rw [decide_eq_true (rfl : ans.w = ans.w)]
        clear hq
        go_wp2_with fail
        go_ret
        exact ⟨ret_bool (by simp), B6.out⟩
      · obtain ⟨v, hv⟩ : ∃ v, v = chE l := ⟨_, rfl⟩
        have P1 := Lib.hid (fun (W : World) (h : Below w.heap.size w W) => wParse_err A n c l s W (HU.out W h) HN.out (by omega) HF.out he)
        have EV := Lib.hid (fun (W : World) (h : Below w.heap.size w W) => r2Events_any A n c l W (HU.out W h) HN.out hnc HF.out)
        rw [← hv] at P1 EV he
        have v1 : (v == 0) = false := by simpa using he
        have v2 : (v != 0) = true := by simpa using he
        have v3 : (v == v) = true := by simp
        clear hx hn hf up hs hv he hb hnm hn40 hbig
        go_enter Try.func13, Try.ntmps13
        go_wp2_with fail
        refine (HK.out _).mono ?_
        rintro e w1 ⟨rfl, hb1⟩
        have B1 := Lib.hid hb1
        clear hb1
        go_wp2_with fail
        refine (SH.out _ B1.out).mono ?_
        rintro e w' ⟨rfl, rfl⟩
        go_wp2_with fail
        refine (P1.out _ B1.out).mono ?_
        rintro e w2 ⟨rfl, hb⟩
        have B2 := Lib.hid (B1.out.trans (hb.mono B1.out.size))
        clear hb
        go_wp2_with fail
        refine (EV.out _ B2.out).mono ?_
        rintro e w3 ⟨rfl, hb⟩
        have B3 := Lib.hid (B2.out.trans (hb.mono B2.out.size))
        clear hb
        go_wp2_with fail
        go_ret
        exact ⟨ret_bool (by simp), B3.out⟩
end Go.Proofs.Ytdccmebkoibkhaa
