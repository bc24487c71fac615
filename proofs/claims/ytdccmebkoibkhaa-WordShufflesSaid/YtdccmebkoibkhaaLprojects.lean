/- The walk of WordProjects. -/
import Derived.Test.YtdccmebkoibkhaaWknown
import Derived.Test.YtdccmebkoibkhaaWset
namespace Go.Proofs.Ytdccmebkoibkhaa
open Go.RowKit

theorem rdb_at {w w' : World} {A : Option Addr} {bs : List Int} (h : RdB w w.heap.size A bs) (hb : Below w.heap.size w w') : RdB w' w'.heap.size A bs := (h.below hb (Nat.le_refl _)).more hb.size
theorem word_call (A : Option Addr) (m c n : Nat) (bs : List Int) (w W : World) (hx : RdB w w.heap.size A bs) (hm : bs.length = m) (hb : ∀ z ∈ bs, 0 ≤ z ∧ z < 256) (hn : n ≤ 1000) (zs : List Int) (hz : wordZ bs n = zs) (k : Nat) (hk : zs.length = k) (h : Below w.heap.size w W) :
    Calls Try.prog 25 #[.slice A m c, .int .i64 n] W fun e w' => ∃ A' c', e = .returned (.slice A' k c') ∧ RdI w' w'.heap.size A' zs ∧ Below W.heap.size W w' ∧ k ≤ c' ∧ c' ≤ 9223372036854775807 := by
  subst hz; subst hk
  exact word_any A m c n bs W (rdb_at hx h) hm hb hn
theorem set_call (x : Int) (W : World) (h0 : 0 ≤ x) (h1 : x < 256) (zs : List Int) (hz : setZ x = zs) (k : Nat) (hk : zs.length = k) :
    Calls Try.prog 20 #[.int .u8 x] W fun e w' => ∃ A' c', e = .returned (.slice A' k c') ∧ RdI w' w'.heap.size A' zs ∧ Below W.heap.size W w' ∧ k ≤ c' ∧ c' ≤ 9223372036854775807 := by
  subst hz; subst hk
  exact lset_any x W h0 h1
theorem proj_call (A C : Option Addr) (n c m d : Nat) (xs ys zs : List Int) (k : Nat) (W : World) (hx : RdI W W.heap.size A xs) (hy : RdI W W.heap.size C ys) (hn : xs.length = n) (hm : ys.length = m) (hb : n ≤ 1000) (hb' : m ≤ 1000) (hup : Up ys) (hz : xs.filter (fun x => decide (x ∈ ys)) = zs) (hk : zs.length = k) :
    Calls Try.prog 21 #[.slice A n c, .slice C m d] W fun e w' => ∃ A' c', e = .returned (.slice A' k c') ∧ RdI w' w'.heap.size A' zs ∧ Below W.heap.size W w' ∧ k ≤ c' ∧ c' ≤ 9223372036854775807 := by
  subst hz; subst hk
  exact wProject_any A C n c m d xs ys W hx hy hn hm (by omega) (by omega) hup
theorem same_call (A B : Option Addr) (n c m d : Nat) (xs ys : List Int) (W : World) (hx : RdI W W.heap.size A xs) (hy : RdI W W.heap.size B ys) (hn : xs.length = n) (hm : ys.length = m) (hb : n ≤ 100000) (hb' : m ≤ 100000) (v : Bool) (hv : decide (xs = ys) = v) :
    Calls Try.prog 22 #[.slice A n c, .slice B m d] W fun e w' => e = .returned (.bool v) ∧ ∃ q, w' = W.drewN q := by
  subst hv
  exact l2same_any A B n m c d _ _ xs ys W hx hy hn hm (by omega) (by omega)
theorem wordZ_le (bs : List Int) (n : Nat) : (wordZ bs n).length ≤ n := by unfold wordZ; rw [List.length_map, List.length_take]; omega
theorem setZ_le (x : Int) : (setZ x).length ≤ 5 := setN_len x 5
theorem wordZ_mem {bs : List Int} {n : Nat} {e : Int} (h : e ∈ wordZ bs n) : 0 ≤ e ∧ e ≤ 4 := by
  unfold wordZ at h
  obtain ⟨z, _, rfl⟩ := List.mem_map.1 h
  omega
theorem and_nat (x y : Int) (h0 : 0 ≤ x) (h1 : x < 256) (k0 : 0 ≤ y) (k1 : y < 256) : 0 ≤ bits .and .u8 x y ∧ bits .and .u8 x y < 256 ∧ ∀ k, sb (bits .and .u8 x y) k = (sb x k && sb y k) := by
  obtain ⟨a, rfl⟩ : ∃ a : Nat, x = (a : Int) := ⟨x.toNat, by omega⟩
  obtain ⟨b, rfl⟩ : ∃ b : Nat, y = (b : Int) := ⟨y.toNat, by omega⟩
  have hlt : a &&& b < 2 ^ 8 := Nat.and_lt_two_pow _ (by omega)
  rw [and_u8 a b (by omega) (by omega)]
  refine ⟨by omega, by omega, fun k => ?_⟩
  rw [sb_nat _ _ (by omega), sb_nat _ _ (by omega), sb_nat _ _ (by omega), Nat.testBit_and]
theorem mem_and {x y e : Int} (h0 : 0 ≤ x) (h1 : x < 256) (k0 : 0 ≤ y) (k1 : y < 256) : e ∈ setZ (bits .and .u8 x y) ↔ e ∈ setZ x ∧ e ∈ setZ y := by
  rw [mem_setZ, mem_setZ, mem_setZ]
  constructor
  · rintro ⟨k, h, rfl, hs⟩
    rw [(and_nat x y h0 h1 k0 k1).2.2 k, Bool.and_eq_true] at hs
    exact ⟨⟨k, h, rfl, hs.1⟩, k, h, rfl, hs.2⟩
  · rintro ⟨⟨k, h, rfl, hs⟩, k', h', e, hs'⟩
    obtain rfl : k = k' := by omega
    exact ⟨k, h, rfl, by rw [(and_nat x y h0 h1 k0 k1).2.2 k, hs, hs']; rfl⟩
theorem filter_and (W : List Int) {x y : Int} (h0 : 0 ≤ x) (h1 : x < 256) (k0 : 0 ≤ y) (k1 : y < 256) : W.filter (fun e => decide (e ∈ setZ (bits .and .u8 x y))) = (W.filter fun e => decide (e ∈ setZ x)).filter fun e => decide (e ∈ setZ y) := by
  rw [List.filter_filter]
  refine List.filter_congr fun e _ => ?_
  have := @mem_and x y e h0 h1 k0 k1
  by_cases a : e ∈ setZ x <;> by_cases b : e ∈ setZ y <;> simp [a, b, this]
theorem filter_31 (bs : List Int) (n : Nat) : (wordZ bs n).filter (fun e => decide (e ∈ setZ 31)) = wordZ bs n := by
  refine List.filter_eq_self.2 fun e he => ?_
  have := wordZ_mem he
  have h31 : setZ 31 = [0, 1, 2, 3, 4] := by decide
  rw [h31]
  simp only [List.mem_cons, List.not_mem_nil, or_false, decide_eq_true_eq]
  omega
theorem bit_no {x : Int} {k : Nat} (h : sb x k = true) : (bits BinOp.and IntKind.u8 (x / 2 ^ k) 1 == 0) = false := by
  have : bits BinOp.and IntKind.u8 (x / 2 ^ k) 1 = 1 := by simpa [sb] using h
  rw [this]; rfl

set_option maxHeartbeats 8000000 in
set_option maxRecDepth 100000 in
theorem lawProjects (A : Option Addr) (n c : Nat) (bs : List Int) (x y : Int) (w : World) (hx : RdB w w.heap.size A bs) (hn : bs.length = n) (hf : ∀ z ∈ bs, 0 ≤ z ∧ z < 256) (h0 : 0 ≤ x ∧ x < 256) (k0 : 0 ≤ y ∧ y < 256) :
    Calls Try.prog 6 #[.slice A n c, .int .u8 x, .int .u8 y] w fun e w' => e = .returned (.bool true) ∧ Below w.heap.size w w' := by
  have HK := Lib.hid known_any
  have hlw := wordZ_le bs 20
  obtain ⟨h0, h1⟩ := h0
  obtain ⟨k0, k1⟩ := k0
  obtain ⟨z0, z1, _⟩ := and_nat x y h0 h1 k0 k1
  have hA1 := Lib.hid (filter_and (wordZ bs 20) h0 h1 k0 k1)
  have hA2 := Lib.hid (filter_31 bs 20)
  have hX := setZ_le x
  have hY := setZ_le y
  have hZ := setZ_le (bits .and .u8 x y)
  have hT := setZ_le 31
  have hm := Lib.hid (fun e => @mem_setZ x e)
  have U1 := Lib.hid (up_setZ x)
  have U2 := Lib.hid (up_setZ y)
  have U3 := Lib.hid (up_setZ (bits .and .u8 x y))
  have U4 := Lib.hid (up_setZ 31)
  have HW := Lib.hid (fun (k : Nat) (hk : (wordZ bs 20).length = k) (W : World) (h : Below w.heap.size w W) => word_call A n c 20 bs w W hx hn hf (by decide) _ rfl k hk h)
  have HS1 := Lib.hid (fun (k : Nat) (hk : (setZ x).length = k) (W : World) => set_call x W h0 h1 _ rfl k hk)
  have HS2 := Lib.hid (fun (k : Nat) (hk : (setZ y).length = k) (W : World) => set_call y W k0 k1 _ rfl k hk)
  have HS3 := Lib.hid (fun (k : Nat) (hk : (setZ (bits .and .u8 x y)).length = k) (W : World) => set_call (bits .and .u8 x y) W z0 z1 _ rfl k hk)
  have HS4 := Lib.hid (fun (k : Nat) (hk : (setZ 31).length = k) (W : World) => set_call 31 W (by decide) (by decide) _ rfl k hk)
  clear hx hn hf
  generalize setZ x = X at *
  generalize setZ y = Y at *
  generalize setZ (bits .and .u8 x y) = Z at *
  generalize setZ 31 = T at *
  generalize wordZ bs 20 = V at *
  obtain ⟨O, hO⟩ : ∃ O, V.filter (fun e => decide (e ∈ X)) = O := ⟨_, rfl⟩
  obtain ⟨Q, hQ⟩ : ∃ Q, O.filter (fun e => decide (e ∈ Y)) = Q := ⟨_, rfl⟩
  have hOm : ∀ e ∈ O, e ∈ X := fun e he => by rw [← hO] at he; simpa using (List.mem_filter.1 he).2
  have hOO : O.filter (fun e => decide (e ∈ X)) = O := List.filter_eq_self.2 fun e he => by simpa using hOm e he
  have hOl : O.length ≤ 20 := by rw [← hO]; exact Nat.le_trans (List.length_filter_le _ _) hlw
  have hQl : Q.length ≤ 20 := by rw [← hQ]; exact Nat.le_trans (List.length_filter_le _ _) hOl
  have hZQ : V.filter (fun e => decide (e ∈ Z)) = Q := by rw [hA1.out, hO, hQ]
  have HVO := Lib.hid hO
  have HOQ := Lib.hid hQ
  have HVQ := Lib.hid hZQ
  have HOO := Lib.hid hOO
  have HOm := Lib.hid hOm
  clear hO hQ hOm hOO hZQ hA1
  obtain ⟨nv, hnv⟩ : ∃ k, V.length = k := ⟨_, rfl⟩
  have LV := Lib.hid hnv
  have bnv : nv ≤ 20 := by omega
  clear hnv
  obtain ⟨nx, hnx⟩ : ∃ k, X.length = k := ⟨_, rfl⟩
  have LX := Lib.hid hnx
  have bnx : nx ≤ 20 := by omega
  clear hnx
  obtain ⟨ny, hny⟩ : ∃ k, Y.length = k := ⟨_, rfl⟩
  have LY := Lib.hid hny
  have bny : ny ≤ 20 := by omega
  clear hny
  obtain ⟨nz, hnz⟩ : ∃ k, Z.length = k := ⟨_, rfl⟩
  have LZ := Lib.hid hnz
  have bnz : nz ≤ 20 := by omega
  clear hnz
  obtain ⟨nt, hnt⟩ : ∃ k, T.length = k := ⟨_, rfl⟩
  have LT := Lib.hid hnt
  have bnt : nt ≤ 20 := by omega
  clear hnt
  obtain ⟨no, hno⟩ : ∃ k, O.length = k := ⟨_, rfl⟩
  have LO := Lib.hid hno
  have bno : no ≤ 20 := by omega
  clear hno
  obtain ⟨nq, hnq⟩ : ∃ k, Q.length = k := ⟨_, rfl⟩
  have LQ := Lib.hid hnq
  have bnq : nq ≤ 20 := by omega
  clear hnq

  clear hlw hX hY hZ hT hOl hQl
  go_enter Try.func6, Try.ntmps6
  go_wp2_with fail
  refine (HK.out _).mono ?_
  rintro e w1 ⟨rfl, hb1⟩
  have HB1 := Lib.hid hb1
  clear hb1
  go_wp2_with fail
  refine (HW.out nv LV.out _ HB1.out).mono ?_
  rintro e w2 ⟨Av, cv, rfl, hr2, hb2, hcl2, hct2⟩
  have HB2 := Lib.hid (HB1.out.trans (hb2.mono HB1.out.size))
  have RV := Lib.hid hr2
  clear hb2 hr2
  go_wp2_with fail
  refine (HS1.out nx LX.out _).mono ?_
  rintro e w3 ⟨Ax, cx, rfl, hr3, hb3, hcl3, hct3⟩
  replace RV := Lib.hid ((RV.out.below hb3 (Nat.le_refl _)).more hb3.size)
  have HB3 := Lib.hid (HB2.out.trans (hb3.mono HB2.out.size))
  have RX := Lib.hid hr3
  clear hb3 hr3
  go_wp2_with fail
  refine (proj_call Av Ax nv cv nx cx V X O no _ RV.out RX.out LV.out LX.out (by omega) (by omega) U1.out HVO.out LO.out).mono ?_
  rintro e w4 ⟨Ao, co, rfl, hr4, hb4, hcl4, hct4⟩
  replace RV := Lib.hid ((RV.out.below hb4 (Nat.le_refl _)).more hb4.size)
  replace RX := Lib.hid ((RX.out.below hb4 (Nat.le_refl _)).more hb4.size)
  have HB4 := Lib.hid (HB3.out.trans (hb4.mono HB3.out.size))
  have RO := Lib.hid hr4
  clear hb4 hr4
  go_wp2_with fail
  refine (HS2.out ny LY.out _).mono ?_
  rintro e w5 ⟨Ay, cy, rfl, hr5, hb5, hcl5, hct5⟩
  replace RV := Lib.hid ((RV.out.below hb5 (Nat.le_refl _)).more hb5.size)
  replace RX := Lib.hid ((RX.out.below hb5 (Nat.le_refl _)).more hb5.size)
  replace RO := Lib.hid ((RO.out.below hb5 (Nat.le_refl _)).more hb5.size)
  have HB5 := Lib.hid (HB4.out.trans (hb5.mono HB4.out.size))
  have RY := Lib.hid hr5
  clear hb5 hr5
  go_wp2_with fail
  refine (proj_call Ao Ay no co ny cy O Y Q nq _ RO.out RY.out LO.out LY.out (by omega) (by omega) U2.out HOQ.out LQ.out).mono ?_
  rintro e w6 ⟨Aq, cq, rfl, hr6, hb6, hcl6, hct6⟩
  replace RV := Lib.hid ((RV.out.below hb6 (Nat.le_refl _)).more hb6.size)
  replace RX := Lib.hid ((RX.out.below hb6 (Nat.le_refl _)).more hb6.size)
  replace RO := Lib.hid ((RO.out.below hb6 (Nat.le_refl _)).more hb6.size)
  replace RY := Lib.hid ((RY.out.below hb6 (Nat.le_refl _)).more hb6.size)
  have HB6 := Lib.hid (HB5.out.trans (hb6.mono HB5.out.size))
  have RQ := Lib.hid hr6
  clear hb6 hr6
  go_wp2_with fail
  go_loopw [10] (fun i wr => ∃ k : Nat, k ≤ no ∧ i = .int .i64 k ∧ w6 = wr) (fun i _ => no - (intOf i).toNat)
  case atStart => exact ⟨0, Nat.zero_le _, rfl, rfl⟩
  case round =>
    obtain ⟨k, hk, rfl, rfl⟩ := hrel
    by_cases hlt : k < no
    · obtain ⟨b1, o1, rfl, _, hc1⟩ := RO.out (by rw [LO.out]; omega)
      have g1 := hc1 k (by rw [LO.out]; exact hlt)
      have hmem : O.getD k 0 ∈ O := getD_mem (by rw [LO.out]; exact hlt)
      obtain ⟨j, hj, he, hsb⟩ := (hm.out _).1 (HOm.out _ hmem)
      rw [he] at g1
      have e1 := bit_no hsb
      have e2 : ¬ (4 : Int) < (j : Int) := by omega
      have e3 : ¬ (j : Int) < 0 := by omega
      have k4 : (k : Int) < (no : Int) := by omega
      have e4 : j < 5 := hj
      clear hc1 hmem he hsb
      go_wp2_with fail
      go_roundw
      case rel => exact ⟨k + 1, by omega, by go_num, by trivial⟩
      case measure => simp [intOf]; omega
    · have k4 : ¬ (k : Int) < (no : Int) := by omega
      go_wp2_with fail
      refine (HS3.out nz LZ.out _).mono ?_
      rintro e w7 ⟨Az, cz, rfl, hr7, hb7, hcl7, hct7⟩
      replace RV := Lib.hid ((RV.out.below hb7 (Nat.le_refl _)).more hb7.size)
      replace RX := Lib.hid ((RX.out.below hb7 (Nat.le_refl _)).more hb7.size)
      replace RO := Lib.hid ((RO.out.below hb7 (Nat.le_refl _)).more hb7.size)
      replace RY := Lib.hid ((RY.out.below hb7 (Nat.le_refl _)).more hb7.size)
      replace RQ := Lib.hid ((RQ.out.below hb7 (Nat.le_refl _)).more hb7.size)
      have HB7 := Lib.hid (HB6.out.trans (hb7.mono HB6.out.size))
      have RZ := Lib.hid hr7
      clear hb7 hr7
      go_wp2_with fail
      refine (proj_call Av Az nv cv nz cz V Z Q nq _ RV.out RZ.out LV.out LZ.out (by omega) (by omega) U3.out HVQ.out LQ.out).mono ?_
      rintro e w8 ⟨Ar, cr, rfl, hr8, hb8, hcl8, hct8⟩
      replace RV := Lib.hid ((RV.out.below hb8 (Nat.le_refl _)).more hb8.size)
      replace RX := Lib.hid ((RX.out.below hb8 (Nat.le_refl _)).more hb8.size)
      replace RO := Lib.hid ((RO.out.below hb8 (Nat.le_refl _)).more hb8.size)
      replace RY := Lib.hid ((RY.out.below hb8 (Nat.le_refl _)).more hb8.size)
      replace RQ := Lib.hid ((RQ.out.below hb8 (Nat.le_refl _)).more hb8.size)
      replace RZ := Lib.hid ((RZ.out.below hb8 (Nat.le_refl _)).more hb8.size)
      have HB8 := Lib.hid (HB7.out.trans (hb8.mono HB7.out.size))
      have RR := Lib.hid hr8
      clear hb8 hr8
      go_wp2_with fail
      refine (same_call Aq Ar nq cq nq cr Q Q _ RQ.out RR.out LQ.out LQ.out (by omega) (by omega) true (decide_eq_true rfl)).mono ?_
      rintro e w9 ⟨rfl, hq9⟩
      have hb9 := below_of_draws (B := w8.heap.size) hq9
      replace RV := Lib.hid ((RV.out.below hb9 (Nat.le_refl _)).more hb9.size)
      replace RX := Lib.hid ((RX.out.below hb9 (Nat.le_refl _)).more hb9.size)
      replace RO := Lib.hid ((RO.out.below hb9 (Nat.le_refl _)).more hb9.size)
      replace RY := Lib.hid ((RY.out.below hb9 (Nat.le_refl _)).more hb9.size)
      replace RQ := Lib.hid ((RQ.out.below hb9 (Nat.le_refl _)).more hb9.size)
      replace RZ := Lib.hid ((RZ.out.below hb9 (Nat.le_refl _)).more hb9.size)
      replace RR := Lib.hid ((RR.out.below hb9 (Nat.le_refl _)).more hb9.size)
      have HB9 := Lib.hid (HB8.out.trans (hb9.mono HB8.out.size))
      clear hb9 hq9
      go_wp2_with fail
      refine (HS1.out nx LX.out _).mono ?_
      rintro e w10 ⟨Az2, cz2, rfl, hr10, hb10, hcl10, hct10⟩
      replace RV := Lib.hid ((RV.out.below hb10 (Nat.le_refl _)).more hb10.size)
      replace RX := Lib.hid ((RX.out.below hb10 (Nat.le_refl _)).more hb10.size)
      replace RO := Lib.hid ((RO.out.below hb10 (Nat.le_refl _)).more hb10.size)
      replace RY := Lib.hid ((RY.out.below hb10 (Nat.le_refl _)).more hb10.size)
      replace RQ := Lib.hid ((RQ.out.below hb10 (Nat.le_refl _)).more hb10.size)
      replace RZ := Lib.hid ((RZ.out.below hb10 (Nat.le_refl _)).more hb10.size)
      replace RR := Lib.hid ((RR.out.below hb10 (Nat.le_refl _)).more hb10.size)
      have HB10 := Lib.hid (HB9.out.trans (hb10.mono HB9.out.size))
      have RX2 := Lib.hid hr10
      clear hb10 hr10
      go_wp2_with fail
      refine (proj_call Ao Az2 no co nx cz2 O X O no _ RO.out RX2.out LO.out LX.out (by omega) (by omega) U1.out HOO.out LO.out).mono ?_
      rintro e w11 ⟨Au, cu, rfl, hr11, hb11, hcl11, hct11⟩
      replace RV := Lib.hid ((RV.out.below hb11 (Nat.le_refl _)).more hb11.size)
      replace RX := Lib.hid ((RX.out.below hb11 (Nat.le_refl _)).more hb11.size)
      replace RO := Lib.hid ((RO.out.below hb11 (Nat.le_refl _)).more hb11.size)
      replace RY := Lib.hid ((RY.out.below hb11 (Nat.le_refl _)).more hb11.size)
      replace RQ := Lib.hid ((RQ.out.below hb11 (Nat.le_refl _)).more hb11.size)
      replace RZ := Lib.hid ((RZ.out.below hb11 (Nat.le_refl _)).more hb11.size)
      replace RR := Lib.hid ((RR.out.below hb11 (Nat.le_refl _)).more hb11.size)
      replace RX2 := Lib.hid ((RX2.out.below hb11 (Nat.le_refl _)).more hb11.size)
      have HB11 := Lib.hid (HB10.out.trans (hb11.mono HB10.out.size))
      have RU := Lib.hid hr11
      clear hb11 hr11
      go_wp2_with fail
      refine (same_call Au Ao no cu no co O O _ RU.out RO.out LO.out LO.out (by omega) (by omega) true (decide_eq_true rfl)).mono ?_
      rintro e w12 ⟨rfl, hq12⟩
      have hb12 := below_of_draws (B := w11.heap.size) hq12
      replace RV := Lib.hid ((RV.out.below hb12 (Nat.le_refl _)).more hb12.size)
      replace RX := Lib.hid ((RX.out.below hb12 (Nat.le_refl _)).more hb12.size)
      replace RO := Lib.hid ((RO.out.below hb12 (Nat.le_refl _)).more hb12.size)
      replace RY := Lib.hid ((RY.out.below hb12 (Nat.le_refl _)).more hb12.size)
      replace RQ := Lib.hid ((RQ.out.below hb12 (Nat.le_refl _)).more hb12.size)
      replace RZ := Lib.hid ((RZ.out.below hb12 (Nat.le_refl _)).more hb12.size)
      replace RR := Lib.hid ((RR.out.below hb12 (Nat.le_refl _)).more hb12.size)
      replace RX2 := Lib.hid ((RX2.out.below hb12 (Nat.le_refl _)).more hb12.size)
      replace RU := Lib.hid ((RU.out.below hb12 (Nat.le_refl _)).more hb12.size)
      have HB12 := Lib.hid (HB11.out.trans (hb12.mono HB11.out.size))
      clear hb12 hq12
      go_wp2_with fail
      refine (HS4.out nt LT.out _).mono ?_
      rintro e w13 ⟨At, ct, rfl, hr13, hb13, hcl13, hct13⟩
      replace RV := Lib.hid ((RV.out.below hb13 (Nat.le_refl _)).more hb13.size)
      replace RX := Lib.hid ((RX.out.below hb13 (Nat.le_refl _)).more hb13.size)
      replace RO := Lib.hid ((RO.out.below hb13 (Nat.le_refl _)).more hb13.size)
      replace RY := Lib.hid ((RY.out.below hb13 (Nat.le_refl _)).more hb13.size)
      replace RQ := Lib.hid ((RQ.out.below hb13 (Nat.le_refl _)).more hb13.size)
      replace RZ := Lib.hid ((RZ.out.below hb13 (Nat.le_refl _)).more hb13.size)
      replace RR := Lib.hid ((RR.out.below hb13 (Nat.le_refl _)).more hb13.size)
      replace RX2 := Lib.hid ((RX2.out.below hb13 (Nat.le_refl _)).more hb13.size)
      replace RU := Lib.hid ((RU.out.below hb13 (Nat.le_refl _)).more hb13.size)
      have HB13 := Lib.hid (HB12.out.trans (hb13.mono HB12.out.size))
      have RT := Lib.hid hr13
      clear hb13 hr13
      go_wp2_with fail
      refine (proj_call Av At nv cv nt ct V T V nv _ RV.out RT.out LV.out LT.out (by omega) (by omega) U4.out hA2.out LV.out).mono ?_
      rintro e w14 ⟨As, cs, rfl, hr14, hb14, hcl14, hct14⟩
      replace RV := Lib.hid ((RV.out.below hb14 (Nat.le_refl _)).more hb14.size)
      replace RX := Lib.hid ((RX.out.below hb14 (Nat.le_refl _)).more hb14.size)
      replace RO := Lib.hid ((RO.out.below hb14 (Nat.le_refl _)).more hb14.size)
      replace RY := Lib.hid ((RY.out.below hb14 (Nat.le_refl _)).more hb14.size)
      replace RQ := Lib.hid ((RQ.out.below hb14 (Nat.le_refl _)).more hb14.size)
      replace RZ := Lib.hid ((RZ.out.below hb14 (Nat.le_refl _)).more hb14.size)
      replace RR := Lib.hid ((RR.out.below hb14 (Nat.le_refl _)).more hb14.size)
      replace RX2 := Lib.hid ((RX2.out.below hb14 (Nat.le_refl _)).more hb14.size)
      replace RU := Lib.hid ((RU.out.below hb14 (Nat.le_refl _)).more hb14.size)
      replace RT := Lib.hid ((RT.out.below hb14 (Nat.le_refl _)).more hb14.size)
      have HB14 := Lib.hid (HB13.out.trans (hb14.mono HB13.out.size))
      have RS := Lib.hid hr14
      clear hb14 hr14
      go_wp2_with fail
      refine (same_call As Av nv cs nv cv V V _ RS.out RV.out LV.out LV.out (by omega) (by omega) true (decide_eq_true rfl)).mono ?_
      rintro e w15 ⟨rfl, hq15⟩
      have hb15 := below_of_draws (B := w14.heap.size) hq15
      replace RV := Lib.hid ((RV.out.below hb15 (Nat.le_refl _)).more hb15.size)
      replace RX := Lib.hid ((RX.out.below hb15 (Nat.le_refl _)).more hb15.size)
      replace RO := Lib.hid ((RO.out.below hb15 (Nat.le_refl _)).more hb15.size)
      replace RY := Lib.hid ((RY.out.below hb15 (Nat.le_refl _)).more hb15.size)
      replace RQ := Lib.hid ((RQ.out.below hb15 (Nat.le_refl _)).more hb15.size)
      replace RZ := Lib.hid ((RZ.out.below hb15 (Nat.le_refl _)).more hb15.size)
      replace RR := Lib.hid ((RR.out.below hb15 (Nat.le_refl _)).more hb15.size)
      replace RX2 := Lib.hid ((RX2.out.below hb15 (Nat.le_refl _)).more hb15.size)
      replace RU := Lib.hid ((RU.out.below hb15 (Nat.le_refl _)).more hb15.size)
      replace RT := Lib.hid ((RT.out.below hb15 (Nat.le_refl _)).more hb15.size)
      replace RS := Lib.hid ((RS.out.below hb15 (Nat.le_refl _)).more hb15.size)
      have HB15 := Lib.hid (HB14.out.trans (hb15.mono HB14.out.size))
      clear hb15 hq15
      go_wp2_with fail
      go_ret
      exact ⟨rfl, HB15.out⟩
end Go.Proofs.Ytdccmebkoibkhaa
