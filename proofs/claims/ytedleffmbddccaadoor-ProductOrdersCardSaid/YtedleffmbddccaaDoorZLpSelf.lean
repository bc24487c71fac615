/- Layer 6: the law of the product with itself, walked. -/
import Derived.Test.YtedleffmbddccaaDoorZlH
import Derived.Test.YtedleffmbddccaaDoorZlM
set_option linter.unusedVariables false
set_option linter.unusedSimpArgs false
set_option linter.unusedSectionVars false
namespace Go.Proofs.YtedleffmbddccaaDoor
open Go.RowKit Go.Sort

theorem syn_small {l : List Au} (hc : chkL l = 0) (hf : (fnd (prodA l)).length ≤ 4096) : synR l = ((canA (prodA l), (fnd (prodA l)).map (dcT (stsT l))), 0) := by
  unfold synR
  rw [if_neg (by rw [hc]; simp), if_neg (by omega)]
theorem chk_two {a b : Au} (ha : chkE a = 0) (hb : chkE b = 0) : chkL [a, b] = 0 := by
  unfold chkL; rw [if_neg (by simp)]
  refine chkGo_all.2 fun x hx => ?_
  simp at hx
  rcases hx with rfl | rfl
  · exact ha
  · exact hb
theorem fnd_two {a b : Au} (ha : RightW a) (hb : RightW b) (sa : a.st ≤ 64) (sb : b.st ≤ 64) : (fnd (prodA [a, b])).length ≤ 4096 := by
  have hl : ∀ x ∈ [a, b], RightW x := by
    intro x hx
    simp at hx
    rcases hx with rfl | rfl
    · exact ha
    · exact hb
  have h1 := fnd_len (prod_right hl)
  cases hp : posT [a, b] with
  | false => rw [prod_st0 hp] at h1; exact Nat.le_trans h1 (by decide)
  | true =>
    rw [prod_st hp] at h1
    have h2 : prT (stsT [a, b]) = a.st * b.st := by simp [stsT, prT]
    have h3 : a.st * b.st ≤ 64 * 64 := Int.mul_le_mul sa sb hb.st0 (by omega)
    rw [h2] at h1
    generalize a.st * b.st = x at *
    omega
theorem syn_self {a : Au} (h : OkP a) : ∃ ts, synR [a, a] = ((a, ts), 0) :=
  ⟨_, by rw [syn_small (chk_two h.chk h.chk) (fnd_two h.rw h.rw (by have := h.st5; omega) (by have := h.st5; omega)), can_self' h.rw, h.can]⟩
theorem syn_one {a : Au} (h : OkP a) : ∃ ts, synR [oneA, a] = ((a, ts), 0) :=
  ⟨_, by rw [syn_small (chk_two (by decide) h.chk) (fnd_two one_right h.rw (by simp [oneA]) (by have := h.st5; omega)), can_one' h.rw, h.can]⟩
theorem syn_emp {a : Au} (h : OkP a) : ∃ ts, synR [a, emp7] = ((⟨un a.al [7], 0, [], []⟩, ts), 0) :=
  ⟨_, by
    rw [syn_small (chk_two h.chk (by decide)) (fnd_two h.rw emp7_right (by have := h.st5; omega) (by simp [emp7])), can_zero (prod_st0 (pos_false2 (.inr (by simp [emp7]))))]
    show ((((⟨alT [a, emp7], 0, [], []⟩ : Au), _), 0) : (Au × List (List Int)) × Int) = _
    rw [alT_two]; rfl⟩
theorem emp7_rd {W : World} {b : Nat} (hr : Row W b 3 [.int .i64 7]) : AuR W W.heap.size (some ⟨b, 0, none⟩) 1 1 0 none 0 0 none 0 0 emp7 :=
  { al := Row.rd (zs := [7]) hr, mr := RdI.nil _ _ _, ed := RdG.nil _ _ _, hn := rfl, hm := rfl, hk := rfl, st := rfl, cn := by omega, cm := by omega, ck := by omega, bn := by omega, bm := by omega, bk := by omega }
theorem OkP.lt7 {a : Au} (h : OkP a) : ∀ x ∈ a.al, x < 7 := fun x hx => by
  obtain ⟨al, h1, h2⟩ := h
  rw [h2.al] at hx
  have := h1.r x hx; omega
theorem rd_at {W : World} {B : Nat} {A : Option Addr} {l : List Au} (hr : RdAs W B A l) {j : Nat} {a : Au} (hj : l[j]? = some a) : ∃ b o, A = some ⟨b, o, none⟩ ∧ b < B ∧ AuAt W B b (o + j * 4) a := by
  obtain ⟨b, off, e, hb, hc⟩ := hr (Nat.lt_of_le_of_lt (Nat.zero_le _) (List.getElem?_eq_some_iff.1 hj).1)
  exact ⟨b, off, e, hb, hc j a hj⟩

set_option maxHeartbeats 8000000 in
set_option maxRecDepth 100000 in
theorem lawSelf (q : Pt) (w : World) (hq : PtOk q) (hT : TabAt 0 Lib.deBruijn32tab w) :
    Calls Tryd.prog 11 #[.agg (pcs q).toArray] w fun e w' => e = .returned (.bool true) ∧ Below w.heap.size w w' := by
  have hz := tab_pos hT
  have HTB := Lib.hid (fun W (hW : Below w.heap.size w W) => tab_below hT hW hz)
  have HK := Lib.hid (fun W (hW : Below w.heap.size w W) => known_any W (HTB.out W hW) (Nat.lt_of_lt_of_le hz hW.size))
  have HB := Lib.hid ((Below.refl w.heap.size w).alloc (Nat.le_refl _) (.cells (pcs q).toArray 66))
  have HX := Lib.hid (Row.new w (pcs q) 66)
  have HQ := Lib.hid hq
  clear hT hz hq
  go_enter Tryd.func11, Tryd.ntmps11
  go_wp2_with fail
  refine (HK.out _ HB.out).mono ?_
  rintro e w1 ⟨rfl, hb⟩
  have HX := Lib.hid (HX.out.below hb (by simp))
  have HB := Lib.hid (HB.out.trans (hb.mono HB.out.size))
  clear hb
  have HNEW := Lib.hid (Row.new w1 (pcs q) 66)
  have hb := (Below.refl w1.heap.size w1).alloc (Nat.le_refl _) (.cells (pcs q).toArray 66)
  have HB := Lib.hid (HB.out.trans (hb.mono HB.out.size))
  clear hb
  go_wp2_with (first
    | refine wpList_load_row rfl 66 (.tmp 1) rfl w.heap.size rfl 66 (pcs q).toArray (0, 0) _ HX.out Tryd.underlying66 rfl (part_size HQ.out) ?_
    | refine wpList_part1 rfl (.tmp 14) rfl q HQ.out rfl ?_)
  refine (list_any _ 1 1 [q] _ (row_parts1 HNEW.out HQ.out) rfl (by intro p hp; rw [List.mem_singleton.1 hp]; exact HQ.out)).mono ?_
  rintro e w2 ⟨Al, cl, las, rfl, hl3, hrl, hok, _, _, hb⟩
  have HB := Lib.hid (HB.out.trans (hb.mono HB.out.size))
  clear hb HNEW HX
  obtain ⟨a, rfl⟩ : ∃ a, las = [a] := by
    match las, hl3 with
    | [a], _ => exact ⟨a, rfl⟩
    | [], h => simp at h
    | _ :: _ :: _, h => (simp at h) <;> omega
  have hoka := hok a (List.mem_singleton_self a)
  have HOK := Lib.hid hoka
  obtain ⟨bl, ol, rfl, _, A0, n0, c0, s0, M0, m0, d0, E0, k0, g0, q0, q1, q2, q3, hA0⟩ := rd_at hrl (j := 0) (a := a) rfl
  have HA := Lib.hid hA0
  have hlen0 := HOK.out.al5
  rw [hA0.hn] at hlen0
  simp only [Nat.zero_mul, Nat.add_zero] at q0 q1 q2 q3
  obtain ⟨ts1, hs1⟩ := syn_self hoka
  obtain ⟨ts2, hs2⟩ := syn_one hoka
  obtain ⟨ts3, hs3⟩ := syn_emp hoka
  have HS1 := Lib.hid hs1
  have HS2 := Lib.hid hs2
  have HS3 := Lib.hid hs3
  have HCL := Lib.hid (show [a].length = 1 from rfl)
  clear hl3 hrl hok hoka hA0 hs1 hs2 hs3
  simp only [List.length_singleton]
  have HNEW := Lib.hid (Row.new w2 [.slice A0 n0 c0, .int .i64 s0, .slice M0 m0 d0, .slice E0 k0 g0] 34)
  have hb := (Below.refl w2.heap.size w2).alloc (Nat.le_refl _) (.cells #[.slice A0 n0 c0, .int .i64 s0, .slice M0 m0 d0, .slice E0 k0 g0] 34)
  have hzn : (w2.alloc (.cells #[.slice A0 n0 c0, .int .i64 s0, .slice M0 m0 d0, .slice E0 k0 g0] 34)).heap.size = w2.heap.size + 1 := by simp
  have HB := Lib.hid (HB.out.trans (hb.mono HB.out.size))
  have HA := Lib.hid ((HA.out.below hb (Nat.le_refl _)).more hb.size)
  clear hb
  go_wp2_with fail
  obtain ⟨b_BA, hb_BA⟩ : ∃ b, b = w2.heap.size := ⟨_, rfl⟩
  rw [← hb_BA] at HNEW hzn ⊢
  clear hb_BA
  have HZN := Lib.hid hzn
  clear hzn
  generalize (w2.alloc (.cells #[.slice A0 n0 c0, .int .i64 s0, .slice M0 m0 d0, .slice E0 k0 g0] 34)) = w3 at *
  have BA := HNEW
  clear HNEW
  clear q0 q1 q2 q3
  refine (g_comp (Al := none) (las := []) (nl := 0) (RdAs.nil _ _ none) rfl nil_syn).mono ?_
  rintro e w4 ⟨A1, n1, c1, s1, M1, m1, d1, E1, k1, g1, rfl, ha1, hb⟩
  have HB := Lib.hid (HB.out.trans (hb.mono HB.out.size))
  have HA := Lib.hid ((HA.out.below hb (Nat.le_refl _)).more hb.size)
  have BA := Lib.hid (BA.out.below hb BA.out.lt)
  clear hb
  have HA1 := Lib.hid (show AuR _ _ _ _ _ _ _ _ _ _ _ _ oneA from ha1)
  clear ha1
  have ba_0 := BA.out.cell 0 rfl
  have ba_1 := BA.out.cell 1 rfl
  have ba_2 := BA.out.cell 2 rfl
  have ba_3 := BA.out.cell 3 rfl
  have ba_l := BA.out.lt
  have HNEW := Lib.hid (Row.new w4 [.slice A1 n1 c1, .int .i64 s1, .slice M1 m1 d1, .slice E1 k1 g1] 34)
  have hb := (Below.refl w4.heap.size w4).alloc (Nat.le_refl _) (.cells #[.slice A1 n1 c1, .int .i64 s1, .slice M1 m1 d1, .slice E1 k1 g1] 34)
  have hzn : (w4.alloc (.cells #[.slice A1 n1 c1, .int .i64 s1, .slice M1 m1 d1, .slice E1 k1 g1] 34)).heap.size = w4.heap.size + 1 := by simp
  have HB := Lib.hid (HB.out.trans (hb.mono HB.out.size))
  have HA := Lib.hid ((HA.out.below hb (Nat.le_refl _)).more hb.size)
  have BA := Lib.hid (BA.out.below hb BA.out.lt)
  have HA1 := Lib.hid ((HA1.out.below hb (Nat.le_refl _)).more hb.size)
  clear hb
  go_wp2_with fail
  clear ba_0 ba_1 ba_2 ba_3 ba_l
  obtain ⟨b_BO, hb_BO⟩ : ∃ b, b = w4.heap.size := ⟨_, rfl⟩
  rw [← hb_BO] at HNEW hzn ⊢
  clear hb_BO
  have HZN := Lib.hid hzn
  clear hzn
  generalize (w4.alloc (.cells #[.slice A1 n1 c1, .int .i64 s1, .slice M1 m1 d1, .slice E1 k1 g1] 34)) = w5 at *
  have BO := HNEW
  clear HNEW
  have HNEW := Lib.hid (Row.new w5 [.slice A0 n0 c0, .int .i64 s0, .slice M0 m0 d0, .slice E0 k0 g0, .slice A0 n0 c0, .int .i64 s0, .slice M0 m0 d0, .slice E0 k0 g0] 34)
  have hb := (Below.refl w5.heap.size w5).alloc (Nat.le_refl _) (.cells #[.slice A0 n0 c0, .int .i64 s0, .slice M0 m0 d0, .slice E0 k0 g0, .slice A0 n0 c0, .int .i64 s0, .slice M0 m0 d0, .slice E0 k0 g0] 34)
  have hzn : (w5.alloc (.cells #[.slice A0 n0 c0, .int .i64 s0, .slice M0 m0 d0, .slice E0 k0 g0, .slice A0 n0 c0, .int .i64 s0, .slice M0 m0 d0, .slice E0 k0 g0] 34)).heap.size = w5.heap.size + 1 := by simp
  have HB := Lib.hid (HB.out.trans (hb.mono HB.out.size))
  have HA := Lib.hid ((HA.out.below hb (Nat.le_refl _)).more hb.size)
  have BA := Lib.hid (BA.out.below hb BA.out.lt)
  have HA1 := Lib.hid ((HA1.out.below hb (Nat.le_refl _)).more hb.size)
  have BO := Lib.hid (BO.out.below hb BO.out.lt)
  clear hb
  rw [HZN.out] at HNEW hzn
  clear HZN
  have HZN := Lib.hid hzn
  clear hzn
  generalize (w5.alloc (.cells #[.slice A0 n0 c0, .int .i64 s0, .slice M0 m0 d0, .slice E0 k0 g0, .slice A0 n0 c0, .int .i64 s0, .slice M0 m0 d0, .slice E0 k0 g0] 34)) = w6 at *
  have SA := HNEW
  clear HNEW
  refine (g_comp (two_rd _ _ _ _ _ _ _ _ _ _ _ _ _ _ _ _ _ _ _ _ SA.out HA.out HA.out) rfl HS1.out).mono ?_
  rintro e w7 ⟨A2, n2, c2, s2, M2, m2, d2, E2, k2, g2, rfl, ha2, hb⟩
  have HB := Lib.hid (HB.out.trans (hb.mono HB.out.size))
  have HA := Lib.hid ((HA.out.below hb (Nat.le_refl _)).more hb.size)
  have BA := Lib.hid (BA.out.below hb BA.out.lt)
  have HA1 := Lib.hid ((HA1.out.below hb (Nat.le_refl _)).more hb.size)
  have BO := Lib.hid (BO.out.below hb BO.out.lt)
  have SA := Lib.hid (SA.out.below hb SA.out.lt)
  clear hb
  have HA2 := Lib.hid ha2
  clear ha2
  have ba_0 := BA.out.cell 0 rfl
  have ba_1 := BA.out.cell 1 rfl
  have ba_2 := BA.out.cell 2 rfl
  have ba_3 := BA.out.cell 3 rfl
  have ba_l := BA.out.lt
  have bo_0 := BO.out.cell 0 rfl
  have bo_1 := BO.out.cell 1 rfl
  have bo_2 := BO.out.cell 2 rfl
  have bo_3 := BO.out.cell 3 rfl
  have bo_l := BO.out.lt
  have HNEW := Lib.hid (Row.new w7 [.slice A2 n2 c2, .int .i64 s2, .slice M2 m2 d2, .slice E2 k2 g2] 34)
  have hb := (Below.refl w7.heap.size w7).alloc (Nat.le_refl _) (.cells #[.slice A2 n2 c2, .int .i64 s2, .slice M2 m2 d2, .slice E2 k2 g2] 34)
  have hzn : (w7.alloc (.cells #[.slice A2 n2 c2, .int .i64 s2, .slice M2 m2 d2, .slice E2 k2 g2] 34)).heap.size = w7.heap.size + 1 := by simp
  have HB := Lib.hid (HB.out.trans (hb.mono HB.out.size))
  have HA := Lib.hid ((HA.out.below hb (Nat.le_refl _)).more hb.size)
  have BA := Lib.hid (BA.out.below hb BA.out.lt)
  have HA1 := Lib.hid ((HA1.out.below hb (Nat.le_refl _)).more hb.size)
  have BO := Lib.hid (BO.out.below hb BO.out.lt)
  have HA2 := Lib.hid ((HA2.out.below hb (Nat.le_refl _)).more hb.size)
  clear hb
  go_wp2_with fail
  clear ba_0 ba_1 ba_2 ba_3 ba_l bo_0 bo_1 bo_2 bo_3 bo_l
  obtain ⟨b_BB, hb_BB⟩ : ∃ b, b = w7.heap.size := ⟨_, rfl⟩
  rw [← hb_BB] at HNEW hzn ⊢
  clear hb_BB
  have HZN := Lib.hid hzn
  clear hzn
  generalize (w7.alloc (.cells #[.slice A2 n2 c2, .int .i64 s2, .slice M2 m2 d2, .slice E2 k2 g2] 34)) = w8 at *
  have BB := HNEW
  clear HNEW
  have HNEW := Lib.hid (Row.new w8 [.slice A1 n1 c1, .int .i64 s1, .slice M1 m1 d1, .slice E1 k1 g1, .slice A0 n0 c0, .int .i64 s0, .slice M0 m0 d0, .slice E0 k0 g0] 34)
  have hb := (Below.refl w8.heap.size w8).alloc (Nat.le_refl _) (.cells #[.slice A1 n1 c1, .int .i64 s1, .slice M1 m1 d1, .slice E1 k1 g1, .slice A0 n0 c0, .int .i64 s0, .slice M0 m0 d0, .slice E0 k0 g0] 34)
  have hzn : (w8.alloc (.cells #[.slice A1 n1 c1, .int .i64 s1, .slice M1 m1 d1, .slice E1 k1 g1, .slice A0 n0 c0, .int .i64 s0, .slice M0 m0 d0, .slice E0 k0 g0] 34)).heap.size = w8.heap.size + 1 := by simp
  have HB := Lib.hid (HB.out.trans (hb.mono HB.out.size))
  have HA := Lib.hid ((HA.out.below hb (Nat.le_refl _)).more hb.size)
  have BA := Lib.hid (BA.out.below hb BA.out.lt)
  have HA1 := Lib.hid ((HA1.out.below hb (Nat.le_refl _)).more hb.size)
  have BO := Lib.hid (BO.out.below hb BO.out.lt)
  have HA2 := Lib.hid ((HA2.out.below hb (Nat.le_refl _)).more hb.size)
  have BB := Lib.hid (BB.out.below hb BB.out.lt)
  clear hb
  rw [HZN.out] at HNEW hzn
  clear HZN
  have HZN := Lib.hid hzn
  clear hzn
  generalize (w8.alloc (.cells #[.slice A1 n1 c1, .int .i64 s1, .slice M1 m1 d1, .slice E1 k1 g1, .slice A0 n0 c0, .int .i64 s0, .slice M0 m0 d0, .slice E0 k0 g0] 34)) = w9 at *
  have SB := HNEW
  clear HNEW
  refine (g_comp (two_rd _ _ _ _ _ _ _ _ _ _ _ _ _ _ _ _ _ _ _ _ SB.out HA1.out HA.out) rfl HS2.out).mono ?_
  rintro e w10 ⟨A3, n3, c3, s3, M3, m3, d3, E3, k3, g3, rfl, ha3, hb⟩
  have HB := Lib.hid (HB.out.trans (hb.mono HB.out.size))
  have HA := Lib.hid ((HA.out.below hb (Nat.le_refl _)).more hb.size)
  have BA := Lib.hid (BA.out.below hb BA.out.lt)
  have HA1 := Lib.hid ((HA1.out.below hb (Nat.le_refl _)).more hb.size)
  have BO := Lib.hid (BO.out.below hb BO.out.lt)
  have HA2 := Lib.hid ((HA2.out.below hb (Nat.le_refl _)).more hb.size)
  have BB := Lib.hid (BB.out.below hb BB.out.lt)
  have SB := Lib.hid (SB.out.below hb SB.out.lt)
  clear hb
  have HA3 := Lib.hid ha3
  clear ha3
  have ba_0 := BA.out.cell 0 rfl
  have ba_1 := BA.out.cell 1 rfl
  have ba_2 := BA.out.cell 2 rfl
  have ba_3 := BA.out.cell 3 rfl
  have ba_l := BA.out.lt
  have bo_0 := BO.out.cell 0 rfl
  have bo_1 := BO.out.cell 1 rfl
  have bo_2 := BO.out.cell 2 rfl
  have bo_3 := BO.out.cell 3 rfl
  have bo_l := BO.out.lt
  have bb_0 := BB.out.cell 0 rfl
  have bb_1 := BB.out.cell 1 rfl
  have bb_2 := BB.out.cell 2 rfl
  have bb_3 := BB.out.cell 3 rfl
  have bb_l := BB.out.lt
  have HNEW := Lib.hid (Row.new w10 [.slice A3 n3 c3, .int .i64 s3, .slice M3 m3 d3, .slice E3 k3 g3] 34)
  have hb := (Below.refl w10.heap.size w10).alloc (Nat.le_refl _) (.cells #[.slice A3 n3 c3, .int .i64 s3, .slice M3 m3 d3, .slice E3 k3 g3] 34)
  have hzn : (w10.alloc (.cells #[.slice A3 n3 c3, .int .i64 s3, .slice M3 m3 d3, .slice E3 k3 g3] 34)).heap.size = w10.heap.size + 1 := by simp
  have HB := Lib.hid (HB.out.trans (hb.mono HB.out.size))
  have HA := Lib.hid ((HA.out.below hb (Nat.le_refl _)).more hb.size)
  have BA := Lib.hid (BA.out.below hb BA.out.lt)
  have HA1 := Lib.hid ((HA1.out.below hb (Nat.le_refl _)).more hb.size)
  have BO := Lib.hid (BO.out.below hb BO.out.lt)
  have HA2 := Lib.hid ((HA2.out.below hb (Nat.le_refl _)).more hb.size)
  have BB := Lib.hid (BB.out.below hb BB.out.lt)
  have HA3 := Lib.hid ((HA3.out.below hb (Nat.le_refl _)).more hb.size)
  clear hb
  go_wp2_with fail
  clear ba_0 ba_1 ba_2 ba_3 ba_l bo_0 bo_1 bo_2 bo_3 bo_l bb_0 bb_1 bb_2 bb_3 bb_l
  obtain ⟨b_BC, hb_BC⟩ : ∃ b, b = w10.heap.size := ⟨_, rfl⟩
  rw [← hb_BC] at HNEW hzn ⊢
  clear hb_BC
  have HZN := Lib.hid hzn
  clear hzn
  generalize (w10.alloc (.cells #[.slice A3 n3 c3, .int .i64 s3, .slice M3 m3 d3, .slice E3 k3 g3] 34)) = w11 at *
  have BC := HNEW
  clear HNEW
  have HNEW := Lib.hid (Row.new w11 [.int .i64 7] 3)
  have hb := (Below.refl w11.heap.size w11).alloc (Nat.le_refl _) (.cells #[.int .i64 7] 3)
  have hzn : (w11.alloc (.cells #[.int .i64 7] 3)).heap.size = w11.heap.size + 1 := by simp
  have HB := Lib.hid (HB.out.trans (hb.mono HB.out.size))
  have HA := Lib.hid ((HA.out.below hb (Nat.le_refl _)).more hb.size)
  have BA := Lib.hid (BA.out.below hb BA.out.lt)
  have HA1 := Lib.hid ((HA1.out.below hb (Nat.le_refl _)).more hb.size)
  have BO := Lib.hid (BO.out.below hb BO.out.lt)
  have HA2 := Lib.hid ((HA2.out.below hb (Nat.le_refl _)).more hb.size)
  have BB := Lib.hid (BB.out.below hb BB.out.lt)
  have HA3 := Lib.hid ((HA3.out.below hb (Nat.le_refl _)).more hb.size)
  have BC := Lib.hid (BC.out.below hb BC.out.lt)
  clear hb
  rw [HZN.out] at HNEW hzn
  clear HZN
  have HZN := Lib.hid hzn
  clear hzn
  generalize (w11.alloc (.cells #[.int .i64 7] 3)) = w12 at *
  have S7 := HNEW
  clear HNEW
  have HNEW := Lib.hid (Row.new w12 [.slice A0 n0 c0, .int .i64 s0, .slice M0 m0 d0, .slice E0 k0 g0, .slice (some ⟨b_BC + 1, 0, none⟩) 1 1, .int .i64 0, .slice none 0 0, .slice none 0 0] 34)
  have hb := (Below.refl w12.heap.size w12).alloc (Nat.le_refl _) (.cells #[.slice A0 n0 c0, .int .i64 s0, .slice M0 m0 d0, .slice E0 k0 g0, .slice (some ⟨b_BC + 1, 0, none⟩) 1 1, .int .i64 0, .slice none 0 0, .slice none 0 0] 34)
  have hzn : (w12.alloc (.cells #[.slice A0 n0 c0, .int .i64 s0, .slice M0 m0 d0, .slice E0 k0 g0, .slice (some ⟨b_BC + 1, 0, none⟩) 1 1, .int .i64 0, .slice none 0 0, .slice none 0 0] 34)).heap.size = w12.heap.size + 1 := by simp
  have HB := Lib.hid (HB.out.trans (hb.mono HB.out.size))
  have HA := Lib.hid ((HA.out.below hb (Nat.le_refl _)).more hb.size)
  have BA := Lib.hid (BA.out.below hb BA.out.lt)
  have HA1 := Lib.hid ((HA1.out.below hb (Nat.le_refl _)).more hb.size)
  have BO := Lib.hid (BO.out.below hb BO.out.lt)
  have HA2 := Lib.hid ((HA2.out.below hb (Nat.le_refl _)).more hb.size)
  have BB := Lib.hid (BB.out.below hb BB.out.lt)
  have HA3 := Lib.hid ((HA3.out.below hb (Nat.le_refl _)).more hb.size)
  have BC := Lib.hid (BC.out.below hb BC.out.lt)
  have S7 := Lib.hid (S7.out.below hb S7.out.lt)
  clear hb
  rw [HZN.out] at HNEW hzn
  clear HZN
  have HZN := Lib.hid hzn
  clear hzn
  generalize (w12.alloc (.cells #[.slice A0 n0 c0, .int .i64 s0, .slice M0 m0 d0, .slice E0 k0 g0, .slice (some ⟨b_BC + 1, 0, none⟩) 1 1, .int .i64 0, .slice none 0 0, .slice none 0 0] 34)) = w13 at *
  have SC := HNEW
  clear HNEW
  have HE7 := Lib.hid (emp7_rd S7.out)
  refine (g_comp (two_rd _ _ _ _ _ _ _ _ _ _ _ _ _ _ _ _ _ _ _ _ SC.out HA.out HE7.out) rfl HS3.out).mono ?_
  rintro e w14 ⟨A4, n4, c4, s4, M4, m4, d4, E4, k4, g4, rfl, ha4, hb⟩
  have HB := Lib.hid (HB.out.trans (hb.mono HB.out.size))
  have HA := Lib.hid ((HA.out.below hb (Nat.le_refl _)).more hb.size)
  have BA := Lib.hid (BA.out.below hb BA.out.lt)
  have HA1 := Lib.hid ((HA1.out.below hb (Nat.le_refl _)).more hb.size)
  have BO := Lib.hid (BO.out.below hb BO.out.lt)
  have HA2 := Lib.hid ((HA2.out.below hb (Nat.le_refl _)).more hb.size)
  have BB := Lib.hid (BB.out.below hb BB.out.lt)
  have HA3 := Lib.hid ((HA3.out.below hb (Nat.le_refl _)).more hb.size)
  have BC := Lib.hid (BC.out.below hb BC.out.lt)
  have S7 := Lib.hid (S7.out.below hb S7.out.lt)
  have SC := Lib.hid (SC.out.below hb SC.out.lt)
  clear hb
  have HA4 := Lib.hid ha4
  clear ha4
  have hst4 := HA4.out.st
  have hn4 := HA4.out.hn
  obtain rfl : s4 = 0 := hst4.symm
  have hn0 := un_len7 HOK.out.lt7 n0 HA.out.hn
  obtain rfl : n4 = n0 + 1 := hn4.symm.trans hn0
  clear hst4 hn4 hn0
  have ba_0 := BA.out.cell 0 rfl
  have ba_1 := BA.out.cell 1 rfl
  have ba_2 := BA.out.cell 2 rfl
  have ba_3 := BA.out.cell 3 rfl
  have ba_l := BA.out.lt
  have bo_0 := BO.out.cell 0 rfl
  have bo_1 := BO.out.cell 1 rfl
  have bo_2 := BO.out.cell 2 rfl
  have bo_3 := BO.out.cell 3 rfl
  have bo_l := BO.out.lt
  have bb_0 := BB.out.cell 0 rfl
  have bb_1 := BB.out.cell 1 rfl
  have bb_2 := BB.out.cell 2 rfl
  have bb_3 := BB.out.cell 3 rfl
  have bb_l := BB.out.lt
  have bc_0 := BC.out.cell 0 rfl
  have bc_1 := BC.out.cell 1 rfl
  have bc_2 := BC.out.cell 2 rfl
  have bc_3 := BC.out.cell 3 rfl
  have bc_l := BC.out.lt
  have HNEW := Lib.hid (Row.new w14 [.slice A4 (n0 + 1) c4, .int .i64 0, .slice M4 m4 d4, .slice E4 k4 g4] 34)
  have hb := (Below.refl w14.heap.size w14).alloc (Nat.le_refl _) (.cells #[.slice A4 (n0 + 1) c4, .int .i64 0, .slice M4 m4 d4, .slice E4 k4 g4] 34)
  have hzn : (w14.alloc (.cells #[.slice A4 (n0 + 1) c4, .int .i64 0, .slice M4 m4 d4, .slice E4 k4 g4] 34)).heap.size = w14.heap.size + 1 := by simp
  have HB := Lib.hid (HB.out.trans (hb.mono HB.out.size))
  have HA := Lib.hid ((HA.out.below hb (Nat.le_refl _)).more hb.size)
  have BA := Lib.hid (BA.out.below hb BA.out.lt)
  have HA1 := Lib.hid ((HA1.out.below hb (Nat.le_refl _)).more hb.size)
  have BO := Lib.hid (BO.out.below hb BO.out.lt)
  have HA2 := Lib.hid ((HA2.out.below hb (Nat.le_refl _)).more hb.size)
  have BB := Lib.hid (BB.out.below hb BB.out.lt)
  have HA3 := Lib.hid ((HA3.out.below hb (Nat.le_refl _)).more hb.size)
  have BC := Lib.hid (BC.out.below hb BC.out.lt)
  have HA4 := Lib.hid ((HA4.out.below hb (Nat.le_refl _)).more hb.size)
  clear hb
  go_wp2_with fail
  clear ba_0 ba_1 ba_2 ba_3 ba_l bo_0 bo_1 bo_2 bo_3 bo_l bb_0 bb_1 bb_2 bb_3 bb_l bc_0 bc_1 bc_2 bc_3 bc_l
  obtain ⟨b_BD, hb_BD⟩ : ∃ b, b = w14.heap.size := ⟨_, rfl⟩
  rw [← hb_BD] at HNEW hzn ⊢
  clear hb_BD
  have HZN := Lib.hid hzn
  clear hzn
  generalize (w14.alloc (.cells #[.slice A4 (n0 + 1) c4, .int .i64 0, .slice M4 m4 d4, .slice E4 k4 g4] 34)) = w15 at *
  have BD := HNEW
  clear HNEW
  refine (g_eq (decide_eq_true rfl) HA.out HA2.out).mono ?_
  rintro e w16 ⟨rfl, hb⟩
  have HB := Lib.hid (HB.out.trans (hb.mono HB.out.size))
  have HA := Lib.hid ((HA.out.below hb (Nat.le_refl _)).more hb.size)
  have BA := Lib.hid (BA.out.below hb BA.out.lt)
  have HA1 := Lib.hid ((HA1.out.below hb (Nat.le_refl _)).more hb.size)
  have BO := Lib.hid (BO.out.below hb BO.out.lt)
  have HA2 := Lib.hid ((HA2.out.below hb (Nat.le_refl _)).more hb.size)
  have BB := Lib.hid (BB.out.below hb BB.out.lt)
  have HA3 := Lib.hid ((HA3.out.below hb (Nat.le_refl _)).more hb.size)
  have BC := Lib.hid (BC.out.below hb BC.out.lt)
  have HA4 := Lib.hid ((HA4.out.below hb (Nat.le_refl _)).more hb.size)
  have BD := Lib.hid (BD.out.below hb BD.out.lt)
  clear hb
  have ba_0 := BA.out.cell 0 rfl
  have ba_1 := BA.out.cell 1 rfl
  have ba_2 := BA.out.cell 2 rfl
  have ba_3 := BA.out.cell 3 rfl
  have ba_l := BA.out.lt
  have bo_0 := BO.out.cell 0 rfl
  have bo_1 := BO.out.cell 1 rfl
  have bo_2 := BO.out.cell 2 rfl
  have bo_3 := BO.out.cell 3 rfl
  have bo_l := BO.out.lt
  have bb_0 := BB.out.cell 0 rfl
  have bb_1 := BB.out.cell 1 rfl
  have bb_2 := BB.out.cell 2 rfl
  have bb_3 := BB.out.cell 3 rfl
  have bb_l := BB.out.lt
  have bc_0 := BC.out.cell 0 rfl
  have bc_1 := BC.out.cell 1 rfl
  have bc_2 := BC.out.cell 2 rfl
  have bc_3 := BC.out.cell 3 rfl
  have bc_l := BC.out.lt
  have bd_0 := BD.out.cell 0 rfl
  have bd_1 := BD.out.cell 1 rfl
  have bd_2 := BD.out.cell 2 rfl
  have bd_3 := BD.out.cell 3 rfl
  have bd_l := BD.out.lt
  go_wp2_with fail
  clear ba_0 ba_1 ba_2 ba_3 ba_l bo_0 bo_1 bo_2 bo_3 bo_l bb_0 bb_1 bb_2 bb_3 bb_l bc_0 bc_1 bc_2 bc_3 bc_l bd_0 bd_1 bd_2 bd_3 bd_l
  refine (g_eq (decide_eq_true rfl) HA.out HA3.out).mono ?_
  rintro e w17 ⟨rfl, hb⟩
  have HB := Lib.hid (HB.out.trans (hb.mono HB.out.size))
  have HA := Lib.hid ((HA.out.below hb (Nat.le_refl _)).more hb.size)
  have BA := Lib.hid (BA.out.below hb BA.out.lt)
  have HA1 := Lib.hid ((HA1.out.below hb (Nat.le_refl _)).more hb.size)
  have BO := Lib.hid (BO.out.below hb BO.out.lt)
  have HA2 := Lib.hid ((HA2.out.below hb (Nat.le_refl _)).more hb.size)
  have BB := Lib.hid (BB.out.below hb BB.out.lt)
  have HA3 := Lib.hid ((HA3.out.below hb (Nat.le_refl _)).more hb.size)
  have BC := Lib.hid (BC.out.below hb BC.out.lt)
  have HA4 := Lib.hid ((HA4.out.below hb (Nat.le_refl _)).more hb.size)
  have BD := Lib.hid (BD.out.below hb BD.out.lt)
  clear hb
  have ba_0 := BA.out.cell 0 rfl
  have ba_1 := BA.out.cell 1 rfl
  have ba_2 := BA.out.cell 2 rfl
  have ba_3 := BA.out.cell 3 rfl
  have ba_l := BA.out.lt
  have bo_0 := BO.out.cell 0 rfl
  have bo_1 := BO.out.cell 1 rfl
  have bo_2 := BO.out.cell 2 rfl
  have bo_3 := BO.out.cell 3 rfl
  have bo_l := BO.out.lt
  have bb_0 := BB.out.cell 0 rfl
  have bb_1 := BB.out.cell 1 rfl
  have bb_2 := BB.out.cell 2 rfl
  have bb_3 := BB.out.cell 3 rfl
  have bb_l := BB.out.lt
  have bc_0 := BC.out.cell 0 rfl
  have bc_1 := BC.out.cell 1 rfl
  have bc_2 := BC.out.cell 2 rfl
  have bc_3 := BC.out.cell 3 rfl
  have bc_l := BC.out.lt
  have bd_0 := BD.out.cell 0 rfl
  have bd_1 := BD.out.cell 1 rfl
  have bd_2 := BD.out.cell 2 rfl
  have bd_3 := BD.out.cell 3 rfl
  have bd_l := BD.out.lt
  go_wp2_with fail
  go_ret
  exact ⟨rfl, HB.out⟩
end Go.Proofs.YtedleffmbddccaaDoor
