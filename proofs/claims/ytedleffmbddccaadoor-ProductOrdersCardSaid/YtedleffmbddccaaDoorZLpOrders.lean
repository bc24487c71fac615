/- Layer 6: the law of products in any order, walked. -/
import Derived.Test.YtedleffmbddccaaDoorZlN
import Derived.Test.YtedleffmbddccaaDoorZLpMeets
set_option linter.unusedVariables false
set_option linter.unusedSimpArgs false
set_option linter.unusedSectionVars false
namespace Go.Proofs.YtedleffmbddccaaDoor
open Go.RowKit Go.Sort

theorem chk_three {a b c : Au} (ha : chkE a = 0) (hb : chkE b = 0) (hc : chkE c = 0) : chkL [a, b, c] = 0 := by
  unfold chkL; rw [if_neg (by simp)]
  refine chkGo_all.2 fun x hx => ?_
  simp at hx
  rcases hx with rfl | rfl | rfl
  · exact ha
  · exact hb
  · exact hc
theorem pair_st {a b : Au} (ha : OkP a) (hb : OkP b) : (canA (prodA [a, b])).st ≤ 64 := by
  have h1 := fnd_len (prod_right (r2 ha.rw hb.rw))
  have h2 := las_fnd (l := [a, b]) (by intro x hx; simp at hx; rcases hx with rfl | rfl; exact ha; exact hb) (by simp)
  show ((fnd (prodA [a, b])).length : Int) ≤ 64
  cases hp : posT [a, b] with
  | false => rw [prod_st0 hp] at h1; simp at h1; rw [h1]; simp
  | true =>
    rw [prod_st hp] at h1
    have h3 : prT (stsT [a, b]) = a.st * b.st := by simp [stsT, prT]
    have h4 : a.st * b.st ≤ 5 * 5 := Int.mul_le_mul ha.st5 hb.st5 hb.rw.st0 (by omega)
    rw [h3] at h1
    generalize a.st * b.st = x at *
    omega
theorem chk_pair {a b : Au} (ha : OkP a) (hb : OkP b) : chkE (canA (prodA [a, b])) = 0 :=
  Right.chk ⟨can_right (prod_right (r2 ha.rw hb.rw)), by have := pair_st ha hb; omega⟩
theorem isC_three {a b c : Au} (ha : OkP a) (hb : OkP b) (hc : OkP c) : isC (canA (prodA [a, b, c])) = true := by
  have hok : ∀ x ∈ [a, b, c], OkP x := by intro x hx; simp at hx; rcases hx with rfl | rfl | rfl; exact ha; exact hb; exact hc
  have hr := prod_right (las_rw hok)
  have h1 := las_fnd hok (by simp)
  have h2 : chkE (canA (prodA [a, b, c])) = 0 := Right.chk ⟨can_right hr, by show ((fnd (prodA [a, b, c])).length : Int) ≤ _; omega⟩
  rw [isC, decide_eq_true h2, decide_eq_true (can_can hr).symm]; rfl
theorem syn_three {a b c : Au} (ha : OkP a) (hb : OkP b) (hc : OkP c) : ∃ ts, synR [a, b, c] = ((canA (prodA [a, b, c]), ts), 0) :=
  ⟨_, las_syn (l := [a, b, c]) (by intro x hx; simp at hx; rcases hx with rfl | rfl | rfl; exact ha; exact hb; exact hc) (by simp)⟩
theorem syn_two {a b : Au} (ha : OkP a) (hb : OkP b) : ∃ ts, synR [a, b] = ((canA (prodA [a, b]), ts), 0) :=
  ⟨_, las_syn (l := [a, b]) (by intro x hx; simp at hx; rcases hx with rfl | rfl; exact ha; exact hb) (by simp)⟩
theorem syn_left {a b c : Au} (ha : OkP a) (hb : OkP b) (hc : OkP c) : ∃ ts, synR [canA (prodA [a, b]), c] = ((canA (prodA [a, b, c]), ts), 0) :=
  ⟨_, by rw [syn_small (chk_two (chk_pair ha hb) hc.chk) (fnd_two (can_right (prod_right (r2 ha.rw hb.rw))) hc.rw (pair_st ha hb) (by have := hc.st5; omega)), left3 ha.rw hb.rw hc.rw]⟩
theorem syn_right {a b c : Au} (ha : OkP a) (hb : OkP b) (hc : OkP c) : ∃ ts, synR [a, canA (prodA [b, c])] = ((canA (prodA [a, b, c]), ts), 0) :=
  ⟨_, by rw [syn_small (chk_two ha.chk (chk_pair hb hc)) (fnd_two ha.rw (can_right (prod_right (r2 hb.rw hc.rw))) (by have := ha.st5; omega) (pair_st hb hc)), right3 ha.rw hb.rw hc.rw]⟩
theorem row_at {W : World} {bg o : Nat} {A : Option Addr} {n c : Nat} {s : Int} {M : Option Addr} {m d : Nat} {E : Option Addr} {k g : Nat} {a : Au} (h0 : W.cell? ⟨bg, o, none⟩ = some (.slice A n c)) (h1 : W.cell? ⟨bg, o + 1, none⟩ = some (.int .i64 s)) (h2 : W.cell? ⟨bg, o + 2, none⟩ = some (.slice M m d)) (h3 : W.cell? ⟨bg, o + 3, none⟩ = some (.slice E k g)) (h : AuR W W.heap.size A n c s M m d E k g a) : AuAt W W.heap.size bg o a :=
  ⟨A, n, c, s, M, m, d, E, k, g, h0, h1, h2, h3, h⟩
theorem row_new2 (W : World) (o : Obj) (cs : List Value) (T : TypeId) : Row ((W.alloc o).alloc (.cells cs.toArray T)) (W.heap.size + 1) T cs := by
  have := Row.new (W.alloc o) cs T; rwa [World.size_alloc] at this
theorem g_compF {w : World} {Al : Option Addr} {nl cl : Nat} {las : List Au} {a : Au} {ts : List (List Int)} {er : Int} (h : RdAs w w.heap.size Al las) (hn : las.length = nl) (hs : synR las = ((a, ts), er)) : Calls Tryd.prog 21 #[.slice Al nl cl] w (GivesA w (a, er)) := by
  have := pCompose_any Al nl cl las w h hn
  rwa [hs] at this
theorem syn_perm {a b c : Au} (ha : OkP a) (hb : OkP b) (hc : OkP c) {i k j : Nat} {x y z : Au} (hx : [a, b, c][i]? = some x) (hy : [a, b, c][k]? = some y) (hz : [a, b, c][j]? = some z) (h1 : i ≠ k) (h2 : i + k + j = 3) : ∃ ts, synR [x, y, z] = ((canA (prodA [a, b, c]), ts), 0) := by
  have hi : i < 3 := by have := (List.getElem?_eq_some_iff.1 hx).1; simpa using this
  have hk : k < 3 := by have := (List.getElem?_eq_some_iff.1 hy).1; simpa using this
  have hj : j < 3 := by have := (List.getElem?_eq_some_iff.1 hz).1; simpa using this
  have ra := ha.rw
  have rb := hb.rw
  have rc := hc.rw
  have key : ∀ x y z : Au, OkP x → OkP y → OkP z → canA (prodA [x, y, z]) = canA (prodA [a, b, c]) → ∃ ts, synR [x, y, z] = ((canA (prodA [a, b, c]), ts), 0) := fun x y z hx hy hz e => by
    obtain ⟨ts, hs⟩ := syn_three hx hy hz
    exact ⟨ts, by rw [hs, e]⟩
  have e1 : canA (prodA [a, c, b]) = canA (prodA [a, b, c]) := perm23 ra rb rc
  have e2 : canA (prodA [b, a, c]) = canA (prodA [a, b, c]) := perm12 ra rb rc
  have e3 : canA (prodA [b, c, a]) = canA (prodA [a, b, c]) := (perm23 rb ra rc).trans e2
  have e4 : canA (prodA [c, a, b]) = canA (prodA [a, b, c]) := (perm12 ra rc rb).trans e1
  have e5 : canA (prodA [c, b, a]) = canA (prodA [a, b, c]) := (perm12 rb rc ra).trans e3
  have hcc : (i = 0 ∧ k = 1 ∧ j = 2) ∨ (i = 0 ∧ k = 2 ∧ j = 1) ∨ (i = 1 ∧ k = 0 ∧ j = 2) ∨ (i = 1 ∧ k = 2 ∧ j = 0) ∨ (i = 2 ∧ k = 0 ∧ j = 1) ∨ (i = 2 ∧ k = 1 ∧ j = 0) := by omega
  rcases hcc with ⟨rfl, rfl, rfl⟩ | ⟨rfl, rfl, rfl⟩ | ⟨rfl, rfl, rfl⟩ | ⟨rfl, rfl, rfl⟩ | ⟨rfl, rfl, rfl⟩ | ⟨rfl, rfl, rfl⟩ <;> simp at hx hy hz <;> subst hx hy hz
  · exact key _ _ _ ha hb hc rfl
  · exact key _ _ _ ha hc hb e1
  · exact key _ _ _ hb ha hc e2
  · exact key _ _ _ hb hc ha e3
  · exact key _ _ _ hc ha hb e4
  · exact key _ _ _ hc hb ha e5
theorem rds_two {W : World} {bg : Nat} {cs : List Value} (hr : Row W bg 34 cs) {a b : Au} (h0 : AuAt W W.heap.size bg 0 a) (h1 : AuAt W W.heap.size bg 4 b) : RdAs W W.heap.size (some ⟨bg, 0, none⟩) [a, b] := fun _ => ⟨bg, 0, rfl, hr.lt, fun j x hj => by
  match j, hj with
  | 0, hj => simp at hj; subst hj; exact h0
  | 1, hj => simp at hj; subst hj; exact h1
  | j + 2, hj => simp at hj⟩
theorem rds_three {W : World} {bg : Nat} {cs : List Value} (hr : Row W bg 34 cs) {a b c : Au} (h0 : AuAt W W.heap.size bg 0 a) (h1 : AuAt W W.heap.size bg 4 b) (h2 : AuAt W W.heap.size bg 8 c) : RdAs W W.heap.size (some ⟨bg, 0, none⟩) [a, b, c] := fun _ => ⟨bg, 0, rfl, hr.lt, fun j x hj => by
  match j, hj with
  | 0, hj => simp at hj; subst hj; exact h0
  | 1, hj => simp at hj; subst hj; exact h1
  | 2, hj => simp at hj; subst hj; exact h2
  | j + 3, hj => simp at hj⟩

set_option maxHeartbeats 16000000 in
set_option maxRecDepth 100000 in
theorem lawOrders (q r t : Pt) (od : Int) (w : World) (hq : PtOk q) (hr : PtOk r) (ht : PtOk t) (hw : (Lit.int .u8 od).wf = true) (hT : TabAt 0 Lib.deBruijn32tab w) :
    Calls Tryd.prog 10 #[.agg (pcs q ++ pcs r ++ pcs t).toArray, .int .u8 od] w fun e w' => e = .returned (.bool true) ∧ Below w.heap.size w w' := by
  have hz := tab_pos hT
  have ho0 : 0 ≤ od ∧ od < 256 := by simp [Lit.wf, IntKind.min, IntKind.max, IntKind.signed, IntKind.bits] at hw; omega
  have ho1 := ho0.1
  have ho2 := ho0.2
  have HTB := Lib.hid (fun W (hW : Below w.heap.size w W) => tab_below hT hW hz)
  have HK := Lib.hid (fun W (hW : Below w.heap.size w W) => known_any W (HTB.out W hW) (Nat.lt_of_lt_of_le hz hW.size))
  obtain ⟨cs, hcs⟩ : ∃ cs, cs = pcs q ++ pcs r ++ pcs t := ⟨_, rfl⟩
  rw [← hcs]
  have HCS := Lib.hid hcs
  have HB := Lib.hid ((Below.refl w.heap.size w).alloc (Nat.le_refl _) (.cells cs.toArray 80))
  have HX := Lib.hid (Row.new w cs 80)
  have HQ := Lib.hid hq
  have HR := Lib.hid hr
  have HTT := Lib.hid ht
  clear hT hz hq hr ht hw ho0 hcs
  go_enter Tryd.func10, Tryd.ntmps10
  go_wp2_with fail
  refine (HK.out _ HB.out).mono ?_
  rintro e w1 ⟨rfl, hb⟩
  have HX := Lib.hid (HX.out.below hb (by simp))
  have HB := Lib.hid (HB.out.trans (hb.mono HB.out.size))
  clear hb
  have HPS := Lib.hid (row_parts3 (by have := HX.out; rw [HCS.out] at this; exact this) HQ.out HR.out HTT.out)
  go_wp2_with fail
  refine (list_any _ 3 3 [q, r, t] _ HPS.out rfl (by intro p hp; simp at hp; rcases hp with rfl | rfl | rfl; exact HQ.out; exact HR.out; exact HTT.out)).mono ?_
  rintro e w2 ⟨Al, cl, las, rfl, hl3, hrl, hok, _, _, hb⟩
  have HB := Lib.hid (HB.out.trans (hb.mono HB.out.size))
  clear hb HX HPS
  obtain ⟨a, b, c, rfl⟩ : ∃ a b c, las = [a, b, c] := by
    match las, hl3 with
    | [a, b, c], _ => exact ⟨a, b, c, rfl⟩
    | [], h => simp at h
    | [_], h => simp at h
    | [_, _], h => simp at h
    | _ :: _ :: _ :: _ :: _, h => (simp at h) <;> omega
  have HOA := Lib.hid (hok a (by simp))
  have HOB := Lib.hid (hok b (by simp))
  have HOC := Lib.hid (hok c (by simp))
  have HAS := Lib.hid hrl
  obtain ⟨bl, ol, rfl, hbl, A0, n0, c0, s0, M0, m0, d0, E0, k0, g0, p0, p1, p2, p3, hA0⟩ := rd_at hrl (j := 0) (a := a) rfl
  obtain ⟨bl', ol', e', _, A1, n1, c1, s1, M1, m1, d1, E1, k1, g1, p4, p5, p6, p7, hA1⟩ := rd_at hrl (j := 1) (a := b) rfl
  simp only [Option.some.injEq, Addr.mk.injEq, and_true] at e'
  obtain ⟨rfl, rfl⟩ := e'
  obtain ⟨bl', ol', e', _, A2, n2, c2, s2, M2, m2, d2, E2, k2, g2, p8, p9, p10, p11, hA2⟩ := rd_at hrl (j := 2) (a := c) rfl
  simp only [Option.some.injEq, Addr.mk.injEq, and_true] at e'
  obtain ⟨rfl, rfl⟩ := e'
  have HA0 := Lib.hid hA0
  have HA1 := Lib.hid hA1
  have HA2 := Lib.hid hA2
  obtain ⟨pa, hpa⟩ : ∃ pa, pa = canA (prodA [a, b, c]) := ⟨_, rfl⟩
  obtain ⟨pl, hpl⟩ : ∃ pl, pl = canA (prodA [a, b]) := ⟨_, rfl⟩
  obtain ⟨pr, hpr⟩ : ∃ pr, pr = canA (prodA [b, c]) := ⟨_, rfl⟩
  obtain ⟨ts1, hs1⟩ := syn_three HOA.out HOB.out HOC.out
  obtain ⟨ts2, hs2⟩ := syn_two HOA.out HOB.out
  obtain ⟨ts3, hs3⟩ := syn_two HOB.out HOC.out
  obtain ⟨ts4, hs4⟩ := syn_left HOA.out HOB.out HOC.out
  obtain ⟨ts5, hs5⟩ := syn_right HOA.out HOB.out HOC.out
  rw [← hpl, ← hpa] at hs4
  rw [← hpr, ← hpa] at hs5
  rw [← hpa] at hs1
  rw [← hpl] at hs2
  rw [← hpr] at hs3
  have HS1 := Lib.hid hs1
  have HS2 := Lib.hid hs2
  have HS3 := Lib.hid hs3
  have HS4 := Lib.hid hs4
  have HS5 := Lib.hid hs5
  have HPA := Lib.hid hpa
  simp only [Nat.zero_mul, Nat.one_mul, Nat.add_zero, show 2 * 4 = 8 from rfl] at p0 p1 p2 p3 p4 p5 p6 p7 p8 p9 p10 p11
  simp only [List.length_cons, List.length_nil, Nat.zero_add]
  have HCC := Lib.hid (fun W (hW : Below w2.heap.size w2 W) => (⟨⟨(hW.cell (p := ⟨bl, ol, none⟩) hbl).trans p0, (hW.cell (p := ⟨bl, ol + 1, none⟩) hbl).trans p1, (hW.cell (p := ⟨bl, ol + 2, none⟩) hbl).trans p2, (hW.cell (p := ⟨bl, ol + 3, none⟩) hbl).trans p3, (hW.cell (p := ⟨bl, ol + 4, none⟩) hbl).trans p4, (hW.cell (p := ⟨bl, ol + 4 + 1, none⟩) hbl).trans p5, (hW.cell (p := ⟨bl, ol + 4 + 2, none⟩) hbl).trans p6, (hW.cell (p := ⟨bl, ol + 4 + 3, none⟩) hbl).trans p7⟩, (hW.cell (p := ⟨bl, ol + 8, none⟩) hbl).trans p8, (hW.cell (p := ⟨bl, ol + 8 + 1, none⟩) hbl).trans p9, (hW.cell (p := ⟨bl, ol + 8 + 2, none⟩) hbl).trans p10, (hW.cell (p := ⟨bl, ol + 8 + 3, none⟩) hbl).trans p11⟩ : C8 W bl ol (.slice A0 n0 c0) (.int .i64 s0) (.slice M0 m0 d0) (.slice E0 k0 g0) (.slice A1 n1 c1) (.int .i64 s1) (.slice M1 m1 d1) (.slice E1 k1 g1) ∧ W.cell? ⟨bl, ol + 8, none⟩ = some (.slice A2 n2 c2) ∧ W.cell? ⟨bl, ol + 8 + 1, none⟩ = some (.int .i64 s2) ∧ W.cell? ⟨bl, ol + 8 + 2, none⟩ = some (.slice M2 m2 d2) ∧ W.cell? ⟨bl, ol + 8 + 3, none⟩ = some (.slice E2 k2 g2)))
  clear hl3 hrl hok hA0 hA1 hA2 hpa hpl hpr hs1 hs2 hs3 hs4 hs5
  have HBW0 := Lib.hid (Below.refl w2.heap.size w2)
  go_wp2_with fail
  refine (g_comp (cl := cl) HAS.out rfl HS1.out).mono ?_
  rintro e w3 ⟨A6, n6, c6, s6, M6, m6, d6, E6, k6, g6, rfl, ha6, hb⟩
  have HB := Lib.hid (HB.out.trans (hb.mono HB.out.size))
  have HAS := Lib.hid ((HAS.out.below hb (Nat.le_refl _)).more hb.size)
  have HA0 := Lib.hid ((HA0.out.below hb (Nat.le_refl _)).more hb.size)
  have HA1 := Lib.hid ((HA1.out.below hb (Nat.le_refl _)).more hb.size)
  have HA2 := Lib.hid ((HA2.out.below hb (Nat.le_refl _)).more hb.size)
  have HBW0 := Lib.hid (HBW0.out.trans (hb.mono HBW0.out.size))
  clear hb
  have HA6 := Lib.hid ha6
  clear ha6
  have HBW := HBW0
  obtain ⟨i, hi⟩ : ∃ i : Nat, od % 3 = (i : Int) := ⟨(od % 3).toNat, by omega⟩
  obtain ⟨kk, hk⟩ : ∃ kk : Nat, (od % 3 + 1 + od / 3 % 2) % 3 = (kk : Int) := ⟨((od % 3 + 1 + od / 3 % 2) % 3).toNat, by omega⟩
  obtain ⟨j, hj⟩ : ∃ j : Nat, 3 - (i : Int) - (kk : Int) = (j : Int) := ⟨(3 - (i : Int) - (kk : Int)).toNat, by omega⟩
  have i3 : i < 3 := by omega
  have k3 : kk < 3 := by omega
  have j3 : j < 3 := by omega
  have ik : i ≠ kk := by omega
  have ikj : i + kk + j = 3 := by omega
  obtain ⟨xi, hxi⟩ : ∃ x, [a, b, c][i]? = some x := ⟨_, List.getElem?_eq_getElem (by simpa using i3)⟩
  obtain ⟨xk, hxk⟩ : ∃ x, [a, b, c][kk]? = some x := ⟨_, List.getElem?_eq_getElem (by simpa using k3)⟩
  obtain ⟨xj, hxj⟩ : ∃ x, [a, b, c][j]? = some x := ⟨_, List.getElem?_eq_getElem (by simpa using j3)⟩
  obtain ⟨ts6, hs6⟩ := syn_perm HOA.out HOB.out HOC.out hxi hxk hxj ik ikj
  rw [← HPA.out] at hs6
  have HS6 := Lib.hid hs6
  have HXI := Lib.hid hxi
  have HXK := Lib.hid hxk
  have HXJ := Lib.hid hxj
  have HIE := Lib.hid hi
  have HKE := Lib.hid hk
  have HJE := Lib.hid hj
  clear hs6 ik ikj hxi hxk hxj
  clear p0 p1 p2 p3 p4 p5 p6 p7 p8 p9 p10 p11
  have HNEW := Lib.hid (Row.new w3 [.slice A6 n6 c6, .int .i64 s6, .slice M6 m6 d6, .slice E6 k6 g6] 34)
  have hb := (Below.refl w3.heap.size w3).alloc (Nat.le_refl _) (.cells #[.slice A6 n6 c6, .int .i64 s6, .slice M6 m6 d6, .slice E6 k6 g6] 34)
  have HB := Lib.hid (HB.out.trans (hb.mono HB.out.size))
  have HAS := Lib.hid ((HAS.out.below hb (Nat.le_refl _)).more hb.size)
  have HA0 := Lib.hid ((HA0.out.below hb (Nat.le_refl _)).more hb.size)
  have HA1 := Lib.hid ((HA1.out.below hb (Nat.le_refl _)).more hb.size)
  have HA2 := Lib.hid ((HA2.out.below hb (Nat.le_refl _)).more hb.size)
  have HBW := Lib.hid (HBW.out.trans (hb.mono HBW.out.size))
  have HA6 := Lib.hid ((HA6.out.below hb (Nat.le_refl _)).more hb.size)
  clear hb
  clear hi hk hj
  go_upto_region 7 with fail
  obtain ⟨b_B6, hb_B6⟩ : ∃ b, b = w3.heap.size := ⟨_, rfl⟩
  rw [← hb_B6] at HNEW ⊢
  clear hb_B6
  generalize (w3.alloc (.cells #[.slice A6 n6 c6, .int .i64 s6, .slice M6 m6 d6, .slice E6 k6 g6] 34)) = w4 at *
  have B6 := HNEW
  clear HNEW
  rw [HKE.out, HIE.out]
  obtain ⟨bl', ol', e', hbl4, A10, n10, c10, s10, M10, m10, d10, E10, k10, g10, u100, u101, u102, u103, hA10⟩ := rd_at HAS.out HXI.out
  simp only [Option.some.injEq, Addr.mk.injEq, and_true] at e'
  obtain ⟨rfl, rfl⟩ := e'
  have HA10 := Lib.hid hA10
  clear hA10
  obtain ⟨bl', ol', e', hbl4, A11, n11, c11, s11, M11, m11, d11, E11, k11, g11, u110, u111, u112, u113, hA11⟩ := rd_at HAS.out HXK.out
  simp only [Option.some.injEq, Addr.mk.injEq, and_true] at e'
  obtain ⟨rfl, rfl⟩ := e'
  have HA11 := Lib.hid hA11
  clear hA11
  obtain ⟨bl', ol', e', hbl4, A12, n12, c12, s12, M12, m12, d12, E12, k12, g12, u120, u121, u122, u123, hA12⟩ := rd_at HAS.out HXJ.out
  simp only [Option.some.injEq, Addr.mk.injEq, and_true] at e'
  obtain ⟨rfl, rfl⟩ := e'
  have HA12 := Lib.hid hA12
  clear hA12
  have i0 : (0 : Int) ≤ (i : Int) := by omega
  have i4 : (i : Int) < 3 := by omega
  have k0' : (0 : Int) ≤ (kk : Int) := by omega
  have k4 : (kk : Int) < 3 := by omega
  have j0 : (0 : Int) ≤ (j : Int) := by omega
  have j4 : (j : Int) < 3 := by omega
  have hj : 3 - (i : Int) - (kk : Int) = (j : Int) := HJE.out
  have w8 : IntKind.i64.wrap (3 - (i : Int)) = 3 - (i : Int) := IntWalk.i64_in _ (by omega)
  have w9 : IntKind.i64.wrap (3 - (i : Int) - (kk : Int)) = (j : Int) := by rw [hj]; exact IntWalk.i64_in _ (by omega)
  clear hj
  have HCx := Lib.hid (fun W' (hW : Below w4.heap.size w4 W') => (⟨(hW.cell (p := ⟨bl, ol + i * 4, none⟩) hbl4).trans u100, (hW.cell (p := ⟨bl, ol + i * 4 + 1, none⟩) hbl4).trans u101, (hW.cell (p := ⟨bl, ol + i * 4 + 2, none⟩) hbl4).trans u102, (hW.cell (p := ⟨bl, ol + i * 4 + 3, none⟩) hbl4).trans u103, (hW.cell (p := ⟨bl, ol + kk * 4, none⟩) hbl4).trans u110, (hW.cell (p := ⟨bl, ol + kk * 4 + 1, none⟩) hbl4).trans u111, (hW.cell (p := ⟨bl, ol + kk * 4 + 2, none⟩) hbl4).trans u112, (hW.cell (p := ⟨bl, ol + kk * 4 + 3, none⟩) hbl4).trans u113, (hW.cell (p := ⟨bl, ol + j * 4, none⟩) hbl4).trans u120, (hW.cell (p := ⟨bl, ol + j * 4 + 1, none⟩) hbl4).trans u121, (hW.cell (p := ⟨bl, ol + j * 4 + 2, none⟩) hbl4).trans u122, (hW.cell (p := ⟨bl, ol + j * 4 + 3, none⟩) hbl4).trans u123⟩ : W'.cell? ⟨bl, ol + i * 4, none⟩ = some (.slice A10 n10 c10) ∧ W'.cell? ⟨bl, ol + i * 4 + 1, none⟩ = some (.int .i64 s10) ∧ W'.cell? ⟨bl, ol + i * 4 + 2, none⟩ = some (.slice M10 m10 d10) ∧ W'.cell? ⟨bl, ol + i * 4 + 3, none⟩ = some (.slice E10 k10 g10) ∧ W'.cell? ⟨bl, ol + kk * 4, none⟩ = some (.slice A11 n11 c11) ∧ W'.cell? ⟨bl, ol + kk * 4 + 1, none⟩ = some (.int .i64 s11) ∧ W'.cell? ⟨bl, ol + kk * 4 + 2, none⟩ = some (.slice M11 m11 d11) ∧ W'.cell? ⟨bl, ol + kk * 4 + 3, none⟩ = some (.slice E11 k11 g11) ∧ W'.cell? ⟨bl, ol + j * 4, none⟩ = some (.slice A12 n12 c12) ∧ W'.cell? ⟨bl, ol + j * 4 + 1, none⟩ = some (.int .i64 s12) ∧ W'.cell? ⟨bl, ol + j * 4 + 2, none⟩ = some (.slice M12 m12 d12) ∧ W'.cell? ⟨bl, ol + j * 4 + 3, none⟩ = some (.slice E12 k12 g12)))
  have HCo := Lib.hid (fun W' bg (hW : Below w4.heap.size w4 W') (hr : Row W' bg 34 [.slice A10 n10 c10, .int .i64 s10, .slice M10 m10 d10, .slice E10 k10 g10, .slice A11 n11 c11, .int .i64 s11, .slice M11 m11 d11, .slice E11 k11 g11, .slice A12 n12 c12, .int .i64 s12, .slice M12 m12 d12, .slice E12 k12 g12]) => g_compF (Al := some ⟨bg, 0, none⟩) (nl := 3) (cl := 3) (rds_three hr (row_at (hr.cell 0 rfl) (hr.cell 1 rfl) (hr.cell 2 rfl) (hr.cell 3 rfl) ((HA10.out.below hW (Nat.le_refl _)).more hW.size)) (row_at (hr.cell 4 rfl) (hr.cell 5 rfl) (hr.cell 6 rfl) (hr.cell 7 rfl) ((HA11.out.below hW (Nat.le_refl _)).more hW.size)) (row_at (hr.cell 8 rfl) (hr.cell 9 rfl) (hr.cell 10 rfl) (hr.cell 11 rfl) ((HA12.out.below hW (Nat.le_refl _)).more hW.size))) rfl HS6.out)
  have R0 := Lib.hid (Below.refl w4.heap.size w4)
  have R1 := Lib.hid ((Below.refl w4.heap.size w4).drew)
  have R2 := Lib.hid ((Below.refl w4.heap.size w4).alloc (Nat.le_refl _) (.cells #[.slice A10 n10 c10, .int .i64 s10, .slice M10 m10 d10, .slice E10 k10 g10, .slice A11 n11 c11, .int .i64 s11, .slice M11 m11 d11, .slice E11 k11 g11, .slice A12 n12 c12, .int .i64 s12, .slice M12 m12 d12, .slice E12 k12 g12] 34))
  have R3 := Lib.hid (((Below.refl w4.heap.size w4).alloc (Nat.le_refl _) (.cells #[.slice A10 n10 c10, .int .i64 s10, .slice M10 m10 d10, .slice E10 k10 g10, .slice A11 n11 c11, .int .i64 s11, .slice M11 m11 d11, .slice E11 k11 g11, .slice A12 n12 c12, .int .i64 s12, .slice M12 m12 d12, .slice E12 k12 g12] 34)).drew)
  have R4 := Lib.hid ((Below.refl w4.heap.size w4).alloc (Nat.le_refl _) (.cells #[.slice none 0 0, .int .i64 0, .slice none 0 0, .slice none 0 0] 34))
  have R5 := Lib.hid (((Below.refl w4.heap.size w4).alloc (Nat.le_refl _) (.cells #[.slice none 0 0, .int .i64 0, .slice none 0 0, .slice none 0 0] 34)).drew)
  have R6 := Lib.hid (((Below.refl w4.heap.size w4).alloc (Nat.le_refl _) (.cells #[.slice A10 n10 c10, .int .i64 s10, .slice M10 m10 d10, .slice E10 k10 g10, .slice A11 n11 c11, .int .i64 s11, .slice M11 m11 d11, .slice E11 k11 g11, .slice A12 n12 c12, .int .i64 s12, .slice M12 m12 d12, .slice E12 k12 g12] 34)).alloc (by simp) (.cells #[.slice none 0 0, .int .i64 0, .slice none 0 0, .slice none 0 0] 34))
  have R7 := Lib.hid ((((Below.refl w4.heap.size w4).alloc (Nat.le_refl _) (.cells #[.slice A10 n10 c10, .int .i64 s10, .slice M10 m10 d10, .slice E10 k10 g10, .slice A11 n11 c11, .int .i64 s11, .slice M11 m11 d11, .slice E11 k11 g11, .slice A12 n12 c12, .int .i64 s12, .slice M12 m12 d12, .slice E12 k12 g12] 34)).alloc (by simp) (.cells #[.slice none 0 0, .int .i64 0, .slice none 0 0, .slice none 0 0] 34)).drew)
  have R8 := Lib.hid (((Below.refl w4.heap.size w4).alloc (Nat.le_refl _) (.cells #[.slice none 0 0, .int .i64 0, .slice none 0 0, .slice none 0 0] 34)).alloc (by simp) (.cells #[.slice A10 n10 c10, .int .i64 s10, .slice M10 m10 d10, .slice E10 k10 g10, .slice A11 n11 c11, .int .i64 s11, .slice M11 m11 d11, .slice E11 k11 g11, .slice A12 n12 c12, .int .i64 s12, .slice M12 m12 d12, .slice E12 k12 g12] 34))
  have R9 := Lib.hid ((((Below.refl w4.heap.size w4).alloc (Nat.le_refl _) (.cells #[.slice none 0 0, .int .i64 0, .slice none 0 0, .slice none 0 0] 34)).alloc (by simp) (.cells #[.slice A10 n10 c10, .int .i64 s10, .slice M10 m10 d10, .slice E10 k10 g10, .slice A11 n11 c11, .int .i64 s11, .slice M11 m11 d11, .slice E11 k11 g11, .slice A12 n12 c12, .int .i64 s12, .slice M12 m12 d12, .slice E12 k12 g12] 34)).drew)
  have K2 := Lib.hid (HCo.out _ _ R2.out (Row.new w4 [.slice A10 n10 c10, .int .i64 s10, .slice M10 m10 d10, .slice E10 k10 g10, .slice A11 n11 c11, .int .i64 s11, .slice M11 m11 d11, .slice E11 k11 g11, .slice A12 n12 c12, .int .i64 s12, .slice M12 m12 d12, .slice E12 k12 g12] 34))
  have K3 := Lib.hid (HCo.out _ _ R3.out (row_drew6 (Row.new w4 [.slice A10 n10 c10, .int .i64 s10, .slice M10 m10 d10, .slice E10 k10 g10, .slice A11 n11 c11, .int .i64 s11, .slice M11 m11 d11, .slice E11 k11 g11, .slice A12 n12 c12, .int .i64 s12, .slice M12 m12 d12, .slice E12 k12 g12] 34)))
  have K6 := Lib.hid (HCo.out _ _ R6.out ((Row.new w4 [.slice A10 n10 c10, .int .i64 s10, .slice M10 m10 d10, .slice E10 k10 g10, .slice A11 n11 c11, .int .i64 s11, .slice M11 m11 d11, .slice E11 k11 g11, .slice A12 n12 c12, .int .i64 s12, .slice M12 m12 d12, .slice E12 k12 g12] 34).alloc _))
  have K7 := Lib.hid (HCo.out _ _ R7.out (row_drew6 ((Row.new w4 [.slice A10 n10 c10, .int .i64 s10, .slice M10 m10 d10, .slice E10 k10 g10, .slice A11 n11 c11, .int .i64 s11, .slice M11 m11 d11, .slice E11 k11 g11, .slice A12 n12 c12, .int .i64 s12, .slice M12 m12 d12, .slice E12 k12 g12] 34).alloc _)))
  have K8 := Lib.hid (HCo.out _ _ R8.out (row_new2 w4 _ [.slice A10 n10 c10, .int .i64 s10, .slice M10 m10 d10, .slice E10 k10 g10, .slice A11 n11 c11, .int .i64 s11, .slice M11 m11 d11, .slice E11 k11 g11, .slice A12 n12 c12, .int .i64 s12, .slice M12 m12 d12, .slice E12 k12 g12] 34))
  have K9 := Lib.hid (HCo.out _ _ R9.out (row_drew6 (row_new2 w4 _ [.slice A10 n10 c10, .int .i64 s10, .slice M10 m10 d10, .slice E10 k10 g10, .slice A11 n11 c11, .int .i64 s11, .slice M11 m11 d11, .slice E11 k11 g11, .slice A12 n12 c12, .int .i64 s12, .slice M12 m12 d12, .slice E12 k12 g12] 34)))
  go_upto_region 7 with fail
  go_cut [10, 11] from 40 to 59 (fun pv ev wx => BoxR w4 pa pv wx ∧ ev = .int .i64 0)
  case first =>
    go_region_held3 (fun w' => w'.cell? ⟨bl, ol + i * 4, none⟩ = some (.slice A10 n10 c10) ∧ w'.cell? ⟨bl, ol + i * 4 + 1, none⟩ = some (.int .i64 s10) ∧ w'.cell? ⟨bl, ol + i * 4 + 2, none⟩ = some (.slice M10 m10 d10) ∧ w'.cell? ⟨bl, ol + i * 4 + 3, none⟩ = some (.slice E10 k10 g10) ∧ w'.cell? ⟨bl, ol + kk * 4, none⟩ = some (.slice A11 n11 c11) ∧ w'.cell? ⟨bl, ol + kk * 4 + 1, none⟩ = some (.int .i64 s11) ∧ w'.cell? ⟨bl, ol + kk * 4 + 2, none⟩ = some (.slice M11 m11 d11) ∧ w'.cell? ⟨bl, ol + kk * 4 + 3, none⟩ = some (.slice E11 k11 g11) ∧ w'.cell? ⟨bl, ol + j * 4, none⟩ = some (.slice A12 n12 c12) ∧ w'.cell? ⟨bl, ol + j * 4 + 1, none⟩ = some (.int .i64 s12) ∧ w'.cell? ⟨bl, ol + j * 4 + 2, none⟩ = some (.slice M12 m12 d12) ∧ w'.cell? ⟨bl, ol + j * 4 + 3, none⟩ = some (.slice E12 k12 g12)) (first | with_reducible exact ⟨u100, u101, u102, u103, u110, u111, u112, u113, u120, u121, u122, u123⟩ | with_reducible exact HCx.out _ R0.out | with_reducible exact HCx.out _ R1.out | with_reducible exact HCx.out _ R2.out | with_reducible exact HCx.out _ R3.out | with_reducible exact HCx.out _ R4.out | with_reducible exact HCx.out _ R5.out | with_reducible exact HCx.out _ R6.out | with_reducible exact HCx.out _ R7.out | with_reducible exact HCx.out _ R8.out | with_reducible exact HCx.out _ R9.out | with_reducible exact HCx.out _ HB5.out | with_reducible exact HCx.out _ HB5.out.drew | with_reducible exact HCx.out _ (HB5.out.alloc HB5.out.size _) | with_reducible exact HCx.out _ (below_set4 HB5.out (by omega) _ _ _ _) | with_reducible exact HCx.out _ (below_set4 (HB5.out.alloc HB5.out.size _) HB5.out.size _ _ _ _) | go_keep)
      (first
      | (go_simp; go_at_call 21; (first | with_reducible refine K2.out.mono ?_ | with_reducible refine K3.out.mono ?_ | with_reducible refine K6.out.mono ?_ | with_reducible refine K7.out.mono ?_ | with_reducible refine K8.out.mono ?_ | with_reducible refine K9.out.mono ?_); rintro e w5 ⟨v5, rfl, ⟨A9, n9, c9, s9, M9, m9, d9, E9, k9, g9, rfl, ha5, hf5⟩, hb5⟩
         have HAF := Lib.hid (show AuF pa (.agg #[.slice A9 n9 c9, .int .i64 s9, .slice M9 m9 d9, .slice E9 k9 g9]) w5 _ from ⟨A9, n9, c9, s9, M9, m9, d9, E9, k9, g9, rfl, ha5, hf5⟩)
         have HB5 := Lib.hid (show Below w4.heap.size w4 w5 by first | exact R2.out.trans (hb5.mono R2.out.size) | exact R3.out.trans (hb5.mono R3.out.size) | exact R6.out.trans (hb5.mono R6.out.size) | exact R7.out.trans (hb5.mono R7.out.size) | exact R8.out.trans (hb5.mono R8.out.size) | exact R9.out.trans (hb5.mono R9.out.size))
         obtain ⟨u100, u101, u102, u103, u110, u111, u112, u113, u120, u121, u122, u123⟩ := HCx.out _ HB5.out
         try (have hq : Row w5 (w4.heap.size + 1) 34 [.slice none 0 0, .int .i64 0, .slice none 0 0, .slice none 0 0] := by first | exact Row.below (row_new2 w4 _ [.slice none 0 0, .int .i64 0, .slice none 0 0, .slice none 0 0] 34) hb5 (by simp) | exact Row.below (row_drew6 (row_new2 w4 _ [.slice none 0 0, .int .i64 0, .slice none 0 0, .slice none 0 0] 34)) hb5 (by simp)
              have HQA := Lib.hid hq; have y0 := hq.cell 0 rfl; have y1 := hq.cell 1 rfl; have y2 := hq.cell 2 rfl; have y3 := hq.cell 3 rfl; have z0 := hq.frozen 0; have z1 := hq.frozen 1; have z2 := hq.frozen 2; have z3 := hq.frozen 3; clear hq)
         try (have hq : Row w5 w4.heap.size 34 [.slice none 0 0, .int .i64 0, .slice none 0 0, .slice none 0 0] := by first | exact Row.below ((Row.new w4 [.slice none 0 0, .int .i64 0, .slice none 0 0, .slice none 0 0] 34).alloc (.cells #[.slice A10 n10 c10, .int .i64 s10, .slice M10 m10 d10, .slice E10 k10 g10, .slice A11 n11 c11, .int .i64 s11, .slice M11 m11 d11, .slice E11 k11 g11, .slice A12 n12 c12, .int .i64 s12, .slice M12 m12 d12, .slice E12 k12 g12] 34)) hb5 (by simp; omega) | exact Row.below (row_drew6 ((Row.new w4 [.slice none 0 0, .int .i64 0, .slice none 0 0, .slice none 0 0] 34).alloc (.cells #[.slice A10 n10 c10, .int .i64 s10, .slice M10 m10 d10, .slice E10 k10 g10, .slice A11 n11 c11, .int .i64 s11, .slice M11 m11 d11, .slice E11 k11 g11, .slice A12 n12 c12, .int .i64 s12, .slice M12 m12 d12, .slice E12 k12 g12] 34))) hb5 (by simp; omega)
              have HQB := Lib.hid hq; have y0 := hq.cell 0 rfl; have y1 := hq.cell 1 rfl; have y2 := hq.cell 2 rfl; have y3 := hq.cell 3 rfl; have z0 := hq.frozen 0; have z1 := hq.frozen 1; have z2 := hq.frozen 2; have z3 := hq.frozen 3; clear hq)
         clear hb5 ha5 hf5))
    all_goals
      go_wp2_with fail
      go_meet
      case rel => exact ⟨by first | exact box_1 HB5.out HAF.out | exact box_2 HB5.out HQA.out HAF.out (by simp) (Nat.le_succ _) | exact box_2 HB5.out HQB.out HAF.out (by simp; omega) (Nat.le_refl _) | exact BoxR.drew (box_1 HB5.out HAF.out) | exact BoxR.drew (box_2 HB5.out HQA.out HAF.out (by simp) (Nat.le_succ _)) | exact BoxR.drew (box_2 HB5.out HQB.out HAF.out (by simp; omega) (Nat.le_refl _)), rfl⟩
  case rest =>
    clear HCx HCo R0 R1 R2 R3 R4 R5 R6 R7 R8 R9 K2 K3 K6 K7 K8 K9
    obtain ⟨⟨b_B10, A20, n20, c20, s20, M20, m20, d20, E20, k20, g20, rfl, B10, HA20, hbx⟩, rfl⟩ := hcut
    have hb := hbx.out
    have HB := Lib.hid (HB.out.trans (hb.mono HB.out.size))
    have HAS := Lib.hid ((HAS.out.below hb (Nat.le_refl _)).more hb.size)
    have HA0 := Lib.hid ((HA0.out.below hb (Nat.le_refl _)).more hb.size)
    have HA1 := Lib.hid ((HA1.out.below hb (Nat.le_refl _)).more hb.size)
    have HA2 := Lib.hid ((HA2.out.below hb (Nat.le_refl _)).more hb.size)
    have HBW := Lib.hid (HBW.out.trans (hb.mono HBW.out.size))
    have HA6 := Lib.hid ((HA6.out.below hb (Nat.le_refl _)).more hb.size)
    have B6 := Lib.hid (B6.out.below hb B6.out.lt)
    clear hb
    clear hbx
    clear u100 u101 u102 u103 u110 u111 u112 u113 u120 u121 u122 u123 i0 i4 k0' k4 j0 j4 w8 w9 i3 k3 j3 HXI HXK HXJ HIE HKE HJE HA10 HA11 HA12 HS6
    obtain ⟨⟨p0, p1, p2, p3, p4, p5, p6, p7⟩, p8, p9, p10, p11⟩ := HCC.out _ HBW.out
    have hbl5 : bl < wc.heap.size := Nat.lt_of_lt_of_le hbl HBW.out.size
    go_wp2_with fail
    have HCx := Lib.hid (fun W' (hW : Below wc.heap.size wc W') => (⟨(hW.cell (p := ⟨bl, ol, none⟩) hbl5).trans p0, (hW.cell (p := ⟨bl, ol + 1, none⟩) hbl5).trans p1, (hW.cell (p := ⟨bl, ol + 2, none⟩) hbl5).trans p2, (hW.cell (p := ⟨bl, ol + 3, none⟩) hbl5).trans p3, (hW.cell (p := ⟨bl, ol + 4, none⟩) hbl5).trans p4, (hW.cell (p := ⟨bl, ol + 4 + 1, none⟩) hbl5).trans p5, (hW.cell (p := ⟨bl, ol + 4 + 2, none⟩) hbl5).trans p6, (hW.cell (p := ⟨bl, ol + 4 + 3, none⟩) hbl5).trans p7⟩ : W'.cell? ⟨bl, ol, none⟩ = some (.slice A0 n0 c0) ∧ W'.cell? ⟨bl, ol + 1, none⟩ = some (.int .i64 s0) ∧ W'.cell? ⟨bl, ol + 2, none⟩ = some (.slice M0 m0 d0) ∧ W'.cell? ⟨bl, ol + 3, none⟩ = some (.slice E0 k0 g0) ∧ W'.cell? ⟨bl, ol + 4, none⟩ = some (.slice A1 n1 c1) ∧ W'.cell? ⟨bl, ol + 4 + 1, none⟩ = some (.int .i64 s1) ∧ W'.cell? ⟨bl, ol + 4 + 2, none⟩ = some (.slice M1 m1 d1) ∧ W'.cell? ⟨bl, ol + 4 + 3, none⟩ = some (.slice E1 k1 g1)))
    have HCo := Lib.hid (fun W' bg (hW : Below wc.heap.size wc W') (hr : Row W' bg 34 [.slice A0 n0 c0, .int .i64 s0, .slice M0 m0 d0, .slice E0 k0 g0, .slice A1 n1 c1, .int .i64 s1, .slice M1 m1 d1, .slice E1 k1 g1]) => g_compF (Al := some ⟨bg, 0, none⟩) (nl := 2) (cl := 2) (rds_two hr (row_at (hr.cell 0 rfl) (hr.cell 1 rfl) (hr.cell 2 rfl) (hr.cell 3 rfl) ((HA0.out.below hW (Nat.le_refl _)).more hW.size)) (row_at (hr.cell 4 rfl) (hr.cell 5 rfl) (hr.cell 6 rfl) (hr.cell 7 rfl) ((HA1.out.below hW (Nat.le_refl _)).more hW.size))) rfl HS2.out)
    have R0 := Lib.hid (Below.refl wc.heap.size wc)
    have R1 := Lib.hid ((Below.refl wc.heap.size wc).drew)
    have R2 := Lib.hid ((Below.refl wc.heap.size wc).alloc (Nat.le_refl _) (.cells #[.slice A0 n0 c0, .int .i64 s0, .slice M0 m0 d0, .slice E0 k0 g0, .slice A1 n1 c1, .int .i64 s1, .slice M1 m1 d1, .slice E1 k1 g1] 34))
    have R3 := Lib.hid (((Below.refl wc.heap.size wc).alloc (Nat.le_refl _) (.cells #[.slice A0 n0 c0, .int .i64 s0, .slice M0 m0 d0, .slice E0 k0 g0, .slice A1 n1 c1, .int .i64 s1, .slice M1 m1 d1, .slice E1 k1 g1] 34)).drew)
    have R4 := Lib.hid ((Below.refl wc.heap.size wc).alloc (Nat.le_refl _) (.cells #[.slice none 0 0, .int .i64 0, .slice none 0 0, .slice none 0 0] 34))
    have R5 := Lib.hid (((Below.refl wc.heap.size wc).alloc (Nat.le_refl _) (.cells #[.slice none 0 0, .int .i64 0, .slice none 0 0, .slice none 0 0] 34)).drew)
    have R6 := Lib.hid (((Below.refl wc.heap.size wc).alloc (Nat.le_refl _) (.cells #[.slice A0 n0 c0, .int .i64 s0, .slice M0 m0 d0, .slice E0 k0 g0, .slice A1 n1 c1, .int .i64 s1, .slice M1 m1 d1, .slice E1 k1 g1] 34)).alloc (by simp) (.cells #[.slice none 0 0, .int .i64 0, .slice none 0 0, .slice none 0 0] 34))
    have R7 := Lib.hid ((((Below.refl wc.heap.size wc).alloc (Nat.le_refl _) (.cells #[.slice A0 n0 c0, .int .i64 s0, .slice M0 m0 d0, .slice E0 k0 g0, .slice A1 n1 c1, .int .i64 s1, .slice M1 m1 d1, .slice E1 k1 g1] 34)).alloc (by simp) (.cells #[.slice none 0 0, .int .i64 0, .slice none 0 0, .slice none 0 0] 34)).drew)
    have R8 := Lib.hid (((Below.refl wc.heap.size wc).alloc (Nat.le_refl _) (.cells #[.slice none 0 0, .int .i64 0, .slice none 0 0, .slice none 0 0] 34)).alloc (by simp) (.cells #[.slice A0 n0 c0, .int .i64 s0, .slice M0 m0 d0, .slice E0 k0 g0, .slice A1 n1 c1, .int .i64 s1, .slice M1 m1 d1, .slice E1 k1 g1] 34))
    have R9 := Lib.hid ((((Below.refl wc.heap.size wc).alloc (Nat.le_refl _) (.cells #[.slice none 0 0, .int .i64 0, .slice none 0 0, .slice none 0 0] 34)).alloc (by simp) (.cells #[.slice A0 n0 c0, .int .i64 s0, .slice M0 m0 d0, .slice E0 k0 g0, .slice A1 n1 c1, .int .i64 s1, .slice M1 m1 d1, .slice E1 k1 g1] 34)).drew)
    have K2 := Lib.hid (HCo.out _ _ R2.out (Row.new wc [.slice A0 n0 c0, .int .i64 s0, .slice M0 m0 d0, .slice E0 k0 g0, .slice A1 n1 c1, .int .i64 s1, .slice M1 m1 d1, .slice E1 k1 g1] 34))
    have K3 := Lib.hid (HCo.out _ _ R3.out (row_drew6 (Row.new wc [.slice A0 n0 c0, .int .i64 s0, .slice M0 m0 d0, .slice E0 k0 g0, .slice A1 n1 c1, .int .i64 s1, .slice M1 m1 d1, .slice E1 k1 g1] 34)))
    have K6 := Lib.hid (HCo.out _ _ R6.out ((Row.new wc [.slice A0 n0 c0, .int .i64 s0, .slice M0 m0 d0, .slice E0 k0 g0, .slice A1 n1 c1, .int .i64 s1, .slice M1 m1 d1, .slice E1 k1 g1] 34).alloc _))
    have K7 := Lib.hid (HCo.out _ _ R7.out (row_drew6 ((Row.new wc [.slice A0 n0 c0, .int .i64 s0, .slice M0 m0 d0, .slice E0 k0 g0, .slice A1 n1 c1, .int .i64 s1, .slice M1 m1 d1, .slice E1 k1 g1] 34).alloc _)))
    have K8 := Lib.hid (HCo.out _ _ R8.out (row_new2 wc _ [.slice A0 n0 c0, .int .i64 s0, .slice M0 m0 d0, .slice E0 k0 g0, .slice A1 n1 c1, .int .i64 s1, .slice M1 m1 d1, .slice E1 k1 g1] 34))
    have K9 := Lib.hid (HCo.out _ _ R9.out (row_drew6 (row_new2 wc _ [.slice A0 n0 c0, .int .i64 s0, .slice M0 m0 d0, .slice E0 k0 g0, .slice A1 n1 c1, .int .i64 s1, .slice M1 m1 d1, .slice E1 k1 g1] 34)))
    go_upto_region 8 with fail
    go_cut [12, 13] from 60 to 70 (fun pv ev wx => BoxR wc pl pv wx ∧ ev = .int .i64 0)
    case first =>
      go_region_held3 (fun w' => w'.cell? ⟨bl, ol, none⟩ = some (.slice A0 n0 c0) ∧ w'.cell? ⟨bl, ol + 1, none⟩ = some (.int .i64 s0) ∧ w'.cell? ⟨bl, ol + 2, none⟩ = some (.slice M0 m0 d0) ∧ w'.cell? ⟨bl, ol + 3, none⟩ = some (.slice E0 k0 g0) ∧ w'.cell? ⟨bl, ol + 4, none⟩ = some (.slice A1 n1 c1) ∧ w'.cell? ⟨bl, ol + 4 + 1, none⟩ = some (.int .i64 s1) ∧ w'.cell? ⟨bl, ol + 4 + 2, none⟩ = some (.slice M1 m1 d1) ∧ w'.cell? ⟨bl, ol + 4 + 3, none⟩ = some (.slice E1 k1 g1)) (first | with_reducible exact ⟨p0, p1, p2, p3, p4, p5, p6, p7⟩ | with_reducible exact HCx.out _ R0.out | with_reducible exact HCx.out _ R1.out | with_reducible exact HCx.out _ R2.out | with_reducible exact HCx.out _ R3.out | with_reducible exact HCx.out _ R4.out | with_reducible exact HCx.out _ R5.out | with_reducible exact HCx.out _ R6.out | with_reducible exact HCx.out _ R7.out | with_reducible exact HCx.out _ R8.out | with_reducible exact HCx.out _ R9.out | with_reducible exact HCx.out _ HB5.out | with_reducible exact HCx.out _ HB5.out.drew | with_reducible exact HCx.out _ (HB5.out.alloc HB5.out.size _) | with_reducible exact HCx.out _ (below_set4 HB5.out (by omega) _ _ _ _) | with_reducible exact HCx.out _ (below_set4 (HB5.out.alloc HB5.out.size _) HB5.out.size _ _ _ _) | go_keep)
        (first
        | (go_simp; go_at_call 21; (first | with_reducible refine K2.out.mono ?_ | with_reducible refine K3.out.mono ?_ | with_reducible refine K6.out.mono ?_ | with_reducible refine K7.out.mono ?_ | with_reducible refine K8.out.mono ?_ | with_reducible refine K9.out.mono ?_); rintro e w5 ⟨v5, rfl, ⟨A9, n9, c9, s9, M9, m9, d9, E9, k9, g9, rfl, ha5, hf5⟩, hb5⟩
           have HAF := Lib.hid (show AuF pl (.agg #[.slice A9 n9 c9, .int .i64 s9, .slice M9 m9 d9, .slice E9 k9 g9]) w5 _ from ⟨A9, n9, c9, s9, M9, m9, d9, E9, k9, g9, rfl, ha5, hf5⟩)
           have HB5 := Lib.hid (show Below wc.heap.size wc w5 by first | exact R2.out.trans (hb5.mono R2.out.size) | exact R3.out.trans (hb5.mono R3.out.size) | exact R6.out.trans (hb5.mono R6.out.size) | exact R7.out.trans (hb5.mono R7.out.size) | exact R8.out.trans (hb5.mono R8.out.size) | exact R9.out.trans (hb5.mono R9.out.size))
           obtain ⟨p0, p1, p2, p3, p4, p5, p6, p7⟩ := HCx.out _ HB5.out
           try (have hq : Row w5 (wc.heap.size + 1) 34 [.slice none 0 0, .int .i64 0, .slice none 0 0, .slice none 0 0] := by first | exact Row.below (row_new2 wc _ [.slice none 0 0, .int .i64 0, .slice none 0 0, .slice none 0 0] 34) hb5 (by simp) | exact Row.below (row_drew6 (row_new2 wc _ [.slice none 0 0, .int .i64 0, .slice none 0 0, .slice none 0 0] 34)) hb5 (by simp)
                have HQA := Lib.hid hq; have y0 := hq.cell 0 rfl; have y1 := hq.cell 1 rfl; have y2 := hq.cell 2 rfl; have y3 := hq.cell 3 rfl; have z0 := hq.frozen 0; have z1 := hq.frozen 1; have z2 := hq.frozen 2; have z3 := hq.frozen 3; clear hq)
           try (have hq : Row w5 wc.heap.size 34 [.slice none 0 0, .int .i64 0, .slice none 0 0, .slice none 0 0] := by first | exact Row.below ((Row.new wc [.slice none 0 0, .int .i64 0, .slice none 0 0, .slice none 0 0] 34).alloc (.cells #[.slice A0 n0 c0, .int .i64 s0, .slice M0 m0 d0, .slice E0 k0 g0, .slice A1 n1 c1, .int .i64 s1, .slice M1 m1 d1, .slice E1 k1 g1] 34)) hb5 (by simp; omega) | exact Row.below (row_drew6 ((Row.new wc [.slice none 0 0, .int .i64 0, .slice none 0 0, .slice none 0 0] 34).alloc (.cells #[.slice A0 n0 c0, .int .i64 s0, .slice M0 m0 d0, .slice E0 k0 g0, .slice A1 n1 c1, .int .i64 s1, .slice M1 m1 d1, .slice E1 k1 g1] 34))) hb5 (by simp; omega)
                have HQB := Lib.hid hq; have y0 := hq.cell 0 rfl; have y1 := hq.cell 1 rfl; have y2 := hq.cell 2 rfl; have y3 := hq.cell 3 rfl; have z0 := hq.frozen 0; have z1 := hq.frozen 1; have z2 := hq.frozen 2; have z3 := hq.frozen 3; clear hq)
           clear hb5 ha5 hf5))
      all_goals
        go_wp2_with fail
        go_meet
        case rel => exact ⟨by first | exact box_1 HB5.out HAF.out | exact box_2 HB5.out HQA.out HAF.out (by simp) (Nat.le_succ _) | exact box_2 HB5.out HQB.out HAF.out (by simp; omega) (Nat.le_refl _) | exact BoxR.drew (box_1 HB5.out HAF.out) | exact BoxR.drew (box_2 HB5.out HQA.out HAF.out (by simp) (Nat.le_succ _)) | exact BoxR.drew (box_2 HB5.out HQB.out HAF.out (by simp; omega) (Nat.le_refl _)), rfl⟩
    case rest =>
      clear HCx HCo R0 R1 R2 R3 R4 R5 R6 R7 R8 R9 K2 K3 K6 K7 K8 K9
      obtain ⟨⟨b_B12, A21, n21, c21, s21, M21, m21, d21, E21, k21, g21, rfl, B12, HA21, hbx⟩, rfl⟩ := hcut
      have hb := hbx.out
      have HB := Lib.hid (HB.out.trans (hb.mono HB.out.size))
      have HAS := Lib.hid ((HAS.out.below hb (Nat.le_refl _)).more hb.size)
      have HA0 := Lib.hid ((HA0.out.below hb (Nat.le_refl _)).more hb.size)
      have HA1 := Lib.hid ((HA1.out.below hb (Nat.le_refl _)).more hb.size)
      have HA2 := Lib.hid ((HA2.out.below hb (Nat.le_refl _)).more hb.size)
      have HBW := Lib.hid (HBW.out.trans (hb.mono HBW.out.size))
      have HA6 := Lib.hid ((HA6.out.below hb (Nat.le_refl _)).more hb.size)
      have B6 := Lib.hid (B6.out.below hb B6.out.lt)
      have B10 := Lib.hid (B10.out.below hb B10.out.lt)
      have HA20 := Lib.hid ((HA20.out.below hb (Nat.le_refl _)).more hb.size)
      clear hb
      clear hbx
      clear p0 p1 p2 p3 p4 p5 p6 p7 p8 p9 p10 p11 hbl5
      obtain ⟨⟨p0, p1, p2, p3, p4, p5, p6, p7⟩, p8, p9, p10, p11⟩ := HCC.out _ HBW.out
      have hbl5 : bl < wc.heap.size := Nat.lt_of_lt_of_le hbl HBW.out.size
      go_wp2_with fail
      have HCx := Lib.hid (fun W' (hW : Below wc.heap.size wc W') => (⟨(hW.cell (p := ⟨bl, ol + 4, none⟩) hbl5).trans p4, (hW.cell (p := ⟨bl, ol + 4 + 1, none⟩) hbl5).trans p5, (hW.cell (p := ⟨bl, ol + 4 + 2, none⟩) hbl5).trans p6, (hW.cell (p := ⟨bl, ol + 4 + 3, none⟩) hbl5).trans p7, (hW.cell (p := ⟨bl, ol + 8, none⟩) hbl5).trans p8, (hW.cell (p := ⟨bl, ol + 8 + 1, none⟩) hbl5).trans p9, (hW.cell (p := ⟨bl, ol + 8 + 2, none⟩) hbl5).trans p10, (hW.cell (p := ⟨bl, ol + 8 + 3, none⟩) hbl5).trans p11⟩ : W'.cell? ⟨bl, ol + 4, none⟩ = some (.slice A1 n1 c1) ∧ W'.cell? ⟨bl, ol + 4 + 1, none⟩ = some (.int .i64 s1) ∧ W'.cell? ⟨bl, ol + 4 + 2, none⟩ = some (.slice M1 m1 d1) ∧ W'.cell? ⟨bl, ol + 4 + 3, none⟩ = some (.slice E1 k1 g1) ∧ W'.cell? ⟨bl, ol + 8, none⟩ = some (.slice A2 n2 c2) ∧ W'.cell? ⟨bl, ol + 8 + 1, none⟩ = some (.int .i64 s2) ∧ W'.cell? ⟨bl, ol + 8 + 2, none⟩ = some (.slice M2 m2 d2) ∧ W'.cell? ⟨bl, ol + 8 + 3, none⟩ = some (.slice E2 k2 g2)))
      have HCo := Lib.hid (fun W' bg (hW : Below wc.heap.size wc W') (hr : Row W' bg 34 [.slice A1 n1 c1, .int .i64 s1, .slice M1 m1 d1, .slice E1 k1 g1, .slice A2 n2 c2, .int .i64 s2, .slice M2 m2 d2, .slice E2 k2 g2]) => g_compF (Al := some ⟨bg, 0, none⟩) (nl := 2) (cl := 2) (rds_two hr (row_at (hr.cell 0 rfl) (hr.cell 1 rfl) (hr.cell 2 rfl) (hr.cell 3 rfl) ((HA1.out.below hW (Nat.le_refl _)).more hW.size)) (row_at (hr.cell 4 rfl) (hr.cell 5 rfl) (hr.cell 6 rfl) (hr.cell 7 rfl) ((HA2.out.below hW (Nat.le_refl _)).more hW.size))) rfl HS3.out)
      have R0 := Lib.hid (Below.refl wc.heap.size wc)
      have R1 := Lib.hid ((Below.refl wc.heap.size wc).drew)
      have R2 := Lib.hid ((Below.refl wc.heap.size wc).alloc (Nat.le_refl _) (.cells #[.slice A1 n1 c1, .int .i64 s1, .slice M1 m1 d1, .slice E1 k1 g1, .slice A2 n2 c2, .int .i64 s2, .slice M2 m2 d2, .slice E2 k2 g2] 34))
      have R3 := Lib.hid (((Below.refl wc.heap.size wc).alloc (Nat.le_refl _) (.cells #[.slice A1 n1 c1, .int .i64 s1, .slice M1 m1 d1, .slice E1 k1 g1, .slice A2 n2 c2, .int .i64 s2, .slice M2 m2 d2, .slice E2 k2 g2] 34)).drew)
      have R4 := Lib.hid ((Below.refl wc.heap.size wc).alloc (Nat.le_refl _) (.cells #[.slice none 0 0, .int .i64 0, .slice none 0 0, .slice none 0 0] 34))
      have R5 := Lib.hid (((Below.refl wc.heap.size wc).alloc (Nat.le_refl _) (.cells #[.slice none 0 0, .int .i64 0, .slice none 0 0, .slice none 0 0] 34)).drew)
      have R6 := Lib.hid (((Below.refl wc.heap.size wc).alloc (Nat.le_refl _) (.cells #[.slice A1 n1 c1, .int .i64 s1, .slice M1 m1 d1, .slice E1 k1 g1, .slice A2 n2 c2, .int .i64 s2, .slice M2 m2 d2, .slice E2 k2 g2] 34)).alloc (by simp) (.cells #[.slice none 0 0, .int .i64 0, .slice none 0 0, .slice none 0 0] 34))
      have R7 := Lib.hid ((((Below.refl wc.heap.size wc).alloc (Nat.le_refl _) (.cells #[.slice A1 n1 c1, .int .i64 s1, .slice M1 m1 d1, .slice E1 k1 g1, .slice A2 n2 c2, .int .i64 s2, .slice M2 m2 d2, .slice E2 k2 g2] 34)).alloc (by simp) (.cells #[.slice none 0 0, .int .i64 0, .slice none 0 0, .slice none 0 0] 34)).drew)
      have R8 := Lib.hid (((Below.refl wc.heap.size wc).alloc (Nat.le_refl _) (.cells #[.slice none 0 0, .int .i64 0, .slice none 0 0, .slice none 0 0] 34)).alloc (by simp) (.cells #[.slice A1 n1 c1, .int .i64 s1, .slice M1 m1 d1, .slice E1 k1 g1, .slice A2 n2 c2, .int .i64 s2, .slice M2 m2 d2, .slice E2 k2 g2] 34))
      have R9 := Lib.hid ((((Below.refl wc.heap.size wc).alloc (Nat.le_refl _) (.cells #[.slice none 0 0, .int .i64 0, .slice none 0 0, .slice none 0 0] 34)).alloc (by simp) (.cells #[.slice A1 n1 c1, .int .i64 s1, .slice M1 m1 d1, .slice E1 k1 g1, .slice A2 n2 c2, .int .i64 s2, .slice M2 m2 d2, .slice E2 k2 g2] 34)).drew)
      have K2 := Lib.hid (HCo.out _ _ R2.out (Row.new wc [.slice A1 n1 c1, .int .i64 s1, .slice M1 m1 d1, .slice E1 k1 g1, .slice A2 n2 c2, .int .i64 s2, .slice M2 m2 d2, .slice E2 k2 g2] 34))
      have K3 := Lib.hid (HCo.out _ _ R3.out (row_drew6 (Row.new wc [.slice A1 n1 c1, .int .i64 s1, .slice M1 m1 d1, .slice E1 k1 g1, .slice A2 n2 c2, .int .i64 s2, .slice M2 m2 d2, .slice E2 k2 g2] 34)))
      have K6 := Lib.hid (HCo.out _ _ R6.out ((Row.new wc [.slice A1 n1 c1, .int .i64 s1, .slice M1 m1 d1, .slice E1 k1 g1, .slice A2 n2 c2, .int .i64 s2, .slice M2 m2 d2, .slice E2 k2 g2] 34).alloc _))
      have K7 := Lib.hid (HCo.out _ _ R7.out (row_drew6 ((Row.new wc [.slice A1 n1 c1, .int .i64 s1, .slice M1 m1 d1, .slice E1 k1 g1, .slice A2 n2 c2, .int .i64 s2, .slice M2 m2 d2, .slice E2 k2 g2] 34).alloc _)))
      have K8 := Lib.hid (HCo.out _ _ R8.out (row_new2 wc _ [.slice A1 n1 c1, .int .i64 s1, .slice M1 m1 d1, .slice E1 k1 g1, .slice A2 n2 c2, .int .i64 s2, .slice M2 m2 d2, .slice E2 k2 g2] 34))
      have K9 := Lib.hid (HCo.out _ _ R9.out (row_drew6 (row_new2 wc _ [.slice A1 n1 c1, .int .i64 s1, .slice M1 m1 d1, .slice E1 k1 g1, .slice A2 n2 c2, .int .i64 s2, .slice M2 m2 d2, .slice E2 k2 g2] 34)))
      go_upto_region 9 with fail
      go_cut [14, 15] from 71 to 81 (fun pv ev wx => BoxR wc pr pv wx ∧ ev = .int .i64 0)
      case first =>
        go_region_held3 (fun w' => w'.cell? ⟨bl, ol + 4, none⟩ = some (.slice A1 n1 c1) ∧ w'.cell? ⟨bl, ol + 4 + 1, none⟩ = some (.int .i64 s1) ∧ w'.cell? ⟨bl, ol + 4 + 2, none⟩ = some (.slice M1 m1 d1) ∧ w'.cell? ⟨bl, ol + 4 + 3, none⟩ = some (.slice E1 k1 g1) ∧ w'.cell? ⟨bl, ol + 8, none⟩ = some (.slice A2 n2 c2) ∧ w'.cell? ⟨bl, ol + 8 + 1, none⟩ = some (.int .i64 s2) ∧ w'.cell? ⟨bl, ol + 8 + 2, none⟩ = some (.slice M2 m2 d2) ∧ w'.cell? ⟨bl, ol + 8 + 3, none⟩ = some (.slice E2 k2 g2)) (first | with_reducible exact ⟨p4, p5, p6, p7, p8, p9, p10, p11⟩ | with_reducible exact HCx.out _ R0.out | with_reducible exact HCx.out _ R1.out | with_reducible exact HCx.out _ R2.out | with_reducible exact HCx.out _ R3.out | with_reducible exact HCx.out _ R4.out | with_reducible exact HCx.out _ R5.out | with_reducible exact HCx.out _ R6.out | with_reducible exact HCx.out _ R7.out | with_reducible exact HCx.out _ R8.out | with_reducible exact HCx.out _ R9.out | with_reducible exact HCx.out _ HB5.out | with_reducible exact HCx.out _ HB5.out.drew | with_reducible exact HCx.out _ (HB5.out.alloc HB5.out.size _) | with_reducible exact HCx.out _ (below_set4 HB5.out (by omega) _ _ _ _) | with_reducible exact HCx.out _ (below_set4 (HB5.out.alloc HB5.out.size _) HB5.out.size _ _ _ _) | go_keep)
          (first
          | (go_simp; go_at_call 21; (first | with_reducible refine K2.out.mono ?_ | with_reducible refine K3.out.mono ?_ | with_reducible refine K6.out.mono ?_ | with_reducible refine K7.out.mono ?_ | with_reducible refine K8.out.mono ?_ | with_reducible refine K9.out.mono ?_); rintro e w5 ⟨v5, rfl, ⟨A9, n9, c9, s9, M9, m9, d9, E9, k9, g9, rfl, ha5, hf5⟩, hb5⟩
             have HAF := Lib.hid (show AuF pr (.agg #[.slice A9 n9 c9, .int .i64 s9, .slice M9 m9 d9, .slice E9 k9 g9]) w5 _ from ⟨A9, n9, c9, s9, M9, m9, d9, E9, k9, g9, rfl, ha5, hf5⟩)
             have HB5 := Lib.hid (show Below wc.heap.size wc w5 by first | exact R2.out.trans (hb5.mono R2.out.size) | exact R3.out.trans (hb5.mono R3.out.size) | exact R6.out.trans (hb5.mono R6.out.size) | exact R7.out.trans (hb5.mono R7.out.size) | exact R8.out.trans (hb5.mono R8.out.size) | exact R9.out.trans (hb5.mono R9.out.size))
             obtain ⟨p4, p5, p6, p7, p8, p9, p10, p11⟩ := HCx.out _ HB5.out
             try (have hq : Row w5 (wc.heap.size + 1) 34 [.slice none 0 0, .int .i64 0, .slice none 0 0, .slice none 0 0] := by first | exact Row.below (row_new2 wc _ [.slice none 0 0, .int .i64 0, .slice none 0 0, .slice none 0 0] 34) hb5 (by simp) | exact Row.below (row_drew6 (row_new2 wc _ [.slice none 0 0, .int .i64 0, .slice none 0 0, .slice none 0 0] 34)) hb5 (by simp)
                  have HQA := Lib.hid hq; have y0 := hq.cell 0 rfl; have y1 := hq.cell 1 rfl; have y2 := hq.cell 2 rfl; have y3 := hq.cell 3 rfl; have z0 := hq.frozen 0; have z1 := hq.frozen 1; have z2 := hq.frozen 2; have z3 := hq.frozen 3; clear hq)
             try (have hq : Row w5 wc.heap.size 34 [.slice none 0 0, .int .i64 0, .slice none 0 0, .slice none 0 0] := by first | exact Row.below ((Row.new wc [.slice none 0 0, .int .i64 0, .slice none 0 0, .slice none 0 0] 34).alloc (.cells #[.slice A1 n1 c1, .int .i64 s1, .slice M1 m1 d1, .slice E1 k1 g1, .slice A2 n2 c2, .int .i64 s2, .slice M2 m2 d2, .slice E2 k2 g2] 34)) hb5 (by simp; omega) | exact Row.below (row_drew6 ((Row.new wc [.slice none 0 0, .int .i64 0, .slice none 0 0, .slice none 0 0] 34).alloc (.cells #[.slice A1 n1 c1, .int .i64 s1, .slice M1 m1 d1, .slice E1 k1 g1, .slice A2 n2 c2, .int .i64 s2, .slice M2 m2 d2, .slice E2 k2 g2] 34))) hb5 (by simp; omega)
                  have HQB := Lib.hid hq; have y0 := hq.cell 0 rfl; have y1 := hq.cell 1 rfl; have y2 := hq.cell 2 rfl; have y3 := hq.cell 3 rfl; have z0 := hq.frozen 0; have z1 := hq.frozen 1; have z2 := hq.frozen 2; have z3 := hq.frozen 3; clear hq)
             clear hb5 ha5 hf5))
        all_goals
          go_wp2_with fail
          go_meet
          case rel => exact ⟨by first | exact box_1 HB5.out HAF.out | exact box_2 HB5.out HQA.out HAF.out (by simp) (Nat.le_succ _) | exact box_2 HB5.out HQB.out HAF.out (by simp; omega) (Nat.le_refl _) | exact BoxR.drew (box_1 HB5.out HAF.out) | exact BoxR.drew (box_2 HB5.out HQA.out HAF.out (by simp) (Nat.le_succ _)) | exact BoxR.drew (box_2 HB5.out HQB.out HAF.out (by simp; omega) (Nat.le_refl _)), rfl⟩
      case rest =>
        clear HCx HCo R0 R1 R2 R3 R4 R5 R6 R7 R8 R9 K2 K3 K6 K7 K8 K9
        obtain ⟨⟨b_B14, A22, n22, c22, s22, M22, m22, d22, E22, k22, g22, rfl, B14, HA22, hbx⟩, rfl⟩ := hcut
        have hb := hbx.out
        have HB := Lib.hid (HB.out.trans (hb.mono HB.out.size))
        have HAS := Lib.hid ((HAS.out.below hb (Nat.le_refl _)).more hb.size)
        have HA0 := Lib.hid ((HA0.out.below hb (Nat.le_refl _)).more hb.size)
        have HA1 := Lib.hid ((HA1.out.below hb (Nat.le_refl _)).more hb.size)
        have HA2 := Lib.hid ((HA2.out.below hb (Nat.le_refl _)).more hb.size)
        have HBW := Lib.hid (HBW.out.trans (hb.mono HBW.out.size))
        have HA6 := Lib.hid ((HA6.out.below hb (Nat.le_refl _)).more hb.size)
        have B6 := Lib.hid (B6.out.below hb B6.out.lt)
        have B10 := Lib.hid (B10.out.below hb B10.out.lt)
        have HA20 := Lib.hid ((HA20.out.below hb (Nat.le_refl _)).more hb.size)
        have B12 := Lib.hid (B12.out.below hb B12.out.lt)
        have HA21 := Lib.hid ((HA21.out.below hb (Nat.le_refl _)).more hb.size)
        clear hb
        clear hbx
        clear p0 p1 p2 p3 p4 p5 p6 p7 p8 p9 p10 p11 hbl5
        obtain ⟨⟨p0, p1, p2, p3, p4, p5, p6, p7⟩, p8, p9, p10, p11⟩ := HCC.out _ HBW.out
        have hbl5 : bl < wc.heap.size := Nat.lt_of_lt_of_le hbl HBW.out.size
        have qB120 := B12.out.cell 0 rfl
        have qB121 := B12.out.cell 1 rfl
        have qB122 := B12.out.cell 2 rfl
        have qB123 := B12.out.cell 3 rfl
        have qB12l := B12.out.lt
        go_wp2_with fail
        have HCx := Lib.hid (fun W' (hW : Below wc.heap.size wc W') => (⟨(hW.cell (p := ⟨b_B12, 0, none⟩) qB12l).trans qB120, (hW.cell (p := ⟨b_B12, 1, none⟩) qB12l).trans qB121, (hW.cell (p := ⟨b_B12, 2, none⟩) qB12l).trans qB122, (hW.cell (p := ⟨b_B12, 3, none⟩) qB12l).trans qB123, (hW.cell (p := ⟨bl, ol + 8, none⟩) hbl5).trans p8, (hW.cell (p := ⟨bl, ol + 8 + 1, none⟩) hbl5).trans p9, (hW.cell (p := ⟨bl, ol + 8 + 2, none⟩) hbl5).trans p10, (hW.cell (p := ⟨bl, ol + 8 + 3, none⟩) hbl5).trans p11⟩ : W'.cell? ⟨b_B12, 0, none⟩ = some (.slice A21 n21 c21) ∧ W'.cell? ⟨b_B12, 1, none⟩ = some (.int .i64 s21) ∧ W'.cell? ⟨b_B12, 2, none⟩ = some (.slice M21 m21 d21) ∧ W'.cell? ⟨b_B12, 3, none⟩ = some (.slice E21 k21 g21) ∧ W'.cell? ⟨bl, ol + 8, none⟩ = some (.slice A2 n2 c2) ∧ W'.cell? ⟨bl, ol + 8 + 1, none⟩ = some (.int .i64 s2) ∧ W'.cell? ⟨bl, ol + 8 + 2, none⟩ = some (.slice M2 m2 d2) ∧ W'.cell? ⟨bl, ol + 8 + 3, none⟩ = some (.slice E2 k2 g2)))
        have HCo := Lib.hid (fun W' bg (hW : Below wc.heap.size wc W') (hr : Row W' bg 34 [.slice A21 n21 c21, .int .i64 s21, .slice M21 m21 d21, .slice E21 k21 g21, .slice A2 n2 c2, .int .i64 s2, .slice M2 m2 d2, .slice E2 k2 g2]) => g_compF (Al := some ⟨bg, 0, none⟩) (nl := 2) (cl := 2) (rds_two hr (row_at (hr.cell 0 rfl) (hr.cell 1 rfl) (hr.cell 2 rfl) (hr.cell 3 rfl) ((HA21.out.below hW (Nat.le_refl _)).more hW.size)) (row_at (hr.cell 4 rfl) (hr.cell 5 rfl) (hr.cell 6 rfl) (hr.cell 7 rfl) ((HA2.out.below hW (Nat.le_refl _)).more hW.size))) rfl HS4.out)
        have R0 := Lib.hid (Below.refl wc.heap.size wc)
        have R1 := Lib.hid ((Below.refl wc.heap.size wc).drew)
        have R2 := Lib.hid ((Below.refl wc.heap.size wc).alloc (Nat.le_refl _) (.cells #[.slice A21 n21 c21, .int .i64 s21, .slice M21 m21 d21, .slice E21 k21 g21, .slice A2 n2 c2, .int .i64 s2, .slice M2 m2 d2, .slice E2 k2 g2] 34))
        have R3 := Lib.hid (((Below.refl wc.heap.size wc).alloc (Nat.le_refl _) (.cells #[.slice A21 n21 c21, .int .i64 s21, .slice M21 m21 d21, .slice E21 k21 g21, .slice A2 n2 c2, .int .i64 s2, .slice M2 m2 d2, .slice E2 k2 g2] 34)).drew)
        have R4 := Lib.hid ((Below.refl wc.heap.size wc).alloc (Nat.le_refl _) (.cells #[.slice none 0 0, .int .i64 0, .slice none 0 0, .slice none 0 0] 34))
        have R5 := Lib.hid (((Below.refl wc.heap.size wc).alloc (Nat.le_refl _) (.cells #[.slice none 0 0, .int .i64 0, .slice none 0 0, .slice none 0 0] 34)).drew)
        have R6 := Lib.hid (((Below.refl wc.heap.size wc).alloc (Nat.le_refl _) (.cells #[.slice A21 n21 c21, .int .i64 s21, .slice M21 m21 d21, .slice E21 k21 g21, .slice A2 n2 c2, .int .i64 s2, .slice M2 m2 d2, .slice E2 k2 g2] 34)).alloc (by simp) (.cells #[.slice none 0 0, .int .i64 0, .slice none 0 0, .slice none 0 0] 34))
        have R7 := Lib.hid ((((Below.refl wc.heap.size wc).alloc (Nat.le_refl _) (.cells #[.slice A21 n21 c21, .int .i64 s21, .slice M21 m21 d21, .slice E21 k21 g21, .slice A2 n2 c2, .int .i64 s2, .slice M2 m2 d2, .slice E2 k2 g2] 34)).alloc (by simp) (.cells #[.slice none 0 0, .int .i64 0, .slice none 0 0, .slice none 0 0] 34)).drew)
        have R8 := Lib.hid (((Below.refl wc.heap.size wc).alloc (Nat.le_refl _) (.cells #[.slice none 0 0, .int .i64 0, .slice none 0 0, .slice none 0 0] 34)).alloc (by simp) (.cells #[.slice A21 n21 c21, .int .i64 s21, .slice M21 m21 d21, .slice E21 k21 g21, .slice A2 n2 c2, .int .i64 s2, .slice M2 m2 d2, .slice E2 k2 g2] 34))
        have R9 := Lib.hid ((((Below.refl wc.heap.size wc).alloc (Nat.le_refl _) (.cells #[.slice none 0 0, .int .i64 0, .slice none 0 0, .slice none 0 0] 34)).alloc (by simp) (.cells #[.slice A21 n21 c21, .int .i64 s21, .slice M21 m21 d21, .slice E21 k21 g21, .slice A2 n2 c2, .int .i64 s2, .slice M2 m2 d2, .slice E2 k2 g2] 34)).drew)
        have K2 := Lib.hid (HCo.out _ _ R2.out (Row.new wc [.slice A21 n21 c21, .int .i64 s21, .slice M21 m21 d21, .slice E21 k21 g21, .slice A2 n2 c2, .int .i64 s2, .slice M2 m2 d2, .slice E2 k2 g2] 34))
        have K3 := Lib.hid (HCo.out _ _ R3.out (row_drew6 (Row.new wc [.slice A21 n21 c21, .int .i64 s21, .slice M21 m21 d21, .slice E21 k21 g21, .slice A2 n2 c2, .int .i64 s2, .slice M2 m2 d2, .slice E2 k2 g2] 34)))
        have K6 := Lib.hid (HCo.out _ _ R6.out ((Row.new wc [.slice A21 n21 c21, .int .i64 s21, .slice M21 m21 d21, .slice E21 k21 g21, .slice A2 n2 c2, .int .i64 s2, .slice M2 m2 d2, .slice E2 k2 g2] 34).alloc _))
        have K7 := Lib.hid (HCo.out _ _ R7.out (row_drew6 ((Row.new wc [.slice A21 n21 c21, .int .i64 s21, .slice M21 m21 d21, .slice E21 k21 g21, .slice A2 n2 c2, .int .i64 s2, .slice M2 m2 d2, .slice E2 k2 g2] 34).alloc _)))
        have K8 := Lib.hid (HCo.out _ _ R8.out (row_new2 wc _ [.slice A21 n21 c21, .int .i64 s21, .slice M21 m21 d21, .slice E21 k21 g21, .slice A2 n2 c2, .int .i64 s2, .slice M2 m2 d2, .slice E2 k2 g2] 34))
        have K9 := Lib.hid (HCo.out _ _ R9.out (row_drew6 (row_new2 wc _ [.slice A21 n21 c21, .int .i64 s21, .slice M21 m21 d21, .slice E21 k21 g21, .slice A2 n2 c2, .int .i64 s2, .slice M2 m2 d2, .slice E2 k2 g2] 34)))
        go_upto_region 10 with fail
        go_cut [16, 17] from 82 to 90 (fun pv ev wx => BoxR wc pa pv wx ∧ ev = .int .i64 0)
        case first =>
          go_region_held3 (fun w' => w'.cell? ⟨b_B12, 0, none⟩ = some (.slice A21 n21 c21) ∧ w'.cell? ⟨b_B12, 1, none⟩ = some (.int .i64 s21) ∧ w'.cell? ⟨b_B12, 2, none⟩ = some (.slice M21 m21 d21) ∧ w'.cell? ⟨b_B12, 3, none⟩ = some (.slice E21 k21 g21) ∧ w'.cell? ⟨bl, ol + 8, none⟩ = some (.slice A2 n2 c2) ∧ w'.cell? ⟨bl, ol + 8 + 1, none⟩ = some (.int .i64 s2) ∧ w'.cell? ⟨bl, ol + 8 + 2, none⟩ = some (.slice M2 m2 d2) ∧ w'.cell? ⟨bl, ol + 8 + 3, none⟩ = some (.slice E2 k2 g2)) (first | with_reducible exact ⟨qB120, qB121, qB122, qB123, p8, p9, p10, p11⟩ | with_reducible exact HCx.out _ R0.out | with_reducible exact HCx.out _ R1.out | with_reducible exact HCx.out _ R2.out | with_reducible exact HCx.out _ R3.out | with_reducible exact HCx.out _ R4.out | with_reducible exact HCx.out _ R5.out | with_reducible exact HCx.out _ R6.out | with_reducible exact HCx.out _ R7.out | with_reducible exact HCx.out _ R8.out | with_reducible exact HCx.out _ R9.out | with_reducible exact HCx.out _ HB5.out | with_reducible exact HCx.out _ HB5.out.drew | with_reducible exact HCx.out _ (HB5.out.alloc HB5.out.size _) | with_reducible exact HCx.out _ (below_set4 HB5.out (by omega) _ _ _ _) | with_reducible exact HCx.out _ (below_set4 (HB5.out.alloc HB5.out.size _) HB5.out.size _ _ _ _) | go_keep)
            (first
            | (go_simp; go_at_call 21; (first | with_reducible refine K2.out.mono ?_ | with_reducible refine K3.out.mono ?_ | with_reducible refine K6.out.mono ?_ | with_reducible refine K7.out.mono ?_ | with_reducible refine K8.out.mono ?_ | with_reducible refine K9.out.mono ?_); rintro e w5 ⟨v5, rfl, ⟨A9, n9, c9, s9, M9, m9, d9, E9, k9, g9, rfl, ha5, hf5⟩, hb5⟩
               have HAF := Lib.hid (show AuF pa (.agg #[.slice A9 n9 c9, .int .i64 s9, .slice M9 m9 d9, .slice E9 k9 g9]) w5 _ from ⟨A9, n9, c9, s9, M9, m9, d9, E9, k9, g9, rfl, ha5, hf5⟩)
               have HB5 := Lib.hid (show Below wc.heap.size wc w5 by first | exact R2.out.trans (hb5.mono R2.out.size) | exact R3.out.trans (hb5.mono R3.out.size) | exact R6.out.trans (hb5.mono R6.out.size) | exact R7.out.trans (hb5.mono R7.out.size) | exact R8.out.trans (hb5.mono R8.out.size) | exact R9.out.trans (hb5.mono R9.out.size))
               obtain ⟨qB120, qB121, qB122, qB123, p8, p9, p10, p11⟩ := HCx.out _ HB5.out
               try (have hq : Row w5 (wc.heap.size + 1) 34 [.slice none 0 0, .int .i64 0, .slice none 0 0, .slice none 0 0] := by first | exact Row.below (row_new2 wc _ [.slice none 0 0, .int .i64 0, .slice none 0 0, .slice none 0 0] 34) hb5 (by simp) | exact Row.below (row_drew6 (row_new2 wc _ [.slice none 0 0, .int .i64 0, .slice none 0 0, .slice none 0 0] 34)) hb5 (by simp)
                    have HQA := Lib.hid hq; have y0 := hq.cell 0 rfl; have y1 := hq.cell 1 rfl; have y2 := hq.cell 2 rfl; have y3 := hq.cell 3 rfl; have z0 := hq.frozen 0; have z1 := hq.frozen 1; have z2 := hq.frozen 2; have z3 := hq.frozen 3; clear hq)
               try (have hq : Row w5 wc.heap.size 34 [.slice none 0 0, .int .i64 0, .slice none 0 0, .slice none 0 0] := by first | exact Row.below ((Row.new wc [.slice none 0 0, .int .i64 0, .slice none 0 0, .slice none 0 0] 34).alloc (.cells #[.slice A21 n21 c21, .int .i64 s21, .slice M21 m21 d21, .slice E21 k21 g21, .slice A2 n2 c2, .int .i64 s2, .slice M2 m2 d2, .slice E2 k2 g2] 34)) hb5 (by simp; omega) | exact Row.below (row_drew6 ((Row.new wc [.slice none 0 0, .int .i64 0, .slice none 0 0, .slice none 0 0] 34).alloc (.cells #[.slice A21 n21 c21, .int .i64 s21, .slice M21 m21 d21, .slice E21 k21 g21, .slice A2 n2 c2, .int .i64 s2, .slice M2 m2 d2, .slice E2 k2 g2] 34))) hb5 (by simp; omega)
                    have HQB := Lib.hid hq; have y0 := hq.cell 0 rfl; have y1 := hq.cell 1 rfl; have y2 := hq.cell 2 rfl; have y3 := hq.cell 3 rfl; have z0 := hq.frozen 0; have z1 := hq.frozen 1; have z2 := hq.frozen 2; have z3 := hq.frozen 3; clear hq)
               clear hb5 ha5 hf5))
          all_goals
            go_wp2_with fail
            go_meet
            case rel => exact ⟨by first | exact box_1 HB5.out HAF.out | exact box_2 HB5.out HQA.out HAF.out (by simp) (Nat.le_succ _) | exact box_2 HB5.out HQB.out HAF.out (by simp; omega) (Nat.le_refl _) | exact BoxR.drew (box_1 HB5.out HAF.out) | exact BoxR.drew (box_2 HB5.out HQA.out HAF.out (by simp) (Nat.le_succ _)) | exact BoxR.drew (box_2 HB5.out HQB.out HAF.out (by simp; omega) (Nat.le_refl _)), rfl⟩
        case rest =>
          clear HCx HCo R0 R1 R2 R3 R4 R5 R6 R7 R8 R9 K2 K3 K6 K7 K8 K9
          obtain ⟨⟨b_B16, A23, n23, c23, s23, M23, m23, d23, E23, k23, g23, rfl, B16, HA23, hbx⟩, rfl⟩ := hcut
          have hb := hbx.out
          have HB := Lib.hid (HB.out.trans (hb.mono HB.out.size))
          have HAS := Lib.hid ((HAS.out.below hb (Nat.le_refl _)).more hb.size)
          have HA0 := Lib.hid ((HA0.out.below hb (Nat.le_refl _)).more hb.size)
          have HA1 := Lib.hid ((HA1.out.below hb (Nat.le_refl _)).more hb.size)
          have HA2 := Lib.hid ((HA2.out.below hb (Nat.le_refl _)).more hb.size)
          have HBW := Lib.hid (HBW.out.trans (hb.mono HBW.out.size))
          have HA6 := Lib.hid ((HA6.out.below hb (Nat.le_refl _)).more hb.size)
          have B6 := Lib.hid (B6.out.below hb B6.out.lt)
          have B10 := Lib.hid (B10.out.below hb B10.out.lt)
          have HA20 := Lib.hid ((HA20.out.below hb (Nat.le_refl _)).more hb.size)
          have B12 := Lib.hid (B12.out.below hb B12.out.lt)
          have HA21 := Lib.hid ((HA21.out.below hb (Nat.le_refl _)).more hb.size)
          have B14 := Lib.hid (B14.out.below hb B14.out.lt)
          have HA22 := Lib.hid ((HA22.out.below hb (Nat.le_refl _)).more hb.size)
          clear hb
          clear hbx
          clear p0 p1 p2 p3 p4 p5 p6 p7 p8 p9 p10 p11 hbl5
          clear qB120 qB121 qB122 qB123 qB12l
          obtain ⟨⟨p0, p1, p2, p3, p4, p5, p6, p7⟩, p8, p9, p10, p11⟩ := HCC.out _ HBW.out
          have hbl5 : bl < wc.heap.size := Nat.lt_of_lt_of_le hbl HBW.out.size
          have qB140 := B14.out.cell 0 rfl
          have qB141 := B14.out.cell 1 rfl
          have qB142 := B14.out.cell 2 rfl
          have qB143 := B14.out.cell 3 rfl
          have qB14l := B14.out.lt
          go_wp2_with fail
          have HCx := Lib.hid (fun W' (hW : Below wc.heap.size wc W') => (⟨(hW.cell (p := ⟨bl, ol, none⟩) hbl5).trans p0, (hW.cell (p := ⟨bl, ol + 1, none⟩) hbl5).trans p1, (hW.cell (p := ⟨bl, ol + 2, none⟩) hbl5).trans p2, (hW.cell (p := ⟨bl, ol + 3, none⟩) hbl5).trans p3, (hW.cell (p := ⟨b_B14, 0, none⟩) qB14l).trans qB140, (hW.cell (p := ⟨b_B14, 1, none⟩) qB14l).trans qB141, (hW.cell (p := ⟨b_B14, 2, none⟩) qB14l).trans qB142, (hW.cell (p := ⟨b_B14, 3, none⟩) qB14l).trans qB143⟩ : W'.cell? ⟨bl, ol, none⟩ = some (.slice A0 n0 c0) ∧ W'.cell? ⟨bl, ol + 1, none⟩ = some (.int .i64 s0) ∧ W'.cell? ⟨bl, ol + 2, none⟩ = some (.slice M0 m0 d0) ∧ W'.cell? ⟨bl, ol + 3, none⟩ = some (.slice E0 k0 g0) ∧ W'.cell? ⟨b_B14, 0, none⟩ = some (.slice A22 n22 c22) ∧ W'.cell? ⟨b_B14, 1, none⟩ = some (.int .i64 s22) ∧ W'.cell? ⟨b_B14, 2, none⟩ = some (.slice M22 m22 d22) ∧ W'.cell? ⟨b_B14, 3, none⟩ = some (.slice E22 k22 g22)))
          have HCo := Lib.hid (fun W' bg (hW : Below wc.heap.size wc W') (hr : Row W' bg 34 [.slice A0 n0 c0, .int .i64 s0, .slice M0 m0 d0, .slice E0 k0 g0, .slice A22 n22 c22, .int .i64 s22, .slice M22 m22 d22, .slice E22 k22 g22]) => g_compF (Al := some ⟨bg, 0, none⟩) (nl := 2) (cl := 2) (rds_two hr (row_at (hr.cell 0 rfl) (hr.cell 1 rfl) (hr.cell 2 rfl) (hr.cell 3 rfl) ((HA0.out.below hW (Nat.le_refl _)).more hW.size)) (row_at (hr.cell 4 rfl) (hr.cell 5 rfl) (hr.cell 6 rfl) (hr.cell 7 rfl) ((HA22.out.below hW (Nat.le_refl _)).more hW.size))) rfl HS5.out)
          have R0 := Lib.hid (Below.refl wc.heap.size wc)
          have R1 := Lib.hid ((Below.refl wc.heap.size wc).drew)
          have R2 := Lib.hid ((Below.refl wc.heap.size wc).alloc (Nat.le_refl _) (.cells #[.slice A0 n0 c0, .int .i64 s0, .slice M0 m0 d0, .slice E0 k0 g0, .slice A22 n22 c22, .int .i64 s22, .slice M22 m22 d22, .slice E22 k22 g22] 34))
          have R3 := Lib.hid (((Below.refl wc.heap.size wc).alloc (Nat.le_refl _) (.cells #[.slice A0 n0 c0, .int .i64 s0, .slice M0 m0 d0, .slice E0 k0 g0, .slice A22 n22 c22, .int .i64 s22, .slice M22 m22 d22, .slice E22 k22 g22] 34)).drew)
          have R4 := Lib.hid ((Below.refl wc.heap.size wc).alloc (Nat.le_refl _) (.cells #[.slice none 0 0, .int .i64 0, .slice none 0 0, .slice none 0 0] 34))
          have R5 := Lib.hid (((Below.refl wc.heap.size wc).alloc (Nat.le_refl _) (.cells #[.slice none 0 0, .int .i64 0, .slice none 0 0, .slice none 0 0] 34)).drew)
          have R6 := Lib.hid (((Below.refl wc.heap.size wc).alloc (Nat.le_refl _) (.cells #[.slice A0 n0 c0, .int .i64 s0, .slice M0 m0 d0, .slice E0 k0 g0, .slice A22 n22 c22, .int .i64 s22, .slice M22 m22 d22, .slice E22 k22 g22] 34)).alloc (by simp) (.cells #[.slice none 0 0, .int .i64 0, .slice none 0 0, .slice none 0 0] 34))
          have R7 := Lib.hid ((((Below.refl wc.heap.size wc).alloc (Nat.le_refl _) (.cells #[.slice A0 n0 c0, .int .i64 s0, .slice M0 m0 d0, .slice E0 k0 g0, .slice A22 n22 c22, .int .i64 s22, .slice M22 m22 d22, .slice E22 k22 g22] 34)).alloc (by simp) (.cells #[.slice none 0 0, .int .i64 0, .slice none 0 0, .slice none 0 0] 34)).drew)
          have R8 := Lib.hid (((Below.refl wc.heap.size wc).alloc (Nat.le_refl _) (.cells #[.slice none 0 0, .int .i64 0, .slice none 0 0, .slice none 0 0] 34)).alloc (by simp) (.cells #[.slice A0 n0 c0, .int .i64 s0, .slice M0 m0 d0, .slice E0 k0 g0, .slice A22 n22 c22, .int .i64 s22, .slice M22 m22 d22, .slice E22 k22 g22] 34))
          have R9 := Lib.hid ((((Below.refl wc.heap.size wc).alloc (Nat.le_refl _) (.cells #[.slice none 0 0, .int .i64 0, .slice none 0 0, .slice none 0 0] 34)).alloc (by simp) (.cells #[.slice A0 n0 c0, .int .i64 s0, .slice M0 m0 d0, .slice E0 k0 g0, .slice A22 n22 c22, .int .i64 s22, .slice M22 m22 d22, .slice E22 k22 g22] 34)).drew)
          have K2 := Lib.hid (HCo.out _ _ R2.out (Row.new wc [.slice A0 n0 c0, .int .i64 s0, .slice M0 m0 d0, .slice E0 k0 g0, .slice A22 n22 c22, .int .i64 s22, .slice M22 m22 d22, .slice E22 k22 g22] 34))
          have K3 := Lib.hid (HCo.out _ _ R3.out (row_drew6 (Row.new wc [.slice A0 n0 c0, .int .i64 s0, .slice M0 m0 d0, .slice E0 k0 g0, .slice A22 n22 c22, .int .i64 s22, .slice M22 m22 d22, .slice E22 k22 g22] 34)))
          have K6 := Lib.hid (HCo.out _ _ R6.out ((Row.new wc [.slice A0 n0 c0, .int .i64 s0, .slice M0 m0 d0, .slice E0 k0 g0, .slice A22 n22 c22, .int .i64 s22, .slice M22 m22 d22, .slice E22 k22 g22] 34).alloc _))
          have K7 := Lib.hid (HCo.out _ _ R7.out (row_drew6 ((Row.new wc [.slice A0 n0 c0, .int .i64 s0, .slice M0 m0 d0, .slice E0 k0 g0, .slice A22 n22 c22, .int .i64 s22, .slice M22 m22 d22, .slice E22 k22 g22] 34).alloc _)))
          have K8 := Lib.hid (HCo.out _ _ R8.out (row_new2 wc _ [.slice A0 n0 c0, .int .i64 s0, .slice M0 m0 d0, .slice E0 k0 g0, .slice A22 n22 c22, .int .i64 s22, .slice M22 m22 d22, .slice E22 k22 g22] 34))
          have K9 := Lib.hid (HCo.out _ _ R9.out (row_drew6 (row_new2 wc _ [.slice A0 n0 c0, .int .i64 s0, .slice M0 m0 d0, .slice E0 k0 g0, .slice A22 n22 c22, .int .i64 s22, .slice M22 m22 d22, .slice E22 k22 g22] 34)))
          go_upto_region 11 with fail
          go_cut [18, 19] from 91 to 99 (fun pv ev wx => BoxR wc pa pv wx ∧ ev = .int .i64 0)
          case first =>
            go_region_held3 (fun w' => w'.cell? ⟨bl, ol, none⟩ = some (.slice A0 n0 c0) ∧ w'.cell? ⟨bl, ol + 1, none⟩ = some (.int .i64 s0) ∧ w'.cell? ⟨bl, ol + 2, none⟩ = some (.slice M0 m0 d0) ∧ w'.cell? ⟨bl, ol + 3, none⟩ = some (.slice E0 k0 g0) ∧ w'.cell? ⟨b_B14, 0, none⟩ = some (.slice A22 n22 c22) ∧ w'.cell? ⟨b_B14, 1, none⟩ = some (.int .i64 s22) ∧ w'.cell? ⟨b_B14, 2, none⟩ = some (.slice M22 m22 d22) ∧ w'.cell? ⟨b_B14, 3, none⟩ = some (.slice E22 k22 g22)) (first | with_reducible exact ⟨p0, p1, p2, p3, qB140, qB141, qB142, qB143⟩ | with_reducible exact HCx.out _ R0.out | with_reducible exact HCx.out _ R1.out | with_reducible exact HCx.out _ R2.out | with_reducible exact HCx.out _ R3.out | with_reducible exact HCx.out _ R4.out | with_reducible exact HCx.out _ R5.out | with_reducible exact HCx.out _ R6.out | with_reducible exact HCx.out _ R7.out | with_reducible exact HCx.out _ R8.out | with_reducible exact HCx.out _ R9.out | with_reducible exact HCx.out _ HB5.out | with_reducible exact HCx.out _ HB5.out.drew | with_reducible exact HCx.out _ (HB5.out.alloc HB5.out.size _) | with_reducible exact HCx.out _ (below_set4 HB5.out (by omega) _ _ _ _) | with_reducible exact HCx.out _ (below_set4 (HB5.out.alloc HB5.out.size _) HB5.out.size _ _ _ _) | go_keep)
              (first
              | (go_simp; go_at_call 21; (first | with_reducible refine K2.out.mono ?_ | with_reducible refine K3.out.mono ?_ | with_reducible refine K6.out.mono ?_ | with_reducible refine K7.out.mono ?_ | with_reducible refine K8.out.mono ?_ | with_reducible refine K9.out.mono ?_); rintro e w5 ⟨v5, rfl, ⟨A9, n9, c9, s9, M9, m9, d9, E9, k9, g9, rfl, ha5, hf5⟩, hb5⟩
                 have HAF := Lib.hid (show AuF pa (.agg #[.slice A9 n9 c9, .int .i64 s9, .slice M9 m9 d9, .slice E9 k9 g9]) w5 _ from ⟨A9, n9, c9, s9, M9, m9, d9, E9, k9, g9, rfl, ha5, hf5⟩)
                 have HB5 := Lib.hid (show Below wc.heap.size wc w5 by first | exact R2.out.trans (hb5.mono R2.out.size) | exact R3.out.trans (hb5.mono R3.out.size) | exact R6.out.trans (hb5.mono R6.out.size) | exact R7.out.trans (hb5.mono R7.out.size) | exact R8.out.trans (hb5.mono R8.out.size) | exact R9.out.trans (hb5.mono R9.out.size))
                 obtain ⟨p0, p1, p2, p3, qB140, qB141, qB142, qB143⟩ := HCx.out _ HB5.out
                 try (have hq : Row w5 (wc.heap.size + 1) 34 [.slice none 0 0, .int .i64 0, .slice none 0 0, .slice none 0 0] := by first | exact Row.below (row_new2 wc _ [.slice none 0 0, .int .i64 0, .slice none 0 0, .slice none 0 0] 34) hb5 (by simp) | exact Row.below (row_drew6 (row_new2 wc _ [.slice none 0 0, .int .i64 0, .slice none 0 0, .slice none 0 0] 34)) hb5 (by simp)
                      have HQA := Lib.hid hq; have y0 := hq.cell 0 rfl; have y1 := hq.cell 1 rfl; have y2 := hq.cell 2 rfl; have y3 := hq.cell 3 rfl; have z0 := hq.frozen 0; have z1 := hq.frozen 1; have z2 := hq.frozen 2; have z3 := hq.frozen 3; clear hq)
                 try (have hq : Row w5 wc.heap.size 34 [.slice none 0 0, .int .i64 0, .slice none 0 0, .slice none 0 0] := by first | exact Row.below ((Row.new wc [.slice none 0 0, .int .i64 0, .slice none 0 0, .slice none 0 0] 34).alloc (.cells #[.slice A0 n0 c0, .int .i64 s0, .slice M0 m0 d0, .slice E0 k0 g0, .slice A22 n22 c22, .int .i64 s22, .slice M22 m22 d22, .slice E22 k22 g22] 34)) hb5 (by simp; omega) | exact Row.below (row_drew6 ((Row.new wc [.slice none 0 0, .int .i64 0, .slice none 0 0, .slice none 0 0] 34).alloc (.cells #[.slice A0 n0 c0, .int .i64 s0, .slice M0 m0 d0, .slice E0 k0 g0, .slice A22 n22 c22, .int .i64 s22, .slice M22 m22 d22, .slice E22 k22 g22] 34))) hb5 (by simp; omega)
                      have HQB := Lib.hid hq; have y0 := hq.cell 0 rfl; have y1 := hq.cell 1 rfl; have y2 := hq.cell 2 rfl; have y3 := hq.cell 3 rfl; have z0 := hq.frozen 0; have z1 := hq.frozen 1; have z2 := hq.frozen 2; have z3 := hq.frozen 3; clear hq)
                 clear hb5 ha5 hf5))
            all_goals
              go_wp2_with fail
              go_meet
              case rel => exact ⟨by first | exact box_1 HB5.out HAF.out | exact box_2 HB5.out HQA.out HAF.out (by simp) (Nat.le_succ _) | exact box_2 HB5.out HQB.out HAF.out (by simp; omega) (Nat.le_refl _) | exact BoxR.drew (box_1 HB5.out HAF.out) | exact BoxR.drew (box_2 HB5.out HQA.out HAF.out (by simp) (Nat.le_succ _)) | exact BoxR.drew (box_2 HB5.out HQB.out HAF.out (by simp; omega) (Nat.le_refl _)), rfl⟩
          case rest =>
            clear HCx HCo R0 R1 R2 R3 R4 R5 R6 R7 R8 R9 K2 K3 K6 K7 K8 K9
            obtain ⟨⟨b_B18, A24, n24, c24, s24, M24, m24, d24, E24, k24, g24, rfl, B18, HA24, hbx⟩, rfl⟩ := hcut
            have hb := hbx.out
            have HB := Lib.hid (HB.out.trans (hb.mono HB.out.size))
            have HAS := Lib.hid ((HAS.out.below hb (Nat.le_refl _)).more hb.size)
            have HA0 := Lib.hid ((HA0.out.below hb (Nat.le_refl _)).more hb.size)
            have HA1 := Lib.hid ((HA1.out.below hb (Nat.le_refl _)).more hb.size)
            have HA2 := Lib.hid ((HA2.out.below hb (Nat.le_refl _)).more hb.size)
            have HBW := Lib.hid (HBW.out.trans (hb.mono HBW.out.size))
            have HA6 := Lib.hid ((HA6.out.below hb (Nat.le_refl _)).more hb.size)
            have B6 := Lib.hid (B6.out.below hb B6.out.lt)
            have B10 := Lib.hid (B10.out.below hb B10.out.lt)
            have HA20 := Lib.hid ((HA20.out.below hb (Nat.le_refl _)).more hb.size)
            have B12 := Lib.hid (B12.out.below hb B12.out.lt)
            have HA21 := Lib.hid ((HA21.out.below hb (Nat.le_refl _)).more hb.size)
            have B14 := Lib.hid (B14.out.below hb B14.out.lt)
            have HA22 := Lib.hid ((HA22.out.below hb (Nat.le_refl _)).more hb.size)
            have B16 := Lib.hid (B16.out.below hb B16.out.lt)
            have HA23 := Lib.hid ((HA23.out.below hb (Nat.le_refl _)).more hb.size)
            clear hb
            clear hbx
            clear p0 p1 p2 p3 p4 p5 p6 p7 p8 p9 p10 p11 hbl5
            clear qB140 qB141 qB142 qB143 qB14l
            obtain ⟨rc, hrc⟩ : ∃ rc, rc = isC pa := ⟨_, rfl⟩
            have hrt : rc = true := by rw [hrc, HPA.out]; exact isC_three HOA.out HOB.out HOC.out
            have HRC := Lib.hid hrc
            have HRT := Lib.hid hrt
            clear hrc hrt
            have b6_0 := B6.out.cell 0 rfl
            have b6_1 := B6.out.cell 1 rfl
            have b6_2 := B6.out.cell 2 rfl
            have b6_3 := B6.out.cell 3 rfl
            have b6_l := B6.out.lt
            have b10_0 := B10.out.cell 0 rfl
            have b10_1 := B10.out.cell 1 rfl
            have b10_2 := B10.out.cell 2 rfl
            have b10_3 := B10.out.cell 3 rfl
            have b10_l := B10.out.lt
            have b16_0 := B16.out.cell 0 rfl
            have b16_1 := B16.out.cell 1 rfl
            have b16_2 := B16.out.cell 2 rfl
            have b16_3 := B16.out.cell 3 rfl
            have b16_l := B16.out.lt
            have b18_0 := B18.out.cell 0 rfl
            have b18_1 := B18.out.cell 1 rfl
            have b18_2 := B18.out.cell 2 rfl
            have b18_3 := B18.out.cell 3 rfl
            have b18_l := B18.out.lt
            go_wp2_with fail
            clear b6_0 b6_1 b6_2 b6_3 b6_l b10_0 b10_1 b10_2 b10_3 b10_l b16_0 b16_1 b16_2 b16_3 b16_l b18_0 b18_1 b18_2 b18_3 b18_l
            refine (g_eq (decide_eq_true rfl) HA6.out HA20.out).mono ?_
            rintro e w4 ⟨rfl, hb⟩
            have HB := Lib.hid (HB.out.trans (hb.mono HB.out.size))
            have HA6 := Lib.hid ((HA6.out.below hb (Nat.le_refl _)).more hb.size)
            have B6 := Lib.hid (B6.out.below hb B6.out.lt)
            have B10 := Lib.hid (B10.out.below hb B10.out.lt)
            have HA20 := Lib.hid ((HA20.out.below hb (Nat.le_refl _)).more hb.size)
            have B16 := Lib.hid (B16.out.below hb B16.out.lt)
            have HA23 := Lib.hid ((HA23.out.below hb (Nat.le_refl _)).more hb.size)
            have B18 := Lib.hid (B18.out.below hb B18.out.lt)
            have HA24 := Lib.hid ((HA24.out.below hb (Nat.le_refl _)).more hb.size)
            clear hb
            have b6_0 := B6.out.cell 0 rfl
            have b6_1 := B6.out.cell 1 rfl
            have b6_2 := B6.out.cell 2 rfl
            have b6_3 := B6.out.cell 3 rfl
            have b6_l := B6.out.lt
            have b10_0 := B10.out.cell 0 rfl
            have b10_1 := B10.out.cell 1 rfl
            have b10_2 := B10.out.cell 2 rfl
            have b10_3 := B10.out.cell 3 rfl
            have b10_l := B10.out.lt
            have b16_0 := B16.out.cell 0 rfl
            have b16_1 := B16.out.cell 1 rfl
            have b16_2 := B16.out.cell 2 rfl
            have b16_3 := B16.out.cell 3 rfl
            have b16_l := B16.out.lt
            have b18_0 := B18.out.cell 0 rfl
            have b18_1 := B18.out.cell 1 rfl
            have b18_2 := B18.out.cell 2 rfl
            have b18_3 := B18.out.cell 3 rfl
            have b18_l := B18.out.lt
            go_wp2_with fail
            clear b6_0 b6_1 b6_2 b6_3 b6_l b10_0 b10_1 b10_2 b10_3 b10_l b16_0 b16_1 b16_2 b16_3 b16_l b18_0 b18_1 b18_2 b18_3 b18_l
            refine (g_eq (decide_eq_true rfl) HA6.out HA23.out).mono ?_
            rintro e w5 ⟨rfl, hb⟩
            have HB := Lib.hid (HB.out.trans (hb.mono HB.out.size))
            have HA6 := Lib.hid ((HA6.out.below hb (Nat.le_refl _)).more hb.size)
            have B6 := Lib.hid (B6.out.below hb B6.out.lt)
            have B10 := Lib.hid (B10.out.below hb B10.out.lt)
            have HA20 := Lib.hid ((HA20.out.below hb (Nat.le_refl _)).more hb.size)
            have B16 := Lib.hid (B16.out.below hb B16.out.lt)
            have HA23 := Lib.hid ((HA23.out.below hb (Nat.le_refl _)).more hb.size)
            have B18 := Lib.hid (B18.out.below hb B18.out.lt)
            have HA24 := Lib.hid ((HA24.out.below hb (Nat.le_refl _)).more hb.size)
            clear hb
            have b6_0 := B6.out.cell 0 rfl
            have b6_1 := B6.out.cell 1 rfl
            have b6_2 := B6.out.cell 2 rfl
            have b6_3 := B6.out.cell 3 rfl
            have b6_l := B6.out.lt
            have b10_0 := B10.out.cell 0 rfl
            have b10_1 := B10.out.cell 1 rfl
            have b10_2 := B10.out.cell 2 rfl
            have b10_3 := B10.out.cell 3 rfl
            have b10_l := B10.out.lt
            have b16_0 := B16.out.cell 0 rfl
            have b16_1 := B16.out.cell 1 rfl
            have b16_2 := B16.out.cell 2 rfl
            have b16_3 := B16.out.cell 3 rfl
            have b16_l := B16.out.lt
            have b18_0 := B18.out.cell 0 rfl
            have b18_1 := B18.out.cell 1 rfl
            have b18_2 := B18.out.cell 2 rfl
            have b18_3 := B18.out.cell 3 rfl
            have b18_l := B18.out.lt
            go_wp2_with fail
            clear b6_0 b6_1 b6_2 b6_3 b6_l b10_0 b10_1 b10_2 b10_3 b10_l b16_0 b16_1 b16_2 b16_3 b16_l b18_0 b18_1 b18_2 b18_3 b18_l
            refine (g_eq (decide_eq_true rfl) HA6.out HA24.out).mono ?_
            rintro e w6 ⟨rfl, hb⟩
            have HB := Lib.hid (HB.out.trans (hb.mono HB.out.size))
            have HA6 := Lib.hid ((HA6.out.below hb (Nat.le_refl _)).more hb.size)
            have B6 := Lib.hid (B6.out.below hb B6.out.lt)
            have B10 := Lib.hid (B10.out.below hb B10.out.lt)
            have HA20 := Lib.hid ((HA20.out.below hb (Nat.le_refl _)).more hb.size)
            have B16 := Lib.hid (B16.out.below hb B16.out.lt)
            have HA23 := Lib.hid ((HA23.out.below hb (Nat.le_refl _)).more hb.size)
            have B18 := Lib.hid (B18.out.below hb B18.out.lt)
            have HA24 := Lib.hid ((HA24.out.below hb (Nat.le_refl _)).more hb.size)
            clear hb
            have b6_0 := B6.out.cell 0 rfl
            have b6_1 := B6.out.cell 1 rfl
            have b6_2 := B6.out.cell 2 rfl
            have b6_3 := B6.out.cell 3 rfl
            have b6_l := B6.out.lt
            have b10_0 := B10.out.cell 0 rfl
            have b10_1 := B10.out.cell 1 rfl
            have b10_2 := B10.out.cell 2 rfl
            have b10_3 := B10.out.cell 3 rfl
            have b10_l := B10.out.lt
            have b16_0 := B16.out.cell 0 rfl
            have b16_1 := B16.out.cell 1 rfl
            have b16_2 := B16.out.cell 2 rfl
            have b16_3 := B16.out.cell 3 rfl
            have b16_l := B16.out.lt
            have b18_0 := B18.out.cell 0 rfl
            have b18_1 := B18.out.cell 1 rfl
            have b18_2 := B18.out.cell 2 rfl
            have b18_3 := B18.out.cell 3 rfl
            have b18_l := B18.out.lt
            go_wp2_with fail
            clear b6_0 b6_1 b6_2 b6_3 b6_l b10_0 b10_1 b10_2 b10_3 b10_l b16_0 b16_1 b16_2 b16_3 b16_l b18_0 b18_1 b18_2 b18_3 b18_l
            refine (mIsCanonical_any _ _ _ _ _ _ _ _ _ _ pa _ HA6.out).mono ?_
            rintro e w7 ⟨rfl, hb⟩
            have HB := Lib.hid (HB.out.trans (hb.mono HB.out.size))
            have HA6 := Lib.hid ((HA6.out.below hb (Nat.le_refl _)).more hb.size)
            have B6 := Lib.hid (B6.out.below hb B6.out.lt)
            have B10 := Lib.hid (B10.out.below hb B10.out.lt)
            have HA20 := Lib.hid ((HA20.out.below hb (Nat.le_refl _)).more hb.size)
            have B16 := Lib.hid (B16.out.below hb B16.out.lt)
            have HA23 := Lib.hid ((HA23.out.below hb (Nat.le_refl _)).more hb.size)
            have B18 := Lib.hid (B18.out.below hb B18.out.lt)
            have HA24 := Lib.hid ((HA24.out.below hb (Nat.le_refl _)).more hb.size)
            clear hb
            rw [← HRC.out, HRT.out]
            go_wp2_with fail
            go_ret
            exact ⟨rfl, HB.out⟩
end Go.Proofs.YtedleffmbddccaaDoor
