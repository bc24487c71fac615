/- The walk of WordMatches. -/
import Derived.Test.YtdccmebkoibkhaaLprojects
import Derived.Test.YtdccmebkoibkhaaWmatchE
import Derived.Test.YtdccmebkoibkhaaOpenA
import Derived.Deep.RegionLaw
namespace Go.Proofs.Ytdccmebkoibkhaa
open Go.RowKit

/-- An array of two bytes that lies in a block of its own. -/
structure Arr2B (w W : World) (x y : Int) : Prop where
  c0 : W.cell? ⟨w.heap.size, 0, none⟩ = some (.int .u8 x)
  c1 : W.cell? ⟨w.heap.size, 1, none⟩ = some (.int .u8 y)
  below : Below w.heap.size w W
  size : w.heap.size + 1 ≤ W.heap.size
theorem Arr2B.start (w W : World) (x y : Int) (t : TypeId) (hb : Below (w.alloc (.cells #[.int .u8 x, .int .u8 y] t)).heap.size (w.alloc (.cells #[.int .u8 x, .int .u8 y] t)) W) : Arr2B w W x y := by
  have h : ∀ o, W.cell? ⟨w.heap.size, o, none⟩ = (w.alloc (.cells #[.int .u8 x, .int .u8 y] t)).cell? ⟨w.heap.size, o, none⟩ := fun o => hb.cell (by simp)
  refine ⟨?_, ?_, ((Below.refl w.heap.size w).alloc (Nat.le_refl _) _).trans (hb.mono (by simp)), by have := hb.size; simp at this; exact this⟩
  all_goals rw [h, World.cell?_alloc_at _ _ _ _ rfl]; rfl
theorem Arr2B.step {w W W' : World} {x y : Int} (h : Arr2B w W x y) (hb : Below W.heap.size W W') : Arr2B w W' x y := by
  have hs := h.size
  have hc : ∀ o, W'.cell? ⟨w.heap.size, o, none⟩ = W.cell? ⟨w.heap.size, o, none⟩ := fun o => hb.cell (by simp; omega)
  exact ⟨(hc 0).trans h.c0, (hc 1).trans h.c1, h.below.trans (hb.mono (by omega)), Nat.le_trans h.size hb.size⟩
theorem Arr2B.drew {w W : World} {x y : Int} (h : Arr2B w W x y) : Arr2B w W.drew x y := ⟨h.c0, h.c1, h.below.drew, h.size⟩
theorem cs_setZ (x : Int) : csE 32 (setZ x) = 0 := by
  unfold setZ setN
  rw [show List.range 5 = [0, 1, 2, 3, 4] from rfl]
  cases h0 : sb x 0 <;> cases h1 : sb x 1 <;> cases h2 : sb x 2 <;> cases h3 : sb x 3 <;> cases h4 : sb x 4 <;> simp [h0, h1, h2, h3, h4] <;> decide
theorem wc_of {f a : List Int} (h : csE 32 f = 0) (hl : a.length ≤ 4096) (ha : ∀ x ∈ a, x ∈ f) : wcE f a = 0 := by
  unfold wcE
  rw [if_neg (by simp [h]), if_neg (by omega), if_pos (by unfold inB; rw [List.all_eq_true]; intro x hx; simpa using ha x hx)]
theorem rproj_call (A C : Option Addr) (n c m d : Nat) (xs ys zs : List Int) (k : Nat) (W : World) (hx : RdI W W.heap.size A xs) (hy : RdI W W.heap.size C ys) (hn : xs.length = n) (hm : ys.length = m) (hb : n ≤ 1000) (hb' : m ≤ 1000) (hz : xs.filter (fun x => decide (x ∈ ys)) = zs) (hk : zs.length = k) :
    Calls Try.prog 24 #[.slice A n c, .slice C m d] W fun e w' => ∃ A' c', e = .returned (.slice A' k c') ∧ RdI w' w'.heap.size A' zs ∧ Below W.heap.size W w' ∧ k ≤ c' ∧ c' ≤ 9223372036854775807 := by
  subst hz; subst hk
  exact r2Project_any A C n c m d xs ys W hx hy hn hm (by omega) (by omega)

set_option maxHeartbeats 8000000 in
set_option maxRecDepth 100000 in
theorem lawMatches (A : Option Addr) (nb cb : Nat) (bs : List Int) (B : Option Addr) (nc cc : Nat) (bc : List Int) (x y : Int) (w : World) (h1 : RdB w w.heap.size A bs) (h2 : bs.length = nb) (h3 : ∀ z ∈ bs, (Lit.int .u8 z).wf = true) (k1 : RdB w w.heap.size B bc) (k2 : bc.length = nc) (k3 : ∀ z ∈ bc, (Lit.int .u8 z).wf = true) (x0 : 0 ≤ x) (x1 : x < 256) (y0 : 0 ≤ y) (y1 : y < 256) :
    Calls Try.prog 10 #[.slice A nb cb, .slice B nc cc, .agg #[.int .u8 x, .int .u8 y]] w fun e w' => e = .returned (.bool true) ∧ Below w.heap.size w w' := by
  have HK := Lib.hid known_any
  obtain ⟨f, hf⟩ : ∃ f, f = setZ x := ⟨_, rfl⟩
  obtain ⟨s, hs⟩ : ∃ s, s = setZ y := ⟨_, rfl⟩
  obtain ⟨nf, hnf⟩ : ∃ n, n = f.length := ⟨_, rfl⟩
  obtain ⟨ns, hns⟩ : ∃ n, n = s.length := ⟨_, rfl⟩
  have SX := Lib.hid (fun (W : World) => set_call x W x0 x1 f hf.symm nf hnf.symm)
  have SY := Lib.hid (fun (W : World) => set_call y W y0 y1 s hs.symm ns hns.symm)
  obtain ⟨p, hp⟩ : ∃ p, p = wordZ bs 8 := ⟨_, rfl⟩
  obtain ⟨q, hq⟩ : ∃ q, q = wordZ bc 8 := ⟨_, rfl⟩
  obtain ⟨np, hnp⟩ : ∃ n, n = p.length := ⟨_, rfl⟩
  obtain ⟨nq', hnq⟩ : ∃ n, n = q.length := ⟨_, rfl⟩
  have WX := Lib.hid (fun (W : World) (h : Below w.heap.size w W) => word_call A nb cb 8 bs w W h1 h2 (fun z hz => wf_u8 (h3 z hz)) (by omega) p hp.symm np hnp.symm h)
  have WY := Lib.hid (fun (W : World) (h : Below w.heap.size w W) => word_call B nc cc 8 bc w W k1 k2 (fun z hz => wf_u8 (k3 z hz)) (by omega) q hq.symm nq' hnq.symm h)
  have np8 : np ≤ 8 := by rw [hnp, hp]; exact wordZ_le bs 8
  have nq8 : nq' ≤ 8 := by rw [hnq, hq]; exact wordZ_le bc 8
  have nf5 : nf ≤ 5 := by rw [hnf, hf]; exact setZ_le x
  have ns5 : ns ≤ 5 := by rw [hns, hs]; exact setZ_le y
  obtain ⟨a, ha⟩ : ∃ a, a = p.filter (fun z => decide (z ∈ f)) := ⟨_, rfl⟩
  obtain ⟨b, hb⟩ : ∃ b, b = q.filter (fun z => decide (z ∈ s)) := ⟨_, rfl⟩
  obtain ⟨na, hna⟩ : ∃ n, n = a.length := ⟨_, rfl⟩
  obtain ⟨nb', hnb⟩ : ∃ n, n = b.length := ⟨_, rfl⟩
  have na8 : na ≤ 8 := by rw [hna, ha]; exact Nat.le_trans (List.length_filter_le _ _) (by omega)
  have nb8 : nb' ≤ 8 := by rw [hnb, hb]; exact Nat.le_trans (List.length_filter_le _ _) (by omega)
  have e1 : wcE f a = 0 := wc_of (by rw [hf]; exact cs_setZ x) (by omega) (fun z hz => by rw [ha] at hz; simpa using (List.mem_filter.1 hz).2)
  have e2 : wcE s b = 0 := wc_of (by rw [hs]; exact cs_setZ y) (by omega) (fun z hz => by rw [hb] at hz; simpa using (List.mem_filter.1 hz).2)
  have HE1 := Lib.hid e1
  have HE2 := Lib.hid e2
  have HUF := Lib.hid (show Up f by rw [hf]; exact up_setZ x)
  have HUS := Lib.hid (show Up s by rw [hs]; exact up_setZ y)
  have HNF := Lib.hid hnf.symm
  have HNS := Lib.hid hns.symm
  have HNP := Lib.hid hnp.symm
  have HNQ := Lib.hid hnq.symm
  have HNA := Lib.hid hna.symm
  have HNB := Lib.hid hnb.symm
  have HAP := Lib.hid ha.symm
  have HBQ := Lib.hid hb.symm
  have HT := Lib.hid (told_mg (f := f) (s := s) _ a b (Nat.le_refl _) ⟨(wc_ok e1).2, (wc_ok e2).2⟩)
  clear h1 h2 h3 k1 k2 k3 hf hs hnf hns hp hq hnp hnq ha hb hna hnb e1 e2
  go_enter Try.func10, Try.ntmps10
  go_wp2_with fail
  refine (HK.out _).mono ?_
  rintro e w1 ⟨rfl, hb1⟩
  have HA1 := Lib.hid (Arr2B.start _ _ _ _ _ hb1)
  have g0 := HA1.out.c0
  have g1 := HA1.out.c1
  clear hb1
  go_wp2_with fail
  go_region_law (go_simp; go_at_call 20; first
    | (with_reducible refine (SX.out _).mono ?_; rintro e wx ⟨Cx, cx, rfl, hrx, hbx, _, _⟩
       have HAx := Lib.hid (show Arr2B w wx x y by first | exact HAy.out.step hbx | exact HA1.out.drew.step hbx)
       have gx0 := HAx.out.c0
       have gx1 := HAx.out.c1
       have HRx := Lib.hid hrx
       have HBx := Lib.hid hbx
       clear hrx hbx)
    | (with_reducible refine (SY.out _).mono ?_; rintro e wy ⟨Cy, cy, rfl, hry, hby, _, _⟩
       have HAy := Lib.hid (show Arr2B w wy x y by first | exact HAx.out.step hby | exact HA1.out.drew.step hby)
       have gy0 := HAy.out.c0
       have gy1 := HAy.out.c1
       have HRy := Lib.hid hry
       have HBy := Lib.hid hby
       clear hry hby))
  all_goals
    first
    | (have X3 := Lib.hid ((HRx.out.below HBy.out (Nat.le_refl _)).more HBy.out.size)
       have Y3 := Lib.hid HRy.out
       have B3 := Lib.hid HAy.out.below)
    | (have X3 := Lib.hid HRx.out
       have Y3 := Lib.hid ((HRy.out.below HBx.out (Nat.le_refl _)).more HBx.out.size)
       have B3 := Lib.hid HAx.out.below)
    clear HRx HRy HBx HBy HAx HAy gx0 gx1 gy0 gy1 g0 g1
    go_wp2_with fail
    refine (WX.out _ B3.out).mono ?_
    rintro e w4 ⟨D4, d4, rfl, hr, hb, hk4, ht4⟩
    have X4 := Lib.hid ((X3.out.below hb (Nat.le_refl _)).more hb.size)
    have Y4 := Lib.hid ((Y3.out.below hb (Nat.le_refl _)).more hb.size)
    have B4 := Lib.hid (B3.out.trans (hb.mono B3.out.size))
    have P4 := Lib.hid hr
    clear hr
    clear hb X3 Y3 B3
    go_wp2_with fail
    refine (rproj_call D4 Cx np d4 nf cx p f a na _ P4.out X4.out HNP.out HNF.out (by omega) (by omega) HAP.out HNA.out).mono ?_
    rintro e w5 ⟨D5, d5, rfl, hr, hb, hk5, ht5⟩
    have X5 := Lib.hid ((X4.out.below hb (Nat.le_refl _)).more hb.size)
    have Y5 := Lib.hid ((Y4.out.below hb (Nat.le_refl _)).more hb.size)
    have P5 := Lib.hid ((P4.out.below hb (Nat.le_refl _)).more hb.size)
    have B5 := Lib.hid (B4.out.trans (hb.mono B4.out.size))
    have A5 := Lib.hid hr
    clear hr
    clear hb X4 Y4 P4 B4
    go_wp2_with fail
    refine (WY.out _ B5.out).mono ?_
    rintro e w6 ⟨D6, d6, rfl, hr, hb, hk6, ht6⟩
    have X6 := Lib.hid ((X5.out.below hb (Nat.le_refl _)).more hb.size)
    have Y6 := Lib.hid ((Y5.out.below hb (Nat.le_refl _)).more hb.size)
    have P6 := Lib.hid ((P5.out.below hb (Nat.le_refl _)).more hb.size)
    have A6 := Lib.hid ((A5.out.below hb (Nat.le_refl _)).more hb.size)
    have B6 := Lib.hid (B5.out.trans (hb.mono B5.out.size))
    have Q6 := Lib.hid hr
    clear hr
    clear hb X5 Y5 P5 A5 B5
    go_wp2_with fail
    refine (rproj_call D6 Cy nq' d6 ns cy q s b nb' _ Q6.out Y6.out HNQ.out HNS.out (by omega) (by omega) HBQ.out HNB.out).mono ?_
    rintro e w7 ⟨D7, d7, rfl, hr, hb, hk7, ht7⟩
    have X7 := Lib.hid ((X6.out.below hb (Nat.le_refl _)).more hb.size)
    have Y7 := Lib.hid ((Y6.out.below hb (Nat.le_refl _)).more hb.size)
    have P7 := Lib.hid ((P6.out.below hb (Nat.le_refl _)).more hb.size)
    have A7 := Lib.hid ((A6.out.below hb (Nat.le_refl _)).more hb.size)
    have Q7 := Lib.hid ((Q6.out.below hb (Nat.le_refl _)).more hb.size)
    have B7 := Lib.hid (B6.out.trans (hb.mono B6.out.size))
    have E7 := Lib.hid hr
    clear hr
    clear hb X6 Y6 P6 A6 Q6 B6
    obtain ⟨R, hR, hRl, M1, M2⟩ := match_both D5 Cx D7 Cy na nf nb' ns d5 cx d7 cy a f b s _ A7.out X7.out E7.out Y7.out HNA.out HNF.out HNB.out HNS.out hk5 ht5 hk7 ht7 (by omega) (by omega) (by omega) (by omega) HE1.out HE2.out
    have HM1 := Lib.hid M1
    have HM2 := Lib.hid M2
    have HTR := Lib.hid (show Told f s a b R by rw [hR]; exact HT.out)
    have BB7 := Lib.hid (Below.refl w7.heap.size w7)
    obtain ⟨R1, R2⟩ := R
    obtain ⟨nr, hnr⟩ : ∃ n, n = R1.length := ⟨_, rfl⟩
    have HNR := Lib.hid hnr.symm
    have hRl : R1.length ≤ 200 := hRl
    rw [← hnr] at hRl
    clear hR M1 M2 HT hnr
    go_wp2_with fail
    refine (HM1.out _ (Below.refl _ _)).mono ?_
    rintro e w8 ⟨D8, d8, rfl, hr, hb⟩
    have X8 := Lib.hid ((X7.out.below hb (Nat.le_refl _)).more hb.size)
    have Y8 := Lib.hid ((Y7.out.below hb (Nat.le_refl _)).more hb.size)
    have A8 := Lib.hid ((A7.out.below hb (Nat.le_refl _)).more hb.size)
    have E8 := Lib.hid ((E7.out.below hb (Nat.le_refl _)).more hb.size)
    have W8 := Lib.hid hb
    have B8 := Lib.hid (B7.out.trans (hb.mono B7.out.size))
    have V8 := Lib.hid hr
    clear hr
    clear hb X7 Y7 A7 E7 B7
    go_wp2_with fail
    refine (HM2.out _ W8.out).mono ?_
    rintro e w9 ⟨D9, d9, rfl, hr, hb⟩
    have X9 := Lib.hid ((X8.out.below hb (Nat.le_refl _)).more hb.size)
    have Y9 := Lib.hid ((Y8.out.below hb (Nat.le_refl _)).more hb.size)
    have A9 := Lib.hid ((A8.out.below hb (Nat.le_refl _)).more hb.size)
    have E9 := Lib.hid ((E8.out.below hb (Nat.le_refl _)).more hb.size)
    have V9 := Lib.hid ((V8.out.below hb (Nat.le_refl _)).more hb.size)
    have B9 := Lib.hid (B8.out.trans (hb.mono B8.out.size))
    have U9 := Lib.hid hr
    clear hr
    clear hb X8 Y8 A8 E8 V8 B8
    simp only [HNR.out]
    go_wp2_with fail
    refine (same_call D8 D9 nr d8 nr d9 R1 R1 _ V9.out U9.out HNR.out HNR.out (by omega) (by omega) true (by simp)).mono ?_
    rintro e w10 ⟨rfl, hq⟩
    have hb := below_of_draws (B := w9.heap.size) hq
    clear hq
    have X10 := Lib.hid ((X9.out.below hb (Nat.le_refl _)).more hb.size)
    have Y10 := Lib.hid ((Y9.out.below hb (Nat.le_refl _)).more hb.size)
    have A10 := Lib.hid ((A9.out.below hb (Nat.le_refl _)).more hb.size)
    have E10 := Lib.hid ((E9.out.below hb (Nat.le_refl _)).more hb.size)
    have V10 := Lib.hid ((V9.out.below hb (Nat.le_refl _)).more hb.size)
    have U10 := Lib.hid ((U9.out.below hb (Nat.le_refl _)).more hb.size)
    have B10 := Lib.hid (B9.out.trans (hb.mono B9.out.size))
    clear hb X9 Y9 A9 E9 V9 U9 B9
    obtain ⟨a2, ha2⟩ : ∃ z, z = a.filter (fun x => decide (x ∈ s)) := ⟨_, rfl⟩
    obtain ⟨b2, hb2⟩ : ∃ z, z = b.filter (fun x => decide (x ∈ f)) := ⟨_, rfl⟩
    obtain ⟨m2, hm2⟩ : ∃ n, n = a2.length := ⟨_, rfl⟩
    obtain ⟨k2, hk2⟩ : ∃ n, n = b2.length := ⟨_, rfl⟩
    have m8 : m2 ≤ 8 := by rw [hm2, ha2]; exact Nat.le_trans (List.length_filter_le _ _) (by have := HNA.out; omega)
    have k8 : k2 ≤ 8 := by rw [hk2, hb2]; exact Nat.le_trans (List.length_filter_le _ _) (by have := HNB.out; omega)
    have HL2 := Lib.hid hm2.symm
    have HK2 := Lib.hid hk2.symm
    have HA2 := Lib.hid ha2.symm
    have HB2 := Lib.hid hb2.symm
    cases R2 with
    | false =>
      have HEQ := Lib.hid (show ¬ a2 = b2 from fun e => by have := HTR.out.2.1.2 (by rw [← ha2, ← hb2]; exact e); simp at this)
      clear ha2 hb2 hm2 hk2
      go_wp2_with fail
      refine (proj_call D5 Cy na d5 ns cy a s a2 m2 _ A10.out Y10.out HNA.out HNS.out (by omega) (by omega) HUS.out HA2.out HL2.out).mono ?_
      rintro e w21 ⟨D21, d21, rfl, hr, hb, hk21, ht21⟩
      have X21 := Lib.hid ((X10.out.below hb (Nat.le_refl _)).more hb.size)
      have Y21 := Lib.hid ((Y10.out.below hb (Nat.le_refl _)).more hb.size)
      have A21 := Lib.hid ((A10.out.below hb (Nat.le_refl _)).more hb.size)
      have E21 := Lib.hid ((E10.out.below hb (Nat.le_refl _)).more hb.size)
      have V21 := Lib.hid ((V10.out.below hb (Nat.le_refl _)).more hb.size)
      have B21 := Lib.hid (B10.out.trans (hb.mono B10.out.size))
      have G21 := Lib.hid hr
      clear hr
      clear hb X10 Y10 A10 E10 V10 B10
      go_wp2_with fail
      refine (proj_call D7 Cx nb' d7 nf cx b f b2 k2 _ E21.out X21.out HNB.out HNF.out (by omega) (by omega) HUF.out HB2.out HK2.out).mono ?_
      rintro e w22 ⟨D22, d22, rfl, hr, hb, hk22, ht22⟩
      have X22 := Lib.hid ((X21.out.below hb (Nat.le_refl _)).more hb.size)
      have Y22 := Lib.hid ((Y21.out.below hb (Nat.le_refl _)).more hb.size)
      have A22 := Lib.hid ((A21.out.below hb (Nat.le_refl _)).more hb.size)
      have E22 := Lib.hid ((E21.out.below hb (Nat.le_refl _)).more hb.size)
      have V22 := Lib.hid ((V21.out.below hb (Nat.le_refl _)).more hb.size)
      have G22 := Lib.hid ((G21.out.below hb (Nat.le_refl _)).more hb.size)
      have B22 := Lib.hid (B21.out.trans (hb.mono B21.out.size))
      have H22 := Lib.hid hr
      clear hr
      clear hb X21 Y21 A21 E21 V21 G21 B21
      go_wp2_with fail
      refine (same_call D21 D22 m2 d21 k2 d22 a2 b2 _ G22.out H22.out HL2.out HK2.out (by omega) (by omega) false (by simpa using HEQ.out)).mono ?_
      rintro e w23 ⟨rfl, hq⟩
      have B23 := Lib.hid (B22.out.trans ((below_of_draws hq).mono (Nat.le_refl _)))
      clear hq
      go_wp2_with fail
      go_ret
      exact ⟨rfl, B23.out⟩
    | true =>
      have HEQ := Lib.hid (show a2 = b2 by have := HTR.out.2.1.1 rfl; rw [ha2, hb2]; exact this)
      have HP1 := Lib.hid (HTR.out.1 rfl).1
      have HP2 := Lib.hid (HTR.out.1 rfl).2
      clear ha2 hb2 hm2 hk2
      go_wp2_with fail
      refine (proj_call D8 Cx nr d8 nf cx R1 f a na _ V10.out X10.out HNR.out HNF.out (by omega) (by omega) HUF.out HP1.out HNA.out).mono ?_
      rintro e w11 ⟨D11, d11, rfl, hr, hb, hk11, ht11⟩
      have X11 := Lib.hid ((X10.out.below hb (Nat.le_refl _)).more hb.size)
      have Y11 := Lib.hid ((Y10.out.below hb (Nat.le_refl _)).more hb.size)
      have A11 := Lib.hid ((A10.out.below hb (Nat.le_refl _)).more hb.size)
      have E11 := Lib.hid ((E10.out.below hb (Nat.le_refl _)).more hb.size)
      have V11 := Lib.hid ((V10.out.below hb (Nat.le_refl _)).more hb.size)
      have B11 := Lib.hid (B10.out.trans (hb.mono B10.out.size))
      have G11 := Lib.hid hr
      clear hr
      clear hb X10 Y10 A10 E10 V10 B10
      go_wp2_with fail
      refine (same_call D11 D5 na d11 na d5 a a _ G11.out A11.out HNA.out HNA.out (by omega) (by omega) true (by simp)).mono ?_
      rintro e w12 ⟨rfl, hq⟩
      have hb := below_of_draws (B := w11.heap.size) hq
      clear hq
      have X12 := Lib.hid ((X11.out.below hb (Nat.le_refl _)).more hb.size)
      have Y12 := Lib.hid ((Y11.out.below hb (Nat.le_refl _)).more hb.size)
      have A12 := Lib.hid ((A11.out.below hb (Nat.le_refl _)).more hb.size)
      have E12 := Lib.hid ((E11.out.below hb (Nat.le_refl _)).more hb.size)
      have V12 := Lib.hid ((V11.out.below hb (Nat.le_refl _)).more hb.size)
      have G12 := Lib.hid ((G11.out.below hb (Nat.le_refl _)).more hb.size)
      have B12 := Lib.hid (B11.out.trans (hb.mono B11.out.size))
      clear hb X11 Y11 A11 E11 V11 G11 B11
      go_wp2_with fail
      refine (proj_call D8 Cy nr d8 ns cy R1 s b nb' _ V12.out Y12.out HNR.out HNS.out (by omega) (by omega) HUS.out HP2.out HNB.out).mono ?_
      rintro e w13 ⟨D13, d13, rfl, hr, hb, hk13, ht13⟩
      have X13 := Lib.hid ((X12.out.below hb (Nat.le_refl _)).more hb.size)
      have Y13 := Lib.hid ((Y12.out.below hb (Nat.le_refl _)).more hb.size)
      have A13 := Lib.hid ((A12.out.below hb (Nat.le_refl _)).more hb.size)
      have E13 := Lib.hid ((E12.out.below hb (Nat.le_refl _)).more hb.size)
      have V13 := Lib.hid ((V12.out.below hb (Nat.le_refl _)).more hb.size)
      have B13 := Lib.hid (B12.out.trans (hb.mono B12.out.size))
      have G13 := Lib.hid hr
      clear hr
      clear hb X12 Y12 A12 E12 V12 B12
      go_wp2_with fail
      refine (same_call D13 D7 nb' d13 nb' d7 b b _ G13.out E13.out HNB.out HNB.out (by omega) (by omega) true (by simp)).mono ?_
      rintro e w14 ⟨rfl, hq⟩
      have hb := below_of_draws (B := w13.heap.size) hq
      clear hq
      have X14 := Lib.hid ((X13.out.below hb (Nat.le_refl _)).more hb.size)
      have Y14 := Lib.hid ((Y13.out.below hb (Nat.le_refl _)).more hb.size)
      have A14 := Lib.hid ((A13.out.below hb (Nat.le_refl _)).more hb.size)
      have E14 := Lib.hid ((E13.out.below hb (Nat.le_refl _)).more hb.size)
      have V14 := Lib.hid ((V13.out.below hb (Nat.le_refl _)).more hb.size)
      have G14 := Lib.hid ((G13.out.below hb (Nat.le_refl _)).more hb.size)
      have B14 := Lib.hid (B13.out.trans (hb.mono B13.out.size))
      clear hb X13 Y13 A13 E13 V13 G13 B13
      go_wp2_with fail
      refine (proj_call D5 Cy na d5 ns cy a s a2 m2 _ A14.out Y14.out HNA.out HNS.out (by omega) (by omega) HUS.out HA2.out HL2.out).mono ?_
      rintro e w21 ⟨D21, d21, rfl, hr, hb, hk21, ht21⟩
      have X21 := Lib.hid ((X14.out.below hb (Nat.le_refl _)).more hb.size)
      have Y21 := Lib.hid ((Y14.out.below hb (Nat.le_refl _)).more hb.size)
      have A21 := Lib.hid ((A14.out.below hb (Nat.le_refl _)).more hb.size)
      have E21 := Lib.hid ((E14.out.below hb (Nat.le_refl _)).more hb.size)
      have V21 := Lib.hid ((V14.out.below hb (Nat.le_refl _)).more hb.size)
      have B21 := Lib.hid (B14.out.trans (hb.mono B14.out.size))
      have G21 := Lib.hid hr
      clear hr
      clear hb X14 Y14 A14 E14 V14 B14
      go_wp2_with fail
      refine (proj_call D7 Cx nb' d7 nf cx b f b2 k2 _ E21.out X21.out HNB.out HNF.out (by omega) (by omega) HUF.out HB2.out HK2.out).mono ?_
      rintro e w22 ⟨D22, d22, rfl, hr, hb, hk22, ht22⟩
      have X22 := Lib.hid ((X21.out.below hb (Nat.le_refl _)).more hb.size)
      have Y22 := Lib.hid ((Y21.out.below hb (Nat.le_refl _)).more hb.size)
      have A22 := Lib.hid ((A21.out.below hb (Nat.le_refl _)).more hb.size)
      have E22 := Lib.hid ((E21.out.below hb (Nat.le_refl _)).more hb.size)
      have V22 := Lib.hid ((V21.out.below hb (Nat.le_refl _)).more hb.size)
      have G22 := Lib.hid ((G21.out.below hb (Nat.le_refl _)).more hb.size)
      have B22 := Lib.hid (B21.out.trans (hb.mono B21.out.size))
      have H22 := Lib.hid hr
      clear hr
      clear hb X21 Y21 A21 E21 V21 G21 B21
      go_wp2_with fail
      refine (same_call D21 D22 m2 d21 k2 d22 a2 b2 _ G22.out H22.out HL2.out HK2.out (by omega) (by omega) true (by simpa using HEQ.out)).mono ?_
      rintro e w23 ⟨rfl, hq⟩
      have B23 := Lib.hid (B22.out.trans ((below_of_draws hq).mono (Nat.le_refl _)))
      clear hq
      go_wp2_with fail
      go_ret
      exact ⟨rfl, B23.out⟩
end Go.Proofs.Ytdccmebkoibkhaa
