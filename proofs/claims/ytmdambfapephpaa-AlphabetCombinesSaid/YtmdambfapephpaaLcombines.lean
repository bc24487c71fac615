/- The walk of the law AlphabetCombines. -/
import Derived.Test.YtmdambfapephpaaCombine
namespace Go.Proofs.Ytmdambfapephpaa
open Go.RowKit

set_option maxHeartbeats 3200000 in
theorem lawCombines (m n x : Int) (w : World) (hm : (Lit.int .u32 m).wf = true) (hn : (Lit.int .u32 n).wf = true) (_hx : (Lit.int .i64 x).wf = true) :
    Calls Try.prog 7 #[.int .u32 m, .int .u32 n, .int .i64 x] w fun e w' => e = .returned (.bool true) ∧ Below w.heap.size w w' := by
  have HK := Lib.hid known_any
  have hm0 := bounds_u32 hm
  have hn0 := bounds_u32 hn
  have HSM := Lib.hid (fun W => r1Set_any m W hm0.1 hm0.2)
  have HSN := Lib.hid (fun W => r1Set_any n W hn0.1 hn0.2)
  obtain ⟨a, ha⟩ : ∃ a, a = setZ m := ⟨_, rfl⟩
  obtain ⟨b, hb⟩ : ∃ b, b = setZ n := ⟨_, rfl⟩
  have HUA := Lib.hid (show Up a by rw [ha]; exact setZ_up m)
  have HUB := Lib.hid (show Up b by rw [hb]; exact setZ_up n)
  have hla : a.length ≤ 32 := by rw [ha]; exact setZ_len m
  have hlb : b.length ≤ 32 := by rw [hb]; exact setZ_len n
  rw [← ha] at HSM
  rw [← hb] at HSN
  clear ha hb hm hn hm0 hn0
  go_enter Try.func7, Try.ntmps7
  go_wp2_with fail
  refine (HK.out _).mono ?_
  rintro e w1 ⟨rfl, hb1⟩
  go_wp2_with fail
  refine (HSM.out _).mono ?_
  rintro e w2 ⟨A, ca, rfl, hra2, hb2, hca, hca'⟩
  have hb12 := hb1.trans (hb2.mono hb1.size)
  go_wp2_with fail
  refine (HSN.out _).mono ?_
  rintro e w3 ⟨C, cb, rfl, hrb3, hb3, hcb, hcb'⟩
  have hz13 := hb12.trans (hb3.mono hb12.size)
  have hra3 : RdI w3 w3.heap.size A a := (hra2.below hb3 (Nat.le_refl _)).more hb3.size
  have HRA := Lib.hid (fun W (h : Below w3.heap.size w3 W) => hra3.below h (Nat.le_refl _))
  have HRB := Lib.hid (fun W (h : Below w3.heap.size w3 W) => hrb3.below h (Nat.le_refl _))
  have HU := Lib.hid (fun W (h : Below w3.heap.size w3 W) => aUnion_any A C a.length ca b.length cb a b W ((HRA.out W h).more h.size) ((HRB.out W h).more h.size) rfl rfl hca hcb (by omega) (by omega) hca' hcb')
  have HRU := Lib.hid (fun W (h : Below w3.heap.size w3 W) => r1Union_any A C a.length ca b.length cb a b W ((HRA.out W h).more h.size) ((HRB.out W h).more h.size) rfl rfl (by omega) (by omega))
  have HI := Lib.hid (fun W (h : Below w3.heap.size w3 W) => aIntersect_any A C a.length ca b.length cb a b W ((HRA.out W h).more h.size) ((HRB.out W h).more h.size) rfl rfl (by omega) (by omega) HUB.out)
  have HRI := Lib.hid (fun W (h : Below w3.heap.size w3 W) => r1Intersect_any A C a.length ca b.length cb a b W ((HRA.out W h).more h.size) ((HRB.out W h).more h.size) rfl rfl (by omega) (by omega))
  have HM := Lib.hid (fun W (h : Below w3.heap.size w3 W) => aMinus_any A C a.length ca b.length cb a b W ((HRA.out W h).more h.size) ((HRB.out W h).more h.size) rfl rfl (by omega) (by omega) HUB.out)
  have HRM := Lib.hid (fun W (h : Below w3.heap.size w3 W) => r1Minus_any A C a.length ca b.length cb a b W ((HRA.out W h).more h.size) ((HRB.out W h).more h.size) rfl rfl (by omega) (by omega))
  have HSB := Lib.hid (fun W (h : Below w3.heap.size w3 W) => aSubset_any A C a.length ca b.length cb w3.heap.size w3.heap.size a b W (HRA.out W h) (HRB.out W h) rfl rfl (by omega) (by omega) HUB.out)
  have HCN := Lib.hid (fun W (h : Below w3.heap.size w3 W) => aContains_any A a.length ca w3.heap.size a x W (HRA.out W h) rfl (by omega) HUA.out)
  have HRC := Lib.hid (fun W (h : Below w3.heap.size w3 W) => r1Contains_any A a.length ca w3.heap.size a x W (HRA.out W h) rfl (by omega))
  obtain ⟨u, hu⟩ : ∃ u, u = un a b := ⟨_, rfl⟩
  have hlu : u.length ≤ 64 := by rw [hu]; have := un_len a b; omega
  rw [← hu] at HU HRU
  obtain ⟨it, hit⟩ : ∃ it, it = a.filter fun x => decide (x ∈ b) := ⟨_, rfl⟩
  have hli : it.length ≤ 32 := by rw [hit]; have := List.length_filter_le (fun x => decide (x ∈ b)) a; omega
  rw [← hit] at HI HRI
  obtain ⟨mi, hmi⟩ : ∃ mi, mi = a.filter fun x => !decide (x ∈ b) := ⟨_, rfl⟩
  have hlm : mi.length ≤ 32 := by rw [hmi]; have := List.length_filter_le (fun x => !decide (x ∈ b)) a; omega
  have hsub := sub_minus a b
  rw [← hmi] at HM HRM hsub
  have HSUB := Lib.hid hsub
  clear hu hit hmi hsub hra2 hra3 hrb3 hb1 hb2 hb12
  have hW := Below.refl w3.heap.size w3
  go_wp2_with fail
  refine (HU.out _ hW).mono ?_
  rintro e w4 ⟨A4, c4, rfl, hr4, hb4, _, _⟩
  have hW4 := hW.trans (hb4.mono hW.size)
  go_wp2_with fail
  refine (HRU.out _ hW4).mono ?_
  rintro e w5 ⟨A5, c5, rfl, hr5, hb5⟩
  have hW5 := hW4.trans (hb5.mono hW4.size)
  have hs6 := hr4.below hb5 (Nat.le_refl _)
  go_wp2_with fail
  refine (same_yes A4 A5 _ _ c4 c5 _ _ u u _ hs6 hr5 rfl rfl (by omega) (by omega) rfl).mono ?_
  rintro e w6 ⟨rfl, hb6⟩
  have hW6 := hW5.trans (hb6.mono hW5.size)
  clear hs6 hr4 hr5 hb4 hb5 hb6 hW5
  go_wp2_with fail
  refine (HI.out _ hW6).mono ?_
  rintro e w7 ⟨A7, c7, rfl, hr7, hb7⟩
  have hW7 := hW6.trans (hb7.mono hW6.size)
  go_wp2_with fail
  refine (HRI.out _ hW7).mono ?_
  rintro e w8 ⟨A8, c8, rfl, hr8, hb8⟩
  have hW8 := hW7.trans (hb8.mono hW7.size)
  have hs9 := hr7.below hb8 (Nat.le_refl _)
  go_wp2_with fail
  refine (same_yes A7 A8 _ _ c7 c8 _ _ it it _ hs9 hr8 rfl rfl (by omega) (by omega) rfl).mono ?_
  rintro e w9 ⟨rfl, hb9⟩
  have hW9 := hW8.trans (hb9.mono hW8.size)
  clear hs9 hr7 hr8 hb7 hb8 hb9 hW8
  go_wp2_with fail
  refine (HM.out _ hW9).mono ?_
  rintro e w10 ⟨A10, c10, rfl, hr10, hb10⟩
  have hW10 := hW9.trans (hb10.mono hW9.size)
  go_wp2_with fail
  refine (HRM.out _ hW10).mono ?_
  rintro e w11 ⟨A11, c11, rfl, hr11, hb11⟩
  have hW11 := hW10.trans (hb11.mono hW10.size)
  have hs12 := hr10.below hb11 (Nat.le_refl _)
  go_wp2_with fail
  refine (same_yes A10 A11 _ _ c10 c11 _ _ mi mi _ hs12 hr11 rfl rfl (by omega) (by omega) rfl).mono ?_
  rintro e w12 ⟨rfl, hb12⟩
  have hW12 := hW11.trans (hb12.mono hW11.size)
  clear hs12 hr10 hr11 hb10 hb11 hb12 hW11
  go_wp2_with fail
  refine (HSB.out _ hW12).mono ?_
  rintro e w' ⟨rfl, rfl⟩
  go_wp2_with fail
  refine (HRM.out _ hW12).mono ?_
  rintro e w13 ⟨A13, c13, rfl, hr13, hb13⟩
  have hW13 := hW12.trans (hb13.mono hW12.size)
  obtain ⟨lm, hlmm⟩ : ∃ lm, mi.length = lm := ⟨_, rfl⟩
  rw [hlmm]
  obtain ⟨sb, hsb⟩ : ∃ sb, subB a b = sb := ⟨_, rfl⟩
  rw [hsb]
  have hbb : ((lm : Int) == 0) = sb := by
    have := HSUB.out
    rw [hlmm, hsb] at this
    rw [← this, Bool.eq_iff_iff]; simp
  clear hsb hlmm
  go_wp2_with fail
  refine (HCN.out _ hW13).mono ?_
  rintro e w' ⟨rfl, rfl⟩
  go_wp2_with fail
  refine (HRC.out _ hW13).mono ?_
  rintro e w' ⟨rfl, rfl⟩
  go_wp2_with fail
  refine (HSM.out _).mono ?_
  rintro e w14 ⟨A14, c14, rfl, hr14, hb14, _, _⟩
  have hW14 := hW13.trans (hb14.mono hW13.size)
  go_wp2_with fail
  refine (same_yes A A14 _ _ ca c14 _ _ a a _ (HRA.out _ hW14) hr14 rfl rfl (by omega) (by omega) rfl).mono ?_
  rintro e w15 ⟨rfl, hb15⟩
  have hW15 := hW14.trans (hb15.mono hW14.size)
  go_wp2_with fail
  refine (HSN.out _).mono ?_
  rintro e w16 ⟨A16, c16, rfl, hr16, hb16, _, _⟩
  have hW16 := hW15.trans (hb16.mono hW15.size)
  go_wp2_with fail
  refine (same_yes C A16 _ _ cb c16 _ _ b b _ (HRB.out _ hW16) hr16 rfl rfl (by omega) (by omega) rfl).mono ?_
  rintro e w17 ⟨rfl, hb17⟩
  have hW17 := hW16.trans (hb17.mono hW16.size)
  go_wp2
  go_ret
  exact ⟨by simp, hz13.trans (hW17.mono hz13.size)⟩
end Go.Proofs.Ytmdambfapephpaa
