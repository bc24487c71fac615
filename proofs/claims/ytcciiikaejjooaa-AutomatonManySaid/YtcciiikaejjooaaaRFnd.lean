/- Layer 3: Found and index of the reference. -/
import Derived.Test.YtcciiikaejjooaaaRStep
import Derived.Test.YtcciiikaejjooaaaBd
import Derived.Deep.RegionHeld3
namespace Go.Proofs.Ytcciiikaejjooaa
open Go.RowKit Go.Sort

/-- Where a number is in a list; -1 if it isn't. -/
def idxI (l : List Int) (x : Int) : Int := if x ∈ l then (l.idxOf x : Int) else -1
theorem idx_yes {zs : List Int} {k : Nat} {x : Int} (h : k < zs.length) (ht : x ∉ zs.take k) (he : zs.getD k 0 = x) : idxI zs x = (k : Int) := by
  have hm : x ∈ zs := by rw [← he]; exact getD_mem h
  rw [idxI, if_pos hm]
  have e : zs = zs.take k ++ zs.drop k := (List.take_append_drop k zs).symm
  rw [e, List.idxOf_append, if_neg ht, drop_step zs k h, he]
  simp; omega
theorem idx_no {zs : List Int} {n : Nat} {x : Int} (hn : zs.length = n) (h : x ∉ zs.take n) : idxI zs x = -1 := by
  rw [List.take_of_length_le (by omega)] at h; rw [idxI, if_neg h]

set_option maxHeartbeats 800000 in
theorem rIndex_any (A : Option Addr) (n c Bx : Nat) (zs : List Int) (x : Int) (w : World) (hx : RdI w Bx A zs) (hn : zs.length = n) (hb : n ≤ 140737488355328) :
    Calls Try.prog 67 #[.slice A n c, .int .i64 x] w fun e w' => e = .returned (.int .i64 (idxI zs x)) ∧ w = w' := by
  have HN := Lib.hid hn
  clear hn
  obtain ⟨v, hv⟩ : ∃ v, v = idxI zs x := ⟨_, rfl⟩
  have HV := Lib.hid hv
  rw [← hv]
  clear hv
  go_enter Try.func67, Try.ntmps67
  go_wp2
  go_loop [5] (fun i => ∃ k : Nat, k ≤ n ∧ i = .int .i64 k ∧ Hid (x ∉ zs.take k)) (fun i => n - (intOf i).toNat)
  case atStart => exact ⟨0, Nat.zero_le _, rfl, by simp [Hid]⟩
  case round =>
    obtain ⟨k, hk, rfl, ht⟩ := hrel
    by_cases hlt : k < n
    · obtain ⟨b1, o1, rfl, _, hc1⟩ := hx (by rw [HN.out]; omega)
      have hz : k < zs.length := by rw [HN.out]; exact hlt
      have h1 := hc1 k hz
      obtain ⟨y, hye⟩ : ∃ y, y = zs.getD k 0 := ⟨_, rfl⟩
      rw [← hye] at h1
      clear hc1 hx
      by_cases hyx : y = x
      · have hr := Lib.hid (show (k : Int) = v by rw [HV.out, idx_yes hz ht.out (by rw [← hye]; exact hyx)])
        have hb1 : (y == x) = true := by simpa using hyx
        clear hyx hye ht hz
        go_wp2
        go_ret
        exact ⟨ret_int hr.out, rfl⟩
      · have hr := Lib.hid (show x ∉ zs.take (k + 1) by rw [mem_snoc_take hz, not_or]; exact ⟨ht.out, by rw [← hye]; exact hyx⟩)
        have hb1 : (y == x) = false := by simpa using hyx
        clear hyx hye ht hz
        go_wp2
        go_round
        case rel => exact ⟨k + 1, by omega, by go_num, hr⟩
        case measure => simp [intOf]; omega
    · have hkn : k = n := by omega
      rw [hkn] at ht
      have hr := Lib.hid (show (-1 : Int) = v by rw [HV.out, idx_no HN.out ht.out])
      clear hkn ht
      go_wp2
      go_ret
      exact ⟨ret_int hr.out, rfl⟩

/-- The edges of a state by the first events. -/
def succK (a : Au) (q : Int) (k : Nat) : List Ed := (a.al.take k).filterMap (edgeO a.ed q)
theorem succK_zero (a : Au) (q : Int) : succK a q 0 = [] := by simp [succK]
theorem take_getD {zs : List Int} {k : Nat} (h : k < zs.length) : zs.take (k + 1) = zs.take k ++ [zs.getD k 0] := by
  rw [List.take_add_one]; simp [List.getD, List.getElem?_eq_getElem h]
theorem succK_some {a : Au} {q : Int} {k : Nat} {x : Ed} (hk : k < a.al.length) (h : edgeO a.ed q (a.al.getD k 0) = some x) : succK a q (k + 1) = succK a q k ++ [x] := by
  unfold succK; rw [take_getD hk, List.filterMap_append]; simp only [List.filterMap_cons, h, List.filterMap_nil, List.append_nil]
theorem succK_none {a : Au} {q : Int} {k : Nat} (hk : k < a.al.length) (h : edgeO a.ed q (a.al.getD k 0) = none) : succK a q (k + 1) = succK a q k := by
  unfold succK; rw [take_getD hk, List.filterMap_append]; simp only [List.filterMap_cons, h, List.filterMap_nil, List.append_nil]
theorem succK_all {a : Au} (h : RightW a) {q : Int} {n : Nat} (hn : a.al.length = n) : succK a q n = succ a.ed q := by
  unfold succK; rw [List.take_of_length_le (by omega), succ_eq h]
theorem succK_pre {a : Au} (h : RightW a) (q : Int) (k : Nat) : succK a q k <+: succ a.ed q := by
  rw [succ_eq h, succK]
  conv => rhs; rw [← List.take_append_drop k a.al, List.filterMap_append]
  exact List.prefix_append _ _
theorem stepI_of {a : Au} {q ev : Int} {x : Ed} (h : edgeO a.ed q ev = some x) : stepI a q ev = x.t := by rw [stepI, stepO, h]; rfl
theorem stepI_no {a : Au} {q ev : Int} (h : edgeO a.ed q ev = none) : stepI a q ev = -1 := by rw [stepI, stepO, h]; rfl

/-- What Found keeps: the call's memory, its list. -/
structure FP (W1 : World) (v : Value) (fl : List Int) (wr : World) : Prop where
  bel : Below W1.heap.size W1 wr
  ow : Own wr W1.heap.size v fl
theorem FP.call {W1 wr w2 : World} {v : Value} {fl : List Int} (h : FP W1 v fl wr) (hb : Below wr.heap.size wr w2) : FP W1 v fl w2 := ⟨h.bel.trans (hb.mono h.bel.size), own_kept h.ow hb⟩
theorem FP.drew {W1 wr : World} {v : Value} {fl : List Int} (h : FP W1 v fl wr) : FP W1 v fl wr.drew := ⟨h.bel.drew, h.ow⟩
/-- The cells that a step's arguments are loaded from. -/
structure StC (H : Nat) (A : Option Addr) (n c : Nat) (s : Int) (M : Option Addr) (m d : Nat) (E : Option Addr) (k g : Nat) (gF j : Nat) (q : Int) (bA iA : Nat) (ev : Int) (wr : World) : Prop where
  bx : BoxA wr H A n c s M m d E k g
  cf : wr.cell? ⟨gF, j, none⟩ = some (.int .i64 q)
  ca : wr.cell? ⟨bA, iA, none⟩ = some (.int .i64 ev)
  l1 : H < wr.heap.size
  l2 : gF < wr.heap.size
  l3 : bA < wr.heap.size
section
variable {H : Nat} {A : Option Addr} {n c : Nat} {s : Int} {M : Option Addr} {m d : Nat} {E : Option Addr} {k g : Nat} {gF j : Nat} {q : Int} {bA iA : Nat} {ev : Int} {wr w2 : World}
theorem StC.call (h : StC H A n c s M m d E k g gF j q bA iA ev wr) (hb : Below wr.heap.size wr w2) : StC H A n c s M m d E k g gF j q bA iA ev w2 :=
  ⟨h.bx.below hb h.l1, (hb.cell (p := ⟨gF, j, none⟩) h.l2).trans h.cf, (hb.cell (p := ⟨bA, iA, none⟩) h.l3).trans h.ca, Nat.lt_of_lt_of_le h.l1 hb.size, Nat.lt_of_lt_of_le h.l2 hb.size, Nat.lt_of_lt_of_le h.l3 hb.size⟩
theorem StC.drew (h : StC H A n c s M m d E k g gF j q bA iA ev wr) : StC H A n c s M m d E k g gF j q bA iA ev wr.drew := ⟨⟨h.bx.c0, h.bx.c1, h.bx.c2, h.bx.c3⟩, h.cf, h.ca, h.l1, h.l2, h.l3⟩
end

set_option maxHeartbeats 4000000 in
set_option maxRecDepth 100000 in
theorem rFound_any (A : Option Addr) (n c : Nat) (s : Int) (M : Option Addr) (m d : Nat) (E : Option Addr) (k g : Nat) (a : Au) (B : Nat) (w : World) (h : AuR w B A n c s M m d E k g a) (hB : B ≤ w.heap.size) (hr : RightW a) (hS : s ≤ 5000) :
    Calls Try.prog 65 #[.agg #[.slice A n c, .int .i64 s, .slice M m d, .slice E k g]] w fun e w' => GivesC w (fnd a) e w' := by
  have HB1 := Lib.hid ((Below.refl w.heap.size w).alloc (Nat.le_refl _) (.cells #[.slice A n c, .int .i64 s, .slice M m d, .slice E k g] 25))
  have HBX := Lib.hid (BoxA.made w A n c s M m d E k g 25)
  have HST := Lib.hid h.st
  have HR := Lib.hid h
  have HRI := Lib.hid hr
  have HBw := Lib.hid hB
  have hs0 := hr.st0
  rw [h.st] at hs0
  obtain ⟨i0, hi, hz0, hz1, hz2⟩ := info_parts info_int
  obtain ⟨W1, hW1⟩ : ∃ W1, W1 = w.alloc (.cells #[.slice A n c, .int .i64 s, .slice M m d, .slice E k g] 25) := ⟨_, rfl⟩
  have hsz1 : W1.heap.size = w.heap.size + 1 := by rw [hW1]; simp
  have HB1l := HB1
  have HBXl := HBX
  rw [← hW1] at HB1 HBX
  have HW1 := Lib.hid hW1
  have HSZ := Lib.hid hsz1
  have HBT := Lib.hid (fun W (hW : Below W1.heap.size W1 W) => HB1.out.trans (hW.mono (by omega)))
  clear h hr hsz1 hW1 hB
  by_cases h0 : s = 0
  · subst h0
    have hf := Lib.hid (show fnd a = [] from fnd_zero HST.out)
    rw [hf.out]
    obtain ⟨p0, p1, p2, p3⟩ := HBXl.out
    go_enter Try.func65, Try.ntmps65
    go_wp2_with fail
    go_loop [3, 4] (fun v i => v = .slice none 0 0 ∧ i = .int .i64 0) (fun _ i => 0)
    case atStart => exact ⟨rfl, rfl⟩
    case round =>
      obtain ⟨rfl, rfl⟩ := hrel
      go_wp2_with fail
      go_ret
      exact ⟨none, 0, rfl, RdI.nil _ _ _, HB1l.out, Nat.le_refl _, by omega⟩
  · have hs1 : 0 < s := by omega
    obtain ⟨S, rfl⟩ : ∃ S : Nat, s = (S : Int) := ⟨s.toNat, by omega⟩
    have hst1 := Lib.hid (show 0 < a.st by rw [HST.out]; exact hs1)
    obtain ⟨p0, p1, p2, p3⟩ := HBXl.out
    go_enter Try.func65, Try.ntmps65
    go_wp2_with (at_builtin; refine wpList_append_own _ rfl _ _ 22 rfl (w.heap.size + 1) 3 i0 (.int .i64 0) 1 8 Try.underlying22 hi hz0 hz1 hz2 rfl (by decide) _ _ _ rfl (World.ownsRow_nil _ _ _ _) ⟨w.heap.size + 1, 0, none⟩ 1 1 [.int .i64 0] rfl rfl ?c1 ?c2 ?c3 ?c4 ?c5 ?_)
    case c1 => exact news_one (by simp)
    case c2 => intro u hu; simp at hu; subst hu; rfl
    case c3 => unfold maxLen; omega
    case c4 => omega
    case c5 => simp
    intro v1 w1 hown1 hgrow1 _
    rw [← HW1.out] at hgrow1
    rw [← HSZ.out] at hown1
    have hO1 := own_app (K := []) (K' := [0]) rfl (Below.refl W1.heap.size W1) (World.ownsRow_nil _ _ _ _) hown1 hgrow1 (Nat.le_refl _)
    have hF1 := Lib.hid (show FP W1 v1 (Fd a 0) w1 from ⟨hO1.2, hO1.1⟩)
    clear hown1 hgrow1 hO1 p0 p1 p2 p3
    go_wp2_with fail
    go_loopw [3, 4] (fun v i wr => ∃ j : Nat, i = .int .i64 j ∧ j ≤ S ∧ Hid (j ≤ (Fd a j).length) ∧ Hid (FP W1 v (Fd a j) wr)) (fun _ i _ => S - (intOf i).toNat)
    case atStart => exact ⟨0, rfl, Nat.zero_le _, Nat.zero_le _, hF1⟩
    case round =>
      clear hF1
      obtain ⟨j, rfl, hjS, hjl, hfp⟩ := hrel
      have hlenS := Fd_len HRI.out hst1.out j
      rw [HST.out, Int.toNat_natCast] at hlenS
      have HPR := Lib.hid (Fd_fnd HRI.out hst1.out j)
      obtain ⟨L, hL⟩ : ∃ L, L = (Fd a j).length := ⟨_, rfl⟩
      have HL := Lib.hid hL
      have hL1 : 1 ≤ L := by have := (Fd_mono a 0 j).length_le; rw [Nat.zero_add, ← hL] at this; simpa [Fd] using this
      rw [← hL] at hlenS
      by_cases hlt : j < L
      · obtain ⟨gF, cF, rfl, hgF, hcF, hcap, hcap2⟩ := own_shape hfp.out.ow hL hL1
        obtain ⟨q, hq⟩ : ∃ q, q = (Fd a j).getD j 0 := ⟨_, rfl⟩
        have HQ := Lib.hid hq
        have HFP := Lib.hid hfp.out
        clear hcF hL hq hfp
        go_wp2_with fail
        go_loopw [3, 5] (fun v i wx => ∃ t : Nat, i = .int .i64 t ∧ t ≤ n ∧ Hid (FP W1 v (visitL (Fd a j) (succK a q t)) wx)) (fun _ i _ => n - (intOf i).toNat)
        case atStart => exact ⟨0, rfl, Nat.zero_le _, by rw [succK_zero, visitL_nil]; exact HFP⟩
        case round =>
          clear hgF hcap hcap2
          obtain ⟨t, rfl, htn, hfp⟩ := hrel
          obtain ⟨p0, p1, p2, p3⟩ := HBX.out.below hfp.out.bel (by have := HSZ.out; omega)
          have hWz := hfp.out.bel.size
          have hSZ := HSZ.out
          by_cases htl : t < n
          · obtain ⟨bA, oA, rfl, hbA, hcA⟩ := HR.out.al (by rw [HR.out.hn]; omega)
            have hz : t < a.al.length := by rw [HR.out.hn]; exact htl
            have ca := hcA t hz
            obtain ⟨ev, hev⟩ : ∃ ev, ev = a.al.getD t 0 := ⟨_, rfl⟩
            rw [← hev] at ca
            have ca' : wr.cell? ⟨bA, oA + t, none⟩ = some (.int .i64 ev) := ((HBT.out wr hfp.out.bel).cell (p := ⟨bA, oA + t, none⟩) (Nat.lt_of_lt_of_le hbA HBw.out)).trans ca
            obtain ⟨fl, hfl⟩ : ∃ fl, fl = visitL (Fd a j) (succK a q t) := ⟨_, rfl⟩
            have hfpre : Fd a j <+: fl := by rw [hfl]; exact visitL_pre _ _
            obtain ⟨L2, hL2⟩ : ∃ L2, L2 = fl.length := ⟨_, rfl⟩
            have HL2 := Lib.hid hL2
            have hLL : L ≤ L2 := by have := hfpre.length_le; rw [← HL.out, ← hL2] at this; exact this
            rw [← hfl] at hfp
            have hflS : L2 ≤ S := by
              have hpre2 : visitL (Fd a j) (succK a q t) <+: fnd a := by
                obtain ⟨r, hr⟩ := succK_pre HRI.out q t
                have h1 : visitL (Fd a j) (succK a q t) <+: visitL (Fd a j) (succ a.ed q) := by
                  rw [← hr, visitL_app]; exact visitL_pre _ _
                rw [HQ.out, ← Fd_go (by rw [← HL.out]; exact hlt), ← HQ.out] at h1
                exact h1.trans (Fd_fnd HRI.out hst1.out (j + 1))
              have h2 := hpre2.length_le
              have h3 := fnd_len HRI.out
              rw [← hfl, ← hL2] at h2
              rw [HST.out, Int.toNat_natCast] at h3
              omega
            obtain ⟨gF2, cF2, rfl, hgF2, hcF2, hcap3, hcap4⟩ := own_shape hfp.out.ow hL2 (by omega)
            have cf : wr.cell? ⟨gF2, j, none⟩ = some (.int .i64 q) := by
              have h1 := hcF2 j (by omega)
              have h2 := getD_pre hfpre (i := j) (by rw [← HL.out]; exact hlt)
              rw [h2, ← HQ.out] at h1
              exact h1
            have z1 : (j : Int) < (L2 : Int) := by omega
            have z2 : (t : Int) < (n : Int) := by omega
            have z3 : (0 : Int) ≤ (j : Int) := by omega
            have z4 : (0 : Int) ≤ (t : Int) := by omega
            have hbn := HR.out.bn
            have HST4 := Lib.hid (show StC w.heap.size (some ⟨bA, oA, none⟩) n c (S : Int) M m d E k g gF2 j q bA (oA + t) ev wr from ⟨⟨p0, p1, p2, p3⟩, cf, ca', by omega, hgF2, by have := HBw.out; omega⟩)
            have HST4d := Lib.hid HST4.out.drew
            have hfpd := Lib.hid hfp.out.drew
            obtain ⟨tt, hto⟩ : ∃ tt, tt = stepI a q ev := ⟨_, rfl⟩
            have HTO := Lib.hid hto
            have HS := Lib.hid (fun W (hF : FP W1 (.slice (some ⟨gF2, 0, none⟩) L2 cF2) fl W) (hC : StC w.heap.size (some ⟨bA, oA, none⟩) n c (S : Int) M m d E k g gF2 j q bA (oA + t) ev W) => (rStep_any (some ⟨bA, oA, none⟩) n c (S : Int) M m d E k g a q ev B W (HR.out.below (HBT.out W hF.bel) HBw.out) (Nat.le_trans HBw.out (HBT.out W hF.bel).size)).mono (R' := fun e w'' => e = .returned (.int .i64 tt) ∧ FP W1 (.slice (some ⟨gF2, 0, none⟩) L2 cF2) fl w'' ∧ StC w.heap.size (some ⟨bA, oA, none⟩) n c (S : Int) M m d E k g gF2 j q bA (oA + t) ev w'') fun e w'' hh => ⟨by rw [hh.1, hto], hF.call hh.2, hC.call hh.2⟩)
            have HEV := Lib.hid hev
            have HFL := Lib.hid hfl
            clear hto hcF2 hcA ca hev hfl hL2
            go_wp2_with fail
            go_region_held3 (fun w' => w'.cell? ⟨w.heap.size, 0, none⟩ = some (.slice (some ⟨bA, oA, none⟩) n c) ∧ w'.cell? ⟨w.heap.size, 1, none⟩ = some (.int .i64 (S : Int)) ∧ w'.cell? ⟨w.heap.size, 2, none⟩ = some (.slice M m d) ∧ w'.cell? ⟨w.heap.size, 3, none⟩ = some (.slice E k g) ∧ w'.cell? ⟨gF2, j, none⟩ = some (.int .i64 q) ∧ w'.cell? ⟨bA, oA + t, none⟩ = some (.int .i64 ev)) (first | with_reducible exact ⟨p0, p1, p2, p3, cf, ca'⟩ | go_keep)
              (first
              | (go_simp; go_at_call 37; (first | with_reducible refine (HS.out _ hfp.out HST4.out).mono ?_ | with_reducible refine (HS.out _ hfpd.out HST4d.out).mono ?_); rintro e w4 ⟨rfl, hF4, hC4⟩
                 have HF4 := Lib.hid hF4
                 have HC4 := Lib.hid hC4
                 obtain ⟨⟨p0, p1, p2, p3⟩, cf, ca', _, _, _⟩ := hC4
                 clear hF4))
            all_goals
              cases he : edgeO a.ed q ev with
              | none =>
                have hto := stepI_no he
                rw [← HTO.out] at hto
                subst hto
                have hnx := Lib.hid (show visitL (Fd a j) (succK a q (t + 1)) = fl by rw [succK_none hz (by rw [← HEV.out]; exact he), HFL.out])
                clear he
                go_wp2_with fail
                go_roundw
                case rel => exact ⟨t + 1, by go_num, by omega, by rw [hnx.out]; first | exact HF4 | exact Lib.hid HF4.out.drew⟩
                case measure => simp [intOf]; omega
              | some x =>
                have hto := stepI_of he
                rw [← HTO.out] at hto
                have hxr := (HRI.out.edr x ((edgeO_some HRI.out.edo).1 he).1).2.1
                rw [← hto] at hxr
                have hnx := Lib.hid (show visitL (Fd a j) (succK a q (t + 1)) = visit fl tt by rw [succK_some hz (by rw [← HEV.out]; exact he), visitL_snoc, ← HFL.out, hto])
                have hto0 : 0 ≤ tt := hxr.1
                obtain ⟨A', c', e', hrd, _, _⟩ := own_rdc HF4.out.ow
                rw [← HL2.out] at e'
                injection e' with e1 e2 e3
                subst e1; subst e3
                have HRD := Lib.hid hrd
                clear he hxr hto hrd
                obtain ⟨r, hr⟩ : ∃ r, r = decide (tt ∈ fl) := ⟨_, rfl⟩
                have HH := Lib.hid (fun W (hW : RdI W W.heap.size (some ⟨gF2, 0, none⟩) fl) => by
                  have := rHas_any (some ⟨gF2, 0, none⟩) L2 cF2 W.heap.size fl tt W hW HL2.out.symm (by omega)
                  rw [← hr] at this; exact this)
                have HRr := Lib.hid hr
                clear hr
                have HRDd := Lib.hid (HRD.out.dr 1)
                cases r
                · have hni := Lib.hid (show tt ∉ fl by have := HRr.out; simpa using this.symm)
                  go_wp2_with fail
                  refine (HH.out _ (by first | exact HRD.out | exact HRDd.out)).mono ?_
                  rintro e w5 ⟨rfl, rfl⟩
                  have HO4 := Lib.hid (show w4.ownsRow W1.heap.size 3 1 (.slice (some ⟨gF2, 0, none⟩) L2 cF2) L2 (fl.map (Value.int .i64)) by have := HF4.out.ow; unfold Own at this; rwa [← HL2.out] at this)
                  have hb4 := HF4.out.bel.size
                  go_wp2_with (at_builtin; refine wpList_append_own _ rfl _ _ 22 rfl W1.heap.size 3 i0 (.int .i64 0) 1 8 Try.underlying22 hi hz0 hz1 hz2 rfl (by decide) _ _ _ rfl (HO4.out.alloc _) ⟨w4.heap.size, 0, none⟩ 1 1 [.int .i64 tt] rfl rfl ?c1 ?c2 ?c3 ?c4 ?c5 ?_)
                  case c1 => exact own_one
                  case c2 => intro u hu; simp at hu; subst hu; rfl
                  case c3 => unfold maxLen; omega
                  case c4 => omega
                  case c5 => simp; omega
                  intro v5 w5 hown5 hgrow5 _
                  rw [HL2.out, ← HSZ.out] at hown5
                  have hO5 := own_app (K' := fl ++ [tt]) rfl HF4.out.bel HF4.out.ow hown5 hgrow5 (Nat.le_refl _)
                  have hF6 := Lib.hid (show FP W1 v5 (fl ++ [tt]) w5 from ⟨hO5.2, hO5.1⟩)
                  clear hown5 hgrow5 hO5
                  go_wp2_with fail
                  go_roundw
                  case rel => exact ⟨t + 1, by go_num, by omega, by rw [hnx.out, visit_new hni.out]; exact hF6⟩
                  case measure => simp [intOf]; omega
                · have hin := Lib.hid (show tt ∈ fl by have := HRr.out; simpa using this.symm)
                  go_wp2_with fail
                  refine (HH.out _ (by first | exact HRD.out | exact HRDd.out)).mono ?_
                  rintro e w5 ⟨rfl, rfl⟩
                  go_wp2_with fail
                  go_roundw
                  case rel => exact ⟨t + 1, by go_num, by omega, by rw [hnx.out, visit_in hin.out]; first | exact HF4 | exact Lib.hid HF4.out.drew⟩
                  case measure => simp [intOf]; omega
          · obtain rfl : t = n := by omega
            have hFs : visitL (Fd a j) (succK a q t) = Fd a (j + 1) := by
              rw [succK_all HRI.out HR.out.hn, Fd_go (by rw [← HL.out]; exact hlt), HQ.out]
            rw [hFs] at hfp
            have hln := Lib.hid (show j + 1 ≤ (Fd a (j + 1)).length by have := (Fd_pre a j).length_le; rw [← HL.out] at this; omega)
            clear hFs
            go_wp2_with fail
            go_roundw
            case rel => exact ⟨j + 1, by go_num, by omega, hln, hfp⟩
            case measure => simp [intOf]; omega
      · obtain rfl : j = L := by have := hjl.out; rw [← HL.out] at this; omega
        have hfn : fnd a = Fd a j := fnd_at HRI.out hst1.out (by rw [← HL.out]; exact Nat.le_refl _) (by rw [HST.out]; simp; omega)
        rw [← hfn] at hfp HL
        obtain ⟨A', c', rfl, hrd, hc1, hc2⟩ := own_rdc hfp.out.ow
        have HF := Lib.hid hfp.out
        have HRD := Lib.hid hrd
        rw [← HL.out] at HF hc1
        clear hfp hrd hfn hL
        have HL9 := Lib.hid HL.out.symm
        rw [HL9.out]
        go_wp2_with fail
        go_ret
        exact ⟨A', c', by rw [HL9.out]; rfl, HRD.out, HBT.out _ HF.out.bel, by rw [HL9.out]; exact hc1, hc2⟩
end Go.Proofs.Ytcciiikaejjooaa
