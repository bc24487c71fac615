/- Layer 3: Enabled and IsCanonical of the program. -/
import Derived.Test.YtcciiikaejjooaaaRFnd
import Derived.Test.YtcciiikaejjooaaaSame
namespace Go.Proofs.Ytcciiikaejjooaa
open Go.RowKit Go.Sort

/-- What Enabled hands back. -/
def enR (a : Au) (q : Int) : List Int × Int := if plE a q ≠ 0 then ([], plE a q) else ((succ a.ed q).map Ed.e, 0)
/-- A list in new memory and an error. -/
def GivesP (w : World) (r : List Int × Int) (e : Ending) (w' : World) : Prop := ∃ A c, e = .returned (.tuple #[.slice A r.1.length c, .int .i64 r.2]) ∧ RdI w' w'.heap.size A r.1 ∧ Below w.heap.size w w' ∧ r.1.length ≤ c ∧ c ≤ 9223372036854775807
theorem succ_take_yes {l : List Ed} {t : Nat} {x : Ed} {q : Int} (h : l[t]? = some x) (hq : x.f = q) : (succ (l.take (t + 1)) q).map Ed.e = (succ (l.take t) q).map Ed.e ++ [x.e] := by
  rw [take_succ_ed h]; unfold succ; rw [List.filter_append, List.map_append]; simp [hq]
theorem succ_take_no {l : List Ed} {t : Nat} {x : Ed} {q : Int} (h : l[t]? = some x) (hq : ¬ x.f = q) : (succ (l.take (t + 1)) q).map Ed.e = (succ (l.take t) q).map Ed.e := by
  rw [take_succ_ed h]; unfold succ; rw [List.filter_append]; simp [hq]
theorem succ_take_len (l : List Ed) (t : Nat) (q : Int) : ((succ (l.take t) q).map Ed.e).length ≤ t := by
  rw [List.length_map]; unfold succ
  exact Nat.le_trans (List.length_filter_le _ _) (List.length_take_le _ _)

set_option maxHeartbeats 4000000 in
set_option maxRecDepth 100000 in
theorem mEnabled_any (A : Option Addr) (n c : Nat) (s : Int) (M : Option Addr) (m d : Nat) (E : Option Addr) (k g : Nat) (a : Au) (q : Int) (w : World) (h : AuR w w.heap.size A n c s M m d E k g a) :
    Calls Try.prog 20 #[.agg #[.slice A n c, .int .i64 s, .slice M m d, .slice E k g], .int .i64 q] w fun e w' => GivesP w (enR a q) e w' := by
  have HB1 := Lib.hid ((Below.refl w.heap.size w).alloc (Nat.le_refl _) (.cells #[.slice A n c, .int .i64 s, .slice M m d, .slice E k g] 25))
  have hR1 := (h.below HB1.out (Nat.le_refl _))
  have HP := Lib.hid (checkPlace_any A n c s M m d E k g a q _ (hR1.more (by simp)))
  have HX := Lib.hid (BoxA.made w A n c s M m d E k g 25)
  have HR := Lib.hid h
  obtain ⟨i0, hi, hz0, hz1, hz2⟩ := info_parts info_int
  obtain ⟨u, hu⟩ : ∃ u, u = plE a q := ⟨_, rfl⟩
  rw [← hu] at HP
  have HU := Lib.hid hu
  clear h hR1 hu
  by_cases h0 : u = 0
  · have hb0 : (u != 0) = false := by simp [h0]
    have hr := Lib.hid (show enR a q = ((succ a.ed q).map Ed.e, 0) by rw [enR, if_neg (by rw [← HU.out, h0]; simp)])
    rw [hr.out]
    clear h0
    go_enter Try.func20, Try.ntmps20
    go_wp2_with fail
    refine HP.out.mono ?_
    rintro e w1 ⟨rfl, hbw⟩
    have hB1 := Lib.hid (HB1.out.trans (hbw.mono (by simp)))
    have hX1 := Lib.hid (HX.out.below hbw (by simp))
    have hz := hbw.size
    simp only [World.size_alloc] at hz
    clear hbw
    obtain ⟨p0, p1, p2, p3⟩ := hX1.out
    go_wp2_with fail
    go_loopw [7, 19] (fun v i wr => ∃ t : Nat, t ≤ k ∧ i = .int .i64 t ∧ Hid (FP w1 v ((succ (a.ed.take t) q).map Ed.e) wr)) (fun _ i _ => k - (intOf i).toNat)
    case atStart => exact ⟨0, Nat.zero_le _, rfl, ⟨Below.refl _ _, World.ownsRow_nil _ _ _ _⟩⟩
    case round =>
      clear p0 p1 p2 p3
      obtain ⟨t, htk, rfl, hfp⟩ := hrel
      have hbk := HR.out.bk
      have hsz := hfp.out.bel.size
      by_cases htl : t < k
      · obtain ⟨b1, o1, rfl, hb1, hc1⟩ := HR.out.ed (by rw [HR.out.hk]; omega)
        obtain ⟨x, hx⟩ := edAt (l := a.ed) (k := t) (by rw [HR.out.hk]; exact htl)
        obtain ⟨x0, x1, x2⟩ : EdAt wr b1 (o1 + t * 3) x := (hc1 t x hx).keep fun o => (hB1.out.trans (hfp.out.bel.mono hB1.out.size)).cell (p := ⟨b1, o, none⟩) hb1
        have HX2 := Lib.hid hx
        have hll := succ_take_len a.ed t q
        obtain ⟨K0, hK0⟩ : ∃ K0, K0 = (succ (a.ed.take t) q).map Ed.e := ⟨_, rfl⟩
        have HK0 := Lib.hid hK0
        rw [← hK0] at hfp hll
        clear hK0
        obtain ⟨xf, xe, xt⟩ := x
        simp only at x0 x1 x2
        have HF2 := Lib.hid (hfp.out.call ((Below.refl wr.heap.size wr).alloc (Nat.le_refl _) (.cells #[.int .i64 xf, .int .i64 xe, .int .i64 xt] 67)))
        clear hx hc1
        by_cases hq : xf = q
        · have hqq : (xf == q) = true := by simp [hq]
          have hy := Lib.hid (show (succ (a.ed.take (t + 1)) q).map Ed.e = K0 ++ [xe] by rw [succ_take_yes HX2.out hq, HK0.out])
          clear hq
          go_wp2_with (at_builtin; refine wpList_append_own _ rfl _ _ 22 rfl w1.heap.size 3 i0 (.int .i64 0) 1 8 Try.underlying22 hi hz0 hz1 hz2 rfl (by decide) _ _ _ rfl (HF2.out.ow.alloc _) ⟨wr.heap.size + 1, 0, none⟩ 1 1 [.int .i64 xe] rfl rfl (news_one (by simp)) (by intro u hu; simp at hu; subst hu; rfl) (by unfold maxLen; omega) (by omega) (by simp; omega) ?_)
          intro v5 w5 hown5 hgrow5 _
          have hO5 := own_app (K' := (succ (a.ed.take (t + 1)) q).map Ed.e) hy.out HF2.out.bel HF2.out.ow hown5 hgrow5 (Nat.le_refl _)
          have hF6 := Lib.hid (show FP w1 v5 ((succ (a.ed.take (t + 1)) q).map Ed.e) w5 from ⟨hO5.2, hO5.1⟩)
          clear hown5 hgrow5 hO5
          go_wp2_with fail
          go_roundw
          case rel => exact ⟨t + 1, by omega, by go_num, hF6⟩
          case measure => simp [intOf]; omega
        · have hqq : (xf == q) = false := by simp [hq]
          have hy := Lib.hid (show (succ (a.ed.take (t + 1)) q).map Ed.e = K0 by rw [succ_take_no HX2.out hq, HK0.out])
          clear hq
          go_wp2_with fail
          go_roundw
          case rel => exact ⟨t + 1, by omega, by go_num, by rw [hy.out]; exact HF2⟩
          case measure => simp [intOf]; omega
      · obtain rfl : t = k := by omega
        rw [List.take_of_length_le (by rw [HR.out.hk]; exact Nat.le_refl _)] at hfp
        obtain ⟨A', c', rfl, hrd, hc1, hc2⟩ := own_rdc hfp.out.ow
        have HF := Lib.hid hfp.out
        have HRD := Lib.hid hrd
        clear hfp hrd
        go_wp2_with fail
        go_ret2
        exact ⟨A', c', rfl, HRD.out, hB1.out.trans (HF.out.bel.mono hB1.out.size), hc1, hc2⟩
  · have hb0 : (u != 0) = true := by simp [h0]
    have hr := Lib.hid (show enR a q = ([], u) by rw [enR, if_pos (by rw [← HU.out]; exact h0), HU.out])
    rw [hr.out]
    clear h0
    go_enter Try.func20, Try.ntmps20
    go_wp2_with fail
    refine HP.out.mono ?_
    rintro e w1 ⟨rfl, hbw⟩
    have hB1 := Lib.hid (HB1.out.trans (hbw.mono (by simp)))
    clear hbw
    go_wp2_with fail
    go_ret2
    exact ⟨none, 0, rfl, RdI.nil _ _ _, hB1.out, Nat.le_refl _, by omega⟩

/-- Whether an automaton is right and its own canonical form. -/
def isC (a : Au) : Bool := decide (chkE a = 0) && decide (a = canA a)
/-- The argument's box. -/
structure IB (w : World) (A : Option Addr) (n c : Nat) (s : Int) (M : Option Addr) (m d : Nat) (E : Option Addr) (k g : Nat) (w' : World) : Prop where
  bel : Below w.heap.size w w'
  bx : BoxA w' w.heap.size A n c s M m d E k g
  lt : w.heap.size < w'.heap.size
section
variable {w w1 w2 : World} {A : Option Addr} {n c : Nat} {s : Int} {M : Option Addr} {m d : Nat} {E : Option Addr} {k g : Nat}
theorem IB.call (h : IB w A n c s M m d E k g w1) (hb : Below w1.heap.size w1 w2) : IB w A n c s M m d E k g w2 := ⟨h.bel.trans (hb.mono h.bel.size), h.bx.below hb h.lt, Nat.lt_of_lt_of_le h.lt hb.size⟩
theorem IB.drew (h : IB w A n c s M m d E k g w1) : IB w A n c s M m d E k g w1.drew := ⟨h.bel.drew, ⟨h.bx.c0, h.bx.c1, h.bx.c2, h.bx.c3⟩, h.lt⟩
theorem IB.made (w : World) : IB w A n c s M m d E k g (w.alloc (.cells #[.slice A n c, .int .i64 s, .slice M m d, .slice E k g] 25)) := ⟨(Below.refl _ _).alloc (Nat.le_refl _) _, BoxA.made w A n c s M m d E k g 25, by simp⟩
end

set_option maxHeartbeats 4000000 in
set_option maxRecDepth 100000 in
theorem mIsCanonical_any (A : Option Addr) (n c : Nat) (s : Int) (M : Option Addr) (m d : Nat) (E : Option Addr) (k g : Nat) (a : Au) (w : World) (h : AuR w w.heap.size A n c s M m d E k g a) :
    Calls Try.prog 28 #[.agg #[.slice A n c, .int .i64 s, .slice M m d, .slice E k g]] w fun e w' => e = .returned (.bool (isC a)) ∧ Below w.heap.size w w' := by
  have HI0 := Lib.hid (IB.made (A := A) (n := n) (c := c) (s := s) (M := M) (m := m) (d := d) (E := E) (k := k) (g := g) w)
  have HI0d := Lib.hid HI0.out.drew
  have HAt := Lib.hid (fun W (hW : Below w.heap.size w W) => (h.below hW (Nat.le_refl _)).more hW.size)
  obtain ⟨u, hu⟩ : ∃ u, u = chkE a := ⟨_, rfl⟩
  have HC := Lib.hid (fun W (hI : IB w A n c s M m d E k g W) => (mCheck_any A n c s M m d E k g a W (HAt.out W hI.bel)).mono (R' := fun e w' => e = .returned (.int .i64 u) ∧ IB w A n c s M m d E k g w') fun e w' hh => ⟨by rw [hh.1, hu], hI.call hh.2⟩)
  have HU := Lib.hid hu
  obtain ⟨p0, p1, p2, p3⟩ := HI0.out.bx
  by_cases h0 : u = 0
  · have hri := Lib.hid (right_of (a := a) (by rw [← hu, h0]))
    obtain ⟨r, hr⟩ : ∃ r, r = decide (a = canA a) := ⟨_, rfl⟩
    have hisC := Lib.hid (show isC a = r by rw [isC, ← hu, ← hr, h0]; simp)
    rw [hisC.out]
    have HCan := Lib.hid (fun W (hI : IB w A n c s M m d E k g W) => (canon_all A n c s M m d E k g a W.heap.size W (HAt.out W hI.bel) (Nat.le_refl _) hri.out.toRightW (by have := hri.out.st1; omega)).mono (R' := fun e w' => ∃ A2 n2 c2 s2 M2 m2 d2 E2 k2 g2, e = .returned (.agg #[.slice A2 n2 c2, .int .i64 s2, .slice M2 m2 d2, .slice E2 k2 g2]) ∧ AuR w' w'.heap.size A2 n2 c2 s2 M2 m2 d2 E2 k2 g2 (canA a) ∧ IB w A n c s M m d E k g w') fun e w' hh => by
      obtain ⟨v, e1, ⟨A2, n2, c2, s2, M2, m2, d2, E2, k2, g2, rfl, hx, _⟩, hb⟩ := hh
      exact ⟨A2, n2, c2, s2, M2, m2, d2, E2, k2, g2, e1, hx, hI.call hb⟩)
    have HRr := Lib.hid hr
    have hd : (u == 0) = true := by simp [h0]
    clear h hu hr h0
    go_enter Try.func28, Try.ntmps28
    go_wp2_with fail
    go_region_held3 (fun w' => w'.cell? ⟨w.heap.size, 0, none⟩ = some (.slice A n c) ∧ w'.cell? ⟨w.heap.size, 1, none⟩ = some (.int .i64 s) ∧ w'.cell? ⟨w.heap.size, 2, none⟩ = some (.slice M m d) ∧ w'.cell? ⟨w.heap.size, 3, none⟩ = some (.slice E k g)) (first | with_reducible exact ⟨p0, p1, p2, p3⟩ | go_keep)
      (first
      | (go_simp; go_at_call 16; (first | with_reducible refine (HC.out _ HI0.out).mono ?_ | with_reducible refine (HC.out _ HI0d.out).mono ?_); rintro e w3 ⟨rfl, hI3⟩
         have HI3 := Lib.hid hI3
         have HI3d := Lib.hid hI3.drew
         obtain ⟨p0, p1, p2, p3⟩ := hI3.bx
         clear hI3)
      | (go_simp; go_at_call 51; (first | with_reducible refine (HCan.out _ HI3.out).mono ?_ | with_reducible refine (HCan.out _ HI3d.out).mono ?_); rintro e w4 ⟨A2, n2, c2, s2, M2, m2, d2, E2, k2, g2, rfl, hau, hI4⟩
         have HI4 := Lib.hid hI4
         have HI4d := Lib.hid hI4.drew
         have HE4 := Lib.hid ((mEqual_any A n c s M m d E k g A2 n2 c2 s2 M2 m2 d2 E2 k2 g2 a (canA a) w4.heap.size w4 (HAt.out w4 hI4.bel) hau (Nat.le_refl _)).mono (R' := fun e w' => e = .returned (.bool r) ∧ IB w A n c s M m d E k g w') fun e w' hh => ⟨by rw [hh.1, ← HRr.out], hI4.call hh.2⟩)
         have HE4d := Lib.hid ((mEqual_any A n c s M m d E k g A2 n2 c2 s2 M2 m2 d2 E2 k2 g2 a (canA a) w4.heap.size w4.drew (HAt.out w4.drew hI4.drew.bel) (AuR.keep hau fun b o _ => rfl) (Nat.le_refl _)).mono (R' := fun e w' => e = .returned (.bool r) ∧ IB w A n c s M m d E k g w') fun e w' hh => ⟨by rw [hh.1, ← HRr.out], hI4.drew.call hh.2⟩)
         obtain ⟨p0, p1, p2, p3⟩ := hI4.bx
         clear hI4 hau)
      | (go_simp; go_at_call 31; (first | with_reducible refine HE4.out.mono ?_ | with_reducible refine HE4d.out.mono ?_); rintro e w5 ⟨rfl, hI5⟩
         have HI5 := Lib.hid hI5
         obtain ⟨p0, p1, p2, p3⟩ := hI5.bx
         clear hI5))
    all_goals
      go_wp2_with fail
      go_ret
      exact ⟨rfl, by first | exact HI5.out.bel | exact HI5.out.bel.drew⟩
  · have hisC := Lib.hid (show isC a = false by rw [isC, ← hu]; simp [h0])
    rw [hisC.out]
    have hd : (u == 0) = false := by simp [h0]
    clear h hu h0
    go_enter Try.func28, Try.ntmps28
    go_wp2_with fail
    go_region_law (first
      | (go_simp; go_at_call 16; refine (HC.out _ HI0d.out).mono ?_; rintro e w3 ⟨rfl, hI3⟩
         have HI3 := Lib.hid hI3
         obtain ⟨p0, p1, p2, p3⟩ := hI3.bx
         clear hI3))
    all_goals
      go_wp2_with fail
      go_ret
      exact ⟨rfl, by first | exact HI3.out.bel | exact HI3.out.bel.drew⟩
end Go.Proofs.Ytcciiikaejjooaa
