/- Layer 3: Run, Generates, Accepts, Enabled of the reference. -/
import Derived.Test.YtcciiikaejjooaaaEn
namespace Go.Proofs.Ytcciiikaejjooaa
open Go.RowKit Go.Sort

theorem stepI_neg {a : Au} {q ev : Int} (h : stepO a q ev = none) : stepI a q ev = -1 := by rw [stepI, h]; rfl
theorem stepI_pos {a : Au} {q ev t : Int} (h : stepO a q ev = some t) : stepI a q ev = t := by rw [stepI, h]; rfl

set_option maxHeartbeats 4000000 in
set_option maxRecDepth 100000 in
theorem rRun_any (A : Option Addr) (n c : Nat) (s : Int) (M : Option Addr) (m d : Nat) (E : Option Addr) (k g : Nat) (a : Au) (q : Int) (W1 : Option Addr) (l lc : Nat) (ws : List Int) (B : Nat) (w : World) (h : AuR w B A n c s M m d E k g a) (hB : B ≤ w.heap.size) (hr : RightW a) (hw : RdI w B W1 ws) (hl : ws.length = l) (hlb : l ≤ 100000) :
    Calls Try.prog 40 #[.agg #[.slice A n c, .int .i64 s, .slice M m d, .slice E k g], .int .i64 q, .slice W1 l lc] w fun e w' => e = .returned (.tuple #[.int .i64 (runE a q ws).1, .int .i64 (runE a q ws).2]) ∧ Below w.heap.size w w' := by
  have HI0 := Lib.hid (IB.made (A := A) (n := n) (c := c) (s := s) (M := M) (m := m) (d := d) (E := E) (k := k) (g := g) w)
  have HR := Lib.hid h
  have HRI := Lib.hid hr
  have HW := Lib.hid hw
  have HWL := Lib.hid hl
  have HBw := Lib.hid hB
  obtain ⟨v, hv⟩ : ∃ v, v = runE a q ws := ⟨_, rfl⟩
  rw [← hv]
  have HV := Lib.hid hv
  clear h hr hw hl hB hv
  go_enter Try.func40, Try.ntmps40
  go_wp2_with fail
  go_loopw [1, 8] (fun fr i wr => ∃ (t : Nat) (p : Int), t ≤ l ∧ i = .int .i64 t ∧ fr = .int .i64 p ∧ Hid (v = ((runE a p (ws.drop t)).1, (runE a p (ws.drop t)).2 + t)) ∧ Hid (IB w A n c s M m d E k g wr)) (fun _ i _ => l - (intOf i).toNat)
  case atStart => exact ⟨0, q, Nat.zero_le _, rfl, rfl, by show v = _; rw [HV.out, List.drop_zero, Nat.add_zero], HI0⟩
  case round =>
    obtain ⟨t, p, htl, rfl, rfl, hv, hi⟩ := hrel
    by_cases hlt : t < l
    · obtain ⟨b1, o1, rfl, hb1, hc1⟩ := HW.out (by rw [HWL.out]; omega)
      have hz : t < ws.length := by rw [HWL.out]; exact hlt
      obtain ⟨x, hx⟩ : ∃ x, x = ws.getD t 0 := ⟨_, rfl⟩
      have CX := Lib.hid (fun W (hW : Below w.heap.size w W) => by
        have := (hW.cell (p := ⟨b1, o1 + t, none⟩) (Nat.lt_of_lt_of_le hb1 HBw.out)).trans (hc1 t hz)
        rw [← hx] at this; exact this)
      have cx := CX.out wr hi.out.bel
      obtain ⟨p0, p1, p2, p3⟩ := hi.out.bx
      have hid := Lib.hid hi.out.drew
      obtain ⟨tt, htt⟩ : ∃ tt, tt = stepI a p x := ⟨_, rfl⟩
      have HTT := Lib.hid htt
      have HXX := Lib.hid hx
      have HS := Lib.hid (fun W (hI : IB w A n c s M m d E k g W) => (rStep_any A n c s M m d E k g a p x B W (HR.out.below hI.bel HBw.out) (Nat.le_trans HBw.out hI.bel.size)).mono (R' := fun e w' => e = .returned (.int .i64 tt) ∧ IB w A n c s M m d E k g w') fun e w' hh => ⟨by rw [hh.1, htt], hI.call hh.2⟩)
      have z1 : (t : Int) < (l : Int) := by omega
      have z2 : (0 : Int) ≤ (t : Int) := by omega
      clear hc1 hx htt
      go_wp2_with fail
      go_region_held3 (fun w' => w'.cell? ⟨w.heap.size, 0, none⟩ = some (.slice A n c) ∧ w'.cell? ⟨w.heap.size, 1, none⟩ = some (.int .i64 s) ∧ w'.cell? ⟨w.heap.size, 2, none⟩ = some (.slice M m d) ∧ w'.cell? ⟨w.heap.size, 3, none⟩ = some (.slice E k g) ∧ w'.cell? ⟨b1, o1 + t, none⟩ = some (.int .i64 x)) (first | with_reducible exact ⟨p0, p1, p2, p3, cx⟩ | go_keep)
        (first
        | (go_simp; go_at_call 37; (first | with_reducible refine (HS.out _ hi.out).mono ?_ | with_reducible refine (HS.out _ hid.out).mono ?_); rintro e w4 ⟨rfl, hg⟩
           have HG := Lib.hid hg
           have HGd := Lib.hid hg.drew
           obtain ⟨p0, p1, p2, p3⟩ := hg.bx
           have cx := CX.out _ hg.bel
           clear hg))
      all_goals
        cases he : stepO a p x with
        | none =>
          have hto := stepI_neg he
          rw [← HTT.out] at hto
          subst hto
          have hf := Lib.hid (run_step_stop hz HXX.out hv.out he)
          clear he
          go_wp2_with fail
          go_ret2
          exact ⟨by rw [hf.out]; rfl, by first | exact HG.out.bel | exact HGd.out.bel⟩
        | some y =>
          have hto := stepI_pos he
          rw [← HTT.out] at hto
          have hy := (step_range HRI.out he).1
          rw [← hto] at hy he
          have hf := Lib.hid (run_step_go hz HXX.out hv.out he)
          clear he hto
          go_wp2_with fail
          go_roundw
          case rel => exact ⟨t + 1, tt, by omega, by go_num, rfl, hf, by first | exact HG | exact HGd⟩
          case measure => simp [intOf]; omega
    · obtain rfl : t = l := by omega
      have hf := Lib.hid (run_step_end HWL.out.symm hv.out)
      go_wp2_with fail
      go_ret2
      exact ⟨by rw [hf.out]; rfl, hi.out.bel⟩

theorem gen_pos {a : Au} (h : RightW a) (ws : List Int) : genB a ws = (decide (0 < a.st) && decide ((runE a 0 ws).2 = ws.length)) := by
  have := h.st0
  unfold genB
  congr 1
  rw [decide_eq_decide]; omega

set_option maxHeartbeats 4000000 in
set_option maxRecDepth 100000 in
theorem rGenerates_any (A : Option Addr) (n c : Nat) (s : Int) (M : Option Addr) (m d : Nat) (E : Option Addr) (k g : Nat) (a : Au) (W1 : Option Addr) (l lc : Nat) (ws : List Int) (B : Nat) (w : World) (h : AuR w B A n c s M m d E k g a) (hB : B ≤ w.heap.size) (hr : RightW a) (hw : RdI w B W1 ws) (hl : ws.length = l) (hlb : l ≤ 100000) :
    Calls Try.prog 38 #[.agg #[.slice A n c, .int .i64 s, .slice M m d, .slice E k g], .slice W1 l lc] w fun e w' => e = .returned (.bool (genB a ws)) ∧ Below w.heap.size w w' := by
  have hI0 := IB.made (A := A) (n := n) (c := c) (s := s) (M := M) (m := m) (d := d) (E := E) (k := k) (g := g) w
  have HI0 := Lib.hid hI0
  have HRun := Lib.hid (rRun_any A n c s M m d E k g a 0 W1 l lc ws B _ (h.below hI0.bel hB) (Nat.le_trans hB hI0.bel.size) hr (hw.below hI0.bel hB) hl hlb)
  have hg := gen_pos hr ws
  rw [h.st, hl] at hg
  obtain ⟨v, hv⟩ : ∃ v, v = runE a 0 ws := ⟨_, rfl⟩
  rw [← hv] at HRun hg
  rw [hg]
  clear h hB hr hw hl hv hg hI0
  obtain ⟨v1, v2⟩ := v
  by_cases h0 : 0 < s
  · by_cases h2 : v2 = l
    · have hd : ((v2 : Int) == (l : Int)) = true := by simp [h2]
      have hf := Lib.hid (show (decide (0 < s) && decide (v2 = l)) = true by simp [h0, h2])
      clear h2
      rw [hf.out]
      go_enter Try.func38, Try.ntmps38
      go_wp2_with fail
      refine HRun.out.mono ?_
      rintro e w1 ⟨rfl, hb⟩
      have hI1 := Lib.hid (HI0.out.call hb)
      obtain ⟨p0, p1, p2, p3⟩ := hI1.out.bx
      clear hb
      go_wp2_with fail
      go_ret
      exact ⟨rfl, hI1.out.bel⟩
    · have hd : ((v2 : Int) == (l : Int)) = false := by simp; omega
      have hf := Lib.hid (show (decide (0 < s) && decide (v2 = l)) = false by simp [h2])
      clear h2
      rw [hf.out]
      go_enter Try.func38, Try.ntmps38
      go_wp2_with fail
      refine HRun.out.mono ?_
      rintro e w1 ⟨rfl, hb⟩
      have hI1 := Lib.hid (HI0.out.call hb)
      obtain ⟨p0, p1, p2, p3⟩ := hI1.out.bx
      clear hb
      go_wp2_with fail
      go_ret
      exact ⟨rfl, hI1.out.bel⟩
  · have hf := Lib.hid (show (decide (0 < s) && decide (v2 = l)) = false by simp [h0])
    rw [hf.out]
    go_enter Try.func38, Try.ntmps38
    go_wp2_with fail
    refine HRun.out.mono ?_
    rintro e w1 ⟨rfl, hb⟩
    have hI1 := Lib.hid (HI0.out.call hb)
    obtain ⟨p0, p1, p2, p3⟩ := hI1.out.bx
    clear hb
    go_wp2_with fail
    go_ret
    exact ⟨rfl, hI1.out.bel⟩

set_option maxHeartbeats 4000000 in
set_option maxRecDepth 100000 in
theorem rAccepts_any (A : Option Addr) (n c : Nat) (s : Int) (M : Option Addr) (m d : Nat) (E : Option Addr) (k g : Nat) (a : Au) (W1 : Option Addr) (l lc : Nat) (ws : List Int) (B : Nat) (w : World) (h : AuR w B A n c s M m d E k g a) (hB : B ≤ w.heap.size) (hr : RightW a) (hw : RdI w B W1 ws) (hl : ws.length = l) (hlb : l ≤ 100000) :
    Calls Try.prog 39 #[.agg #[.slice A n c, .int .i64 s, .slice M m d, .slice E k g], .slice W1 l lc] w fun e w' => e = .returned (.bool (accB a ws)) ∧ Below w.heap.size w w' := by
  have hI0 := IB.made (A := A) (n := n) (c := c) (s := s) (M := M) (m := m) (d := d) (E := E) (k := k) (g := g) w
  have HI0 := Lib.hid hI0
  have HRun := Lib.hid (rRun_any A n c s M m d E k g a 0 W1 l lc ws B _ (h.below hI0.bel hB) (Nat.le_trans hB hI0.bel.size) hr (hw.below hI0.bel hB) hl hlb)
  have hg := gen_pos hr ws
  rw [h.st, hl] at hg
  have ha : accB a ws = (genB a ws && decide ((runE a 0 ws).1 ∈ a.mr)) := rfl
  obtain ⟨v, hv⟩ : ∃ v, v = runE a 0 ws := ⟨_, rfl⟩
  rw [← hv] at HRun hg ha
  rw [ha, hg]
  have HH := Lib.hid (fun W (hW : Below w.heap.size w W) => rHas_any M m d B a.mr v.1 W (h.mr.below hW hB) h.hm (by have := h.bm; omega))
  obtain ⟨r, hrr⟩ : ∃ r, r = decide (v.1 ∈ a.mr) := ⟨_, rfl⟩
  rw [← hrr] at HH ⊢
  clear h hB hr hw hl hv hg hI0 ha hrr
  obtain ⟨v1, v2⟩ := v
  by_cases h0 : 0 < s
  · by_cases h2 : v2 = l
    · have hd : ((v2 : Int) == (l : Int)) = true := by simp [h2]
      have hf := Lib.hid (show ((decide (0 < s) && decide (v2 = l)) && r) = r by simp [h0, h2])
      clear h2
      show Calls _ _ _ _ fun e w' => e = .returned (.bool ((decide (0 < s) && decide (v2 = l)) && r)) ∧ _
      rw [hf.out]
      go_enter Try.func39, Try.ntmps39
      go_wp2_with fail
      refine HRun.out.mono ?_
      rintro e w1 ⟨rfl, hb⟩
      have hI1 := Lib.hid (HI0.out.call hb)
      obtain ⟨p0, p1, p2, p3⟩ := hI1.out.bx
      clear hb
      go_wp2_with fail
      refine (HH.out _ hI1.out.bel).mono ?_
      rintro e w2 ⟨rfl, rfl⟩
      go_wp2_with fail
      go_ret
      exact ⟨rfl, hI1.out.bel⟩
    · have hd : ((v2 : Int) == (l : Int)) = false := by simp; omega
      have hf := Lib.hid (show ((decide (0 < s) && decide (v2 = l)) && r) = false by simp [h2])
      clear h2
      show Calls _ _ _ _ fun e w' => e = .returned (.bool ((decide (0 < s) && decide (v2 = l)) && r)) ∧ _
      rw [hf.out]
      go_enter Try.func39, Try.ntmps39
      go_wp2_with fail
      refine HRun.out.mono ?_
      rintro e w1 ⟨rfl, hb⟩
      have hI1 := Lib.hid (HI0.out.call hb)
      obtain ⟨p0, p1, p2, p3⟩ := hI1.out.bx
      clear hb
      go_wp2_with fail
      go_ret
      exact ⟨rfl, hI1.out.bel⟩
  · have hf := Lib.hid (show ((decide (0 < s) && decide (v2 = l)) && r) = false by simp [h0])
    show Calls _ _ _ _ fun e w' => e = .returned (.bool ((decide (0 < s) && decide (v2 = l)) && r)) ∧ _
    rw [hf.out]
    go_enter Try.func39, Try.ntmps39
    go_wp2_with fail
    refine HRun.out.mono ?_
    rintro e w1 ⟨rfl, hb⟩
    have hI1 := Lib.hid (HI0.out.call hb)
    obtain ⟨p0, p1, p2, p3⟩ := hI1.out.bx
    clear hb
    go_wp2_with fail
    go_ret
    exact ⟨rfl, hI1.out.bel⟩

/-- The events of a state, by the alphabet. -/
def enI (a : Au) (q : Int) : List Int := a.al.filter fun ev => (stepO a q ev).isSome
theorem en_eq {a : Au} (h : RightW a) (q : Int) : (succ a.ed q).map Ed.e = enI a q := by
  rw [succ_eq h, enI, List.map_filterMap]
  have : ∀ l : List Int, l.filterMap (fun x => Option.map Ed.e (edgeO a.ed q x)) = l.filter fun ev => (stepO a q ev).isSome := fun l => by
    induction l with
    | nil => rfl
    | cons x l ih =>
      rw [List.filterMap_cons, List.filter_cons]
      unfold stepO
      cases he : edgeO a.ed q x with
      | none => simp only [Option.map_none, Option.isSome_none, Bool.false_eq_true, if_false]; exact ih
      | some y =>
        have hy := ((edgeO_some h.edo).1 he).2.2
        simp only [Option.map_some, Option.isSome_some, if_true]
        rw [hy]; exact congrArg _ ih
  exact this a.al

set_option maxHeartbeats 4000000 in
set_option maxRecDepth 100000 in
theorem rEnabled_any (A : Option Addr) (n c : Nat) (s : Int) (M : Option Addr) (m d : Nat) (E : Option Addr) (k g : Nat) (a : Au) (q : Int) (B : Nat) (w : World) (h : AuR w B A n c s M m d E k g a) (hB : B ≤ w.heap.size) (hr : RightW a) :
    Calls Try.prog 35 #[.agg #[.slice A n c, .int .i64 s, .slice M m d, .slice E k g], .int .i64 q] w fun e w' => GivesC w (enI a q) e w' := by
  have HI0 := Lib.hid (IB.made (A := A) (n := n) (c := c) (s := s) (M := M) (m := m) (d := d) (E := E) (k := k) (g := g) w)
  have HR := Lib.hid h
  have HRI := Lib.hid hr
  have HBw := Lib.hid hB
  have hbn := h.bn
  obtain ⟨i0, hi, hz0, hz1, hz2⟩ := info_parts info_int
  clear h hr hB
  obtain ⟨P, hP⟩ : ∃ P : Int → Bool, P = fun ev => (stepO a q ev).isSome := ⟨_, rfl⟩
  have HP := Lib.hid hP
  have hen : enI a q = a.al.filter P := by rw [hP]; rfl
  rw [hen]
  clear hP hen
  go_enter Try.func35, Try.ntmps35
  go_wp2_with fail
  go_loopw [5, 6] (fun v i wr => ∃ t : Nat, t ≤ n ∧ i = .int .i64 t ∧ Hid (Own wr (w.heap.size + 1) v ((a.al.take t).filter P)) ∧ Hid (IB w A n c s M m d E k g wr)) (fun _ i _ => n - (intOf i).toNat)
  case atStart => exact ⟨0, Nat.zero_le _, rfl, World.ownsRow_nil _ _ _ _, HI0⟩
  case round =>
    obtain ⟨t, htn, rfl, hown, hi'⟩ := hrel
    obtain ⟨p0, p1, p2, p3⟩ := hi'.out.bx
    have hsz := hi'.out.lt
    by_cases hlt : t < n
    · obtain ⟨b1, o1, rfl, hb1, hc1⟩ := HR.out.al (by rw [HR.out.hn]; omega)
      have hz : t < a.al.length := by rw [HR.out.hn]; exact hlt
      obtain ⟨x, hx⟩ : ∃ x, x = a.al.getD t 0 := ⟨_, rfl⟩
      have CX := Lib.hid (fun W (hW : Below w.heap.size w W) => by
        have := (hW.cell (p := ⟨b1, o1 + t, none⟩) (Nat.lt_of_lt_of_le hb1 HBw.out)).trans (hc1 t hz)
        rw [← hx] at this; exact this)
      have cx := CX.out wr hi'.out.bel
      obtain ⟨tt, htt⟩ : ∃ tt, tt = stepI a q x := ⟨_, rfl⟩
      obtain ⟨K0, hK0⟩ : ∃ K0, K0 = (a.al.take t).filter P := ⟨_, rfl⟩
      have hll := filter_take_le P a.al t
      rw [← hK0] at hown hll
      have hid := Lib.hid hi'.out.drew
      have howd := Lib.hid (show Own wr.drew (w.heap.size + 1) u5 K0 from hown.out)
      have HS := Lib.hid (fun W (hO : Own W (w.heap.size + 1) u5 K0) (hI : IB w (some ⟨b1, o1, none⟩) n c s M m d E k g W) => (rStep_any (some ⟨b1, o1, none⟩) n c s M m d E k g a q x B W (HR.out.below hI.bel HBw.out) (Nat.le_trans HBw.out hI.bel.size)).mono (R' := fun e w' => e = .returned (.int .i64 tt) ∧ Own w' (w.heap.size + 1) u5 K0 ∧ IB w (some ⟨b1, o1, none⟩) n c s M m d E k g w') fun e w' hh => ⟨by rw [hh.1, htt], own_kept hO hh.2, hI.call hh.2⟩)
      have HTT := Lib.hid htt
      have HXX := Lib.hid hx
      have HK0 := Lib.hid hK0
      have z1 : (t : Int) < (n : Int) := by omega
      have z2 : (0 : Int) ≤ (t : Int) := by omega
      clear hc1 hx htt hK0
      go_wp2_with fail
      go_region_held3 (fun w' => w'.cell? ⟨w.heap.size, 0, none⟩ = some (.slice (some ⟨b1, o1, none⟩) n c) ∧ w'.cell? ⟨w.heap.size, 1, none⟩ = some (.int .i64 s) ∧ w'.cell? ⟨w.heap.size, 2, none⟩ = some (.slice M m d) ∧ w'.cell? ⟨w.heap.size, 3, none⟩ = some (.slice E k g) ∧ w'.cell? ⟨b1, o1 + t, none⟩ = some (.int .i64 x)) (first | with_reducible exact ⟨p0, p1, p2, p3, cx⟩ | go_keep)
        (first
        | (go_simp; go_at_call 37; (first | with_reducible refine (HS.out _ hown.out hi'.out).mono ?_ | with_reducible refine (HS.out _ howd.out hid.out).mono ?_); rintro e w4 ⟨rfl, ho, hg⟩
           have HO := Lib.hid ho
           have HG := Lib.hid hg
           obtain ⟨p0, p1, p2, p3⟩ := hg.bx
           have cx := CX.out _ hg.bel
           clear hg ho))
      all_goals
        have hs4 := HG.out.lt
        cases he : stepO a q x with
        | none =>
          have hto := stepI_neg he
          rw [← HTT.out] at hto
          subst hto
          have hnx := Lib.hid (show (a.al.take (t + 1)).filter P = K0 by rw [filter_take_no hz (by rw [HP.out]; simp only; rw [← HXX.out, he]; rfl), HK0.out])
          clear he
          go_wp2_with fail
          go_roundw
          case rel => exact ⟨t + 1, by omega, by go_num, by rw [hnx.out]; exact HO, HG⟩
          case measure => simp [intOf]; omega
        | some y =>
          have hto := stepI_pos he
          rw [← HTT.out] at hto
          have hy := (step_range HRI.out he).1
          rw [← hto] at hy
          have hnx := Lib.hid (show (a.al.take (t + 1)).filter P = K0 ++ [x] by rw [filter_take_yes hz (by rw [HP.out]; simp only; rw [← HXX.out, he]; rfl), HK0.out, HXX.out])
          clear he hto
          go_wp2_with (at_builtin; refine wpList_append_own _ rfl _ _ 22 rfl (w.heap.size + 1) 3 i0 (.int .i64 0) 1 8 Try.underlying22 hi hz0 hz1 hz2 rfl (by decide) _ _ _ rfl (HO.out.alloc _) ⟨w4.heap.size, 0, none⟩ 1 1 [.int .i64 x] rfl rfl (news_one (by simp)) (by intro u hu; simp at hu; subst hu; rfl) (by unfold maxLen; omega) (by omega) (by simp; omega) ?_)
          intro v5 w5 hown5 hgrow5 _
          have hO5 : Own w5 (w.heap.size + 1) v5 (K0 ++ [x]) := by simpa [Own] using hown5
          have hb5 : Below (w.heap.size + 1) w4 w5 := ((Below.refl _ w4).alloc (by omega) _).grown hgrow5 (by simp; omega) (fun j hj => (HO.out.lt j hj).1)
          have hI5 := Lib.hid (show IB w (some ⟨b1, o1, none⟩) n c s M m d E k g w5 from ⟨HG.out.bel.trans (hb5.mono (by omega)), HG.out.bx.below hb5 (by omega), Nat.lt_of_lt_of_le hs4 hb5.size⟩)
          have HO5 := Lib.hid hO5
          clear hown5 hgrow5 hO5 hb5
          go_wp2_with fail
          go_roundw
          case rel => exact ⟨t + 1, by omega, by go_num, by rw [hnx.out]; exact HO5, hI5⟩
          case measure => simp [intOf]; omega
    · obtain rfl : t = n := by omega
      rw [List.take_of_length_le (by rw [HR.out.hn]; exact Nat.le_refl _)] at hown
      obtain ⟨A', c', rfl, hrd, hc1, hc2⟩ := own_rdc hown.out
      have HRD := Lib.hid hrd
      clear hown hrd
      go_wp2_with fail
      go_ret
      exact ⟨A', c', rfl, HRD.out, hi'.out.bel, hc1, hc2⟩
end Go.Proofs.Ytcciiikaejjooaa
