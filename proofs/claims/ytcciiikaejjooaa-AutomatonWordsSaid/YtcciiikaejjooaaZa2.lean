/- Texts merged: what follows were texts of their own. -/
import Derived.Test.YtcciiikaejjooaaZa1
import Derived.Deep.RegionHeld3
import Derived.Deep.AppendLies
import Derived.Deep.RegionLaw
import Derived.Laws.OwnMore
import Derived.Deep.CutRange
import Derived.StillTailTactics
import Derived.ProofKit
import Derived.OpenShut
import Derived.ShutString
import Derived.ChangeOld
import Derived.Below
import Derived.Deep.Slices
import Derived.Deep.Fields
/- Layer 3: Check, checkPlace, the search for an edge, step, Step. -/
namespace Go.Proofs.Ytcciiikaejjooaa
open Go.RowKit Go.Sort

set_option maxHeartbeats 800000 in
theorem mCheck_any (A : Option Addr) (n c : Nat) (s : Int) (M : Option Addr) (m d : Nat) (E : Option Addr) (k g : Nat) (a : Au) (w : World) (h : AuR w w.heap.size A n c s M m d E k g a) :
    Calls Try.prog 16 #[.agg #[.slice A n c, .int .i64 s, .slice M m d, .slice E k g]] w fun e w' => e = .returned (.int .i64 (chkE a)) ∧ Below w.heap.size w w' := by
  have HB1 := Lib.hid ((Below.refl w.heap.size w).alloc (Nat.le_refl _) (.cells #[.slice A n c, .int .i64 s, .slice M m d, .slice E k g] 25))
  have hR1 := (h.below HB1.out (Nat.le_refl _))
  have HC1 := Lib.hid (checkSet_any A n c w.heap.size a.al 32 _ hR1.al hR1.hn (by have := h.bn; omega))
  have HC2 := Lib.hid (checkSet_any M m d w.heap.size a.mr s _ hR1.mr hR1.hm (by have := h.bm; omega))
  have HC3 := Lib.hid (fun hup => checkEdges_any A n c s M m d E k g a _ (hR1.more (by simp)) hup)
  have HST := Lib.hid h.st
  obtain ⟨u, hu⟩ : ∃ u, u = csE 32 a.al := ⟨_, rfl⟩
  rw [← hu] at HC1
  obtain ⟨v, hv⟩ : ∃ v, v = csE s a.mr := ⟨_, rfl⟩
  rw [← hv] at HC2
  have HU := Lib.hid hu
  have HV := Lib.hid hv
  clear h hR1 hu hv
  by_cases h0 : u = 0
  · have hb0 : (u != 0) = false := by simp [h0]
    have h0' := Lib.hid h0
    clear h0
    by_cases h1 : s < 0
    · have hr := Lib.hid (show chkE a = 2 by rw [chkE, HST.out, ← HU.out, if_neg (by simp [h0'.out]), if_pos h1])
      rw [hr.out]
      go_enter Try.func16, Try.ntmps16
      go_wp2_with fail
      refine HC1.out.mono ?_
      rintro e w' ⟨rfl, rfl⟩
      go_wp2
      go_ret
      exact ⟨rfl, HB1.out⟩
    · by_cases h2 : 4096 < s
      · have hr := Lib.hid (show chkE a = 3 by rw [chkE, HST.out, ← HU.out, if_neg (by simp [h0'.out]), if_neg h1, if_pos h2])
        rw [hr.out]
        go_enter Try.func16, Try.ntmps16
        go_wp2_with fail
        refine HC1.out.mono ?_
        rintro e w' ⟨rfl, rfl⟩
        go_wp2
        go_ret
        exact ⟨rfl, HB1.out⟩
      · by_cases h3 : v = 0
        · have hr := Lib.hid (show chkE a = egE a by rw [chkE, HST.out, ← HU.out, if_neg (by simp [h0'.out]), if_neg h1, if_neg h2, ← HV.out, if_neg (by simp [h3])])
          rw [hr.out]
          have HC4 := Lib.hid (HC3.out (cs_up (m := 32) (by rw [← HU.out, h0'.out])))
          have hb3 : (v != 0) = false := by simp [h3]
          clear h3
          go_enter Try.func16, Try.ntmps16
          go_wp2_with fail
          refine HC1.out.mono ?_
          rintro e w' ⟨rfl, rfl⟩
          go_wp2_with fail
          refine HC2.out.mono ?_
          rintro e w' ⟨rfl, rfl⟩
          go_wp2_with fail
          refine HC4.out.mono ?_
          rintro e w' ⟨rfl, hbw⟩
          go_wp2
          go_ret
          exact ⟨rfl, HB1.out.trans (hbw.mono (by simp))⟩
        · have hr := Lib.hid (show chkE a = v by rw [chkE, HST.out, ← HU.out, if_neg (by simp [h0'.out]), if_neg h1, if_neg h2, ← HV.out, if_pos h3])
          rw [hr.out]
          have hb3 : (v != 0) = true := by simp [h3]
          clear h3
          go_enter Try.func16, Try.ntmps16
          go_wp2_with fail
          refine HC1.out.mono ?_
          rintro e w' ⟨rfl, rfl⟩
          go_wp2_with fail
          refine HC2.out.mono ?_
          rintro e w' ⟨rfl, rfl⟩
          go_wp2
          go_ret
          exact ⟨rfl, HB1.out⟩
  · have hb0 : (u != 0) = true := by simp [h0]
    have hr := Lib.hid (show chkE a = u by rw [chkE, ← HU.out, if_pos h0])
    rw [hr.out]
    clear h0
    go_enter Try.func16, Try.ntmps16
    go_wp2_with fail
    refine HC1.out.mono ?_
    rintro e w' ⟨rfl, rfl⟩
    go_wp2
    go_ret
    exact ⟨rfl, HB1.out⟩

/-- The first error of an automaton and one of its states. -/
def plE (a : Au) (x : Int) : Int := if chkE a ≠ 0 then chkE a else if inSt a.st x = true then 0 else 2
set_option maxHeartbeats 800000 in
theorem checkPlace_any (A : Option Addr) (n c : Nat) (s : Int) (M : Option Addr) (m d : Nat) (E : Option Addr) (k g : Nat) (a : Au) (x : Int) (w : World) (h : AuR w w.heap.size A n c s M m d E k g a) :
    Calls Try.prog 52 #[.agg #[.slice A n c, .int .i64 s, .slice M m d, .slice E k g], .int .i64 x] w fun e w' => e = .returned (.int .i64 (plE a x)) ∧ Below w.heap.size w w' := by
  have HB1 := Lib.hid ((Below.refl w.heap.size w).alloc (Nat.le_refl _) (.cells #[.slice A n c, .int .i64 s, .slice M m d, .slice E k g] 25))
  have hR1 := (h.below HB1.out (Nat.le_refl _))
  have HC1 := Lib.hid (mCheck_any A n c s M m d E k g a _ (hR1.more (by simp)))
  have HS := Lib.hid (isState_any A n c s M m d E k g x)
  have HX := Lib.hid (BoxA.made w A n c s M m d E k g 25)
  have HST := Lib.hid h.st
  obtain ⟨u, hu⟩ : ∃ u, u = chkE a := ⟨_, rfl⟩
  rw [← hu] at HC1
  have HU := Lib.hid hu
  clear h hR1 hu
  by_cases h0 : u = 0
  · have hb0 : (u != 0) = false := by simp [h0]
    obtain ⟨v, hv⟩ : ∃ v, inSt s x = v := ⟨_, rfl⟩
    have HS1 := Lib.hid (fun W => by have h := HS.out W; rw [hv] at h; exact h)
    have hr := Lib.hid (show plE a x = if v = true then 0 else 2 by rw [plE, HST.out, ← HU.out, if_neg (by simp [h0]), hv])
    clear h0 hv
    cases v
    · have hr2 := Lib.hid (show plE a x = 2 by rw [hr.out]; rfl)
      rw [hr2.out]
      go_enter Try.func52, Try.ntmps52
      go_wp2_with fail
      refine HC1.out.mono ?_
      rintro e w1 ⟨rfl, hbw⟩
      obtain ⟨p0, p1, p2, p3⟩ := HX.out.below hbw (by simp)
      have hz := hbw.size
      simp only [World.size_alloc] at hz
      have hB := HB1.out.trans (hbw.mono (by simp))
      clear hbw
      go_wp2_with fail
      refine (HS1.out _).mono ?_
      rintro e w2 ⟨rfl, hbw⟩
      go_wp2
      go_ret
      exact ⟨rfl, hB.trans (hbw.mono (by omega))⟩
    · have hr2 := Lib.hid (show plE a x = 0 by rw [hr.out]; rfl)
      rw [hr2.out]
      go_enter Try.func52, Try.ntmps52
      go_wp2_with fail
      refine HC1.out.mono ?_
      rintro e w1 ⟨rfl, hbw⟩
      obtain ⟨p0, p1, p2, p3⟩ := HX.out.below hbw (by simp)
      have hz := hbw.size
      simp only [World.size_alloc] at hz
      have hB := HB1.out.trans (hbw.mono (by simp))
      clear hbw
      go_wp2_with fail
      refine (HS1.out _).mono ?_
      rintro e w2 ⟨rfl, hbw⟩
      go_wp2
      go_ret
      exact ⟨rfl, hB.trans (hbw.mono (by omega))⟩
  · have hb0 : (u != 0) = true := by simp [h0]
    have hr := Lib.hid (show plE a x = u by rw [plE, ← HU.out, if_pos h0])
    rw [hr.out]
    clear h0
    go_enter Try.func52, Try.ntmps52
    go_wp2_with fail
    refine HC1.out.mono ?_
    rintro e w1 ⟨rfl, hbw⟩
    go_wp2
    go_ret
    exact ⟨rfl, HB1.out.trans (hbw.mono (by simp))⟩
end Go.Proofs.Ytcciiikaejjooaa

/- Layer 3: slices.BinarySearchFunc over edges. -/
namespace Go.Proofs.Ytcciiikaejjooaa
open Go.RowKit Go.Sort

theorem callCmpEd (args : Array Value) (W : World) : (callFunc 64 args).run Try.prog W = .ok (.enter 64 args) W := by
  go_simp

set_option maxHeartbeats 1600000 in
theorem searchEd_any (E : Option Addr) (k g B : Nat) (l : List Ed) (yf ye yt : Int) (w : World) (hx : RdG w B E l) (hB : B ≤ w.heap.size) (hn : l.length = k) (hb : k ≤ 1000000) (ho : l.Pairwise ltE) :
    Calls Try.prog 74 #[.slice E k g, .agg #[.int .i64 yf, .int .i64 ye, .int .i64 yt], .func (.func 64) #[] #[]] w fun e w' =>
      (∃ i : Nat, e = .returned (.tuple #[.int .i64 i, .bool (edgeO l yf ye).isSome]) ∧ ∀ x, edgeO l yf ye = some x → l[i]? = some x) ∧ Below w.heap.size w w' := by
  have HN := Lib.hid hn
  have HO := Lib.hid ho
  have HC := Lib.hid compareEdges_any
  have HB1 := Lib.hid ((Below.refl w.heap.size w).alloc (Nat.le_refl _) (.cells #[.int .i64 yf, .int .i64 ye, .int .i64 yt] 67))
  have HX := Lib.hid (EdAt.made w yf ye yt 67)
  have HR := Lib.hid hx
  have hcf := callCmpEd
  clear hn ho hx
  go_enter Try.func74, Try.ntmps74
  go_wp2_with fail
  go_loopw [9, 10] (fun a b wr => ∃ i j : Nat, i ≤ j ∧ j ≤ k ∧ a = .int .i64 i ∧ b = .int .i64 j ∧ Hid (∀ t x, t < i → l[t]? = some x → ltE x ⟨yf, ye, yt⟩) ∧ Hid (∀ t x, j ≤ t → l[t]? = some x → ¬ ltE x ⟨yf, ye, yt⟩) ∧ Below w.heap.size w wr ∧ Hid (EdAt wr w.heap.size 0 ⟨yf, ye, yt⟩) ∧ w.heap.size < wr.heap.size) (fun a b _ => (intOf b).toNat - (intOf a).toNat)
  case atStart => exact ⟨0, k, by omega, by omega, rfl, rfl, fun t x h => absurd h (by omega), fun t x h h' => by
    have := (List.getElem?_eq_some_iff.1 h').1; rw [HN.out] at this; omega, HB1.out, HX, by simp⟩
  case round =>
    obtain ⟨i, j, hij, hjn, rfl, rfl, hl, hr, hbel, hyx, hlt0⟩ := hrel
    by_cases hlt : i < j
    · obtain ⟨t, ht1⟩ : ∃ t, t = (i + j) / 2 := ⟨_, rfl⟩
      have HT := Lib.hid ht1
      have htk : t < k := by omega
      have hti : i ≤ t := by omega
      have htj : t < j := by omega
      clear ht1
      have hz : t < l.length := by rw [HN.out]; exact htk
      obtain ⟨b1, o1, rfl, hb1, hc1⟩ := HR.out (by omega)
      obtain ⟨x, hx⟩ : ∃ x, l[t]? = some x := ⟨_, List.getElem?_eq_getElem hz⟩
      have hxr : EdAt wr b1 (o1 + t * 3) x := (hc1 _ x hx).keep fun o => hbel.cell (p := ⟨b1, o, none⟩) (Nat.lt_of_lt_of_le hb1 hB)
      have hX := Lib.hid hx
      clear hx hz hc1
      obtain ⟨xf, xe, xt⟩ := x
      obtain ⟨u, hu⟩ : ∃ u, cmpE ⟨xf, xe, xt⟩ ⟨yf, ye, yt⟩ = u := ⟨_, rfl⟩
      have HC2 := Lib.hid (fun W => by have h := HC.out xf xe xt yf ye yt W; rw [hu] at h; exact h)
      have HU := Lib.hid hu
      have hbb : b1 < wr.heap.size := Nat.lt_of_lt_of_le hb1 (Nat.le_trans hB (by omega))
      obtain ⟨r0, r1, r2⟩ := hxr
      obtain ⟨q0, q1, q2⟩ := hyx.out.shift0
      have l0 := fun n os => cell_grown hbb r0 n os
      have l1 := fun n os => cell_grown hbb r1 n os
      have l2 := fun n os => cell_grown hbb r2 n os
      have k0 := fun n os => cell_grown hlt0 q0 n os
      have k1 := fun n os => cell_grown hlt0 q1 n os
      have k2 := fun n os => cell_grown hlt0 q2 n os
      have hmix : Try.prog.follows .mixedOrders = true := by kernel_rfl
      clear r0 r1 r2 q0 q1 q2 hu
      by_cases hxy : u < 0
      · have hl' := Lib.hid (show ∀ t' x, t' < t + 1 → l[t']? = some x → ltE x ⟨yf, ye, yt⟩ from fun t' x' ht' hx' => by
          have h0 : ltE ⟨xf, xe, xt⟩ ⟨yf, ye, yt⟩ := cmpE_lt.1 (by rw [HU.out]; exact hxy)
          by_cases e : t' = t
          · subst e; rw [hX.out] at hx'; injection hx' with hx'; rw [← hx']; exact h0
          · obtain ⟨h1, e1⟩ := List.getElem?_eq_some_iff.1 hx'
            obtain ⟨h2, e2⟩ := List.getElem?_eq_some_iff.1 hX.out
            have := (List.pairwise_iff_getElem.1 HO.out) t' _ h1 h2 (by omega)
            rw [e1, e2] at this
            exact ltE_trans this h0)
        clear hl
        go_wp2_with fail
        rw [show ((i : Int) + (j : Int)) / 2 = (t : Int) by rw [HT.out]; omega]
        go_quiet_grown ((go_at_call 64; exact Calls.grown_of (HC2.out _)))
        go_wp2_with fail
        go_roundw
        case rel => exact ⟨t + 1, j, by omega, by omega, by go_num, rfl, hl', hr, hbel.trans ((below_grow _ _ _).mono hbel.size), Lib.hid (hyx.out.below (below_grow _ _ _) hlt0), by have := (below_grow wr nq osq).size; omega⟩
        case measure => simp [intOf]; omega
      · have hr' := Lib.hid (show ∀ t' x, t ≤ t' → l[t']? = some x → ¬ ltE x ⟨yf, ye, yt⟩ from fun t' x' ht' hx' h3 => by
          have h0 : ¬ ltE ⟨xf, xe, xt⟩ ⟨yf, ye, yt⟩ := fun h => hxy (by rw [← HU.out]; exact cmpE_lt.2 h)
          by_cases e : t' = t
          · subst e; rw [hX.out] at hx'; injection hx' with hx'; rw [← hx'] at h3; exact h0 h3
          · obtain ⟨h1, e1⟩ := List.getElem?_eq_some_iff.1 hx'
            obtain ⟨h2, e2⟩ := List.getElem?_eq_some_iff.1 hX.out
            have := (List.pairwise_iff_getElem.1 HO.out) _ t' h2 h1 (by omega)
            rw [e1, e2] at this
            exact h0 (ltE_trans this h3))
        clear hr
        go_wp2_with fail
        rw [show ((i : Int) + (j : Int)) / 2 = (t : Int) by rw [HT.out]; omega]
        go_quiet_grown ((go_at_call 64; exact Calls.grown_of (HC2.out _)))
        go_wp2_with fail
        go_roundw
        case rel => exact ⟨i, t, by omega, by omega, rfl, by go_num, hl, hr', hbel.trans ((below_grow _ _ _).mono hbel.size), Lib.hid (hyx.out.below (below_grow _ _ _) hlt0), by have := (below_grow wr nq osq).size; omega⟩
        case measure => simp [intOf]; omega
    · have hij' : i = j := by omega
      subst hij'
      have hat : AtE l ⟨yf, ye, yt⟩ i := ⟨by rw [HN.out]; exact hjn, hl.out, fun x h => hr.out i x (Nat.le_refl _) h⟩
      have HA := Lib.hid hat
      clear hl hr hat
      by_cases hin : i < k
      · have hz : i < l.length := by rw [HN.out]; exact hin
        obtain ⟨b1, o1, rfl, hb1, hc1⟩ := HR.out (by omega)
        obtain ⟨x, hx⟩ : ∃ x, l[i]? = some x := ⟨_, List.getElem?_eq_getElem hz⟩
        have hxr : EdAt wr b1 (o1 + i * 3) x := (hc1 _ x hx).keep fun o => hbel.cell (p := ⟨b1, o, none⟩) (Nat.lt_of_lt_of_le hb1 hB)
        have hX := Lib.hid hx
        clear hx hz hc1
        obtain ⟨xf, xe, xt⟩ := x
        obtain ⟨u, hu⟩ : ∃ u, cmpE ⟨xf, xe, xt⟩ ⟨yf, ye, yt⟩ = u := ⟨_, rfl⟩
        have HC2 := Lib.hid (fun W => by have h := HC.out xf xe xt yf ye yt W; rw [hu] at h; exact h)
        have HU := Lib.hid hu
        have hbb : b1 < wr.heap.size := Nat.lt_of_lt_of_le hb1 (Nat.le_trans hB (by omega))
        obtain ⟨r0, r1, r2⟩ := hxr
        obtain ⟨q0, q1, q2⟩ := hyx.out.shift0
        have l0 := fun n os => cell_grown hbb r0 n os
        have l1 := fun n os => cell_grown hbb r1 n os
        have l2 := fun n os => cell_grown hbb r2 n os
        have k0 := fun n os => cell_grown hlt0 q0 n os
        have k1 := fun n os => cell_grown hlt0 q1 n os
        have k2 := fun n os => cell_grown hlt0 q2 n os
        have hmix : Try.prog.follows .mixedOrders = true := by kernel_rfl
        have hd : decide (i < k) = true := by simp; omega
        clear r0 r1 r2 q0 q1 q2 hu
        by_cases hxy : u = 0
        · have hf := Lib.hid (AtE.found (y := ⟨yf, ye, yt⟩) HO.out hX.out (by rw [HU.out]; exact hxy))
          have hs := Lib.hid (show (edgeO l yf ye).isSome = true by rw [hf.out]; rfl)
          have hb1 : (u == 0) = true := by simpa using hxy
          clear hxy
          go_wp2_with fail
          go_quiet_grown ((go_at_call 64; exact Calls.grown_of (HC2.out _)))
          go_wp2_with fail
          go_ret2
          exact ⟨⟨i, ret_ib hs.out.symm, fun x hx => by rw [hf.out] at hx; injection hx with hx; rw [← hx]; exact hX.out⟩, hbel.trans ((below_grow _ _ _).mono hbel.size)⟩
        · have hf := Lib.hid (AtE.absent HO.out HA.out (fun x hx => by rw [hX.out] at hx; injection hx with hx; rw [← hx, HU.out]; exact hxy))
          have hs := Lib.hid (show (edgeO l yf ye).isSome = false by rw [hf.out]; rfl)
          have hb1 : (u == 0) = false := by simpa using hxy
          clear hxy
          go_wp2_with fail
          go_quiet_grown ((go_at_call 64; exact Calls.grown_of (HC2.out _)))
          go_wp2_with fail
          go_ret2
          exact ⟨⟨i, ret_ib hs.out.symm, fun x hx => by rw [hf.out] at hx; cases hx⟩, hbel.trans ((below_grow _ _ _).mono hbel.size)⟩
      · have hf := Lib.hid (AtE.absent HO.out HA.out (fun x hx => by have := (List.getElem?_eq_some_iff.1 hx).1; rw [HN.out] at this; omega))
        have hs := Lib.hid (show (edgeO l yf ye).isSome = false by rw [hf.out]; rfl)
        have hd : decide (i < k) = false := by simp; omega
        go_wp2_with fail
        go_quiet (fail)
        go_wp2_with fail
        go_ret2
        exact ⟨⟨i, ret_ib hs.out.symm, fun x hx => by rw [hf.out] at hx; cases hx⟩, below_drewN hbel _⟩
end Go.Proofs.Ytcciiikaejjooaa

/- Layer 3: step, Step, run, end of the program. -/
namespace Go.Proofs.Ytcciiikaejjooaa
open Go.RowKit Go.Sort

theorem stepO_some {a : Au} {q ev : Int} {x : Ed} (h : edgeO a.ed q ev = some x) : stepO a q ev = some x.t := by rw [stepO, h]; rfl
theorem stepO_none {a : Au} {q ev : Int} (h : edgeO a.ed q ev = none) : stepO a q ev = none := by rw [stepO, h]; rfl
theorem ret_ib2 {i j : Int} {a b : Bool} (h1 : i = j) (h : a = b) : Ending.returned (.tuple #[.int .i64 i, .bool a]) = .returned (.tuple #[.int .i64 j, .bool b]) := by rw [h1, h]

set_option maxHeartbeats 1600000 in
theorem step_any (A : Option Addr) (n c : Nat) (s : Int) (M : Option Addr) (m d : Nat) (E : Option Addr) (k g : Nat) (a : Au) (q ev : Int) (B : Nat) (w : World) (h : AuR w B A n c s M m d E k g a) (hB : B ≤ w.heap.size) (ho : a.ed.Pairwise ltE) :
    Calls Try.prog 54 #[.agg #[.slice A n c, .int .i64 s, .slice M m d, .slice E k g], .int .i64 q, .int .i64 ev] w fun e w' => e = .returned (.tuple #[.int .i64 ((stepO a q ev).getD 0), .bool (stepO a q ev).isSome]) ∧ Below w.heap.size w w' := by
  have hb1 := (Below.refl w.heap.size w).alloc (Nat.le_refl _) (.cells #[.slice A n c, .int .i64 s, .slice M m d, .slice E k g] 25)
  have HB1 := Lib.hid hb1
  have HE := Lib.hid (h.ed)
  have HK := Lib.hid h.hk
  have hbk := h.bk
  have HC := Lib.hid (searchEd_any E k g B a.ed q ev 0 _ (h.ed.below hb1 hB) (by simp; omega) h.hk h.bk ho)
  have HX := Lib.hid (BoxA.made w A n c s M m d E k g 25)
  clear h ho hb1
  cases hs : edgeO a.ed q ev with
  | none =>
    have e1 := Lib.hid (stepO_none (a := a) hs)
    have hr : ∀ i : Nat, (Ending.returned (.tuple #[.int .i64 i, .bool (edgeO a.ed q ev).isSome])) = .returned (.tuple #[.int .i64 i, .bool false]) := fun i => by rw [hs]; rfl
    have HR := Lib.hid hr
    clear hr hs
    go_enter Try.func54, Try.ntmps54
    go_wp2_with fail
    refine HC.out.mono ?_
    rintro e w1 ⟨⟨i, he, _⟩, hbw⟩
    rw [HR.out] at he
    subst he
    have hz := hbw.size
    simp only [World.size_alloc] at hz
    go_wp2_with fail
    go_ret2
    exact ⟨ret_ib2 (by rw [e1.out]; rfl) (by rw [e1.out]; rfl), HB1.out.trans (hbw.mono (by simp))⟩
  | some x =>
    have e1 := Lib.hid (stepO_some (a := a) hs)
    have hr : ∀ i : Nat, (Ending.returned (.tuple #[.int .i64 i, .bool (edgeO a.ed q ev).isSome])) = .returned (.tuple #[.int .i64 i, .bool true]) := fun i => by rw [hs]; rfl
    have HR := Lib.hid hr
    have HS := Lib.hid hs
    clear hr hs
    go_enter Try.func54, Try.ntmps54
    go_wp2_with fail
    refine HC.out.mono ?_
    rintro e w1 ⟨⟨i, he, hi⟩, hbw⟩
    rw [HR.out] at he
    subst he
    have hiz := hi x HS.out
    have hik : i < k := by have := (List.getElem?_eq_some_iff.1 hiz).1; rw [HK.out] at this; exact this
    obtain ⟨b1, o1, rfl, hbB, hc1⟩ := HE.out (by rw [HK.out]; omega)
    have hxa := (hc1 i x hiz)
    obtain ⟨xf, xe, xt⟩ := x
    have hx1 := hxa.2.2
    have hx2 : w1.cell? ⟨b1, o1 + i * 3 + 2, none⟩ = some (.int .i64 xt) := ((HB1.out.trans (hbw.mono (by simp))).cell (p := ⟨b1, o1 + i * 3 + 2, none⟩) (Nat.lt_of_lt_of_le hbB hB)).trans hx1
    obtain ⟨p0, p1, p2, p3⟩ := HX.out.below hbw (by simp)
    have hB2 := HB1.out.trans (hbw.mono (by simp))
    have hz := hbw.size
    simp only [World.size_alloc] at hz
    clear hi hiz hc1 hxa hx1 hbw
    go_wp2_with fail
    go_ret2
    exact ⟨ret_ib2 (by rw [e1.out]; rfl) (by rw [e1.out]; rfl), hB2⟩

theorem run_step_go {a : Au} {q x t : Int} {ws : List Int} {i : Nat} {v : Int × Nat} (hz : i < ws.length) (hx : x = ws.getD i 0) (hv : v = ((runE a q (ws.drop i)).1, (runE a q (ws.drop i)).2 + i)) (hs : stepO a q x = some t) : v = ((runE a t (ws.drop (i + 1))).1, (runE a t (ws.drop (i + 1))).2 + (i + 1)) := by
  rw [hv, drop_step ws i hz, ← hx, runE_go hs]; simp; omega
theorem run_step_stop {a : Au} {q x : Int} {ws : List Int} {i : Nat} {v : Int × Nat} (hz : i < ws.length) (hx : x = ws.getD i 0) (hv : v = ((runE a q (ws.drop i)).1, (runE a q (ws.drop i)).2 + i)) (hs : stepO a q x = none) : v = (q, i) := by
  rw [hv, drop_step ws i hz, ← hx, runE_stop hs]; simp
theorem run_step_end {a : Au} {q : Int} {ws : List Int} {i : Nat} {v : Int × Nat} (hz : i = ws.length) (hv : v = ((runE a q (ws.drop i)).1, (runE a q (ws.drop i)).2 + i)) : v = (q, i) := by
  rw [hv, List.drop_of_length_le (by omega), runE_nil]; simp
theorem ret_ii {i j i' j' : Int} (h1 : i = i') (h : j = j') : Ending.returned (.tuple #[.int .i64 i, .int .i64 j]) = .returned (.tuple #[.int .i64 i', .int .i64 j']) := by rw [h1, h]

set_option maxHeartbeats 1600000 in
theorem run_any (A : Option Addr) (n c : Nat) (s : Int) (M : Option Addr) (m d : Nat) (E : Option Addr) (k g : Nat) (a : Au) (q : Int) (W1 : Option Addr) (l lc : Nat) (ws : List Int) (B : Nat) (w : World) (h : AuR w B A n c s M m d E k g a) (hB : B ≤ w.heap.size) (ho : a.ed.Pairwise ltE) (hw : RdI w B W1 ws) (hl : ws.length = l) (hlb : l ≤ 100000) :
    Calls Try.prog 55 #[.agg #[.slice A n c, .int .i64 s, .slice M m d, .slice E k g], .int .i64 q, .slice W1 l lc] w fun e w' => e = .returned (.tuple #[.int .i64 (runE a q ws).1, .int .i64 (runE a q ws).2]) ∧ Below w.heap.size w w' := by
  have hb1 := (Below.refl w.heap.size w).alloc (Nat.le_refl _) (.cells #[.slice A n c, .int .i64 s, .slice M m d, .slice E k g] 25)
  have HB1 := Lib.hid hb1
  have HC := Lib.hid (fun q x W (hW : Below w.heap.size w W) => step_any A n c s M m d E k g a q x B W (h.below hW hB) (Nat.le_trans hB hW.size) ho)
  have HX := Lib.hid (BoxA.made w A n c s M m d E k g 25)
  have HL := Lib.hid hl
  have HW := Lib.hid hw
  obtain ⟨v, hv⟩ : ∃ v, v = runE a q ws := ⟨_, rfl⟩
  rw [← hv]
  have HV := Lib.hid hv
  clear h ho hb1 hl hw hv
  go_enter Try.func55, Try.ntmps55
  go_wp2_with fail
  go_loopw [6, 7, 15] (fun u0 u1 i wr => ∃ (q1 : Int) (j : Nat), j ≤ l ∧ u0 = .int .i64 q1 ∧ u1 = .int .i64 j ∧ i = .int .i64 j ∧ Hid (v = ((runE a q1 (ws.drop j)).1, (runE a q1 (ws.drop j)).2 + j)) ∧ Below w.heap.size w wr ∧ Hid (BoxA wr w.heap.size A n c s M m d E k g) ∧ w.heap.size < wr.heap.size) (fun _ _ i _ => l - (intOf i).toNat)
  case atStart => exact ⟨q, 0, Nat.zero_le _, rfl, rfl, rfl, by rw [Hid, HV.out]; simp, HB1.out, HX, by simp⟩
  case round =>
    obtain ⟨q', j, hj, rfl, rfl, rfl, ht, hbel, hbx, hlt0⟩ := hrel
    by_cases hlt : j < l
    · obtain ⟨b1, o1, rfl, hbB, hc1⟩ := HW.out (by rw [HL.out]; omega)
      have hz : j < ws.length := by rw [HL.out]; exact hlt
      have h1 := hc1 j hz
      obtain ⟨x, hxe⟩ : ∃ x, x = ws.getD j 0 := ⟨_, rfl⟩
      rw [← hxe] at h1
      have h2 : wr.cell? ⟨b1, o1 + j, none⟩ = some (.int .i64 x) := (hbel.cell (p := ⟨b1, o1 + j, none⟩) (Nat.lt_of_lt_of_le hbB hB)).trans h1
      have HC1 := Lib.hid (HC.out q' x wr hbel)
      obtain ⟨y0, y1, y2, y3⟩ := hbx.out
      cases hs : stepO a q' x with
      | none =>
        have hr := Lib.hid (run_step_stop hz hxe ht.out hs)
        have HC2 := Lib.hid (show Calls _ _ _ _ _ from by have h := HC1.out; rw [hs] at h; exact h)
        clear h1 hc1 hz hxe hs
        go_wp2_with fail
        refine HC2.out.mono ?_
        rintro e w1 ⟨rfl, hbw⟩
        go_wp2_with fail
        go_ret2
        exact ⟨ret_ii (by rw [hr.out]) (by rw [hr.out]), hbel.trans (hbw.mono (by omega))⟩
      | some t =>
        have hr := Lib.hid (run_step_go hz hxe ht.out hs)
        have HC2 := Lib.hid (show Calls _ _ _ _ _ from by have h := HC1.out; rw [hs] at h; exact h)
        clear h1 hc1 hz hxe hs
        go_wp2_with fail
        refine HC2.out.mono ?_
        rintro e w1 ⟨rfl, hbw⟩
        have hz := hbw.size
        go_wp2_with fail
        go_roundw
        case rel => exact ⟨t, j + 1, by omega, by simp, by go_num, by go_num, hr, hbel.trans (hbw.mono (by omega)), Lib.hid (hbx.out.below hbw hlt0), by omega⟩
        case measure => simp [intOf]; omega
    · have hr := Lib.hid (run_step_end (by rw [HL.out]; omega) ht.out)
      go_wp2_with fail
      go_ret2
      exact ⟨ret_ii (by rw [hr.out]) (by rw [hr.out]), hbel⟩

/-- A word belongs to the generated language. -/
def genB (a : Au) (ws : List Int) : Bool := decide (a.st ≠ 0) && decide ((runE a 0 ws).2 = ws.length)
def accB (a : Au) (ws : List Int) : Bool := genB a ws && decide ((runE a 0 ws).1 ∈ a.mr)
def endS (a : Au) (ws : List Int) : Int := if a.st = 0 then 0 else (runE a 0 ws).1
set_option maxHeartbeats 800000 in
theorem end_any (A : Option Addr) (n c : Nat) (s : Int) (M : Option Addr) (m d : Nat) (E : Option Addr) (k g : Nat) (a : Au) (W1 : Option Addr) (l lc : Nat) (ws : List Int) (B : Nat) (w : World) (h : AuR w B A n c s M m d E k g a) (hB : B ≤ w.heap.size) (ho : a.ed.Pairwise ltE) (hw : RdI w B W1 ws) (hl : ws.length = l) (hlb : l ≤ 100000) :
    Calls Try.prog 56 #[.agg #[.slice A n c, .int .i64 s, .slice M m d, .slice E k g], .slice W1 l lc] w fun e w' => e = .returned (.tuple #[.int .i64 (endS a ws), .bool (genB a ws)]) ∧ Below w.heap.size w w' := by
  have hb1 := (Below.refl w.heap.size w).alloc (Nat.le_refl _) (.cells #[.slice A n c, .int .i64 s, .slice M m d, .slice E k g] 25)
  have HB1 := Lib.hid hb1
  have HC := Lib.hid (run_any A n c s M m d E k g a 0 W1 l lc ws B _ (h.below hb1 hB) (by simp; omega) ho (hw.below hb1 hB) hl hlb)
  have HST := Lib.hid h.st
  have HL := Lib.hid hl
  have hle := runE_le a ws 0
  rw [hl] at hle
  obtain ⟨v, hv⟩ : ∃ v, v = runE a 0 ws := ⟨_, rfl⟩
  rw [← hv] at HC hle
  have HV := Lib.hid hv
  obtain ⟨v1, v2⟩ := v
  clear h ho hw hv hb1 hl
  by_cases h0 : s = 0
  · have hr := Lib.hid (show endS a ws = 0 by rw [endS, HST.out, if_pos h0])
    have hr2 := Lib.hid (show genB a ws = false by simp [genB, HST.out, h0])
    rw [hr.out, hr2.out]
    have hb0 : (s == 0) = true := by simp [h0]
    clear h0
    go_enter Try.func56, Try.ntmps56
    go_wp2_with fail
    go_ret2
    exact ⟨rfl, HB1.out⟩
  · have hr := Lib.hid (show endS a ws = v1 by rw [endS, HST.out, if_neg h0, ← HV.out])
    have hb0 : (s == 0) = false := by simp [h0]
    by_cases h1 : v2 = l
    · have hr2 := Lib.hid (show genB a ws = true by simp [genB, HST.out, h0, ← HV.out, HL.out, h1])
      rw [hr.out, hr2.out]
      have hb2 : ((v2 : Int) == (l : Int)) = true := by simp [h1]
      clear h0 h1
      go_enter Try.func56, Try.ntmps56
      go_wp2_with fail
      refine HC.out.mono ?_
      rintro e w1 ⟨rfl, hbw⟩
      go_wp2_with fail
      go_ret2
      exact ⟨ret_ib2 rfl (by simp), HB1.out.trans (hbw.mono (by simp))⟩
    · have hr2 := Lib.hid (show genB a ws = false by simp [genB, ← HV.out, HL.out, h1])
      rw [hr.out, hr2.out]
      have hb2 : ((v2 : Int) == (l : Int)) = false := by simp; omega
      clear h0 h1
      go_enter Try.func56, Try.ntmps56
      go_wp2_with fail
      refine HC.out.mono ?_
      rintro e w1 ⟨rfl, hbw⟩
      go_wp2_with fail
      go_ret2
      exact ⟨ret_ib2 rfl (by simp), HB1.out.trans (hbw.mono (by simp))⟩
end Go.Proofs.Ytcciiikaejjooaa

/- Layer 3: Step, Run, Enabled, Generates, Accepts of the program. -/
namespace Go.Proofs.Ytcciiikaejjooaa
open Go.RowKit Go.Sort

def stepR (a : Au) (q ev : Int) : Int × Bool × Int := if plE a q ≠ 0 then (0, false, plE a q) else if ev ∈ a.al then ((stepO a q ev).getD 0, (stepO a q ev).isSome, 0) else (0, false, 9)
theorem pl_right {a : Au} {q : Int} (h : plE a q = 0) : Right a := by
  unfold plE at h
  by_cases h1 : chkE a ≠ 0
  · rw [if_pos h1] at h; exact absurd h h1
  · exact right_of (by simpa using h1)
theorem ret_ibi {i j : Int} {a b : Bool} {x y : Int} (h1 : i = j) (h : a = b) (h2 : x = y) : Ending.returned (.tuple #[.int .i64 i, .bool a, .int .i64 x]) = .returned (.tuple #[.int .i64 j, .bool b, .int .i64 y]) := by rw [h1, h, h2]
theorem ret_iii {i j i' j' x y : Int} (h1 : i = i') (h : j = j') (h2 : x = y) : Ending.returned (.tuple #[.int .i64 i, .int .i64 j, .int .i64 x]) = .returned (.tuple #[.int .i64 i', .int .i64 j', .int .i64 y]) := by rw [h1, h, h2]
theorem ret_bi {a b : Bool} {x y : Int} (h : a = b) (h2 : x = y) : Ending.returned (.tuple #[.bool a, .int .i64 x]) = .returned (.tuple #[.bool b, .int .i64 y]) := by rw [h, h2]

set_option maxHeartbeats 1600000 in
theorem mStep_any (A : Option Addr) (n c : Nat) (s : Int) (M : Option Addr) (m d : Nat) (E : Option Addr) (k g : Nat) (a : Au) (q ev : Int) (w : World) (h : AuR w w.heap.size A n c s M m d E k g a) :
    Calls Try.prog 18 #[.agg #[.slice A n c, .int .i64 s, .slice M m d, .slice E k g], .int .i64 q, .int .i64 ev] w fun e w' => e = .returned (.tuple #[.int .i64 (stepR a q ev).1, .bool (stepR a q ev).2.1, .int .i64 (stepR a q ev).2.2]) ∧ Below w.heap.size w w' := by
  have hb1 := (Below.refl w.heap.size w).alloc (Nat.le_refl _) (.cells #[.slice A n c, .int .i64 s, .slice M m d, .slice E k g] 25)
  have HB1 := Lib.hid hb1
  have hR1 := h.below hb1 (Nat.le_refl _)
  have HC := Lib.hid (checkPlace_any A n c s M m d E k g a q _ (hR1.more (by simp)))
  have HX := Lib.hid (BoxA.made w A n c s M m d E k g 25)
  have HR := Lib.hid h
  obtain ⟨u, hu⟩ : ∃ u, u = plE a q := ⟨_, rfl⟩
  rw [← hu] at HC
  have HU := Lib.hid hu
  clear h hR1 hu hb1
  by_cases h0 : u = 0
  · have hb0 : (u != 0) = false := by simp [h0]
    have hpl : plE a q = 0 := by rw [← HU.out, h0]
    have hri := pl_right hpl
    have hE := Lib.hid (fun W (hW : Below w.heap.size w W) => hasEvent_any A n c s M m d E k g ev w.heap.size a.al W (HR.out.al.below hW (Nat.le_refl _)) hW.size HR.out.hn HR.out.bn hri.up)
    have hS := Lib.hid (fun W (hW : Below w.heap.size w W) => step_any A n c s M m d E k g a q ev w.heap.size W (HR.out.below hW (Nat.le_refl _)) hW.size hri.edo)
    have HPL := Lib.hid hpl
    clear hpl hri h0
    by_cases h1 : ev ∈ a.al
    · have hr := Lib.hid (show stepR a q ev = ((stepO a q ev).getD 0, (stepO a q ev).isSome, 0) by rw [stepR, if_neg (by simp [HPL.out]), if_pos h1])
      have hd : decide (ev ∈ a.al) = true := by simpa using h1
      rw [hr.out]
      have hE2 := Lib.hid (fun W hW => by have h := hE.out W hW; rw [hd] at h; exact h)
      obtain ⟨r1, hr1⟩ : ∃ r, r = (stepO a q ev).getD 0 := ⟨_, rfl⟩
      obtain ⟨r2, hr2⟩ : ∃ r, r = (stepO a q ev).isSome := ⟨_, rfl⟩
      rw [← hr1, ← hr2] at hS ⊢
      clear h1 hd hr1 hr2
      go_enter Try.func18, Try.ntmps18
      go_wp2_with fail
      refine HC.out.mono ?_
      rintro e w1 ⟨rfl, hbw⟩
      have BX := Lib.hid (HX.out.below hbw (by simp))
      obtain ⟨p0, p1, p2, p3⟩ := BX.out
      have hz := hbw.size
      simp only [World.size_alloc] at hz
      have hB := HB1.out.trans (hbw.mono (by simp))
      clear hbw
      go_wp2_with fail
      refine (hE2.out _ hB).mono ?_
      rintro e w2 ⟨rfl, hbw⟩
      have hz2 := hbw.size
      have hB2 := hB.trans (hbw.mono hB.size)
      clear p0 p1 p2 p3
      obtain ⟨p0, p1, p2, p3⟩ := BX.out.below hbw (by omega)
      clear hbw
      go_wp2_with fail
      refine (hS.out _ hB2).mono ?_
      rintro e w3 ⟨rfl, hbw⟩
      go_wp2_with fail
      go_ret3
      exact ⟨rfl, hB2.trans (hbw.mono hB2.size)⟩
    · have hr := Lib.hid (show stepR a q ev = (0, false, 9) by rw [stepR, if_neg (by simp [HPL.out]), if_neg h1])
      have hd : decide (ev ∈ a.al) = false := by simpa using h1
      rw [hr.out]
      have hE2 := Lib.hid (fun W hW => by have h := hE.out W hW; rw [hd] at h; exact h)
      clear h1 hd
      go_enter Try.func18, Try.ntmps18
      go_wp2_with fail
      refine HC.out.mono ?_
      rintro e w1 ⟨rfl, hbw⟩
      have BX := Lib.hid (HX.out.below hbw (by simp))
      obtain ⟨p0, p1, p2, p3⟩ := BX.out
      have hz := hbw.size
      simp only [World.size_alloc] at hz
      have hB := HB1.out.trans (hbw.mono (by simp))
      clear hbw
      go_wp2_with fail
      refine (hE2.out _ hB).mono ?_
      rintro e w2 ⟨rfl, hbw⟩
      go_wp2_with fail
      go_ret3
      exact ⟨rfl, hB.trans (hbw.mono hB.size)⟩
  · have hb0 : (u != 0) = true := by simp [h0]
    have hr := Lib.hid (show stepR a q ev = (0, false, u) by rw [stepR, ← HU.out, if_pos h0])
    rw [hr.out]
    clear h0
    go_enter Try.func18, Try.ntmps18
    go_wp2_with fail
    refine HC.out.mono ?_
    rintro e w1 ⟨rfl, hbw⟩
    go_wp2
    go_ret3
    exact ⟨rfl, HB1.out.trans (hbw.mono (by simp))⟩

/-- All numbers of a word are in a set. -/
def inB (zs w : List Int) : Bool := w.all fun x => decide (x ∈ zs)
theorem in_next {zs w : List Int} {k : Nat} (h : k < w.length) (ht : inB zs (w.take k) = true) (he : decide (w.getD k 0 ∈ zs) = true) : inB zs (w.take (k + 1)) = true := by
  unfold inB at *
  rw [List.take_succ_eq_append_getElem h, List.all_append, ht]
  have e : w.getD k 0 = w[k] := by simp [List.getD, List.getElem?_eq_getElem h]
  rw [e] at he
  simpa using he
theorem in_bad {zs w : List Int} {k : Nat} (h : k < w.length) (he : decide (w.getD k 0 ∈ zs) = false) : inB zs w = false := by
  unfold inB
  rw [List.all_eq_false]
  exact ⟨w.getD k 0, getD_mem h, by simpa using he⟩
theorem in_all {zs w : List Int} {n : Nat} (hn : w.length = n) (ht : inB zs (w.take n) = true) : inB zs w = true := by
  rwa [List.take_of_length_le (by omega)] at ht
def runR (a : Au) (q : Int) (ws : List Int) : Int × Int × Int := if plE a q ≠ 0 then (0, 0, plE a q) else if inB a.al ws = true then ((runE a q ws).1, ((runE a q ws).2 : Int), 0) else (0, 0, 9)

set_option maxHeartbeats 1600000 in
theorem mRun_any (A : Option Addr) (n c : Nat) (s : Int) (M : Option Addr) (m d : Nat) (E : Option Addr) (k g : Nat) (a : Au) (q : Int) (W1 : Option Addr) (l lc : Nat) (ws : List Int) (w : World) (h : AuR w w.heap.size A n c s M m d E k g a) (hw : RdI w w.heap.size W1 ws) (hl : ws.length = l) (hlb : l ≤ 100000) :
    Calls Try.prog 19 #[.agg #[.slice A n c, .int .i64 s, .slice M m d, .slice E k g], .int .i64 q, .slice W1 l lc] w fun e w' => e = .returned (.tuple #[.int .i64 (runR a q ws).1, .int .i64 (runR a q ws).2.1, .int .i64 (runR a q ws).2.2]) ∧ Below w.heap.size w w' := by
  have hb1 := (Below.refl w.heap.size w).alloc (Nat.le_refl _) (.cells #[.slice A n c, .int .i64 s, .slice M m d, .slice E k g] 25)
  have HB1 := Lib.hid hb1
  have hR1 := h.below hb1 (Nat.le_refl _)
  have HC := Lib.hid (checkPlace_any A n c s M m d E k g a q _ (hR1.more (by simp)))
  have HX := Lib.hid (BoxA.made w A n c s M m d E k g 25)
  have HR := Lib.hid h
  have HW := Lib.hid hw
  have HL := Lib.hid hl
  obtain ⟨u, hu⟩ : ∃ u, u = plE a q := ⟨_, rfl⟩
  rw [← hu] at HC
  have HU := Lib.hid hu
  clear h hR1 hu hb1 hw hl
  by_cases h0 : u = 0
  · have hb0 : (u != 0) = false := by simp [h0]
    have hpl : plE a q = 0 := by rw [← HU.out, h0]
    have hri := pl_right hpl
    have hE := Lib.hid (fun ev W (hW : Below w.heap.size w W) => hasEvent_any A n c s M m d E k g ev w.heap.size a.al W (HR.out.al.below hW (Nat.le_refl _)) hW.size HR.out.hn HR.out.bn hri.up)
    have hS := Lib.hid (fun W (hW : Below w.heap.size w W) => run_any A n c s M m d E k g a q W1 l lc ws w.heap.size W (HR.out.below hW (Nat.le_refl _)) hW.size hri.edo (HW.out.below hW (Nat.le_refl _)) HL.out hlb)
    have HPL := Lib.hid hpl
    obtain ⟨r, hr⟩ : ∃ r, r = runR a q ws := ⟨_, rfl⟩
    rw [← hr]
    have HV := Lib.hid (show r = if inB a.al ws = true then ((runE a q ws).1, ((runE a q ws).2 : Int), 0) else (0, 0, 9) by rw [hr, runR, if_neg (by simp [HPL.out])])
    clear hpl hri h0 hr
    obtain ⟨r1, r2, r3⟩ := r
    go_enter Try.func19, Try.ntmps19
    go_wp2_with fail
    refine HC.out.mono ?_
    rintro e w1 ⟨rfl, hbw⟩
    have BX := Lib.hid (HX.out.below hbw (by simp))
    have hz := hbw.size
    simp only [World.size_alloc] at hz
    have hB := HB1.out.trans (hbw.mono (by simp))
    clear hbw
    go_wp2_with fail
    go_loopw [20] (fun i wr => ∃ j : Nat, j ≤ l ∧ i = .int .i64 j ∧ Hid (inB a.al (ws.take j) = true) ∧ Below w.heap.size w wr ∧ Hid (BoxA wr w.heap.size A n c s M m d E k g) ∧ w.heap.size < wr.heap.size) (fun i _ => l - (intOf i).toNat)
    case atStart => exact ⟨0, Nat.zero_le _, rfl, rfl, hB, BX, by omega⟩
    case round =>
      obtain ⟨j, hj, rfl, ht, hbel, hbx, hlt0⟩ := hrel
      obtain ⟨y0, y1, y2, y3⟩ := hbx.out
      by_cases hlt : j < l
      · obtain ⟨b1, o1, rfl, hbB, hc1⟩ := HW.out (by rw [HL.out]; omega)
        have hz : j < ws.length := by rw [HL.out]; exact hlt
        have h1 := hc1 j hz
        obtain ⟨x, hxe⟩ : ∃ x, x = ws.getD j 0 := ⟨_, rfl⟩
        rw [← hxe] at h1
        have h2 : wr.cell? ⟨b1, o1 + j, none⟩ = some (.int .i64 x) := (hbel.cell (p := ⟨b1, o1 + j, none⟩) hbB).trans h1
        obtain ⟨r, hr⟩ : ∃ r, decide (x ∈ a.al) = r := ⟨_, rfl⟩
        have HC1 := Lib.hid (by have h := hE.out x wr hbel; rw [hr] at h; exact h)
        clear hc1 h1
        cases r
        · have hf := Lib.hid (show (r1, r2, r3) = ((0 : Int), (0 : Int), (9 : Int)) by rw [HV.out, in_bad hz (by rw [← hxe]; exact hr)]; rfl)
          clear hr hxe ht hz
          go_wp2_with fail
          refine HC1.out.mono ?_
          rintro e w2 ⟨rfl, hbw⟩
          go_wp2_with fail
          go_ret3
          exact ⟨ret_iii (congrArg (fun p : Int × Int × Int => p.1) hf.out).symm (congrArg (fun p : Int × Int × Int => p.2.1) hf.out).symm (congrArg (fun p : Int × Int × Int => p.2.2) hf.out).symm, hbel.trans (hbw.mono (by omega))⟩
        · have hf := Lib.hid (in_next hz ht.out (by rw [← hxe]; exact hr))
          clear hr hxe ht hz
          go_wp2_with fail
          refine HC1.out.mono ?_
          rintro e w2 ⟨rfl, hbw⟩
          have hz2 := hbw.size
          go_wp2_with fail
          go_roundw
          case rel => exact ⟨j + 1, by omega, by go_num, hf, hbel.trans (hbw.mono (by omega)), Lib.hid (hbx.out.below hbw hlt0), by omega⟩
          case measure => simp [intOf]; omega
      · have hkn : j = l := by omega
        rw [hkn] at ht
        have hf := Lib.hid (show (r1, r2, r3) = ((runE a q ws).1, ((runE a q ws).2 : Int), (0 : Int)) by rw [HV.out, in_all HL.out ht.out]; rfl)
        have hS1 := Lib.hid (hS.out wr hbel)
        obtain ⟨t, ht1⟩ : ∃ t, t = runE a q ws := ⟨_, rfl⟩
        rw [← ht1] at hS1 hf
        clear hkn ht ht1
        obtain ⟨t1, t2⟩ := t
        go_wp2_with fail
        refine hS1.out.mono ?_
        rintro e w2 ⟨rfl, hbw⟩
        go_wp2_with fail
        go_ret3
        exact ⟨ret_iii (congrArg (fun p : Int × Int × Int => p.1) hf.out).symm (congrArg (fun p : Int × Int × Int => p.2.1) hf.out).symm (congrArg (fun p : Int × Int × Int => p.2.2) hf.out).symm, hbel.trans (hbw.mono (by omega))⟩
  · have hb0 : (u != 0) = true := by simp [h0]
    have hr := Lib.hid (show runR a q ws = (0, 0, u) by rw [runR, ← HU.out, if_pos h0])
    rw [hr.out]
    clear h0
    go_enter Try.func19, Try.ntmps19
    go_wp2_with fail
    refine HC.out.mono ?_
    rintro e w1 ⟨rfl, hbw⟩
    go_wp2
    go_ret3
    exact ⟨rfl, HB1.out.trans (hbw.mono (by simp))⟩

def genR (a : Au) (ws : List Int) : Bool × Int := if chkE a ≠ 0 then (false, chkE a) else (genB a ws, 0)
def accR (a : Au) (ws : List Int) : Bool × Int := if chkE a ≠ 0 then (false, chkE a) else (accB a ws, 0)
set_option maxHeartbeats 1600000 in
theorem mGenerates_any (A : Option Addr) (n c : Nat) (s : Int) (M : Option Addr) (m d : Nat) (E : Option Addr) (k g : Nat) (a : Au) (W1 : Option Addr) (l lc : Nat) (ws : List Int) (w : World) (h : AuR w w.heap.size A n c s M m d E k g a) (hw : RdI w w.heap.size W1 ws) (hl : ws.length = l) (hlb : l ≤ 100000) :
    Calls Try.prog 21 #[.agg #[.slice A n c, .int .i64 s, .slice M m d, .slice E k g], .slice W1 l lc] w fun e w' => e = .returned (.tuple #[.bool (genR a ws).1, .int .i64 (genR a ws).2]) ∧ Below w.heap.size w w' := by
  have hb1 := (Below.refl w.heap.size w).alloc (Nat.le_refl _) (.cells #[.slice A n c, .int .i64 s, .slice M m d, .slice E k g] 25)
  have HB1 := Lib.hid hb1
  have hR1 := h.below hb1 (Nat.le_refl _)
  have HC := Lib.hid (mCheck_any A n c s M m d E k g a _ (hR1.more (by simp)))
  have HX := Lib.hid (BoxA.made w A n c s M m d E k g 25)
  have HR := Lib.hid h
  have HW := Lib.hid hw
  have HL := Lib.hid hl
  obtain ⟨u, hu⟩ : ∃ u, u = chkE a := ⟨_, rfl⟩
  rw [← hu] at HC
  have HU := Lib.hid hu
  clear h hR1 hu hb1 hw hl
  by_cases h0 : u = 0
  · have hb0 : (u != 0) = false := by simp [h0]
    have hri := right_of (a := a) (by rw [← HU.out, h0])
    have hS := Lib.hid (fun W (hW : Below w.heap.size w W) => end_any A n c s M m d E k g a W1 l lc ws w.heap.size W (HR.out.below hW (Nat.le_refl _)) hW.size hri.edo (HW.out.below hW (Nat.le_refl _)) HL.out hlb)
    have hr := Lib.hid (show genR a ws = (genB a ws, 0) by rw [genR, if_neg (by rw [← HU.out, h0]; simp)])
    rw [hr.out]
    obtain ⟨r1, hr1⟩ : ∃ r, r = endS a ws := ⟨_, rfl⟩
    obtain ⟨r2, hr2⟩ : ∃ r, r = genB a ws := ⟨_, rfl⟩
    rw [← hr1, ← hr2] at hS
    rw [← hr2]
    clear h0 hri hr1 hr2
    go_enter Try.func21, Try.ntmps21
    go_wp2_with fail
    refine HC.out.mono ?_
    rintro e w1 ⟨rfl, hbw⟩
    obtain ⟨p0, p1, p2, p3⟩ := HX.out.below hbw (by simp)
    have hz := hbw.size
    simp only [World.size_alloc] at hz
    have hB := HB1.out.trans (hbw.mono (by simp))
    clear hbw
    go_wp2_with fail
    refine (hS.out _ hB).mono ?_
    rintro e w2 ⟨rfl, hbw⟩
    go_wp2_with fail
    go_ret2
    exact ⟨rfl, hB.trans (hbw.mono hB.size)⟩
  · have hb0 : (u != 0) = true := by simp [h0]
    have hr := Lib.hid (show genR a ws = (false, u) by rw [genR, ← HU.out, if_pos h0])
    rw [hr.out]
    clear h0
    go_enter Try.func21, Try.ntmps21
    go_wp2_with fail
    refine HC.out.mono ?_
    rintro e w1 ⟨rfl, hbw⟩
    go_wp2
    go_ret2
    exact ⟨rfl, HB1.out.trans (hbw.mono (by simp))⟩
theorem acc_end {a : Au} {ws : List Int} (hg : genB a ws = true) : accB a ws = decide (endS a ws ∈ a.mr) := by
  have : a.st ≠ 0 := by unfold genB at hg; simp at hg; exact hg.1
  rw [accB, hg, Bool.true_and, endS, if_neg this]
set_option maxHeartbeats 1600000 in
theorem mAccepts_any (A : Option Addr) (n c : Nat) (s : Int) (M : Option Addr) (m d : Nat) (E : Option Addr) (k g : Nat) (a : Au) (W1 : Option Addr) (l lc : Nat) (ws : List Int) (w : World) (h : AuR w w.heap.size A n c s M m d E k g a) (hw : RdI w w.heap.size W1 ws) (hl : ws.length = l) (hlb : l ≤ 100000) :
    Calls Try.prog 22 #[.agg #[.slice A n c, .int .i64 s, .slice M m d, .slice E k g], .slice W1 l lc] w fun e w' => e = .returned (.tuple #[.bool (accR a ws).1, .int .i64 (accR a ws).2]) ∧ Below w.heap.size w w' := by
  have hb1 := (Below.refl w.heap.size w).alloc (Nat.le_refl _) (.cells #[.slice A n c, .int .i64 s, .slice M m d, .slice E k g] 25)
  have HB1 := Lib.hid hb1
  have hR1 := h.below hb1 (Nat.le_refl _)
  have HC := Lib.hid (mCheck_any A n c s M m d E k g a _ (hR1.more (by simp)))
  have HX := Lib.hid (BoxA.made w A n c s M m d E k g 25)
  have HR := Lib.hid h
  have HW := Lib.hid hw
  have HL := Lib.hid hl
  obtain ⟨u, hu⟩ : ∃ u, u = chkE a := ⟨_, rfl⟩
  rw [← hu] at HC
  have HU := Lib.hid hu
  clear h hR1 hu hb1 hw hl
  by_cases h0 : u = 0
  · have hb0 : (u != 0) = false := by simp [h0]
    have hri := right_of (a := a) (by rw [← HU.out, h0])
    have hS := Lib.hid (fun W (hW : Below w.heap.size w W) => end_any A n c s M m d E k g a W1 l lc ws w.heap.size W (HR.out.below hW (Nat.le_refl _)) hW.size hri.edo (HW.out.below hW (Nat.le_refl _)) HL.out hlb)
    have hM := Lib.hid (fun x W (hW : Below w.heap.size w W) => mContains_any M m d w.heap.size a.mr x W (HR.out.mr.below hW (Nat.le_refl _)) HR.out.hm (by have := HR.out.bm; omega) (up_of hri.mro))
    have hr := Lib.hid (show accR a ws = (accB a ws, 0) by rw [accR, if_neg (by rw [← HU.out, h0]; simp)])
    rw [hr.out]
    obtain ⟨r1, hr1⟩ : ∃ r, r = endS a ws := ⟨_, rfl⟩
    obtain ⟨r2, hr2⟩ : ∃ r, r = genB a ws := ⟨_, rfl⟩
    rw [← hr1, ← hr2] at hS
    have HR1 := Lib.hid hr1
    have HR2 := Lib.hid hr2
    clear h0 hri hr1 hr2
    cases r2
    · have hr3 := Lib.hid (show accB a ws = false by rw [accB, ← HR2.out]; rfl)
      rw [hr3.out]
      go_enter Try.func22, Try.ntmps22
      go_wp2_with fail
      refine HC.out.mono ?_
      rintro e w1 ⟨rfl, hbw⟩
      obtain ⟨p0, p1, p2, p3⟩ := HX.out.below hbw (by simp)
      have hz := hbw.size
      simp only [World.size_alloc] at hz
      have hB := HB1.out.trans (hbw.mono (by simp))
      clear hbw
      go_wp2_with fail
      refine (hS.out _ hB).mono ?_
      rintro e w2 ⟨rfl, hbw⟩
      go_wp2_with fail
      go_ret2
      exact ⟨rfl, hB.trans (hbw.mono hB.size)⟩
    · have hr3 := Lib.hid (show accB a ws = decide (r1 ∈ a.mr) by rw [acc_end HR2.out.symm, HR1.out])
      rw [hr3.out]
      obtain ⟨r4, hr4⟩ : ∃ r, r = decide (r1 ∈ a.mr) := ⟨_, rfl⟩
      have hM1 := Lib.hid (fun W hW => by have h := hM.out r1 W hW; rw [← hr4] at h; exact h)
      rw [← hr4]
      clear hr4
      go_enter Try.func22, Try.ntmps22
      go_wp2_with fail
      refine HC.out.mono ?_
      rintro e w1 ⟨rfl, hbw⟩
      have BX := Lib.hid (HX.out.below hbw (by simp))
      obtain ⟨p0, p1, p2, p3⟩ := BX.out
      have hz := hbw.size
      simp only [World.size_alloc] at hz
      have hB := HB1.out.trans (hbw.mono (by simp))
      clear hbw
      go_wp2_with fail
      refine (hS.out _ hB).mono ?_
      rintro e w2 ⟨rfl, hbw⟩
      have hB2 := hB.trans (hbw.mono hB.size)
      clear p0 p1 p2 p3
      obtain ⟨p0, p1, p2, p3⟩ := BX.out.below hbw (by omega)
      have hz2 := hbw.size
      clear hbw
      go_wp2_with fail
      refine (hM1.out _ hB2).mono ?_
      rintro e w3 ⟨rfl, rfl⟩
      go_wp2_with fail
      go_ret2
      exact ⟨rfl, hB2⟩
  · have hb0 : (u != 0) = true := by simp [h0]
    have hr := Lib.hid (show accR a ws = (false, u) by rw [accR, ← HU.out, if_pos h0])
    rw [hr.out]
    clear h0
    go_enter Try.func22, Try.ntmps22
    go_wp2_with fail
    refine HC.out.mono ?_
    rintro e w1 ⟨rfl, hbw⟩
    go_wp2
    go_ret2
    exact ⟨rfl, HB1.out.trans (hbw.mono (by simp))⟩
end Go.Proofs.Ytcciiikaejjooaa

/- Layer 3: blocks known whole; lists of edges of the call's own. -/
namespace Go.Proofs.Ytcciiikaejjooaa
open Go.RowKit Go.Sort

/-- A block holds just these cells. -/
def Row (w : World) (g : Nat) (e : TypeId) (cs : List Value) : Prop := w.heap[g]? = some (.cells cs.toArray e (0, 0))
theorem Row.cell {w : World} {g : Nat} {e : TypeId} {cs : List Value} (h : Row w g e cs) (j : Nat) {v : Value} (hj : cs[j]? = some v) : w.cell? ⟨g, j, none⟩ = some v := by
  rw [cell_of_row w g j cs.toArray e (0, 0) h]; simpa using hj
theorem Row.frozen {w : World} {g : Nat} {e : TypeId} {cs : List Value} (h : Row w g e cs) (j : Nat) : w.frozen? ⟨g, j, none⟩ = false := frozen_of_row w g j cs.toArray e h
theorem Row.lt {w : World} {g : Nat} {e : TypeId} {cs : List Value} (h : Row w g e cs) : g < w.heap.size := (Array.getElem?_eq_some_iff.1 h).1
theorem Row.below {w w' : World} {g B : Nat} {e : TypeId} {cs : List Value} (h : Row w g e cs) (hb : Below B w w') (hB : g < B) : Row w' g e cs := (hb.block g hB).trans h
theorem Row.alloc {w : World} {g : Nat} {e : TypeId} {cs : List Value} (h : Row w g e cs) (o : Obj) : Row (w.alloc o) g e cs := (Below.heap_alloc w o g h.lt).trans h
theorem Row.drewN {w : World} {g : Nat} {e : TypeId} {cs : List Value} (h : Row w g e cs) (q : Nat) : Row (w.drewN q) g e cs := h
theorem Row.new (w : World) (cs : List Value) (e : TypeId) : Row (w.alloc (.cells cs.toArray e)) w.heap.size e cs := heap_alloc_new w _
theorem Row.set {w : World} {g : Nat} {e : TypeId} {cs : List Value} (h : Row w g e cs) (j : Nat) (u : Value) : Row (w.setCell ⟨g, j, none⟩ u) g e (cs.set j u) := by
  have := heap_setCell_same w g j cs.toArray e u h
  unfold Row; rw [this]; simp
theorem Row.setOther {w : World} {g : Nat} {e : TypeId} {cs : List Value} (h : Row w g e cs) {p : Addr} (hp : g ≠ p.block) (u : Value) : Row (w.setCell p u) g e cs := (Below.heap_setCell w p u g hp).trans h
theorem row_of_owns {w : World} {base g n : Nat} {e : TypeId} {xs : List Value} (h : w.ownsRow base e 1 (.slice (some ⟨g, 0, none⟩) n n) n xs) : Row w g e xs ∧ base ≤ g := by
  rcases h.2 with ⟨h', _⟩ | ⟨g', cap', cur, h', hb, hg, _, _, hs, htake⟩
  · simp at h'
  · simp only [Value.slice.injEq, Option.some.injEq, Addr.mk.injEq, and_true, true_and] at h'
    obtain ⟨rfl, rfl⟩ := h'
    refine ⟨?_, hb⟩
    rw [List.take_of_length_le (by simp [hs])] at htake
    unfold Row; rw [hg, ← htake]
theorem Row.rd {w : World} {g : Nat} {zs : List Int} (h : Row w g 3 (zs.map (Value.int .i64))) : RdI w w.heap.size (some ⟨g, 0, none⟩) zs := fun _ =>
  ⟨g, 0, rfl, h.lt, fun j hj => by
    rw [Nat.zero_add]
    exact h.cell j (by simp [List.getD, List.getElem?_eq_getElem hj])⟩
theorem Row.int {w : World} {g : Nat} {zs : List Int} (h : Row w g 3 (zs.map (Value.int .i64))) {j : Nat} (hj : j < zs.length) : w.cell? ⟨g, j, none⟩ = some (.int .i64 (zs.getD j 0)) :=
  h.cell j (by simp [List.getD, List.getElem?_eq_getElem hj])
theorem box_row {w : World} {b : Nat} (A : Option Addr) (n c : Nat) (s : Int) (M : Option Addr) (m d : Nat) (E : Option Addr) (k g : Nat) (h : Row w b 25 [.slice A n c, .int .i64 s, .slice M m d, .slice E k g]) : BoxA w b A n c s M m d E k g :=
  ⟨h.cell 0 rfl, h.cell 1 rfl, h.cell 2 rfl, h.cell 3 rfl⟩

/-- The cells of edges. -/
def encE (l : List Ed) : List Value := l.flatMap fun x => [.int .i64 x.f, .int .i64 x.e, .int .i64 x.t]
theorem encE_len (l : List Ed) : (encE l).length = l.length * 3 := by
  induction l with
  | nil => rfl
  | cons x l ih => simp [encE] at ih ⊢; omega
theorem encE_app (l r : List Ed) : encE (l ++ r) = encE l ++ encE r := by simp [encE]
theorem encE_at : ∀ (l : List Ed) (j : Nat) (x : Ed), l[j]? = some x → (encE l)[j * 3]? = some (.int .i64 x.f) ∧ (encE l)[j * 3 + 1]? = some (.int .i64 x.e) ∧ (encE l)[j * 3 + 2]? = some (.int .i64 x.t)
  | [], j, x, h => by simp at h
  | y :: l, 0, x, h => by simp at h; subst h; exact ⟨rfl, rfl, rfl⟩
  | y :: l, j + 1, x, h => by
    have e : ∀ i, (encE (y :: l))[i + 3]? = (encE l)[i]? := fun i => by
      show ([_, _, _] ++ encE l)[i + 3]? = _
      rw [List.getElem?_append_right (by simp)]; simp
    have ih := encE_at l j x (by simpa using h)
    rw [show (j + 1) * 3 = j * 3 + 3 by omega, show j * 3 + 3 + 1 = j * 3 + 1 + 3 by omega, show j * 3 + 3 + 2 = j * 3 + 2 + 3 by omega, e, e, e]
    exact ih
theorem info_edge : (Try.prog.info? 67).map (fun i => (i.zero, i.size, i.bytes)) = some (some (.agg #[.int .i64 0, .int .i64 0, .int .i64 0]), 3, 24) := by kernel_rfl
/-- The slice value owns, among the blocks from base on, these edges. -/
abbrev OwnE (w : World) (base : Nat) (v : Value) (l : List Ed) : Prop := w.ownsRow base 67 3 v l.length (encE l)
theorem ownE_rd {w : World} {base : Nat} {v : Value} {l : List Ed} (h : OwnE w base v l) : ∃ A c, v = .slice A l.length c ∧ RdG w w.heap.size A l ∧ l.length ≤ c ∧ c ≤ 9223372036854775807 := by
  rcases h.2 with ⟨rfl, h0⟩ | ⟨g, cap, cur, rfl, hg, hh, hn, hcap, hsz, htake⟩
  · rw [h0]; exact ⟨none, 0, rfl, fun h => by omega, Nat.le_refl _, by omega⟩
  · refine ⟨some ⟨g, 0, none⟩, cap, rfl, fun _ => ⟨g, 0, rfl, (h.lt g rfl).2, fun j x hj => ?_⟩, hn, by unfold maxLen at hcap; omega⟩
    have hl := (List.getElem?_eq_some_iff.1 hj).1
    obtain ⟨e0, e1, e2⟩ := encE_at l j x hj
    rw [Nat.zero_add]
    exact ⟨(World.ownsRow.cellAt (cap := cap) h (j * 3) (by omega)).trans e0, (World.ownsRow.cellAt (cap := cap) h (j * 3 + 1) (by omega)).trans e1, (World.ownsRow.cellAt (cap := cap) h (j * 3 + 2) (by omega)).trans e2⟩
/-- Two rows of unlike elements lie in unlike blocks. -/
theorem owns_ne {w : World} {b1 b2 : Nat} {e1 e2 : TypeId} {s1 s2 : Nat} {v1 v2 : Value} {n1 n2 : Nat} {x1 x2 : List Value} (h1 : w.ownsRow b1 e1 s1 v1 n1 x1) (h2 : w.ownsRow b2 e2 s2 v2 n2 x2) (he : e1 ≠ e2) : v1.ownBlock = none ∨ v1.ownBlock ≠ v2.ownBlock := by
  rcases h1.2 with ⟨rfl, _⟩ | ⟨g1, _, _, rfl, _, hg1, _⟩
  · exact .inl rfl
  · refine .inr ?_
    rcases h2.2 with ⟨rfl, _⟩ | ⟨g2, _, _, rfl, _, hg2, _⟩
    · simp [Value.ownBlock]
    · intro h
      simp only [Value.ownBlock, Option.some.injEq] at h
      subst h
      rw [hg1] at hg2
      injection hg2 with hg2
      injection hg2 with _ hg2
      exact he hg2
theorem row_ne_own {w : World} {g b2 : Nat} {e1 e2 : TypeId} {cs : List Value} {s2 : Nat} {v2 : Value} {n2 : Nat} {x2 : List Value} (h1 : Row w g e1 cs) (h2 : w.ownsRow b2 e2 s2 v2 n2 x2) (he : e1 ≠ e2) : v2.ownBlock ≠ some g := by
  rcases h2.2 with ⟨rfl, _⟩ | ⟨g2, _, _, rfl, _, hg2, _⟩
  · simp [Value.ownBlock]
  · intro h
    simp only [Value.ownBlock, Option.some.injEq] at h
    subst h
    rw [show w.heap[g2]? = _ from h1] at hg2
    injection hg2 with hg2
    injection hg2 with _ hg2
    exact he hg2
theorem run_make_rowN {P : Program} (t e : TypeId) (i : TypeInfo) (z : Value) (ht : P.underlying t = some (.slice e)) (hi : P.info? e = some i) (hz : i.zero = some z)
    (kl kc : IntKind) (n c : Nat) (hnc : n ≤ c) (hbytes : i.bytes * c ≤ 281474976710656) (h63 : c ≤ 9223372036854775807) (w : World) :
    (Instr.makeSlice t (.int kl (n : Int)) (.int kc (c : Int))).run P w = .ok (.slice (some ⟨w.heap.size, 0, none⟩) n c) (w.alloc (.cells (madeCells z.cells (c * i.size)) e)) := by
  have hb : (i.bytes : Int) * (c : Int) ≤ 281474976710656 := by
    have h : ((i.bytes * c : Nat) : Int) ≤ 281474976710656 := by omega
    rwa [Int.natCast_mul] at h
  have hr := run_make (P := P) w t e i z ht hi hz kl kc n c (by omega) (by omega) hb (by omega)
  simp only [Int.toNat_natCast] at hr
  exact hr
theorem make_ints (N : Nat) (hN : N ≤ 100000) (w : World) :
    (Instr.makeSlice 22 (.int .i64 (N : Int)) (.int .i64 (N : Int))).run Try.prog w = .ok (.slice (some ⟨w.heap.size, 0, none⟩) N N) (w.alloc (.cells (List.replicate N (Value.int .i64 0)).toArray 3)) := by
  obtain ⟨i0, hi, hz0, hz1, hz2⟩ := info_parts info_int
  have := run_make_rowN 22 3 i0 (.int .i64 0) Try.underlying22 hi hz0 .i64 .i64 N N (Nat.le_refl _) (by rw [hz2]; omega) (by omega) w
  rw [this, hz1, Nat.mul_one]
  have e : madeCells (Value.int .i64 0).cells N = (List.replicate N (Value.int .i64 0)).toArray := by
    rw [← toList_madeCells_one (.int .i64 0) N]; simp [Value.cells]
  rw [e]
end Go.Proofs.Ytcciiikaejjooaa

/- Layer 3: edgeStarts: for each state, how many edges leave smaller states. -/
namespace Go.Proofs.Ytcciiikaejjooaa
open Go.RowKit Go.Sort

/-- How many edges leave states below i. -/
def startN (l : List Ed) (i : Nat) : Nat := l.countP fun x => decide (x.f < (i : Int))
/-- How many edges leave the state before i. -/
def fromN (l : List Ed) (i : Nat) : Nat := l.countP fun x => decide (x.f + 1 = (i : Int))
def fromL (l : List Ed) (N : Nat) : List Int := (List.range N).map fun i => (fromN l i : Int)
/-- Behind i rounds of the second loop. -/
def midL (l : List Ed) (N i : Nat) : List Int := (List.range N).map fun p => if p ≤ i then (startN l p : Int) else (fromN l p : Int)
def startL (l : List Ed) (N : Nat) : List Int := (List.range N).map fun i => (startN l i : Int)
theorem fromL_len (l : List Ed) (N : Nat) : (fromL l N).length = N := by simp [fromL]
theorem midL_len (l : List Ed) (N i : Nat) : (midL l N i).length = N := by simp [midL]
theorem startL_len (l : List Ed) (N : Nat) : (startL l N).length = N := by simp [startL]
theorem fromL_at {l : List Ed} {N i : Nat} (h : i < N) : (fromL l N).getD i 0 = (fromN l i : Int) := by simp [fromL, List.getD, h]
theorem startL_at {l : List Ed} {N i : Nat} (h : i < N) : (startL l N).getD i 0 = (startN l i : Int) := by simp [startL, List.getD, h]
theorem midL_at {l : List Ed} {N i p : Nat} (h : p < N) : (midL l N i).getD p 0 = if p ≤ i then (startN l p : Int) else (fromN l p : Int) := by simp [midL, List.getD, h]
theorem fromL_nil (N : Nat) : fromL [] N = List.replicate N 0 := by
  apply List.ext_getElem
  · simp [fromL]
  · intro i h1 h2; simp [fromL, fromN]
theorem fromN_snoc (l : List Ed) (x : Ed) (i : Nat) : fromN (l ++ [x]) i = fromN l i + if x.f + 1 = (i : Int) then 1 else 0 := by
  simp [fromN, List.countP_append, List.countP_cons]
theorem fromN_le (l : List Ed) (i : Nat) : fromN l i ≤ l.length := List.countP_le_length
theorem startN_le (l : List Ed) (i : Nat) : startN l i ≤ l.length := List.countP_le_length
theorem fromL_step {l : List Ed} {N f1 : Nat} {x : Ed} (h : x.f + 1 = (f1 : Int)) (hN : f1 < N) : fromL (l ++ [x]) N = (fromL l N).set f1 ((fromN l f1 : Int) + 1) := by
  apply List.ext_getElem
  · simp [fromL]
  · intro i h1 h2
    rw [List.getElem_set]
    simp only [fromL, List.getElem_map, List.getElem_range, fromN_snoc]
    by_cases e : f1 = i
    · subst e; rw [if_pos rfl, if_pos h]; simp
    · rw [if_neg e, if_neg (by omega)]; simp
theorem startN_succ (l : List Ed) (i : Nat) : startN l (i + 1) = startN l i + fromN l (i + 1) := by
  induction l with
  | nil => rfl
  | cons x l ih =>
    simp only [startN, fromN, List.countP_cons] at ih ⊢
    by_cases h1 : x.f < (i : Int)
    · have h2 : x.f < ((i + 1 : Nat) : Int) := by omega
      have h3 : ¬ x.f + 1 = ((i + 1 : Nat) : Int) := by omega
      rw [if_pos (decide_eq_true h2), if_pos (decide_eq_true h1), if_neg (by simpa using h3)]; omega
    · by_cases h2 : x.f < ((i + 1 : Nat) : Int)
      · have h3 : x.f + 1 = ((i + 1 : Nat) : Int) := by omega
        rw [if_pos (decide_eq_true h2), if_neg (by simpa using h1), if_pos (decide_eq_true h3)]; omega
      · have h3 : ¬ x.f + 1 = ((i + 1 : Nat) : Int) := by omega
        rw [if_neg (by simpa using h2), if_neg (by simpa using h1), if_neg (by simpa using h3)]; omega
theorem startN_zero {l : List Ed} (h : ∀ x ∈ l, 0 ≤ x.f) : startN l 0 = 0 := by
  unfold startN; rw [List.countP_eq_zero]; intro x hx; have := h x hx; simp; omega
theorem fromN_zero {l : List Ed} (h : ∀ x ∈ l, 0 ≤ x.f) : fromN l 0 = 0 := by
  unfold fromN; rw [List.countP_eq_zero]; intro x hx; have := h x hx; simp; omega
theorem midL_zero {l : List Ed} (h : ∀ x ∈ l, 0 ≤ x.f) (N : Nat) : fromL l N = midL l N 0 := by
  apply List.ext_getElem
  · simp [fromL, midL]
  · intro i h1 h2
    simp only [fromL, midL, List.getElem_map, List.getElem_range]
    by_cases e : i ≤ 0
    · obtain rfl : i = 0 := by omega
      simp [startN_zero h, fromN_zero h]
    · rw [if_neg e]
theorem midL_step {l : List Ed} {N i i1 : Nat} (hi : i1 = i + 1) (h : i1 < N) : midL l N i1 = (midL l N i).set i1 ((fromN l i1 : Int) + (startN l i : Int)) := by
  subst hi
  apply List.ext_getElem
  · simp [midL]
  · intro p h1 h2
    rw [List.getElem_set]
    simp only [midL, List.getElem_map, List.getElem_range]
    by_cases e : i + 1 = p
    · subst e; rw [if_pos (Nat.le_refl _), if_pos rfl, startN_succ]; omega
    · rw [if_neg e]
      by_cases h3 : p ≤ i
      · rw [if_pos (by omega), if_pos h3]
      · rw [if_neg (by omega), if_neg h3]
theorem midL_end {l : List Ed} {N i : Nat} (h : N ≤ i + 1) : midL l N i = startL l N := by
  apply List.ext_getElem
  · simp [startL, midL]
  · intro p h1 h2
    simp only [midL, startL, List.getElem_map, List.getElem_range]
    rw [if_pos (by simp [startL] at h2; omega)]
theorem map_set_int (zs : List Int) (j : Nat) (v : Int) : (zs.map (Value.int .i64)).set j (.int .i64 v) = (zs.set j v).map (Value.int .i64) := by rw [List.map_set]
theorem take_succ_ed {l : List Ed} {j : Nat} {x : Ed} (h : l[j]? = some x) : l.take (j + 1) = l.take j ++ [x] := by
  obtain ⟨hk, e⟩ := List.getElem?_eq_some_iff.1 h
  rw [List.take_succ_eq_append_getElem hk, e]

set_option maxHeartbeats 1600000 in
set_option maxRecDepth 10000 in
theorem edgeStarts_any (A : Option Addr) (n c : Nat) (s : Int) (M : Option Addr) (m d : Nat) (E : Option Addr) (k g : Nat) (a : Au) (S : Nat) (B : Nat) (w : World) (h : AuR w B A n c s M m d E k g a) (hB : B ≤ w.heap.size) (hS : s = (S : Int)) (hSb : S ≤ 5000) (hf : ∀ x ∈ a.ed, 0 ≤ x.f ∧ x.f < a.st) :
    Calls Try.prog 72 #[.agg #[.slice A n c, .int .i64 s, .slice M m d, .slice E k g]] w fun e w' => ∃ gS, e = .returned (.slice (some ⟨gS, 0, none⟩) (S + 1) (S + 1)) ∧ w.heap.size ≤ gS ∧ Row w' gS 3 ((startL a.ed (S + 1)).map (Value.int .i64)) ∧ Below w.heap.size w w' := by
  have hst := h.st
  subst hS
  have HR := Lib.hid h
  have HF := Lib.hid hf
  have HST := Lib.hid hst
  have HB1 := Lib.hid ((Below.refl w.heap.size w).alloc (Nat.le_refl _) (.cells #[.slice A n c, .int .i64 (S : Int), .slice M m d, .slice E k g] 25))
  have HX := Lib.hid (Row.new w [.slice A n c, .int .i64 (S : Int), .slice M m d, .slice E k g] 25)
  have hbk := h.bk
  have hmk := make_ints (S + 1) (by omega)
  simp only [Int.natCast_add, Int.cast_ofNat_Int] at hmk
  clear h hf hst
  go_enter Try.func72, Try.ntmps72
  have HG0 := Lib.hid (show Row ((w.alloc (.cells #[.slice A n c, .int .i64 (S : Int), .slice M m d, .slice E k g] 25)).alloc (.cells (List.replicate (S + 1) (Value.int .i64 0)).toArray 3)) (w.heap.size + 1) 3 ((fromL (a.ed.take 0) (S + 1)).map (Value.int .i64)) by
    have := Row.new (w.alloc (.cells #[.slice A n c, .int .i64 (S : Int), .slice M m d, .slice E k g] 25)) (List.replicate (S + 1) (Value.int .i64 0)) 3
    rw [List.take_zero, fromL_nil, List.map_replicate]
    simpa using this)
  have HX2 := Lib.hid (HX.out.alloc (.cells (List.replicate (S + 1) (Value.int .i64 0)).toArray 3))
  have HB2 := Lib.hid (HB1.out.alloc (by simp) (.cells (List.replicate (S + 1) (Value.int .i64 0)).toArray 3))
  go_wp2_with fail
  go_loopw [14] (fun i wr => ∃ j : Nat, j ≤ k ∧ i = .int .i64 j ∧ Below w.heap.size w wr ∧ Hid (Row wr w.heap.size 25 [.slice A n c, .int .i64 (S : Int), .slice M m d, .slice E k g]) ∧ Hid (Row wr (w.heap.size + 1) 3 ((fromL (a.ed.take j) (S + 1)).map (Value.int .i64))) ∧ w.heap.size + 1 < wr.heap.size) (fun i _ => k - (intOf i).toNat)
  case atStart => exact ⟨0, Nat.zero_le _, rfl, HB2.out, HX2, HG0, by simp⟩
  case round =>
    obtain ⟨j, hj, rfl, hbel, hbx, hro, hlt0⟩ := hrel
    have hk2 := Lib.hid HR.out.hk
    have hy1 := hbx.out.cell 1 rfl
    by_cases hlt : j < k
    · have hz : j < a.ed.length := by rw [hk2.out]; exact hlt
      obtain ⟨b1, o1, rfl, hb1, hc1⟩ := HR.out.ed (by omega)
      obtain ⟨x, hx⟩ : ∃ x, a.ed[j]? = some x := ⟨_, List.getElem?_eq_getElem hz⟩
      have hxr : EdAt wr b1 (o1 + j * 3) x := (hc1 j x hx).keep fun o => hbel.cell (p := ⟨b1, o, none⟩) (Nat.lt_of_lt_of_le hb1 hB)
      have hfx := HF.out x (List.mem_of_getElem? hx)
      rw [HST.out] at hfx
      have hX := Lib.hid hx
      clear hx hz hc1
      obtain ⟨xf, xe, xt⟩ := x
      simp only at hfx
      obtain ⟨F, rfl⟩ : ∃ F : Nat, xf = (F : Int) := ⟨xf.toNat, by omega⟩
      have hF : F < S := by omega
      obtain ⟨x0, x1, x2⟩ := hxr
      have hcF : wr.cell? ⟨w.heap.size + 1, F + 1, none⟩ = some (.int .i64 (fromN (a.ed.take j) (F + 1) : Int)) := by
        have := hro.out.int (j := F + 1) (by rw [fromL_len]; omega)
        rwa [fromL_at (by omega)] at this
      have hfF := hro.out.frozen (F + 1)
      have hle := fromN_le (a.ed.take j) (F + 1)
      have hle2 : (a.ed.take j).length ≤ j := List.length_take_le _ _
      have HN := Lib.hid (fromL_step (l := a.ed.take j) (N := S + 1) (f1 := F + 1) (x := ⟨(F : Int), xe, xt⟩) (by simp) (by omega))
      obtain ⟨q, hq⟩ : ∃ q, q = fromN (a.ed.take j) (F + 1) := ⟨_, rfl⟩
      rw [← hq] at hcF hle HN
      clear hq hfx
      go_wp2_with fail
      go_roundw
      case rel => exact ⟨j + 1, by omega, by go_num, (hbel.setCell (p := ⟨w.heap.size + 1, F + 1, none⟩) (by simp) _).alloc (by simp; omega) _, Lib.hid ((hbx.out.setOther (p := ⟨w.heap.size + 1, F + 1, none⟩) (by simp) _).alloc _), Lib.hid (by
        rw [take_succ_ed hX.out, HN.out, ← map_set_int]; exact (hro.out.set (F + 1) _).alloc _), by simp; omega⟩
      case measure => simp [intOf]; omega
    · obtain rfl : j = k := by omega
      have hmid := Lib.hid (show Row wr (w.heap.size + 1) 3 ((midL a.ed (S + 1) 0).map (Value.int .i64)) by
        rw [← midL_zero (fun x hx => (HF.out x hx).1)]
        have := hro.out
        rwa [List.take_of_length_le (by rw [hk2.out]; exact Nat.le_refl _)] at this)
      clear hro
      go_wp2_with fail
      go_loopw [29] (fun i wr => ∃ p : Nat, p ≤ S ∧ i = .int .i64 p ∧ Below w.heap.size w wr ∧ Hid (Row wr w.heap.size 25 [.slice A n c, .int .i64 (S : Int), .slice M m d, .slice E j g]) ∧ Hid (Row wr (w.heap.size + 1) 3 ((midL a.ed (S + 1) p).map (Value.int .i64))) ∧ w.heap.size + 1 < wr.heap.size) (fun i _ => S - (intOf i).toNat)
      case atStart => exact ⟨0, Nat.zero_le _, rfl, hbel, hbx, hmid, hlt0⟩
      case round =>
        clear hbel hbx hmid hlt0
        obtain ⟨p, hp, rfl, hbel, hbx, hro, hlt0⟩ := hrel
        by_cases hlt2 : p < S
        · obtain ⟨p1, hp1⟩ : ∃ p1, p1 = p + 1 := ⟨_, rfl⟩
          have HP := Lib.hid hp1
          have hpS : p1 < S + 1 := by omega
          have hc0 : wr.cell? ⟨w.heap.size + 1, p, none⟩ = some (.int .i64 (startN a.ed p : Int)) := by
            have := hro.out.int (j := p) (by rw [midL_len]; omega)
            rwa [midL_at (by omega), if_pos (Nat.le_refl _)] at this
          have hc1 : wr.cell? ⟨w.heap.size + 1, p1, none⟩ = some (.int .i64 (fromN a.ed p1 : Int)) := by
            have := hro.out.int (j := p1) (by rw [midL_len]; omega)
            rwa [midL_at (by omega), if_neg (by omega)] at this
          have hfr := hro.out.frozen p1
          have hl1 := startN_le a.ed p
          have hl2 := fromN_le a.ed p1
          rw [hk2.out] at hl1 hl2
          have hN := Lib.hid (midL_step (l := a.ed) hp1 hpS)
          have hwr : IntKind.i64.wrap ((p : Int) + 1) = (p1 : Int) := by rw [IntWalk.i64_in _ (by omega)]; omega
          obtain ⟨q, hq⟩ : ∃ q, q = startN a.ed p := ⟨_, rfl⟩
          obtain ⟨r, hr⟩ : ∃ r, r = fromN a.ed p1 := ⟨_, rfl⟩
          rw [← hq] at hc0 hl1 hN
          rw [← hr] at hc1 hl2 hN
          have hwr2 : IntKind.i64.wrap ((r : Int) + (q : Int)) = (r : Int) + (q : Int) := by rw [IntWalk.i64_in _ (by omega)]
          clear hq hr hp1
          go_wp2_with fail
          have i0 : (0 : Int) ≤ (p1 : Int) := by omega
          have i1 : (p1 : Int) < (S : Int) + 1 := by omega
          have i2 : (p : Int) < (S : Int) + 1 := by omega
          go_still_tail 11, (by kernel_rfl)
          change wpList _ _ _ _ _ wr.drew
          go_wp2_with fail
          go_roundw
          case rel => exact ⟨p1, by omega, by have := HP.out; go_num, (hbel.drew.setCell (p := ⟨w.heap.size + 1, p1, none⟩) (by simp) _), Lib.hid (Row.setOther (w := wr.drew) hbx.out (p := ⟨w.heap.size + 1, p1, none⟩) (by simp) _), Lib.hid (by
            rw [hN.out, ← map_set_int]; exact Row.set (w := wr.drew) hro.out p1 _), by simp; omega⟩
          case measure => have := HP.out; simp [intOf]; omega
        · obtain rfl : p = S := by omega
          have hN := Lib.hid (midL_end (l := a.ed) (N := p + 1) (i := p) (Nat.le_refl _))
          go_wp2_with fail
          go_ret
          exact ⟨w.heap.size + 1, rfl, by omega, by have := hro.out; rwa [hN.out] at this, hbel⟩
end Go.Proofs.Ytcciiikaejjooaa

/- Layer 3: what is told of arguments that came in: an automaton, a slice of ints. -/
namespace Go.Proofs.Ytcciiikaejjooaa
open Go.ChangeShapes Go.WideShapes Go.ChangeAt Go.RowKit Go.Deep
open Go.ChangeMaps (open_string shut_string)

theorem own : ownKnob Try.prog.godebug = none := by kernel_rfl
theorem laidOut : laidOutB Try.prog = true := by kernel_rfl

/-- A slice of ints that came in. -/
structure SlI (W : World) (v : Value) (A : Option Addr) (n c : Nat) (zs : List Int) : Prop where
  eq : v = .slice A n c
  len : zs.length = n
  rd : RdI W W.heap.size A zs
  wf : ∀ z ∈ zs, (Lit.int .i64 z).wf = true
  cap : n ≤ c
  top : c ≤ 9223372036854775807

section
variable {H : Type} {enc : TypeId × Value → H} {W : World} {a0 : Option Addr} {len cap : Nat} {d : DataW H} {p : List MemPlace}

set_option maxRecDepth 8000 in
theorem open_rdI (h : DataW.Trod enc Try.prog W 0 (fun _ => true) true 22 (.slice a0 len cap) d p) (hlt : ∀ x ∈ p, x.block < W.heap.size) :
    ∃ zs : List Int, zs.length = len ∧ RdI W W.heap.size a0 zs ∧ (∀ z ∈ zs, (Lit.int .i64 z).wf = true) ∧ len ≤ maxLen := by
  obtain ⟨fuel, hf⟩ := h
  rcases open_ints Try.underlying22 Try.underlying3 (by kernel_rfl) hf with ⟨hcs, _⟩ | ⟨a, l, c, zs, hcs, _, hl, hm, hz, hx, hcell, hwz⟩
  · simp [Value.cells] at hcs
    obtain ⟨rfl, rfl, rfl⟩ := hcs
    exact ⟨[], rfl, RdI.nil _ _ _, by simp, by unfold maxLen; omega⟩
  · simp [Value.cells] at hcs
    obtain ⟨rfl, rfl, rfl⟩ := hcs
    simp only [Prod.mk.injEq] at hx
    obtain ⟨rfl, rfl⟩ := hx
    simp only [if_true] at hz
    refine ⟨zs.take len, by rw [List.length_take]; omega, fun h0 => ?_, fun z hz' => hwz z (List.mem_of_mem_take hz'), by omega⟩
    rw [List.length_take] at h0
    obtain ⟨b, off, spot⟩ := a
    have hspot : spot = none := by simpa [Addr.add] using World.cell?_spot (hcell 0 (by omega))
    subst hspot
    refine ⟨b, off, rfl, hlt (.cell b off) (MemPlace.mem_row.2 ⟨0, by omega, by simp⟩), fun j hj => ?_⟩
    rw [List.length_take] at hj
    rw [← add_plain, hcell j (by omega)]
    simp [List.getD, show j < len by omega]

set_option maxRecDepth 8000 in
theorem open_rdG (h : DataW.Trod enc Try.prog W 0 (fun _ => true) true 23 (.slice a0 len cap) d p) (hlt : ∀ x ∈ p, x.block < W.heap.size) :
    ∃ l : List Ed, l.length = len ∧ RdG W W.heap.size a0 l ∧ len ≤ maxLen := by
  obtain ⟨fuel, hf⟩ := h
  rcases open_slice Try.underlying23 hf with ⟨hcs, _⟩ | ⟨a, l, c, m, n, D, Pl, hcs, _, hl, hm, hmm, hx, hi⟩
  · simp [Value.cells] at hcs
    obtain ⟨rfl, rfl, rfl⟩ := hcs
    exact ⟨[], rfl, fun h => absurd h (by simp), by unfold maxLen; omega⟩
  · simp [Value.cells] at hcs
    obtain ⟨rfl, rfl, rfl⟩ := hcs
    have h5 : Try.prog.cellsOf 67 = 3 := by kernel_rfl
    simp only [if_true] at hmm
    have each : ∀ j, j < m → ∃ x : Ed, W.cell? (a.add (j * 3)) = some (.int .i64 x.f) ∧ W.cell? ((a.add (j * 3)).add 1) = some (.int .i64 x.e) ∧ W.cell? ((a.add (j * 3)).add 2) = some (.int .i64 x.t) := by
      intro j hj
      obtain ⟨cs', hc, ht⟩ := hi j hj
      rw [h5] at hc
      obtain ⟨_, hcl, hat⟩ := World.cells?_some hc
      obtain ⟨ys, n', _, _, _, hyl, hfd⟩ := DataW.trod_struct Try.underlying67 ht
      match cs', hcl with
      | [c0, c1, c2], _ =>
        match ys, hyl with
        | [y0, y1, y2], _ =>
          have f0 : DataW.trod enc Try.prog W 0 (fun _ => true) true n' 3 (([c0, c1, c2].drop 0).take (Try.prog.cellsOf 3)) = some y0 := hfd 0 _ rfl
          have f1 : DataW.trod enc Try.prog W 0 (fun _ => true) true n' 3 (([c0, c1, c2].drop 1).take (Try.prog.cellsOf 3)) = some y1 := hfd 1 _ rfl
          have f2 : DataW.trod enc Try.prog W 0 (fun _ => true) true n' 3 (([c0, c1, c2].drop 2).take (Try.prog.cellsOf 3)) = some y2 := hfd 2 _ rfl
          have k3 : Try.prog.cellsOf 3 = 1 := by kernel_rfl
          rw [k3] at f0 f1 f2
          obtain ⟨q0, e0, _, _⟩ := DataW.trod_int Try.underlying3 f0
          obtain ⟨q1, e1, _, _⟩ := DataW.trod_int Try.underlying3 f1
          obtain ⟨q2, e2, _, _⟩ := DataW.trod_int Try.underlying3 f2
          simp only [List.drop, List.take, List.cons.injEq, and_true] at e0 e1 e2
          subst e0 e1 e2
          refine ⟨⟨q0, q1, q2⟩, ?_, hat 1 (by omega), hat 2 (by omega)⟩
          have := hat 0 (by omega)
          simpa [Addr.add] using this
    have each' : ∀ j : Nat, ∃ x : Ed, j < m → W.cell? (a.add (j * 3)) = some (.int .i64 x.f) ∧ W.cell? ((a.add (j * 3)).add 1) = some (.int .i64 x.e) ∧ W.cell? ((a.add (j * 3)).add 2) = some (.int .i64 x.t) := by
      intro j
      by_cases hj : j < m
      · obtain ⟨x, hx⟩ := each j hj
        exact ⟨x, fun _ => hx⟩
      · exact ⟨⟨0, 0, 0⟩, fun h => absurd h hj⟩
    obtain ⟨E, hE⟩ := Classical.axiomOfChoice each'
    refine ⟨(List.range len).map E, by simp, fun h0 => ?_, by omega⟩
    have h0' : 0 < len := by simpa using h0
    obtain ⟨b, off, spot⟩ := a
    have hspot : spot = none := by simpa [Addr.add] using World.cell?_spot (hE 0 (by omega)).1
    subst hspot
    simp only [Prod.mk.injEq] at hx
    obtain ⟨rfl, rfl⟩ := hx
    refine ⟨b, off, rfl, hlt (.cell b off) (List.mem_append_left _ (MemPlace.mem_row.2 ⟨0, by rw [h5]; omega, by simp⟩)), fun j x hj => ?_⟩
    rw [List.getElem?_map] at hj
    by_cases hjl : j < len
    · rw [List.getElem?_range hjl] at hj
      simp only [Option.map_some, Option.some.injEq] at hj
      subst hj
      obtain ⟨g0, g1, g2⟩ := hE j (by omega)
      simp only [add_plain] at g0 g1 g2
      exact ⟨g0, g1, g2⟩
    · rw [List.getElem?_eq_none (by simp; omega)] at hj
      cases hj
theorem cap_ints (h : DataW.Trod enc Try.prog W 0 (fun _ => true) true 22 (.slice a0 len cap) d p) : len ≤ cap := by
  obtain ⟨fuel, hf⟩ := h
  rcases open_slice Try.underlying22 hf with ⟨hcs, _⟩ | ⟨a, l, c, m, n, D, Pl, hcs, _, hl, _⟩
  · simp [Value.cells] at hcs; omega
  · simp [Value.cells] at hcs; omega
end

section
variable {H : Type} {enc : TypeId × Value → H} {W : World} {d : DataW H} {p : List MemPlace} {v : Value} {base : Nat}
set_option maxRecDepth 8000 in
theorem open_sl {n : Nat} {c : Value} {y : DataW H × List MemPlace} (hf : DataW.trod enc Try.prog W 0 (fun _ => true) true n 22 [c] = some y) (hlt : ∀ x ∈ y.2, x.block < W.heap.size) : ∃ A len cap zs, SlI W c A len cap zs := by
  rcases open_ints Try.underlying22 Try.underlying3 (by kernel_rfl) hf with ⟨hcs, _⟩ | ⟨a, l, cp, zs, hcs, _, hl, hm, _⟩
  · simp at hcs
    subst hcs
    exact ⟨none, 0, 0, [], rfl, rfl, RdI.nil _ _ _, by simp, Nat.le_refl _, by omega⟩
  · simp at hcs
    subst hcs
    have ht : DataW.Trod enc Try.prog W 0 (fun _ => true) true 22 (.slice (some a) l cp) y.1 y.2 := ⟨n, hf⟩
    obtain ⟨z, e1, e2, e3, _⟩ := open_rdI ht hlt
    exact ⟨some a, l, cp, z, rfl, e1, e2, e3, hl, by unfold maxLen at hm; omega⟩
/-- A slice of edges that came in. -/
structure SlG (W : World) (v : Value) (A : Option Addr) (n c : Nat) (l : List Ed) : Prop where
  eq : v = .slice A n c
  len : l.length = n
  rd : RdG W W.heap.size A l
  cap : n ≤ c
  top : c ≤ 9223372036854775807
set_option maxRecDepth 8000 in
theorem open_slG {n : Nat} {c : Value} {y : DataW H × List MemPlace} (hf : DataW.trod enc Try.prog W 0 (fun _ => true) true n 23 [c] = some y) (hlt : ∀ x ∈ y.2, x.block < W.heap.size) : ∃ A len cap zs, SlG W c A len cap zs := by
  rcases open_slice Try.underlying23 hf with ⟨hcs, _⟩ | ⟨a, l, cp, m, n', D, Pl, hcs, _, hl, hm, _⟩
  · simp at hcs
    subst hcs
    exact ⟨none, 0, 0, [], rfl, rfl, RdG.nil _ _ _, Nat.le_refl _, by omega⟩
  · simp at hcs
    subst hcs
    have ht : DataW.Trod enc Try.prog W 0 (fun _ => true) true 23 (.slice (some a) l cp) y.1 y.2 := ⟨n, hf⟩
    obtain ⟨z, e1, e2, _⟩ := open_rdG ht hlt
    exact ⟨some a, l, cp, z, rfl, e1, e2, hl, by unfold maxLen at hm; omega⟩
/-- An automaton that came in, of any size. -/
structure AuI (W : World) (A : Option Addr) (n c : Nat) (s : Int) (M : Option Addr) (m d : Nat) (E : Option Addr) (k g : Nat) (a : Au) : Prop where
  al : RdI W W.heap.size A a.al
  mr : RdI W W.heap.size M a.mr
  ed : RdG W W.heap.size E a.ed
  hn : a.al.length = n
  hm : a.mr.length = m
  hk : a.ed.length = k
  st : a.st = s
  cn : n ≤ c ∧ c ≤ 9223372036854775807
  cm : m ≤ d ∧ d ≤ 9223372036854775807
  ck : k ≤ g ∧ g ≤ 9223372036854775807
  wf : (Lit.int .i64 s).wf = true
theorem AuI.r {W : World} {A : Option Addr} {n c : Nat} {s : Int} {M : Option Addr} {m d : Nat} {E : Option Addr} {k g : Nat} {a : Au} (h : AuI W A n c s M m d E k g a) (h1 : n ≤ 12) (h2 : m ≤ 12) (h3 : k ≤ 12) : AuR W W.heap.size A n c s M m d E k g a :=
  { al := h.al, mr := h.mr, ed := h.ed, hn := h.hn, hm := h.hm, hk := h.hk, st := h.st, cn := h.cn, cm := h.cm, ck := h.ck, bn := by omega, bm := by omega, bk := by omega }
set_option maxRecDepth 8000 in
theorem open_aut (hval : Value.okWide Try.prog W .any base 25 v) (h : DataW.Trod enc Try.prog W 0 (fun _ => true) true 25 v d p) (hlt : ∀ x ∈ p, x.block < W.heap.size) :
    ∃ A n c s M m d' E k g a, v = .agg #[.slice A n c, .int .i64 s, .slice M m d', .slice E k g] ∧ AuI W A n c s M m d' E k g a := by
  obtain ⟨cs, rfl, hsz⟩ := okWide_struct Try.underlying25 hval
  have h4 : Try.prog.cellsOf 25 = 4 := by kernel_rfl
  have h1 : Try.prog.cellsOf 22 = 1 := by kernel_rfl
  have h2 : Try.prog.cellsOf 3 = 1 := by kernel_rfl
  have h3 : Try.prog.cellsOf 23 = 1 := by kernel_rfl
  rw [h4] at hsz
  obtain ⟨fuel, hf⟩ := h
  obtain ⟨ys, n', _, hx, _, hyl, hfd⟩ := DataW.trod_struct Try.underlying25 hf
  obtain ⟨l⟩ := cs
  match l, hsz with
  | [s0, s1, s2, s3], _ =>
    match ys, hyl with
    | [y0, y1, y2, y3], _ =>
      have f0 : DataW.trod enc Try.prog W 0 (fun _ => true) true n' 22 (([s0, s1, s2, s3].drop 0).take (Try.prog.cellsOf 22)) = some y0 := hfd 0 _ rfl
      have f1 : DataW.trod enc Try.prog W 0 (fun _ => true) true n' 3 (([s0, s1, s2, s3].drop 1).take (Try.prog.cellsOf 3)) = some y1 := hfd 1 _ rfl
      have f2 : DataW.trod enc Try.prog W 0 (fun _ => true) true n' 22 (([s0, s1, s2, s3].drop 2).take (Try.prog.cellsOf 22)) = some y2 := hfd 2 _ rfl
      have f3 : DataW.trod enc Try.prog W 0 (fun _ => true) true n' 23 (([s0, s1, s2, s3].drop 3).take (Try.prog.cellsOf 23)) = some y3 := hfd 3 _ rfl
      rw [h1] at f0 f2
      rw [h2] at f1
      rw [h3] at f3
      injection hx with hx1 hx2
      subst hx2
      obtain ⟨A, n, c, za, SA⟩ := open_sl (c := s0) f0 (fun x hx => hlt x (by simp [hx]))
      obtain ⟨q, e1, _, hq⟩ := DataW.trod_int Try.underlying3 f1
      obtain ⟨M, m, dd, zm, SM⟩ := open_sl (c := s2) f2 (fun x hx => hlt x (by simp [hx]))
      obtain ⟨E, k, g, ze, SE⟩ := open_slG (c := s3) f3 (fun x hx => hlt x (by simp [hx]))
      simp only [List.drop, List.take, List.cons.injEq, and_true] at e1
      refine ⟨A, n, c, q, M, m, dd, E, k, g, ⟨za, q, zm, ze⟩, by rw [SA.eq, SM.eq, SE.eq, e1], SA.rd, SM.rd, SE.rd, SA.len, SM.len, SE.len, rfl, ⟨SA.cap, SA.top⟩, ⟨SM.cap, SM.top⟩, ⟨SE.cap, SE.top⟩, hq⟩
end
end Go.Proofs.Ytcciiikaejjooaa
