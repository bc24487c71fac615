/- Layer 3: slices.BinarySearchFunc over edges. -/
import Derived.Test.YtcciiikaejjooaaaStep
namespace Go.Proofs.Ytcciiikaejjooaa
open Go.RowKit Go.Sort

theorem callCmpEd (args : Array Value) (W : World) : (callFunc 64 args).run Try.prog W = .ok (.enter 64 args) W := by
  go_simp

set_option maxHeartbeats 1600000 in
theorem searchEd_any (E : Option Addr) (k g B : Nat) (l : List Ed) (yf ye yt : Int) (w : World) (hx : RdG w B E l) (hB : B ≤ w.heap.size) (hn : l.length = k) (hb : k ≤ 1000000) (ho : l.Pairwise ltE) :
    Calls Try.prog 74 #[.slice E k g, .agg #[.int .i64 yf, .int .i64 ye, .int .i64 yt], .func (.func 64) #[] #[]] w fun e w' =>
      (∃ i : Nat, e = .returned (.tuple #[.int .i64 i, .bool (edgeO l yf ye).isSome]) ∧ ∀ x, edgeO l yf ye = some x → l[i]? = some x) ∧ Below w.heap.size w w' := by
  have HN := Lib.hid hn
  have HO := Lib.hid ho
  have HC := Lib.hid compareEdges_any
  have HB1 := Lib.hid ((Below.refl w.heap.size w).alloc (Nat.le_refl _) (.cells #[.int .i64 yf, .int .i64 ye, .int .i64 yt] 67))
  have HX := Lib.hid (EdAt.made w yf ye yt 67)
  have HR := Lib.hid hx
  have hcf := callCmpEd
  clear hn ho hx
  go_enter Try.func74, Try.ntmps74
  go_wp2_with fail
  go_loopw [9, 10] (fun a b wr => ∃ i j : Nat, i ≤ j ∧ j ≤ k ∧ a = .int .i64 i ∧ b = .int .i64 j ∧ Hid (∀ t x, t < i → l[t]? = some x → ltE x ⟨yf, ye, yt⟩) ∧ Hid (∀ t x, j ≤ t → l[t]? = some x → ¬ ltE x ⟨yf, ye, yt⟩) ∧ Below w.heap.size w wr ∧ Hid (EdAt wr w.heap.size 0 ⟨yf, ye, yt⟩) ∧ w.heap.size < wr.heap.size) (fun a b _ => (intOf b).toNat - (intOf a).toNat)
  case atStart => exact ⟨0, k, by omega, by omega, rfl, rfl, fun t x h => absurd h (by omega), fun t x h h' => by
    have := (List.getElem?_eq_some_iff.1 h').1; rw [HN.out] at this; omega, HB1.out, HX, by simp⟩
  case round =>
    obtain ⟨i, j, hij, hjn, rfl, rfl, hl, hr, hbel, hyx, hlt0⟩ := hrel
    by_cases hlt : i < j
    · obtain ⟨t, ht1⟩ : ∃ t, t = (i + j) / 2 := ⟨_, rfl⟩
      have HT := Lib.hid ht1
      have htk : t < k := by omega
      have hti : i ≤ t := by omega
      have htj : t < j := by omega
      clear ht1
      have hz : t < l.length := by rw [HN.out]; exact htk
      obtain ⟨b1, o1, rfl, hb1, hc1⟩ := HR.out (by omega)
      obtain ⟨x, hx⟩ : ∃ x, l[t]? = some x := ⟨_, List.getElem?_eq_getElem hz⟩
      have hxr : EdAt wr b1 (o1 + t * 3) x := (hc1 _ x hx).keep fun o => hbel.cell (p := ⟨b1, o, none⟩) (Nat.lt_of_lt_of_le hb1 hB)
      have hX := Lib.hid hx
      clear hx hz hc1
      obtain ⟨xf, xe, xt⟩ := x
      obtain ⟨u, hu⟩ : ∃ u, cmpE ⟨xf, xe, xt⟩ ⟨yf, ye, yt⟩ = u := ⟨_, rfl⟩
      have HC2 := Lib.hid (fun W => by have h := HC.out xf xe xt yf ye yt W; rw [hu] at h; exact h)
      have HU := Lib.hid hu
      have hbb : b1 < wr.heap.size := Nat.lt_of_lt_of_le hb1 (Nat.le_trans hB (by omega))
      obtain ⟨r0, r1, r2⟩ := hxr
      obtain ⟨q0, q1, q2⟩ := hyx.out.shift0
      have l0 := fun n os => cell_grown hbb r0 n os
      have l1 := fun n os => cell_grown hbb r1 n os
      have l2 := fun n os => cell_grown hbb r2 n os
      have k0 := fun n os => cell_grown hlt0 q0 n os
      have k1 := fun n os => cell_grown hlt0 q1 n os
      have k2 := fun n os => cell_grown hlt0 q2 n os
      have hmix : Try.prog.follows .mixedOrders = true := by kernel_rfl
      clear r0 r1 r2 q0 q1 q2 hu
      by_cases hxy : u < 0
      · have hl' := Lib.hid (show ∀ t' x, t' < t + 1 → l[t']? = some x → ltE x ⟨yf, ye, yt⟩ from fun t' x' ht' hx' => by
          have h0 : ltE ⟨xf, xe, xt⟩ ⟨yf, ye, yt⟩ := cmpE_lt.1 (by rw [HU.out]; exact hxy)
          by_cases e : t' = t
          · subst e; rw [hX.out] at hx'; injection hx' with hx'; rw [← hx']; exact h0
          · obtain ⟨h1, e1⟩ := List.getElem?_eq_some_iff.1 hx'
            obtain ⟨h2, e2⟩ := List.getElem?_eq_some_iff.1 hX.out
            have := (List.pairwise_iff_getElem.1 HO.out) t' _ h1 h2 (by omega)
            rw [e1, e2] at this
            exact ltE_trans this h0)
        clear hl
        go_wp2_with fail
        rw [show ((i : Int) + (j : Int)) / 2 = (t : Int) by rw [HT.out]; omega]
        go_quiet_grown ((go_at_call 64; exact Calls.grown_of (HC2.out _)))
        go_wp2_with fail
        go_roundw
        case rel => exact ⟨t + 1, j, by omega, by omega, by go_num, rfl, hl', hr, hbel.trans ((below_grow _ _ _).mono hbel.size), Lib.hid (hyx.out.below (below_grow _ _ _) hlt0), by have := (below_grow wr nq osq).size; omega⟩
        case measure => simp [intOf]; omega
      · have hr' := Lib.hid (show ∀ t' x, t ≤ t' → l[t']? = some x → ¬ ltE x ⟨yf, ye, yt⟩ from fun t' x' ht' hx' h3 => by
          have h0 : ¬ ltE ⟨xf, xe, xt⟩ ⟨yf, ye, yt⟩ := fun h => hxy (by rw [← HU.out]; exact cmpE_lt.2 h)
          by_cases e : t' = t
          · subst e; rw [hX.out] at hx'; injection hx' with hx'; rw [← hx'] at h3; exact h0 h3
          · obtain ⟨h1, e1⟩ := List.getElem?_eq_some_iff.1 hx'
            obtain ⟨h2, e2⟩ := List.getElem?_eq_some_iff.1 hX.out
            have := (List.pairwise_iff_getElem.1 HO.out) _ t' h2 h1 (by omega)
            rw [e1, e2] at this
            exact h0 (ltE_trans this h3))
        clear hr
        go_wp2_with fail
        rw [show ((i : Int) + (j : Int)) / 2 = (t : Int) by rw [HT.out]; omega]
        go_quiet_grown ((go_at_call 64; exact Calls.grown_of (HC2.out _)))
        go_wp2_with fail
        go_roundw
        case rel => exact ⟨i, t, by omega, by omega, rfl, by go_num, hl, hr', hbel.trans ((below_grow _ _ _).mono hbel.size), Lib.hid (hyx.out.below (below_grow _ _ _) hlt0), by have := (below_grow wr nq osq).size; omega⟩
        case measure => simp [intOf]; omega
    · have hij' : i = j := by omega
      subst hij'
      have hat : AtE l ⟨yf, ye, yt⟩ i := ⟨by rw [HN.out]; exact hjn, hl.out, fun x h => hr.out i x (Nat.le_refl _) h⟩
      have HA := Lib.hid hat
      clear hl hr hat
      by_cases hin : i < k
      · have hz : i < l.length := by rw [HN.out]; exact hin
        obtain ⟨b1, o1, rfl, hb1, hc1⟩ := HR.out (by omega)
        obtain ⟨x, hx⟩ : ∃ x, l[i]? = some x := ⟨_, List.getElem?_eq_getElem hz⟩
        have hxr : EdAt wr b1 (o1 + i * 3) x := (hc1 _ x hx).keep fun o => hbel.cell (p := ⟨b1, o, none⟩) (Nat.lt_of_lt_of_le hb1 hB)
        have hX := Lib.hid hx
        clear hx hz hc1
        obtain ⟨xf, xe, xt⟩ := x
        obtain ⟨u, hu⟩ : ∃ u, cmpE ⟨xf, xe, xt⟩ ⟨yf, ye, yt⟩ = u := ⟨_, rfl⟩
        have HC2 := Lib.hid (fun W => by have h := HC.out xf xe xt yf ye yt W; rw [hu] at h; exact h)
        have HU := Lib.hid hu
        have hbb : b1 < wr.heap.size := Nat.lt_of_lt_of_le hb1 (Nat.le_trans hB (by omega))
        obtain ⟨r0, r1, r2⟩ := hxr
        obtain ⟨q0, q1, q2⟩ := hyx.out.shift0
        have l0 := fun n os => cell_grown hbb r0 n os
        have l1 := fun n os => cell_grown hbb r1 n os
        have l2 := fun n os => cell_grown hbb r2 n os
        have k0 := fun n os => cell_grown hlt0 q0 n os
        have k1 := fun n os => cell_grown hlt0 q1 n os
        have k2 := fun n os => cell_grown hlt0 q2 n os
        have hmix : Try.prog.follows .mixedOrders = true := by kernel_rfl
        have hd : decide (i < k) = true := by simp; omega
        clear r0 r1 r2 q0 q1 q2 hu
        by_cases hxy : u = 0
        · have hf := Lib.hid (AtE.found (y := ⟨yf, ye, yt⟩) HO.out hX.out (by rw [HU.out]; exact hxy))
          have hs := Lib.hid (show (edgeO l yf ye).isSome = true by rw [hf.out]; rfl)
          have hb1 : (u == 0) = true := by simpa using hxy
          clear hxy
          go_wp2_with fail
          go_quiet_grown ((go_at_call 64; exact Calls.grown_of (HC2.out _)))
          go_wp2_with fail
          go_ret2
          exact ⟨⟨i, ret_ib hs.out.symm, fun x hx => by rw [hf.out] at hx; injection hx with hx; rw [← hx]; exact hX.out⟩, hbel.trans ((below_grow _ _ _).mono hbel.size)⟩
        · have hf := Lib.hid (AtE.absent HO.out HA.out (fun x hx => by rw [hX.out] at hx; injection hx with hx; rw [← hx, HU.out]; exact hxy))
          have hs := Lib.hid (show (edgeO l yf ye).isSome = false by rw [hf.out]; rfl)
          have hb1 : (u == 0) = false := by simpa using hxy
          clear hxy
          go_wp2_with fail
          go_quiet_grown ((go_at_call 64; exact Calls.grown_of (HC2.out _)))
          go_wp2_with fail
          go_ret2
          exact ⟨⟨i, ret_ib hs.out.symm, fun x hx => by rw [hf.out] at hx; cases hx⟩, hbel.trans ((below_grow _ _ _).mono hbel.size)⟩
      · have hf := Lib.hid (AtE.absent HO.out HA.out (fun x hx => by have := (List.getElem?_eq_some_iff.1 hx).1; rw [HN.out] at this; omega))
        have hs := Lib.hid (show (edgeO l yf ye).isSome = false by rw [hf.out]; rfl)
        have hd : decide (i < k) = false := by simp; omega
        go_wp2_with fail
        go_quiet (fail)
        go_wp2_with fail
        go_ret2
        exact ⟨⟨i, ret_ib hs.out.symm, fun x hx => by rw [hf.out] at hx; cases hx⟩, below_drewN hbel _⟩
end Go.Proofs.Ytcciiikaejjooaa
