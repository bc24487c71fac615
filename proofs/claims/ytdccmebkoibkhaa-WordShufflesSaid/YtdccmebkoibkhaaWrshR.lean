/- The contract of the reference's Shuffles: the step of its recursion, and the whole. -/
import Derived.Test.YtdccmebkoibkhaaWrsh
namespace Go.Proofs.Ytdccmebkoibkhaa
open Go.RowKit
attribute [local go_sem ↓] Go.wp_at_zero Go.wp_at_succ
set_option linter.unusedVariables false

theorem mem_len_put {acc : List (List Int)} {x : List Int} (h : ∀ z ∈ acc, z.length ≤ 1000) (hx : x.length ≤ 1000) : ∀ z ∈ putZ acc x, z.length ≤ 1000 := fun z hz => by
  rcases (mem_putZ x acc z).1 hz with rfl | hz
  · exact hx
  · exact h z hz
theorem putAll_drop {t : Int} {acc Z : List (List Int)} {k : Nat} (h : k < Z.length) : putAll t acc (Z.drop k) = putAll t (putZ acc (Z.getD k [] ++ [t])) (Z.drop (k + 1)) := by
  rw [List.drop_eq_getElem_cons h, putAll]; simp [List.getD, List.getElem?_eq_getElem h]

set_option maxHeartbeats 8000000 in
set_option maxRecDepth 4000 in
theorem rsh_step (b1 o1 b3 o3 n1 n3 l1 l3 c1 c3 : Nat) (a b : List Int) (Z1 Z2 : List (List Int)) (w : World) (ha : RdI w w.heap.size (some ⟨b1, o1, none⟩) a) (hb : RdI w w.heap.size (some ⟨b3, o3, none⟩) b) (hl1 : a.length = n1) (hl3 : b.length = n3) (e1 : n1 = l1 + 1) (e3 : n3 = l3 + 1) (k1 : n1 ≤ c1) (k3 : n3 ≤ c3) (m1 : n1 ≤ 100) (m3 : n3 ≤ 100)
    (HR1 : ∀ W, Below w.heap.size w W → Calls Try.prog 32 #[.slice (some ⟨b1, o1, none⟩) l1 c1, .slice (some ⟨b3, o3, none⟩) n3 c3] W (GivesL W Z1))
    (HR2 : ∀ W, Below w.heap.size w W → Calls Try.prog 32 #[.slice (some ⟨b1, o1, none⟩) n1 c1, .slice (some ⟨b3, o3, none⟩) l3 c3] W (GivesL W Z2))
    (q1 : Z1.length ≤ 4096) (q2 : Z2.length ≤ 4096) (w1 : ∀ z ∈ Z1, z.length ≤ 200) (w2 : ∀ z ∈ Z2, z.length ≤ 200) :
    Calls Try.prog 32 #[.slice (some ⟨b1, o1, none⟩) n1 c1, .slice (some ⟨b3, o3, none⟩) n3 c3] w fun e w' => ∃ v, e = .returned v ∧ LV w' v (putAll (b.getD l3 0) (putAll (a.getD l1 0) [] Z1) Z2) ∧ Below w.heap.size w w' := by
  have H1 := Lib.hid HR1
  have H2 := Lib.hid HR2
  have HQ1 := Lib.hid w1
  have HQ2 := Lib.hid w2
  have hA : ∀ W, Below w.heap.size w W → W.cell? ⟨b1, o1 + l1, none⟩ = some (.int .i64 (a.getD l1 0)) := fun W hW => by
    obtain ⟨b', o', e, hlt, hc⟩ := ha (by omega)
    cases e
    exact (hW.cell hlt).trans (hc l1 (by omega))
  have hB : ∀ W, Below w.heap.size w W → W.cell? ⟨b3, o3 + l3, none⟩ = some (.int .i64 (b.getD l3 0)) := fun W hW => by
    obtain ⟨b', o', e, hlt, hc⟩ := hb (by omega)
    cases e
    exact (hW.cell hlt).trans (hc l3 (by omega))
  obtain ⟨t1, ht1⟩ : ∃ t, t = a.getD l1 0 := ⟨_, rfl⟩
  obtain ⟨t3, ht3⟩ : ∃ t, t = b.getD l3 0 := ⟨_, rfl⟩
  rw [← ht1] at hA ⊢
  rw [← ht3] at hB ⊢
  have HA := Lib.hid hA
  have HB := Lib.hid hB
  have i1 : ((n1 : Nat) : Int) - 1 = (l1 : Int) := by omega
  have i3 : ((n3 : Nat) : Int) - 1 = (l3 : Int) := by omega
  have j1 : ((n1 : Int) == 0) = false := by simp; omega
  have j3 : ((n3 : Int) == 0) = false := by simp; omega
  have u1 : (l1 : Int) ≤ (c1 : Int) := by omega
  have u3 : (l3 : Int) ≤ (c3 : Int) := by omega
  have u5 : (l1 : Int) < (n1 : Int) := by omega
  have u6 : (l3 : Int) < (n3 : Int) := by omega
  have wr1 : IntKind.i64.wrap (l1 : Int) = (l1 : Int) := by simp [IntKind.wrap, IntKind.bits, IntKind.signed]; omega
  have wr3 : IntKind.i64.wrap (l3 : Int) = (l3 : Int) := by simp [IntKind.wrap, IntKind.bits, IntKind.signed]; omega
  obtain ⟨T1, hT1⟩ : ∃ t, t = putAll t1 [] Z1 := ⟨_, rfl⟩
  have HT1 := Lib.hid hT1
  rw [← hT1]
  obtain ⟨T2, hT2⟩ : ∃ t, t = putAll t3 T1 Z2 := ⟨_, rfl⟩
  have HT2 := Lib.hid hT2
  have hT1l : T1.length ≤ 4096 := by rw [hT1]; have := len_putAll t1 Z1 []; simp at this; omega
  have HT1w := Lib.hid (show ∀ z ∈ T1, z.length ≤ 1000 by
    intro z hz
    rw [hT1] at hz
    rcases (mem_putAll t1 Z1 [] z).1 hz with h | ⟨u, hu, rfl⟩
    · simp at h
    · have := w1 u hu; simp; omega)
  rw [← hT2]
  clear HR1 HR2 w1 w2 ha hb hl1 hl3 hA hB ht1 ht3 hT1 hT2 e1 e3
  go_enter Try.func32, Try.ntmps32
  go_wp2_with fail
  have B0 := Lib.hid (Below.refl w.heap.size w)
  refine (H1.out _ B0.out).mono ?_
  rintro e x1 ⟨L1, cl1, rfl, hr, hb, hk, hc⟩
  have B1 := Lib.hid (B0.out.trans (hb.mono B0.out.size))
  have HL1 := Lib.hid hr
  have HV1 := Lib.hid (show LV x1 (.slice none 0 0) [] from .inl ⟨rfl, rfl⟩)
  obtain ⟨nl1, hnl1⟩ : ∃ m, m = Z1.length := ⟨_, rfl⟩
  have HN1 := Lib.hid hnl1
  rw [← hnl1] at hk ⊢
  have hq1 : nl1 ≤ 4096 := by rw [hnl1]; exact q1
  clear hr hb hnl1
  go_wp2_with fail
  go_loopw [5, 7] (fun v i wr => ∃ (k : Nat) (acc : List (List Int)), k ≤ nl1 ∧ i = .int .i64 k ∧ Hid (LV wr v acc) ∧ Hid (putAll t1 acc (Z1.drop k) = T1) ∧ Hid (acc.length ≤ 0 + k) ∧ Hid (∀ z ∈ acc, z.length ≤ 1000) ∧ Hid (Below x1.heap.size x1 wr)) (fun _ i _ => nl1 - (intOf i).toNat)
  case atStart => exact ⟨0, [], Nat.zero_le _, rfl, HV1.out, HT1.out.symm, by simp [Hid] <;> omega, fun z hz => by simp at hz, Below.refl _ _⟩
  case round =>
    obtain ⟨k, acc, hkn, rfl, hv, hput, hlen, hwd, hnx⟩ := hrel
    by_cases hlt : k < nl1
    · have k1' : (k : Int) < (nl1 : Int) := by omega
      have hws := hnx.out.size
      obtain ⟨bL, oL, rfl, _, hcL⟩ := (HL1.out.below hnx.out (Nat.le_refl _)) (by rw [← HN1.out]; omega)
      obtain ⟨C, cz, hcell, hrd, hcz1, hcz2⟩ := hcL k (by rw [← HN1.out]; exact hlt)
      obtain ⟨z, hz⟩ : ∃ z, z = Z1.getD k [] := ⟨_, rfl⟩
      rw [← hz] at hcell hrd hcz1
      have hzl : z.length ≤ 200 := HQ1.out z (by rw [hz, List.getD, List.getElem?_eq_getElem (by rw [← HN1.out]; exact hlt)]; exact List.getElem_mem _)
      have hput2 := Lib.hid (show putAll t1 (putZ acc (z ++ [t1])) (Z1.drop (k + 1)) = T1 by have := hput.out; rw [putAll_drop (by rw [← HN1.out]; exact hlt), ← hz] at this; exact this)
      have hcl := HA.out wr (B1.out.trans (hnx.out.mono B1.out.size))
      obtain ⟨nz, hnz⟩ : ∃ m, z.length = m := ⟨_, rfl⟩
      have HNZ := Lib.hid hnz
      rw [hnz] at hcell hcz1 hzl
      have HRD := Lib.hid (show RdI wr wr.heap.size C z from hrd.more hws)
      have hzx : (z ++ [t1]).length = nz + 1 := by rw [List.length_append, hnz]; rfl
      have HZX := Lib.hid hzx
      have hl2 := hlen.out
      clear hcL hz hrd hput hnz hzx
      go_wp2_with fail
      go_region_law (first
        | (go_simp; go_at_call 55; refine (behind_any C nz cz z t1 _ (by exact HRD.out) HNZ.out (by omega)).mono ?_
           rintro e y1 ⟨D, cd, rfl, hrd, hbd, hkd, hcd⟩
           have HD := Lib.hid hrd
           have HB1 := Lib.hid (show Below wr.heap.size wr y1 from (Below.refl wr.heap.size wr).drew.trans hbd)
           rw [HZX.out] at hkd ⊢
           clear hrd hbd)
        | (go_simp; go_at_call 54; refine (put_lv _ acc D (nz + 1) cd (z ++ [t1]) _ (hv.out.below HB1.out) (by omega) hwd.out HD.out HZX.out hkd hcd (by omega)).mono ?_
           rintro e y2 ⟨v', rfl, hv', hb'⟩
           have HV2 := Lib.hid hv'
           have HB2 := Lib.hid (HB1.out.trans (hb'.mono HB1.out.size))
           clear hv' hb'))
      all_goals
        go_wp2_with fail
        go_roundw
        case rel => exact ⟨k + 1, _, by omega, by go_num, HV2, hput2, by have := len_putZ (z ++ [t1]) acc; simp only [Hid]; omega, mem_len_put hwd.out (by rw [HZX.out]; omega), hnx.out.trans (HB2.out.mono hws)⟩
        case measure => simp [intOf]; omega
    · have k1' : ¬ (k : Int) < (nl1 : Int) := by omega
      have hfin := Lib.hid (show acc = T1 by
        have := hput.out
        rwa [List.drop_of_length_le (by rw [← HN1.out]; omega)] at this)
      have B1r := Lib.hid (B1.out.trans (hnx.out.mono B1.out.size))
      have hvF := Lib.hid (show LV wr u5 T1 by rw [← hfin.out]; exact hv.out)
      clear hv hput hlen hwd hnx
      go_wp2_with fail
      refine (H2.out _ B1r.out).mono ?_
      rintro e x2 ⟨L2, cl2, rfl, hr, hb, hk, hc⟩
      have B2 := Lib.hid (B1r.out.trans (hb.mono B1r.out.size))
      have HL2 := Lib.hid hr
      have HV2 := Lib.hid (hvF.out.below hb)
      obtain ⟨nl2, hnl2⟩ : ∃ m, m = Z2.length := ⟨_, rfl⟩
      have HN2 := Lib.hid hnl2
      rw [← hnl2] at hk ⊢
      have hq2 : nl2 ≤ 4096 := by rw [hnl2]; exact q2
      clear hr hb hnl2
      go_wp2_with fail
      go_loopw [5, 8] (fun v i wr => ∃ (k : Nat) (acc : List (List Int)), k ≤ nl2 ∧ i = .int .i64 k ∧ Hid (LV wr v acc) ∧ Hid (putAll t3 acc (Z2.drop k) = T2) ∧ Hid (acc.length ≤ 4096 + k) ∧ Hid (∀ z ∈ acc, z.length ≤ 1000) ∧ Hid (Below x2.heap.size x2 wr)) (fun _ i _ => nl2 - (intOf i).toNat)
      case atStart => exact ⟨0, T1, Nat.zero_le _, rfl, HV2.out, HT2.out.symm, by simp [Hid] <;> omega, HT1w.out, Below.refl _ _⟩
      case round =>
        obtain ⟨k, acc, hkn, rfl, hv, hput, hlen, hwd, hnx⟩ := hrel
        by_cases hlt : k < nl2
        · have k1' : (k : Int) < (nl2 : Int) := by omega
          have hws := hnx.out.size
          obtain ⟨bL, oL, rfl, _, hcL⟩ := (HL2.out.below hnx.out (Nat.le_refl _)) (by rw [← HN2.out]; omega)
          obtain ⟨C, cz, hcell, hrd, hcz1, hcz2⟩ := hcL k (by rw [← HN2.out]; exact hlt)
          obtain ⟨z, hz⟩ : ∃ z, z = Z2.getD k [] := ⟨_, rfl⟩
          rw [← hz] at hcell hrd hcz1
          have hzl : z.length ≤ 200 := HQ2.out z (by rw [hz, List.getD, List.getElem?_eq_getElem (by rw [← HN2.out]; exact hlt)]; exact List.getElem_mem _)
          have hput2 := Lib.hid (show putAll t3 (putZ acc (z ++ [t3])) (Z2.drop (k + 1)) = T2 by have := hput.out; rw [putAll_drop (by rw [← HN2.out]; exact hlt), ← hz] at this; exact this)
          have hcl := HB.out wr (B2.out.trans (hnx.out.mono B2.out.size))
          obtain ⟨nz, hnz⟩ : ∃ m, z.length = m := ⟨_, rfl⟩
          have HNZ := Lib.hid hnz
          rw [hnz] at hcell hcz1 hzl
          have HRD := Lib.hid (show RdI wr wr.heap.size C z from hrd.more hws)
          have hzx : (z ++ [t3]).length = nz + 1 := by rw [List.length_append, hnz]; rfl
          have HZX := Lib.hid hzx
          have hl2 := hlen.out
          clear hcL hz hrd hput hnz hzx
          go_wp2_with fail
          go_region_law (first
            | (go_simp; go_at_call 55; refine (behind_any C nz cz z t3 _ (by exact HRD.out) HNZ.out (by omega)).mono ?_
               rintro e y1 ⟨D, cd, rfl, hrd, hbd, hkd, hcd⟩
               have HD := Lib.hid hrd
               have HB1 := Lib.hid (show Below wr.heap.size wr y1 from (Below.refl wr.heap.size wr).drew.trans hbd)
               rw [HZX.out] at hkd ⊢
               clear hrd hbd)
            | (go_simp; go_at_call 54; refine (put_lv _ acc D (nz + 1) cd (z ++ [t3]) _ (hv.out.below HB1.out) (by omega) hwd.out HD.out HZX.out hkd hcd (by omega)).mono ?_
               rintro e y2 ⟨v', rfl, hv', hb'⟩
               have HV2 := Lib.hid hv'
               have HB2 := Lib.hid (HB1.out.trans (hb'.mono HB1.out.size))
               clear hv' hb'))
          all_goals
            go_wp2_with fail
            go_roundw
            case rel => exact ⟨k + 1, _, by omega, by go_num, HV2, hput2, by have := len_putZ (z ++ [t3]) acc; simp only [Hid]; omega, mem_len_put hwd.out (by rw [HZX.out]; omega), hnx.out.trans (HB2.out.mono hws)⟩
            case measure => simp [intOf]; omega
        · have k1' : ¬ (k : Int) < (nl2 : Int) := by omega
          have hfin := Lib.hid (show acc = T2 by
            have := hput.out
            rwa [List.drop_of_length_le (by rw [← HN2.out]; omega)] at this)
          have B2r := Lib.hid (B2.out.trans (hnx.out.mono B2.out.size))
          have hvF := Lib.hid (show LV wr u5 T2 by rw [← hfin.out]; exact hv.out)
          go_wp2_with fail
          go_ret
          exact ⟨_, rfl, hvF.out, B2r.out⟩
end Go.Proofs.Ytdccmebkoibkhaa
