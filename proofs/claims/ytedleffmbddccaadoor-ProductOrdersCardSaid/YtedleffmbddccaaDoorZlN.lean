/- Layer 6, mathematics: products in any order, and put together step by step. -/
import Derived.Test.YtedleffmbddccaaDoorZlM
set_option linter.unusedVariables false
set_option linter.unusedSimpArgs false
set_option linter.unusedSectionVars false
namespace Go.Proofs.YtedleffmbddccaaDoor
open Go.RowKit Go.Sort

theorem alT_eq {l l' : List Au} (h : ∀ a ∈ l, RightW a) (h' : ∀ a ∈ l', RightW a) (he : ∀ e : Int, (∃ a ∈ l, e ∈ a.al) ↔ ∃ a ∈ l', e ∈ a.al) : alT l = alT l' :=
  sorted_ext (r := fun x y : Int => x < y) (fun x => by omega) (fun x y z h1 h2 => by omega) _ _ (alT_sorted h) (alT_sorted h') fun x => by rw [alT_mem, alT_mem]; exact he x
theorem prod_zero {l : List Au} (hp : posT l = false) : canA (prodA l) = ⟨alT l, 0, [], []⟩ := can_zero (prod_st0 hp)
/-- Tuples renamed. -/
theorem can_perm {l l' : List Au} (hl : ∀ a ∈ l, RightW a) (hl' : ∀ a ∈ l', RightW a) (hal : alT l' = alT l) (hpo : posT l' = posT l) (π : List Int → List Int) (h0 : posT l = true → π (dcT (stsT l) 0) = dcT (stsT l') 0)
    (hin : ∀ t, InT (stsT l) t → InT (stsT l') (π t)) (hinj : ∀ t u, InT (stsT l) t → InT (stsT l) u → π t = π u → t = u)
    (hst : ∀ t e, InT (stsT l) t → stpT l' (π t) e = (stpT l t e).map π) (hmk : ∀ t, InT (stsT l) t → mkT l' (π t) = mkT l t) : canA (prodA l') = canA (prodA l) := by
  cases hp : posT l with
  | false => rw [prod_zero hp, prod_zero (hpo.trans hp), hal]
  | true =>
    have hpos := posT_iff.1 hp
    have hpr := prod_right hl
    have hs0 : 0 < (prodA l).st := by rw [prod_st hp]; exact prT_pos hpos
    have hr : ∀ q ∈ fnd (prodA l), 0 ≤ q ∧ q < prT (stsT l) := fun q hq => by have := fnd_range hpr q hq; rwa [prod_st hp] at this
    refine can_prod hpr hl' (hpo.trans hp) hs0 hal (fun q => π (dcT (stsT l) q)) (h0 hp) (fun q _ => hin _ (dc_in q hpos)) (fun x y hx hy e => ?_) (fun q hq e he => ?_) (fun q hq => ?_)
    · have h1 := hinj _ _ (dc_in x hpos) (dc_in y hpos) e
      rw [← cd_dc hpos (hr x hx).1 (hr x hx).2, h1, cd_dc hpos (hr y hy).1 (hr y hy).2]
    · have hs := prod_step hl hp (dc_in q hpos) he
      rw [cd_dc hpos (hr q hq).1 (hr q hq).2] at hs
      rw [hst _ e (dc_in q hpos), hs]
      cases hx : stpT l (dcT (stsT l) q) e with
      | none => rfl
      | some t => simp only [Option.map_some]; rw [dc_cd (stp_in hl (dc_in q hpos) hx)]
    · rw [hmk _ (dc_in q hpos)]
      have h2 := prod_mark hp (dc_in q hpos)
      rw [cd_dc hpos (hr q hq).1 (hr q hq).2] at h2
      rw [Bool.eq_iff_iff, decide_eq_true_eq]; exact h2.symm
theorem in_two {x y : Int} {t : List Int} (h : InT [x, y] t) : ∃ a b, t = [a, b] ∧ (0 ≤ a ∧ a < x) ∧ (0 ≤ b ∧ b < y) := by
  match t, h with
  | [a, b], h => exact ⟨a, b, rfl, h.1, h.2.1⟩
  | [], h => exact h.elim
  | [_], h => exact h.2.elim
  | _ :: _ :: _ :: _, h => exact h.2.2.elim
theorem in_three {x y z : Int} {t : List Int} (h : InT [x, y, z] t) : ∃ a b c, t = [a, b, c] ∧ (0 ≤ a ∧ a < x) ∧ (0 ≤ b ∧ b < y) ∧ (0 ≤ c ∧ c < z) := by
  match t, h with
  | [a, b, c], h => exact ⟨a, b, c, rfl, h.1, h.2.1, h.2.2.1⟩
  | [], h => exact h.elim
  | [_], h => exact h.2.elim
  | [_, _], h => exact h.2.2.elim
  | _ :: _ :: _ :: _ :: _, h => exact h.2.2.2.elim
/-- One automaton's part of a step. -/
def stp1 (a : Au) (q e : Int) : Option Int := if e ∈ a.al then stepO a q e else some q
theorem stp_two (a b : Au) (p q e : Int) : stpT [a, b] [p, q] e = match stp1 a p e, stp1 b q e with | some t, some u => some [t, u] | _, _ => none := by
  simp only [stpT, stp1]
  cases (if e ∈ a.al then stepO a p e else some p) <;> cases (if e ∈ b.al then stepO b q e else some q) <;> rfl
theorem stp_three (a b c : Au) (p q r e : Int) : stpT [a, b, c] [p, q, r] e = match stp1 a p e, stp1 b q e, stp1 c r e with | some t, some u, some v => some [t, u, v] | _, _, _ => none := by
  simp only [stpT, stp1]
  cases (if e ∈ a.al then stepO a p e else some p) <;> cases (if e ∈ b.al then stepO b q e else some q) <;> cases (if e ∈ c.al then stepO c r e else some r) <;> rfl
def sw2 : List Int → List Int
  | a :: b :: t => b :: a :: t
  | t => t
def sw3 : List Int → List Int
  | a :: b :: c :: t => a :: c :: b :: t
  | t => t
section
variable {x y z : Au}
theorem r2 (hx : RightW x) (hy : RightW y) : ∀ a ∈ [x, y], RightW a := by
  intro a ha
  simp at ha
  rcases ha with rfl | rfl
  · exact hx
  · exact hy
theorem r3 (hx : RightW x) (hy : RightW y) (hz : RightW z) : ∀ a ∈ [x, y, z], RightW a := by
  intro a ha
  simp at ha
  rcases ha with rfl | rfl | rfl
  · exact hx
  · exact hy
  · exact hz
theorem perm2 (hx : RightW x) (hy : RightW y) : canA (prodA [y, x]) = canA (prodA [x, y]) := by
  refine can_perm (r2 hx hy) (r2 hy hx) (alT_eq (r2 hy hx) (r2 hx hy) fun e => by simp [or_comm]) (by simp [posT, Bool.and_comm]) sw2 (fun _ => by simp [stsT, dcT, sw2]) (fun t ht => ?_) (fun t u ht hu e => ?_) (fun t e ht => ?_) (fun t ht => ?_)
  · obtain ⟨a, b, rfl, h1, h2⟩ := in_two ht
    exact ⟨h2, h1, trivial⟩
  · obtain ⟨a, b, rfl, _, _⟩ := in_two ht
    obtain ⟨c, d, rfl, _, _⟩ := in_two hu
    simp [sw2] at e ⊢; exact ⟨e.2, e.1⟩
  · obtain ⟨a, b, rfl, _, _⟩ := in_two ht
    show stpT [y, x] [b, a] e = _
    rw [stp_two, stp_two]
    cases stp1 x a e <;> cases stp1 y b e <;> rfl
  · obtain ⟨a, b, rfl, _, _⟩ := in_two ht
    simp [sw2, mkT, Bool.and_comm]
theorem perm12 (hx : RightW x) (hy : RightW y) (hz : RightW z) : canA (prodA [y, x, z]) = canA (prodA [x, y, z]) := by
  refine can_perm (r3 hx hy hz) (r3 hy hx hz) (alT_eq (r3 hy hx hz) (r3 hx hy hz) fun e => by simp [or_left_comm]) (by simp [posT, Bool.and_left_comm]) sw2 (fun _ => by simp [stsT, dcT, sw2]) (fun t ht => ?_) (fun t u ht hu e => ?_) (fun t e ht => ?_) (fun t ht => ?_)
  · obtain ⟨a, b, c, rfl, h1, h2, h3⟩ := in_three ht
    exact ⟨h2, h1, h3, trivial⟩
  · obtain ⟨a, b, c, rfl, _, _, _⟩ := in_three ht
    obtain ⟨d, f, g, rfl, _, _, _⟩ := in_three hu
    simp [sw2] at e ⊢; exact ⟨e.2.1, e.1, e.2.2⟩
  · obtain ⟨a, b, c, rfl, _, _, _⟩ := in_three ht
    show stpT [y, x, z] [b, a, c] e = _
    rw [stp_three, stp_three]
    cases stp1 x a e <;> cases stp1 y b e <;> cases stp1 z c e <;> rfl
  · obtain ⟨a, b, c, rfl, _, _, _⟩ := in_three ht
    simp [sw2, mkT, Bool.and_left_comm]
theorem perm23 (hx : RightW x) (hy : RightW y) (hz : RightW z) : canA (prodA [x, z, y]) = canA (prodA [x, y, z]) := by
  refine can_perm (r3 hx hy hz) (r3 hx hz hy) (alT_eq (r3 hx hz hy) (r3 hx hy hz) fun e => by simp [or_comm]) (by simp [posT, Bool.and_comm]) sw3 (fun _ => by simp [stsT, dcT, sw3]) (fun t ht => ?_) (fun t u ht hu e => ?_) (fun t e ht => ?_) (fun t ht => ?_)
  · obtain ⟨a, b, c, rfl, h1, h2, h3⟩ := in_three ht
    exact ⟨h1, h3, h2, trivial⟩
  · obtain ⟨a, b, c, rfl, _, _, _⟩ := in_three ht
    obtain ⟨d, f, g, rfl, _, _, _⟩ := in_three hu
    simp [sw3] at e ⊢; exact ⟨e.1, e.2.2, e.2.1⟩
  · obtain ⟨a, b, c, rfl, _, _, _⟩ := in_three ht
    show stpT [x, z, y] [a, c, b] e = _
    rw [stp_three, stp_three]
    cases stp1 x a e <;> cases stp1 y b e <;> cases stp1 z c e <;> rfl
  · obtain ⟨a, b, c, rfl, _, _, _⟩ := in_three ht
    simp [sw3, mkT, Bool.and_comm]
theorem prod_stp1 (hx : RightW x) (hy : RightW y) {a b e : Int} (h : InT (stsT [x, y]) [a, b]) : stp1 (prodA [x, y]) (cdT (stsT [x, y]) [a, b]) e = (stpT [x, y] [a, b] e).map (cdT (stsT [x, y])) := by
  have hp : posT [x, y] = true := by
    rw [posT_iff]
    intro s hs
    obtain ⟨⟨h1, h2⟩, ⟨h3, h4⟩, _⟩ := h
    simp [stsT] at hs
    rcases hs with rfl | rfl <;> omega
  unfold stp1
  by_cases he : e ∈ (prodA [x, y]).al
  · rw [if_pos he, prod_step (r2 hx hy) hp h he]
  · rw [if_neg he]
    have hn : e ∉ x.al ∧ e ∉ y.al := by
      constructor
      · intro h1; exact he (alT_mem.2 ⟨x, by simp, h1⟩)
      · intro h1; exact he (alT_mem.2 ⟨y, by simp, h1⟩)
    rw [stp_two]; simp [stp1, hn.1, hn.2]
/-- A product within a product. -/
theorem nest3 (hx : RightW x) (hy : RightW y) (hz : RightW z) : canA (prodA [prodA [x, y], z]) = canA (prodA [x, y, z]) := by
  have hxy := prod_right (r2 hx hy)
  have e2 : ∀ a b : Int, cdT (stsT [x, y]) [a, b] = a + x.st * (b + y.st * 0) := fun a b => by simp [stsT, cdT]
  refine can_perm (r3 hx hy hz) (r2 hxy hz) (alT_eq (r2 hxy hz) (r3 hx hy hz) fun e => ?_) ?_ (fun t => match t with | a :: b :: t => cdT (stsT [x, y]) [a, b] :: t | t => t) (fun hp => ?_) (fun t ht => ?_) (fun t u ht hu e => ?_) (fun t e ht => ?_) (fun t ht => ?_)
  · constructor
    · rintro ⟨a, ha, he⟩
      simp at ha
      rcases ha with rfl | rfl
      · obtain ⟨b, hb, he2⟩ := alT_mem.1 he
        simp at hb
        rcases hb with rfl | rfl
        · exact ⟨b, by simp, he2⟩
        · exact ⟨b, by simp, he2⟩
      · exact ⟨_, by simp, he⟩
    · rintro ⟨a, ha, he⟩
      simp at ha
      rcases ha with rfl | rfl | rfl
      · exact ⟨prodA [a, y], by simp, alT_mem.2 ⟨a, by simp, he⟩⟩
      · exact ⟨prodA [x, a], by simp, alT_mem.2 ⟨a, by simp, he⟩⟩
      · exact ⟨a, by simp, he⟩
  · have : decide (0 < (prodA [x, y]).st) = (decide (0 < x.st) && decide (0 < y.st)) := by
      cases hp : posT [x, y] with
      | true =>
        have h1 := posT_iff.1 hp
        have h2 := h1 x.st (by simp [stsT])
        have h3 := h1 y.st (by simp [stsT])
        rw [prod_st hp, decide_eq_true (prT_pos h1), decide_eq_true h2, decide_eq_true h3]; rfl
      | false =>
        rw [prod_st0 hp]
        simp [posT] at hp
        by_cases h0 : 0 < x.st
        · have := hp h0; simp; intro _; omega
        · simp [h0]
    simp only [posT, List.all_cons, List.all_nil, Bool.and_true, this, Bool.and_assoc]
  · have h1 := posT_iff.1 hp
    have h2 := h1 x.st (by simp [stsT])
    have h3 := h1 y.st (by simp [stsT])
    simp [stsT, dcT, cdT]
  · obtain ⟨a, b, c, rfl, h1, h2, h3⟩ := in_three ht
    have hi : InT (stsT [x, y]) [a, b] := ⟨h1, h2, trivial⟩
    have hp : posT [x, y] = true := by
      rw [posT_iff]; intro s hs; simp [stsT] at hs; rcases hs with rfl | rfl <;> omega
    have := cd_range hi
    exact ⟨by rw [prod_st hp]; exact this, h3, trivial⟩
  · obtain ⟨a, b, c, rfl, h1, h2, h3⟩ := in_three ht
    obtain ⟨d, f, g, rfl, h4, h5, h6⟩ := in_three hu
    simp only [List.cons.injEq, and_true] at e
    have hc := cd_inj (ss := stsT [x, y]) (p := [a, b]) (q := [d, f]) ⟨h1, h2, trivial⟩ ⟨h4, h5, trivial⟩ e.1
    simp only [List.cons.injEq, and_true] at hc
    rw [hc.1, hc.2, e.2]
  · obtain ⟨a, b, c, rfl, h1, h2, h3⟩ := in_three ht
    show stpT [prodA [x, y], z] [cdT (stsT [x, y]) [a, b], c] e = _
    rw [stp_two, stp_three, prod_stp1 hx hy ⟨h1, h2, trivial⟩, stp_two]
    cases stp1 x a e <;> cases stp1 y b e <;> cases stp1 z c e <;> rfl
  · obtain ⟨a, b, c, rfl, h1, h2, h3⟩ := in_three ht
    have hp : posT [x, y] = true := by
      rw [posT_iff]; intro s hs; simp [stsT] at hs; rcases hs with rfl | rfl <;> omega
    have h2 := prod_mark hp (qs := [a, b]) ⟨h1, h2, trivial⟩
    show mkT [prodA [x, y], z] [cdT (stsT [x, y]) [a, b], c] = _
    have : decide (cdT (stsT [x, y]) [a, b] ∈ (prodA [x, y]).mr) = mkT [x, y] [a, b] := by rw [Bool.eq_iff_iff, decide_eq_true_eq]; exact h2
    simp only [mkT, this, Bool.and_true, Bool.and_assoc]
/-- The canonical form within a product. -/
theorem can_in {p z : Au} (hp : RightW p) (hz : RightW z) : canA (prodA [canA p, z]) = canA (prodA [p, z]) := by
  have hcp := can_right hp
  have hal : alT [canA p, z] = alT [p, z] := by rw [alT_two, alT_two]; rfl
  by_cases h0 : 0 < p.st
  · by_cases hz0 : 0 < z.st
    · have hpo := pos_two h0 hz0
      have hpos := posT_iff.1 hpo
      have hpr := prod_right (r2 hp hz)
      have hs0 : 0 < (prodA [p, z]).st := by rw [prod_st hpo]; exact prT_pos hpos
      have hr : ∀ q ∈ fnd (prodA [p, z]), 0 ≤ q ∧ q < prT (stsT [p, z]) := fun q hq => by have := fnd_range hpr q hq; rwa [prod_st hpo] at this
      have hcs : 0 < (canA p).st := by
        have := List.length_pos_of_mem (zero_fnd hp h0).1
        show 0 < ((fnd p).length : Int); omega
      have dc2 : ∀ q, dcT (stsT [p, z]) q = [q % p.st, q / p.st % z.st] := fun q => by simp [stsT, dcT]
      have hfst : ∀ q ∈ fnd (prodA [p, z]), q % p.st ∈ fnd p := by
        have key := fnd_least hpr hs0 (S := (List.range (prT (stsT [p, z])).toNat).filterMap fun (n : Nat) => if (n : Int) % p.st ∈ fnd p then some (n : Int) else none) ?_ ?_
        · intro q hq
          obtain ⟨n, _, hn⟩ := List.mem_filterMap.1 (key q hq)
          split at hn
          · rename_i h; injection hn with hn; rw [← hn]; exact h
          · cases hn
        · refine List.mem_filterMap.2 ⟨0, ?_, ?_⟩
          · have := prT_pos hpos; rw [List.mem_range]; omega
          · simp [(zero_fnd hp h0).1]
        · intro q hq ev t ht
          obtain ⟨n, hn1, hn⟩ := List.mem_filterMap.1 hq
          split at hn
          · rename_i h
            injection hn with hn
            subst hn
            have hnr : (n : Int) < prT (stsT [p, z]) := by have := List.mem_range.1 hn1; omega
            have he := step_al hpr ht
            have hs := prod_step (r2 hp hz) hpo (dc_in (n : Int) hpos) he
            rw [cd_dc hpos (by omega) hnr, ht, dc2, stp_two] at hs
            have ht2 : ∃ u v, stp1 p ((n : Int) % p.st) ev = some u ∧ stp1 z ((n : Int) / p.st % z.st) ev = some v ∧ t = cdT (stsT [p, z]) [u, v] := by
              cases h1 : stp1 p ((n : Int) % p.st) ev with
              | none => rw [h1] at hs; cases hs
              | some u =>
                cases h2 : stp1 z ((n : Int) / p.st % z.st) ev with
                | none => rw [h1, h2] at hs; cases hs
                | some v => rw [h1, h2] at hs; injection hs with hs; exact ⟨u, v, rfl, rfl, hs⟩
            obtain ⟨u, v, hu, hv, rfl⟩ := ht2
            have htr := step_range hpr ht
            have hu2 : u ∈ fnd p := by
              unfold stp1 at hu
              split at hu
              · exact step_in hp h hu
              · injection hu with hu; rw [← hu]; exact h
            have hur := fnd_range hp u hu2
            rw [prod_st hpo] at htr
            refine List.mem_filterMap.2 ⟨(cdT (stsT [p, z]) [u, v]).toNat, List.mem_range.2 (by omega), ?_⟩
            have e1 : (((cdT (stsT [p, z]) [u, v]).toNat : Nat) : Int) = cdT (stsT [p, z]) [u, v] := by omega
            rw [e1]
            have e2 : cdT (stsT [p, z]) [u, v] % p.st = u := by
              simp only [stsT, List.map_cons, List.map_nil, cdT]
              rw [Int.add_mul_emod_self_left]; exact Int.emod_eq_of_lt hur.1 hur.2
            rw [e2, if_pos hu2]
          · cases hn
      refine (can_prod hpr (r2 hcp hz) (pos_two hcs hz0) hs0 hal (fun q => [((fnd p).idxOf (q % p.st) : Int), q / p.st % z.st]) (by simp [stsT, dcT, (zero_fnd hp h0).2]) (fun q hq => ?_) (fun x y hx hy e => ?_) (fun q hq e he => ?_) (fun q hq => ?_))
      · have h1 := List.idxOf_lt_length_iff.2 (hfst q hq)
        refine ⟨⟨by omega, ?_⟩, ⟨Int.emod_nonneg _ (by omega), Int.emod_lt_of_pos _ hz0⟩, trivial⟩
        show _ < ((fnd p).length : Int); omega
      · simp only [List.cons.injEq, and_true] at e
        have h1 := idx_inj (hfst x hx) (hfst y hy) (by omega)
        have h2 : dcT (stsT [p, z]) x = dcT (stsT [p, z]) y := by rw [dc2, dc2, h1, e.2]
        rw [← cd_dc hpos (hr x hx).1 (hr x hx).2, h2, cd_dc hpos (hr y hy).1 (hr y hy).2]
      · have hs := prod_step (r2 hp hz) hpo (dc_in q hpos) he
        rw [cd_dc hpos (hr q hq).1 (hr q hq).2, dc2, stp_two] at hs
        have hq1 := hfst q hq
        have hi := List.idxOf_lt_length_iff.2 hq1
        have hsc := step_can hp hi e
        rw [getD_idxOf hq1] at hsc
        rw [stp_two, hs]
        have hcp1 : stp1 (canA p) ((fnd p).idxOf (q % p.st) : Int) e = (stp1 p (q % p.st) e).map fun t => ((fnd p).idxOf t : Int) := by
          unfold stp1
          by_cases hea : e ∈ p.al
          · rw [if_pos hea, if_pos (show e ∈ (canA p).al from hea)]; exact hsc
          · rw [if_neg hea, if_neg (show e ∉ (canA p).al from hea)]; rfl
        rw [hcp1]
        cases h1 : stp1 p (q % p.st) e with
        | none => rfl
        | some u =>
          cases h2 : stp1 z (q / p.st % z.st) e with
          | none => rfl
          | some v =>
            simp only [Option.map_some]
            have hu2 : u ∈ fnd p := by
              unfold stp1 at h1
              split at h1
              · exact step_in hp hq1 h1
              · injection h1 with h1; rw [← h1]; exact hq1
            have hur := fnd_range hp u hu2
            have hvr : 0 ≤ v ∧ v < z.st := by
              unfold stp1 at h2
              split at h2
              · exact step_range hz h2
              · injection h2 with h2; rw [← h2]; exact ⟨Int.emod_nonneg _ (by omega), Int.emod_lt_of_pos _ hz0⟩
            have hin : InT (stsT [p, z]) [u, v] := ⟨hur, hvr, trivial⟩
            have h3 := dc_cd hin
            rw [dc2] at h3
            simp only [List.cons.injEq, and_true] at h3
            rw [h3.1, h3.2]
      · have hq1 := hfst q hq
        have h2 := prod_mark hpo (dc_in q hpos)
        rw [cd_dc hpos (hr q hq).1 (hr q hq).2, dc2] at h2
        have h3 : decide (((fnd p).idxOf (q % p.st) : Int) ∈ (canA p).mr) = decide (q % p.st ∈ p.mr) := by
          refine decide_eq_decide.2 ?_
          show _ ∈ canM p ↔ _
          rw [mem_canM]
          constructor
          · rintro ⟨i, h1, h4, h5⟩
            have : i = (fnd p).idxOf (q % p.st) := by omega
            rw [this, getD_idxOf hq1] at h4; exact h4
          · intro h4
            exact ⟨_, List.idxOf_lt_length_iff.2 hq1, by rw [getD_idxOf hq1]; exact h4, rfl⟩
        simp only [mkT, h3]
        rw [Bool.eq_iff_iff, decide_eq_true_eq]
        simp only [mkT] at h2
        exact h2.symm
    · rw [prod_zero (pos_false2 (.inr hz0)), prod_zero (pos_false2 (.inr hz0)), hal]
  · have hc : (canA p).st = 0 := by rw [can_zero (show p.st = 0 by have := hp.st0; omega)]
    rw [prod_zero (pos_false2 (.inl (by omega))), prod_zero (pos_false2 (.inl h0)), hal]
theorem left3 (hx : RightW x) (hy : RightW y) (hz : RightW z) : canA (prodA [canA (prodA [x, y]), z]) = canA (prodA [x, y, z]) := by
  rw [can_in (prod_right (r2 hx hy)) hz, nest3 hx hy hz]
theorem right3 (hx : RightW x) (hy : RightW y) (hz : RightW z) : canA (prodA [x, canA (prodA [y, z])]) = canA (prodA [x, y, z]) := by
  rw [perm2 (can_right (prod_right (r2 hy hz))) hx, left3 hy hz hx, perm23 hy hx hz, perm12 hx hy hz]
end
end Go.Proofs.YtedleffmbddccaaDoor
