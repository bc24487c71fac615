/- The law AutomatonLanguages, walked. -/
import Derived.Test.YtcciiikaejjooaaaLw
import Derived.Deep.RegionHeld3
namespace Go.Proofs.Ytcciiikaejjooaa
open Go.RowKit Go.Sort

set_option maxHeartbeats 8000000 in
set_option maxRecDepth 100000 in
theorem lawLanguages (A : Option Addr) (n c : Nat) (s : Int) (M : Option Addr) (m d : Nat) (E : Option Addr) (k g : Nat) (a : Au) (W1 : Option Addr) (l lc : Nat) (ws : List Int) (W : World) (S0 : AuI W A n c s M m d E k g a) (S1 : RdI W W.heap.size W1 ws) (S2 : ws.length = l) (S3 : ∀ z ∈ ws, (Lit.int .i64 z).wf = true) (S4 : l ≤ lc) :
    Calls Try.prog 12 #[.agg #[.slice A n c, .int .i64 s, .slice M m d, .slice E k g], .slice W1 l lc] W fun e W' => e = .returned (.bool true) ∧ Below W.heap.size W W' := by
  have HS0 := Lib.hid S0
  have HWR := Lib.hid S1
  have HWL := Lib.hid S2
  have HL0 := Lib.hid (LW.first W [.slice A n c, .int .i64 s, .slice M m d, .slice E k g] 25)
  obtain ⟨r1, hr1⟩ : ∃ r, r = fewB n m k := ⟨_, rfl⟩
  have HF := Lib.hid (few_any A n c s M m d E k g)
  rw [← hr1] at HF
  have HR1 := Lib.hid hr1
  clear S0 S1 S2 S3 hr1
  go_enter Try.func12, Try.ntmps12
  go_wp2_with fail
  refine (lw_call (known_any _) HL0.out).mono ?_
  rintro e w1 ⟨rfl, hl⟩
  have HL1 := Lib.hid hl
  clear hl
  have p0_0 := HL1.out.bx.at 0 rfl 0 rfl
  have p0_1 := HL1.out.bx.at 0 rfl 1 rfl
  have p0_2 := HL1.out.bx.at 0 rfl 2 rfl
  have p0_3 := HL1.out.bx.at 0 rfl 3 rfl
  cases r1
  · go_wp2_with fail
    refine (lw_call (HF.out _) HL1.out).mono ?_
    rintro e w2 ⟨rfl, hl⟩
    clear p0_0 p0_1 p0_2 p0_3
    have HL2 := Lib.hid hl
    clear hl
    have p0_0 := HL2.out.bx.at 0 rfl 0 rfl
    have p0_1 := HL2.out.bx.at 0 rfl 1 rfl
    have p0_2 := HL2.out.bx.at 0 rfl 2 rfl
    have p0_3 := HL2.out.bx.at 0 rfl 3 rfl
    go_wp2_with fail
    refine (lw_call (known_any _) HL2.out).mono ?_
    rintro e w3 ⟨rfl, hl⟩
    clear p0_0 p0_1 p0_2 p0_3
    have HL3 := Lib.hid hl
    clear hl
    have p0_0 := HL3.out.bx.at 0 rfl 0 rfl
    have p0_1 := HL3.out.bx.at 0 rfl 1 rfl
    have p0_2 := HL3.out.bx.at 0 rfl 2 rfl
    have p0_3 := HL3.out.bx.at 0 rfl 3 rfl
    go_wp2_with fail
    go_ret
    exact ⟨rfl, HL3.out.bel⟩
  · have f1 := few_yes HR1.out.symm
    have HA := Lib.hid (HS0.out.r f1.1 f1.2.1 f1.2.2)
    go_wp2_with fail
    refine (lw_call (HF.out _) HL1.out).mono ?_
    rintro e w2 ⟨rfl, hl⟩
    clear p0_0 p0_1 p0_2 p0_3
    have HL2 := Lib.hid hl
    clear hl
    have p0_0 := HL2.out.bx.at 0 rfl 0 rfl
    have p0_1 := HL2.out.bx.at 0 rfl 1 rfl
    have p0_2 := HL2.out.bx.at 0 rfl 2 rfl
    have p0_3 := HL2.out.bx.at 0 rfl 3 rfl
    by_cases hs : 64 < s
    · go_wp2_with fail
      refine (lw_call (known_any _) HL2.out).mono ?_
      rintro e w3 ⟨rfl, hl⟩
      clear p0_0 p0_1 p0_2 p0_3
      have HL3 := Lib.hid hl
      clear hl
      have p0_0 := HL3.out.bx.at 0 rfl 0 rfl
      have p0_1 := HL3.out.bx.at 0 rfl 1 rfl
      have p0_2 := HL3.out.bx.at 0 rfl 2 rfl
      have p0_3 := HL3.out.bx.at 0 rfl 3 rfl
      go_wp2_with fail
      go_ret
      exact ⟨rfl, HL3.out.bel⟩
    · have HS := Lib.hid hs
      obtain ⟨u, hu⟩ : ∃ u, u = chkE a := ⟨_, rfl⟩
      have HC := Lib.hid (fun w' (h : AuR w' w'.heap.size A n c s M m d E k g a) => rCheck_any A n c s M m d E k g a w'.heap.size w' h (Nat.le_refl _))
      rw [← hu] at HC
      have HU := Lib.hid hu
      clear hu
      by_cases h0 : u = 0
      · have hri := Lib.hid (right_of (a := a) (by rw [← HU.out, h0]))
        have hb0 : (u != 0) = false := by simp [h0]
        have HU0 := Lib.hid h0
        clear h0
        go_wp2_with fail
        refine (lw_call (HC.out _ (HL2.out.aut A n c s M m d E k g HA.out)) HL2.out).mono ?_
        rintro e w3 ⟨rfl, hl⟩
        clear p0_0 p0_1 p0_2 p0_3
        have HL3 := Lib.hid hl
        clear hl
        have p0_0 := HL3.out.bx.at 0 rfl 0 rfl
        have p0_1 := HL3.out.bx.at 0 rfl 1 rfl
        have p0_2 := HL3.out.bx.at 0 rfl 2 rfl
        have p0_3 := HL3.out.bx.at 0 rfl 3 rfl
        by_cases h8 : 8 < l
        · go_wp2_with fail
          refine (lw_call (known_any _) HL3.out).mono ?_
          rintro e w4 ⟨rfl, hl⟩
          clear p0_0 p0_1 p0_2 p0_3
          have HL4 := Lib.hid hl
          clear hl
          have p0_0 := HL4.out.bx.at 0 rfl 0 rfl
          have p0_1 := HL4.out.bx.at 0 rfl 1 rfl
          have p0_2 := HL4.out.bx.at 0 rfl 2 rfl
          have p0_3 := HL4.out.bx.at 0 rfl 3 rfl
          go_wp2_with fail
          go_ret
          exact ⟨rfl, HL4.out.bel⟩
        · have HCan := Lib.hid (fun w' (h : AuR w' w'.heap.size A n c s M m d E k g a) => by have := mCanonical_any A n c s M m d E k g a w' h; rw [show canR a = (canA a, 0) by rw [canR, if_neg (by rw [← HU.out, HU0.out]; simp)]] at this; exact this)
          have H8 := Lib.hid h8
          go_wp2_with fail
          refine (lw_gives (HCan.out _ (HL3.out.aut A n c s M m d E k g HA.out)) HL3.out).mono ?_
          rintro e w4 ⟨A2, n2, c2, s2, M2, m2, d2, E2, k2, g2, rfl, hau2, hl⟩
          clear p0_0 p0_1 p0_2 p0_3
          have HL4 := Lib.hid hl
          clear hl
          have p0_0 := HL4.out.bx.at 0 rfl 0 rfl
          have p0_1 := HL4.out.bx.at 0 rfl 1 rfl
          have p0_2 := HL4.out.bx.at 0 rfl 2 rfl
          have p0_3 := HL4.out.bx.at 0 rfl 3 rfl
          have HA2 := Lib.hid hau2
          have hle1 : s2 ≤ s := by have h1 := fnd_len hri.out.toRightW; have h2 := hri.out.st0; have h3 := hau2.st; have h4 := HA.out.st; simp [canA] at h3; omega
          have hle2 : k2 ≤ k := by have h1 := canEn_len a (Nat.le_refl (fnd a).length); have h3 := hau2.hk; have h4 := HA.out.hk; simp only [canA] at h3; omega
          have hdd : decide ((k : Int) < (k2 : Int)) = false := by simp; omega
          clear hau2
          have q0_0 := fun (cs : Array Value) ty => (World.cell?_alloc_lt w4 (.cells cs ty) ⟨W.heap.size, 0, none⟩ (HL4.out.bx.lt 0 rfl)).trans p0_0
          have q0_1 := fun (cs : Array Value) ty => (World.cell?_alloc_lt w4 (.cells cs ty) ⟨W.heap.size, 1, none⟩ (HL4.out.bx.lt 0 rfl)).trans p0_1
          have q0_2 := fun (cs : Array Value) ty => (World.cell?_alloc_lt w4 (.cells cs ty) ⟨W.heap.size, 2, none⟩ (HL4.out.bx.lt 0 rfl)).trans p0_2
          have q0_3 := fun (cs : Array Value) ty => (World.cell?_alloc_lt w4 (.cells cs ty) ⟨W.heap.size, 3, none⟩ (HL4.out.bx.lt 0 rfl)).trans p0_3
          have HL4n := Lib.hid (HL4.out.new [.slice A2 n2 c2, .int .i64 s2, .slice M2 m2 d2, .slice E2 k2 g2] 25)
          obtain ⟨x, hx⟩ : ∃ x, x = genB a ws := ⟨_, rfl⟩
          obtain ⟨y, hy⟩ : ∃ y, y = accB a ws := ⟨_, rfl⟩
          have HX := Lib.hid hx
          have HY := Lib.hid hy
          have hc0 := Lib.hid (show chkE a = 0 by rw [← HU.out, HU0.out])
          have hc1 := Lib.hid (chk_can hc0.out)
          have G1 := Lib.hid (fun w' (h : AuR w' w'.heap.size A n c s M m d E k g a) (h2 : RdI w' w'.heap.size W1 ws) => by have := mGenerates_any A n c s M m d E k g a W1 l lc ws w' h h2 HWL.out (by have := H8.out; omega); rw [genR, if_neg (by simp [hc0.out]), ← hx] at this; exact this)
          have G2 := Lib.hid (fun w' (h : AuR w' w'.heap.size A2 n2 c2 s2 M2 m2 d2 E2 k2 g2 (canA a)) (h2 : RdI w' w'.heap.size W1 ws) => by have := mGenerates_any A2 n2 c2 s2 M2 m2 d2 E2 k2 g2 (canA a) W1 l lc ws w' h h2 HWL.out (by have := H8.out; omega); rw [genR, if_neg (by simp [hc1.out]), gen_can hri.out.toRightW, ← hx] at this; exact this)
          have G3 := Lib.hid (fun w' (h : AuR w' w'.heap.size A n c s M m d E k g a) (h2 : RdI w' w'.heap.size W1 ws) => by have := mAccepts_any A n c s M m d E k g a W1 l lc ws w' h h2 HWL.out (by have := H8.out; omega); rw [accR, if_neg (by simp [hc0.out]), ← hy] at this; exact this)
          have G4 := Lib.hid (fun w' (h : AuR w' w'.heap.size A2 n2 c2 s2 M2 m2 d2 E2 k2 g2 (canA a)) (h2 : RdI w' w'.heap.size W1 ws) => by have := mAccepts_any A2 n2 c2 s2 M2 m2 d2 E2 k2 g2 (canA a) W1 l lc ws w' h h2 HWL.out (by have := H8.out; omega); rw [accR, if_neg (by simp [hc1.out]), acc_can hri.out.toRightW, ← hy] at this; exact this)
          have HAt := Lib.hid (fun w' (h : LW w4 [] w') => h.aut' A2 n2 c2 s2 M2 m2 d2 E2 k2 g2 HA2.out)
          have HLw := Lib.hid (LW.start w4)
          have hxy : y = true → x = true := fun h => by rw [hx]; rw [hy, accB] at h; simp only [Bool.and_eq_true] at h; exact h.1
          have HXY := Lib.hid hxy
          clear hx hy hxy
          have HB1 := Lib.hid (show Below w4.heap.size w4 (w4.alloc (.cells #[.slice A2 n2 c2, .int .i64 s2, .slice M2 m2 d2, .slice E2 k2 g2] 25)) from (Below.refl _ _).alloc (Nat.le_refl _) _)
          have K1 := Lib.hid (fun w' (hL : LW W [(w4.heap.size, [.slice A2 n2 c2, .int .i64 s2, .slice M2 m2 d2, .slice E2 k2 g2]), (W.heap.size, [.slice A n c, .int .i64 s, .slice M m d, .slice E k g])] w') (hB : Below w4.heap.size w4 w') => (G1.out w' (hL.aut A n c s M m d E k g HA.out) (hL.ints HWR.out)).mono (R' := fun e w'' => e = .returned (.tuple #[.bool x, .int .i64 0]) ∧ Below w4.heap.size w4 w'' ∧ LW W [(w4.heap.size, [.slice A2 n2 c2, .int .i64 s2, .slice M2 m2 d2, .slice E2 k2 g2]), (W.heap.size, [.slice A n c, .int .i64 s, .slice M m d, .slice E k g])] w'') fun e w'' h => ⟨h.1, hB.trans (h.2.mono hB.size), hL.call h.2⟩)
          have K2 := Lib.hid (fun w' (hL : LW W [(w4.heap.size, [.slice A2 n2 c2, .int .i64 s2, .slice M2 m2 d2, .slice E2 k2 g2]), (W.heap.size, [.slice A n c, .int .i64 s, .slice M m d, .slice E k g])] w') (hB : Below w4.heap.size w4 w') => (G2.out w' ((HA2.out.below hB (Nat.le_refl _)).more hB.size) (hL.ints HWR.out)).mono (R' := fun e w'' => e = .returned (.tuple #[.bool x, .int .i64 0]) ∧ Below w4.heap.size w4 w'' ∧ LW W [(w4.heap.size, [.slice A2 n2 c2, .int .i64 s2, .slice M2 m2 d2, .slice E2 k2 g2]), (W.heap.size, [.slice A n c, .int .i64 s, .slice M m d, .slice E k g])] w'') fun e w'' h => ⟨h.1, hB.trans (h.2.mono hB.size), hL.call h.2⟩)
          have K3 := Lib.hid (fun w' (hL : LW W [(w4.heap.size, [.slice A2 n2 c2, .int .i64 s2, .slice M2 m2 d2, .slice E2 k2 g2]), (W.heap.size, [.slice A n c, .int .i64 s, .slice M m d, .slice E k g])] w') (hB : Below w4.heap.size w4 w') => (G3.out w' (hL.aut A n c s M m d E k g HA.out) (hL.ints HWR.out)).mono (R' := fun e w'' => e = .returned (.tuple #[.bool y, .int .i64 0]) ∧ Below w4.heap.size w4 w'' ∧ LW W [(w4.heap.size, [.slice A2 n2 c2, .int .i64 s2, .slice M2 m2 d2, .slice E2 k2 g2]), (W.heap.size, [.slice A n c, .int .i64 s, .slice M m d, .slice E k g])] w'') fun e w'' h => ⟨h.1, hB.trans (h.2.mono hB.size), hL.call h.2⟩)
          have K4 := Lib.hid (fun w' (hL : LW W [(w4.heap.size, [.slice A2 n2 c2, .int .i64 s2, .slice M2 m2 d2, .slice E2 k2 g2]), (W.heap.size, [.slice A n c, .int .i64 s, .slice M m d, .slice E k g])] w') (hB : Below w4.heap.size w4 w') => (G4.out w' ((HA2.out.below hB (Nat.le_refl _)).more hB.size) (hL.ints HWR.out)).mono (R' := fun e w'' => e = .returned (.tuple #[.bool y, .int .i64 0]) ∧ Below w4.heap.size w4 w'' ∧ LW W [(w4.heap.size, [.slice A2 n2 c2, .int .i64 s2, .slice M2 m2 d2, .slice E2 k2 g2]), (W.heap.size, [.slice A n c, .int .i64 s, .slice M m d, .slice E k g])] w'') fun e w'' h => ⟨h.1, hB.trans (h.2.mono hB.size), hL.call h.2⟩)
          clear G2 G3 G4
          cases x
          · cases y
            · go_wp2_with fail
              refine (K1.out _ HL4n.out HB1.out).mono ?_
              rintro e w5 ⟨rfl, hb, hl⟩
              clear p0_0 p0_1 p0_2 p0_3 q0_0 q0_1 q0_2 q0_3
              have HL5 := Lib.hid hl
              have HBB5 := Lib.hid hb
              clear hl hb
              have p1_0 := HL5.out.bx.at 0 rfl 0 rfl
              have p1_1 := HL5.out.bx.at 0 rfl 1 rfl
              have p1_2 := HL5.out.bx.at 0 rfl 2 rfl
              have p1_3 := HL5.out.bx.at 0 rfl 3 rfl
              have p0_0 := HL5.out.bx.at 1 rfl 0 rfl
              have p0_1 := HL5.out.bx.at 1 rfl 1 rfl
              have p0_2 := HL5.out.bx.at 1 rfl 2 rfl
              have p0_3 := HL5.out.bx.at 1 rfl 3 rfl
              go_wp2_with fail
              refine (K2.out _ HL5.out HBB5.out).mono ?_
              rintro e w6 ⟨rfl, hb, hl⟩
              clear p1_0 p1_1 p1_2 p1_3 p0_0 p0_1 p0_2 p0_3
              have HL6 := Lib.hid hl
              have HBB6 := Lib.hid hb
              clear hl hb
              have p1_0 := HL6.out.bx.at 0 rfl 0 rfl
              have p1_1 := HL6.out.bx.at 0 rfl 1 rfl
              have p1_2 := HL6.out.bx.at 0 rfl 2 rfl
              have p1_3 := HL6.out.bx.at 0 rfl 3 rfl
              have p0_0 := HL6.out.bx.at 1 rfl 0 rfl
              have p0_1 := HL6.out.bx.at 1 rfl 1 rfl
              have p0_2 := HL6.out.bx.at 1 rfl 2 rfl
              have p0_3 := HL6.out.bx.at 1 rfl 3 rfl
              go_wp2_with fail
              refine (K3.out _ HL6.out HBB6.out).mono ?_
              rintro e w7 ⟨rfl, hb, hl⟩
              clear p1_0 p1_1 p1_2 p1_3 p0_0 p0_1 p0_2 p0_3
              have HL7 := Lib.hid hl
              have HBB7 := Lib.hid hb
              clear hl hb
              have p1_0 := HL7.out.bx.at 0 rfl 0 rfl
              have p1_1 := HL7.out.bx.at 0 rfl 1 rfl
              have p1_2 := HL7.out.bx.at 0 rfl 2 rfl
              have p1_3 := HL7.out.bx.at 0 rfl 3 rfl
              have p0_0 := HL7.out.bx.at 1 rfl 0 rfl
              have p0_1 := HL7.out.bx.at 1 rfl 1 rfl
              have p0_2 := HL7.out.bx.at 1 rfl 2 rfl
              have p0_3 := HL7.out.bx.at 1 rfl 3 rfl
              go_wp2_with fail
              refine (K4.out _ HL7.out HBB7.out).mono ?_
              rintro e w8 ⟨rfl, hb, hl⟩
              clear p1_0 p1_1 p1_2 p1_3 p0_0 p0_1 p0_2 p0_3
              have HL8 := Lib.hid hl
              have HBB8 := Lib.hid hb
              clear hl hb
              have p1_0 := HL8.out.bx.at 0 rfl 0 rfl
              have p1_1 := HL8.out.bx.at 0 rfl 1 rfl
              have p1_2 := HL8.out.bx.at 0 rfl 2 rfl
              have p1_3 := HL8.out.bx.at 0 rfl 3 rfl
              have p0_0 := HL8.out.bx.at 1 rfl 0 rfl
              have p0_1 := HL8.out.bx.at 1 rfl 1 rfl
              have p0_2 := HL8.out.bx.at 1 rfl 2 rfl
              have p0_3 := HL8.out.bx.at 1 rfl 3 rfl
              go_wp2_with fail
              go_loopw [15] (fun i wr => ∃ t : Nat, t ≤ l ∧ i = .int .i64 t ∧ Hid (LW W [(w4.heap.size, [.slice A2 n2 c2, .int .i64 s2, .slice M2 m2 d2, .slice E2 k2 g2]), (W.heap.size, [.slice A n c, .int .i64 s, .slice M m d, .slice E k g])] wr)) (fun i _ => l - (intOf i).toNat)
              case atStart => exact ⟨0, Nat.zero_le _, rfl, HL8⟩
              case round =>
                clear p1_0 p1_1 p1_2 p1_3 p0_0 p0_1 p0_2 p0_3
                obtain ⟨t, htl, rfl, hl⟩ := hrel
                have h8' := H8.out
                have p1_0 := hl.out.bx.at 0 rfl 0 rfl
                have p1_1 := hl.out.bx.at 0 rfl 1 rfl
                have p1_2 := hl.out.bx.at 0 rfl 2 rfl
                have p1_3 := hl.out.bx.at 0 rfl 3 rfl
                have p0_0 := hl.out.bx.at 1 rfl 0 rfl
                have p0_1 := hl.out.bx.at 1 rfl 1 rfl
                have p0_2 := hl.out.bx.at 1 rfl 2 rfl
                have p0_3 := hl.out.bx.at 1 rfl 3 rfl
                by_cases hlt : t < l
                · obtain ⟨z, hz⟩ : ∃ z, z = genB a (ws.take t) := ⟨_, rfl⟩
                  have HG := Lib.hid (fun w' (hL : LW W [(w4.heap.size, [.slice A2 n2 c2, .int .i64 s2, .slice M2 m2 d2, .slice E2 k2 g2]), (W.heap.size, [.slice A n c, .int .i64 s, .slice M m d, .slice E k g])] w') => by have := mGenerates_any A n c s M m d E k g a W1 t lc (ws.take t) w' (hL.aut A n c s M m d E k g HA.out) ((hL.ints HWR.out).take t) (by rw [List.length_take, HWL.out]; omega) (by omega); rw [genR, if_neg (by simp [hc0.out]), ← hz] at this; exact lw_call this hL)
                  have hl2 := Lib.hid hl.out.drew
                  have z1 : (t : Int) ≤ (lc : Int) := by omega
                  have z2 : (0 : Int) ≤ (t : Int) := by omega
                  clear hz
                  go_wp2_with fail
                  go_region_held3 (fun w' => w'.cell? ⟨W.heap.size, 0, none⟩ = some (.slice A n c) ∧ w'.cell? ⟨W.heap.size, 1, none⟩ = some (.int .i64 s) ∧ w'.cell? ⟨W.heap.size, 2, none⟩ = some (.slice M m d) ∧ w'.cell? ⟨W.heap.size, 3, none⟩ = some (.slice E k g)) (first | with_reducible exact ⟨p0_0, p0_1, p0_2, p0_3⟩ | go_keep)
                    (first
                    | (go_simp; go_at_call 21; (first | with_reducible refine (HG.out _ hl.out).mono ?_ | with_reducible refine (HG.out _ hl2.out).mono ?_); rintro e w9 ⟨rfl, hl9⟩
                       have HL9 := Lib.hid hl9
                       have p0_0 := hl9.bx.at 1 rfl 0 rfl
                       have p0_1 := hl9.bx.at 1 rfl 1 rfl
                       have p0_2 := hl9.bx.at 1 rfl 2 rfl
                       have p0_3 := hl9.bx.at 1 rfl 3 rfl
                       clear hl9))
                  all_goals
                    cases z
                    all_goals
                      go_wp2_with fail
                      go_roundw
                      case rel => exact ⟨t + 1, by omega, by go_num, by first | exact HL9 | exact Lib.hid HL9.out.drew⟩
                      case measure => simp [intOf]; omega
                · obtain rfl : t = l := by omega
                  go_wp2_with fail
                  go_ret
                  exact ⟨rfl, hl.out.bel⟩
            · exact absurd (HXY.out rfl) (by simp)
          · cases y
            · go_wp2_with fail
              refine (K1.out _ HL4n.out HB1.out).mono ?_
              rintro e w5 ⟨rfl, hb, hl⟩
              clear p0_0 p0_1 p0_2 p0_3 q0_0 q0_1 q0_2 q0_3
              have HL5 := Lib.hid hl
              have HBB5 := Lib.hid hb
              clear hl hb
              have p1_0 := HL5.out.bx.at 0 rfl 0 rfl
              have p1_1 := HL5.out.bx.at 0 rfl 1 rfl
              have p1_2 := HL5.out.bx.at 0 rfl 2 rfl
              have p1_3 := HL5.out.bx.at 0 rfl 3 rfl
              have p0_0 := HL5.out.bx.at 1 rfl 0 rfl
              have p0_1 := HL5.out.bx.at 1 rfl 1 rfl
              have p0_2 := HL5.out.bx.at 1 rfl 2 rfl
              have p0_3 := HL5.out.bx.at 1 rfl 3 rfl
              go_wp2_with fail
              refine (K2.out _ HL5.out HBB5.out).mono ?_
              rintro e w6 ⟨rfl, hb, hl⟩
              clear p1_0 p1_1 p1_2 p1_3 p0_0 p0_1 p0_2 p0_3
              have HL6 := Lib.hid hl
              have HBB6 := Lib.hid hb
              clear hl hb
              have p1_0 := HL6.out.bx.at 0 rfl 0 rfl
              have p1_1 := HL6.out.bx.at 0 rfl 1 rfl
              have p1_2 := HL6.out.bx.at 0 rfl 2 rfl
              have p1_3 := HL6.out.bx.at 0 rfl 3 rfl
              have p0_0 := HL6.out.bx.at 1 rfl 0 rfl
              have p0_1 := HL6.out.bx.at 1 rfl 1 rfl
              have p0_2 := HL6.out.bx.at 1 rfl 2 rfl
              have p0_3 := HL6.out.bx.at 1 rfl 3 rfl
              go_wp2_with fail
              refine (K3.out _ HL6.out HBB6.out).mono ?_
              rintro e w7 ⟨rfl, hb, hl⟩
              clear p1_0 p1_1 p1_2 p1_3 p0_0 p0_1 p0_2 p0_3
              have HL7 := Lib.hid hl
              have HBB7 := Lib.hid hb
              clear hl hb
              have p1_0 := HL7.out.bx.at 0 rfl 0 rfl
              have p1_1 := HL7.out.bx.at 0 rfl 1 rfl
              have p1_2 := HL7.out.bx.at 0 rfl 2 rfl
              have p1_3 := HL7.out.bx.at 0 rfl 3 rfl
              have p0_0 := HL7.out.bx.at 1 rfl 0 rfl
              have p0_1 := HL7.out.bx.at 1 rfl 1 rfl
              have p0_2 := HL7.out.bx.at 1 rfl 2 rfl
              have p0_3 := HL7.out.bx.at 1 rfl 3 rfl
              go_wp2_with fail
              refine (K4.out _ HL7.out HBB7.out).mono ?_
              rintro e w8 ⟨rfl, hb, hl⟩
              clear p1_0 p1_1 p1_2 p1_3 p0_0 p0_1 p0_2 p0_3
              have HL8 := Lib.hid hl
              have HBB8 := Lib.hid hb
              clear hl hb
              have p1_0 := HL8.out.bx.at 0 rfl 0 rfl
              have p1_1 := HL8.out.bx.at 0 rfl 1 rfl
              have p1_2 := HL8.out.bx.at 0 rfl 2 rfl
              have p1_3 := HL8.out.bx.at 0 rfl 3 rfl
              have p0_0 := HL8.out.bx.at 1 rfl 0 rfl
              have p0_1 := HL8.out.bx.at 1 rfl 1 rfl
              have p0_2 := HL8.out.bx.at 1 rfl 2 rfl
              have p0_3 := HL8.out.bx.at 1 rfl 3 rfl
              go_wp2_with fail
              go_loopw [15] (fun i wr => ∃ t : Nat, t ≤ l ∧ i = .int .i64 t ∧ Hid (LW W [(w4.heap.size, [.slice A2 n2 c2, .int .i64 s2, .slice M2 m2 d2, .slice E2 k2 g2]), (W.heap.size, [.slice A n c, .int .i64 s, .slice M m d, .slice E k g])] wr)) (fun i _ => l - (intOf i).toNat)
              case atStart => exact ⟨0, Nat.zero_le _, rfl, HL8⟩
              case round =>
                clear p1_0 p1_1 p1_2 p1_3 p0_0 p0_1 p0_2 p0_3
                obtain ⟨t, htl, rfl, hl⟩ := hrel
                have h8' := H8.out
                have p1_0 := hl.out.bx.at 0 rfl 0 rfl
                have p1_1 := hl.out.bx.at 0 rfl 1 rfl
                have p1_2 := hl.out.bx.at 0 rfl 2 rfl
                have p1_3 := hl.out.bx.at 0 rfl 3 rfl
                have p0_0 := hl.out.bx.at 1 rfl 0 rfl
                have p0_1 := hl.out.bx.at 1 rfl 1 rfl
                have p0_2 := hl.out.bx.at 1 rfl 2 rfl
                have p0_3 := hl.out.bx.at 1 rfl 3 rfl
                by_cases hlt : t < l
                · obtain ⟨z, hz⟩ : ∃ z, z = genB a (ws.take t) := ⟨_, rfl⟩
                  have HG := Lib.hid (fun w' (hL : LW W [(w4.heap.size, [.slice A2 n2 c2, .int .i64 s2, .slice M2 m2 d2, .slice E2 k2 g2]), (W.heap.size, [.slice A n c, .int .i64 s, .slice M m d, .slice E k g])] w') => by have := mGenerates_any A n c s M m d E k g a W1 t lc (ws.take t) w' (hL.aut A n c s M m d E k g HA.out) ((hL.ints HWR.out).take t) (by rw [List.length_take, HWL.out]; omega) (by omega); rw [genR, if_neg (by simp [hc0.out]), ← hz] at this; exact lw_call this hL)
                  have hz1 : z = true := by rw [hz]; exact gen_take HX.out.symm t
                  subst hz1
                  have hl2 := Lib.hid hl.out.drew
                  have z1 : (t : Int) ≤ (lc : Int) := by omega
                  have z2 : (0 : Int) ≤ (t : Int) := by omega
                  clear hz
                  go_wp2_with fail
                  go_region_held3 (fun w' => w'.cell? ⟨W.heap.size, 0, none⟩ = some (.slice A n c) ∧ w'.cell? ⟨W.heap.size, 1, none⟩ = some (.int .i64 s) ∧ w'.cell? ⟨W.heap.size, 2, none⟩ = some (.slice M m d) ∧ w'.cell? ⟨W.heap.size, 3, none⟩ = some (.slice E k g)) (first | with_reducible exact ⟨p0_0, p0_1, p0_2, p0_3⟩ | go_keep)
                    (first
                    | (go_simp; go_at_call 21; (first | with_reducible refine (HG.out _ hl.out).mono ?_ | with_reducible refine (HG.out _ hl2.out).mono ?_); rintro e w9 ⟨rfl, hl9⟩
                       have HL9 := Lib.hid hl9
                       have p0_0 := hl9.bx.at 1 rfl 0 rfl
                       have p0_1 := hl9.bx.at 1 rfl 1 rfl
                       have p0_2 := hl9.bx.at 1 rfl 2 rfl
                       have p0_3 := hl9.bx.at 1 rfl 3 rfl
                       clear hl9))
                  all_goals
                    go_wp2_with fail
                    go_roundw
                    case rel => exact ⟨t + 1, by omega, by go_num, by first | exact HL9 | exact Lib.hid HL9.out.drew⟩
                    case measure => simp [intOf]; omega
                · obtain rfl : t = l := by omega
                  go_wp2_with fail
                  go_ret
                  exact ⟨rfl, hl.out.bel⟩
            · go_wp2_with fail
              refine (K1.out _ HL4n.out HB1.out).mono ?_
              rintro e w5 ⟨rfl, hb, hl⟩
              clear p0_0 p0_1 p0_2 p0_3 q0_0 q0_1 q0_2 q0_3
              have HL5 := Lib.hid hl
              have HBB5 := Lib.hid hb
              clear hl hb
              have p1_0 := HL5.out.bx.at 0 rfl 0 rfl
              have p1_1 := HL5.out.bx.at 0 rfl 1 rfl
              have p1_2 := HL5.out.bx.at 0 rfl 2 rfl
              have p1_3 := HL5.out.bx.at 0 rfl 3 rfl
              have p0_0 := HL5.out.bx.at 1 rfl 0 rfl
              have p0_1 := HL5.out.bx.at 1 rfl 1 rfl
              have p0_2 := HL5.out.bx.at 1 rfl 2 rfl
              have p0_3 := HL5.out.bx.at 1 rfl 3 rfl
              go_wp2_with fail
              refine (K2.out _ HL5.out HBB5.out).mono ?_
              rintro e w6 ⟨rfl, hb, hl⟩
              clear p1_0 p1_1 p1_2 p1_3 p0_0 p0_1 p0_2 p0_3
              have HL6 := Lib.hid hl
              have HBB6 := Lib.hid hb
              clear hl hb
              have p1_0 := HL6.out.bx.at 0 rfl 0 rfl
              have p1_1 := HL6.out.bx.at 0 rfl 1 rfl
              have p1_2 := HL6.out.bx.at 0 rfl 2 rfl
              have p1_3 := HL6.out.bx.at 0 rfl 3 rfl
              have p0_0 := HL6.out.bx.at 1 rfl 0 rfl
              have p0_1 := HL6.out.bx.at 1 rfl 1 rfl
              have p0_2 := HL6.out.bx.at 1 rfl 2 rfl
              have p0_3 := HL6.out.bx.at 1 rfl 3 rfl
              go_wp2_with fail
              refine (K3.out _ HL6.out HBB6.out).mono ?_
              rintro e w7 ⟨rfl, hb, hl⟩
              clear p1_0 p1_1 p1_2 p1_3 p0_0 p0_1 p0_2 p0_3
              have HL7 := Lib.hid hl
              have HBB7 := Lib.hid hb
              clear hl hb
              have p1_0 := HL7.out.bx.at 0 rfl 0 rfl
              have p1_1 := HL7.out.bx.at 0 rfl 1 rfl
              have p1_2 := HL7.out.bx.at 0 rfl 2 rfl
              have p1_3 := HL7.out.bx.at 0 rfl 3 rfl
              have p0_0 := HL7.out.bx.at 1 rfl 0 rfl
              have p0_1 := HL7.out.bx.at 1 rfl 1 rfl
              have p0_2 := HL7.out.bx.at 1 rfl 2 rfl
              have p0_3 := HL7.out.bx.at 1 rfl 3 rfl
              go_wp2_with fail
              refine (K4.out _ HL7.out HBB7.out).mono ?_
              rintro e w8 ⟨rfl, hb, hl⟩
              clear p1_0 p1_1 p1_2 p1_3 p0_0 p0_1 p0_2 p0_3
              have HL8 := Lib.hid hl
              have HBB8 := Lib.hid hb
              clear hl hb
              have p1_0 := HL8.out.bx.at 0 rfl 0 rfl
              have p1_1 := HL8.out.bx.at 0 rfl 1 rfl
              have p1_2 := HL8.out.bx.at 0 rfl 2 rfl
              have p1_3 := HL8.out.bx.at 0 rfl 3 rfl
              have p0_0 := HL8.out.bx.at 1 rfl 0 rfl
              have p0_1 := HL8.out.bx.at 1 rfl 1 rfl
              have p0_2 := HL8.out.bx.at 1 rfl 2 rfl
              have p0_3 := HL8.out.bx.at 1 rfl 3 rfl
              go_wp2_with fail
              go_loopw [15] (fun i wr => ∃ t : Nat, t ≤ l ∧ i = .int .i64 t ∧ Hid (LW W [(w4.heap.size, [.slice A2 n2 c2, .int .i64 s2, .slice M2 m2 d2, .slice E2 k2 g2]), (W.heap.size, [.slice A n c, .int .i64 s, .slice M m d, .slice E k g])] wr)) (fun i _ => l - (intOf i).toNat)
              case atStart => exact ⟨0, Nat.zero_le _, rfl, HL8⟩
              case round =>
                clear p1_0 p1_1 p1_2 p1_3 p0_0 p0_1 p0_2 p0_3
                obtain ⟨t, htl, rfl, hl⟩ := hrel
                have h8' := H8.out
                have p1_0 := hl.out.bx.at 0 rfl 0 rfl
                have p1_1 := hl.out.bx.at 0 rfl 1 rfl
                have p1_2 := hl.out.bx.at 0 rfl 2 rfl
                have p1_3 := hl.out.bx.at 0 rfl 3 rfl
                have p0_0 := hl.out.bx.at 1 rfl 0 rfl
                have p0_1 := hl.out.bx.at 1 rfl 1 rfl
                have p0_2 := hl.out.bx.at 1 rfl 2 rfl
                have p0_3 := hl.out.bx.at 1 rfl 3 rfl
                by_cases hlt : t < l
                · obtain ⟨z, hz⟩ : ∃ z, z = genB a (ws.take t) := ⟨_, rfl⟩
                  have HG := Lib.hid (fun w' (hL : LW W [(w4.heap.size, [.slice A2 n2 c2, .int .i64 s2, .slice M2 m2 d2, .slice E2 k2 g2]), (W.heap.size, [.slice A n c, .int .i64 s, .slice M m d, .slice E k g])] w') => by have := mGenerates_any A n c s M m d E k g a W1 t lc (ws.take t) w' (hL.aut A n c s M m d E k g HA.out) ((hL.ints HWR.out).take t) (by rw [List.length_take, HWL.out]; omega) (by omega); rw [genR, if_neg (by simp [hc0.out]), ← hz] at this; exact lw_call this hL)
                  have hz1 : z = true := by rw [hz]; exact gen_take HX.out.symm t
                  subst hz1
                  have hl2 := Lib.hid hl.out.drew
                  have z1 : (t : Int) ≤ (lc : Int) := by omega
                  have z2 : (0 : Int) ≤ (t : Int) := by omega
                  clear hz
                  go_wp2_with fail
                  go_region_held3 (fun w' => w'.cell? ⟨W.heap.size, 0, none⟩ = some (.slice A n c) ∧ w'.cell? ⟨W.heap.size, 1, none⟩ = some (.int .i64 s) ∧ w'.cell? ⟨W.heap.size, 2, none⟩ = some (.slice M m d) ∧ w'.cell? ⟨W.heap.size, 3, none⟩ = some (.slice E k g)) (first | with_reducible exact ⟨p0_0, p0_1, p0_2, p0_3⟩ | go_keep)
                    (first
                    | (go_simp; go_at_call 21; (first | with_reducible refine (HG.out _ hl.out).mono ?_ | with_reducible refine (HG.out _ hl2.out).mono ?_); rintro e w9 ⟨rfl, hl9⟩
                       have HL9 := Lib.hid hl9
                       have p0_0 := hl9.bx.at 1 rfl 0 rfl
                       have p0_1 := hl9.bx.at 1 rfl 1 rfl
                       have p0_2 := hl9.bx.at 1 rfl 2 rfl
                       have p0_3 := hl9.bx.at 1 rfl 3 rfl
                       clear hl9))
                  all_goals
                    go_wp2_with fail
                    go_roundw
                    case rel => exact ⟨t + 1, by omega, by go_num, by first | exact HL9 | exact Lib.hid HL9.out.drew⟩
                    case measure => simp [intOf]; omega
                · obtain rfl : t = l := by omega
                  go_wp2_with fail
                  go_ret
                  exact ⟨rfl, hl.out.bel⟩
      · have hb0 : (u != 0) = true := by simp [h0]
        clear h0
        go_wp2_with fail
        refine (lw_call (HC.out _ (HL2.out.aut A n c s M m d E k g HA.out)) HL2.out).mono ?_
        rintro e w3 ⟨rfl, hl⟩
        clear p0_0 p0_1 p0_2 p0_3
        have HL3 := Lib.hid hl
        clear hl
        have p0_0 := HL3.out.bx.at 0 rfl 0 rfl
        have p0_1 := HL3.out.bx.at 0 rfl 1 rfl
        have p0_2 := HL3.out.bx.at 0 rfl 2 rfl
        have p0_3 := HL3.out.bx.at 0 rfl 3 rfl
        go_wp2_with fail
        refine (lw_call (known_any _) HL3.out).mono ?_
        rintro e w4 ⟨rfl, hl⟩
        clear p0_0 p0_1 p0_2 p0_3
        have HL4 := Lib.hid hl
        clear hl
        have p0_0 := HL4.out.bx.at 0 rfl 0 rfl
        have p0_1 := HL4.out.bx.at 0 rfl 1 rfl
        have p0_2 := HL4.out.bx.at 0 rfl 2 rfl
        have p0_3 := HL4.out.bx.at 0 rfl 3 rfl
        go_wp2_with fail
        go_ret
        exact ⟨rfl, HL4.out.bel⟩
end Go.Proofs.Ytcciiikaejjooaa
