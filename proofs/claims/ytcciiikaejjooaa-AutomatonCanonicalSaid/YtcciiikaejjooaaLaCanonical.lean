/- The law AutomatonCanonical, walked. -/
import Derived.Test.YtcciiikaejjooaaaLwC
namespace Go.Proofs.Ytcciiikaejjooaa
open Go.RowKit Go.Sort

set_option maxHeartbeats 8000000 in
set_option maxRecDepth 100000 in
theorem lawCanonical (A : Option Addr) (n c : Nat) (s : Int) (M : Option Addr) (m d : Nat) (E : Option Addr) (k g : Nat) (a : Au) (W : World) (S0 : AuI W A n c s M m d E k g a) :
    Calls Try.prog 4 #[.agg #[.slice A n c, .int .i64 s, .slice M m d, .slice E k g]] W fun e W' => e = .returned (.bool true) ∧ Below W.heap.size W W' := by
  have HS0 := Lib.hid S0
  have HL0 := Lib.hid (LW.first W [.slice A n c, .int .i64 s, .slice M m d, .slice E k g] 25)
  obtain ⟨r1, hr1⟩ : ∃ r, r = fewB n m k := ⟨_, rfl⟩
  have HF := Lib.hid (few_any A n c s M m d E k g)
  rw [← hr1] at HF
  have HR1 := Lib.hid hr1
  clear S0 hr1
  go_enter Try.func4, Try.ntmps4
  go_wp2_with fail
  refine (lw_call (known_any _) HL0.out).mono ?_
  rintro e w1 ⟨rfl, hl⟩
  have HL1 := Lib.hid hl
  clear hl
  have p0_0 := HL1.out.bx.at 0 rfl 0 rfl
  have p0_1 := HL1.out.bx.at 0 rfl 1 rfl
  have p0_2 := HL1.out.bx.at 0 rfl 2 rfl
  have p0_3 := HL1.out.bx.at 0 rfl 3 rfl
  cases r1
  · go_wp2_with fail
    refine (lw_call (HF.out _) HL1.out).mono ?_
    rintro e w2 ⟨rfl, hl⟩
    clear p0_0 p0_1 p0_2 p0_3
    have HL2 := Lib.hid hl
    clear hl
    have p0_0 := HL2.out.bx.at 0 rfl 0 rfl
    have p0_1 := HL2.out.bx.at 0 rfl 1 rfl
    have p0_2 := HL2.out.bx.at 0 rfl 2 rfl
    have p0_3 := HL2.out.bx.at 0 rfl 3 rfl
    go_wp2_with fail
    refine (lw_call (known_any _) HL2.out).mono ?_
    rintro e w3 ⟨rfl, hl⟩
    clear p0_0 p0_1 p0_2 p0_3
    have HL3 := Lib.hid hl
    clear hl
    have p0_0 := HL3.out.bx.at 0 rfl 0 rfl
    have p0_1 := HL3.out.bx.at 0 rfl 1 rfl
    have p0_2 := HL3.out.bx.at 0 rfl 2 rfl
    have p0_3 := HL3.out.bx.at 0 rfl 3 rfl
    go_wp2_with fail
    go_ret
    exact ⟨rfl, HL3.out.bel⟩
  · have f1 := few_yes HR1.out.symm
    have HA := Lib.hid (HS0.out.r f1.1 f1.2.1 f1.2.2)
    clear f1
    go_wp2_with fail
    refine (lw_call (HF.out _) HL1.out).mono ?_
    rintro e w2 ⟨rfl, hl⟩
    clear p0_0 p0_1 p0_2 p0_3
    have HL2 := Lib.hid hl
    clear hl
    have p0_0 := HL2.out.bx.at 0 rfl 0 rfl
    have p0_1 := HL2.out.bx.at 0 rfl 1 rfl
    have p0_2 := HL2.out.bx.at 0 rfl 2 rfl
    have p0_3 := HL2.out.bx.at 0 rfl 3 rfl
    by_cases hs : 64 < s
    · go_wp2_with fail
      refine (lw_call (known_any _) HL2.out).mono ?_
      rintro e w3 ⟨rfl, hl⟩
      clear p0_0 p0_1 p0_2 p0_3
      have HL3 := Lib.hid hl
      clear hl
      have p0_0 := HL3.out.bx.at 0 rfl 0 rfl
      have p0_1 := HL3.out.bx.at 0 rfl 1 rfl
      have p0_2 := HL3.out.bx.at 0 rfl 2 rfl
      have p0_3 := HL3.out.bx.at 0 rfl 3 rfl
      go_wp2_with fail
      go_ret
      exact ⟨rfl, HL3.out.bel⟩
    · have HS := Lib.hid hs
      obtain ⟨u, hu⟩ : ∃ u, u = chkE a := ⟨_, rfl⟩
      have HC := Lib.hid (fun w' (h : AuR w' w'.heap.size A n c s M m d E k g a) => rCheck_any A n c s M m d E k g a w'.heap.size w' h (Nat.le_refl _))
      rw [← hu] at HC
      have HU := Lib.hid hu
      clear hu
      by_cases h0 : u = 0
      · have hc0 := Lib.hid (show chkE a = 0 by rw [← HU.out, h0])
        have hri := Lib.hid (right_of hc0.out)
        have hb0 : (u != 0) = false := by simp [h0]
        have HC1 := Lib.hid (chk_can hc0.out)
        have HR := Lib.hid (fun w' (h : AuR w' w'.heap.size A n c s M m d E k g a) => rCanonical_any A n c s M m d E k g a w'.heap.size w' h (Nat.le_refl _) hri.out.toRightW (by have := HS.out; omega))
        have HCan := Lib.hid (fun w' (h : AuR w' w'.heap.size A n c s M m d E k g a) => by have := mCanonical_any A n c s M m d E k g a w' h; rw [show canR a = (canA a, 0) by rw [canR, if_neg (by rw [hc0.out]; simp)]] at this; exact this)
        clear h0
        go_wp2_with fail
        refine (lw_call (HC.out _ (HL2.out.aut A n c s M m d E k g HA.out)) HL2.out).mono ?_
        rintro e w3 ⟨rfl, hl⟩
        clear p0_0 p0_1 p0_2 p0_3
        have HL3 := Lib.hid hl
        clear hl
        have p0_0 := HL3.out.bx.at 0 rfl 0 rfl
        have p0_1 := HL3.out.bx.at 0 rfl 1 rfl
        have p0_2 := HL3.out.bx.at 0 rfl 2 rfl
        have p0_3 := HL3.out.bx.at 0 rfl 3 rfl
        go_wp2_with fail
        refine (lw_aut (HR.out _ (HL3.out.aut A n c s M m d E k g HA.out)) HL3.out).mono ?_
        rintro e w4 ⟨A2, n2, c2, s2, M2, m2, d2, E2, k2, g2, rfl, hau2, hl⟩
        clear p0_0 p0_1 p0_2 p0_3
        have HL4 := Lib.hid hl
        clear hl
        have p0_0 := HL4.out.bx.at 0 rfl 0 rfl
        have p0_1 := HL4.out.bx.at 0 rfl 1 rfl
        have p0_2 := HL4.out.bx.at 0 rfl 2 rfl
        have p0_3 := HL4.out.bx.at 0 rfl 3 rfl
        have HA2 := Lib.hid hau2
        clear hau2
        have HLW2 := Lib.hid HL4.out.bel
        have q0_0 := fun (cs : Array Value) ty => (World.cell?_alloc_lt w4 (.cells cs ty) ⟨W.heap.size, 0, none⟩ (HL4.out.bx.lt 0 rfl)).trans p0_0
        have q0_1 := fun (cs : Array Value) ty => (World.cell?_alloc_lt w4 (.cells cs ty) ⟨W.heap.size, 1, none⟩ (HL4.out.bx.lt 0 rfl)).trans p0_1
        have q0_2 := fun (cs : Array Value) ty => (World.cell?_alloc_lt w4 (.cells cs ty) ⟨W.heap.size, 2, none⟩ (HL4.out.bx.lt 0 rfl)).trans p0_2
        have q0_3 := fun (cs : Array Value) ty => (World.cell?_alloc_lt w4 (.cells cs ty) ⟨W.heap.size, 3, none⟩ (HL4.out.bx.lt 0 rfl)).trans p0_3
        have HL4n := Lib.hid (HL4.out.new [.slice A2 n2 c2, .int .i64 s2, .slice M2 m2 d2, .slice E2 k2 g2] 25)
        have HB2 := Lib.hid (show Below w4.heap.size w4 (w4.alloc (.cells #[.slice A2 n2 c2, .int .i64 s2, .slice M2 m2 d2, .slice E2 k2 g2] 25)) from (Below.refl _ _).alloc (Nat.le_refl _) _)
        have HCan2 := Lib.hid ((lw_gives (HCan.out _ (HL4n.out.aut A n c s M m d E k g HA.out)) (LW.mk (HB2.out) (HL4n.out.bx))))
        go_wp2_with fail
        refine HCan2.out.mono ?_
        rintro e w5 ⟨A3, n3, c3, s3, M3, m3, d3, E3, k3, g3, rfl, hau3, hl⟩
        clear p0_0 p0_1 p0_2 p0_3 q0_0 q0_1 q0_2 q0_3
        have HX3 := Lib.hid hl
        have HA3 := Lib.hid hau3
        have HA23 := Lib.hid (hl.aut' A2 n2 c2 s2 M2 m2 d2 E2 k2 g2 HA2.out)
        have HL5 := Lib.hid (show LW W [(w4.heap.size, [.slice A2 n2 c2, .int .i64 s2, .slice M2 m2 d2, .slice E2 k2 g2]), (W.heap.size, [.slice A n c, .int .i64 s, .slice M m d, .slice E k g])] w5 from ⟨HLW2.out.trans (hl.bel.mono HLW2.out.size), hl.bx⟩)
        clear hl hau3
        have p1_0 := HL5.out.bx.at 0 rfl 0 rfl
        have p1_1 := HL5.out.bx.at 0 rfl 1 rfl
        have p1_2 := HL5.out.bx.at 0 rfl 2 rfl
        have p1_3 := HL5.out.bx.at 0 rfl 3 rfl
        have p0_0 := HL5.out.bx.at 1 rfl 0 rfl
        have p0_1 := HL5.out.bx.at 1 rfl 1 rfl
        have p0_2 := HL5.out.bx.at 1 rfl 2 rfl
        have p0_3 := HL5.out.bx.at 1 rfl 3 rfl
        have q1_0 := fun (cs : Array Value) ty => (World.cell?_alloc_lt w5 (.cells cs ty) ⟨w4.heap.size, 0, none⟩ (HL5.out.bx.lt 0 rfl)).trans p1_0
        have q1_1 := fun (cs : Array Value) ty => (World.cell?_alloc_lt w5 (.cells cs ty) ⟨w4.heap.size, 1, none⟩ (HL5.out.bx.lt 0 rfl)).trans p1_1
        have q1_2 := fun (cs : Array Value) ty => (World.cell?_alloc_lt w5 (.cells cs ty) ⟨w4.heap.size, 2, none⟩ (HL5.out.bx.lt 0 rfl)).trans p1_2
        have q1_3 := fun (cs : Array Value) ty => (World.cell?_alloc_lt w5 (.cells cs ty) ⟨w4.heap.size, 3, none⟩ (HL5.out.bx.lt 0 rfl)).trans p1_3
        have q0_0 := fun (cs : Array Value) ty => (World.cell?_alloc_lt w5 (.cells cs ty) ⟨W.heap.size, 0, none⟩ (HL5.out.bx.lt 1 rfl)).trans p0_0
        have q0_1 := fun (cs : Array Value) ty => (World.cell?_alloc_lt w5 (.cells cs ty) ⟨W.heap.size, 1, none⟩ (HL5.out.bx.lt 1 rfl)).trans p0_1
        have q0_2 := fun (cs : Array Value) ty => (World.cell?_alloc_lt w5 (.cells cs ty) ⟨W.heap.size, 2, none⟩ (HL5.out.bx.lt 1 rfl)).trans p0_2
        have q0_3 := fun (cs : Array Value) ty => (World.cell?_alloc_lt w5 (.cells cs ty) ⟨W.heap.size, 3, none⟩ (HL5.out.bx.lt 1 rfl)).trans p0_3
        have HL5n := Lib.hid (HL5.out.new [.slice A3 n3 c3, .int .i64 s3, .slice M3 m3 d3, .slice E3 k3 g3] 25)
        have HB3 := Lib.hid (show Below w5.heap.size w5 (w5.alloc (.cells #[.slice A3 n3 c3, .int .i64 s3, .slice M3 m3 d3, .slice E3 k3 g3] 25)) from (Below.refl _ _).alloc (Nat.le_refl _) _)
        have HCan3 := Lib.hid (by have := lw_gives (mCanonical_any A3 n3 c3 s3 M3 m3 d3 E3 k3 g3 (canA a) _ ((HA3.out.below HB3.out (Nat.le_refl _)).more HB3.out.size)) (LW.mk HB3.out HL5n.out.bx); rw [show canR (canA a) = (canA a, 0) by rw [canR, if_neg (by rw [HC1.out]; simp), can_can hri.out.toRightW]] at this; exact this)
        have HL3b := Lib.hid HL5.out.bel
        go_wp2_with fail
        refine HCan3.out.mono ?_
        rintro e w6 ⟨A4, n4, c4, s4, M4, m4, d4, E4, k4, g4, rfl, hau4, hl⟩
        clear p1_0 p1_1 p1_2 p1_3 p0_0 p0_1 p0_2 p0_3 q1_0 q1_1 q1_2 q1_3 q0_0 q0_1 q0_2 q0_3
        have HA4 := Lib.hid hau4
        have HA34 := Lib.hid (hl.aut' A3 n3 c3 s3 M3 m3 d3 E3 k3 g3 HA3.out)
        have HA24 := Lib.hid (hl.aut' A2 n2 c2 s2 M2 m2 d2 E2 k2 g2 HA23.out)
        have HL6 := Lib.hid (show LW W [(w5.heap.size, [.slice A3 n3 c3, .int .i64 s3, .slice M3 m3 d3, .slice E3 k3 g3]), (w4.heap.size, [.slice A2 n2 c2, .int .i64 s2, .slice M2 m2 d2, .slice E2 k2 g2]), (W.heap.size, [.slice A n c, .int .i64 s, .slice M m d, .slice E k g])] w6 from ⟨HL3b.out.trans (hl.bel.mono HL3b.out.size), hl.bx⟩)
        have HA14 := Lib.hid (HL6.out.aut A n c s M m d E k g HA.out)
        clear hl hau4
        have p2_0 := HL6.out.bx.at 0 rfl 0 rfl
        have p2_1 := HL6.out.bx.at 0 rfl 1 rfl
        have p2_2 := HL6.out.bx.at 0 rfl 2 rfl
        have p2_3 := HL6.out.bx.at 0 rfl 3 rfl
        have p1_0 := HL6.out.bx.at 1 rfl 0 rfl
        have p1_1 := HL6.out.bx.at 1 rfl 1 rfl
        have p1_2 := HL6.out.bx.at 1 rfl 2 rfl
        have p1_3 := HL6.out.bx.at 1 rfl 3 rfl
        have p0_0 := HL6.out.bx.at 2 rfl 0 rfl
        have p0_1 := HL6.out.bx.at 2 rfl 1 rfl
        have p0_2 := HL6.out.bx.at 2 rfl 2 rfl
        have p0_3 := HL6.out.bx.at 2 rfl 3 rfl
        have q2_0 := fun (cs : Array Value) ty => (World.cell?_alloc_lt w6 (.cells cs ty) ⟨w5.heap.size, 0, none⟩ (HL6.out.bx.lt 0 rfl)).trans p2_0
        have q2_1 := fun (cs : Array Value) ty => (World.cell?_alloc_lt w6 (.cells cs ty) ⟨w5.heap.size, 1, none⟩ (HL6.out.bx.lt 0 rfl)).trans p2_1
        have q2_2 := fun (cs : Array Value) ty => (World.cell?_alloc_lt w6 (.cells cs ty) ⟨w5.heap.size, 2, none⟩ (HL6.out.bx.lt 0 rfl)).trans p2_2
        have q2_3 := fun (cs : Array Value) ty => (World.cell?_alloc_lt w6 (.cells cs ty) ⟨w5.heap.size, 3, none⟩ (HL6.out.bx.lt 0 rfl)).trans p2_3
        have q1_0 := fun (cs : Array Value) ty => (World.cell?_alloc_lt w6 (.cells cs ty) ⟨w4.heap.size, 0, none⟩ (HL6.out.bx.lt 1 rfl)).trans p1_0
        have q1_1 := fun (cs : Array Value) ty => (World.cell?_alloc_lt w6 (.cells cs ty) ⟨w4.heap.size, 1, none⟩ (HL6.out.bx.lt 1 rfl)).trans p1_1
        have q1_2 := fun (cs : Array Value) ty => (World.cell?_alloc_lt w6 (.cells cs ty) ⟨w4.heap.size, 2, none⟩ (HL6.out.bx.lt 1 rfl)).trans p1_2
        have q1_3 := fun (cs : Array Value) ty => (World.cell?_alloc_lt w6 (.cells cs ty) ⟨w4.heap.size, 3, none⟩ (HL6.out.bx.lt 1 rfl)).trans p1_3
        have q0_0 := fun (cs : Array Value) ty => (World.cell?_alloc_lt w6 (.cells cs ty) ⟨W.heap.size, 0, none⟩ (HL6.out.bx.lt 2 rfl)).trans p0_0
        have q0_1 := fun (cs : Array Value) ty => (World.cell?_alloc_lt w6 (.cells cs ty) ⟨W.heap.size, 1, none⟩ (HL6.out.bx.lt 2 rfl)).trans p0_1
        have q0_2 := fun (cs : Array Value) ty => (World.cell?_alloc_lt w6 (.cells cs ty) ⟨W.heap.size, 2, none⟩ (HL6.out.bx.lt 2 rfl)).trans p0_2
        have q0_3 := fun (cs : Array Value) ty => (World.cell?_alloc_lt w6 (.cells cs ty) ⟨W.heap.size, 3, none⟩ (HL6.out.bx.lt 2 rfl)).trans p0_3
        have HL6n := Lib.hid (HL6.out.new [.slice A4 n4 c4, .int .i64 s4, .slice M4 m4 d4, .slice E4 k4 g4] 25)
        obtain ⟨W5, hW5⟩ : ∃ W5, W5 = w6.alloc (.cells #[.slice A4 n4 c4, .int .i64 s4, .slice M4 m4 d4, .slice E4 k4 g4] 25) := ⟨_, rfl⟩
        have HG0 := Lib.hid (show GW W w6 [(w6.heap.size, [.slice A4 n4 c4, .int .i64 s4, .slice M4 m4 d4, .slice E4 k4 g4]), (w5.heap.size, [.slice A3 n3 c3, .int .i64 s3, .slice M3 m3 d3, .slice E3 k3 g3]), (w4.heap.size, [.slice A2 n2 c2, .int .i64 s2, .slice M2 m2 d2, .slice E2 k2 g2]), (W.heap.size, [.slice A n c, .int .i64 s, .slice M m d, .slice E k g])] (w6.alloc (.cells #[.slice A4 n4 c4, .int .i64 s4, .slice M4 m4 d4, .slice E4 k4 g4] 25)) from ⟨HL6n.out, (Below.refl _ _).alloc (Nat.le_refl _) _⟩)
        have HG0d := Lib.hid HG0.out.drew
        obtain ⟨r, hr⟩ : ∃ r, r = decide (a = canA a) := ⟨_, rfl⟩
        have HRr := Lib.hid hr.symm
        have HRc := Lib.hid (show isC a = r by rw [isC_right hc0.out, hr])
        have HT := Lib.hid (show decide (canA a = canA a) = true by simp)
        have HIC := Lib.hid (isC_can hc0.out)
        have hrr : (r == r) = true := by simp
        clear p2_0 p2_1 p2_2 p2_3 p1_0 p1_1 p1_2 p1_3 p0_0 p0_1 p0_2 p0_3 q2_0 q2_1 q2_2 q2_3 q1_0 q1_1 q1_2 q1_3 q0_0 q0_1 q0_2 q0_3
        clear hr hW5
        have z0_0 := HG0.out.lw.bx.at 0 rfl 0 rfl
        have z0_1 := HG0.out.lw.bx.at 0 rfl 1 rfl
        have z0_2 := HG0.out.lw.bx.at 0 rfl 2 rfl
        have z0_3 := HG0.out.lw.bx.at 0 rfl 3 rfl
        have z1_0 := HG0.out.lw.bx.at 1 rfl 0 rfl
        have z1_1 := HG0.out.lw.bx.at 1 rfl 1 rfl
        have z1_2 := HG0.out.lw.bx.at 1 rfl 2 rfl
        have z1_3 := HG0.out.lw.bx.at 1 rfl 3 rfl
        have z2_0 := HG0.out.lw.bx.at 2 rfl 0 rfl
        have z2_1 := HG0.out.lw.bx.at 2 rfl 1 rfl
        have z2_2 := HG0.out.lw.bx.at 2 rfl 2 rfl
        have z2_3 := HG0.out.lw.bx.at 2 rfl 3 rfl
        have z3_0 := HG0.out.lw.bx.at 3 rfl 0 rfl
        have z3_1 := HG0.out.lw.bx.at 3 rfl 1 rfl
        have z3_2 := HG0.out.lw.bx.at 3 rfl 2 rfl
        have z3_3 := HG0.out.lw.bx.at 3 rfl 3 rfl
        have KS0 := Lib.hid (fun w' (hG : GW W w6 [(w6.heap.size, [.slice A4 n4 c4, .int .i64 s4, .slice M4 m4 d4, .slice E4 k4 g4]), (w5.heap.size, [.slice A3 n3 c3, .int .i64 s3, .slice M3 m3 d3, .slice E3 k3 g3]), (w4.heap.size, [.slice A2 n2 c2, .int .i64 s2, .slice M2 m2 d2, .slice E2 k2 g2]), (W.heap.size, [.slice A n c, .int .i64 s, .slice M m d, .slice E k g])] w') => gw_same A3 n3 c3 s3 M3 m3 d3 E3 k3 g3 A2 n2 c2 s2 M2 m2 d2 E2 k2 g2 hG HA34.out HA24.out HT.out)
        have KS1 := Lib.hid (fun w' (hG : GW W w6 [(w6.heap.size, [.slice A4 n4 c4, .int .i64 s4, .slice M4 m4 d4, .slice E4 k4 g4]), (w5.heap.size, [.slice A3 n3 c3, .int .i64 s3, .slice M3 m3 d3, .slice E3 k3 g3]), (w4.heap.size, [.slice A2 n2 c2, .int .i64 s2, .slice M2 m2 d2, .slice E2 k2 g2]), (W.heap.size, [.slice A n c, .int .i64 s, .slice M m d, .slice E k g])] w') => gw_same A4 n4 c4 s4 M4 m4 d4 E4 k4 g4 A3 n3 c3 s3 M3 m3 d3 E3 k3 g3 hG HA4.out HA34.out HT.out)
        have KS2 := Lib.hid (fun w' (hG : GW W w6 [(w6.heap.size, [.slice A4 n4 c4, .int .i64 s4, .slice M4 m4 d4, .slice E4 k4 g4]), (w5.heap.size, [.slice A3 n3 c3, .int .i64 s3, .slice M3 m3 d3, .slice E3 k3 g3]), (w4.heap.size, [.slice A2 n2 c2, .int .i64 s2, .slice M2 m2 d2, .slice E2 k2 g2]), (W.heap.size, [.slice A n c, .int .i64 s, .slice M m d, .slice E k g])] w') => gw_isC A3 n3 c3 s3 M3 m3 d3 E3 k3 g3 hG HA34.out HIC.out)
        have KS3 := Lib.hid (fun w' (hG : GW W w6 [(w6.heap.size, [.slice A4 n4 c4, .int .i64 s4, .slice M4 m4 d4, .slice E4 k4 g4]), (w5.heap.size, [.slice A3 n3 c3, .int .i64 s3, .slice M3 m3 d3, .slice E3 k3 g3]), (w4.heap.size, [.slice A2 n2 c2, .int .i64 s2, .slice M2 m2 d2, .slice E2 k2 g2]), (W.heap.size, [.slice A n c, .int .i64 s, .slice M m d, .slice E k g])] w') => gw_isC A n c s M m d E k g hG HA14.out HRc.out)
        have KS4 := Lib.hid (fun w' (hG : GW W w6 [(w6.heap.size, [.slice A4 n4 c4, .int .i64 s4, .slice M4 m4 d4, .slice E4 k4 g4]), (w5.heap.size, [.slice A3 n3 c3, .int .i64 s3, .slice M3 m3 d3, .slice E3 k3 g3]), (w4.heap.size, [.slice A2 n2 c2, .int .i64 s2, .slice M2 m2 d2, .slice E2 k2 g2]), (W.heap.size, [.slice A n c, .int .i64 s, .slice M m d, .slice E k g])] w') => gw_same A n c s M m d E k g A2 n2 c2 s2 M2 m2 d2 E2 k2 g2 hG HA14.out HA24.out HRr.out)
        go_wp2_with fail
        go_region_held3 (fun w' => w'.cell? ⟨w6.heap.size, 0, none⟩ = some (.slice A4 n4 c4) ∧ w'.cell? ⟨w6.heap.size, 1, none⟩ = some (.int .i64 s4) ∧ w'.cell? ⟨w6.heap.size, 2, none⟩ = some (.slice M4 m4 d4) ∧ w'.cell? ⟨w6.heap.size, 3, none⟩ = some (.slice E4 k4 g4) ∧ w'.cell? ⟨w5.heap.size, 0, none⟩ = some (.slice A3 n3 c3) ∧ w'.cell? ⟨w5.heap.size, 1, none⟩ = some (.int .i64 s3) ∧ w'.cell? ⟨w5.heap.size, 2, none⟩ = some (.slice M3 m3 d3) ∧ w'.cell? ⟨w5.heap.size, 3, none⟩ = some (.slice E3 k3 g3) ∧ w'.cell? ⟨w4.heap.size, 0, none⟩ = some (.slice A2 n2 c2) ∧ w'.cell? ⟨w4.heap.size, 1, none⟩ = some (.int .i64 s2) ∧ w'.cell? ⟨w4.heap.size, 2, none⟩ = some (.slice M2 m2 d2) ∧ w'.cell? ⟨w4.heap.size, 3, none⟩ = some (.slice E2 k2 g2) ∧ w'.cell? ⟨W.heap.size, 0, none⟩ = some (.slice A n c) ∧ w'.cell? ⟨W.heap.size, 1, none⟩ = some (.int .i64 s) ∧ w'.cell? ⟨W.heap.size, 2, none⟩ = some (.slice M m d) ∧ w'.cell? ⟨W.heap.size, 3, none⟩ = some (.slice E k g)) (first | with_reducible exact ⟨z0_0, z0_1, z0_2, z0_3, z1_0, z1_1, z1_2, z1_3, z2_0, z2_1, z2_2, z2_3, z3_0, z3_1, z3_2, z3_3⟩ | go_keep)
          (first
          | (go_simp; go_at_call 30; (first | with_reducible refine (KS0.out _ HG0.out).mono ?_ | with_reducible refine (KS0.out _ HG0d.out).mono ?_); rintro e wq ⟨rfl, hg⟩
             have HG1 := Lib.hid hg
             have HG1d := Lib.hid hg.drew
             have z0_0 := hg.lw.bx.at 0 rfl 0 rfl
             have z0_1 := hg.lw.bx.at 0 rfl 1 rfl
             have z0_2 := hg.lw.bx.at 0 rfl 2 rfl
             have z0_3 := hg.lw.bx.at 0 rfl 3 rfl
             have z1_0 := hg.lw.bx.at 1 rfl 0 rfl
             have z1_1 := hg.lw.bx.at 1 rfl 1 rfl
             have z1_2 := hg.lw.bx.at 1 rfl 2 rfl
             have z1_3 := hg.lw.bx.at 1 rfl 3 rfl
             have z2_0 := hg.lw.bx.at 2 rfl 0 rfl
             have z2_1 := hg.lw.bx.at 2 rfl 1 rfl
             have z2_2 := hg.lw.bx.at 2 rfl 2 rfl
             have z2_3 := hg.lw.bx.at 2 rfl 3 rfl
             have z3_0 := hg.lw.bx.at 3 rfl 0 rfl
             have z3_1 := hg.lw.bx.at 3 rfl 1 rfl
             have z3_2 := hg.lw.bx.at 3 rfl 2 rfl
             have z3_3 := hg.lw.bx.at 3 rfl 3 rfl
             clear hg)
          | (go_simp; go_at_call 30; (first | with_reducible refine (KS1.out _ HG1.out).mono ?_ | with_reducible refine (KS1.out _ HG1d.out).mono ?_); rintro e wq ⟨rfl, hg⟩
             have HG2 := Lib.hid hg
             have HG2d := Lib.hid hg.drew
             have z0_0 := hg.lw.bx.at 0 rfl 0 rfl
             have z0_1 := hg.lw.bx.at 0 rfl 1 rfl
             have z0_2 := hg.lw.bx.at 0 rfl 2 rfl
             have z0_3 := hg.lw.bx.at 0 rfl 3 rfl
             have z1_0 := hg.lw.bx.at 1 rfl 0 rfl
             have z1_1 := hg.lw.bx.at 1 rfl 1 rfl
             have z1_2 := hg.lw.bx.at 1 rfl 2 rfl
             have z1_3 := hg.lw.bx.at 1 rfl 3 rfl
             have z2_0 := hg.lw.bx.at 2 rfl 0 rfl
             have z2_1 := hg.lw.bx.at 2 rfl 1 rfl
             have z2_2 := hg.lw.bx.at 2 rfl 2 rfl
             have z2_3 := hg.lw.bx.at 2 rfl 3 rfl
             have z3_0 := hg.lw.bx.at 3 rfl 0 rfl
             have z3_1 := hg.lw.bx.at 3 rfl 1 rfl
             have z3_2 := hg.lw.bx.at 3 rfl 2 rfl
             have z3_3 := hg.lw.bx.at 3 rfl 3 rfl
             clear hg)
          | (go_simp; go_at_call 28; (first | with_reducible refine (KS2.out _ HG2.out).mono ?_ | with_reducible refine (KS2.out _ HG2d.out).mono ?_); rintro e wq ⟨rfl, hg⟩
             have HG3 := Lib.hid hg
             have HG3d := Lib.hid hg.drew
             have z0_0 := hg.lw.bx.at 0 rfl 0 rfl
             have z0_1 := hg.lw.bx.at 0 rfl 1 rfl
             have z0_2 := hg.lw.bx.at 0 rfl 2 rfl
             have z0_3 := hg.lw.bx.at 0 rfl 3 rfl
             have z1_0 := hg.lw.bx.at 1 rfl 0 rfl
             have z1_1 := hg.lw.bx.at 1 rfl 1 rfl
             have z1_2 := hg.lw.bx.at 1 rfl 2 rfl
             have z1_3 := hg.lw.bx.at 1 rfl 3 rfl
             have z2_0 := hg.lw.bx.at 2 rfl 0 rfl
             have z2_1 := hg.lw.bx.at 2 rfl 1 rfl
             have z2_2 := hg.lw.bx.at 2 rfl 2 rfl
             have z2_3 := hg.lw.bx.at 2 rfl 3 rfl
             have z3_0 := hg.lw.bx.at 3 rfl 0 rfl
             have z3_1 := hg.lw.bx.at 3 rfl 1 rfl
             have z3_2 := hg.lw.bx.at 3 rfl 2 rfl
             have z3_3 := hg.lw.bx.at 3 rfl 3 rfl
             clear hg)
          | (go_simp; go_at_call 28; (first | with_reducible refine (KS3.out _ HG3.out).mono ?_ | with_reducible refine (KS3.out _ HG3d.out).mono ?_); rintro e wq ⟨rfl, hg⟩
             have HG4 := Lib.hid hg
             have HG4d := Lib.hid hg.drew
             have z0_0 := hg.lw.bx.at 0 rfl 0 rfl
             have z0_1 := hg.lw.bx.at 0 rfl 1 rfl
             have z0_2 := hg.lw.bx.at 0 rfl 2 rfl
             have z0_3 := hg.lw.bx.at 0 rfl 3 rfl
             have z1_0 := hg.lw.bx.at 1 rfl 0 rfl
             have z1_1 := hg.lw.bx.at 1 rfl 1 rfl
             have z1_2 := hg.lw.bx.at 1 rfl 2 rfl
             have z1_3 := hg.lw.bx.at 1 rfl 3 rfl
             have z2_0 := hg.lw.bx.at 2 rfl 0 rfl
             have z2_1 := hg.lw.bx.at 2 rfl 1 rfl
             have z2_2 := hg.lw.bx.at 2 rfl 2 rfl
             have z2_3 := hg.lw.bx.at 2 rfl 3 rfl
             have z3_0 := hg.lw.bx.at 3 rfl 0 rfl
             have z3_1 := hg.lw.bx.at 3 rfl 1 rfl
             have z3_2 := hg.lw.bx.at 3 rfl 2 rfl
             have z3_3 := hg.lw.bx.at 3 rfl 3 rfl
             clear hg)
          | (go_simp; go_at_call 30; (first | with_reducible refine (KS4.out _ HG4.out).mono ?_ | with_reducible refine (KS4.out _ HG4d.out).mono ?_); rintro e wq ⟨rfl, hg⟩
             have HG5 := Lib.hid hg
             have HG5d := Lib.hid hg.drew
             have z0_0 := hg.lw.bx.at 0 rfl 0 rfl
             have z0_1 := hg.lw.bx.at 0 rfl 1 rfl
             have z0_2 := hg.lw.bx.at 0 rfl 2 rfl
             have z0_3 := hg.lw.bx.at 0 rfl 3 rfl
             have z1_0 := hg.lw.bx.at 1 rfl 0 rfl
             have z1_1 := hg.lw.bx.at 1 rfl 1 rfl
             have z1_2 := hg.lw.bx.at 1 rfl 2 rfl
             have z1_3 := hg.lw.bx.at 1 rfl 3 rfl
             have z2_0 := hg.lw.bx.at 2 rfl 0 rfl
             have z2_1 := hg.lw.bx.at 2 rfl 1 rfl
             have z2_2 := hg.lw.bx.at 2 rfl 2 rfl
             have z2_3 := hg.lw.bx.at 2 rfl 3 rfl
             have z3_0 := hg.lw.bx.at 3 rfl 0 rfl
             have z3_1 := hg.lw.bx.at 3 rfl 1 rfl
             have z3_2 := hg.lw.bx.at 3 rfl 2 rfl
             have z3_3 := hg.lw.bx.at 3 rfl 3 rfl
             clear hg))
        all_goals
          go_wp2_with fail
          go_ret
          exact ⟨rfl, by first | exact HG5.out.lw.bel | exact HG5d.out.lw.bel⟩
      · have hb0 : (u != 0) = true := by simp [h0]
        clear h0
        go_wp2_with fail
        refine (lw_call (HC.out _ (HL2.out.aut A n c s M m d E k g HA.out)) HL2.out).mono ?_
        rintro e w3 ⟨rfl, hl⟩
        clear p0_0 p0_1 p0_2 p0_3
        have HL3 := Lib.hid hl
        clear hl
        have p0_0 := HL3.out.bx.at 0 rfl 0 rfl
        have p0_1 := HL3.out.bx.at 0 rfl 1 rfl
        have p0_2 := HL3.out.bx.at 0 rfl 2 rfl
        have p0_3 := HL3.out.bx.at 0 rfl 3 rfl
        go_wp2_with fail
        refine (lw_call (known_any _) HL3.out).mono ?_
        rintro e w4 ⟨rfl, hl⟩
        clear p0_0 p0_1 p0_2 p0_3
        have HL4 := Lib.hid hl
        clear hl
        have p0_0 := HL4.out.bx.at 0 rfl 0 rfl
        have p0_1 := HL4.out.bx.at 0 rfl 1 rfl
        have p0_2 := HL4.out.bx.at 0 rfl 2 rfl
        have p0_3 := HL4.out.bx.at 0 rfl 3 rfl
        go_wp2_with fail
        go_ret
        exact ⟨rfl, HL4.out.bel⟩
end Go.Proofs.Ytcciiikaejjooaa
