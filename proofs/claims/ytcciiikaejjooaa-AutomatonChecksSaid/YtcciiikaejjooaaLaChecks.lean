/- The law AutomatonChecks, walked. -/
import Derived.Test.YtcciiikaejjooaaaLwE
namespace Go.Proofs.Ytcciiikaejjooaa
open Go.RowKit Go.Sort

set_option maxHeartbeats 8000000 in
set_option maxRecDepth 100000 in
theorem lawChecks (A : Option Addr) (n c : Nat) (s : Int) (M : Option Addr) (m d : Nat) (E : Option Addr) (k g : Nat) (a : Au) (W : World) (S0 : AuI W A n c s M m d E k g a) :
    Calls Try.prog 3 #[.agg #[.slice A n c, .int .i64 s, .slice M m d, .slice E k g]] W fun e W' => e = .returned (.bool true) ∧ Below W.heap.size W W' := by
  have HS0 := Lib.hid S0
  have HL0 := Lib.hid (LW.first W [.slice A n c, .int .i64 s, .slice M m d, .slice E k g] 25)
  obtain ⟨r1, hr1⟩ : ∃ r, r = fewB n m k := ⟨_, rfl⟩
  have HF := Lib.hid (few_any A n c s M m d E k g)
  rw [← hr1] at HF
  have HR1 := Lib.hid hr1
  clear S0 hr1
  go_enter Try.func3, Try.ntmps3
  go_wp2_with fail
  refine (lw_call (known_any _) HL0.out).mono ?_
  rintro e w1 ⟨rfl, hl⟩
  have HL1 := Lib.hid hl
  clear hl
  have p0_0 := HL1.out.bx.at 0 rfl 0 rfl
  have p0_1 := HL1.out.bx.at 0 rfl 1 rfl
  have p0_2 := HL1.out.bx.at 0 rfl 2 rfl
  have p0_3 := HL1.out.bx.at 0 rfl 3 rfl
  cases r1
  · go_wp2_with fail
    refine (lw_call (HF.out _) HL1.out).mono ?_
    rintro e w2 ⟨rfl, hl⟩
    clear p0_0 p0_1 p0_2 p0_3
    have HL2 := Lib.hid hl
    clear hl
    have p0_0 := HL2.out.bx.at 0 rfl 0 rfl
    have p0_1 := HL2.out.bx.at 0 rfl 1 rfl
    have p0_2 := HL2.out.bx.at 0 rfl 2 rfl
    have p0_3 := HL2.out.bx.at 0 rfl 3 rfl
    go_wp2_with fail
    refine (lw_call (known_any _) HL2.out).mono ?_
    rintro e w3 ⟨rfl, hl⟩
    clear p0_0 p0_1 p0_2 p0_3
    have HL3 := Lib.hid hl
    clear hl
    have p0_0 := HL3.out.bx.at 0 rfl 0 rfl
    have p0_1 := HL3.out.bx.at 0 rfl 1 rfl
    have p0_2 := HL3.out.bx.at 0 rfl 2 rfl
    have p0_3 := HL3.out.bx.at 0 rfl 3 rfl
    go_wp2_with fail
    go_ret
    exact ⟨rfl, HL3.out.bel⟩
  · have f1 := few_yes HR1.out.symm
    have HA := Lib.hid (HS0.out.r f1.1 f1.2.1 f1.2.2)
    obtain ⟨u, hu⟩ : ∃ u, chkE a = u := ⟨_, rfl⟩
    have HC := Lib.hid (fun w' (h : AuR w' w'.heap.size A n c s M m d E k g a) => rCheck_any A n c s M m d E k g a w'.heap.size w' h (Nat.le_refl _))
    have HM := Lib.hid (fun w' (h : AuR w' w'.heap.size A n c s M m d E k g a) => mCheck_any A n c s M m d E k g a w' h)
    rw [hu] at HC HM
    have HU := Lib.hid hu
    clear hu f1
    go_wp2_with fail
    refine (lw_call (HF.out _) HL1.out).mono ?_
    rintro e w2 ⟨rfl, hl⟩
    clear p0_0 p0_1 p0_2 p0_3
    have HL2 := Lib.hid hl
    clear hl
    have p0_0 := HL2.out.bx.at 0 rfl 0 rfl
    have p0_1 := HL2.out.bx.at 0 rfl 1 rfl
    have p0_2 := HL2.out.bx.at 0 rfl 2 rfl
    have p0_3 := HL2.out.bx.at 0 rfl 3 rfl
    go_wp2_with fail
    refine (lw_call (HC.out _ (HL2.out.aut A n c s M m d E k g HA.out)) HL2.out).mono ?_
    rintro e w3 ⟨rfl, hl⟩
    clear p0_0 p0_1 p0_2 p0_3
    have HL3 := Lib.hid hl
    clear hl
    have p0_0 := HL3.out.bx.at 0 rfl 0 rfl
    have p0_1 := HL3.out.bx.at 0 rfl 1 rfl
    have p0_2 := HL3.out.bx.at 0 rfl 2 rfl
    have p0_3 := HL3.out.bx.at 0 rfl 3 rfl
    go_wp2_with fail
    refine (lw_call (HM.out _ (HL3.out.aut A n c s M m d E k g HA.out)) HL3.out).mono ?_
    rintro e w4 ⟨rfl, hl⟩
    clear p0_0 p0_1 p0_2 p0_3
    have HL4 := Lib.hid hl
    clear hl
    have p0_0 := HL4.out.bx.at 0 rfl 0 rfl
    have p0_1 := HL4.out.bx.at 0 rfl 1 rfl
    have p0_2 := HL4.out.bx.at 0 rfl 2 rfl
    have p0_3 := HL4.out.bx.at 0 rfl 3 rfl
    by_cases h0 : u = 0
    · subst h0
      go_wp2_with fail
      go_ret
      exact ⟨rfl, HL4.out.bel⟩
    · have HN := Lib.hid (show u ≠ 0 from h0)
      have hb0 : (u == 0) = false := by simp [h0]
      clear h0
      go_wp2_with fail
      refine (x_can HU.out HN.out HA.out HL4.out).mono ?_
      rintro e w5 ⟨A2, c2, M2, d2, E2, g2, rfl, hl⟩
      clear p0_0 p0_1 p0_2 p0_3
      have HL5 := Lib.hid hl
      clear hl
      have p0_0 := HL5.out.bx.at 0 rfl 0 rfl
      have p0_1 := HL5.out.bx.at 0 rfl 1 rfl
      have p0_2 := HL5.out.bx.at 0 rfl 2 rfl
      have p0_3 := HL5.out.bx.at 0 rfl 3 rfl
      have q0_0 := fun (cs : Array Value) ty => (World.cell?_alloc_lt w5 (.cells cs ty) ⟨W.heap.size, 0, none⟩ (HL5.out.bx.lt 0 rfl)).trans p0_0
      have q0_1 := fun (cs : Array Value) ty => (World.cell?_alloc_lt w5 (.cells cs ty) ⟨W.heap.size, 1, none⟩ (HL5.out.bx.lt 0 rfl)).trans p0_1
      have q0_2 := fun (cs : Array Value) ty => (World.cell?_alloc_lt w5 (.cells cs ty) ⟨W.heap.size, 2, none⟩ (HL5.out.bx.lt 0 rfl)).trans p0_2
      have q0_3 := fun (cs : Array Value) ty => (World.cell?_alloc_lt w5 (.cells cs ty) ⟨W.heap.size, 3, none⟩ (HL5.out.bx.lt 0 rfl)).trans p0_3
      have HL5n := Lib.hid (HL5.out.new [.slice A2 0 c2, .int .i64 0, .slice M2 0 d2, .slice E2 0 g2] 25)
      go_wp2_with fail
      refine (x_step HU.out HN.out HA.out HL5n.out 0 0).mono ?_
      rintro e w6 ⟨rfl, hl⟩
      clear p0_0 p0_1 p0_2 p0_3 q0_0 q0_1 q0_2 q0_3
      have HL6 := Lib.hid hl
      clear hl
      have p1_0 := HL6.out.bx.at 0 rfl 0 rfl
      have p1_1 := HL6.out.bx.at 0 rfl 1 rfl
      have p1_2 := HL6.out.bx.at 0 rfl 2 rfl
      have p1_3 := HL6.out.bx.at 0 rfl 3 rfl
      have p0_0 := HL6.out.bx.at 1 rfl 0 rfl
      have p0_1 := HL6.out.bx.at 1 rfl 1 rfl
      have p0_2 := HL6.out.bx.at 1 rfl 2 rfl
      have p0_3 := HL6.out.bx.at 1 rfl 3 rfl
      go_wp2_with fail
      refine (x_run HU.out HN.out HA.out HL6.out 0).mono ?_
      rintro e w7 ⟨rfl, hl⟩
      clear p1_0 p1_1 p1_2 p1_3 p0_0 p0_1 p0_2 p0_3
      have HL7 := Lib.hid hl
      clear hl
      have p1_0 := HL7.out.bx.at 0 rfl 0 rfl
      have p1_1 := HL7.out.bx.at 0 rfl 1 rfl
      have p1_2 := HL7.out.bx.at 0 rfl 2 rfl
      have p1_3 := HL7.out.bx.at 0 rfl 3 rfl
      have p0_0 := HL7.out.bx.at 1 rfl 0 rfl
      have p0_1 := HL7.out.bx.at 1 rfl 1 rfl
      have p0_2 := HL7.out.bx.at 1 rfl 2 rfl
      have p0_3 := HL7.out.bx.at 1 rfl 3 rfl
      go_wp2_with fail
      refine (x_en HU.out HN.out HA.out HL7.out 0).mono ?_
      rintro e w8 ⟨A3, c3, rfl, hl⟩
      clear p1_0 p1_1 p1_2 p1_3 p0_0 p0_1 p0_2 p0_3
      have HL8 := Lib.hid hl
      clear hl
      have p1_0 := HL8.out.bx.at 0 rfl 0 rfl
      have p1_1 := HL8.out.bx.at 0 rfl 1 rfl
      have p1_2 := HL8.out.bx.at 0 rfl 2 rfl
      have p1_3 := HL8.out.bx.at 0 rfl 3 rfl
      have p0_0 := HL8.out.bx.at 1 rfl 0 rfl
      have p0_1 := HL8.out.bx.at 1 rfl 1 rfl
      have p0_2 := HL8.out.bx.at 1 rfl 2 rfl
      have p0_3 := HL8.out.bx.at 1 rfl 3 rfl
      go_wp2_with fail
      refine (x_gen HU.out HN.out HA.out HL8.out).mono ?_
      rintro e w9 ⟨rfl, hl⟩
      clear p1_0 p1_1 p1_2 p1_3 p0_0 p0_1 p0_2 p0_3
      have HL9 := Lib.hid hl
      clear hl
      have p1_0 := HL9.out.bx.at 0 rfl 0 rfl
      have p1_1 := HL9.out.bx.at 0 rfl 1 rfl
      have p1_2 := HL9.out.bx.at 0 rfl 2 rfl
      have p1_3 := HL9.out.bx.at 0 rfl 3 rfl
      have p0_0 := HL9.out.bx.at 1 rfl 0 rfl
      have p0_1 := HL9.out.bx.at 1 rfl 1 rfl
      have p0_2 := HL9.out.bx.at 1 rfl 2 rfl
      have p0_3 := HL9.out.bx.at 1 rfl 3 rfl
      go_wp2_with fail
      refine (x_acc HU.out HN.out HA.out HL9.out).mono ?_
      rintro e w10 ⟨rfl, hl⟩
      clear p1_0 p1_1 p1_2 p1_3 p0_0 p0_1 p0_2 p0_3
      have HL10 := Lib.hid hl
      clear hl
      have p1_0 := HL10.out.bx.at 0 rfl 0 rfl
      have p1_1 := HL10.out.bx.at 0 rfl 1 rfl
      have p1_2 := HL10.out.bx.at 0 rfl 2 rfl
      have p1_3 := HL10.out.bx.at 0 rfl 3 rfl
      have p0_0 := HL10.out.bx.at 1 rfl 0 rfl
      have p0_1 := HL10.out.bx.at 1 rfl 1 rfl
      have p0_2 := HL10.out.bx.at 1 rfl 2 rfl
      have p0_3 := HL10.out.bx.at 1 rfl 3 rfl
      go_wp2_with fail
      refine (x_wds HU.out HN.out HA.out HL10.out).mono ?_
      rintro e w11 ⟨A4, c4, rfl, hl⟩
      clear p1_0 p1_1 p1_2 p1_3 p0_0 p0_1 p0_2 p0_3
      have HL11 := Lib.hid hl
      clear hl
      have p1_0 := HL11.out.bx.at 0 rfl 0 rfl
      have p1_1 := HL11.out.bx.at 0 rfl 1 rfl
      have p1_2 := HL11.out.bx.at 0 rfl 2 rfl
      have p1_3 := HL11.out.bx.at 0 rfl 3 rfl
      have p0_0 := HL11.out.bx.at 1 rfl 0 rfl
      have p0_1 := HL11.out.bx.at 1 rfl 1 rfl
      have p0_2 := HL11.out.bx.at 1 rfl 2 rfl
      have p0_3 := HL11.out.bx.at 1 rfl 3 rfl
      go_wp2_with fail
      refine (x_rel HU.out HN.out HA.out HL11.out).mono ?_
      rintro e w12 ⟨A5, c5, M5, d5, E5, g5, rfl, hl⟩
      clear p1_0 p1_1 p1_2 p1_3 p0_0 p0_1 p0_2 p0_3
      have HL12 := Lib.hid hl
      clear hl
      have p1_0 := HL12.out.bx.at 0 rfl 0 rfl
      have p1_1 := HL12.out.bx.at 0 rfl 1 rfl
      have p1_2 := HL12.out.bx.at 0 rfl 2 rfl
      have p1_3 := HL12.out.bx.at 0 rfl 3 rfl
      have p0_0 := HL12.out.bx.at 1 rfl 0 rfl
      have p0_1 := HL12.out.bx.at 1 rfl 1 rfl
      have p0_2 := HL12.out.bx.at 1 rfl 2 rfl
      have p0_3 := HL12.out.bx.at 1 rfl 3 rfl
      have q1_0 := fun (cs : Array Value) ty => (World.cell?_alloc_lt w12 (.cells cs ty) ⟨w5.heap.size, 0, none⟩ (HL12.out.bx.lt 0 rfl)).trans p1_0
      have q1_1 := fun (cs : Array Value) ty => (World.cell?_alloc_lt w12 (.cells cs ty) ⟨w5.heap.size, 1, none⟩ (HL12.out.bx.lt 0 rfl)).trans p1_1
      have q1_2 := fun (cs : Array Value) ty => (World.cell?_alloc_lt w12 (.cells cs ty) ⟨w5.heap.size, 2, none⟩ (HL12.out.bx.lt 0 rfl)).trans p1_2
      have q1_3 := fun (cs : Array Value) ty => (World.cell?_alloc_lt w12 (.cells cs ty) ⟨w5.heap.size, 3, none⟩ (HL12.out.bx.lt 0 rfl)).trans p1_3
      have q0_0 := fun (cs : Array Value) ty => (World.cell?_alloc_lt w12 (.cells cs ty) ⟨W.heap.size, 0, none⟩ (HL12.out.bx.lt 1 rfl)).trans p0_0
      have q0_1 := fun (cs : Array Value) ty => (World.cell?_alloc_lt w12 (.cells cs ty) ⟨W.heap.size, 1, none⟩ (HL12.out.bx.lt 1 rfl)).trans p0_1
      have q0_2 := fun (cs : Array Value) ty => (World.cell?_alloc_lt w12 (.cells cs ty) ⟨W.heap.size, 2, none⟩ (HL12.out.bx.lt 1 rfl)).trans p0_2
      have q0_3 := fun (cs : Array Value) ty => (World.cell?_alloc_lt w12 (.cells cs ty) ⟨W.heap.size, 3, none⟩ (HL12.out.bx.lt 1 rfl)).trans p0_3
      have HL12n := Lib.hid (HL12.out.new [.slice A5 0 c5, .int .i64 0, .slice M5 0 d5, .slice E5 0 g5] 25)
      go_wp2_with fail
      refine (x_cmp HU.out HN.out HA.out HL12n.out).mono ?_
      rintro e w13 ⟨A6, c6, M6, d6, E6, g6, rfl, hl⟩
      clear p1_0 p1_1 p1_2 p1_3 p0_0 p0_1 p0_2 p0_3 q1_0 q1_1 q1_2 q1_3 q0_0 q0_1 q0_2 q0_3
      have HL13 := Lib.hid hl
      clear hl
      have p2_0 := HL13.out.bx.at 0 rfl 0 rfl
      have p2_1 := HL13.out.bx.at 0 rfl 1 rfl
      have p2_2 := HL13.out.bx.at 0 rfl 2 rfl
      have p2_3 := HL13.out.bx.at 0 rfl 3 rfl
      have p1_0 := HL13.out.bx.at 1 rfl 0 rfl
      have p1_1 := HL13.out.bx.at 1 rfl 1 rfl
      have p1_2 := HL13.out.bx.at 1 rfl 2 rfl
      have p1_3 := HL13.out.bx.at 1 rfl 3 rfl
      have p0_0 := HL13.out.bx.at 2 rfl 0 rfl
      have p0_1 := HL13.out.bx.at 2 rfl 1 rfl
      have p0_2 := HL13.out.bx.at 2 rfl 2 rfl
      have p0_3 := HL13.out.bx.at 2 rfl 3 rfl
      have q2_0 := fun (cs : Array Value) ty => (World.cell?_alloc_lt w13 (.cells cs ty) ⟨w12.heap.size, 0, none⟩ (HL13.out.bx.lt 0 rfl)).trans p2_0
      have q2_1 := fun (cs : Array Value) ty => (World.cell?_alloc_lt w13 (.cells cs ty) ⟨w12.heap.size, 1, none⟩ (HL13.out.bx.lt 0 rfl)).trans p2_1
      have q2_2 := fun (cs : Array Value) ty => (World.cell?_alloc_lt w13 (.cells cs ty) ⟨w12.heap.size, 2, none⟩ (HL13.out.bx.lt 0 rfl)).trans p2_2
      have q2_3 := fun (cs : Array Value) ty => (World.cell?_alloc_lt w13 (.cells cs ty) ⟨w12.heap.size, 3, none⟩ (HL13.out.bx.lt 0 rfl)).trans p2_3
      have q1_0 := fun (cs : Array Value) ty => (World.cell?_alloc_lt w13 (.cells cs ty) ⟨w5.heap.size, 0, none⟩ (HL13.out.bx.lt 1 rfl)).trans p1_0
      have q1_1 := fun (cs : Array Value) ty => (World.cell?_alloc_lt w13 (.cells cs ty) ⟨w5.heap.size, 1, none⟩ (HL13.out.bx.lt 1 rfl)).trans p1_1
      have q1_2 := fun (cs : Array Value) ty => (World.cell?_alloc_lt w13 (.cells cs ty) ⟨w5.heap.size, 2, none⟩ (HL13.out.bx.lt 1 rfl)).trans p1_2
      have q1_3 := fun (cs : Array Value) ty => (World.cell?_alloc_lt w13 (.cells cs ty) ⟨w5.heap.size, 3, none⟩ (HL13.out.bx.lt 1 rfl)).trans p1_3
      have q0_0 := fun (cs : Array Value) ty => (World.cell?_alloc_lt w13 (.cells cs ty) ⟨W.heap.size, 0, none⟩ (HL13.out.bx.lt 2 rfl)).trans p0_0
      have q0_1 := fun (cs : Array Value) ty => (World.cell?_alloc_lt w13 (.cells cs ty) ⟨W.heap.size, 1, none⟩ (HL13.out.bx.lt 2 rfl)).trans p0_1
      have q0_2 := fun (cs : Array Value) ty => (World.cell?_alloc_lt w13 (.cells cs ty) ⟨W.heap.size, 2, none⟩ (HL13.out.bx.lt 2 rfl)).trans p0_2
      have q0_3 := fun (cs : Array Value) ty => (World.cell?_alloc_lt w13 (.cells cs ty) ⟨W.heap.size, 3, none⟩ (HL13.out.bx.lt 2 rfl)).trans p0_3
      have HL13n := Lib.hid (HL13.out.new [.slice A6 0 c6, .int .i64 0, .slice M6 0 d6, .slice E6 0 g6] 25)
      go_wp2_with fail
      refine (x_cls HU.out HN.out HA.out HL13n.out).mono ?_
      rintro e w14 ⟨A7, c7, M7, d7, E7, g7, rfl, hl⟩
      clear p2_0 p2_1 p2_2 p2_3 p1_0 p1_1 p1_2 p1_3 p0_0 p0_1 p0_2 p0_3 q2_0 q2_1 q2_2 q2_3 q1_0 q1_1 q1_2 q1_3 q0_0 q0_1 q0_2 q0_3
      have HL14 := Lib.hid hl
      clear hl
      have p3_0 := HL14.out.bx.at 0 rfl 0 rfl
      have p3_1 := HL14.out.bx.at 0 rfl 1 rfl
      have p3_2 := HL14.out.bx.at 0 rfl 2 rfl
      have p3_3 := HL14.out.bx.at 0 rfl 3 rfl
      have p2_0 := HL14.out.bx.at 1 rfl 0 rfl
      have p2_1 := HL14.out.bx.at 1 rfl 1 rfl
      have p2_2 := HL14.out.bx.at 1 rfl 2 rfl
      have p2_3 := HL14.out.bx.at 1 rfl 3 rfl
      have p1_0 := HL14.out.bx.at 2 rfl 0 rfl
      have p1_1 := HL14.out.bx.at 2 rfl 1 rfl
      have p1_2 := HL14.out.bx.at 2 rfl 2 rfl
      have p1_3 := HL14.out.bx.at 2 rfl 3 rfl
      have p0_0 := HL14.out.bx.at 3 rfl 0 rfl
      have p0_1 := HL14.out.bx.at 3 rfl 1 rfl
      have p0_2 := HL14.out.bx.at 3 rfl 2 rfl
      have p0_3 := HL14.out.bx.at 3 rfl 3 rfl
      have q3_0 := fun (cs : Array Value) ty => (World.cell?_alloc_lt w14 (.cells cs ty) ⟨w13.heap.size, 0, none⟩ (HL14.out.bx.lt 0 rfl)).trans p3_0
      have q3_1 := fun (cs : Array Value) ty => (World.cell?_alloc_lt w14 (.cells cs ty) ⟨w13.heap.size, 1, none⟩ (HL14.out.bx.lt 0 rfl)).trans p3_1
      have q3_2 := fun (cs : Array Value) ty => (World.cell?_alloc_lt w14 (.cells cs ty) ⟨w13.heap.size, 2, none⟩ (HL14.out.bx.lt 0 rfl)).trans p3_2
      have q3_3 := fun (cs : Array Value) ty => (World.cell?_alloc_lt w14 (.cells cs ty) ⟨w13.heap.size, 3, none⟩ (HL14.out.bx.lt 0 rfl)).trans p3_3
      have q2_0 := fun (cs : Array Value) ty => (World.cell?_alloc_lt w14 (.cells cs ty) ⟨w12.heap.size, 0, none⟩ (HL14.out.bx.lt 1 rfl)).trans p2_0
      have q2_1 := fun (cs : Array Value) ty => (World.cell?_alloc_lt w14 (.cells cs ty) ⟨w12.heap.size, 1, none⟩ (HL14.out.bx.lt 1 rfl)).trans p2_1
      have q2_2 := fun (cs : Array Value) ty => (World.cell?_alloc_lt w14 (.cells cs ty) ⟨w12.heap.size, 2, none⟩ (HL14.out.bx.lt 1 rfl)).trans p2_2
      have q2_3 := fun (cs : Array Value) ty => (World.cell?_alloc_lt w14 (.cells cs ty) ⟨w12.heap.size, 3, none⟩ (HL14.out.bx.lt 1 rfl)).trans p2_3
      have q1_0 := fun (cs : Array Value) ty => (World.cell?_alloc_lt w14 (.cells cs ty) ⟨w5.heap.size, 0, none⟩ (HL14.out.bx.lt 2 rfl)).trans p1_0
      have q1_1 := fun (cs : Array Value) ty => (World.cell?_alloc_lt w14 (.cells cs ty) ⟨w5.heap.size, 1, none⟩ (HL14.out.bx.lt 2 rfl)).trans p1_1
      have q1_2 := fun (cs : Array Value) ty => (World.cell?_alloc_lt w14 (.cells cs ty) ⟨w5.heap.size, 2, none⟩ (HL14.out.bx.lt 2 rfl)).trans p1_2
      have q1_3 := fun (cs : Array Value) ty => (World.cell?_alloc_lt w14 (.cells cs ty) ⟨w5.heap.size, 3, none⟩ (HL14.out.bx.lt 2 rfl)).trans p1_3
      have q0_0 := fun (cs : Array Value) ty => (World.cell?_alloc_lt w14 (.cells cs ty) ⟨W.heap.size, 0, none⟩ (HL14.out.bx.lt 3 rfl)).trans p0_0
      have q0_1 := fun (cs : Array Value) ty => (World.cell?_alloc_lt w14 (.cells cs ty) ⟨W.heap.size, 1, none⟩ (HL14.out.bx.lt 3 rfl)).trans p0_1
      have q0_2 := fun (cs : Array Value) ty => (World.cell?_alloc_lt w14 (.cells cs ty) ⟨W.heap.size, 2, none⟩ (HL14.out.bx.lt 3 rfl)).trans p0_2
      have q0_3 := fun (cs : Array Value) ty => (World.cell?_alloc_lt w14 (.cells cs ty) ⟨W.heap.size, 3, none⟩ (HL14.out.bx.lt 3 rfl)).trans p0_3
      have HL14n := Lib.hid (HL14.out.new [.slice A7 0 c7, .int .i64 0, .slice M7 0 d7, .slice E7 0 g7] 25)
      go_wp2_with fail
      refine (lw_call (none_zero A2 c2 M2 d2 E2 g2 _) HL14n.out).mono ?_
      rintro e w15 ⟨rfl, hl⟩
      clear p3_0 p3_1 p3_2 p3_3 p2_0 p2_1 p2_2 p2_3 p1_0 p1_1 p1_2 p1_3 p0_0 p0_1 p0_2 p0_3 q3_0 q3_1 q3_2 q3_3 q2_0 q2_1 q2_2 q2_3 q1_0 q1_1 q1_2 q1_3 q0_0 q0_1 q0_2 q0_3
      have HL15 := Lib.hid hl
      clear hl
      have p4_0 := HL15.out.bx.at 0 rfl 0 rfl
      have p4_1 := HL15.out.bx.at 0 rfl 1 rfl
      have p4_2 := HL15.out.bx.at 0 rfl 2 rfl
      have p4_3 := HL15.out.bx.at 0 rfl 3 rfl
      have p3_0 := HL15.out.bx.at 1 rfl 0 rfl
      have p3_1 := HL15.out.bx.at 1 rfl 1 rfl
      have p3_2 := HL15.out.bx.at 1 rfl 2 rfl
      have p3_3 := HL15.out.bx.at 1 rfl 3 rfl
      have p2_0 := HL15.out.bx.at 2 rfl 0 rfl
      have p2_1 := HL15.out.bx.at 2 rfl 1 rfl
      have p2_2 := HL15.out.bx.at 2 rfl 2 rfl
      have p2_3 := HL15.out.bx.at 2 rfl 3 rfl
      have p1_0 := HL15.out.bx.at 3 rfl 0 rfl
      have p1_1 := HL15.out.bx.at 3 rfl 1 rfl
      have p1_2 := HL15.out.bx.at 3 rfl 2 rfl
      have p1_3 := HL15.out.bx.at 3 rfl 3 rfl
      have p0_0 := HL15.out.bx.at 4 rfl 0 rfl
      have p0_1 := HL15.out.bx.at 4 rfl 1 rfl
      have p0_2 := HL15.out.bx.at 4 rfl 2 rfl
      have p0_3 := HL15.out.bx.at 4 rfl 3 rfl
      go_wp2_with fail
      refine (lw_call (none_zero A5 c5 M5 d5 E5 g5 _) HL15.out).mono ?_
      rintro e w16 ⟨rfl, hl⟩
      clear p4_0 p4_1 p4_2 p4_3 p3_0 p3_1 p3_2 p3_3 p2_0 p2_1 p2_2 p2_3 p1_0 p1_1 p1_2 p1_3 p0_0 p0_1 p0_2 p0_3
      have HL16 := Lib.hid hl
      clear hl
      have p4_0 := HL16.out.bx.at 0 rfl 0 rfl
      have p4_1 := HL16.out.bx.at 0 rfl 1 rfl
      have p4_2 := HL16.out.bx.at 0 rfl 2 rfl
      have p4_3 := HL16.out.bx.at 0 rfl 3 rfl
      have p3_0 := HL16.out.bx.at 1 rfl 0 rfl
      have p3_1 := HL16.out.bx.at 1 rfl 1 rfl
      have p3_2 := HL16.out.bx.at 1 rfl 2 rfl
      have p3_3 := HL16.out.bx.at 1 rfl 3 rfl
      have p2_0 := HL16.out.bx.at 2 rfl 0 rfl
      have p2_1 := HL16.out.bx.at 2 rfl 1 rfl
      have p2_2 := HL16.out.bx.at 2 rfl 2 rfl
      have p2_3 := HL16.out.bx.at 2 rfl 3 rfl
      have p1_0 := HL16.out.bx.at 3 rfl 0 rfl
      have p1_1 := HL16.out.bx.at 3 rfl 1 rfl
      have p1_2 := HL16.out.bx.at 3 rfl 2 rfl
      have p1_3 := HL16.out.bx.at 3 rfl 3 rfl
      have p0_0 := HL16.out.bx.at 4 rfl 0 rfl
      have p0_1 := HL16.out.bx.at 4 rfl 1 rfl
      have p0_2 := HL16.out.bx.at 4 rfl 2 rfl
      have p0_3 := HL16.out.bx.at 4 rfl 3 rfl
      go_wp2_with fail
      refine (lw_call (none_zero A6 c6 M6 d6 E6 g6 _) HL16.out).mono ?_
      rintro e w17 ⟨rfl, hl⟩
      clear p4_0 p4_1 p4_2 p4_3 p3_0 p3_1 p3_2 p3_3 p2_0 p2_1 p2_2 p2_3 p1_0 p1_1 p1_2 p1_3 p0_0 p0_1 p0_2 p0_3
      have HL17 := Lib.hid hl
      clear hl
      have p4_0 := HL17.out.bx.at 0 rfl 0 rfl
      have p4_1 := HL17.out.bx.at 0 rfl 1 rfl
      have p4_2 := HL17.out.bx.at 0 rfl 2 rfl
      have p4_3 := HL17.out.bx.at 0 rfl 3 rfl
      have p3_0 := HL17.out.bx.at 1 rfl 0 rfl
      have p3_1 := HL17.out.bx.at 1 rfl 1 rfl
      have p3_2 := HL17.out.bx.at 1 rfl 2 rfl
      have p3_3 := HL17.out.bx.at 1 rfl 3 rfl
      have p2_0 := HL17.out.bx.at 2 rfl 0 rfl
      have p2_1 := HL17.out.bx.at 2 rfl 1 rfl
      have p2_2 := HL17.out.bx.at 2 rfl 2 rfl
      have p2_3 := HL17.out.bx.at 2 rfl 3 rfl
      have p1_0 := HL17.out.bx.at 3 rfl 0 rfl
      have p1_1 := HL17.out.bx.at 3 rfl 1 rfl
      have p1_2 := HL17.out.bx.at 3 rfl 2 rfl
      have p1_3 := HL17.out.bx.at 3 rfl 3 rfl
      have p0_0 := HL17.out.bx.at 4 rfl 0 rfl
      have p0_1 := HL17.out.bx.at 4 rfl 1 rfl
      have p0_2 := HL17.out.bx.at 4 rfl 2 rfl
      have p0_3 := HL17.out.bx.at 4 rfl 3 rfl
      go_wp2_with fail
      refine (lw_call (none_zero A7 c7 M7 d7 E7 g7 _) HL17.out).mono ?_
      rintro e w18 ⟨rfl, hl⟩
      clear p4_0 p4_1 p4_2 p4_3 p3_0 p3_1 p3_2 p3_3 p2_0 p2_1 p2_2 p2_3 p1_0 p1_1 p1_2 p1_3 p0_0 p0_1 p0_2 p0_3
      have HL18 := Lib.hid hl
      clear hl
      have p4_0 := HL18.out.bx.at 0 rfl 0 rfl
      have p4_1 := HL18.out.bx.at 0 rfl 1 rfl
      have p4_2 := HL18.out.bx.at 0 rfl 2 rfl
      have p4_3 := HL18.out.bx.at 0 rfl 3 rfl
      have p3_0 := HL18.out.bx.at 1 rfl 0 rfl
      have p3_1 := HL18.out.bx.at 1 rfl 1 rfl
      have p3_2 := HL18.out.bx.at 1 rfl 2 rfl
      have p3_3 := HL18.out.bx.at 1 rfl 3 rfl
      have p2_0 := HL18.out.bx.at 2 rfl 0 rfl
      have p2_1 := HL18.out.bx.at 2 rfl 1 rfl
      have p2_2 := HL18.out.bx.at 2 rfl 2 rfl
      have p2_3 := HL18.out.bx.at 2 rfl 3 rfl
      have p1_0 := HL18.out.bx.at 3 rfl 0 rfl
      have p1_1 := HL18.out.bx.at 3 rfl 1 rfl
      have p1_2 := HL18.out.bx.at 3 rfl 2 rfl
      have p1_3 := HL18.out.bx.at 3 rfl 3 rfl
      have p0_0 := HL18.out.bx.at 4 rfl 0 rfl
      have p0_1 := HL18.out.bx.at 4 rfl 1 rfl
      have p0_2 := HL18.out.bx.at 4 rfl 2 rfl
      have p0_3 := HL18.out.bx.at 4 rfl 3 rfl
      go_wp2_with fail
      refine (x_isC HU.out HN.out HA.out HL18.out).mono ?_
      rintro e w19 ⟨rfl, hl⟩
      clear p4_0 p4_1 p4_2 p4_3 p3_0 p3_1 p3_2 p3_3 p2_0 p2_1 p2_2 p2_3 p1_0 p1_1 p1_2 p1_3 p0_0 p0_1 p0_2 p0_3
      have HL19 := Lib.hid hl
      clear hl
      have p4_0 := HL19.out.bx.at 0 rfl 0 rfl
      have p4_1 := HL19.out.bx.at 0 rfl 1 rfl
      have p4_2 := HL19.out.bx.at 0 rfl 2 rfl
      have p4_3 := HL19.out.bx.at 0 rfl 3 rfl
      have p3_0 := HL19.out.bx.at 1 rfl 0 rfl
      have p3_1 := HL19.out.bx.at 1 rfl 1 rfl
      have p3_2 := HL19.out.bx.at 1 rfl 2 rfl
      have p3_3 := HL19.out.bx.at 1 rfl 3 rfl
      have p2_0 := HL19.out.bx.at 2 rfl 0 rfl
      have p2_1 := HL19.out.bx.at 2 rfl 1 rfl
      have p2_2 := HL19.out.bx.at 2 rfl 2 rfl
      have p2_3 := HL19.out.bx.at 2 rfl 3 rfl
      have p1_0 := HL19.out.bx.at 3 rfl 0 rfl
      have p1_1 := HL19.out.bx.at 3 rfl 1 rfl
      have p1_2 := HL19.out.bx.at 3 rfl 2 rfl
      have p1_3 := HL19.out.bx.at 3 rfl 3 rfl
      have p0_0 := HL19.out.bx.at 4 rfl 0 rfl
      have p0_1 := HL19.out.bx.at 4 rfl 1 rfl
      have p0_2 := HL19.out.bx.at 4 rfl 2 rfl
      have p0_3 := HL19.out.bx.at 4 rfl 3 rfl
      go_wp2_with fail
      go_ret
      exact ⟨rfl, HL19.out.bel⟩
end Go.Proofs.Ytcciiikaejjooaa
