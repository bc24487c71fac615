/- Texts merged: what follows were texts of their own. -/
import Derived.Test.YtedleffmbddccaaDoorZa7
import Derived.Test.YtedleffmbddccaaDoorZa5
import Derived.Test.YtedleffmbddccaaDoorZa2
import Derived.ProofKit
import Derived.OpenShut
import Derived.ShutString
import Derived.ChangeOld
import Derived.Below
import Derived.Deep.Slices
import Derived.Deep.Fields
import Derived.Test.YtedleffmbddccaaDoorZa4
import Derived.Deep.RegionHeld3
set_option linter.unusedVariables false
set_option linter.unusedSimpArgs false
set_option linter.unusedSectionVars false
/- Layer 6: the examples of the chapter hold. -/
namespace Go.Proofs.YtedleffmbddccaaDoor
open Go.RowKit Go.Sort

def twoP : Au := ⟨[0, 1, 2], 4, [0], [⟨0, 0, 1⟩, ⟨1, 1, 2⟩, ⟨2, 0, 3⟩, ⟨2, 2, 0⟩, ⟨3, 2, 1⟩]⟩
theorem lit_au (u : World) : AuR (((u.alloc (.cells #[.int .i64 0, .int .i64 1, .int .i64 2] 3)).alloc (.cells #[.int .i64 0] 3)).alloc (.cells #[.int .i64 0, .int .i64 0, .int .i64 1, .int .i64 1, .int .i64 1, .int .i64 2, .int .i64 2, .int .i64 0, .int .i64 3, .int .i64 2, .int .i64 2, .int .i64 0, .int .i64 3, .int .i64 2, .int .i64 1] 58))
    (((u.alloc (.cells #[.int .i64 0, .int .i64 1, .int .i64 2] 3)).alloc (.cells #[.int .i64 0] 3)).alloc (.cells #[.int .i64 0, .int .i64 0, .int .i64 1, .int .i64 1, .int .i64 1, .int .i64 2, .int .i64 2, .int .i64 0, .int .i64 3, .int .i64 2, .int .i64 2, .int .i64 0, .int .i64 3, .int .i64 2, .int .i64 1] 58)).heap.size
    (some ⟨u.heap.size, 0, none⟩) 3 3 4 (some ⟨u.heap.size + 1, 0, none⟩) 1 1 (some ⟨u.heap.size + 1 + 1, 0, none⟩) 5 5 twoP := by
  refine au_rows' (a := twoP) ?_ ?_ ?_ rfl rfl rfl rfl (by omega) (by omega) (by omega)
  · exact ((Row.newAt u [.int .i64 0, .int .i64 1, .int .i64 2] 3 rfl).alloc _).alloc _
  · exact (Row.newAt _ [.int .i64 0] 3 (by simp)).alloc _
  · exact Row.newAt _ (encE twoP.ed) 58 (by simp)
theorem lits_rdw (u : World) (g : Nat) (hg : u.heap.size = g) : RdW (((((u.alloc (.cells #[.int .i64 0, .int .i64 0] 3)).alloc (.cells #[.int .i64 1, .int .i64 0] 3)).alloc (.cells #[.int .i64 0, .int .i64 1] 3)).alloc (.cells #[.int .i64 1, .int .i64 1] 3)).alloc (.cells #[.slice (some ⟨g, 0, none⟩) 2 2, .slice (some ⟨g + 1, 0, none⟩) 2 2, .slice (some ⟨g + 1 + 1, 0, none⟩) 2 2, .slice (some ⟨g + 1 + 1 + 1, 0, none⟩) 2 2] 27))
    (((((u.alloc (.cells #[.int .i64 0, .int .i64 0] 3)).alloc (.cells #[.int .i64 1, .int .i64 0] 3)).alloc (.cells #[.int .i64 0, .int .i64 1] 3)).alloc (.cells #[.int .i64 1, .int .i64 1] 3)).alloc (.cells #[.slice (some ⟨g, 0, none⟩) 2 2, .slice (some ⟨g + 1, 0, none⟩) 2 2, .slice (some ⟨g + 1 + 1, 0, none⟩) 2 2, .slice (some ⟨g + 1 + 1 + 1, 0, none⟩) 2 2] 27)).heap.size
    (some ⟨g + 1 + 1 + 1 + 1, 0, none⟩) [[0, 0], [1, 0], [0, 1], [1, 1]] := by
  subst hg
  have R := Row.newAt ((((u.alloc (.cells #[.int .i64 0, .int .i64 0] 3)).alloc (.cells #[.int .i64 1, .int .i64 0] 3)).alloc (.cells #[.int .i64 0, .int .i64 1] 3)).alloc (.cells #[.int .i64 1, .int .i64 1] 3)) [.slice (some ⟨u.heap.size, 0, none⟩) 2 2, .slice (some ⟨u.heap.size + 1, 0, none⟩) 2 2, .slice (some ⟨u.heap.size + 1 + 1, 0, none⟩) 2 2, .slice (some ⟨u.heap.size + 1 + 1 + 1, 0, none⟩) 2 2] 27 (g := u.heap.size + 1 + 1 + 1 + 1) (by simp)
  intro _
  refine ⟨_, 0, rfl, R.lt, fun j hj => ?_⟩
  match j, hj with
  | 0, _ => exact ⟨_, 2, R.cell 0 rfl, Row.rd (zs := [0, 0]) (((((Row.newAt u [.int .i64 0, .int .i64 0] 3 rfl).alloc _).alloc _).alloc _).alloc _), Nat.le_refl _, by omega⟩
  | 1, _ => exact ⟨_, 2, R.cell 1 rfl, Row.rd (zs := [1, 0]) ((((Row.newAt _ [.int .i64 1, .int .i64 0] 3 (by simp)).alloc _).alloc _).alloc _), Nat.le_refl _, by omega⟩
  | 2, _ => exact ⟨_, 2, R.cell 2 rfl, Row.rd (zs := [0, 1]) (((Row.newAt _ [.int .i64 0, .int .i64 1] 3 (by simp)).alloc _).alloc _), Nat.le_refl _, by omega⟩
  | 3, _ => exact ⟨_, 2, R.cell 3 rfl, Row.rd (zs := [1, 1]) ((Row.newAt _ [.int .i64 1, .int .i64 1] 3 (by simp)).alloc _), Nat.le_refl _, by omega⟩
  | j + 4, hj => simp at hj; omega

set_option maxHeartbeats 8000000 in
set_option maxRecDepth 100000 in
theorem known_any (w : World) (hT : TabAt 0 Lib.deBruijn32tab w) (hz : 0 < w.heap.size) : Calls Tryd.prog 13 #[] w fun e w' => e = .returned (.bool true) ∧ Below w.heap.size w w' := by
  have HTW := Lib.hid (fun W => two_any W)
  have HTB := Lib.hid (fun W (hW : Below w.heap.size w W) => tab_below hT hW hz)
  have HZ := Lib.hid hz
  clear hT hz
  go_enter Tryd.func13, Tryd.ntmps13
  go_wp2_with fail
  refine (HTW.out w).mono ?_
  rintro e w1 ⟨A1, rfl, hA1, hb1⟩
  have HS := Lib.hid (pSync_any A1 2 2 twoL w1 hA1 rfl)
  rw [two_syn] at HS
  have HB1 := Lib.hid hb1
  clear hA1 hb1
  go_wp2_with fail
  refine HS.out.mono ?_
  rintro e w2 ⟨v, vt, hs, rfl, hau, hTL, hmap, hb2⟩
  obtain ⟨At, ct, rfl, hrw⟩ := hTL.rdw
  rw [hmap] at hrw
  have hlen : hs.length = 4 := by have := congrArg List.length hmap; simpa using this
  rw [hlen]
  obtain ⟨A, n, c, s, M, m, d, E, k, g, rfl, hr, _⟩ := hau
  have HB2 := Lib.hid (HB1.out.trans (hb2.mono HB1.out.size))
  have HR2 := Lib.hid hr
  have HW2 := Lib.hid hrw
  have HBX := Lib.hid (Row.new w2 [.slice A n c, .int .i64 s, .slice M m d, .slice E k g] 34)
  have HB3 := Lib.hid ((Below.refl w2.heap.size w2).alloc (Nat.le_refl _) (.cells #[.slice A n c, .int .i64 s, .slice M m d, .slice E k g] 34))
  obtain ⟨b1, hb1⟩ : ∃ b1, b1 = w2.heap.size := ⟨_, rfl⟩
  clear hTL hmap hlen hb2 hr hrw HS HB1
  go_wp2_with fail
  refine (HTW.out _).mono ?_
  rintro e w4 ⟨A4, rfl, hA4, hb4⟩
  have HB4 := Lib.hid (HB3.out.trans (hb4.mono HB3.out.size))
  have HBX4 := Lib.hid (HBX.out.below hb4 HBX.out.lt)
  have HA4 := Lib.hid hA4
  clear hA4 hb4 HBX HB3
  have HB5 := Lib.hid (HB2.out.trans (HB4.out.mono HB2.out.size))
  have HR00 := Lib.hid (Row.new w4 [.int .i64 0, .int .i64 0] 3)
  have HB4a := Lib.hid ((Below.refl w4.heap.size w4).alloc (Nat.le_refl _) (.cells #[.int .i64 0, .int .i64 0] 3))
  have HRf := Lib.hid (pRefusers_any A4 2 2 twoL (some ⟨w4.heap.size, 0, none⟩) 2 2 [0, 0] 2 (w4.alloc (.cells #[.int .i64 0, .int .i64 0] 3)) ((HA4.out.below HB4a.out (Nat.le_refl _)).more HB4a.out.size) rfl (Row.rd (zs := [0, 0]) HR00.out) rfl (HTB.out _ (HB5.out.alloc HB5.out.size _)) (by simp))
  rw [two_ref, two_cs] at HRf
  go_wp2_with fail
  refine HRf.out.mono ?_
  rintro e w5 ⟨A5, c5, rfl, hr5, hb5, _, _⟩
  have HB6 := Lib.hid (HB4.out.trans ((HB4a.out.trans (hb5.mono HB4a.out.size)).mono HB4.out.size))
  have HBX5 := Lib.hid ((HBX4.out.alloc _).below hb5 (HBX4.out.alloc (.cells #[.int .i64 0, .int .i64 0] 3)).lt)
  have HL5 := Lib.hid hr5
  clear hr5 hb5 HR00 HB4a HRf HB4 HBX4 HA4 HB5
  have HCo := Lib.hid (pCompose_any none 0 0 [] w5 (fun h => absurd h (by simp)) rfl)
  rw [nil_syn] at HCo
  go_wp2_with fail
  refine HCo.out.mono ?_
  rintro e w6 ⟨v6, rfl, hau6, hb6⟩
  obtain ⟨A6, n6, c6, s6, M6, m6, d6, E6, k6, g6, rfl, hr6, _⟩ := hau6
  have hs6 := hr6.st
  have hm6 := hr6.hm
  simp only [List.length_cons, List.length_nil] at hm6
  obtain rfl : s6 = 1 := hs6.symm
  obtain rfl : m6 = 1 := by omega
  have HB7 := Lib.hid (HB6.out.trans (hb6.mono HB6.out.size))
  have HBX6 := Lib.hid (HBX5.out.below hb6 HBX5.out.lt)
  have HL6 := Lib.hid ((HL5.out.below hb6 (Nat.le_refl _)).more hb6.size)
  have HM6 := Lib.hid hr6.mr
  have HBO := Lib.hid (Row.new w6 [.slice A6 n6 c6, .int .i64 1, .slice M6 1 d6, .slice E6 k6 g6] 34)
  clear hs6 hr6 hb6 HB6 HBX5 HL5 HCo
  obtain ⟨o6, ho6⟩ : ∃ o6, o6 = Obj.cells #[.slice A6 n6 c6, .int .i64 1, .slice M6 1 d6, .slice E6 k6 g6] 34 := ⟨_, rfl⟩
  have HO6 := Lib.hid ho6
  have HLit := Lib.hid (lits_rdw (w6.alloc o6) (w6.heap.size + 1) (by simp))
  have HBa := Lib.hid ((((((Below.refl w6.heap.size w6).alloc (Nat.le_refl _) o6).alloc (by simp) (.cells #[.int .i64 0, .int .i64 0] 3)).alloc (by simp; omega) (.cells #[.int .i64 1, .int .i64 0] 3)).alloc (by simp; omega) (.cells #[.int .i64 0, .int .i64 1] 3)).alloc (by simp; omega) (.cells #[.int .i64 1, .int .i64 1] 3))
  have HBb := Lib.hid (HBa.out.alloc (by simp; omega) (.cells #[.slice (some ⟨w6.heap.size + 1, 0, none⟩) 2 2, .slice (some ⟨w6.heap.size + 1 + 1, 0, none⟩) 2 2, .slice (some ⟨w6.heap.size + 1 + 1 + 1, 0, none⟩) 2 2, .slice (some ⟨w6.heap.size + 1 + 1 + 1 + 1, 0, none⟩) 2 2] 27))
  have HRO := Lib.hid (((((HBO.out.alloc (.cells #[.int .i64 0, .int .i64 0] 3)).alloc (.cells #[.int .i64 1, .int .i64 0] 3)).alloc (.cells #[.int .i64 0, .int .i64 1] 3)).alloc (.cells #[.int .i64 1, .int .i64 1] 3)).alloc (.cells #[.slice (some ⟨w6.heap.size + 1, 0, none⟩) 2 2, .slice (some ⟨w6.heap.size + 1 + 1, 0, none⟩) 2 2, .slice (some ⟨w6.heap.size + 1 + 1 + 1, 0, none⟩) 2 2, .slice (some ⟨w6.heap.size + 1 + 1 + 1 + 1, 0, none⟩) 2 2] 27))
  rw [show #[Value.slice A6 n6 c6, .int .i64 1, .slice M6 1 d6, .slice E6 k6 g6] = [Value.slice A6 n6 c6, .int .i64 1, .slice M6 1 d6, .slice E6 k6 g6].toArray from rfl] at ho6
  rw [← ho6] at HRO
  subst ho6
  clear HBa HO6
  have HSA := Lib.hid (sameAll_any At (some ⟨w6.heap.size + 1 + 1 + 1 + 1 + 1, 0, none⟩) 4 4 ct 4 _ _ _ (((HW2.out.below HB7.out (Nat.le_refl _)).more HB7.out.size).below HBb.out (Nat.le_refl _) |>.more HBb.out.size) HLit.out rfl rfl (by omega) (by omega) (by decide) (by decide))
  go_wp2_with fail
  refine HSA.out.mono ?_
  rintro e w7 ⟨rfl, q7, rfl⟩
  have HBc := Lib.hid (below_drewN HBb.out q7)
  have HBX7 := Lib.hid (HBX6.out.below HBc.out HBX6.out.lt)
  have HRO7 := Lib.hid (HRO.out.drewN q7)
  have HB8 := Lib.hid (HB7.out.trans (HBc.out.mono HB7.out.size))
  have HR7 := Lib.hid ((HR2.out.below HB8.out (Nat.le_refl _)).more HB8.out.size)
  have HL7 := Lib.hid ((HL6.out.below HBc.out (Nat.le_refl _)).more HBc.out.size)
  have HM7 := Lib.hid ((HM6.out.below HBc.out (Nat.le_refl _)).more HBc.out.size)
  clear HBb HRO HLit HSA HBc HBX6 HB7 HR2 HW2 HL6 HM6 HBO
  generalize World.drewN _ q7 = w7 at *
  have p0 := HBX7.out.cell 0 rfl
  have p1 := HBX7.out.cell 1 rfl
  have p2 := HBX7.out.cell 2 rfl
  have p3 := HBX7.out.cell 3 rfl
  rw [show decide True = true from rfl]
  go_wp2_with fail
  have HLA := Lib.hid (lit_au w7)
  have HBd := Lib.hid ((((Below.refl w7.heap.size w7).alloc (Nat.le_refl _) (.cells #[.int .i64 0, .int .i64 1, .int .i64 2] 3)).alloc (by simp) (.cells #[.int .i64 0] 3)).alloc (by simp; omega) (.cells #[.int .i64 0, .int .i64 0, .int .i64 1, .int .i64 1, .int .i64 1, .int .i64 2, .int .i64 2, .int .i64 0, .int .i64 3, .int .i64 2, .int .i64 2, .int .i64 0, .int .i64 3, .int .i64 2, .int .i64 1] 58))
  refine (mEqual_any A n c s M m d E k g (some ⟨w7.heap.size, 0, none⟩) 3 3 4 (some ⟨w7.heap.size + 1, 0, none⟩) 1 1 (some ⟨w7.heap.size + 1 + 1, 0, none⟩) 5 5 twoP twoP _ _ ((HR7.out.below HBd.out (Nat.le_refl _)).more HBd.out.size) HLA.out (Nat.le_refl _)).mono ?_
  rintro e w9 ⟨rfl, hb9⟩
  have HB9 := Lib.hid (HBd.out.trans (hb9.mono HBd.out.size))
  have HRO9 := Lib.hid (HRO7.out.below HB9.out HRO7.out.lt)
  have HB10 := Lib.hid (HB8.out.trans (HB9.out.mono HB8.out.size))
  have HL9 := Lib.hid ((HL7.out.below HB9.out (Nat.le_refl _)).more HB9.out.size)
  have HM9 := Lib.hid ((HM7.out.below HB9.out (Nat.le_refl _)).more HB9.out.size)
  clear p0 p1 p2 p3 hb9 HBd HLA HB9 HRO7 HB8 HL7 HM7 HR7 HBX7
  rw [show decide (twoP = twoP) = true from decide_eq_true rfl]
  have HBe := Lib.hid ((Below.refl w9.heap.size w9).alloc (Nat.le_refl _) (.cells #[.int .i64 1] 3))
  have HSm := Lib.hid (l6same_any A5 (some ⟨w9.heap.size, 0, none⟩) 1 1 c5 1 _ _ [1] [1] (w9.alloc (.cells #[.int .i64 1] 3)) ((HL9.out.below HBe.out (Nat.le_refl _)).more HBe.out.size) (Row.rd (zs := [1]) (Row.new w9 [.int .i64 1] 3)) rfl rfl (by omega) (by omega))
  go_wp2_with fail
  refine HSm.out.mono ?_
  rintro e w10 ⟨rfl, q10, rfl⟩
  have HBf := Lib.hid (below_drewN HBe.out q10)
  have HRO10 := Lib.hid (HRO9.out.below HBf.out HRO9.out.lt)
  have HB11 := Lib.hid (HB10.out.trans (HBf.out.mono HB10.out.size))
  have HM10 := Lib.hid ((HM9.out.below HBf.out (Nat.le_refl _)).more HBf.out.size)
  clear HSm HBe HBf HRO9 HB10 HL9 HM9
  generalize World.drewN _ q10 = w10 at *
  have r1 := HRO10.out.cell 1 rfl
  have r2 := HRO10.out.cell 2 rfl
  rw [show decide True = true from rfl]
  have HBg := Lib.hid ((Below.refl w10.heap.size w10).alloc (Nat.le_refl _) (.cells #[.int .i64 0] 3))
  have HSn := Lib.hid (l6same_any M6 (some ⟨w10.heap.size, 0, none⟩) 1 1 d6 1 _ _ [0] [0] (w10.alloc (.cells #[.int .i64 0] 3)) ((HM10.out.below HBg.out (Nat.le_refl _)).more HBg.out.size) (Row.rd (zs := [0]) (Row.new w10 [.int .i64 0] 3)) rfl rfl (by omega) (by omega))
  go_wp2_with fail
  refine HSn.out.mono ?_
  rintro e w11 ⟨rfl, q11, rfl⟩
  have HBh := Lib.hid (below_drewN HBg.out q11)
  have HB12 := Lib.hid (HB2.out.trans ((HB11.out.trans (HBh.out.mono HB11.out.size)).mono HB2.out.size))
  clear HSn HBg HBh HRO10 HB11 HM10 r1 r2
  generalize World.drewN _ q11 = w11 at *
  rw [show decide True = true from rfl]
  go_wp2_with fail
  go_ret
  exact ⟨rfl, HB12.out⟩
end Go.Proofs.YtedleffmbddccaaDoor

/- Layer 3: what is told of arguments that came in: an automaton, a slice of ints. -/
namespace Go.Proofs.YtedleffmbddccaaDoor
open Go.ChangeShapes Go.WideShapes Go.ChangeAt Go.RowKit Go.Deep
open Go.ChangeMaps (open_string shut_string)

theorem own : ownKnob Tryd.prog.godebug = none := by kernel_rfl
theorem laidOut : laidOutB Tryd.prog = true := by kernel_rfl

/-- A slice of ints that came in. -/
structure SlI (W : World) (v : Value) (A : Option Addr) (n c : Nat) (zs : List Int) : Prop where
  eq : v = .slice A n c
  len : zs.length = n
  rd : RdI W W.heap.size A zs
  wf : ∀ z ∈ zs, (Lit.int .i64 z).wf = true
  cap : n ≤ c
  top : c ≤ 9223372036854775807

section
variable {H : Type} {enc : TypeId × Value → H} {W : World} {a0 : Option Addr} {len cap : Nat} {d : DataW H} {p : List MemPlace}

set_option maxRecDepth 8000 in
theorem open_rdI (h : DataW.Trod enc Tryd.prog W 0 (fun _ => true) true 27 (.slice a0 len cap) d p) (hlt : ∀ x ∈ p, x.block < W.heap.size) :
    ∃ zs : List Int, zs.length = len ∧ RdI W W.heap.size a0 zs ∧ (∀ z ∈ zs, (Lit.int .i64 z).wf = true) ∧ len ≤ maxLen := by
  obtain ⟨fuel, hf⟩ := h
  rcases open_ints Tryd.underlying27 Tryd.underlying3 (by kernel_rfl) hf with ⟨hcs, _⟩ | ⟨a, l, c, zs, hcs, _, hl, hm, hz, hx, hcell, hwz⟩
  · simp [Value.cells] at hcs
    obtain ⟨rfl, rfl, rfl⟩ := hcs
    exact ⟨[], rfl, RdI.nil _ _ _, by simp, by unfold maxLen; omega⟩
  · simp [Value.cells] at hcs
    obtain ⟨rfl, rfl, rfl⟩ := hcs
    simp only [Prod.mk.injEq] at hx
    obtain ⟨rfl, rfl⟩ := hx
    simp only [if_true] at hz
    refine ⟨zs.take len, by rw [List.length_take]; omega, fun h0 => ?_, fun z hz' => hwz z (List.mem_of_mem_take hz'), by omega⟩
    rw [List.length_take] at h0
    obtain ⟨b, off, spot⟩ := a
    have hspot : spot = none := by simpa [Addr.add] using World.cell?_spot (hcell 0 (by omega))
    subst hspot
    refine ⟨b, off, rfl, hlt (.cell b off) (MemPlace.mem_row.2 ⟨0, by omega, by simp⟩), fun j hj => ?_⟩
    rw [List.length_take] at hj
    rw [← add_plain, hcell j (by omega)]
    simp [List.getD, show j < len by omega]

set_option maxRecDepth 8000 in
theorem open_rdG (h : DataW.Trod enc Tryd.prog W 0 (fun _ => true) true 32 (.slice a0 len cap) d p) (hlt : ∀ x ∈ p, x.block < W.heap.size) :
    ∃ l : List Ed, l.length = len ∧ RdG W W.heap.size a0 l ∧ len ≤ maxLen := by
  obtain ⟨fuel, hf⟩ := h
  rcases open_slice Tryd.underlying32 hf with ⟨hcs, _⟩ | ⟨a, l, c, m, n, D, Pl, hcs, _, hl, hm, hmm, hx, hi⟩
  · simp [Value.cells] at hcs
    obtain ⟨rfl, rfl, rfl⟩ := hcs
    exact ⟨[], rfl, fun h => absurd h (by simp), by unfold maxLen; omega⟩
  · simp [Value.cells] at hcs
    obtain ⟨rfl, rfl, rfl⟩ := hcs
    have h5 : Tryd.prog.cellsOf 58 = 3 := by kernel_rfl
    simp only [if_true] at hmm
    have each : ∀ j, j < m → ∃ x : Ed, W.cell? (a.add (j * 3)) = some (.int .i64 x.f) ∧ W.cell? ((a.add (j * 3)).add 1) = some (.int .i64 x.e) ∧ W.cell? ((a.add (j * 3)).add 2) = some (.int .i64 x.t) := by
      intro j hj
      obtain ⟨cs', hc, ht⟩ := hi j hj
      rw [h5] at hc
      obtain ⟨_, hcl, hat⟩ := World.cells?_some hc
      obtain ⟨ys, n', _, _, _, hyl, hfd⟩ := DataW.trod_struct Tryd.underlying58 ht
      match cs', hcl with
      | [c0, c1, c2], _ =>
        match ys, hyl with
        | [y0, y1, y2], _ =>
          have f0 : DataW.trod enc Tryd.prog W 0 (fun _ => true) true n' 3 (([c0, c1, c2].drop 0).take (Tryd.prog.cellsOf 3)) = some y0 := hfd 0 _ rfl
          have f1 : DataW.trod enc Tryd.prog W 0 (fun _ => true) true n' 3 (([c0, c1, c2].drop 1).take (Tryd.prog.cellsOf 3)) = some y1 := hfd 1 _ rfl
          have f2 : DataW.trod enc Tryd.prog W 0 (fun _ => true) true n' 3 (([c0, c1, c2].drop 2).take (Tryd.prog.cellsOf 3)) = some y2 := hfd 2 _ rfl
          have k3 : Tryd.prog.cellsOf 3 = 1 := by kernel_rfl
          rw [k3] at f0 f1 f2
          obtain ⟨q0, e0, _, _⟩ := DataW.trod_int Tryd.underlying3 f0
          obtain ⟨q1, e1, _, _⟩ := DataW.trod_int Tryd.underlying3 f1
          obtain ⟨q2, e2, _, _⟩ := DataW.trod_int Tryd.underlying3 f2
          simp only [List.drop, List.take, List.cons.injEq, and_true] at e0 e1 e2
          subst e0 e1 e2
          refine ⟨⟨q0, q1, q2⟩, ?_, hat 1 (by omega), hat 2 (by omega)⟩
          have := hat 0 (by omega)
          simpa [Addr.add] using this
    have each' : ∀ j : Nat, ∃ x : Ed, j < m → W.cell? (a.add (j * 3)) = some (.int .i64 x.f) ∧ W.cell? ((a.add (j * 3)).add 1) = some (.int .i64 x.e) ∧ W.cell? ((a.add (j * 3)).add 2) = some (.int .i64 x.t) := by
      intro j
      by_cases hj : j < m
      · obtain ⟨x, hx⟩ := each j hj
        exact ⟨x, fun _ => hx⟩
      · exact ⟨⟨0, 0, 0⟩, fun h => absurd h hj⟩
    obtain ⟨E, hE⟩ := Classical.axiomOfChoice each'
    refine ⟨(List.range len).map E, by simp, fun h0 => ?_, by omega⟩
    have h0' : 0 < len := by simpa using h0
    obtain ⟨b, off, spot⟩ := a
    have hspot : spot = none := by simpa [Addr.add] using World.cell?_spot (hE 0 (by omega)).1
    subst hspot
    simp only [Prod.mk.injEq] at hx
    obtain ⟨rfl, rfl⟩ := hx
    refine ⟨b, off, rfl, hlt (.cell b off) (List.mem_append_left _ (MemPlace.mem_row.2 ⟨0, by rw [h5]; omega, by simp⟩)), fun j x hj => ?_⟩
    rw [List.getElem?_map] at hj
    by_cases hjl : j < len
    · rw [List.getElem?_range hjl] at hj
      simp only [Option.map_some, Option.some.injEq] at hj
      subst hj
      obtain ⟨g0, g1, g2⟩ := hE j (by omega)
      simp only [add_plain] at g0 g1 g2
      exact ⟨g0, g1, g2⟩
    · rw [List.getElem?_eq_none (by simp; omega)] at hj
      cases hj
theorem cap_ints (h : DataW.Trod enc Tryd.prog W 0 (fun _ => true) true 27 (.slice a0 len cap) d p) : len ≤ cap := by
  obtain ⟨fuel, hf⟩ := h
  rcases open_slice Tryd.underlying27 hf with ⟨hcs, _⟩ | ⟨a, l, c, m, n, D, Pl, hcs, _, hl, _⟩
  · simp [Value.cells] at hcs; omega
  · simp [Value.cells] at hcs; omega
end

section
variable {H : Type} {enc : TypeId × Value → H} {W : World} {d : DataW H} {p : List MemPlace} {v : Value} {base : Nat}
set_option maxRecDepth 8000 in
theorem open_sl {n : Nat} {c : Value} {y : DataW H × List MemPlace} (hf : DataW.trod enc Tryd.prog W 0 (fun _ => true) true n 27 [c] = some y) (hlt : ∀ x ∈ y.2, x.block < W.heap.size) : ∃ A len cap zs, SlI W c A len cap zs := by
  rcases open_ints Tryd.underlying27 Tryd.underlying3 (by kernel_rfl) hf with ⟨hcs, _⟩ | ⟨a, l, cp, zs, hcs, _, hl, hm, _⟩
  · simp at hcs
    subst hcs
    exact ⟨none, 0, 0, [], rfl, rfl, RdI.nil _ _ _, by simp, Nat.le_refl _, by omega⟩
  · simp at hcs
    subst hcs
    have ht : DataW.Trod enc Tryd.prog W 0 (fun _ => true) true 27 (.slice (some a) l cp) y.1 y.2 := ⟨n, hf⟩
    obtain ⟨z, e1, e2, e3, _⟩ := open_rdI ht hlt
    exact ⟨some a, l, cp, z, rfl, e1, e2, e3, hl, by unfold maxLen at hm; omega⟩
/-- A slice of edges that came in. -/
structure SlG (W : World) (v : Value) (A : Option Addr) (n c : Nat) (l : List Ed) : Prop where
  eq : v = .slice A n c
  len : l.length = n
  rd : RdG W W.heap.size A l
  cap : n ≤ c
  top : c ≤ 9223372036854775807
set_option maxRecDepth 8000 in
theorem open_slG {n : Nat} {c : Value} {y : DataW H × List MemPlace} (hf : DataW.trod enc Tryd.prog W 0 (fun _ => true) true n 32 [c] = some y) (hlt : ∀ x ∈ y.2, x.block < W.heap.size) : ∃ A len cap zs, SlG W c A len cap zs := by
  rcases open_slice Tryd.underlying32 hf with ⟨hcs, _⟩ | ⟨a, l, cp, m, n', D, Pl, hcs, _, hl, hm, _⟩
  · simp at hcs
    subst hcs
    exact ⟨none, 0, 0, [], rfl, rfl, RdG.nil _ _ _, Nat.le_refl _, by omega⟩
  · simp at hcs
    subst hcs
    have ht : DataW.Trod enc Tryd.prog W 0 (fun _ => true) true 32 (.slice (some a) l cp) y.1 y.2 := ⟨n, hf⟩
    obtain ⟨z, e1, e2, _⟩ := open_rdG ht hlt
    exact ⟨some a, l, cp, z, rfl, e1, e2, hl, by unfold maxLen at hm; omega⟩
/-- An automaton that came in, of any size. -/
structure AuI (W : World) (A : Option Addr) (n c : Nat) (s : Int) (M : Option Addr) (m d : Nat) (E : Option Addr) (k g : Nat) (a : Au) : Prop where
  al : RdI W W.heap.size A a.al
  mr : RdI W W.heap.size M a.mr
  ed : RdG W W.heap.size E a.ed
  hn : a.al.length = n
  hm : a.mr.length = m
  hk : a.ed.length = k
  st : a.st = s
  cn : n ≤ c ∧ c ≤ 9223372036854775807
  cm : m ≤ d ∧ d ≤ 9223372036854775807
  ck : k ≤ g ∧ g ≤ 9223372036854775807
  wf : (Lit.int .i64 s).wf = true
theorem AuI.r {W : World} {A : Option Addr} {n c : Nat} {s : Int} {M : Option Addr} {m d : Nat} {E : Option Addr} {k g : Nat} {a : Au} (h : AuI W A n c s M m d E k g a) (h1 : n ≤ 12) (h2 : m ≤ 12) (h3 : k ≤ 12) : AuR W W.heap.size A n c s M m d E k g a :=
  { al := h.al, mr := h.mr, ed := h.ed, hn := h.hn, hm := h.hm, hk := h.hk, st := h.st, cn := h.cn, cm := h.cm, ck := h.ck, bn := by omega, bm := by omega, bk := by omega }
set_option maxRecDepth 8000 in
theorem open_aut (hval : Value.okWide Tryd.prog W .any base 34 v) (h : DataW.Trod enc Tryd.prog W 0 (fun _ => true) true 34 v d p) (hlt : ∀ x ∈ p, x.block < W.heap.size) :
    ∃ A n c s M m d' E k g a, v = .agg #[.slice A n c, .int .i64 s, .slice M m d', .slice E k g] ∧ AuI W A n c s M m d' E k g a := by
  obtain ⟨cs, rfl, hsz⟩ := okWide_struct Tryd.underlying34 hval
  have h4 : Tryd.prog.cellsOf 34 = 4 := by kernel_rfl
  have h1 : Tryd.prog.cellsOf 27 = 1 := by kernel_rfl
  have h2 : Tryd.prog.cellsOf 3 = 1 := by kernel_rfl
  have h3 : Tryd.prog.cellsOf 32 = 1 := by kernel_rfl
  rw [h4] at hsz
  obtain ⟨fuel, hf⟩ := h
  obtain ⟨ys, n', _, hx, _, hyl, hfd⟩ := DataW.trod_struct Tryd.underlying34 hf
  obtain ⟨l⟩ := cs
  match l, hsz with
  | [s0, s1, s2, s3], _ =>
    match ys, hyl with
    | [y0, y1, y2, y3], _ =>
      have f0 : DataW.trod enc Tryd.prog W 0 (fun _ => true) true n' 27 (([s0, s1, s2, s3].drop 0).take (Tryd.prog.cellsOf 27)) = some y0 := hfd 0 _ rfl
      have f1 : DataW.trod enc Tryd.prog W 0 (fun _ => true) true n' 3 (([s0, s1, s2, s3].drop 1).take (Tryd.prog.cellsOf 3)) = some y1 := hfd 1 _ rfl
      have f2 : DataW.trod enc Tryd.prog W 0 (fun _ => true) true n' 27 (([s0, s1, s2, s3].drop 2).take (Tryd.prog.cellsOf 27)) = some y2 := hfd 2 _ rfl
      have f3 : DataW.trod enc Tryd.prog W 0 (fun _ => true) true n' 32 (([s0, s1, s2, s3].drop 3).take (Tryd.prog.cellsOf 32)) = some y3 := hfd 3 _ rfl
      rw [h1] at f0 f2
      rw [h2] at f1
      rw [h3] at f3
      injection hx with hx1 hx2
      subst hx2
      obtain ⟨A, n, c, za, SA⟩ := open_sl (c := s0) f0 (fun x hx => hlt x (by simp [hx]))
      obtain ⟨q, e1, _, hq⟩ := DataW.trod_int Tryd.underlying3 f1
      obtain ⟨M, m, dd, zm, SM⟩ := open_sl (c := s2) f2 (fun x hx => hlt x (by simp [hx]))
      obtain ⟨E, k, g, ze, SE⟩ := open_slG (c := s3) f3 (fun x hx => hlt x (by simp [hx]))
      simp only [List.drop, List.take, List.cons.injEq, and_true] at e1
      refine ⟨A, n, c, q, M, m, dd, E, k, g, ⟨za, q, zm, ze⟩, by rw [SA.eq, SM.eq, SE.eq, e1], SA.rd, SM.rd, SE.rd, SA.len, SM.len, SE.len, rfl, ⟨SA.cap, SA.top⟩, ⟨SM.cap, SM.top⟩, ⟨SE.cap, SE.top⟩, hq⟩
end
end Go.Proofs.YtedleffmbddccaaDoor

/- Layer 6: Find of the program. -/
namespace Go.Proofs.YtedleffmbddccaaDoor
open Go.ChangeShapes Go.WideShapes Go.ChangeAt Go.RowKit Go.Deep
open Go.Sort

section
variable {H : Type} {enc : TypeId × Value → H} {W : World} {a0 : Option Addr} {len cap : Nat} {d : DataW H} {p : List MemPlace}
set_option maxRecDepth 8000 in
theorem open_rdW (h : DataW.Trod enc Tryd.prog W 0 (fun _ => true) true 35 (.slice a0 len cap) d p) (hlt : ∀ x ∈ p, x.block < W.heap.size) :
    ∃ zs : List (List Int), zs.length = len ∧ RdW W W.heap.size a0 zs ∧ (∀ z ∈ zs, z.length ≤ 9223372036854775807) ∧ len ≤ 9223372036854775807 := by
  obtain ⟨fuel, hf⟩ := h
  rcases open_slice Tryd.underlying35 hf with ⟨hcs, _⟩ | ⟨a, l, c, m, n, D, Pl, hcs, _, hl, hm, hmm, hx, hi⟩
  · simp [Value.cells] at hcs
    obtain ⟨rfl, rfl, rfl⟩ := hcs
    exact ⟨[], rfl, fun h => absurd h (by simp), by simp, by omega⟩
  · simp [Value.cells] at hcs
    obtain ⟨rfl, rfl, rfl⟩ := hcs
    have h1 : Tryd.prog.cellsOf 27 = 1 := by kernel_rfl
    simp only [if_true] at hmm
    simp only [Prod.mk.injEq] at hx
    obtain ⟨_, rfl⟩ := hx
    unfold maxLen at hm
    have each : ∀ j, j < m → ∃ x : Hd, W.cell? (a.add j) = some x.enc ∧ RdI W W.heap.size x.A x.z ∧ x.z.length ≤ x.c ∧ x.c ≤ 9223372036854775807 := by
      intro j hj
      obtain ⟨cs', hc, ht⟩ := hi j hj
      rw [h1, Nat.mul_one] at hc
      obtain ⟨_, hcl, hat⟩ := World.cells?_some hc
      match cs', hcl with
      | [c0], _ =>
        have hc0 : W.cell? (a.add j) = some c0 := by
          have := hat 0 (by omega)
          simpa [Addr.add] using this
        rcases open_ints Tryd.underlying27 Tryd.underlying3 (by kernel_rfl) ht with ⟨e, _⟩ | ⟨a', l', c', zs, e, _, hl', hm', hz', hx', hcell', hwz'⟩
        · injection e with e _
          subst e
          exact ⟨⟨none, 0, []⟩, hc0, RdI.nil _ _ _, Nat.le_refl _, by show (0 : Nat) ≤ _; omega⟩
        · injection e with e _
          subst e
          simp only [if_true] at hz'
          unfold maxLen at hm'
          have htl : (zs.take l').length = l' := by rw [List.length_take]; omega
          refine ⟨⟨some a', c', zs.take l'⟩, by rw [hc0, Hd.enc]; simp only [htl], fun h0 => ?_, by show (zs.take l').length ≤ c'; omega, hm'⟩
          have h0 : 0 < (zs.take l').length := h0
          rw [htl] at h0
          obtain ⟨b, off, spot⟩ := a'
          have hspot : spot = none := by simpa [Addr.add] using World.cell?_spot (hcell' 0 (by omega))
          subst hspot
          simp only [Prod.mk.injEq] at hx'
          refine ⟨b, off, rfl, hlt (.cell b off) (List.mem_append_right _ (List.mem_flatMap.2 ⟨j, List.mem_range.2 hj, by rw [hx'.2]; exact MemPlace.mem_row.2 ⟨0, by omega, by simp⟩⟩)), fun i hi' => ?_⟩
          have hi2 : i < (zs.take l').length := hi'
          rw [htl] at hi2
          rw [← add_plain, hcell' i (by omega)]
          simp [List.getD, show i < l' by omega]
    have each' : ∀ j : Nat, ∃ x : Hd, j < m → W.cell? (a.add j) = some x.enc ∧ RdI W W.heap.size x.A x.z ∧ x.z.length ≤ x.c ∧ x.c ≤ 9223372036854775807 := by
      intro j
      by_cases hj : j < m
      · obtain ⟨x, hx⟩ := each j hj
        exact ⟨x, fun _ => hx⟩
      · exact ⟨⟨none, 0, []⟩, fun h => absurd h hj⟩
    obtain ⟨E, hE⟩ := Classical.axiomOfChoice each'
    refine ⟨(List.range len).map fun j => (E j).z, by simp, fun h0 => ?_, fun z hz => ?_, by omega⟩
    · have h0' : 0 < len := by simpa using h0
      obtain ⟨b, off, spot⟩ := a
      have hspot : spot = none := by simpa [Addr.add] using World.cell?_spot (hE 0 (by omega)).1
      subst hspot
      refine ⟨b, off, rfl, hlt (.cell b off) (List.mem_append_left _ (MemPlace.mem_row.2 ⟨0, by rw [h1]; omega, by simp⟩)), fun j hj => ?_⟩
      have hj2 : j < len := by simpa using hj
      obtain ⟨g0, g1, g2, g3⟩ := hE j (by omega)
      rw [add_plain] at g0
      have e : ((List.range len).map fun j => (E j).z).getD j [] = (E j).z := by simp [List.getD, hj2]
      rw [e]
      exact ⟨(E j).A, (E j).c, g0, g1, g2, g3⟩
    · obtain ⟨j, hj, rfl⟩ := List.mem_map.1 hz
      obtain ⟨_, _, g2, g3⟩ := hE j (by have := List.mem_range.1 hj; omega)
      omega
end

/-- Where a tuple is first found. -/
def fndW (zs : List (List Int)) (t : List Int) : Int := if t ∈ zs then (zs.idxOf t : Int) else 0
theorem fndW_at {zs : List (List Int)} {t : List Int} {k : Nat} (hk : k < zs.length) (hn : t ∉ zs.take k) (he : zs.getD k [] = t) : t ∈ zs ∧ zs.idxOf t = k := by
  have hg : zs[k] = t := by rw [List.getD, List.getElem?_eq_getElem hk] at he; exact he
  have hm : t ∈ zs := by rw [← hg]; exact List.getElem_mem hk
  refine ⟨hm, ?_⟩
  have e : zs = zs.take k ++ t :: zs.drop (k + 1) := by
    rw [← hg, ← List.drop_eq_getElem_cons hk, List.take_append_drop]
  rw [e, List.idxOf_append, if_neg hn]
  simp [List.length_take]
  omega
theorem notin_next {zs : List (List Int)} {t : List Int} {k : Nat} (hk : k < zs.length) (hn : t ∉ zs.take k) (he : zs.getD k [] ≠ t) : t ∉ zs.take (k + 1) := by
  rw [take_snoc_w hk, List.mem_append, List.mem_singleton]
  rintro (h | h)
  · exact hn h
  · exact he h.symm

set_option maxHeartbeats 2000000 in
theorem pFind_any (A B : Option Addr) (n m c d : Nat) (zs : List (List Int)) (t : List Int) (w : World) (hx : RdW w w.heap.size A zs) (hy : RdI w w.heap.size B t) (hn : zs.length = n) (hm : t.length = m) (hb : n ≤ 100000) (hb' : m ≤ 100000)
    (lx : ∀ z ∈ zs, z.length ≤ 140737488355328) :
    Calls Tryd.prog 38 #[.slice A n c, .slice B m d] w fun e w' => e = .returned (.tuple #[.int .i64 (fndW zs t), .bool (decide (t ∈ zs))]) ∧ ∃ q, w' = w.drewN q := by
  have HX := Lib.hid hx
  have HY := Lib.hid hy
  have HN := Lib.hid hn
  have HM := Lib.hid hm
  have HLX := Lib.hid lx
  obtain ⟨v, hv⟩ : ∃ v, v = decide (t ∈ zs) := ⟨_, rfl⟩
  obtain ⟨r, hr⟩ : ∃ r, r = fndW zs t := ⟨_, rfl⟩
  rw [← hv, ← hr]
  have HV := Lib.hid hv
  have HR := Lib.hid hr
  clear hn hm hx hy lx hv hr
  go_enter Tryd.func38, Tryd.ntmps38
  go_wp2_with fail
  go_loopw [10] (fun i wr => ∃ k : Nat, k ≤ n ∧ i = .int .i64 k ∧ Hid (t ∉ zs.take k) ∧ Hid (∃ q, wr = w.drewN q)) (fun i _ => n - (intOf i).toNat)
  case atStart => exact ⟨0, Nat.zero_le _, rfl, Lib.hid (by simp), 0, rfl⟩
  case round =>
    obtain ⟨k, hk, rfl, ht, HQ⟩ := hrel
    by_cases hlt : k < n
    · have hz : k < zs.length := by rw [HN.out]; exact hlt
      have r1 : RdW wr wr.heap.size A zs := by obtain ⟨q, e⟩ := HQ.out; subst e; exact HX.out
      have r2 : RdI wr wr.heap.size B t := by obtain ⟨q, e⟩ := HQ.out; subst e; exact HY.out
      obtain ⟨b1, o1, rfl, hb1, hc1⟩ := r1 (by omega)
      obtain ⟨C1, d1, c1, rd1, _, _⟩ := hc1 k hz
      have hl1 : (zs.getD k []).length ≤ 140737488355328 := HLX.out _ (by rw [List.getD, List.getElem?_eq_getElem hz]; exact List.getElem_mem hz)
      have C := Lib.hid (equalInt_any C1 B _ m d1 d _ _ (zs.getD k []) t wr rd1 r2 rfl HM.out (by omega) (by omega))
      have k4 : (k : Int) < (n : Int) := by omega
      have k0 : (0 : Int) ≤ (k : Int) := by omega
      clear hc1 rd1 r1 r2
      by_cases he : zs.getD k [] = t
      · obtain ⟨f1, f2⟩ := fndW_at hz ht.out he
        have hvt : v = true := by rw [HV.out]; exact decide_eq_true f1
        have hrk : r = (k : Int) := by rw [HR.out, fndW, if_pos f1, f2]
        have hd : decide (zs.getD k [] = t) = true := decide_eq_true he
        rw [hd] at C
        subst hvt hrk
        clear he hd ht hz f1 f2 hl1
        generalize (zs.getD k []).length = n1 at *
        go_wp2_with fail
        refine C.out.mono ?_
        rintro e w2 ⟨rfl, q2, rfl⟩
        go_wp2_with fail
        go_ret2
        exact ⟨rfl, by obtain ⟨q, e⟩ := HQ.out; subst e; exact ⟨_, World.drewN_drewN _ _ _⟩⟩
      · have hs := Lib.hid (notin_next hz ht.out he)
        have hd : decide (zs.getD k [] = t) = false := decide_eq_false he
        rw [hd] at C
        clear he hd ht hz hl1
        generalize (zs.getD k []).length = n1 at *
        go_wp2_with fail
        refine C.out.mono ?_
        rintro e w2 ⟨rfl, q2, rfl⟩
        go_wp2_with fail
        go_roundw
        case rel => exact ⟨k + 1, by omega, by go_num, hs, Lib.hid (by obtain ⟨q, e⟩ := HQ.out; subst e; exact ⟨_, World.drewN_drewN _ _ _⟩)⟩
        case measure => simp [intOf]; omega
    · have hnm : t ∉ zs := by
        have h1 := ht.out
        rwa [List.take_of_length_le (by rw [HN.out]; omega)] at h1
      have hvf : v = false := by rw [HV.out]; exact decide_eq_false hnm
      have hr0 : r = 0 := by rw [HR.out, fndW, if_neg hnm]
      subst hvf hr0
      clear hnm ht
      go_wp2_with fail
      go_ret2
      exact ⟨rfl, HQ.out⟩
end Go.Proofs.YtedleffmbddccaaDoor

/- Layer 6: Next, Find, Initial of the reference. -/
namespace Go.Proofs.YtedleffmbddccaaDoor
open Go.RowKit Go.Sort

set_option maxHeartbeats 1600000 in
theorem r6Next_any (A : Option Addr) (n c : Nat) (s : Int) (M : Option Addr) (m d : Nat) (E : Option Addr) (k g : Nat) (a : Au) (q ev : Int) (B : Nat) (w : World) (h : AuR w B A n c s M m d E k g a) (hB : B ≤ w.heap.size) :
    Calls Tryd.prog 63 #[.agg #[.slice A n c, .int .i64 s, .slice M m d, .slice E k g], .int .i64 q, .int .i64 ev] w fun e w' => e = .returned (.int .i64 (stepI a q ev)) ∧ Below w.heap.size w w' := by
  have HB1 := Lib.hid ((Below.refl w.heap.size w).alloc (Nat.le_refl _) (.cells #[.slice A n c, .int .i64 s, .slice M m d, .slice E k g] 34))
  have HR := Lib.hid h
  have HX := Lib.hid (BoxA.made w A n c s M m d E k g 34)
  have HB0 := Lib.hid hB
  have hk1 := h.bk
  have hk2 := Lib.hid h.hk
  obtain ⟨v, hv⟩ : ∃ v, v = stepI a q ev := ⟨_, rfl⟩
  have HV := Lib.hid hv
  rw [← hv]
  clear h hB hv
  go_enter Tryd.func63, Tryd.ntmps63
  go_wp2_with fail
  go_loopw [7] (fun i wr => ∃ j : Nat, j ≤ k ∧ i = .int .i64 j ∧ Hid (∀ y ∈ a.ed.take j, ¬ (y.f = q ∧ y.e = ev)) ∧ Hid (Below w.heap.size w wr ∧ BoxA wr w.heap.size A n c s M m d E k g ∧ w.heap.size < wr.heap.size)) (fun i _ => k - (intOf i).toNat)
  case atStart => exact ⟨0, Nat.zero_le _, rfl, by simp [Hid], HB1.out, HX.out, by simp⟩
  case round =>
    obtain ⟨j, hj, rfl, ht, hbel⟩ := hrel
    obtain ⟨p0, p1, p2, p3⟩ := hbel.out.2.1
    by_cases hlt : j < k
    · obtain ⟨b1, o1, rfl, hb1, hc1⟩ := HR.out.ed (by rw [hk2.out]; omega)
      obtain ⟨x, hx⟩ := edAt (l := a.ed) (k := j) (by rw [hk2.out]; exact hlt)
      obtain ⟨x0, x1, x2⟩ : EdAt wr b1 (o1 + j * 3) x := (hc1 j x hx).keep fun o => hbel.out.1.cell (p := ⟨b1, o, none⟩) (Nat.lt_of_lt_of_le hb1 HB0.out)
      have HX := Lib.hid hx
      obtain ⟨xf, xe, xt⟩ := x
      simp only at x0 x1 x2
      clear hc1 hx
      by_cases h1 : xf = q
      · have hq : (xf == q) = true := by simp [h1]
        by_cases h2 : xe = ev
        · have hq2 : (xe == ev) = true := by simp [h2]
          have hf := Lib.hid (show xt = v by rw [HV.out, step_first HX.out ht.out h1 h2])
          clear h1 h2 ht
          go_wp2_with fail
          go_ret
          exact ⟨ret_int hf.out, by first | exact hbel.out.1 | exact below_drewN hbel.out.1 _⟩
        · have hq2 : (xe == ev) = false := by simp [h2]
          have hn := Lib.hid (not_next HX.out ht.out (fun h => h2 h.2))
          clear h1 h2 ht
          go_wp2_with fail
          go_roundw
          case rel => exact ⟨j + 1, by omega, by go_num, hn, by first | exact hbel.out | exact ⟨below_drewN hbel.out.1 _, hbel.out.2.1.drewN _, hbel.out.2.2⟩⟩
          case measure => simp [intOf]; omega
      · have hq : (xf == q) = false := by simp [h1]
        have hn := Lib.hid (not_next HX.out ht.out (fun h => h1 h.1))
        clear h1 ht
        go_wp2_with fail
        go_roundw
        case rel => exact ⟨j + 1, by omega, by go_num, hn, by first | exact hbel.out | exact ⟨below_drewN hbel.out.1 _, hbel.out.2.1.drewN _, hbel.out.2.2⟩⟩
        case measure => simp [intOf]; omega
    · obtain rfl : j = k := by omega
      have hf := Lib.hid (show (-1 : Int) = v by rw [HV.out, step_never hk2.out ht.out])
      clear ht
      go_wp2_with fail
      go_ret
      exact ⟨ret_int hf.out, hbel.out.1⟩

def fnd6 (zs : List (List Int)) (t : List Int) : Int := if t ∈ zs then (zs.idxOf t : Int) else -1
set_option maxHeartbeats 2000000 in
theorem r6Find_any (A B : Option Addr) (n m c d : Nat) (zs : List (List Int)) (t : List Int) (w : World) (hx : RdW w w.heap.size A zs) (hy : RdI w w.heap.size B t) (hn : zs.length = n) (hm : t.length = m) (hb : n ≤ 100000) (hb' : m ≤ 100000)
    (lx : ∀ z ∈ zs, z.length ≤ 140737488355328) :
    Calls Tryd.prog 59 #[.slice A n c, .slice B m d] w fun e w' => e = .returned (.int .i64 (fnd6 zs t)) ∧ ∃ q, w' = w.drewN q := by
  have HX := Lib.hid hx
  have HY := Lib.hid hy
  have HN := Lib.hid hn
  have HM := Lib.hid hm
  have HLX := Lib.hid lx
  obtain ⟨r, hr⟩ : ∃ r, r = fnd6 zs t := ⟨_, rfl⟩
  rw [← hr]
  have HR := Lib.hid hr
  clear hn hm hx hy lx hr
  go_enter Tryd.func59, Tryd.ntmps59
  go_wp2_with fail
  go_loopw [5] (fun i wr => ∃ k : Nat, k ≤ n ∧ i = .int .i64 k ∧ Hid (t ∉ zs.take k) ∧ Hid (∃ q, wr = w.drewN q)) (fun i _ => n - (intOf i).toNat)
  case atStart => exact ⟨0, Nat.zero_le _, rfl, Lib.hid (by simp), 0, rfl⟩
  case round =>
    obtain ⟨k, hk, rfl, ht, HQ⟩ := hrel
    by_cases hlt : k < n
    · have hz : k < zs.length := by rw [HN.out]; exact hlt
      have r1 : RdW wr wr.heap.size A zs := by obtain ⟨q, e⟩ := HQ.out; subst e; exact HX.out
      have r2 : RdI wr wr.heap.size B t := by obtain ⟨q, e⟩ := HQ.out; subst e; exact HY.out
      obtain ⟨b1, o1, rfl, hb1, hc1⟩ := r1 (by omega)
      obtain ⟨C1, d1, c1, rd1, _, _⟩ := hc1 k hz
      have hl1 : (zs.getD k []).length ≤ 140737488355328 := HLX.out _ (by rw [List.getD, List.getElem?_eq_getElem hz]; exact List.getElem_mem _)
      have C := Lib.hid (r1same_any C1 B _ m d1 d _ _ (zs.getD k []) t wr rd1 r2 rfl HM.out hl1 (by omega))
      have k4 : (k : Int) < (n : Int) := by omega
      have k0 : (0 : Int) ≤ (k : Int) := by omega
      clear hc1 rd1 r1 r2
      by_cases he : zs.getD k [] = t
      · obtain ⟨f1, f2⟩ := fndW_at hz ht.out he
        have hrk : r = (k : Int) := by rw [HR.out, fnd6, if_pos f1, f2]
        have hd : decide (zs.getD k [] = t) = true := decide_eq_true he
        rw [hd] at C
        subst hrk
        clear he hd ht hz f1 f2 hl1
        generalize (zs.getD k []).length = n1 at *
        go_wp2_with fail
        refine C.out.mono ?_
        rintro e w2 ⟨rfl, q2, rfl⟩
        go_wp2_with fail
        go_ret
        exact ⟨rfl, by obtain ⟨q, e⟩ := HQ.out; subst e; exact ⟨_, World.drewN_drewN _ _ _⟩⟩
      · have hs := Lib.hid (notin_next hz ht.out he)
        have hd : decide (zs.getD k [] = t) = false := decide_eq_false he
        rw [hd] at C
        clear he hd ht hz hl1
        generalize (zs.getD k []).length = n1 at *
        go_wp2_with fail
        refine C.out.mono ?_
        rintro e w2 ⟨rfl, q2, rfl⟩
        go_wp2_with fail
        go_roundw
        case rel => exact ⟨k + 1, by omega, by go_num, hs, Lib.hid (by obtain ⟨q, e⟩ := HQ.out; subst e; exact ⟨_, World.drewN_drewN _ _ _⟩)⟩
        case measure => simp [intOf]; omega
    · have hnm : t ∉ zs := by
        have h1 := ht.out
        rwa [List.take_of_length_le (by rw [HN.out]; omega)] at h1
      have hr0 : r = -1 := by rw [HR.out, fnd6, if_neg hnm]
      subst hr0
      clear hnm ht
      go_wp2_with fail
      go_ret
      exact ⟨rfl, HQ.out⟩
end Go.Proofs.YtedleffmbddccaaDoor

/- The contract of the reference's Union: the merged list in new memory. -/
namespace Go.Proofs.YtedleffmbddccaaDoor
open Go.RowKit

theorem ru_lt {xs ys pre zs : List Int} {i k : Nat} (hi : i < xs.length) (hk : k < ys.length) (h : zs = pre ++ un (xs.drop i) (ys.drop k)) (hc : xs.getD i 0 < ys.getD k 0) : zs = (pre ++ [xs.getD i 0]) ++ un (xs.drop (i + 1)) (ys.drop k) := by
  rw [h, drop_step xs i hi, drop_step ys k hk, un_lt hc]; simp
theorem ru_eq {xs ys pre zs : List Int} {i k : Nat} (hi : i < xs.length) (hk : k < ys.length) (h : zs = pre ++ un (xs.drop i) (ys.drop k)) (hc : xs.getD i 0 = ys.getD k 0) : zs = (pre ++ [xs.getD i 0]) ++ un (xs.drop (i + 1)) (ys.drop (k + 1)) := by
  rw [h, drop_step xs i hi, drop_step ys k hk, un_eq hc]; simp
theorem ru_gt {xs ys pre zs : List Int} {i k : Nat} (hi : i < xs.length) (hk : k < ys.length) (h : zs = pre ++ un (xs.drop i) (ys.drop k)) (hc : ys.getD k 0 < xs.getD i 0) : zs = (pre ++ [ys.getD k 0]) ++ un (xs.drop i) (ys.drop (k + 1)) := by
  rw [h, drop_step xs i hi, drop_step ys k hk, un_gt hc]; simp
theorem ru_left {xs ys pre zs : List Int} {i k : Nat} (hi : i < xs.length) (hk : ys.length = k) (h : zs = pre ++ un (xs.drop i) (ys.drop k)) : zs = (pre ++ [xs.getD i 0]) ++ un (xs.drop (i + 1)) (ys.drop k) := by
  rw [h, List.drop_of_length_le (l := ys) (by omega), un_nil, un_nil, drop_step xs i hi]; simp
theorem ru_right {xs ys pre zs : List Int} {i k : Nat} (hi : xs.length = i) (hk : k < ys.length) (h : zs = pre ++ un (xs.drop i) (ys.drop k)) : zs = (pre ++ [ys.getD k 0]) ++ un (xs.drop i) (ys.drop (k + 1)) := by
  rw [h, List.drop_of_length_le (l := xs) (by omega), nil_un, nil_un, drop_step ys k hk]; simp
theorem ru_end {xs ys pre zs : List Int} {i k : Nat} (hi : xs.length = i) (hk : ys.length = k) (h : zs = pre ++ un (xs.drop i) (ys.drop k)) : zs = pre := by
  rw [h, List.drop_of_length_le (l := xs) (by omega), List.drop_of_length_le (l := ys) (by omega), nil_un]; simp

set_option maxHeartbeats 3200000 in
theorem r1Union_own (A C : Option Addr) (n c m d : Nat) (xs ys : List Int) (w : World) (hx : RdI w w.heap.size A xs) (hy : RdI w w.heap.size C ys) (hn : xs.length = n) (hm : ys.length = m) (hb : n * 16 ≤ 140737488351232) (hb' : m * 16 ≤ 140737488351232) :
    Calls Tryd.prog 47 #[.slice A n c, .slice C m d] w fun e w' => GivesU w (un xs ys) e w' := by
  obtain ⟨i0, hi, hz0, hz1, hz2⟩ := info_parts info_int
  obtain ⟨zs, hzs⟩ : ∃ zs, zs = un xs ys := ⟨_, rfl⟩
  rw [← hzs]
  obtain ⟨B, hB⟩ : ∃ B, B = w.heap.size := ⟨_, rfl⟩
  rw [← hB] at hx hy
  have HB := Lib.hid hB
  have hBw : B ≤ w.heap.size := by omega
  have HX := Lib.hid hx
  have HY := Lib.hid hy
  have HN := Lib.hid hn
  have HM := Lib.hid hm
  have HZ := Lib.hid hzs
  clear hB hx hy hn hm hzs
  go_enter Tryd.func47, Tryd.ntmps47
  go_wp2
  go_loopw [5, 6, 7] (fun v si sk wr => ∃ (i k : Nat) (pre : List Int), i ≤ n ∧ k ≤ m ∧ si = .int .i64 i ∧ sk = .int .i64 k ∧ Hid (Own wr B v pre) ∧ Hid (zs = pre ++ un (xs.drop i) (ys.drop k)) ∧ pre.length ≤ i + k ∧ Below B w wr) (fun _ si sk _ => (n - (intOf si).toNat) + (m - (intOf sk).toNat))
  case atStart => exact ⟨0, 0, [], by omega, by omega, rfl, rfl, World.ownsRow_nil _ _ _ _, by show zs = [] ++ un (xs.drop 0) (ys.drop 0); simpa using HZ.out, by simp, Below.refl _ _⟩
  case round =>
    obtain ⟨i, k, pre, hi1, hk1, rfl, rfl, hown, hun, hlen, hnx⟩ := hrel
    have hsz := hnx.size
    by_cases h1 : i < n
    · have hix : i < xs.length := by rw [HN.out]; exact h1
      obtain ⟨b1, o1, rfl, hbB1, hcx⟩ := HX.out (by omega)
      obtain ⟨x, hxe⟩ : ∃ x, x = xs.getD i 0 := ⟨_, rfl⟩
      have hx0 : wr.cell? ⟨b1, o1 + i, none⟩ = some (.int .i64 x) := by rw [hxe]; exact (hnx.cell hbB1).trans (hcx i hix)
      have HXE := Lib.hid hxe
      clear hcx hxe
      have hd1 : decide (i < n) = true := by simpa using h1
      by_cases h2 : k < m
      · have hkx : k < ys.length := by rw [HM.out]; exact h2
        obtain ⟨b2, o2, rfl, hbB2, hcy⟩ := HY.out (by omega)
        obtain ⟨y, hye⟩ : ∃ y, y = ys.getD k 0 := ⟨_, rfl⟩
        have hy0 : wr.cell? ⟨b2, o2 + k, none⟩ = some (.int .i64 y) := by rw [hye]; exact (hnx.cell hbB2).trans (hcy k hkx)
        have HYE := Lib.hid hye
        clear hcy hye
        have hd2 : decide (k < m) = true := by simpa using h2
        have hd3 : ((k : Int) == (m : Int)) = false := by simp; omega
        rcases Int.lt_trichotomy x y with hxy | hxy | hxy
        · have hU := Lib.hid (by have := ru_lt hix hkx hun.out (by rw [← HXE.out, ← HYE.out]; exact hxy); rw [← HXE.out] at this; exact this)
          have ha : decide (x ≤ y) = true := by simp; omega
          have hb1 : (x == y) = false := by simp; omega
          clear hun
          go_wp2
          go_quiet (fail)
          go_wp2
          go_quiet (fail)
          go_wp2_with (at_builtin; refine wpList_append_own _ rfl _ _ 27 rfl B 3 i0 (.int .i64 0) 1 8 Tryd.underlying27 hi hz0 hz1 hz2 rfl (by decide) _ _ _ rfl ((own_dr hown.out _).alloc _) ⟨wr.heap.size, 0, none⟩ 1 1 [.int .i64 x] rfl rfl ?c1 ?c2 ?c3 ?c4 ?c5 ?_)
          case c1 => exact own_one
          case c2 => intro u hu; simp at hu; subst hu; rfl
          case c3 => unfold maxLen; omega
          case c4 => omega
          case c5 => simp; omega
          intro v' w1 hown' hgrow _
          have R := own_app (K' := pre ++ [x]) rfl (below_drewN hnx _) (own_dr hown.out _) hown' hgrow hBw
          have R1 := Lib.hid R.1
          have R2 := R.2
          have hl' : (pre ++ [x]).length ≤ (i + 1) + k := by simp; omega
          clear R hown' hgrow hown
          go_wp2
          go_roundw
          case rel => exact ⟨(i + 1), k, _, by omega, by omega, by go_num, by go_num, R1, hU, hl', R2⟩
          case measure => simp [intOf]; omega
        · have hU := Lib.hid (by have := ru_eq hix hkx hun.out (by rw [← HXE.out, ← HYE.out]; exact hxy); rw [← HXE.out] at this; exact this)
          have ha : decide (x ≤ y) = true := by simp; omega
          have hb1 : (x == y) = true := by simpa using hxy
          clear hxy
          clear hun
          go_wp2
          go_quiet (fail)
          go_wp2
          go_quiet (fail)
          go_wp2_with (at_builtin; refine wpList_append_own _ rfl _ _ 27 rfl B 3 i0 (.int .i64 0) 1 8 Tryd.underlying27 hi hz0 hz1 hz2 rfl (by decide) _ _ _ rfl ((own_dr hown.out _).alloc _) ⟨wr.heap.size, 0, none⟩ 1 1 [.int .i64 x] rfl rfl ?c1 ?c2 ?c3 ?c4 ?c5 ?_)
          case c1 => exact own_one
          case c2 => intro u hu; simp at hu; subst hu; rfl
          case c3 => unfold maxLen; omega
          case c4 => omega
          case c5 => simp; omega
          intro v' w1 hown' hgrow _
          have R := own_app (K' := pre ++ [x]) rfl (below_drewN hnx _) (own_dr hown.out _) hown' hgrow hBw
          have R1 := Lib.hid R.1
          have R2 := R.2
          have hl' : (pre ++ [x]).length ≤ (i + 1) + (k + 1) := by simp; omega
          clear R hown' hgrow hown
          go_wp2
          go_roundw
          case rel => exact ⟨(i + 1), (k + 1), _, by omega, by omega, by go_num, by go_num, R1, hU, hl', R2⟩
          case measure => simp [intOf]; omega
        · have hU := Lib.hid (by have := ru_gt hix hkx hun.out (by rw [← HXE.out, ← HYE.out]; exact hxy); rw [← HYE.out] at this; exact this)
          have ha : decide (x ≤ y) = false := by simp; omega
          clear hun
          go_wp2
          go_quiet (fail)
          go_wp2_with (at_builtin; refine wpList_append_own _ rfl _ _ 27 rfl B 3 i0 (.int .i64 0) 1 8 Tryd.underlying27 hi hz0 hz1 hz2 rfl (by decide) _ _ _ rfl ((own_dr hown.out _).alloc _) ⟨wr.heap.size, 0, none⟩ 1 1 [.int .i64 y] rfl rfl ?c1 ?c2 ?c3 ?c4 ?c5 ?_)
          case c1 => exact own_one
          case c2 => intro u hu; simp at hu; subst hu; rfl
          case c3 => unfold maxLen; omega
          case c4 => omega
          case c5 => simp; omega
          intro v' w1 hown' hgrow _
          have R := own_app (K' := pre ++ [y]) rfl (below_drewN hnx _) (own_dr hown.out _) hown' hgrow hBw
          have R1 := Lib.hid R.1
          have R2 := R.2
          have hl' : (pre ++ [y]).length ≤ i + (k + 1) := by simp; omega
          clear R hown' hgrow hown
          go_wp2
          go_roundw
          case rel => exact ⟨i, (k + 1), _, by omega, by omega, by go_num, by go_num, R1, hU, hl', R2⟩
          case measure => simp [intOf]; omega
      · have hkm : ys.length = k := by rw [HM.out]; omega
        have HKM := Lib.hid hkm
        have hd2 : decide (k < m) = false := by simp; omega
        have hd3 : ((k : Int) == (m : Int)) = true := by simp; omega
        clear hkm
        have hU := Lib.hid (by have := ru_left hix HKM.out hun.out; rw [← HXE.out] at this; exact this)
        clear hun
        go_wp2
        go_quiet (fail)
        go_wp2
        go_quiet (fail)
        go_wp2_with (at_builtin; refine wpList_append_own _ rfl _ _ 27 rfl B 3 i0 (.int .i64 0) 1 8 Tryd.underlying27 hi hz0 hz1 hz2 rfl (by decide) _ _ _ rfl ((own_dr hown.out _).alloc _) ⟨wr.heap.size, 0, none⟩ 1 1 [.int .i64 x] rfl rfl ?c1 ?c2 ?c3 ?c4 ?c5 ?_)
        case c1 => exact own_one
        case c2 => intro u hu; simp at hu; subst hu; rfl
        case c3 => unfold maxLen; omega
        case c4 => omega
        case c5 => simp; omega
        intro v' w1 hown' hgrow _
        have R := own_app (K' := pre ++ [x]) rfl (below_drewN hnx _) (own_dr hown.out _) hown' hgrow hBw
        have R1 := Lib.hid R.1
        have R2 := R.2
        have hl' : (pre ++ [x]).length ≤ (i + 1) + k := by simp; omega
        clear R hown' hgrow hown
        go_wp2
        go_roundw
        case rel => exact ⟨(i + 1), k, _, by omega, by omega, by go_num, by go_num, R1, hU, hl', R2⟩
        case measure => simp [intOf]; omega
    · have hin : xs.length = i := by rw [HN.out]; omega
      have HIN := Lib.hid hin
      have hd1 : decide (i < n) = false := by simp; omega
      clear hin
      by_cases h2 : k < m
      · have hkx : k < ys.length := by rw [HM.out]; exact h2
        obtain ⟨b2, o2, rfl, hbB2, hcy⟩ := HY.out (by omega)
        obtain ⟨y, hye⟩ : ∃ y, y = ys.getD k 0 := ⟨_, rfl⟩
        have hy0 : wr.cell? ⟨b2, o2 + k, none⟩ = some (.int .i64 y) := by rw [hye]; exact (hnx.cell hbB2).trans (hcy k hkx)
        have HYE := Lib.hid hye
        clear hcy hye
        have hd2 : decide (k < m) = true := by simpa using h2
        have hd3 : ((k : Int) == (m : Int)) = false := by simp; omega
        have hU := Lib.hid (by have := ru_right HIN.out hkx hun.out; rw [← HYE.out] at this; exact this)
        clear hun
        go_wp2
        go_quiet (fail)
        go_wp2_with (at_builtin; refine wpList_append_own _ rfl _ _ 27 rfl B 3 i0 (.int .i64 0) 1 8 Tryd.underlying27 hi hz0 hz1 hz2 rfl (by decide) _ _ _ rfl ((own_dr hown.out _).alloc _) ⟨wr.heap.size, 0, none⟩ 1 1 [.int .i64 y] rfl rfl ?c1 ?c2 ?c3 ?c4 ?c5 ?_)
        case c1 => exact own_one
        case c2 => intro u hu; simp at hu; subst hu; rfl
        case c3 => unfold maxLen; omega
        case c4 => omega
        case c5 => simp; omega
        intro v' w1 hown' hgrow _
        have R := own_app (K' := pre ++ [y]) rfl (below_drewN hnx _) (own_dr hown.out _) hown' hgrow hBw
        have R1 := Lib.hid R.1
        have R2 := R.2
        have hl' : (pre ++ [y]).length ≤ i + (k + 1) := by simp; omega
        clear R hown' hgrow hown
        go_wp2
        go_roundw
        case rel => exact ⟨i, (k + 1), _, by omega, by omega, by go_num, by go_num, R1, hU, hl', R2⟩
        case measure => simp [intOf]; omega
      · have hkm : ys.length = k := by rw [HM.out]; omega
        have hE := Lib.hid (ru_end HIN.out hkm hun.out)
        have hd2 : decide (k < m) = false := by simp; omega
        have hf := Lib.hid (own_rdc hown.out)
        have hw0 := hown.out
        rw [HB.out] at hw0
        have hwO := Lib.hid hw0
        clear hw0
        have hnx' : Below w.heap.size w wr := by rw [← HB.out]; exact hnx
        clear hkm hun
        go_wp2
        go_ret
        obtain ⟨A', c', e', hr, _, _⟩ := hf.out
        rw [hE.out]
        exact ⟨A', c', by rw [← e']; rfl, by rw [← e']; exact hwO.out, hnx'⟩
theorem r1Union_any (A C : Option Addr) (n c m d : Nat) (xs ys : List Int) (w : World) (hx : RdI w w.heap.size A xs) (hy : RdI w w.heap.size C ys) (hn : xs.length = n) (hm : ys.length = m) (hb : n * 16 ≤ 140737488351232) (hb' : m * 16 ≤ 140737488351232) :
    Calls Tryd.prog 47 #[.slice A n c, .slice C m d] w fun e w' => Gives w (un xs ys) e w' :=
  (r1Union_own A C n c m d xs ys w hx hy hn hm hb hb').mono fun e w' h => by
    obtain ⟨A', c', e1, hr, hB, _, _⟩ := h.gc
    exact ⟨A', c', e1, hr, hB⟩
end Go.Proofs.YtedleffmbddccaaDoor

/- Layer 6: Contains of the reference of layer 1; Alphabet, Marked of the reference. -/
namespace Go.Proofs.YtedleffmbddccaaDoor
open Go.RowKit Go.Sort

set_option maxHeartbeats 800000 in
theorem r1Has_any (A : Option Addr) (n c Bx : Nat) (zs : List Int) (x : Int) (w : World) (hx : RdI w Bx A zs) (hn : zs.length = n) (hb : n ≤ 140737488355328) :
    Calls Tryd.prog 62 #[.slice A n c, .int .i64 x] w fun e w' => e = .returned (.bool (decide (x ∈ zs))) ∧ w = w' := by
  have HN := Lib.hid hn
  clear hn
  go_enter Tryd.func62, Tryd.ntmps62
  go_wp2
  go_loop [5] (fun i => ∃ k : Nat, k ≤ n ∧ i = .int .i64 k ∧ Hid (x ∉ zs.take k)) (fun i => n - (intOf i).toNat)
  case atStart => exact ⟨0, Nat.zero_le _, rfl, by simp [Hid]⟩
  case round =>
    obtain ⟨k, hk, rfl, ht⟩ := hrel
    by_cases hlt : k < n
    · obtain ⟨b1, o1, rfl, _, hc1⟩ := hx (by rw [HN.out]; omega)
      have hz : k < zs.length := by rw [HN.out]; exact hlt
      have h1 := hc1 k hz
      obtain ⟨y, hye⟩ : ∃ y, y = zs.getD k 0 := ⟨_, rfl⟩
      rw [← hye] at h1
      clear hc1 hx
      by_cases hyx : y = x
      · have hr := Lib.hid (con_yes (x := x) hz (by rw [← hye]; exact hyx))
        have hb1 : (y == x) = true := by simpa using hyx
        clear hyx hye ht hz
        go_wp2
        go_ret
        exact ⟨ret_bool hr.out.symm, rfl⟩
      · have hr := Lib.hid (show x ∉ zs.take (k + 1) by rw [mem_snoc_take hz, not_or]; exact ⟨ht.out, by rw [← hye]; exact hyx⟩)
        have hb1 : (y == x) = false := by simpa using hyx
        clear hyx hye ht hz
        go_wp2
        go_round
        case rel => exact ⟨k + 1, by omega, by go_num, hr⟩
        case measure => simp [intOf]; omega
    · have hkn : k = n := by omega
      rw [hkn] at ht
      have hr := Lib.hid (con_no HN.out ht.out)
      clear hkn ht
      go_wp2
      go_ret
      exact ⟨ret_bool hr.out.symm, rfl⟩


set_option maxHeartbeats 2000000 in
set_option maxRecDepth 20000 in
theorem r6Alphabet_own (A : Option Addr) (n c : Nat) (l : List Au) (w : World) (h : RdAs w w.heap.size A l) (hn : l.length = n) (hnb : n ≤ 1000000) (hr : ∀ a ∈ l, RightW a) :
    Calls Tryd.prog 19 #[.slice A n c] w fun e w' => GivesU w (alT l) e w' := by
  have HL := Lib.hid h
  have HN := Lib.hid hn
  have HRI := Lib.hid hr
  clear h hn hr
  go_enter Tryd.func19, Tryd.ntmps19
  go_wp2_with fail
  go_loopw [3, 4] (fun v i wr => ∃ (t : Nat) (A1 : Option Addr) (n1 c1 : Nat), t ≤ n ∧ i = .int .i64 t ∧ v = .slice A1 n1 c1 ∧ (alT (l.take t)).length = n1 ∧ Hid (Own wr w.heap.size (.slice A1 n1 c1) (alT (l.take t))) ∧ Hid (Below w.heap.size w wr)) (fun _ i _ => n - (intOf i).toNat)
  case atStart => exact ⟨0, none, 0, 0, Nat.zero_le _, rfl, rfl, rfl, Lib.hid (World.ownsRow_nil _ _ _ _), Lib.hid (Below.refl _ _)⟩
  case round =>
    obtain ⟨t, A1, n1, c1, htn, rfl, rfl, hn1, hrd, hbel⟩ := hrel
    have hown := hrd
    obtain ⟨_, _, he1, hrdx, _, _⟩ := own_rdc hrd.out
    injection he1 with hea heb hec
    subst hea hec
    have hrd := Lib.hid hrdx
    clear hrdx heb
    have h32 := alT_len (take_right HRI.out t)
    rw [hn1] at h32
    have HN1 := Lib.hid hn1
    clear hn1
    by_cases hlt : t < n
    · obtain ⟨a, ha⟩ : ∃ a, l[t]? = some a := ⟨_, List.getElem?_eq_getElem (by rw [HN.out]; exact hlt)⟩
      obtain ⟨b, o, rfl, hb, hc⟩ := HL.out (by rw [HN.out]; omega)
      obtain ⟨A2, n2, c2, s2, M2, m2, d2, E2, k2, g2, h0, h1, h2, h3, hr⟩ := hc t a ha
      have p0 := (hbel.out.cell (p := ⟨b, o + t * 4, none⟩) hb).trans h0
      have HR := (hr.below hbel.out (Nat.le_refl _)).more hbel.out.size
      have HTK := Lib.hid (alT_take_succ ha)
      have hbn := hr.bn
      have HU := Lib.hid (r1Union_own A1 A2 n1 c1 n2 c2 (alT (l.take t)) a.al wr hrd.out HR.al HN1.out HR.hn (by omega) (by omega))
      have w0 : (t : Int) < (n : Int) := by omega
      have w1 : (0 : Int) ≤ (t : Int) := by omega
      clear h0 h1 h2 h3 hc ha hr HR hrd
      go_wp2_with fail
      refine HU.out.mono ?_
      rintro e w4 ⟨A4, c4, rfl, hr4, hb4⟩
      obtain ⟨zs, hzs⟩ : ∃ zs, zs = un (alT (l.take t)) a.al := ⟨_, rfl⟩
      rw [← hzs] at hr4 ⊢
      have HZ := Lib.hid (show alT (l.take (t + 1)) = zs by rw [HTK.out, hzs])
      have HR4 := Lib.hid (own_more hr4 hbel.out.size)
      have HB4 := Lib.hid (hbel.out.trans (hb4.mono hbel.out.size))
      obtain ⟨n4, hn4⟩ : ∃ n4, n4 = zs.length := ⟨_, rfl⟩
      rw [← hn4]
      have HN4 := Lib.hid hn4
      clear hb4 hr4 hzs hn4 p0 hbel hown
      go_wp2_with fail
      go_roundw
      case rel => exact ⟨t + 1, A4, n4, c4, by omega, by go_num, rfl, by rw [HZ.out, HN4.out], Lib.hid (by rw [HZ.out, HN4.out]; exact HR4.out), HB4⟩
      case measure => simp [intOf] <;> omega
    · obtain rfl : t = n := by omega
      have HTA := Lib.hid (show l.take t = l from List.take_of_length_le (by rw [HN.out]; exact Nat.le_refl _))
      have hrd2 := hown.out
      have hn2 := HN1.out
      rw [HTA.out] at hrd2 hn2
      have HRD := Lib.hid hrd2
      have HN2 := Lib.hid hn2
      clear hlt htn hrd hown hrd2 hn2 HN1
      go_wp2_with fail
      go_ret
      exact ⟨A1, c1, congrArg (fun k : Nat => Ending.returned (.slice A1 k c1)) HN2.out.symm, by rw [HN2.out]; exact HRD.out, hbel.out⟩
theorem r6Alphabet_any (A : Option Addr) (n c : Nat) (l : List Au) (w : World) (h : RdAs w w.heap.size A l) (hn : l.length = n) (hnb : n ≤ 1000000) (hr : ∀ a ∈ l, RightW a) :
    Calls Tryd.prog 19 #[.slice A n c] w fun e w' => Gives w (alT l) e w' :=
  (r6Alphabet_own A n c l w h hn hnb hr).mono fun e w' h => by
    obtain ⟨A', c', e1, hr, hB, _, _⟩ := h.gc
    exact ⟨A', c', e1, hr, hB⟩
end Go.Proofs.YtedleffmbddccaaDoor

/- Layer 6: Marked of the reference. -/
namespace Go.Proofs.YtedleffmbddccaaDoor
open Go.RowKit Go.Sort

theorem mkT_drop {l : List Au} {t : List Int} {k : Nat} {a : Au} (ha : l[k]? = some a) (hk : k < t.length) : mkT (l.drop k) (t.drop k) = (decide (t.getD k 0 ∈ a.mr) && mkT (l.drop (k + 1)) (t.drop (k + 1))) := by
  rw [drop_au ha, drop_int hk, mkT]

set_option maxHeartbeats 4000000 in
set_option maxRecDepth 20000 in
theorem r6Marked_any (A : Option Addr) (n c : Nat) (l : List Au) (A2 : Option Addr) (d : Nat) (t : List Int) (w : World) (h : RdAs w w.heap.size A l) (hn : l.length = n) (hnb : n ≤ 1000000) (h2 : RdI w w.heap.size A2 t) (hm : t.length = n) :
    Calls Tryd.prog 34 #[.slice A n c, .slice A2 n d] w fun e w' => e = .returned (.bool (mkT l t)) ∧ Below w.heap.size w w' := by
  have HL := Lib.hid h
  have HN := Lib.hid hn
  have HT := Lib.hid h2
  have HM := Lib.hid hm
  obtain ⟨v, hv⟩ : ∃ v, v = mkT l t := ⟨_, rfl⟩
  rw [← hv]
  have HV := Lib.hid (show mkT (l.drop 0) (t.drop 0) = v by rw [hv]; rfl)
  clear h hn h2 hm hv
  go_enter Tryd.func34, Tryd.ntmps34
  go_wp2_with fail
  go_loopw [5] (fun i wr => ∃ k : Nat, k ≤ n ∧ i = .int .i64 k ∧ Hid (mkT (l.drop k) (t.drop k) = v) ∧ Hid (Below w.heap.size w wr)) (fun i _ => n - (intOf i).toNat)
  case atStart => exact ⟨0, Nat.zero_le _, rfl, HV, Lib.hid (Below.refl _ _)⟩
  case round =>
    clear HV
    obtain ⟨k, hkn, rfl, hv, hbel⟩ := hrel
    by_cases hlt : k < n
    · obtain ⟨a, ha⟩ : ∃ a, l[k]? = some a := ⟨_, List.getElem?_eq_getElem (by rw [HN.out]; exact hlt)⟩
      obtain ⟨b, o, rfl, hb, hc⟩ := HL.out (by rw [HN.out]; omega)
      obtain ⟨A1, n1, c1, s1, M1, m1, d1, E1, k1, g1, h0, h1, h2, h3, hr⟩ := hc k a ha
      obtain ⟨b2, o2, rfl, hb2, hc2⟩ := HT.out (by rw [HM.out]; omega)
      have p2 := (hbel.out.cell (p := ⟨b, o + k * 4 + 2, none⟩) hb).trans h2
      have r1 := (hbel.out.cell (p := ⟨b2, o2 + k, none⟩) hb2).trans (hc2 k (by rw [HM.out]; exact hlt))
      obtain ⟨q, hq⟩ : ∃ q, q = t.getD k 0 := ⟨_, rfl⟩
      rw [← hq] at r1
      obtain ⟨r, hrr⟩ : ∃ r, r = decide (q ∈ a.mr) := ⟨_, rfl⟩
      have hv2 := hv.out
      rw [mkT_drop ha (by rw [HM.out]; exact hlt), ← hq, ← hrr] at hv2
      have w0 : (k : Int) < (n : Int) := by omega
      have w1 : (0 : Int) ≤ (k : Int) := by omega
      have HMc := Lib.hid (fun (q' : Nat) => by
        have := r1Has_any M1 m1 d1 w.heap.size a.mr q (wr.drewN q') ((hr.mr.below hbel.out (Nat.le_refl _)).dr q') hr.hm (by have := hr.bm; omega)
        rw [← hrr] at this
        exact this.mono (R' := fun e w' => e = .returned (.bool r) ∧ w' = wr.drewN q') fun e w' h => ⟨h.1, h.2.symm⟩)
      have HBN := Lib.hid (fun (q' : Nat) => below_drewN hbel.out q')
      clear h0 h1 h2 h3 hc hc2 ha hr hq hrr hv
      cases r
      · rw [Bool.false_and] at hv2
        subst hv2
        go_wp2_with fail
        go_quiet ((go_at_call 62; exact Calls.quiet_of_same (HMc.out _)))
        go_wp2_with fail
        go_ret
        exact ⟨rfl, HBN.out _⟩
      · rw [Bool.true_and] at hv2
        have HV2 := Lib.hid hv2
        clear hv2
        go_wp2_with fail
        go_quiet ((go_at_call 62; exact Calls.quiet_of_same (HMc.out _)))
        go_wp2_with fail
        go_roundw
        case rel => exact ⟨k + 1, by omega, by go_num, HV2, Lib.hid (HBN.out _)⟩
        case measure => simp [intOf] <;> omega
    · obtain rfl : k = n := by omega
      obtain rfl : v = true := by
        have := hv.out
        rw [List.drop_of_length_le (by rw [HN.out]; exact Nat.le_refl _), List.drop_of_length_le (by rw [HM.out]; exact Nat.le_refl _)] at this
        rw [← this]; rfl
      clear hlt hkn hv
      go_wp2_with fail
      go_ret
      exact ⟨rfl, hbel.out⟩
end Go.Proofs.YtedleffmbddccaaDoor

/- Layer 6: Check of the reference. -/
namespace Go.Proofs.YtedleffmbddccaaDoor
open Go.RowKit Go.Sort

set_option maxHeartbeats 2000000 in
set_option maxRecDepth 20000 in
theorem r6Check_any (A : Option Addr) (n c : Nat) (l : List Au) (w : World) (h : RdAs w w.heap.size A l) (hn : l.length = n) :
    Calls Tryd.prog 15 #[.slice A n c] w fun e w' => e = .returned (.int .i64 (chkL l)) ∧ Below w.heap.size w w' := by
  have HL := Lib.hid h
  have HN := Lib.hid hn
  obtain ⟨v, hv⟩ : ∃ v, v = chkL l := ⟨_, rfl⟩
  rw [← hv]
  by_cases h12 : 12 < n
  · have hv3 : v = 3 := by rw [hv, chkL, if_pos (by rw [hn]; exact h12)]
    clear h hn hv
    subst hv3
    go_enter Tryd.func15, Tryd.ntmps15
    go_wp2_with fail
    go_ret
    exact ⟨rfl, Below.refl _ _⟩
  · have HV := Lib.hid (show chkGo (l.drop 0) = v by rw [hv, chkL, if_neg (by rw [hn]; exact h12)]; rfl)
    have h12b : n ≤ 12 := by omega
    clear h hn hv h12
    go_enter Tryd.func15, Tryd.ntmps15
    go_wp2_with fail
    go_loopw [3] (fun i wr => ∃ t : Nat, t ≤ n ∧ i = .int .i64 t ∧ Hid (chkGo (l.drop t) = v) ∧ Hid (Below w.heap.size w wr)) (fun i _ => n - (intOf i).toNat)
    case atStart => exact ⟨0, Nat.zero_le _, rfl, HV, Lib.hid (Below.refl _ _)⟩
    case round =>
      clear HV
      obtain ⟨t, htn, rfl, hv, hbel⟩ := hrel
      by_cases hlt : t < n
      · obtain ⟨a, ha⟩ : ∃ a, l[t]? = some a := ⟨_, List.getElem?_eq_getElem (by rw [HN.out]; exact hlt)⟩
        obtain ⟨b, o, rfl, hb, hc⟩ := HL.out (by rw [HN.out]; omega)
        obtain ⟨A1, n1, c1, s1, M1, m1, d1, E1, k1, g1, h0, h1, h2, h3, hr⟩ := hc t a ha
        have p0 := (hbel.out.cell (p := ⟨b, o + t * 4, none⟩) hb).trans h0
        have p1 := (hbel.out.cell (p := ⟨b, o + t * 4 + 1, none⟩) hb).trans h1
        have p2 := (hbel.out.cell (p := ⟨b, o + t * 4 + 2, none⟩) hb).trans h2
        have p3 := (hbel.out.cell (p := ⟨b, o + t * 4 + 3, none⟩) hb).trans h3
        have HCk := Lib.hid (rCheck_any A1 n1 c1 s1 M1 m1 d1 E1 k1 g1 a wr.heap.size wr ((hr.below hbel.out (Nat.le_refl _)).more hbel.out.size) (Nat.le_refl _))
        have hv2 := hv.out
        rw [drop_au ha, chkGo] at hv2
        obtain ⟨u, hu⟩ : ∃ u, u = chkE a := ⟨_, rfl⟩
        rw [← hu] at hv2 HCk
        have w0 : (t : Int) < (n : Int) := by omega
        have w1 : (0 : Int) ≤ (t : Int) := by omega
        by_cases hu0 : u = 0
        · rw [if_neg (by simpa using hu0)] at hv2
          have HV2 := Lib.hid hv2
          clear hu hv hv2 hr h0 h1 h2 h3 hc ha
          subst hu0
          go_wp2_with fail
          refine HCk.out.mono ?_
          rintro e w4 ⟨rfl, hb4⟩
          have hb5 := Lib.hid (hbel.out.trans (hb4.mono hbel.out.size))
          clear hb4 p0 p1 p2 p3
          go_wp2_with fail
          go_roundw
          case rel => exact ⟨t + 1, by omega, by go_num, HV2, hb5⟩
          case measure => simp [intOf] <;> omega
        · rw [if_pos hu0] at hv2
          have hub : (u != 0) = true := by simp [hu0]
          clear hu hv hr h0 h1 h2 h3 hc ha
          subst hv2
          go_wp2_with fail
          refine HCk.out.mono ?_
          rintro e w4 ⟨rfl, hb4⟩
          have hb5 := Lib.hid (hbel.out.trans (hb4.mono hbel.out.size))
          clear hb4 p0 p1 p2 p3
          go_wp2_with fail
          go_ret
          exact ⟨rfl, hb5.out⟩
      · obtain rfl : t = n := by omega
        obtain rfl : v = 0 := by have := hv.out; rw [List.drop_of_length_le (by rw [HN.out]; omega), chkGo] at this; exact this.symm
        clear hv
        go_wp2_with fail
        go_ret
        exact ⟨rfl, hbel.out⟩
end Go.Proofs.YtedleffmbddccaaDoor

/- Layer 6: Initial of the reference. -/
namespace Go.Proofs.YtedleffmbddccaaDoor
open Go.RowKit Go.Sort

/-- A tuple in new memory, or none. -/
def GivesI6 (w : World) (r : Option (List Int)) (e : Ending) (w' : World) : Prop := ∃ A c, e = .returned (.tuple #[.slice A (r.getD []).length c, .bool r.isSome]) ∧ Own w' w.heap.size (.slice A (r.getD []).length c) (r.getD []) ∧ Below w.heap.size w w'
def iniO (l : List Au) : Option (List Int) := if iniB l = true then some (List.replicate l.length 0) else none
theorem ini_next {l : List Au} {k : Nat} {a : Au} (ha : l[k]? = some a) : iniB (l.drop k) = (decide (a.st ≠ 0) && iniB (l.drop (k + 1))) := by
  unfold iniB; rw [drop_au ha, List.all_cons]

set_option maxHeartbeats 4000000 in
set_option maxRecDepth 20000 in
theorem r6Initial_any (A : Option Addr) (n c : Nat) (l : List Au) (w : World) (h : RdAs w w.heap.size A l) (hn : l.length = n) (hnb : n ≤ 100000) :
    Calls Tryd.prog 37 #[.slice A n c] w (GivesI6 w (iniO l)) := by
  have HL := Lib.hid h
  have HN := Lib.hid hn
  have hmk := make_ints n hnb
  obtain ⟨v, hv⟩ : ∃ v, v = iniB l := ⟨_, rfl⟩
  have HR := Lib.hid (show iniO l = if v = true then some (List.replicate n 0) else none by rw [iniO, hv, hn])
  have HV := Lib.hid (show iniB (l.drop 0) = v by rw [hv]; rfl)
  obtain ⟨R, hRe⟩ : ∃ R, R = iniO l := ⟨_, rfl⟩
  rw [← hRe]
  have HRV := Lib.hid (show R = if v = true then some (List.replicate n 0) else none by rw [hRe, HR.out])
  clear h hn hv HR hRe
  go_enter Tryd.func37, Tryd.ntmps37
  go_wp2_with fail
  go_loopw [4] (fun i wr => ∃ t : Nat, t ≤ n ∧ i = .int .i64 t ∧ wr = w ∧ Hid (iniB (l.drop t) = v)) (fun i _ => n - (intOf i).toNat)
  case atStart => exact ⟨0, Nat.zero_le _, rfl, rfl, HV⟩
  case round =>
    clear HV
    obtain ⟨t, htn, rfl, rfl, hv⟩ := hrel
    by_cases hlt : t < n
    · obtain ⟨a, ha⟩ : ∃ a, l[t]? = some a := ⟨_, List.getElem?_eq_getElem (by rw [HN.out]; exact hlt)⟩
      obtain ⟨b, o, rfl, hb, hc⟩ := HL.out (by rw [HN.out]; omega)
      obtain ⟨A1, n1, c1, s1, M1, m1, d1, E1, k1, g1, h0, h1, h2, h3, hr⟩ := hc t a ha
      have hst := hr.st
      have hv2 := hv.out
      rw [ini_next ha, hst] at hv2
      have w0 : (t : Int) < (n : Int) := by omega
      have w1 : (0 : Int) ≤ (t : Int) := by omega
      clear h0 h2 h3 hc ha hr hst hv
      by_cases hs : s1 = 0
      · subst hs
        have hvf : v = false := by rw [← hv2]; rfl
        subst hvf
        clear hv2
        have hR0 : R = none := HRV.out
        subst hR0
        go_wp2_with fail
        go_ret2
        exact ⟨none, 0, rfl, World.ownsRow_nil _ _ _ _, Below.refl _ _⟩
      · have hsb : (s1 == 0) = false := by simp [hs]
        rw [decide_eq_true hs, Bool.true_and] at hv2
        have HV2 := Lib.hid hv2
        clear hv2 hs
        go_wp2_with fail
        go_roundw
        case rel => exact ⟨t + 1, by omega, by go_num, by first | rfl | trivial, HV2⟩
        case measure => simp [intOf] <;> omega
    · obtain rfl : t = n := by omega
      have hvt : v = true := by have := hv.out; rw [List.drop_of_length_le (by rw [HN.out]; exact Nat.le_refl _)] at this; rw [← this]; rfl
      subst hvt
      clear hv hlt htn
      have HR1 := Lib.hid (show R = some (List.replicate t 0) from HRV.out)
      have HO := Lib.hid (show Own (wr.alloc (.cells (List.replicate t (Value.int .i64 0)).toArray 3)) wr.heap.size (.slice (some ⟨wr.heap.size, 0, none⟩) t t) (List.replicate t 0) by
        have := World.ownsRow_lit (base := wr.heap.size) (size := 1) (e := 3) wr (List.replicate t (Value.int .i64 0)).toArray t (Nat.le_refl _) (by unfold maxLen; omega) (by simp)
        unfold Own
        rw [List.length_replicate, List.map_replicate]; exact this)
      have HB := Lib.hid ((Below.refl wr.heap.size wr).alloc (Nat.le_refl _) (.cells (List.replicate t (Value.int .i64 0)).toArray 3))
      go_wp2_with fail
      go_ret2
      exact ⟨some ⟨wr.heap.size, 0, none⟩, t, by rw [HR1.out]; simp, by rw [HR1.out, Option.getD_some, List.length_replicate]; exact HO.out, HB.out⟩
end Go.Proofs.YtedleffmbddccaaDoor

/- Layer 6: Refusers of the reference. -/
namespace Go.Proofs.YtedleffmbddccaaDoor
open Go.RowKit Go.Sort

/-- What is known of the memory in a round. -/
structure RfS (w : World) (b o : Nat) (A1 : Option Addr) (n1 c1 : Nat) (s1 : Int) (M1 : Option Addr) (m1 d1 : Nat) (E1 : Option Addr) (k1 g1 : Nat) (b2 o2 : Nat) (q : Int) (wr : World) : Prop where
  c0 : wr.cell? ⟨b, o, none⟩ = some (.slice A1 n1 c1)
  c1 : wr.cell? ⟨b, o + 1, none⟩ = some (.int .i64 s1)
  c2 : wr.cell? ⟨b, o + 2, none⟩ = some (.slice M1 m1 d1)
  c3 : wr.cell? ⟨b, o + 3, none⟩ = some (.slice E1 k1 g1)
  cq : wr.cell? ⟨b2, o2, none⟩ = some (.int .i64 q)
  bel : Below w.heap.size w wr
theorem rf_snoc {l : List Au} {k : Nat} {a : Au} {t : List Int} {e : Int} (ha : l[k]? = some a) : rfG (l.take (k + 1)) 0 t e = rfG (l.take k) 0 t e ++ (if e ∈ a.al ∧ stepO a (t.getD k 0) e = none then [(k : Int)] else []) := by
  rw [take_au ha, rfG_snoc, Nat.zero_add, List.length_take, Nat.min_eq_left (Nat.le_of_lt (List.getElem?_eq_some_iff.1 ha).1)]
theorem step_neg {a : Au} (h : RightW a) {q e : Int} : stepI a q e < 0 ↔ stepO a q e = none := by
  unfold stepI
  cases hs : stepO a q e with
  | none => simp
  | some t => have := (step_range h hs).1; simp; omega

set_option maxHeartbeats 8000000 in
set_option maxRecDepth 100000 in
theorem r6Refusers_any (A : Option Addr) (n c : Nat) (l : List Au) (A2 : Option Addr) (d : Nat) (t : List Int) (ev : Int) (w : World) (h : RdAs w w.heap.size A l) (hn : l.length = n) (hnb : n ≤ 1000) (h2 : RdI w w.heap.size A2 t) (hm : t.length = n) (hr : ∀ a ∈ l, RightW a) :
    Calls Tryd.prog 36 #[.slice A n c, .slice A2 n d, .int .i64 ev] w (Gives w (rfG l 0 t ev)) := by
  have HL := Lib.hid h
  have HN := Lib.hid hn
  have HT := Lib.hid h2
  have HM := Lib.hid hm
  have HRI := Lib.hid hr
  obtain ⟨iI, iI0, iI1, iI2, iI3⟩ := info_parts info_int
  clear h hn h2 hm hr
  go_enter Tryd.func36, Tryd.ntmps36
  go_wp2_with fail
  go_loopw [7, 8] (fun v i wr => ∃ k : Nat, k ≤ n ∧ i = .int .i64 k ∧ Hid (Own wr w.heap.size v (rfG (l.take k) 0 t ev)) ∧ Hid (Below w.heap.size w wr)) (fun _ i _ => n - (intOf i).toNat)
  case atStart => exact ⟨0, Nat.zero_le _, rfl, Lib.hid (World.ownsRow_nil _ _ _ _), Lib.hid (Below.refl _ _)⟩
  case round =>
    obtain ⟨k, hkn, rfl, hown, hbel⟩ := hrel
    by_cases hlt : k < n
    · obtain ⟨a, ha⟩ : ∃ a, l[k]? = some a := ⟨_, List.getElem?_eq_getElem (by rw [HN.out]; exact hlt)⟩
      obtain ⟨b, o, rfl, hb, hc⟩ := HL.out (by rw [HN.out]; omega)
      obtain ⟨A1, n1, c1, s1, M1, m1, d1, E1, k1, g1, h0, h1, h2, h3, hr⟩ := hc k a ha
      obtain ⟨b2, o2, rfl, hb2, hc2⟩ := HT.out (by rw [HM.out]; omega)
      obtain ⟨q, hq⟩ : ∃ q, q = t.getD k 0 := ⟨_, rfl⟩
      have hcq := hc2 k (by rw [HM.out]; exact hlt)
      rw [← hq] at hcq
      have HSf := Lib.hid (fun wx (hw : Below w.heap.size w wx) => (⟨(hw.cell (p := ⟨b, o + k * 4, none⟩) hb).trans h0, (hw.cell (p := ⟨b, o + k * 4 + 1, none⟩) hb).trans h1, (hw.cell (p := ⟨b, o + k * 4 + 2, none⟩) hb).trans h2, (hw.cell (p := ⟨b, o + k * 4 + 3, none⟩) hb).trans h3, (hw.cell (p := ⟨b2, o2 + k, none⟩) hb2).trans hcq, hw⟩ : RfS w b (o + k * 4) A1 n1 c1 s1 M1 m1 d1 E1 k1 g1 b2 (o2 + k) q wx))
      have HRa := HRI.out a (List.mem_of_getElem? ha)
      have HS := Lib.hid (rf_snoc (t := t) (e := ev) ha)
      rw [← hq] at HS
      have HAu := Lib.hid (fun wx (hw : Below w.heap.size w wx) => (hr.below hw (Nat.le_refl _)).more hw.size)
      have hbn := hr.bn
      have HCo := Lib.hid (fun wx (hw : Below w.heap.size w wx) => r1Has_any A1 n1 c1 wx.heap.size a.al ev wx (HAu.out wx hw).al hr.hn (by omega))
      have HNe := Lib.hid (fun wx (hw : Below w.heap.size w wx) => r6Next_any A1 n1 c1 s1 M1 m1 d1 E1 k1 g1 a q ev wx.heap.size wx (HAu.out wx hw) (Nat.le_refl _))
      obtain ⟨r1, hr1⟩ : ∃ r1, r1 = decide (ev ∈ a.al) := ⟨_, rfl⟩
      obtain ⟨nx, hnx⟩ : ∃ nx, nx = stepI a q ev := ⟨_, rfl⟩
      rw [← hr1] at HCo
      rw [← hnx] at HNe
      have w0 : (k : Int) < (n : Int) := by omega
      have w1 : (0 : Int) ≤ (k : Int) := by omega
      obtain ⟨p0, p1, p2, p3, pq, _⟩ := HSf.out wr hbel.out
      have hsn := step_neg HRa (q := q) (e := ev)
      rw [← hnx] at hsn
      have HR1 := Lib.hid hr1
      have HSN := Lib.hid hsn
      clear h0 h1 h2 h3 hc hc2 ha hr hcq hq hr1 hnx hsn HRa
      have hbd := Lib.hid hbel.out.drew
      cases r1
      · have hna := Lib.hid (show rfG (l.take (k + 1)) 0 t ev = rfG (l.take k) 0 t ev by rw [HS.out, if_neg (fun hh => by have := HR1.out; rw [decide_eq_true hh.1] at this; cases this), List.append_nil])
        have hod := Lib.hid (own_dr hown.out 1)
        go_wp2_with fail
        have HCq := Lib.hid (fun (q' : Nat) => by
          have := r1Has_any A1 n1 c1 (wr.drewN q').heap.size a.al ev (wr.drewN q') ((HAu.out wr hbel.out).al.dr q') (HAu.out wr hbel.out).hn (by omega)
          rw [← HR1.out] at this
          exact this.mono (R' := fun e w' => e = .returned (.bool false) ∧ w' = wr.drewN q') fun e w' h => ⟨h.1, h.2.symm⟩)
        have HBN := Lib.hid (fun (q' : Nat) => below_drewN hbel.out q')
        have HON := Lib.hid (fun (q' : Nat) => own_dr hown.out q')
        go_quiet ((go_at_call 62; exact Calls.quiet_of_same (HCq.out _)))
        go_wp2_with fail
        go_roundw
        case rel => exact ⟨k + 1, by omega, by go_num, by rw [hna.out]; exact Lib.hid (HON.out _), Lib.hid (HBN.out _)⟩
        case measure => simp [intOf] <;> omega
      · obtain ⟨K, hK⟩ : ∃ K, K = rfG (l.take k) 0 t ev := ⟨_, rfl⟩
        rw [← hK] at hown HS
        have hKl : K.length ≤ k := by rw [hK]; exact Nat.le_trans (rfG_len _ _ _ _) (List.length_take_le _ _)
        have hin : ev ∈ a.al := by have := HR1.out; simpa using this.symm
        by_cases hneg : nx < 0
        · have hna := Lib.hid (show rfG (l.take (k + 1)) 0 t ev = K ++ [(k : Int)] by rw [HS.out, if_pos ⟨hin, HSN.out.1 hneg⟩])
          clear hin hK
          go_wp2_with fail
          go_region_held3 (fun w' => w'.cell? ⟨b, o + k * 4, none⟩ = some (.slice A1 n1 c1) ∧ w'.cell? ⟨b, o + k * 4 + 1, none⟩ = some (.int .i64 s1) ∧ w'.cell? ⟨b, o + k * 4 + 2, none⟩ = some (.slice M1 m1 d1) ∧ w'.cell? ⟨b, o + k * 4 + 3, none⟩ = some (.slice E1 k1 g1) ∧ w'.cell? ⟨b2, o2 + k, none⟩ = some (.int .i64 q)) (first | with_reducible exact ⟨p0, p1, p2, p3, pq⟩ | go_keep)
            (first
            | (go_simp; go_at_call 62; (first | with_reducible refine (HCo.out _ hbel.out).mono ?_ | with_reducible refine (HCo.out _ hbd.out).mono ?_); rintro e w4 ⟨rfl, rfl⟩)
            | (go_simp; go_at_call 63; (first | with_reducible refine (HNe.out _ hbel.out).mono ?_ | with_reducible refine (HNe.out _ hbd.out).mono ?_); rintro e w5 ⟨rfl, hb5⟩
               have HB5 := Lib.hid (by first | exact hb5 | exact (Below.refl wr.heap.size wr).drew.trans hb5 : Below wr.heap.size wr w5)
               obtain ⟨p0, p1, p2, p3, pq, _⟩ := HSf.out w5 (hbel.out.trans (HB5.out.mono hbel.out.size))
               clear hb5))
          all_goals
            have HBW := Lib.hid (hbel.out.trans (HB5.out.mono hbel.out.size))
            have HO5 := Lib.hid (own_below hown.out HB5.out)
            have hz5 := HBW.out.size
            go_wp2_with (at_builtin; refine wpList_append_own _ rfl (.tmp 35) (.tmp 37) 27 rfl w.heap.size 3 iI (.int .i64 0) 1 8 Tryd.underlying27 iI0 iI1 iI2 iI3 rfl (by decide) _ K.length (K.map (Value.int .i64)) rfl (by first | exact HO5.out.alloc _ | exact (own_dr HO5.out 1).alloc _) _ 1 1 [.int .i64 (k : Int)] rfl rfl own_one (by intro u hu; simp at hu; subst hu; rfl) (by unfold maxLen; omega) (by omega) (by simp; omega) ?_; intro v10 w10 ho10 hg10 _)
            have R := own_app (K' := K ++ [(k : Int)]) rfl (by first | exact HBW.out | exact HBW.out.drew) (by first | exact HO5.out | exact own_dr HO5.out 1) ho10 hg10 (Nat.le_refl _)
            have R1 := Lib.hid R.1
            have R2 := Lib.hid R.2
            clear R ho10 hg10
            go_wp2_with fail
            go_roundw
            case rel => exact ⟨k + 1, by omega, by go_num, by rw [hna.out]; exact R1, R2⟩
            case measure => simp [intOf] <;> omega
        · have hna := Lib.hid (show rfG (l.take (k + 1)) 0 t ev = K by rw [HS.out, if_neg (fun hh => hneg (HSN.out.2 hh.2)), List.append_nil])
          clear hin hK
          go_wp2_with fail
          go_region_held3 (fun w' => w'.cell? ⟨b, o + k * 4, none⟩ = some (.slice A1 n1 c1) ∧ w'.cell? ⟨b, o + k * 4 + 1, none⟩ = some (.int .i64 s1) ∧ w'.cell? ⟨b, o + k * 4 + 2, none⟩ = some (.slice M1 m1 d1) ∧ w'.cell? ⟨b, o + k * 4 + 3, none⟩ = some (.slice E1 k1 g1) ∧ w'.cell? ⟨b2, o2 + k, none⟩ = some (.int .i64 q)) (first | with_reducible exact ⟨p0, p1, p2, p3, pq⟩ | go_keep)
            (first
            | (go_simp; go_at_call 62; (first | with_reducible refine (HCo.out _ hbel.out).mono ?_ | with_reducible refine (HCo.out _ hbd.out).mono ?_); rintro e w4 ⟨rfl, rfl⟩)
            | (go_simp; go_at_call 63; (first | with_reducible refine (HNe.out _ hbel.out).mono ?_ | with_reducible refine (HNe.out _ hbd.out).mono ?_); rintro e w5 ⟨rfl, hb5⟩
               have HB5 := Lib.hid (by first | exact hb5 | exact (Below.refl wr.heap.size wr).drew.trans hb5 : Below wr.heap.size wr w5)
               obtain ⟨p0, p1, p2, p3, pq, _⟩ := HSf.out w5 (hbel.out.trans (HB5.out.mono hbel.out.size))
               clear hb5))
          all_goals
            have HBW := Lib.hid (hbel.out.trans (HB5.out.mono hbel.out.size))
            have HO5 := Lib.hid (own_below hown.out HB5.out)
            go_wp2_with fail
            go_roundw
            case rel => exact ⟨k + 1, by omega, by go_num, by rw [hna.out]; first | exact HO5 | exact Lib.hid (own_dr HO5.out 1), by first | exact HBW | exact Lib.hid HBW.out.drew⟩
            case measure => simp [intOf] <;> omega
    · obtain rfl : k = n := by omega
      have hall : l.take k = l := List.take_of_length_le (by rw [HN.out]; exact Nat.le_refl _)
      rw [hall] at hown
      obtain ⟨A', c', he, hrd, q1, q2⟩ := own_rdc hown.out
      obtain ⟨lz, hlz⟩ : ∃ lz, lz = (rfG l 0 t ev).length := ⟨_, rfl⟩
      have HLZ := Lib.hid hlz
      have HRD := Lib.hid hrd
      rw [← hlz] at he
      subst he
      clear hall hown hrd hlz hlt hkn
      go_wp2_with fail
      go_ret
      exact ⟨A', c', by rw [← HLZ.out]; rfl, HRD.out, hbel.out⟩
end Go.Proofs.YtedleffmbddccaaDoor

/- Layer 6: Enabled of the reference. -/
namespace Go.Proofs.YtedleffmbddccaaDoor
open Go.RowKit Go.Sort

def enG (l : List Au) (t : List Int) (x : Int) : Bool := decide ((rfG l 0 t x).length = 0)
set_option maxHeartbeats 8000000 in
set_option maxRecDepth 100000 in
theorem r6Enabled_any (A : Option Addr) (n c : Nat) (l : List Au) (A2 : Option Addr) (d : Nat) (t : List Int) (w : World) (h : RdAs w w.heap.size A l) (hn : l.length = n) (hnb : n ≤ 1000) (h2 : RdI w w.heap.size A2 t) (hm : t.length = n) (hr : ∀ a ∈ l, RightW a) :
    Calls Tryd.prog 33 #[.slice A n c, .slice A2 n d] w (Gives w ((alT l).filter (enG l t))) := by
  have HAl := Lib.hid (r6Alphabet_any A n c l w h hn (by omega) hr)
  have HRf := Lib.hid (fun W (hW : Below w.heap.size w W) x => r6Refusers_any A n c l A2 d t x W ((h.below hW (Nat.le_refl _)).more hW.size) hn hnb ((h2.below hW (Nat.le_refl _)).more hW.size) hm hr)
  have ha32 := alT_len hr
  have HLE := Lib.hid (fun x => rfG_len l 0 t x)
  have HN := Lib.hid hn
  obtain ⟨iI, iI0, iI1, iI2, iI3⟩ := info_parts info_int
  clear h hn h2 hm hr
  go_enter Tryd.func33, Tryd.ntmps33
  go_wp2_with fail
  refine HAl.out.mono ?_
  rintro e w1 ⟨Ax, cx, rfl, hr1, hb1⟩
  obtain ⟨k5, hk5⟩ : ∃ k5, k5 = (alT l).length := ⟨_, rfl⟩
  have HK5 := Lib.hid hk5
  rw [← hk5] at ha32 ⊢
  have HX5 := Lib.hid hr1
  have HB5 := Lib.hid hb1
  clear hk5 hr1 hb1 HAl
  go_wp2_with fail
  go_loopw [5, 7] (fun v i wr => ∃ k : Nat, k ≤ k5 ∧ i = .int .i64 k ∧ Hid (Own wr w1.heap.size v (((alT l).take k).filter (enG l t))) ∧ Hid (Below w1.heap.size w1 wr)) (fun _ i _ => k5 - (intOf i).toNat)
  case atStart => exact ⟨0, Nat.zero_le _, rfl, Lib.hid (World.ownsRow_nil _ _ _ _), Lib.hid (Below.refl _ _)⟩
  case round =>
    obtain ⟨k, hkn, rfl, hown, hbel⟩ := hrel
    have hz5 := hbel.out.size
    by_cases hlt : k < k5
    · have hkl : k < (alT l).length := by rw [← HK5.out]; exact hlt
      obtain ⟨b, o, rfl, hb, hc⟩ := HX5.out (by omega)
      have r1 := (hbel.out.cell (p := ⟨b, o + k, none⟩) hb).trans (hc k hkl)
      obtain ⟨x, hx⟩ : ∃ x, x = (alT l).getD k 0 := ⟨_, rfl⟩
      rw [← hx] at r1
      have HBW := Lib.hid (HB5.out.trans (hbel.out.mono HB5.out.size))
      have HC := Lib.hid (HRf.out wr HBW.out x)
      have hyes := fun (hp : enG l t x = true) => filter_take_yes (p := enG l t) hkl (by rw [← hx]; exact hp)
      have hno := fun (hp : enG l t x = false) => filter_take_no (p := enG l t) hkl (by rw [← hx]; exact hp)
      have hkz : (0 : Int) ≤ (k : Int) := by omega
      have hkm : (k : Int) < (k5 : Int) := by omega
      rw [← hx] at hyes
      have HCE := Lib.hid (show w1.cell? ⟨b, o + k, none⟩ = some (.int .i64 x) by rw [hx]; exact hc k hkl)
      clear hc hx
      go_wp2_with fail
      refine HC.out.mono ?_
      rintro e w8 ⟨A8, c8, rfl, _, hb8⟩
      obtain ⟨lr, hlr⟩ : ∃ lr, lr = (rfG l 0 t x).length := ⟨_, rfl⟩
      rw [← hlr]
      have HO8 := Lib.hid (own_below hown.out hb8)
      have HB8 := Lib.hid (hbel.out.trans (hb8.mono hbel.out.size))
      have r2 := (HB8.out.cell (p := ⟨b, o + k, none⟩) hb).trans HCE.out
      clear hb8 HC hown hbel
      by_cases h0 : lr = 0
      · have HY := Lib.hid (hyes (by rw [enG, ← hlr]; exact decide_eq_true h0))
        obtain ⟨K, hK⟩ : ∃ K, K = ((alT l).take k).filter (enG l t) := ⟨_, rfl⟩
        rw [← hK] at HO8 HY
        have hKl : K.length ≤ k := by rw [hK]; exact Nat.le_trans (List.length_filter_le _ _) (List.length_take_le _ _)
        subst h0
        clear hyes hno hK hlr
        go_wp2_with (at_builtin; refine wpList_append_own _ rfl (.tmp 25) (.tmp 30) 27 rfl w1.heap.size 3 iI (.int .i64 0) 1 8 Tryd.underlying27 iI0 iI1 iI2 iI3 rfl (by decide) _ K.length (K.map (Value.int .i64)) rfl (HO8.out.alloc _) ⟨w8.heap.size, 0, none⟩ 1 1 [.int .i64 x] rfl rfl own_one (by intro u hu; simp at hu; subst hu; rfl) (by unfold maxLen; omega) (by omega) (by have := HB8.out.size; simp; omega) ?_; intro v10 w10 ho10 hg10 _)
        have R := own_app (K' := K ++ [x]) rfl HB8.out HO8.out ho10 hg10 (Nat.le_refl _)
        have R1 := Lib.hid R.1
        have R2 := Lib.hid R.2
        clear R ho10 hg10
        go_wp2_with fail
        go_roundw
        case rel => exact ⟨k + 1, by omega, by go_num, by rw [HY.out]; exact R1, R2⟩
        case measure => simp [intOf] <;> omega
      · have HY := Lib.hid (hno (by rw [enG, ← hlr]; exact decide_eq_false h0))
        have hb0 : ((lr : Int) == 0) = false := by simp; omega
        clear hyes hno h0 hlr
        go_wp2_with fail
        go_roundw
        case rel => exact ⟨k + 1, by omega, by go_num, by rw [HY.out]; exact HO8, HB8⟩
        case measure => simp [intOf] <;> omega
    · obtain rfl : k = k5 := by omega
      have hall : ((alT l).take k).filter (enG l t) = (alT l).filter (enG l t) := by rw [List.take_of_length_le (by rw [HK5.out]; exact Nat.le_refl _)]
      rw [hall] at hown
      obtain ⟨A', c', he, hrd, q1, q2⟩ := own_rdc hown.out
      obtain ⟨lz, hlz⟩ : ∃ lz, lz = ((alT l).filter (enG l t)).length := ⟨_, rfl⟩
      have HLZ := Lib.hid hlz
      have HRD := Lib.hid hrd
      have HBF := Lib.hid (HB5.out.trans (hbel.out.mono HB5.out.size))
      rw [← hlz] at he
      subst he
      clear hall hown hrd hlz hlt hkn
      go_wp2_with fail
      go_ret
      exact ⟨A', c', by rw [← HLZ.out]; rfl, HRD.out, HBF.out⟩
end Go.Proofs.YtedleffmbddccaaDoor
