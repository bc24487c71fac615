/- Texts merged: what follows were texts of their own. -/
import Derived.Test.YtedleffmbddccaaDoorZa7
import Derived.Test.YtedleffmbddccaaDoorZa5
import Derived.Test.YtedleffmbddccaaDoorZa2
import Derived.ProofKit
import Derived.OpenShut
import Derived.ShutString
import Derived.ChangeOld
import Derived.Below
import Derived.Deep.Slices
import Derived.Deep.Fields
/- Layer 6: the examples of the chapter hold. -/
namespace Go.Proofs.YtedleffmbddccaaDoor
open Go.RowKit Go.Sort

def twoP : Au := ⟨[0, 1, 2], 4, [0], [⟨0, 0, 1⟩, ⟨1, 1, 2⟩, ⟨2, 0, 3⟩, ⟨2, 2, 0⟩, ⟨3, 2, 1⟩]⟩
theorem lit_au (u : World) : AuR (((u.alloc (.cells #[.int .i64 0, .int .i64 1, .int .i64 2] 3)).alloc (.cells #[.int .i64 0] 3)).alloc (.cells #[.int .i64 0, .int .i64 0, .int .i64 1, .int .i64 1, .int .i64 1, .int .i64 2, .int .i64 2, .int .i64 0, .int .i64 3, .int .i64 2, .int .i64 2, .int .i64 0, .int .i64 3, .int .i64 2, .int .i64 1] 58))
    (((u.alloc (.cells #[.int .i64 0, .int .i64 1, .int .i64 2] 3)).alloc (.cells #[.int .i64 0] 3)).alloc (.cells #[.int .i64 0, .int .i64 0, .int .i64 1, .int .i64 1, .int .i64 1, .int .i64 2, .int .i64 2, .int .i64 0, .int .i64 3, .int .i64 2, .int .i64 2, .int .i64 0, .int .i64 3, .int .i64 2, .int .i64 1] 58)).heap.size
    (some ⟨u.heap.size, 0, none⟩) 3 3 4 (some ⟨u.heap.size + 1, 0, none⟩) 1 1 (some ⟨u.heap.size + 1 + 1, 0, none⟩) 5 5 twoP := by
  refine au_rows' (a := twoP) ?_ ?_ ?_ rfl rfl rfl rfl (by omega) (by omega) (by omega)
  · exact ((Row.newAt u [.int .i64 0, .int .i64 1, .int .i64 2] 3 rfl).alloc _).alloc _
  · exact (Row.newAt _ [.int .i64 0] 3 (by simp)).alloc _
  · exact Row.newAt _ (encE twoP.ed) 58 (by simp)
theorem lits_rdw (u : World) (g : Nat) (hg : u.heap.size = g) : RdW (((((u.alloc (.cells #[.int .i64 0, .int .i64 0] 3)).alloc (.cells #[.int .i64 1, .int .i64 0] 3)).alloc (.cells #[.int .i64 0, .int .i64 1] 3)).alloc (.cells #[.int .i64 1, .int .i64 1] 3)).alloc (.cells #[.slice (some ⟨g, 0, none⟩) 2 2, .slice (some ⟨g + 1, 0, none⟩) 2 2, .slice (some ⟨g + 1 + 1, 0, none⟩) 2 2, .slice (some ⟨g + 1 + 1 + 1, 0, none⟩) 2 2] 27))
    (((((u.alloc (.cells #[.int .i64 0, .int .i64 0] 3)).alloc (.cells #[.int .i64 1, .int .i64 0] 3)).alloc (.cells #[.int .i64 0, .int .i64 1] 3)).alloc (.cells #[.int .i64 1, .int .i64 1] 3)).alloc (.cells #[.slice (some ⟨g, 0, none⟩) 2 2, .slice (some ⟨g + 1, 0, none⟩) 2 2, .slice (some ⟨g + 1 + 1, 0, none⟩) 2 2, .slice (some ⟨g + 1 + 1 + 1, 0, none⟩) 2 2] 27)).heap.size
    (some ⟨g + 1 + 1 + 1 + 1, 0, none⟩) [[0, 0], [1, 0], [0, 1], [1, 1]] := by
  subst hg
  have R := Row.newAt ((((u.alloc (.cells #[.int .i64 0, .int .i64 0] 3)).alloc (.cells #[.int .i64 1, .int .i64 0] 3)).alloc (.cells #[.int .i64 0, .int .i64 1] 3)).alloc (.cells #[.int .i64 1, .int .i64 1] 3)) [.slice (some ⟨u.heap.size, 0, none⟩) 2 2, .slice (some ⟨u.heap.size + 1, 0, none⟩) 2 2, .slice (some ⟨u.heap.size + 1 + 1, 0, none⟩) 2 2, .slice (some ⟨u.heap.size + 1 + 1 + 1, 0, none⟩) 2 2] 27 (g := u.heap.size + 1 + 1 + 1 + 1) (by simp)
  intro _
  refine ⟨_, 0, rfl, R.lt, fun j hj => ?_⟩
  match j, hj with
  | 0, _ => exact ⟨_, 2, R.cell 0 rfl, Row.rd (zs := [0, 0]) (((((Row.newAt u [.int .i64 0, .int .i64 0] 3 rfl).alloc _).alloc _).alloc _).alloc _), Nat.le_refl _, by omega⟩
  | 1, _ => exact ⟨_, 2, R.cell 1 rfl, Row.rd (zs := [1, 0]) ((((Row.newAt _ [.int .i64 1, .int .i64 0] 3 (by simp)).alloc _).alloc _).alloc _), Nat.le_refl _, by omega⟩
  | 2, _ => exact ⟨_, 2, R.cell 2 rfl, Row.rd (zs := [0, 1]) (((Row.newAt _ [.int .i64 0, .int .i64 1] 3 (by simp)).alloc _).alloc _), Nat.le_refl _, by omega⟩
  | 3, _ => exact ⟨_, 2, R.cell 3 rfl, Row.rd (zs := [1, 1]) ((Row.newAt _ [.int .i64 1, .int .i64 1] 3 (by simp)).alloc _), Nat.le_refl _, by omega⟩
  | j + 4, hj => simp at hj; omega

set_option maxHeartbeats 8000000 in
set_option maxRecDepth 100000 in
theorem known_any (w : World) (hT : TabAt 0 Lib.deBruijn32tab w) (hz : 0 < w.heap.size) : Calls Tryd.prog 13 #[] w fun e w' => e = .returned (.bool true) ∧ Below w.heap.size w w' := by
  have HTW := Lib.hid (fun W => two_any W)
  have HTB := Lib.hid (fun W (hW : Below w.heap.size w W) => tab_below hT hW hz)
  have HZ := Lib.hid hz
  clear hT hz
  go_enter Tryd.func13, Tryd.ntmps13
  go_wp2_with fail
  refine (HTW.out w).mono ?_
  rintro e w1 ⟨A1, rfl, hA1, hb1⟩
  have HS := Lib.hid (pSync_any A1 2 2 twoL w1 hA1 rfl)
  rw [two_syn] at HS
  have HB1 := Lib.hid hb1
  clear hA1 hb1
  go_wp2_with fail
  refine HS.out.mono ?_
  rintro e w2 ⟨v, vt, hs, rfl, hau, hTL, hmap, hb2⟩
  obtain ⟨At, ct, rfl, hrw⟩ := hTL.rdw
  rw [hmap] at hrw
  have hlen : hs.length = 4 := by have := congrArg List.length hmap; simpa using this
  rw [hlen]
  obtain ⟨A, n, c, s, M, m, d, E, k, g, rfl, hr, _⟩ := hau
  have HB2 := Lib.hid (HB1.out.trans (hb2.mono HB1.out.size))
  have HR2 := Lib.hid hr
  have HW2 := Lib.hid hrw
  have HBX := Lib.hid (Row.new w2 [.slice A n c, .int .i64 s, .slice M m d, .slice E k g] 34)
  have HB3 := Lib.hid ((Below.refl w2.heap.size w2).alloc (Nat.le_refl _) (.cells #[.slice A n c, .int .i64 s, .slice M m d, .slice E k g] 34))
  obtain ⟨b1, hb1⟩ : ∃ b1, b1 = w2.heap.size := ⟨_, rfl⟩
  clear hTL hmap hlen hb2 hr hrw HS HB1
  go_wp2_with fail
  refine (HTW.out _).mono ?_
  rintro e w4 ⟨A4, rfl, hA4, hb4⟩
  have HB4 := Lib.hid (HB3.out.trans (hb4.mono HB3.out.size))
  have HBX4 := Lib.hid (HBX.out.below hb4 HBX.out.lt)
  have HA4 := Lib.hid hA4
  clear hA4 hb4 HBX HB3
  have HB5 := Lib.hid (HB2.out.trans (HB4.out.mono HB2.out.size))
  have HR00 := Lib.hid (Row.new w4 [.int .i64 0, .int .i64 0] 3)
  have HB4a := Lib.hid ((Below.refl w4.heap.size w4).alloc (Nat.le_refl _) (.cells #[.int .i64 0, .int .i64 0] 3))
  have HRf := Lib.hid (pRefusers_any A4 2 2 twoL (some ⟨w4.heap.size, 0, none⟩) 2 2 [0, 0] 2 (w4.alloc (.cells #[.int .i64 0, .int .i64 0] 3)) ((HA4.out.below HB4a.out (Nat.le_refl _)).more HB4a.out.size) rfl (Row.rd (zs := [0, 0]) HR00.out) rfl (HTB.out _ (HB5.out.alloc HB5.out.size _)) (by simp))
  rw [two_ref, two_cs] at HRf
  go_wp2_with fail
  refine HRf.out.mono ?_
  rintro e w5 ⟨A5, c5, rfl, hr5, hb5, _, _⟩
  have HB6 := Lib.hid (HB4.out.trans ((HB4a.out.trans (hb5.mono HB4a.out.size)).mono HB4.out.size))
  have HBX5 := Lib.hid ((HBX4.out.alloc _).below hb5 (HBX4.out.alloc (.cells #[.int .i64 0, .int .i64 0] 3)).lt)
  have HL5 := Lib.hid hr5
  clear hr5 hb5 HR00 HB4a HRf HB4 HBX4 HA4 HB5
  have HCo := Lib.hid (pCompose_any none 0 0 [] w5 (fun h => absurd h (by simp)) rfl)
  rw [nil_syn] at HCo
  go_wp2_with fail
  refine HCo.out.mono ?_
  rintro e w6 ⟨v6, rfl, hau6, hb6⟩
  obtain ⟨A6, n6, c6, s6, M6, m6, d6, E6, k6, g6, rfl, hr6, _⟩ := hau6
  have hs6 := hr6.st
  have hm6 := hr6.hm
  simp only [List.length_cons, List.length_nil] at hm6
  obtain rfl : s6 = 1 := hs6.symm
  obtain rfl : m6 = 1 := by omega
  have HB7 := Lib.hid (HB6.out.trans (hb6.mono HB6.out.size))
  have HBX6 := Lib.hid (HBX5.out.below hb6 HBX5.out.lt)
  have HL6 := Lib.hid ((HL5.out.below hb6 (Nat.le_refl _)).more hb6.size)
  have HM6 := Lib.hid hr6.mr
  have HBO := Lib.hid (Row.new w6 [.slice A6 n6 c6, .int .i64 1, .slice M6 1 d6, .slice E6 k6 g6] 34)
  clear hs6 hr6 hb6 HB6 HBX5 HL5 HCo
  obtain ⟨o6, ho6⟩ : ∃ o6, o6 = Obj.cells #[.slice A6 n6 c6, .int .i64 1, .slice M6 1 d6, .slice E6 k6 g6] 34 := ⟨_, rfl⟩
  have HO6 := Lib.hid ho6
  have HLit := Lib.hid (lits_rdw (w6.alloc o6) (w6.heap.size + 1) (by simp))
  have HBa := Lib.hid ((((((Below.refl w6.heap.size w6).alloc (Nat.le_refl _) o6).alloc (by simp) (.cells #[.int .i64 0, .int .i64 0] 3)).alloc (by simp; omega) (.cells #[.int .i64 1, .int .i64 0] 3)).alloc (by simp; omega) (.cells #[.int .i64 0, .int .i64 1] 3)).alloc (by simp; omega) (.cells #[.int .i64 1, .int .i64 1] 3))
  have HBb := Lib.hid (HBa.out.alloc (by simp; omega) (.cells #[.slice (some ⟨w6.heap.size + 1, 0, none⟩) 2 2, .slice (some ⟨w6.heap.size + 1 + 1, 0, none⟩) 2 2, .slice (some ⟨w6.heap.size + 1 + 1 + 1, 0, none⟩) 2 2, .slice (some ⟨w6.heap.size + 1 + 1 + 1 + 1, 0, none⟩) 2 2] 27))
  have HRO := Lib.hid (((((HBO.out.alloc (.cells #[.int .i64 0, .int .i64 0] 3)).alloc (.cells #[.int .i64 1, .int .i64 0] 3)).alloc (.cells #[.int .i64 0, .int .i64 1] 3)).alloc (.cells #[.int .i64 1, .int .i64 1] 3)).alloc (.cells #[.slice (some ⟨w6.heap.size + 1, 0, none⟩) 2 2, .slice (some ⟨w6.heap.size + 1 + 1, 0, none⟩) 2 2, .slice (some ⟨w6.heap.size + 1 + 1 + 1, 0, none⟩) 2 2, .slice (some ⟨w6.heap.size + 1 + 1 + 1 + 1, 0, none⟩) 2 2] 27))
  rw [show #[Value.slice A6 n6 c6, .int .i64 1, .slice M6 1 d6, .slice E6 k6 g6] = [Value.slice A6 n6 c6, .int .i64 1, .slice M6 1 d6, .slice E6 k6 g6].toArray from rfl] at ho6
  rw [← ho6] at HRO
  subst ho6
  clear HBa HO6
  have HSA := Lib.hid (sameAll_any At (some ⟨w6.heap.size + 1 + 1 + 1 + 1 + 1, 0, none⟩) 4 4 ct 4 _ _ _ (((HW2.out.below HB7.out (Nat.le_refl _)).more HB7.out.size).below HBb.out (Nat.le_refl _) |>.more HBb.out.size) HLit.out rfl rfl (by omega) (by omega) (by decide) (by decide))
  go_wp2_with fail
  refine HSA.out.mono ?_
  rintro e w7 ⟨rfl, q7, rfl⟩
  have HBc := Lib.hid (below_drewN HBb.out q7)
  have HBX7 := Lib.hid (HBX6.out.below HBc.out HBX6.out.lt)
  have HRO7 := Lib.hid (HRO.out.drewN q7)
  have HB8 := Lib.hid (HB7.out.trans (HBc.out.mono HB7.out.size))
  have HR7 := Lib.hid ((HR2.out.below HB8.out (Nat.le_refl _)).more HB8.out.size)
  have HL7 := Lib.hid ((HL6.out.below HBc.out (Nat.le_refl _)).more HBc.out.size)
  have HM7 := Lib.hid ((HM6.out.below HBc.out (Nat.le_refl _)).more HBc.out.size)
  clear HBb HRO HLit HSA HBc HBX6 HB7 HR2 HW2 HL6 HM6 HBO
  generalize World.drewN _ q7 = w7 at *
  have p0 := HBX7.out.cell 0 rfl
  have p1 := HBX7.out.cell 1 rfl
  have p2 := HBX7.out.cell 2 rfl
  have p3 := HBX7.out.cell 3 rfl
  rw [show decide True = true from rfl]
  go_wp2_with fail
  have HLA := Lib.hid (lit_au w7)
  have HBd := Lib.hid ((((Below.refl w7.heap.size w7).alloc (Nat.le_refl _) (.cells #[.int .i64 0, .int .i64 1, .int .i64 2] 3)).alloc (by simp) (.cells #[.int .i64 0] 3)).alloc (by simp; omega) (.cells #[.int .i64 0, .int .i64 0, .int .i64 1, .int .i64 1, .int .i64 1, .int .i64 2, .int .i64 2, .int .i64 0, .int .i64 3, .int .i64 2, .int .i64 2, .int .i64 0, .int .i64 3, .int .i64 2, .int .i64 1] 58))
  refine (mEqual_any A n c s M m d E k g (some ⟨w7.heap.size, 0, none⟩) 3 3 4 (some ⟨w7.heap.size + 1, 0, none⟩) 1 1 (some ⟨w7.heap.size + 1 + 1, 0, none⟩) 5 5 twoP twoP _ _ ((HR7.out.below HBd.out (Nat.le_refl _)).more HBd.out.size) HLA.out (Nat.le_refl _)).mono ?_
  rintro e w9 ⟨rfl, hb9⟩
  have HB9 := Lib.hid (HBd.out.trans (hb9.mono HBd.out.size))
  have HRO9 := Lib.hid (HRO7.out.below HB9.out HRO7.out.lt)
  have HB10 := Lib.hid (HB8.out.trans (HB9.out.mono HB8.out.size))
  have HL9 := Lib.hid ((HL7.out.below HB9.out (Nat.le_refl _)).more HB9.out.size)
  have HM9 := Lib.hid ((HM7.out.below HB9.out (Nat.le_refl _)).more HB9.out.size)
  clear p0 p1 p2 p3 hb9 HBd HLA HB9 HRO7 HB8 HL7 HM7 HR7 HBX7
  rw [show decide (twoP = twoP) = true from decide_eq_true rfl]
  have HBe := Lib.hid ((Below.refl w9.heap.size w9).alloc (Nat.le_refl _) (.cells #[.int .i64 1] 3))
  have HSm := Lib.hid (l6same_any A5 (some ⟨w9.heap.size, 0, none⟩) 1 1 c5 1 _ _ [1] [1] (w9.alloc (.cells #[.int .i64 1] 3)) ((HL9.out.below HBe.out (Nat.le_refl _)).more HBe.out.size) (Row.rd (zs := [1]) (Row.new w9 [.int .i64 1] 3)) rfl rfl (by omega) (by omega))
  go_wp2_with fail
  refine HSm.out.mono ?_
  rintro e w10 ⟨rfl, q10, rfl⟩
  have HBf := Lib.hid (below_drewN HBe.out q10)
  have HRO10 := Lib.hid (HRO9.out.below HBf.out HRO9.out.lt)
  have HB11 := Lib.hid (HB10.out.trans (HBf.out.mono HB10.out.size))
  have HM10 := Lib.hid ((HM9.out.below HBf.out (Nat.le_refl _)).more HBf.out.size)
  clear HSm HBe HBf HRO9 HB10 HL9 HM9
  generalize World.drewN _ q10 = w10 at *
  have r1 := HRO10.out.cell 1 rfl
  have r2 := HRO10.out.cell 2 rfl
  rw [show decide True = true from rfl]
  have HBg := Lib.hid ((Below.refl w10.heap.size w10).alloc (Nat.le_refl _) (.cells #[.int .i64 0] 3))
  have HSn := Lib.hid (l6same_any M6 (some ⟨w10.heap.size, 0, none⟩) 1 1 d6 1 _ _ [0] [0] (w10.alloc (.cells #[.int .i64 0] 3)) ((HM10.out.below HBg.out (Nat.le_refl _)).more HBg.out.size) (Row.rd (zs := [0]) (Row.new w10 [.int .i64 0] 3)) rfl rfl (by omega) (by omega))
  go_wp2_with fail
  refine HSn.out.mono ?_
  rintro e w11 ⟨rfl, q11, rfl⟩
  have HBh := Lib.hid (below_drewN HBg.out q11)
  have HB12 := Lib.hid (HB2.out.trans ((HB11.out.trans (HBh.out.mono HB11.out.size)).mono HB2.out.size))
  clear HSn HBg HBh HRO10 HB11 HM10 r1 r2
  generalize World.drewN _ q11 = w11 at *
  rw [show decide True = true from rfl]
  go_wp2_with fail
  go_ret
  exact ⟨rfl, HB12.out⟩
end Go.Proofs.YtedleffmbddccaaDoor

/- Layer 3: what is told of arguments that came in: an automaton, a slice of ints. -/
namespace Go.Proofs.YtedleffmbddccaaDoor
open Go.ChangeShapes Go.WideShapes Go.ChangeAt Go.RowKit Go.Deep
open Go.ChangeMaps (open_string shut_string)

theorem own : ownKnob Tryd.prog.godebug = none := by kernel_rfl
theorem laidOut : laidOutB Tryd.prog = true := by kernel_rfl

/-- A slice of ints that came in. -/
structure SlI (W : World) (v : Value) (A : Option Addr) (n c : Nat) (zs : List Int) : Prop where
  eq : v = .slice A n c
  len : zs.length = n
  rd : RdI W W.heap.size A zs
  wf : ∀ z ∈ zs, (Lit.int .i64 z).wf = true
  cap : n ≤ c
  top : c ≤ 9223372036854775807

section
variable {H : Type} {enc : TypeId × Value → H} {W : World} {a0 : Option Addr} {len cap : Nat} {d : DataW H} {p : List MemPlace}

set_option maxRecDepth 8000 in
theorem open_rdI (h : DataW.Trod enc Tryd.prog W 0 (fun _ => true) true 27 (.slice a0 len cap) d p) (hlt : ∀ x ∈ p, x.block < W.heap.size) :
    ∃ zs : List Int, zs.length = len ∧ RdI W W.heap.size a0 zs ∧ (∀ z ∈ zs, (Lit.int .i64 z).wf = true) ∧ len ≤ maxLen := by
  obtain ⟨fuel, hf⟩ := h
  rcases open_ints Tryd.underlying27 Tryd.underlying3 (by kernel_rfl) hf with ⟨hcs, _⟩ | ⟨a, l, c, zs, hcs, _, hl, hm, hz, hx, hcell, hwz⟩
  · simp [Value.cells] at hcs
    obtain ⟨rfl, rfl, rfl⟩ := hcs
    exact ⟨[], rfl, RdI.nil _ _ _, by simp, by unfold maxLen; omega⟩
  · simp [Value.cells] at hcs
    obtain ⟨rfl, rfl, rfl⟩ := hcs
    simp only [Prod.mk.injEq] at hx
    obtain ⟨rfl, rfl⟩ := hx
    simp only [if_true] at hz
    refine ⟨zs.take len, by rw [List.length_take]; omega, fun h0 => ?_, fun z hz' => hwz z (List.mem_of_mem_take hz'), by omega⟩
    rw [List.length_take] at h0
    obtain ⟨b, off, spot⟩ := a
    have hspot : spot = none := by simpa [Addr.add] using World.cell?_spot (hcell 0 (by omega))
    subst hspot
    refine ⟨b, off, rfl, hlt (.cell b off) (MemPlace.mem_row.2 ⟨0, by omega, by simp⟩), fun j hj => ?_⟩
    rw [List.length_take] at hj
    rw [← add_plain, hcell j (by omega)]
    simp [List.getD, show j < len by omega]

set_option maxRecDepth 8000 in
theorem open_rdG (h : DataW.Trod enc Tryd.prog W 0 (fun _ => true) true 32 (.slice a0 len cap) d p) (hlt : ∀ x ∈ p, x.block < W.heap.size) :
    ∃ l : List Ed, l.length = len ∧ RdG W W.heap.size a0 l ∧ len ≤ maxLen := by
  obtain ⟨fuel, hf⟩ := h
  rcases open_slice Tryd.underlying32 hf with ⟨hcs, _⟩ | ⟨a, l, c, m, n, D, Pl, hcs, _, hl, hm, hmm, hx, hi⟩
  · simp [Value.cells] at hcs
    obtain ⟨rfl, rfl, rfl⟩ := hcs
    exact ⟨[], rfl, fun h => absurd h (by simp), by unfold maxLen; omega⟩
  · simp [Value.cells] at hcs
    obtain ⟨rfl, rfl, rfl⟩ := hcs
    have h5 : Tryd.prog.cellsOf 58 = 3 := by kernel_rfl
    simp only [if_true] at hmm
    have each : ∀ j, j < m → ∃ x : Ed, W.cell? (a.add (j * 3)) = some (.int .i64 x.f) ∧ W.cell? ((a.add (j * 3)).add 1) = some (.int .i64 x.e) ∧ W.cell? ((a.add (j * 3)).add 2) = some (.int .i64 x.t) := by
      intro j hj
      obtain ⟨cs', hc, ht⟩ := hi j hj
      rw [h5] at hc
      obtain ⟨_, hcl, hat⟩ := World.cells?_some hc
      obtain ⟨ys, n', _, _, _, hyl, hfd⟩ := DataW.trod_struct Tryd.underlying58 ht
      match cs', hcl with
      | [c0, c1, c2], _ =>
        match ys, hyl with
        | [y0, y1, y2], _ =>
          have f0 : DataW.trod enc Tryd.prog W 0 (fun _ => true) true n' 3 (([c0, c1, c2].drop 0).take (Tryd.prog.cellsOf 3)) = some y0 := hfd 0 _ rfl
          have f1 : DataW.trod enc Tryd.prog W 0 (fun _ => true) true n' 3 (([c0, c1, c2].drop 1).take (Tryd.prog.cellsOf 3)) = some y1 := hfd 1 _ rfl
          have f2 : DataW.trod enc Tryd.prog W 0 (fun _ => true) true n' 3 (([c0, c1, c2].drop 2).take (Tryd.prog.cellsOf 3)) = some y2 := hfd 2 _ rfl
          have k3 : Tryd.prog.cellsOf 3 = 1 := by kernel_rfl
          rw [k3] at f0 f1 f2
          obtain ⟨q0, e0, _, _⟩ := DataW.trod_int Tryd.underlying3 f0
          obtain ⟨q1, e1, _, _⟩ := DataW.trod_int Tryd.underlying3 f1
          obtain ⟨q2, e2, _, _⟩ := DataW.trod_int Tryd.underlying3 f2
          simp only [List.drop, List.take, List.cons.injEq, and_true] at e0 e1 e2
          subst e0 e1 e2
          refine ⟨⟨q0, q1, q2⟩, ?_, hat 1 (by omega), hat 2 (by omega)⟩
          have := hat 0 (by omega)
          simpa [Addr.add] using this
    have each' : ∀ j : Nat, ∃ x : Ed, j < m → W.cell? (a.add (j * 3)) = some (.int .i64 x.f) ∧ W.cell? ((a.add (j * 3)).add 1) = some (.int .i64 x.e) ∧ W.cell? ((a.add (j * 3)).add 2) = some (.int .i64 x.t) := by
      intro j
      by_cases hj : j < m
      · obtain ⟨x, hx⟩ := each j hj
        exact ⟨x, fun _ => hx⟩
      · exact ⟨⟨0, 0, 0⟩, fun h => absurd h hj⟩
    obtain ⟨E, hE⟩ := Classical.axiomOfChoice each'
    refine ⟨(List.range len).map E, by simp, fun h0 => ?_, by omega⟩
    have h0' : 0 < len := by simpa using h0
    obtain ⟨b, off, spot⟩ := a
    have hspot : spot = none := by simpa [Addr.add] using World.cell?_spot (hE 0 (by omega)).1
    subst hspot
    simp only [Prod.mk.injEq] at hx
    obtain ⟨rfl, rfl⟩ := hx
    refine ⟨b, off, rfl, hlt (.cell b off) (List.mem_append_left _ (MemPlace.mem_row.2 ⟨0, by rw [h5]; omega, by simp⟩)), fun j x hj => ?_⟩
    rw [List.getElem?_map] at hj
    by_cases hjl : j < len
    · rw [List.getElem?_range hjl] at hj
      simp only [Option.map_some, Option.some.injEq] at hj
      subst hj
      obtain ⟨g0, g1, g2⟩ := hE j (by omega)
      simp only [add_plain] at g0 g1 g2
      exact ⟨g0, g1, g2⟩
    · rw [List.getElem?_eq_none (by simp; omega)] at hj
      cases hj
theorem cap_ints (h : DataW.Trod enc Tryd.prog W 0 (fun _ => true) true 27 (.slice a0 len cap) d p) : len ≤ cap := by
  obtain ⟨fuel, hf⟩ := h
  rcases open_slice Tryd.underlying27 hf with ⟨hcs, _⟩ | ⟨a, l, c, m, n, D, Pl, hcs, _, hl, _⟩
  · simp [Value.cells] at hcs; omega
  · simp [Value.cells] at hcs; omega
end

section
variable {H : Type} {enc : TypeId × Value → H} {W : World} {d : DataW H} {p : List MemPlace} {v : Value} {base : Nat}
set_option maxRecDepth 8000 in
theorem open_sl {n : Nat} {c : Value} {y : DataW H × List MemPlace} (hf : DataW.trod enc Tryd.prog W 0 (fun _ => true) true n 27 [c] = some y) (hlt : ∀ x ∈ y.2, x.block < W.heap.size) : ∃ A len cap zs, SlI W c A len cap zs := by
  rcases open_ints Tryd.underlying27 Tryd.underlying3 (by kernel_rfl) hf with ⟨hcs, _⟩ | ⟨a, l, cp, zs, hcs, _, hl, hm, _⟩
  · simp at hcs
    subst hcs
    exact ⟨none, 0, 0, [], rfl, rfl, RdI.nil _ _ _, by simp, Nat.le_refl _, by omega⟩
  · simp at hcs
    subst hcs
    have ht : DataW.Trod enc Tryd.prog W 0 (fun _ => true) true 27 (.slice (some a) l cp) y.1 y.2 := ⟨n, hf⟩
    obtain ⟨z, e1, e2, e3, _⟩ := open_rdI ht hlt
    exact ⟨some a, l, cp, z, rfl, e1, e2, e3, hl, by unfold maxLen at hm; omega⟩
/-- A slice of edges that came in. -/
structure SlG (W : World) (v : Value) (A : Option Addr) (n c : Nat) (l : List Ed) : Prop where
  eq : v = .slice A n c
  len : l.length = n
  rd : RdG W W.heap.size A l
  cap : n ≤ c
  top : c ≤ 9223372036854775807
set_option maxRecDepth 8000 in
theorem open_slG {n : Nat} {c : Value} {y : DataW H × List MemPlace} (hf : DataW.trod enc Tryd.prog W 0 (fun _ => true) true n 32 [c] = some y) (hlt : ∀ x ∈ y.2, x.block < W.heap.size) : ∃ A len cap zs, SlG W c A len cap zs := by
  rcases open_slice Tryd.underlying32 hf with ⟨hcs, _⟩ | ⟨a, l, cp, m, n', D, Pl, hcs, _, hl, hm, _⟩
  · simp at hcs
    subst hcs
    exact ⟨none, 0, 0, [], rfl, rfl, RdG.nil _ _ _, Nat.le_refl _, by omega⟩
  · simp at hcs
    subst hcs
    have ht : DataW.Trod enc Tryd.prog W 0 (fun _ => true) true 32 (.slice (some a) l cp) y.1 y.2 := ⟨n, hf⟩
    obtain ⟨z, e1, e2, _⟩ := open_rdG ht hlt
    exact ⟨some a, l, cp, z, rfl, e1, e2, hl, by unfold maxLen at hm; omega⟩
/-- An automaton that came in, of any size. -/
structure AuI (W : World) (A : Option Addr) (n c : Nat) (s : Int) (M : Option Addr) (m d : Nat) (E : Option Addr) (k g : Nat) (a : Au) : Prop where
  al : RdI W W.heap.size A a.al
  mr : RdI W W.heap.size M a.mr
  ed : RdG W W.heap.size E a.ed
  hn : a.al.length = n
  hm : a.mr.length = m
  hk : a.ed.length = k
  st : a.st = s
  cn : n ≤ c ∧ c ≤ 9223372036854775807
  cm : m ≤ d ∧ d ≤ 9223372036854775807
  ck : k ≤ g ∧ g ≤ 9223372036854775807
  wf : (Lit.int .i64 s).wf = true
theorem AuI.r {W : World} {A : Option Addr} {n c : Nat} {s : Int} {M : Option Addr} {m d : Nat} {E : Option Addr} {k g : Nat} {a : Au} (h : AuI W A n c s M m d E k g a) (h1 : n ≤ 12) (h2 : m ≤ 12) (h3 : k ≤ 12) : AuR W W.heap.size A n c s M m d E k g a :=
  { al := h.al, mr := h.mr, ed := h.ed, hn := h.hn, hm := h.hm, hk := h.hk, st := h.st, cn := h.cn, cm := h.cm, ck := h.ck, bn := by omega, bm := by omega, bk := by omega }
set_option maxRecDepth 8000 in
theorem open_aut (hval : Value.okWide Tryd.prog W .any base 34 v) (h : DataW.Trod enc Tryd.prog W 0 (fun _ => true) true 34 v d p) (hlt : ∀ x ∈ p, x.block < W.heap.size) :
    ∃ A n c s M m d' E k g a, v = .agg #[.slice A n c, .int .i64 s, .slice M m d', .slice E k g] ∧ AuI W A n c s M m d' E k g a := by
  obtain ⟨cs, rfl, hsz⟩ := okWide_struct Tryd.underlying34 hval
  have h4 : Tryd.prog.cellsOf 34 = 4 := by kernel_rfl
  have h1 : Tryd.prog.cellsOf 27 = 1 := by kernel_rfl
  have h2 : Tryd.prog.cellsOf 3 = 1 := by kernel_rfl
  have h3 : Tryd.prog.cellsOf 32 = 1 := by kernel_rfl
  rw [h4] at hsz
  obtain ⟨fuel, hf⟩ := h
  obtain ⟨ys, n', _, hx, _, hyl, hfd⟩ := DataW.trod_struct Tryd.underlying34 hf
  obtain ⟨l⟩ := cs
  match l, hsz with
  | [s0, s1, s2, s3], _ =>
    match ys, hyl with
    | [y0, y1, y2, y3], _ =>
      have f0 : DataW.trod enc Tryd.prog W 0 (fun _ => true) true n' 27 (([s0, s1, s2, s3].drop 0).take (Tryd.prog.cellsOf 27)) = some y0 := hfd 0 _ rfl
      have f1 : DataW.trod enc Tryd.prog W 0 (fun _ => true) true n' 3 (([s0, s1, s2, s3].drop 1).take (Tryd.prog.cellsOf 3)) = some y1 := hfd 1 _ rfl
      have f2 : DataW.trod enc Tryd.prog W 0 (fun _ => true) true n' 27 (([s0, s1, s2, s3].drop 2).take (Tryd.prog.cellsOf 27)) = some y2 := hfd 2 _ rfl
      have f3 : DataW.trod enc Tryd.prog W 0 (fun _ => true) true n' 32 (([s0, s1, s2, s3].drop 3).take (Tryd.prog.cellsOf 32)) = some y3 := hfd 3 _ rfl
      rw [h1] at f0 f2
      rw [h2] at f1
      rw [h3] at f3
      injection hx with hx1 hx2
      subst hx2
      obtain ⟨A, n, c, za, SA⟩ := open_sl (c := s0) f0 (fun x hx => hlt x (by simp [hx]))
      obtain ⟨q, e1, _, hq⟩ := DataW.trod_int Tryd.underlying3 f1
      obtain ⟨M, m, dd, zm, SM⟩ := open_sl (c := s2) f2 (fun x hx => hlt x (by simp [hx]))
      obtain ⟨E, k, g, ze, SE⟩ := open_slG (c := s3) f3 (fun x hx => hlt x (by simp [hx]))
      simp only [List.drop, List.take, List.cons.injEq, and_true] at e1
      refine ⟨A, n, c, q, M, m, dd, E, k, g, ⟨za, q, zm, ze⟩, by rw [SA.eq, SM.eq, SE.eq, e1], SA.rd, SM.rd, SE.rd, SA.len, SM.len, SE.len, rfl, ⟨SA.cap, SA.top⟩, ⟨SM.cap, SM.top⟩, ⟨SE.cap, SE.top⟩, hq⟩
end
end Go.Proofs.YtedleffmbddccaaDoor

/- Layer 6: Find of the program. -/
namespace Go.Proofs.YtedleffmbddccaaDoor
open Go.ChangeShapes Go.WideShapes Go.ChangeAt Go.RowKit Go.Deep
open Go.Sort

section
variable {H : Type} {enc : TypeId × Value → H} {W : World} {a0 : Option Addr} {len cap : Nat} {d : DataW H} {p : List MemPlace}
set_option maxRecDepth 8000 in
theorem open_rdW (h : DataW.Trod enc Tryd.prog W 0 (fun _ => true) true 35 (.slice a0 len cap) d p) (hlt : ∀ x ∈ p, x.block < W.heap.size) :
    ∃ zs : List (List Int), zs.length = len ∧ RdW W W.heap.size a0 zs ∧ (∀ z ∈ zs, z.length ≤ 9223372036854775807) ∧ len ≤ 9223372036854775807 := by
  obtain ⟨fuel, hf⟩ := h
  rcases open_slice Tryd.underlying35 hf with ⟨hcs, _⟩ | ⟨a, l, c, m, n, D, Pl, hcs, _, hl, hm, hmm, hx, hi⟩
  · simp [Value.cells] at hcs
    obtain ⟨rfl, rfl, rfl⟩ := hcs
    exact ⟨[], rfl, fun h => absurd h (by simp), by simp, by omega⟩
  · simp [Value.cells] at hcs
    obtain ⟨rfl, rfl, rfl⟩ := hcs
    have h1 : Tryd.prog.cellsOf 27 = 1 := by kernel_rfl
    simp only [if_true] at hmm
    simp only [Prod.mk.injEq] at hx
    obtain ⟨_, rfl⟩ := hx
    unfold maxLen at hm
    have each : ∀ j, j < m → ∃ x : Hd, W.cell? (a.add j) = some x.enc ∧ RdI W W.heap.size x.A x.z ∧ x.z.length ≤ x.c ∧ x.c ≤ 9223372036854775807 := by
      intro j hj
      obtain ⟨cs', hc, ht⟩ := hi j hj
      rw [h1, Nat.mul_one] at hc
      obtain ⟨_, hcl, hat⟩ := World.cells?_some hc
      match cs', hcl with
      | [c0], _ =>
        have hc0 : W.cell? (a.add j) = some c0 := by
          have := hat 0 (by omega)
          simpa [Addr.add] using this
        rcases open_ints Tryd.underlying27 Tryd.underlying3 (by kernel_rfl) ht with ⟨e, _⟩ | ⟨a', l', c', zs, e, _, hl', hm', hz', hx', hcell', hwz'⟩
        · injection e with e _
          subst e
          exact ⟨⟨none, 0, []⟩, hc0, RdI.nil _ _ _, Nat.le_refl _, by show (0 : Nat) ≤ _; omega⟩
        · injection e with e _
          subst e
          simp only [if_true] at hz'
          unfold maxLen at hm'
          have htl : (zs.take l').length = l' := by rw [List.length_take]; omega
          refine ⟨⟨some a', c', zs.take l'⟩, by rw [hc0, Hd.enc]; simp only [htl], fun h0 => ?_, by show (zs.take l').length ≤ c'; omega, hm'⟩
          have h0 : 0 < (zs.take l').length := h0
          rw [htl] at h0
          obtain ⟨b, off, spot⟩ := a'
          have hspot : spot = none := by simpa [Addr.add] using World.cell?_spot (hcell' 0 (by omega))
          subst hspot
          simp only [Prod.mk.injEq] at hx'
          refine ⟨b, off, rfl, hlt (.cell b off) (List.mem_append_right _ (List.mem_flatMap.2 ⟨j, List.mem_range.2 hj, by rw [hx'.2]; exact MemPlace.mem_row.2 ⟨0, by omega, by simp⟩⟩)), fun i hi' => ?_⟩
          have hi2 : i < (zs.take l').length := hi'
          rw [htl] at hi2
          rw [← add_plain, hcell' i (by omega)]
          simp [List.getD, show i < l' by omega]
    have each' : ∀ j : Nat, ∃ x : Hd, j < m → W.cell? (a.add j) = some x.enc ∧ RdI W W.heap.size x.A x.z ∧ x.z.length ≤ x.c ∧ x.c ≤ 9223372036854775807 := by
      intro j
      by_cases hj : j < m
      · obtain ⟨x, hx⟩ := each j hj
        exact ⟨x, fun _ => hx⟩
      · exact ⟨⟨none, 0, []⟩, fun h => absurd h hj⟩
    obtain ⟨E, hE⟩ := Classical.axiomOfChoice each'
    refine ⟨(List.range len).map fun j => (E j).z, by simp, fun h0 => ?_, fun z hz => ?_, by omega⟩
    · have h0' : 0 < len := by simpa using h0
      obtain ⟨b, off, spot⟩ := a
      have hspot : spot = none := by simpa [Addr.add] using World.cell?_spot (hE 0 (by omega)).1
      subst hspot
      refine ⟨b, off, rfl, hlt (.cell b off) (List.mem_append_left _ (MemPlace.mem_row.2 ⟨0, by rw [h1]; omega, by simp⟩)), fun j hj => ?_⟩
      have hj2 : j < len := by simpa using hj
      obtain ⟨g0, g1, g2, g3⟩ := hE j (by omega)
      rw [add_plain] at g0
      have e : ((List.range len).map fun j => (E j).z).getD j [] = (E j).z := by simp [List.getD, hj2]
      rw [e]
      exact ⟨(E j).A, (E j).c, g0, g1, g2, g3⟩
    · obtain ⟨j, hj, rfl⟩ := List.mem_map.1 hz
      obtain ⟨_, _, g2, g3⟩ := hE j (by have := List.mem_range.1 hj; omega)
      omega
end

/-- Where a tuple is first found. -/
def fndW (zs : List (List Int)) (t : List Int) : Int := if t ∈ zs then (zs.idxOf t : Int) else 0
theorem fndW_at {zs : List (List Int)} {t : List Int} {k : Nat} (hk : k < zs.length) (hn : t ∉ zs.take k) (he : zs.getD k [] = t) : t ∈ zs ∧ zs.idxOf t = k := by
  have hg : zs[k] = t := by rw [List.getD, List.getElem?_eq_getElem hk] at he; exact he
  have hm : t ∈ zs := by rw [← hg]; exact List.getElem_mem hk
  refine ⟨hm, ?_⟩
  have e : zs = zs.take k ++ t :: zs.drop (k + 1) := by
    rw [← hg, ← List.drop_eq_getElem_cons hk, List.take_append_drop]
  rw [e, List.idxOf_append, if_neg hn]
  simp [List.length_take]
  omega
theorem notin_next {zs : List (List Int)} {t : List Int} {k : Nat} (hk : k < zs.length) (hn : t ∉ zs.take k) (he : zs.getD k [] ≠ t) : t ∉ zs.take (k + 1) := by
  rw [take_snoc_w hk, List.mem_append, List.mem_singleton]
  rintro (h | h)
  · exact hn h
  · exact he h.symm

set_option maxHeartbeats 2000000 in
theorem pFind_any (A B : Option Addr) (n m c d : Nat) (zs : List (List Int)) (t : List Int) (w : World) (hx : RdW w w.heap.size A zs) (hy : RdI w w.heap.size B t) (hn : zs.length = n) (hm : t.length = m) (hb : n ≤ 100000) (hb' : m ≤ 100000)
    (lx : ∀ z ∈ zs, z.length ≤ 140737488355328) :
    Calls Tryd.prog 38 #[.slice A n c, .slice B m d] w fun e w' => e = .returned (.tuple #[.int .i64 (fndW zs t), .bool (decide (t ∈ zs))]) ∧ ∃ q, w' = w.drewN q := by
  have HX := Lib.hid hx
  have HY := Lib.hid hy
  have HN := Lib.hid hn
  have HM := Lib.hid hm
  have HLX := Lib.hid lx
  obtain ⟨v, hv⟩ : ∃ v, v = decide (t ∈ zs) := ⟨_, rfl⟩
  obtain ⟨r, hr⟩ : ∃ r, r = fndW zs t := ⟨_, rfl⟩
  rw [← hv, ← hr]
  have HV := Lib.hid hv
  have HR := Lib.hid hr
  clear hn hm hx hy lx hv hr
  go_enter Tryd.func38, Tryd.ntmps38
  go_wp2_with fail
  go_loopw [10] (fun i wr => ∃ k : Nat, k ≤ n ∧ i = .int .i64 k ∧ Hid (t ∉ zs.take k) ∧ Hid (∃ q, wr = w.drewN q)) (fun i _ => n - (intOf i).toNat)
  case atStart => exact ⟨0, Nat.zero_le _, rfl, Lib.hid (by simp), 0, rfl⟩
  case round =>
    obtain ⟨k, hk, rfl, ht, HQ⟩ := hrel
    by_cases hlt : k < n
    · have hz : k < zs.length := by rw [HN.out]; exact hlt
      have r1 : RdW wr wr.heap.size A zs := by obtain ⟨q, e⟩ := HQ.out; subst e; exact HX.out
      have r2 : RdI wr wr.heap.size B t := by obtain ⟨q, e⟩ := HQ.out; subst e; exact HY.out
      obtain ⟨b1, o1, rfl, hb1, hc1⟩ := r1 (by omega)
      obtain ⟨C1, d1, c1, rd1, _, _⟩ := hc1 k hz
      have hl1 : (zs.getD k []).length ≤ 140737488355328 := HLX.out _ (by rw [List.getD, List.getElem?_eq_getElem hz]; exact List.getElem_mem hz)
      have C := Lib.hid (equalInt_any C1 B _ m d1 d _ _ (zs.getD k []) t wr rd1 r2 rfl HM.out (by omega) (by omega))
      have k4 : (k : Int) < (n : Int) := by omega
      have k0 : (0 : Int) ≤ (k : Int) := by omega
      clear hc1 rd1 r1 r2
      by_cases he : zs.getD k [] = t
      · obtain ⟨f1, f2⟩ := fndW_at hz ht.out he
        have hvt : v = true := by rw [HV.out]; exact decide_eq_true f1
        have hrk : r = (k : Int) := by rw [HR.out, fndW, if_pos f1, f2]
        have hd : decide (zs.getD k [] = t) = true := decide_eq_true he
        rw [hd] at C
        subst hvt hrk
        clear he hd ht hz f1 f2 hl1
        generalize (zs.getD k []).length = n1 at *
        go_wp2_with fail
        refine C.out.mono ?_
        rintro e w2 ⟨rfl, q2, rfl⟩
        go_wp2_with fail
        go_ret2
        exact ⟨rfl, by obtain ⟨q, e⟩ := HQ.out; subst e; exact ⟨_, World.drewN_drewN _ _ _⟩⟩
      · have hs := Lib.hid (notin_next hz ht.out he)
        have hd : decide (zs.getD k [] = t) = false := decide_eq_false he
        rw [hd] at C
        clear he hd ht hz hl1
        generalize (zs.getD k []).length = n1 at *
        go_wp2_with fail
        refine C.out.mono ?_
        rintro e w2 ⟨rfl, q2, rfl⟩
        go_wp2_with fail
        go_roundw
        case rel => exact ⟨k + 1, by omega, by go_num, hs, Lib.hid (by obtain ⟨q, e⟩ := HQ.out; subst e; exact ⟨_, World.drewN_drewN _ _ _⟩)⟩
        case measure => simp [intOf]; omega
    · have hnm : t ∉ zs := by
        have h1 := ht.out
        rwa [List.take_of_length_le (by rw [HN.out]; omega)] at h1
      have hvf : v = false := by rw [HV.out]; exact decide_eq_false hnm
      have hr0 : r = 0 := by rw [HR.out, fndW, if_neg hnm]
      subst hvf hr0
      clear hnm ht
      go_wp2_with fail
      go_ret2
      exact ⟨rfl, HQ.out⟩
end Go.Proofs.YtedleffmbddccaaDoor

/- Layer 6: the law of Find, walked. -/
namespace Go.Proofs.YtedleffmbddccaaDoor
open Go.RowKit Go.Sort

theorem tab_pos {w : World} (h : TabAt 0 Lib.deBruijn32tab w) : 0 < w.heap.size := by
  have h0 := h 0 (by decide)
  refine Nat.pos_of_ne_zero fun e => ?_
  have : w.heap[0]? = none := by rw [Array.getElem?_eq_none_iff]; omega
  simp [World.cell?, this] at h0
/-- The first place from k on; -1 if there is none. -/
def wnt (zs : List (List Int)) (t : List Int) (k : Nat) : Int := if t ∈ zs.drop k then ((k + (zs.drop k).idxOf t : Nat) : Int) else -1
theorem drop_w {zs : List (List Int)} {k : Nat} (h : k < zs.length) : zs.drop k = zs.getD k [] :: zs.drop (k + 1) := by
  rw [List.drop_eq_getElem_cons h]; simp [List.getD, List.getElem?_eq_getElem h]
theorem wnt_yes {zs : List (List Int)} {t : List Int} {k : Nat} (h : k < zs.length) (he : zs.getD k [] = t) : wnt zs t k = (k : Int) := by
  unfold wnt; rw [drop_w h, he]; simp
theorem wnt_no {zs : List (List Int)} {t : List Int} {k : Nat} (h : k < zs.length) (he : zs.getD k [] ≠ t) : wnt zs t k = wnt zs t (k + 1) := by
  unfold wnt
  rw [drop_w h]
  by_cases hm : t ∈ zs.drop (k + 1)
  · rw [if_pos (List.mem_cons_of_mem _ hm), if_pos hm, List.idxOf_cons, beq_eq_false_iff_ne.2 he]
    simp only [cond_false]
    omega
  · rw [if_neg hm, if_neg (by rw [List.mem_cons]; rintro (h1 | h1); exact he h1.symm; exact hm h1)]

set_option maxHeartbeats 4000000 in
set_option maxRecDepth 20000 in
theorem lawFinds (A : Option Addr) (n c : Nat) (zs : List (List Int)) (B : Option Addr) (m d : Nat) (t : List Int) (w : World) (hx : RdW w w.heap.size A zs) (hn : zs.length = n) (_hf : ∀ z ∈ zs, z.length ≤ 9223372036854775807) (hy : RdI w w.heap.size B t) (hm : t.length = m) (_hg : ∀ z ∈ t, (Lit.int .i64 z).wf = true)
    (hT : TabAt 0 Lib.deBruijn32tab w) : Calls Tryd.prog 9 #[.slice A n c, .slice B m d] w fun e w' => e = .returned (.bool true) ∧ Below w.heap.size w w' := by
  have hz := tab_pos hT
  have HK := Lib.hid (known_any w hT hz)
  have HK2 := Lib.hid (fun W (hW : Below w.heap.size w W) => known_any W (tab_below hT hW hz) (Nat.lt_of_lt_of_le hz hW.size))
  have HX := Lib.hid (fun W (hW : Below w.heap.size w W) => (hx.below hW (Nat.le_refl _)).more hW.size)
  have HY := Lib.hid (fun W (hW : Below w.heap.size w W) => (hy.below hW (Nat.le_refl _)).more hW.size)
  have HN := Lib.hid hn
  have HM := Lib.hid hm
  clear hx hn hy hm hT hz _hf _hg
  by_cases hsm : n ≤ 10 ∧ m ≤ 5
  · obtain ⟨hn10, hm5⟩ := hsm
    have g1 : ¬ (10 : Int) < (n : Int) := by omega
    have g2 : ¬ (5 : Int) < (m : Int) := by omega
    clear HK2
    go_enter Tryd.func9, Tryd.ntmps9
    go_wp2_with fail
    refine HK.out.mono ?_
    rintro e w1 ⟨rfl, hb1⟩
    have HB1 := Lib.hid hb1
    clear hb1 HK
    go_wp2_with fail
    go_loopw [5, 6] (fun wv i wr => ∃ (k : Nat) (x : Int), k ≤ n ∧ i = .int .i64 x ∧ x = (k : Int) - 1 ∧ wv = .int .i64 (wnt zs t k) ∧ Hid (∀ z ∈ zs.drop k, z.length ≤ 5) ∧ Hid (Below w.heap.size w wr)) (fun _ i _ => (intOf i + 1).toNat)
    case atStart => exact ⟨n, _, Nat.le_refl _, rfl, rfl, by rw [wnt, List.drop_of_length_le (by rw [HN.out]; exact Nat.le_refl _)]; rfl, Lib.hid (by rw [List.drop_of_length_le (by rw [HN.out]; exact Nat.le_refl _)]; simp), HB1⟩
    case round =>
      obtain ⟨k1, x, hk1, rfl, hxk, rfl, hall, hbel⟩ := hrel
      rcases Nat.eq_zero_or_pos k1 with h0 | h0
      · subst h0
        obtain rfl : x = -1 := by omega
        obtain ⟨wv, hwv⟩ : ∃ wv, wv = wnt zs t 0 := ⟨_, rfl⟩
        have hw0 := hwv
        unfold wnt at hw0
        rw [List.drop_zero, Nat.zero_add] at hw0
        have hl5 := hall.out
        rw [List.drop_zero] at hl5
        rw [← hwv]
        have HF := Lib.hid (pFind_any A B n m c d zs t wr (HX.out _ hbel.out) (HY.out _ hbel.out) HN.out HM.out (by omega) (by omega) (fun z hz => by have := hl5 z hz; omega))
        by_cases hin : t ∈ zs
        · rw [decide_eq_true hin, fndW, if_pos hin] at HF
          rw [if_pos hin] at hw0
          obtain ⟨q, hq⟩ : ∃ q, q = zs.idxOf t := ⟨_, rfl⟩
          rw [← hq] at HF hw0
          subst hw0
          have hge : (0 : Int) ≤ (q : Int) := by omega
          clear hxk hwv hl5 hin hq
          go_wp2_with fail
          refine HF.out.mono ?_
          rintro e w2 ⟨rfl, q2, rfl⟩
          have HB2 := Lib.hid (below_drewN hbel.out q2)
          go_wp2_with fail
          go_ret
          exact ⟨by first | rfl | trivial, HB2.out⟩
        · rw [decide_eq_false hin, fndW, if_neg hin] at HF
          rw [if_neg hin] at hw0
          subst hw0
          clear hxk hwv hl5 hin
          go_wp2_with fail
          refine HF.out.mono ?_
          rintro e w2 ⟨rfl, q2, rfl⟩
          have HB2 := Lib.hid (below_drewN hbel.out q2)
          go_wp2_with fail
          go_ret
          exact ⟨by first | rfl | trivial, HB2.out⟩
      · obtain ⟨k, rfl⟩ : ∃ k, k1 = k + 1 := ⟨k1 - 1, by omega⟩
        obtain rfl : x = (k : Int) := by omega
        have hz : k < zs.length := by rw [HN.out]; omega
        obtain ⟨b1, o1, rfl, hb1, hc1⟩ := HX.out _ hbel.out (by omega)
        obtain ⟨C1, d1, c1, rd1, hcap1, hcap2⟩ := hc1 k hz
        obtain ⟨z, hzz⟩ : ∃ z, z = zs.getD k [] := ⟨_, rfl⟩
        rw [← hzz] at c1 rd1 hcap1
        obtain ⟨lz, hlz⟩ : ∃ lz, lz = z.length := ⟨_, rfl⟩
        rw [← hlz] at c1 hcap1
        have kz : (0 : Int) ≤ (k : Int) := by omega
        have kn : (k : Int) < (n : Int) := by omega
        obtain ⟨wv, hwv⟩ : ∃ wv, wv = wnt zs t (k + 1) := ⟨_, rfl⟩
        rw [← hwv]
        by_cases hbig : 5 < lz
        · have hbz : (5 : Int) < (lz : Int) := by omega
          clear hc1 hxk hlz hzz hwv hbig
          go_wp2_with fail
          go_ret
          exact ⟨by first | rfl | trivial, hbel.out⟩
        · have hbz : ¬ (5 : Int) < (lz : Int) := by omega
          have HSm := Lib.hid (l6same_any C1 B lz m d1 d _ _ z t wr rd1 (HY.out _ hbel.out) hlz.symm HM.out (by omega) (by omega))
          have hall2 := Lib.hid (show ∀ y ∈ zs.drop k, y.length ≤ 5 by
            rw [drop_w hz]
            intro y hy
            rcases List.mem_cons.1 hy with rfl | hy
            · rw [← hzz, ← hlz]; omega
            · exact hall.out y hy)
          by_cases he : z = t
          · have hw := Lib.hid (show wnt zs t k = (k : Int) from wnt_yes hz (by rw [← hzz]; exact he))
            rw [decide_eq_true he] at HSm
            clear hc1 hxk hlz hzz hwv hbig he rd1 hz
            go_wp2_with fail
            refine HSm.out.mono ?_
            rintro e w2 ⟨rfl, q2, rfl⟩
            have HB2 := Lib.hid (below_drewN hbel.out q2)
            go_wp2_with fail
            go_roundw
            case rel => exact ⟨k, _, by omega, rfl, by first | rfl | go_num, by rw [hw.out], hall2, HB2⟩
            case measure => simp [intOf] <;> omega
          · have hw := Lib.hid (show wnt zs t k = wv by rw [hwv]; exact wnt_no hz (by rw [← hzz]; exact he))
            rw [decide_eq_false he] at HSm
            clear hc1 hxk hlz hzz hwv hbig he rd1 hz
            go_wp2_with fail
            refine HSm.out.mono ?_
            rintro e w2 ⟨rfl, q2, rfl⟩
            have HB2 := Lib.hid (below_drewN hbel.out q2)
            go_wp2_with fail
            go_roundw
            case rel => exact ⟨k, _, by omega, rfl, by first | rfl | go_num, by rw [hw.out], hall2, HB2⟩
            case measure => simp [intOf] <;> omega
  · by_cases hn10 : n ≤ 10
    · have g1 : ¬ (10 : Int) < (n : Int) := by omega
      have g2 : (5 : Int) < (m : Int) := by omega
      clear HX HY hsm
      go_enter Tryd.func9, Tryd.ntmps9
      go_wp2_with fail
      refine HK.out.mono ?_
      rintro e w1 ⟨rfl, hb1⟩
      have HB1 := Lib.hid hb1
      clear hb1 HK
      go_wp2_with fail
      refine (HK2.out _ HB1.out).mono ?_
      rintro e w2 ⟨rfl, hb2⟩
      have HB2 := Lib.hid (HB1.out.trans (hb2.mono HB1.out.size))
      clear hb2
      go_wp2_with fail
      go_ret
      exact ⟨by first | rfl | trivial, HB2.out⟩
    · have g1 : (10 : Int) < (n : Int) := by omega
      clear HX HY hsm
      go_enter Tryd.func9, Tryd.ntmps9
      go_wp2_with fail
      refine HK.out.mono ?_
      rintro e w1 ⟨rfl, hb1⟩
      have HB1 := Lib.hid hb1
      clear hb1 HK
      go_wp2_with fail
      refine (HK2.out _ HB1.out).mono ?_
      rintro e w2 ⟨rfl, hb2⟩
      have HB2 := Lib.hid (HB1.out.trans (hb2.mono HB1.out.size))
      clear hb2
      go_wp2_with fail
      go_ret
      exact ⟨by first | rfl | trivial, HB2.out⟩
end Go.Proofs.YtedleffmbddccaaDoor
