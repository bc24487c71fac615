/- The law AutomatonEquals, walked. -/
import Derived.Test.YtcciiikaejjooaaaFew
import Derived.Test.YtcciiikaejjooaaaKn
import Derived.Deep.RegionHeld3
namespace Go.Proofs.Ytcciiikaejjooaa
open Go.RowKit Go.Sort

/-- The law's two automata in their boxes. -/
structure TwoA (W : World) (A : Option Addr) (n c : Nat) (s : Int) (M : Option Addr) (m d : Nat) (E : Option Addr) (k g : Nat) (A2 : Option Addr) (n2 c2 : Nat) (s2 : Int) (M2 : Option Addr) (m2 d2 : Nat) (E2 : Option Addr) (k2 g2 : Nat) (w : World) : Prop where
  bel : Below W.heap.size W w
  x : BoxA w W.heap.size A n c s M m d E k g
  y : BoxA w (W.heap.size + 1) A2 n2 c2 s2 M2 m2 d2 E2 k2 g2
  sz : W.heap.size + 1 < w.heap.size
theorem TwoA.below {W w w' : World} {A : Option Addr} {n c : Nat} {s : Int} {M : Option Addr} {m d : Nat} {E : Option Addr} {k g : Nat} {A2 : Option Addr} {n2 c2 : Nat} {s2 : Int} {M2 : Option Addr} {m2 d2 : Nat} {E2 : Option Addr} {k2 g2 : Nat} (h : TwoA W A n c s M m d E k g A2 n2 c2 s2 M2 m2 d2 E2 k2 g2 w) (hb : Below w.heap.size w w') : TwoA W A n c s M m d E k g A2 n2 c2 s2 M2 m2 d2 E2 k2 g2 w' :=
  ⟨h.bel.trans (hb.mono h.bel.size), h.x.below hb (by have := h.sz; omega), h.y.below hb h.sz, Nat.lt_of_lt_of_le h.sz hb.size⟩
theorem TwoA.drew {W w : World} {A : Option Addr} {n c : Nat} {s : Int} {M : Option Addr} {m d : Nat} {E : Option Addr} {k g : Nat} {A2 : Option Addr} {n2 c2 : Nat} {s2 : Int} {M2 : Option Addr} {m2 d2 : Nat} {E2 : Option Addr} {k2 g2 : Nat} (h : TwoA W A n c s M m d E k g A2 n2 c2 s2 M2 m2 d2 E2 k2 g2 w) : TwoA W A n c s M m d E k g A2 n2 c2 s2 M2 m2 d2 E2 k2 g2 w.drew := ⟨h.bel.drew, ⟨h.x.c0, h.x.c1, h.x.c2, h.x.c3⟩, ⟨h.y.c0, h.y.c1, h.y.c2, h.y.c3⟩, h.sz⟩

set_option maxHeartbeats 4000000 in
theorem lawEquals (A : Option Addr) (n c : Nat) (s : Int) (M : Option Addr) (m d : Nat) (E : Option Addr) (k g : Nat) (a : Au) (A2 : Option Addr) (n2 c2 : Nat) (s2 : Int) (M2 : Option Addr) (m2 d2 : Nat) (E2 : Option Addr) (k2 g2 : Nat) (b : Au) (W : World) (S0 : AuI W A n c s M m d E k g a) (S1 : AuI W A2 n2 c2 s2 M2 m2 d2 E2 k2 g2 b) :
    Calls Try.prog 5 #[.agg #[.slice A n c, .int .i64 s, .slice M m d, .slice E k g], .agg #[.slice A2 n2 c2, .int .i64 s2, .slice M2 m2 d2, .slice E2 k2 g2]] W fun e W' => e = .returned (.bool true) ∧ Below W.heap.size W W' := by
  have hb1 := ((Below.refl W.heap.size W).alloc (Nat.le_refl _) (.cells #[.slice A n c, .int .i64 s, .slice M m d, .slice E k g] 25)).alloc (by simp) (.cells #[.slice A2 n2 c2, .int .i64 s2, .slice M2 m2 d2, .slice E2 k2 g2] 25)
  have HB1 := Lib.hid hb1
  have HX := Lib.hid (box_row A n c s M m d E k g ((Row.new W [.slice A n c, .int .i64 s, .slice M m d, .slice E k g] 25).alloc (.cells #[.slice A2 n2 c2, .int .i64 s2, .slice M2 m2 d2, .slice E2 k2 g2] 25)))
  have HX2 := Lib.hid (box_row A2 n2 c2 s2 M2 m2 d2 E2 k2 g2 (Row.new' (W.alloc (.cells #[.slice A n c, .int .i64 s, .slice M m d, .slice E k g] 25)) [.slice A2 n2 c2, .int .i64 s2, .slice M2 m2 d2, .slice E2 k2 g2] 25 (g := W.heap.size + 1) (by simp)))
  have HK := Lib.hid known_any
  have HF1 := Lib.hid (few_any A n c s M m d E k g)
  have HF2 := Lib.hid (few_any A2 n2 c2 s2 M2 m2 d2 E2 k2 g2)
  have HS0 := Lib.hid S0
  have HS1 := Lib.hid S1
  obtain ⟨r1, hr1⟩ : ∃ r, r = fewB n m k := ⟨_, rfl⟩
  obtain ⟨r2, hr2⟩ : ∃ r, r = fewB n2 m2 k2 := ⟨_, rfl⟩
  rw [← hr1] at HF1
  rw [← hr2] at HF2
  have HR1 := Lib.hid hr1
  have HR2 := Lib.hid hr2
  clear hb1 S0 S1 hr1 hr2
  go_enter Try.func5, Try.ntmps5
  go_wp2_with fail
  refine (HK.out _).mono ?_
  rintro e w1 ⟨rfl, hb⟩
  have hB1 := Lib.hid (HB1.out.trans (hb.mono (by simp; omega)))
  have hX1 := Lib.hid (HX.out.below hb (by simp; omega))
  have hY1 := Lib.hid (HX2.out.below hb (by simp))
  have hz := hb.size
  simp only [World.size_alloc] at hz
  obtain ⟨p0, p1, p2, p3⟩ := hX1.out
  obtain ⟨q0, q1, q2, q3⟩ := hY1.out
  clear hb
  go_wp2_with fail
  refine (HF1.out _).mono ?_
  rintro e w2 ⟨rfl, hb⟩
  have hB2 := Lib.hid (hB1.out.trans (hb.mono hB1.out.size))
  have hX2 := Lib.hid (hX1.out.below hb (by omega))
  have hY2 := Lib.hid (hY1.out.below hb (by omega))
  have hz2 := hb.size
  clear hb p0 p1 p2 p3 q0 q1 q2 q3
  obtain ⟨p0, p1, p2, p3⟩ := hX2.out
  obtain ⟨q0, q1, q2, q3⟩ := hY2.out
  cases r1
  · go_wp2_with fail
    refine (HK.out _).mono ?_
    rintro e w3 ⟨rfl, hb⟩
    go_wp2_with fail
    go_ret
    exact ⟨rfl, hB2.out.trans (hb.mono hB2.out.size)⟩
  · go_wp2_with fail
    refine (HF2.out _).mono ?_
    rintro e w3 ⟨rfl, hb⟩
    have hB3 := Lib.hid (hB2.out.trans (hb.mono hB2.out.size))
    have hX3 := Lib.hid (hX2.out.below hb (by omega))
    have hY3 := Lib.hid (hY2.out.below hb (by omega))
    have hz3 := hb.size
    clear hb p0 p1 p2 p3 q0 q1 q2 q3
    obtain ⟨p0, p1, p2, p3⟩ := hX3.out
    obtain ⟨q0, q1, q2, q3⟩ := hY3.out
    cases r2
    · go_wp2_with fail
      refine (HK.out _).mono ?_
      rintro e w4 ⟨rfl, hb⟩
      go_wp2_with fail
      go_ret
      exact ⟨rfl, hB3.out.trans (hb.mono hB3.out.size)⟩
    · have f1 := few_yes HR1.out.symm
      have f2 := few_yes HR2.out.symm
      have hA := Lib.hid (HS0.out.r f1.1 f1.2.1 f1.2.2)
      have hA2 := Lib.hid (HS1.out.r f2.1 f2.2.1 f2.2.2)
      obtain ⟨r, hr⟩ : ∃ r, r = decide (a = b) := ⟨_, rfl⟩
      have hT3 := Lib.hid (show TwoA W A n c s M m d E k g A2 n2 c2 s2 M2 m2 d2 E2 k2 g2 w3 from ⟨hB3.out, hX3.out, hY3.out, by omega⟩)
      have HE := Lib.hid (fun w' (hT : TwoA W A n c s M m d E k g A2 n2 c2 s2 M2 m2 d2 E2 k2 g2 w') => (show Calls Try.prog 31 _ w' _ from mEqual_any A n c s M m d E k g A2 n2 c2 s2 M2 m2 d2 E2 k2 g2 a b W.heap.size w' (hA.out.below hT.bel (Nat.le_refl _)) (hA2.out.below hT.bel (Nat.le_refl _)) hT.bel.size).mono (R' := fun e w'' => e = .returned (.bool r) ∧ TwoA W A n c s M m d E k g A2 n2 c2 s2 M2 m2 d2 E2 k2 g2 w'') fun e w'' h => ⟨by rw [h.1, hr], hT.below h.2⟩)
      have HS := Lib.hid (fun w' (hT : TwoA W A n c s M m d E k g A2 n2 c2 s2 M2 m2 d2 E2 k2 g2 w') => (show Calls Try.prog 30 _ w' _ from rSame_any A n c s M m d E k g A2 n2 c2 s2 M2 m2 d2 E2 k2 g2 a b W.heap.size w' (hA.out.below hT.bel (Nat.le_refl _)) (hA2.out.below hT.bel (Nat.le_refl _)) hT.bel.size).mono (R' := fun e w'' => e = .returned (.bool r) ∧ TwoA W A n c s M m d E k g A2 n2 c2 s2 M2 m2 d2 E2 k2 g2 w'') fun e w'' h => ⟨by rw [h.1, hr], hT.below h.2⟩)
      have HEE := Lib.hid (fun w' (hT : TwoA W A n c s M m d E k g A2 n2 c2 s2 M2 m2 d2 E2 k2 g2 w') => (show Calls Try.prog 31 _ w' _ from mEqual_any A n c s M m d E k g A n c s M m d E k g a a W.heap.size w' (hA.out.below hT.bel (Nat.le_refl _)) (hA.out.below hT.bel (Nat.le_refl _)) hT.bel.size).mono (R' := fun e w'' => e = .returned (.bool true) ∧ TwoA W A n c s M m d E k g A2 n2 c2 s2 M2 m2 d2 E2 k2 g2 w'') fun e w'' h => ⟨by rw [h.1]; simp, hT.below h.2⟩)
      have hrr : (r == r) = true := by simp
      have hT3d := Lib.hid hT3.out.drew
      clear f1 f2 hr HF1 HF2 HK
      go_wp2_with fail
      go_region_held3 (fun w' => w'.cell? ⟨W.heap.size, 0, none⟩ = some (.slice A n c) ∧ w'.cell? ⟨W.heap.size, 1, none⟩ = some (.int .i64 s) ∧ w'.cell? ⟨W.heap.size, 2, none⟩ = some (.slice M m d) ∧ w'.cell? ⟨W.heap.size, 3, none⟩ = some (.slice E k g) ∧ w'.cell? ⟨W.heap.size + 1, 0, none⟩ = some (.slice A2 n2 c2) ∧ w'.cell? ⟨W.heap.size + 1, 1, none⟩ = some (.int .i64 s2) ∧ w'.cell? ⟨W.heap.size + 1, 2, none⟩ = some (.slice M2 m2 d2) ∧ w'.cell? ⟨W.heap.size + 1, 3, none⟩ = some (.slice E2 k2 g2)) (first | with_reducible exact ⟨p0, p1, p2, p3, q0, q1, q2, q3⟩ | go_keep)
        (first
        | (go_simp; go_at_call 31; with_reducible refine (HE.out _ hT3.out).mono ?_; rintro e w4 ⟨rfl, hT4⟩
           have HT4 := Lib.hid hT4
           have HT4d := Lib.hid hT4.drew
           obtain ⟨p0, p1, p2, p3⟩ := hT4.x
           obtain ⟨q0, q1, q2, q3⟩ := hT4.y
           clear hT4)
        | (go_simp; go_at_call 31; with_reducible refine (HE.out _ hT3d.out).mono ?_; rintro e w4 ⟨rfl, hT4⟩
           have HT4 := Lib.hid hT4
           have HT4d := Lib.hid hT4.drew
           obtain ⟨p0, p1, p2, p3⟩ := hT4.x
           obtain ⟨q0, q1, q2, q3⟩ := hT4.y
           clear hT4)
        | (go_simp; go_at_call 30; (first | with_reducible refine (HS.out _ HT4.out).mono ?_ | with_reducible refine (HS.out _ HT4d.out).mono ?_); rintro e w5 ⟨rfl, hT5⟩
           have HT5 := Lib.hid hT5
           have HT5d := Lib.hid hT5.drew
           obtain ⟨p0, p1, p2, p3⟩ := hT5.x
           obtain ⟨q0, q1, q2, q3⟩ := hT5.y
           clear hT5)
        | (go_simp; go_at_call 31; (first | with_reducible refine (HEE.out _ HT5.out).mono ?_ | with_reducible refine (HEE.out _ HT5d.out).mono ?_); rintro e w6 ⟨rfl, hT6⟩
           have HT6 := Lib.hid hT6
           obtain ⟨p0, p1, p2, p3⟩ := hT6.x
           obtain ⟨q0, q1, q2, q3⟩ := hT6.y
           clear hT6))
      all_goals
        go_wp2_with fail
        go_ret
        exact ⟨rfl, by first | exact HT6.out.bel | exact HT6.out.bel.drew⟩
end Go.Proofs.Ytcciiikaejjooaa
