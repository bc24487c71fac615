/- Texts merged: what follows were texts of their own. -/
import Derived.Test.YtceldgcmjmfjfaaZa1
import Derived.Deep.RegionHeld3
import Derived.Deep.AppendLies
import Derived.Deep.RegionLaw
import Derived.Laws.OwnMore
import Derived.Deep.CutRange
import Derived.StillTailTactics
import Derived.Shelf.SortM.Plain
import Derived.Shelf.SortM.SortNone
import Derived.Test.YtceldgcmjmfjfaaProg
import Derived.Sort.OwnSortedInts
set_option linter.unusedVariables false
set_option linter.unusedSimpArgs false
set_option linter.unusedSectionVars false
/- Layer 3: step, Step, run, end of the program. -/
namespace Go.Proofs.Ytceldgcmjmfjfaa
open Go.RowKit Go.Sort

theorem stepO_some {a : Au} {q ev : Int} {x : Ed} (h : edgeO a.ed q ev = some x) : stepO a q ev = some x.t := by rw [stepO, h]; rfl
theorem stepO_none {a : Au} {q ev : Int} (h : edgeO a.ed q ev = none) : stepO a q ev = none := by rw [stepO, h]; rfl
theorem ret_ib2 {i j : Int} {a b : Bool} (h1 : i = j) (h : a = b) : Ending.returned (.tuple #[.int .i64 i, .bool a]) = .returned (.tuple #[.int .i64 j, .bool b]) := by rw [h1, h]

set_option maxHeartbeats 1600000 in
theorem step_any (A : Option Addr) (n c : Nat) (s : Int) (M : Option Addr) (m d : Nat) (E : Option Addr) (k g : Nat) (a : Au) (q ev : Int) (B : Nat) (w : World) (h : AuR w B A n c s M m d E k g a) (hB : B ≤ w.heap.size) (ho : a.ed.Pairwise ltE) :
    Calls Try.prog 108 #[.agg #[.slice A n c, .int .i64 s, .slice M m d, .slice E k g], .int .i64 q, .int .i64 ev] w fun e w' => e = .returned (.tuple #[.int .i64 ((stepO a q ev).getD 0), .bool (stepO a q ev).isSome]) ∧ Below w.heap.size w w' := by
  have hb1 := (Below.refl w.heap.size w).alloc (Nat.le_refl _) (.cells #[.slice A n c, .int .i64 s, .slice M m d, .slice E k g] 30)
  have HB1 := Lib.hid hb1
  have HE := Lib.hid (h.ed)
  have HK := Lib.hid h.hk
  have hbk := h.bk
  have HC := Lib.hid (searchEd_any E k g B a.ed q ev 0 _ (h.ed.below hb1 hB) (by simp; omega) h.hk h.bk ho)
  have HX := Lib.hid (BoxA.made w A n c s M m d E k g 30)
  clear h ho hb1
  cases hs : edgeO a.ed q ev with
  | none =>
    have e1 := Lib.hid (stepO_none (a := a) hs)
    have hr : ∀ i : Nat, (Ending.returned (.tuple #[.int .i64 i, .bool (edgeO a.ed q ev).isSome])) = .returned (.tuple #[.int .i64 i, .bool false]) := fun i => by rw [hs]; rfl
    have HR := Lib.hid hr
    clear hr hs
    go_enter Try.func108, Try.ntmps108
    go_wp2_with fail
    refine HC.out.mono ?_
    rintro e w1 ⟨⟨i, he, _⟩, hbw⟩
    rw [HR.out] at he
    subst he
    have hz := hbw.size
    simp only [World.size_alloc] at hz
    go_wp2_with fail
    go_ret2
    exact ⟨ret_ib2 (by rw [e1.out]; rfl) (by rw [e1.out]; rfl), HB1.out.trans (hbw.mono (by simp))⟩
  | some x =>
    have e1 := Lib.hid (stepO_some (a := a) hs)
    have hr : ∀ i : Nat, (Ending.returned (.tuple #[.int .i64 i, .bool (edgeO a.ed q ev).isSome])) = .returned (.tuple #[.int .i64 i, .bool true]) := fun i => by rw [hs]; rfl
    have HR := Lib.hid hr
    have HS := Lib.hid hs
    clear hr hs
    go_enter Try.func108, Try.ntmps108
    go_wp2_with fail
    refine HC.out.mono ?_
    rintro e w1 ⟨⟨i, he, hi⟩, hbw⟩
    rw [HR.out] at he
    subst he
    have hiz := hi x HS.out
    have hik : i < k := by have := (List.getElem?_eq_some_iff.1 hiz).1; rw [HK.out] at this; exact this
    obtain ⟨b1, o1, rfl, hbB, hc1⟩ := HE.out (by rw [HK.out]; omega)
    have hxa := (hc1 i x hiz)
    obtain ⟨xf, xe, xt⟩ := x
    have hx1 := hxa.2.2
    have hx2 : w1.cell? ⟨b1, o1 + i * 3 + 2, none⟩ = some (.int .i64 xt) := ((HB1.out.trans (hbw.mono (by simp))).cell (p := ⟨b1, o1 + i * 3 + 2, none⟩) (Nat.lt_of_lt_of_le hbB hB)).trans hx1
    obtain ⟨p0, p1, p2, p3⟩ := HX.out.below hbw (by simp)
    have hB2 := HB1.out.trans (hbw.mono (by simp))
    have hz := hbw.size
    simp only [World.size_alloc] at hz
    clear hi hiz hc1 hxa hx1 hbw
    go_wp2_with fail
    go_ret2
    exact ⟨ret_ib2 (by rw [e1.out]; rfl) (by rw [e1.out]; rfl), hB2⟩

theorem run_step_go {a : Au} {q x t : Int} {ws : List Int} {i : Nat} {v : Int × Nat} (hz : i < ws.length) (hx : x = ws.getD i 0) (hv : v = ((runE a q (ws.drop i)).1, (runE a q (ws.drop i)).2 + i)) (hs : stepO a q x = some t) : v = ((runE a t (ws.drop (i + 1))).1, (runE a t (ws.drop (i + 1))).2 + (i + 1)) := by
  rw [hv, drop_step ws i hz, ← hx, runE_go hs]; simp; omega
theorem run_step_stop {a : Au} {q x : Int} {ws : List Int} {i : Nat} {v : Int × Nat} (hz : i < ws.length) (hx : x = ws.getD i 0) (hv : v = ((runE a q (ws.drop i)).1, (runE a q (ws.drop i)).2 + i)) (hs : stepO a q x = none) : v = (q, i) := by
  rw [hv, drop_step ws i hz, ← hx, runE_stop hs]; simp
theorem run_step_end {a : Au} {q : Int} {ws : List Int} {i : Nat} {v : Int × Nat} (hz : i = ws.length) (hv : v = ((runE a q (ws.drop i)).1, (runE a q (ws.drop i)).2 + i)) : v = (q, i) := by
  rw [hv, List.drop_of_length_le (by omega), runE_nil]; simp
theorem ret_ii {i j i' j' : Int} (h1 : i = i') (h : j = j') : Ending.returned (.tuple #[.int .i64 i, .int .i64 j]) = .returned (.tuple #[.int .i64 i', .int .i64 j']) := by rw [h1, h]

set_option maxHeartbeats 1600000 in
theorem run_any (A : Option Addr) (n c : Nat) (s : Int) (M : Option Addr) (m d : Nat) (E : Option Addr) (k g : Nat) (a : Au) (q : Int) (W1 : Option Addr) (l lc : Nat) (ws : List Int) (B : Nat) (w : World) (h : AuR w B A n c s M m d E k g a) (hB : B ≤ w.heap.size) (ho : a.ed.Pairwise ltE) (hw : RdI w B W1 ws) (hl : ws.length = l) (hlb : l ≤ 100000) :
    Calls Try.prog 95 #[.agg #[.slice A n c, .int .i64 s, .slice M m d, .slice E k g], .int .i64 q, .slice W1 l lc] w fun e w' => e = .returned (.tuple #[.int .i64 (runE a q ws).1, .int .i64 (runE a q ws).2]) ∧ Below w.heap.size w w' := by
  have hb1 := (Below.refl w.heap.size w).alloc (Nat.le_refl _) (.cells #[.slice A n c, .int .i64 s, .slice M m d, .slice E k g] 30)
  have HB1 := Lib.hid hb1
  have HC := Lib.hid (fun q x W (hW : Below w.heap.size w W) => step_any A n c s M m d E k g a q x B W (h.below hW hB) (Nat.le_trans hB hW.size) ho)
  have HX := Lib.hid (BoxA.made w A n c s M m d E k g 30)
  have HL := Lib.hid hl
  have HW := Lib.hid hw
  obtain ⟨v, hv⟩ : ∃ v, v = runE a q ws := ⟨_, rfl⟩
  rw [← hv]
  have HV := Lib.hid hv
  clear h ho hb1 hl hw hv
  go_enter Try.func95, Try.ntmps95
  go_wp2_with fail
  go_loopw [6, 7, 15] (fun u0 u1 i wr => ∃ (q1 : Int) (j : Nat), j ≤ l ∧ u0 = .int .i64 q1 ∧ u1 = .int .i64 j ∧ i = .int .i64 j ∧ Hid (v = ((runE a q1 (ws.drop j)).1, (runE a q1 (ws.drop j)).2 + j)) ∧ Below w.heap.size w wr ∧ Hid (BoxA wr w.heap.size A n c s M m d E k g) ∧ w.heap.size < wr.heap.size) (fun _ _ i _ => l - (intOf i).toNat)
  case atStart => exact ⟨q, 0, Nat.zero_le _, rfl, rfl, rfl, by rw [Hid, HV.out]; simp, HB1.out, HX, by simp⟩
  case round =>
    obtain ⟨q', j, hj, rfl, rfl, rfl, ht, hbel, hbx, hlt0⟩ := hrel
    by_cases hlt : j < l
    · obtain ⟨b1, o1, rfl, hbB, hc1⟩ := HW.out (by rw [HL.out]; omega)
      have hz : j < ws.length := by rw [HL.out]; exact hlt
      have h1 := hc1 j hz
      obtain ⟨x, hxe⟩ : ∃ x, x = ws.getD j 0 := ⟨_, rfl⟩
      rw [← hxe] at h1
      have h2 : wr.cell? ⟨b1, o1 + j, none⟩ = some (.int .i64 x) := (hbel.cell (p := ⟨b1, o1 + j, none⟩) (Nat.lt_of_lt_of_le hbB hB)).trans h1
      have HC1 := Lib.hid (HC.out q' x wr hbel)
      obtain ⟨y0, y1, y2, y3⟩ := hbx.out
      cases hs : stepO a q' x with
      | none =>
        have hr := Lib.hid (run_step_stop hz hxe ht.out hs)
        have HC2 := Lib.hid (show Calls _ _ _ _ _ from by have h := HC1.out; rw [hs] at h; exact h)
        clear h1 hc1 hz hxe hs
        go_wp2_with fail
        refine HC2.out.mono ?_
        rintro e w1 ⟨rfl, hbw⟩
        go_wp2_with fail
        go_ret2
        exact ⟨ret_ii (by rw [hr.out]) (by rw [hr.out]), hbel.trans (hbw.mono (by omega))⟩
      | some t =>
        have hr := Lib.hid (run_step_go hz hxe ht.out hs)
        have HC2 := Lib.hid (show Calls _ _ _ _ _ from by have h := HC1.out; rw [hs] at h; exact h)
        clear h1 hc1 hz hxe hs
        go_wp2_with fail
        refine HC2.out.mono ?_
        rintro e w1 ⟨rfl, hbw⟩
        have hz := hbw.size
        go_wp2_with fail
        go_roundw
        case rel => exact ⟨t, j + 1, by omega, by simp, by go_num, by go_num, hr, hbel.trans (hbw.mono (by omega)), Lib.hid (hbx.out.below hbw hlt0), by omega⟩
        case measure => simp [intOf]; omega
    · have hr := Lib.hid (run_step_end (by rw [HL.out]; omega) ht.out)
      go_wp2_with fail
      go_ret2
      exact ⟨ret_ii (by rw [hr.out]) (by rw [hr.out]), hbel⟩

/-- A word belongs to the generated language. -/
def genB (a : Au) (ws : List Int) : Bool := decide (a.st ≠ 0) && decide ((runE a 0 ws).2 = ws.length)
def accB (a : Au) (ws : List Int) : Bool := genB a ws && decide ((runE a 0 ws).1 ∈ a.mr)
def endS (a : Au) (ws : List Int) : Int := if a.st = 0 then 0 else (runE a 0 ws).1
set_option maxHeartbeats 800000 in
theorem end_any (A : Option Addr) (n c : Nat) (s : Int) (M : Option Addr) (m d : Nat) (E : Option Addr) (k g : Nat) (a : Au) (W1 : Option Addr) (l lc : Nat) (ws : List Int) (B : Nat) (w : World) (h : AuR w B A n c s M m d E k g a) (hB : B ≤ w.heap.size) (ho : a.ed.Pairwise ltE) (hw : RdI w B W1 ws) (hl : ws.length = l) (hlb : l ≤ 100000) :
    Calls Try.prog 75 #[.agg #[.slice A n c, .int .i64 s, .slice M m d, .slice E k g], .slice W1 l lc] w fun e w' => e = .returned (.tuple #[.int .i64 (endS a ws), .bool (genB a ws)]) ∧ Below w.heap.size w w' := by
  have hb1 := (Below.refl w.heap.size w).alloc (Nat.le_refl _) (.cells #[.slice A n c, .int .i64 s, .slice M m d, .slice E k g] 30)
  have HB1 := Lib.hid hb1
  have HC := Lib.hid (run_any A n c s M m d E k g a 0 W1 l lc ws B _ (h.below hb1 hB) (by simp; omega) ho (hw.below hb1 hB) hl hlb)
  have HST := Lib.hid h.st
  have HL := Lib.hid hl
  have hle := runE_le a ws 0
  rw [hl] at hle
  obtain ⟨v, hv⟩ : ∃ v, v = runE a 0 ws := ⟨_, rfl⟩
  rw [← hv] at HC hle
  have HV := Lib.hid hv
  obtain ⟨v1, v2⟩ := v
  clear h ho hw hv hb1 hl
  by_cases h0 : s = 0
  · have hr := Lib.hid (show endS a ws = 0 by rw [endS, HST.out, if_pos h0])
    have hr2 := Lib.hid (show genB a ws = false by simp [genB, HST.out, h0])
    rw [hr.out, hr2.out]
    have hb0 : (s == 0) = true := by simp [h0]
    clear h0
    go_enter Try.func75, Try.ntmps75
    go_wp2_with fail
    go_ret2
    exact ⟨rfl, HB1.out⟩
  · have hr := Lib.hid (show endS a ws = v1 by rw [endS, HST.out, if_neg h0, ← HV.out])
    have hb0 : (s == 0) = false := by simp [h0]
    by_cases h1 : v2 = l
    · have hr2 := Lib.hid (show genB a ws = true by simp [genB, HST.out, h0, ← HV.out, HL.out, h1])
      rw [hr.out, hr2.out]
      have hb2 : ((v2 : Int) == (l : Int)) = true := by simp [h1]
      clear h0 h1
      go_enter Try.func75, Try.ntmps75
      go_wp2_with fail
      refine HC.out.mono ?_
      rintro e w1 ⟨rfl, hbw⟩
      go_wp2_with fail
      go_ret2
      exact ⟨ret_ib2 rfl (by simp), HB1.out.trans (hbw.mono (by simp))⟩
    · have hr2 := Lib.hid (show genB a ws = false by simp [genB, ← HV.out, HL.out, h1])
      rw [hr.out, hr2.out]
      have hb2 : ((v2 : Int) == (l : Int)) = false := by simp; omega
      clear h0 h1
      go_enter Try.func75, Try.ntmps75
      go_wp2_with fail
      refine HC.out.mono ?_
      rintro e w1 ⟨rfl, hbw⟩
      go_wp2_with fail
      go_ret2
      exact ⟨ret_ib2 rfl (by simp), HB1.out.trans (hbw.mono (by simp))⟩
end Go.Proofs.Ytceldgcmjmfjfaa

/- Layer 3: Step, Run, Enabled, Generates, Accepts of the program. -/
namespace Go.Proofs.Ytceldgcmjmfjfaa
open Go.RowKit Go.Sort

def stepR (a : Au) (q ev : Int) : Int × Bool × Int := if plE a q ≠ 0 then (0, false, plE a q) else if ev ∈ a.al then ((stepO a q ev).getD 0, (stepO a q ev).isSome, 0) else (0, false, 9)
theorem pl_right {a : Au} {q : Int} (h : plE a q = 0) : Right a := by
  unfold plE at h
  by_cases h1 : chkE a ≠ 0
  · rw [if_pos h1] at h; exact absurd h h1
  · exact right_of (by simpa using h1)
theorem ret_ibi {i j : Int} {a b : Bool} {x y : Int} (h1 : i = j) (h : a = b) (h2 : x = y) : Ending.returned (.tuple #[.int .i64 i, .bool a, .int .i64 x]) = .returned (.tuple #[.int .i64 j, .bool b, .int .i64 y]) := by rw [h1, h, h2]
theorem ret_iii {i j i' j' x y : Int} (h1 : i = i') (h : j = j') (h2 : x = y) : Ending.returned (.tuple #[.int .i64 i, .int .i64 j, .int .i64 x]) = .returned (.tuple #[.int .i64 i', .int .i64 j', .int .i64 y]) := by rw [h1, h, h2]
theorem ret_bi {a b : Bool} {x y : Int} (h : a = b) (h2 : x = y) : Ending.returned (.tuple #[.bool a, .int .i64 x]) = .returned (.tuple #[.bool b, .int .i64 y]) := by rw [h, h2]

/-- All numbers of a word are in a set. -/
def inB (zs w : List Int) : Bool := w.all fun x => decide (x ∈ zs)
theorem in_next {zs w : List Int} {k : Nat} (h : k < w.length) (ht : inB zs (w.take k) = true) (he : decide (w.getD k 0 ∈ zs) = true) : inB zs (w.take (k + 1)) = true := by
  unfold inB at *
  rw [List.take_succ_eq_append_getElem h, List.all_append, ht]
  have e : w.getD k 0 = w[k] := by simp [List.getD, List.getElem?_eq_getElem h]
  rw [e] at he
  simpa using he
theorem in_bad {zs w : List Int} {k : Nat} (h : k < w.length) (he : decide (w.getD k 0 ∈ zs) = false) : inB zs w = false := by
  unfold inB
  rw [List.all_eq_false]
  exact ⟨w.getD k 0, getD_mem h, by simpa using he⟩
theorem in_all {zs w : List Int} {n : Nat} (hn : w.length = n) (ht : inB zs (w.take n) = true) : inB zs w = true := by
  rwa [List.take_of_length_le (by omega)] at ht
def runR (a : Au) (q : Int) (ws : List Int) : Int × Int × Int := if plE a q ≠ 0 then (0, 0, plE a q) else if inB a.al ws = true then ((runE a q ws).1, ((runE a q ws).2 : Int), 0) else (0, 0, 9)

def genR (a : Au) (ws : List Int) : Bool × Int := if chkE a ≠ 0 then (false, chkE a) else (genB a ws, 0)
def accR (a : Au) (ws : List Int) : Bool × Int := if chkE a ≠ 0 then (false, chkE a) else (accB a ws, 0)
theorem acc_end {a : Au} {ws : List Int} (hg : genB a ws = true) : accB a ws = decide (endS a ws ∈ a.mr) := by
  have : a.st ≠ 0 := by unfold genB at hg; simp at hg; exact hg.1
  rw [accB, hg, Bool.true_and, endS, if_neg this]
set_option maxHeartbeats 1600000 in
theorem mAccepts_any (A : Option Addr) (n c : Nat) (s : Int) (M : Option Addr) (m d : Nat) (E : Option Addr) (k g : Nat) (a : Au) (W1 : Option Addr) (l lc : Nat) (ws : List Int) (w : World) (h : AuR w w.heap.size A n c s M m d E k g a) (hw : RdI w w.heap.size W1 ws) (hl : ws.length = l) (hlb : l ≤ 100000) :
    Calls Try.prog 38 #[.agg #[.slice A n c, .int .i64 s, .slice M m d, .slice E k g], .slice W1 l lc] w fun e w' => e = .returned (.tuple #[.bool (accR a ws).1, .int .i64 (accR a ws).2]) ∧ Below w.heap.size w w' := by
  have hb1 := (Below.refl w.heap.size w).alloc (Nat.le_refl _) (.cells #[.slice A n c, .int .i64 s, .slice M m d, .slice E k g] 30)
  have HB1 := Lib.hid hb1
  have hR1 := h.below hb1 (Nat.le_refl _)
  have HC := Lib.hid (mCheck_any A n c s M m d E k g a _ (hR1.more (by simp)))
  have HX := Lib.hid (BoxA.made w A n c s M m d E k g 30)
  have HR := Lib.hid h
  have HW := Lib.hid hw
  have HL := Lib.hid hl
  obtain ⟨u, hu⟩ : ∃ u, u = chkE a := ⟨_, rfl⟩
  rw [← hu] at HC
  have HU := Lib.hid hu
  clear h hR1 hu hb1 hw hl
  by_cases h0 : u = 0
  · have hb0 : (u != 0) = false := by simp [h0]
    have hri := right_of (a := a) (by rw [← HU.out, h0])
    have hS := Lib.hid (fun W (hW : Below w.heap.size w W) => end_any A n c s M m d E k g a W1 l lc ws w.heap.size W (HR.out.below hW (Nat.le_refl _)) hW.size hri.edo (HW.out.below hW (Nat.le_refl _)) HL.out hlb)
    have hM := Lib.hid (fun x W (hW : Below w.heap.size w W) => mContains_any M m d w.heap.size a.mr x W (HR.out.mr.below hW (Nat.le_refl _)) HR.out.hm (by have := HR.out.bm; omega) (up_of hri.mro))
    have hr := Lib.hid (show accR a ws = (accB a ws, 0) by rw [accR, if_neg (by rw [← HU.out, h0]; simp)])
    rw [hr.out]
    obtain ⟨r1, hr1⟩ : ∃ r, r = endS a ws := ⟨_, rfl⟩
    obtain ⟨r2, hr2⟩ : ∃ r, r = genB a ws := ⟨_, rfl⟩
    rw [← hr1, ← hr2] at hS
    have HR1 := Lib.hid hr1
    have HR2 := Lib.hid hr2
    clear h0 hri hr1 hr2
    cases r2
    · have hr3 := Lib.hid (show accB a ws = false by rw [accB, ← HR2.out]; rfl)
      rw [hr3.out]
      go_enter Try.func38, Try.ntmps38
      go_wp2_with fail
      refine HC.out.mono ?_
      rintro e w1 ⟨rfl, hbw⟩
      obtain ⟨p0, p1, p2, p3⟩ := HX.out.below hbw (by simp)
      have hz := hbw.size
      simp only [World.size_alloc] at hz
      have hB := HB1.out.trans (hbw.mono (by simp))
      clear hbw
      go_wp2_with fail
      refine (hS.out _ hB).mono ?_
      rintro e w2 ⟨rfl, hbw⟩
      go_wp2_with fail
      go_ret2
      exact ⟨rfl, hB.trans (hbw.mono hB.size)⟩
    · have hr3 := Lib.hid (show accB a ws = decide (r1 ∈ a.mr) by rw [acc_end HR2.out.symm, HR1.out])
      rw [hr3.out]
      obtain ⟨r4, hr4⟩ : ∃ r, r = decide (r1 ∈ a.mr) := ⟨_, rfl⟩
      have hM1 := Lib.hid (fun W hW => by have h := hM.out r1 W hW; rw [← hr4] at h; exact h)
      rw [← hr4]
      clear hr4
      go_enter Try.func38, Try.ntmps38
      go_wp2_with fail
      refine HC.out.mono ?_
      rintro e w1 ⟨rfl, hbw⟩
      have BX := Lib.hid (HX.out.below hbw (by simp))
      obtain ⟨p0, p1, p2, p3⟩ := BX.out
      have hz := hbw.size
      simp only [World.size_alloc] at hz
      have hB := HB1.out.trans (hbw.mono (by simp))
      clear hbw
      go_wp2_with fail
      refine (hS.out _ hB).mono ?_
      rintro e w2 ⟨rfl, hbw⟩
      have hB2 := hB.trans (hbw.mono hB.size)
      clear p0 p1 p2 p3
      obtain ⟨p0, p1, p2, p3⟩ := BX.out.below hbw (by omega)
      have hz2 := hbw.size
      clear hbw
      go_wp2_with fail
      refine (hM1.out _ hB2).mono ?_
      rintro e w3 ⟨rfl, rfl⟩
      go_wp2_with fail
      go_ret2
      exact ⟨rfl, hB2⟩
  · have hb0 : (u != 0) = true := by simp [h0]
    have hr := Lib.hid (show accR a ws = (false, u) by rw [accR, ← HU.out, if_pos h0])
    rw [hr.out]
    clear h0
    go_enter Try.func38, Try.ntmps38
    go_wp2_with fail
    refine HC.out.mono ?_
    rintro e w1 ⟨rfl, hbw⟩
    go_wp2
    go_ret2
    exact ⟨rfl, HB1.out.trans (hbw.mono (by simp))⟩
end Go.Proofs.Ytceldgcmjmfjfaa

/- Layer 7: the errors of an automaton, of a list of events and of a set of states. -/
namespace Go.Proofs.Ytceldgcmjmfjfaa
open Go.RowKit

/-- The first error of a list. -/
def fstE : List Int → Int
  | [] => 0
  | x :: r => if x ≠ 0 then x else fstE r
theorem fst_drop {xs : List Int} {k : Nat} (h : k < xs.length) : fstE (xs.drop k) = if xs.getD k 0 ≠ 0 then xs.getD k 0 else fstE (xs.drop (k + 1)) := by
  have e : xs.getD k 0 = xs[k] := by simp [List.getD, List.getElem?_eq_getElem h]
  rw [List.drop_eq_getElem_cons h, fstE, e]
set_option maxHeartbeats 800000 in
theorem cmpOr_any (A : Option Addr) (n c B : Nat) (xs : List Int) (w : World) (hx : RdI w B A xs) (hn : xs.length = n) (hb : n ≤ 100000) :
    Calls Try.prog 61 #[.slice A n c] w fun e w' => e = .returned (.int .i64 (fstE xs)) ∧ w = w' := by
  have HX := Lib.hid hx
  have HN := Lib.hid hn
  obtain ⟨u, hu⟩ : ∃ u, u = fstE xs := ⟨_, rfl⟩
  rw [← hu]
  have HU := Lib.hid (show u = fstE (xs.drop 0) by rw [List.drop_zero]; exact hu)
  clear hx hn hu
  go_enter Try.func61, Try.ntmps61
  go_wp2_with fail
  go_loopw [5, 8] (fun _ i wr => ∃ k : Nat, k ≤ n ∧ i = .int .i64 k ∧ w = wr ∧ Hid (u = fstE (xs.drop k))) (fun _ i _ => n - (intOf i).toNat)
  case atStart => exact ⟨0, Nat.zero_le _, rfl, rfl, HU⟩
  case round =>
    obtain ⟨k, hk, rfl, rfl, hf⟩ := hrel
    by_cases hlt : k < n
    · obtain ⟨b, o, rfl, _, hc⟩ := HX.out (by rw [HN.out]; omega)
      have hz : k < xs.length := by rw [HN.out]; exact hlt
      have hc1 := hc k hz
      obtain ⟨x, hxe⟩ : ∃ x, x = xs.getD k 0 := ⟨_, rfl⟩
      have hd := fst_drop hz
      rw [← hxe] at hc1 hd
      have HD := Lib.hid hd
      have z0 : (k : Int) < (n : Int) := by omega
      have z1 : (0 : Int) ≤ (k : Int) := by omega
      clear hc hz hxe hd
      by_cases h0 : x = 0
      · have hb : (x != 0) = false := by simp [h0]
        have hg := Lib.hid (show u = fstE (xs.drop (k + 1)) by rw [hf.out, HD.out, if_neg (by simp [h0])])
        clear h0
        go_wp2_with fail
        go_roundw
        case rel => exact ⟨k + 1, by omega, by go_num, by first | rfl | trivial, hg⟩
        case measure => simp [intOf]; omega
      · have hb : (x != 0) = true := by simp [h0]
        have hg := Lib.hid (show u = x by rw [hf.out, HD.out, if_pos h0])
        clear h0
        go_wp2_with fail
        go_ret
        exact ⟨by rw [hg.out]; rfl, rfl⟩
    · have hg := Lib.hid (show u = 0 by rw [hf.out, List.drop_of_length_le (by rw [HN.out]; omega)]; rfl)
      have z0 : (n : Int) ≤ (k : Int) := by omega
      go_wp2_with fail
      go_ret
      exact ⟨by rw [hg.out]; rfl, rfl⟩
theorem au_events {w : World} {A : Option Addr} {n c : Nat} {zs : List Int} (h : RdI w w.heap.size A zs) (hn : zs.length = n) (hc : n ≤ c ∧ c ≤ 9223372036854775807) (hb : n ≤ 100000) : AuR w w.heap.size A n c 0 none 0 0 none 0 0 ⟨zs, 0, [], []⟩ where
  al := h
  mr := RdI.nil _ _ _
  ed := fun h0 => by simp at h0
  hn := hn
  hm := rfl
  hk := rfl
  st := rfl
  cn := hc
  cm := by omega
  ck := by omega
  bn := hb
  bm := by omega
  bk := by omega
theorem au_states {w : World} {A : Option Addr} {n c : Nat} {s : Int} {zs : List Int} (h : RdI w w.heap.size A zs) (hn : zs.length = n) (hc : n ≤ c ∧ c ≤ 9223372036854775807) (hb : n ≤ 100000) : AuR w w.heap.size none 0 0 s A n c none 0 0 ⟨[], s, zs, []⟩ where
  al := RdI.nil _ _ _
  mr := h
  ed := fun h0 => by simp at h0
  hn := rfl
  hm := hn
  hk := rfl
  st := rfl
  cn := by omega
  cm := hc
  ck := by omega
  bn := by omega
  bm := hb
  bk := by omega
theorem rd_two {w : World} {x y : Int} : RdI (w.alloc (.cells #[.int .i64 x, .int .i64 y] 32)) (w.alloc (.cells #[.int .i64 x, .int .i64 y] 32)).heap.size (some ⟨w.heap.size, 0, none⟩) [x, y] := fun _ => ⟨w.heap.size, 0, rfl, by simp, fun j hj => by
  match j, hj with
  | 0, _ => rw [World.cell?_alloc_at _ _ _ _ rfl]; rfl
  | 1, _ => rw [World.cell?_alloc_at _ _ _ _ rfl]; rfl
  | j + 2, hj => (simp at hj) <;> omega⟩
/-- The error of an automaton and of a list of events. -/
def cweE (a : Au) (ev : List Int) : Int := fstE [chkE a, chkE ⟨ev, 0, [], []⟩]
/-- The error of a set of states. -/
def cstE (s : Int) (zs : List Int) : Int := chkE ⟨[], s, zs, []⟩
end Go.Proofs.Ytceldgcmjmfjfaa

/- Layer 3: blocks known whole; lists of edges of the call's own. -/
namespace Go.Proofs.Ytceldgcmjmfjfaa
open Go.RowKit Go.Sort

/-- A block holds just these cells. -/
def Row (w : World) (g : Nat) (e : TypeId) (cs : List Value) : Prop := w.heap[g]? = some (.cells cs.toArray e (0, 0))
theorem Row.cell {w : World} {g : Nat} {e : TypeId} {cs : List Value} (h : Row w g e cs) (j : Nat) {v : Value} (hj : cs[j]? = some v) : w.cell? ⟨g, j, none⟩ = some v := by
  rw [cell_of_row w g j cs.toArray e (0, 0) h]; simpa using hj
theorem Row.frozen {w : World} {g : Nat} {e : TypeId} {cs : List Value} (h : Row w g e cs) (j : Nat) : w.frozen? ⟨g, j, none⟩ = false := frozen_of_row w g j cs.toArray e h
theorem Row.lt {w : World} {g : Nat} {e : TypeId} {cs : List Value} (h : Row w g e cs) : g < w.heap.size := (Array.getElem?_eq_some_iff.1 h).1
theorem Row.below {w w' : World} {g B : Nat} {e : TypeId} {cs : List Value} (h : Row w g e cs) (hb : Below B w w') (hB : g < B) : Row w' g e cs := (hb.block g hB).trans h
theorem Row.alloc {w : World} {g : Nat} {e : TypeId} {cs : List Value} (h : Row w g e cs) (o : Obj) : Row (w.alloc o) g e cs := (Below.heap_alloc w o g h.lt).trans h
theorem Row.drewN {w : World} {g : Nat} {e : TypeId} {cs : List Value} (h : Row w g e cs) (q : Nat) : Row (w.drewN q) g e cs := h
theorem Row.new (w : World) (cs : List Value) (e : TypeId) : Row (w.alloc (.cells cs.toArray e)) w.heap.size e cs := heap_alloc_new w _
theorem Row.set {w : World} {g : Nat} {e : TypeId} {cs : List Value} (h : Row w g e cs) (j : Nat) (u : Value) : Row (w.setCell ⟨g, j, none⟩ u) g e (cs.set j u) := by
  have := heap_setCell_same w g j cs.toArray e u h
  unfold Row; rw [this]; simp
theorem Row.setOther {w : World} {g : Nat} {e : TypeId} {cs : List Value} (h : Row w g e cs) {p : Addr} (hp : g ≠ p.block) (u : Value) : Row (w.setCell p u) g e cs := (Below.heap_setCell w p u g hp).trans h
theorem row_of_owns {w : World} {base g n : Nat} {e : TypeId} {xs : List Value} (h : w.ownsRow base e 1 (.slice (some ⟨g, 0, none⟩) n n) n xs) : Row w g e xs ∧ base ≤ g := by
  rcases h.2 with ⟨h', _⟩ | ⟨g', cap', cur, h', hb, hg, _, _, hs, htake⟩
  · simp at h'
  · simp only [Value.slice.injEq, Option.some.injEq, Addr.mk.injEq, and_true, true_and] at h'
    obtain ⟨rfl, rfl⟩ := h'
    refine ⟨?_, hb⟩
    rw [List.take_of_length_le (by simp [hs])] at htake
    unfold Row; rw [hg, ← htake]
theorem Row.rd {w : World} {g : Nat} {zs : List Int} (h : Row w g 3 (zs.map (Value.int .i64))) : RdI w w.heap.size (some ⟨g, 0, none⟩) zs := fun _ =>
  ⟨g, 0, rfl, h.lt, fun j hj => by
    rw [Nat.zero_add]
    exact h.cell j (by simp [List.getD, List.getElem?_eq_getElem hj])⟩
theorem Row.int {w : World} {g : Nat} {zs : List Int} (h : Row w g 3 (zs.map (Value.int .i64))) {j : Nat} (hj : j < zs.length) : w.cell? ⟨g, j, none⟩ = some (.int .i64 (zs.getD j 0)) :=
  h.cell j (by simp [List.getD, List.getElem?_eq_getElem hj])
theorem box_row {w : World} {b : Nat} (A : Option Addr) (n c : Nat) (s : Int) (M : Option Addr) (m d : Nat) (E : Option Addr) (k g : Nat) (h : Row w b 30 [.slice A n c, .int .i64 s, .slice M m d, .slice E k g]) : BoxA w b A n c s M m d E k g :=
  ⟨h.cell 0 rfl, h.cell 1 rfl, h.cell 2 rfl, h.cell 3 rfl⟩

/-- The cells of edges. -/
def encE (l : List Ed) : List Value := l.flatMap fun x => [.int .i64 x.f, .int .i64 x.e, .int .i64 x.t]
theorem encE_len (l : List Ed) : (encE l).length = l.length * 3 := by
  induction l with
  | nil => rfl
  | cons x l ih => simp [encE] at ih ⊢; omega
theorem encE_app (l r : List Ed) : encE (l ++ r) = encE l ++ encE r := by simp [encE]
theorem encE_at : ∀ (l : List Ed) (j : Nat) (x : Ed), l[j]? = some x → (encE l)[j * 3]? = some (.int .i64 x.f) ∧ (encE l)[j * 3 + 1]? = some (.int .i64 x.e) ∧ (encE l)[j * 3 + 2]? = some (.int .i64 x.t)
  | [], j, x, h => by simp at h
  | y :: l, 0, x, h => by simp at h; subst h; exact ⟨rfl, rfl, rfl⟩
  | y :: l, j + 1, x, h => by
    have e : ∀ i, (encE (y :: l))[i + 3]? = (encE l)[i]? := fun i => by
      show ([_, _, _] ++ encE l)[i + 3]? = _
      rw [List.getElem?_append_right (by simp)]; simp
    have ih := encE_at l j x (by simpa using h)
    rw [show (j + 1) * 3 = j * 3 + 3 by omega, show j * 3 + 3 + 1 = j * 3 + 1 + 3 by omega, show j * 3 + 3 + 2 = j * 3 + 2 + 3 by omega, e, e, e]
    exact ih
theorem info_edge : (Try.prog.info? 70).map (fun i => (i.zero, i.size, i.bytes)) = some (some (.agg #[.int .i64 0, .int .i64 0, .int .i64 0]), 3, 24) := by kernel_rfl
/-- The slice value owns, among the blocks from base on, these edges. -/
abbrev OwnE (w : World) (base : Nat) (v : Value) (l : List Ed) : Prop := w.ownsRow base 70 3 v l.length (encE l)
theorem ownE_rd {w : World} {base : Nat} {v : Value} {l : List Ed} (h : OwnE w base v l) : ∃ A c, v = .slice A l.length c ∧ RdG w w.heap.size A l ∧ l.length ≤ c ∧ c ≤ 9223372036854775807 := by
  rcases h.2 with ⟨rfl, h0⟩ | ⟨g, cap, cur, rfl, hg, hh, hn, hcap, hsz, htake⟩
  · rw [h0]; exact ⟨none, 0, rfl, fun h => by omega, Nat.le_refl _, by omega⟩
  · refine ⟨some ⟨g, 0, none⟩, cap, rfl, fun _ => ⟨g, 0, rfl, (h.lt g rfl).2, fun j x hj => ?_⟩, hn, by unfold maxLen at hcap; omega⟩
    have hl := (List.getElem?_eq_some_iff.1 hj).1
    obtain ⟨e0, e1, e2⟩ := encE_at l j x hj
    rw [Nat.zero_add]
    exact ⟨(World.ownsRow.cellAt (cap := cap) h (j * 3) (by omega)).trans e0, (World.ownsRow.cellAt (cap := cap) h (j * 3 + 1) (by omega)).trans e1, (World.ownsRow.cellAt (cap := cap) h (j * 3 + 2) (by omega)).trans e2⟩
/-- Two rows of unlike elements lie in unlike blocks. -/
theorem owns_ne {w : World} {b1 b2 : Nat} {e1 e2 : TypeId} {s1 s2 : Nat} {v1 v2 : Value} {n1 n2 : Nat} {x1 x2 : List Value} (h1 : w.ownsRow b1 e1 s1 v1 n1 x1) (h2 : w.ownsRow b2 e2 s2 v2 n2 x2) (he : e1 ≠ e2) : v1.ownBlock = none ∨ v1.ownBlock ≠ v2.ownBlock := by
  rcases h1.2 with ⟨rfl, _⟩ | ⟨g1, _, _, rfl, _, hg1, _⟩
  · exact .inl rfl
  · refine .inr ?_
    rcases h2.2 with ⟨rfl, _⟩ | ⟨g2, _, _, rfl, _, hg2, _⟩
    · simp [Value.ownBlock]
    · intro h
      simp only [Value.ownBlock, Option.some.injEq] at h
      subst h
      rw [hg1] at hg2
      injection hg2 with hg2
      injection hg2 with _ hg2
      exact he hg2
theorem row_ne_own {w : World} {g b2 : Nat} {e1 e2 : TypeId} {cs : List Value} {s2 : Nat} {v2 : Value} {n2 : Nat} {x2 : List Value} (h1 : Row w g e1 cs) (h2 : w.ownsRow b2 e2 s2 v2 n2 x2) (he : e1 ≠ e2) : v2.ownBlock ≠ some g := by
  rcases h2.2 with ⟨rfl, _⟩ | ⟨g2, _, _, rfl, _, hg2, _⟩
  · simp [Value.ownBlock]
  · intro h
    simp only [Value.ownBlock, Option.some.injEq] at h
    subst h
    rw [show w.heap[g2]? = _ from h1] at hg2
    injection hg2 with hg2
    injection hg2 with _ hg2
    exact he hg2
theorem run_make_rowN {P : Program} (t e : TypeId) (i : TypeInfo) (z : Value) (ht : P.underlying t = some (.slice e)) (hi : P.info? e = some i) (hz : i.zero = some z)
    (kl kc : IntKind) (n c : Nat) (hnc : n ≤ c) (hbytes : i.bytes * c ≤ 281474976710656) (h63 : c ≤ 9223372036854775807) (w : World) :
    (Instr.makeSlice t (.int kl (n : Int)) (.int kc (c : Int))).run P w = .ok (.slice (some ⟨w.heap.size, 0, none⟩) n c) (w.alloc (.cells (madeCells z.cells (c * i.size)) e)) := by
  have hb : (i.bytes : Int) * (c : Int) ≤ 281474976710656 := by
    have h : ((i.bytes * c : Nat) : Int) ≤ 281474976710656 := by omega
    rwa [Int.natCast_mul] at h
  have hr := run_make (P := P) w t e i z ht hi hz kl kc n c (by omega) (by omega) hb (by omega)
  simp only [Int.toNat_natCast] at hr
  exact hr
theorem make_ints (N : Nat) (hN : N ≤ 100000) (w : World) :
    (Instr.makeSlice 27 (.int .i64 (N : Int)) (.int .i64 (N : Int))).run Try.prog w = .ok (.slice (some ⟨w.heap.size, 0, none⟩) N N) (w.alloc (.cells (List.replicate N (Value.int .i64 0)).toArray 3)) := by
  obtain ⟨i0, hi, hz0, hz1, hz2⟩ := info_parts info_int
  have := run_make_rowN 27 3 i0 (.int .i64 0) Try.underlying27 hi hz0 .i64 .i64 N N (Nat.le_refl _) (by rw [hz2]; omega) (by omega) w
  rw [this, hz1, Nat.mul_one]
  have e : madeCells (Value.int .i64 0).cells N = (List.replicate N (Value.int .i64 0)).toArray := by
    rw [← toList_madeCells_one (.int .i64 0) N]; simp [Value.cells]
  rw [e]
end Go.Proofs.Ytceldgcmjmfjfaa

/- Layer 3: edgeStarts: for each state, how many edges leave smaller states. -/
namespace Go.Proofs.Ytceldgcmjmfjfaa
open Go.RowKit Go.Sort

/-- How many edges leave states below i. -/
def startN (l : List Ed) (i : Nat) : Nat := l.countP fun x => decide (x.f < (i : Int))
/-- How many edges leave the state before i. -/
def fromN (l : List Ed) (i : Nat) : Nat := l.countP fun x => decide (x.f + 1 = (i : Int))
def fromL (l : List Ed) (N : Nat) : List Int := (List.range N).map fun i => (fromN l i : Int)
/-- Behind i rounds of the second loop. -/
def midL (l : List Ed) (N i : Nat) : List Int := (List.range N).map fun p => if p ≤ i then (startN l p : Int) else (fromN l p : Int)
def startL (l : List Ed) (N : Nat) : List Int := (List.range N).map fun i => (startN l i : Int)
theorem fromL_len (l : List Ed) (N : Nat) : (fromL l N).length = N := by simp [fromL]
theorem midL_len (l : List Ed) (N i : Nat) : (midL l N i).length = N := by simp [midL]
theorem startL_len (l : List Ed) (N : Nat) : (startL l N).length = N := by simp [startL]
theorem fromL_at {l : List Ed} {N i : Nat} (h : i < N) : (fromL l N).getD i 0 = (fromN l i : Int) := by simp [fromL, List.getD, h]
theorem startL_at {l : List Ed} {N i : Nat} (h : i < N) : (startL l N).getD i 0 = (startN l i : Int) := by simp [startL, List.getD, h]
theorem midL_at {l : List Ed} {N i p : Nat} (h : p < N) : (midL l N i).getD p 0 = if p ≤ i then (startN l p : Int) else (fromN l p : Int) := by simp [midL, List.getD, h]
theorem fromL_nil (N : Nat) : fromL [] N = List.replicate N 0 := by
  apply List.ext_getElem
  · simp [fromL]
  · intro i h1 h2; simp [fromL, fromN]
theorem fromN_snoc (l : List Ed) (x : Ed) (i : Nat) : fromN (l ++ [x]) i = fromN l i + if x.f + 1 = (i : Int) then 1 else 0 := by
  simp [fromN, List.countP_append, List.countP_cons]
theorem fromN_le (l : List Ed) (i : Nat) : fromN l i ≤ l.length := List.countP_le_length
theorem startN_le (l : List Ed) (i : Nat) : startN l i ≤ l.length := List.countP_le_length
theorem fromL_step {l : List Ed} {N f1 : Nat} {x : Ed} (h : x.f + 1 = (f1 : Int)) (hN : f1 < N) : fromL (l ++ [x]) N = (fromL l N).set f1 ((fromN l f1 : Int) + 1) := by
  apply List.ext_getElem
  · simp [fromL]
  · intro i h1 h2
    rw [List.getElem_set]
    simp only [fromL, List.getElem_map, List.getElem_range, fromN_snoc]
    by_cases e : f1 = i
    · subst e; rw [if_pos rfl, if_pos h]; simp
    · rw [if_neg e, if_neg (by omega)]; simp
theorem startN_succ (l : List Ed) (i : Nat) : startN l (i + 1) = startN l i + fromN l (i + 1) := by
  induction l with
  | nil => rfl
  | cons x l ih =>
    simp only [startN, fromN, List.countP_cons] at ih ⊢
    by_cases h1 : x.f < (i : Int)
    · have h2 : x.f < ((i + 1 : Nat) : Int) := by omega
      have h3 : ¬ x.f + 1 = ((i + 1 : Nat) : Int) := by omega
      rw [if_pos (decide_eq_true h2), if_pos (decide_eq_true h1), if_neg (by simpa using h3)]; omega
    · by_cases h2 : x.f < ((i + 1 : Nat) : Int)
      · have h3 : x.f + 1 = ((i + 1 : Nat) : Int) := by omega
        rw [if_pos (decide_eq_true h2), if_neg (by simpa using h1), if_pos (decide_eq_true h3)]; omega
      · have h3 : ¬ x.f + 1 = ((i + 1 : Nat) : Int) := by omega
        rw [if_neg (by simpa using h2), if_neg (by simpa using h1), if_neg (by simpa using h3)]; omega
theorem startN_zero {l : List Ed} (h : ∀ x ∈ l, 0 ≤ x.f) : startN l 0 = 0 := by
  unfold startN; rw [List.countP_eq_zero]; intro x hx; have := h x hx; simp; omega
theorem fromN_zero {l : List Ed} (h : ∀ x ∈ l, 0 ≤ x.f) : fromN l 0 = 0 := by
  unfold fromN; rw [List.countP_eq_zero]; intro x hx; have := h x hx; simp; omega
theorem midL_zero {l : List Ed} (h : ∀ x ∈ l, 0 ≤ x.f) (N : Nat) : fromL l N = midL l N 0 := by
  apply List.ext_getElem
  · simp [fromL, midL]
  · intro i h1 h2
    simp only [fromL, midL, List.getElem_map, List.getElem_range]
    by_cases e : i ≤ 0
    · obtain rfl : i = 0 := by omega
      simp [startN_zero h, fromN_zero h]
    · rw [if_neg e]
theorem midL_step {l : List Ed} {N i i1 : Nat} (hi : i1 = i + 1) (h : i1 < N) : midL l N i1 = (midL l N i).set i1 ((fromN l i1 : Int) + (startN l i : Int)) := by
  subst hi
  apply List.ext_getElem
  · simp [midL]
  · intro p h1 h2
    rw [List.getElem_set]
    simp only [midL, List.getElem_map, List.getElem_range]
    by_cases e : i + 1 = p
    · subst e; rw [if_pos (Nat.le_refl _), if_pos rfl, startN_succ]; omega
    · rw [if_neg e]
      by_cases h3 : p ≤ i
      · rw [if_pos (by omega), if_pos h3]
      · rw [if_neg (by omega), if_neg h3]
theorem midL_end {l : List Ed} {N i : Nat} (h : N ≤ i + 1) : midL l N i = startL l N := by
  apply List.ext_getElem
  · simp [startL, midL]
  · intro p h1 h2
    simp only [midL, startL, List.getElem_map, List.getElem_range]
    rw [if_pos (by simp [startL] at h2; omega)]
theorem map_set_int (zs : List Int) (j : Nat) (v : Int) : (zs.map (Value.int .i64)).set j (.int .i64 v) = (zs.set j v).map (Value.int .i64) := by rw [List.map_set]
theorem take_succ_ed {l : List Ed} {j : Nat} {x : Ed} (h : l[j]? = some x) : l.take (j + 1) = l.take j ++ [x] := by
  obtain ⟨hk, e⟩ := List.getElem?_eq_some_iff.1 h
  rw [List.take_succ_eq_append_getElem hk, e]

set_option maxHeartbeats 1600000 in
set_option maxRecDepth 10000 in
theorem edgeStarts_any (A : Option Addr) (n c : Nat) (s : Int) (M : Option Addr) (m d : Nat) (E : Option Addr) (k g : Nat) (a : Au) (S : Nat) (B : Nat) (w : World) (h : AuR w B A n c s M m d E k g a) (hB : B ≤ w.heap.size) (hS : s = (S : Int)) (hSb : S ≤ 5000) (hf : ∀ x ∈ a.ed, 0 ≤ x.f ∧ x.f < a.st) :
    Calls Try.prog 84 #[.agg #[.slice A n c, .int .i64 s, .slice M m d, .slice E k g]] w fun e w' => ∃ gS, e = .returned (.slice (some ⟨gS, 0, none⟩) (S + 1) (S + 1)) ∧ w.heap.size ≤ gS ∧ Row w' gS 3 ((startL a.ed (S + 1)).map (Value.int .i64)) ∧ Below w.heap.size w w' := by
  have hst := h.st
  subst hS
  have HR := Lib.hid h
  have HF := Lib.hid hf
  have HST := Lib.hid hst
  have HB1 := Lib.hid ((Below.refl w.heap.size w).alloc (Nat.le_refl _) (.cells #[.slice A n c, .int .i64 (S : Int), .slice M m d, .slice E k g] 30))
  have HX := Lib.hid (Row.new w [.slice A n c, .int .i64 (S : Int), .slice M m d, .slice E k g] 30)
  have hbk := h.bk
  have hmk := make_ints (S + 1) (by omega)
  simp only [Int.natCast_add, Int.cast_ofNat_Int] at hmk
  clear h hf hst
  go_enter Try.func84, Try.ntmps84
  have HG0 := Lib.hid (show Row ((w.alloc (.cells #[.slice A n c, .int .i64 (S : Int), .slice M m d, .slice E k g] 30)).alloc (.cells (List.replicate (S + 1) (Value.int .i64 0)).toArray 3)) (w.heap.size + 1) 3 ((fromL (a.ed.take 0) (S + 1)).map (Value.int .i64)) by
    have := Row.new (w.alloc (.cells #[.slice A n c, .int .i64 (S : Int), .slice M m d, .slice E k g] 30)) (List.replicate (S + 1) (Value.int .i64 0)) 3
    rw [List.take_zero, fromL_nil, List.map_replicate]
    simpa using this)
  have HX2 := Lib.hid (HX.out.alloc (.cells (List.replicate (S + 1) (Value.int .i64 0)).toArray 3))
  have HB2 := Lib.hid (HB1.out.alloc (by simp) (.cells (List.replicate (S + 1) (Value.int .i64 0)).toArray 3))
  go_wp2_with fail
  go_loopw [14] (fun i wr => ∃ j : Nat, j ≤ k ∧ i = .int .i64 j ∧ Below w.heap.size w wr ∧ Hid (Row wr w.heap.size 30 [.slice A n c, .int .i64 (S : Int), .slice M m d, .slice E k g]) ∧ Hid (Row wr (w.heap.size + 1) 3 ((fromL (a.ed.take j) (S + 1)).map (Value.int .i64))) ∧ w.heap.size + 1 < wr.heap.size) (fun i _ => k - (intOf i).toNat)
  case atStart => exact ⟨0, Nat.zero_le _, rfl, HB2.out, HX2, HG0, by simp⟩
  case round =>
    obtain ⟨j, hj, rfl, hbel, hbx, hro, hlt0⟩ := hrel
    have hk2 := Lib.hid HR.out.hk
    have hy1 := hbx.out.cell 1 rfl
    by_cases hlt : j < k
    · have hz : j < a.ed.length := by rw [hk2.out]; exact hlt
      obtain ⟨b1, o1, rfl, hb1, hc1⟩ := HR.out.ed (by omega)
      obtain ⟨x, hx⟩ : ∃ x, a.ed[j]? = some x := ⟨_, List.getElem?_eq_getElem hz⟩
      have hxr : EdAt wr b1 (o1 + j * 3) x := (hc1 j x hx).keep fun o => hbel.cell (p := ⟨b1, o, none⟩) (Nat.lt_of_lt_of_le hb1 hB)
      have hfx := HF.out x (List.mem_of_getElem? hx)
      rw [HST.out] at hfx
      have hX := Lib.hid hx
      clear hx hz hc1
      obtain ⟨xf, xe, xt⟩ := x
      simp only at hfx
      obtain ⟨F, rfl⟩ : ∃ F : Nat, xf = (F : Int) := ⟨xf.toNat, by omega⟩
      have hF : F < S := by omega
      obtain ⟨x0, x1, x2⟩ := hxr
      have hcF : wr.cell? ⟨w.heap.size + 1, F + 1, none⟩ = some (.int .i64 (fromN (a.ed.take j) (F + 1) : Int)) := by
        have := hro.out.int (j := F + 1) (by rw [fromL_len]; omega)
        rwa [fromL_at (by omega)] at this
      have hfF := hro.out.frozen (F + 1)
      have hle := fromN_le (a.ed.take j) (F + 1)
      have hle2 : (a.ed.take j).length ≤ j := List.length_take_le _ _
      have HN := Lib.hid (fromL_step (l := a.ed.take j) (N := S + 1) (f1 := F + 1) (x := ⟨(F : Int), xe, xt⟩) (by simp) (by omega))
      obtain ⟨q, hq⟩ : ∃ q, q = fromN (a.ed.take j) (F + 1) := ⟨_, rfl⟩
      rw [← hq] at hcF hle HN
      clear hq hfx
      go_wp2_with fail
      go_roundw
      case rel => exact ⟨j + 1, by omega, by go_num, (hbel.setCell (p := ⟨w.heap.size + 1, F + 1, none⟩) (by simp) _).alloc (by simp; omega) _, Lib.hid ((hbx.out.setOther (p := ⟨w.heap.size + 1, F + 1, none⟩) (by simp) _).alloc _), Lib.hid (by
        rw [take_succ_ed hX.out, HN.out, ← map_set_int]; exact (hro.out.set (F + 1) _).alloc _), by simp; omega⟩
      case measure => simp [intOf]; omega
    · obtain rfl : j = k := by omega
      have hmid := Lib.hid (show Row wr (w.heap.size + 1) 3 ((midL a.ed (S + 1) 0).map (Value.int .i64)) by
        rw [← midL_zero (fun x hx => (HF.out x hx).1)]
        have := hro.out
        rwa [List.take_of_length_le (by rw [hk2.out]; exact Nat.le_refl _)] at this)
      clear hro
      go_wp2_with fail
      go_loopw [29] (fun i wr => ∃ p : Nat, p ≤ S ∧ i = .int .i64 p ∧ Below w.heap.size w wr ∧ Hid (Row wr w.heap.size 30 [.slice A n c, .int .i64 (S : Int), .slice M m d, .slice E j g]) ∧ Hid (Row wr (w.heap.size + 1) 3 ((midL a.ed (S + 1) p).map (Value.int .i64))) ∧ w.heap.size + 1 < wr.heap.size) (fun i _ => S - (intOf i).toNat)
      case atStart => exact ⟨0, Nat.zero_le _, rfl, hbel, hbx, hmid, hlt0⟩
      case round =>
        clear hbel hbx hmid hlt0
        obtain ⟨p, hp, rfl, hbel, hbx, hro, hlt0⟩ := hrel
        by_cases hlt2 : p < S
        · obtain ⟨p1, hp1⟩ : ∃ p1, p1 = p + 1 := ⟨_, rfl⟩
          have HP := Lib.hid hp1
          have hpS : p1 < S + 1 := by omega
          have hc0 : wr.cell? ⟨w.heap.size + 1, p, none⟩ = some (.int .i64 (startN a.ed p : Int)) := by
            have := hro.out.int (j := p) (by rw [midL_len]; omega)
            rwa [midL_at (by omega), if_pos (Nat.le_refl _)] at this
          have hc1 : wr.cell? ⟨w.heap.size + 1, p1, none⟩ = some (.int .i64 (fromN a.ed p1 : Int)) := by
            have := hro.out.int (j := p1) (by rw [midL_len]; omega)
            rwa [midL_at (by omega), if_neg (by omega)] at this
          have hfr := hro.out.frozen p1
          have hl1 := startN_le a.ed p
          have hl2 := fromN_le a.ed p1
          rw [hk2.out] at hl1 hl2
          have hN := Lib.hid (midL_step (l := a.ed) hp1 hpS)
          have hwr : IntKind.i64.wrap ((p : Int) + 1) = (p1 : Int) := by rw [IntWalk.i64_in _ (by omega)]; omega
          obtain ⟨q, hq⟩ : ∃ q, q = startN a.ed p := ⟨_, rfl⟩
          obtain ⟨r, hr⟩ : ∃ r, r = fromN a.ed p1 := ⟨_, rfl⟩
          rw [← hq] at hc0 hl1 hN
          rw [← hr] at hc1 hl2 hN
          have hwr2 : IntKind.i64.wrap ((r : Int) + (q : Int)) = (r : Int) + (q : Int) := by rw [IntWalk.i64_in _ (by omega)]
          clear hq hr hp1
          go_wp2_with fail
          have i0 : (0 : Int) ≤ (p1 : Int) := by omega
          have i1 : (p1 : Int) < (S : Int) + 1 := by omega
          have i2 : (p : Int) < (S : Int) + 1 := by omega
          go_still_tail 11, (by kernel_rfl)
          change wpList _ _ _ _ _ wr.drew
          go_wp2_with fail
          go_roundw
          case rel => exact ⟨p1, by omega, by have := HP.out; go_num, (hbel.drew.setCell (p := ⟨w.heap.size + 1, p1, none⟩) (by simp) _), Lib.hid (Row.setOther (w := wr.drew) hbx.out (p := ⟨w.heap.size + 1, p1, none⟩) (by simp) _), Lib.hid (by
            rw [hN.out, ← map_set_int]; exact Row.set (w := wr.drew) hro.out p1 _), by simp; omega⟩
          case measure => have := HP.out; simp [intOf]; omega
        · obtain rfl : p = S := by omega
          have hN := Lib.hid (midL_end (l := a.ed) (N := p + 1) (i := p) (Nat.le_refl _))
          go_wp2_with fail
          go_ret
          exact ⟨w.heap.size + 1, rfl, by omega, by have := hro.out; rwa [hN.out] at this, hbel⟩
end Go.Proofs.Ytceldgcmjmfjfaa

/- Layer 3, the mathematics of the canonical form. -/
namespace Go.Proofs.Ytceldgcmjmfjfaa
open Go.RowKit

/-- Two lists that are increasing in one order and have the same elements are one. -/
theorem sorted_ext {α : Type} {r : α → α → Prop} (hi : ∀ x, ¬ r x x) (ht : ∀ x y z, r x y → r y z → r x z) : ∀ (a b : List α), a.Pairwise r → b.Pairwise r → (∀ x, x ∈ a ↔ x ∈ b) → a = b
  | [], [], _, _, _ => rfl
  | [], y :: b, _, _, h => absurd ((h y).2 (by simp)) (by simp)
  | x :: a, [], _, _, h => absurd ((h x).1 (by simp)) (by simp)
  | x :: a, y :: b, ha, hb, h => by
    rw [List.pairwise_cons] at ha hb
    have hxy : x = y := by
      rcases List.mem_cons.1 ((h x).1 (by simp)) with e | h1
      · exact e
      · rcases List.mem_cons.1 ((h y).2 (by simp)) with e | h2
        · exact e.symm
        · exact absurd (ht _ _ _ (ha.1 y h2) (hb.1 x h1)) (hi x)
    subst hxy
    have : a = b := sorted_ext hi ht a b ha.2 hb.2 fun z => by
      constructor
      · intro hz
        rcases List.mem_cons.1 ((h z).1 (by simp [hz])) with e | h1
        · subst e; exact absurd (ha.1 z hz) (hi z)
        · exact h1
      · intro hz
        rcases List.mem_cons.1 ((h z).2 (by simp [hz])) with e | h1
        · subst e; exact absurd (hb.1 z hz) (hi z)
        · exact h1
    rw [this]

/-- The edges of a state, in order. -/
def succ (l : List Ed) (q : Int) : List Ed := l.filter fun x => decide (x.f = q)
theorem mem_succ {l : List Ed} {q : Int} {x : Ed} : x ∈ succ l q ↔ x ∈ l ∧ x.f = q := by simp [succ]
theorem succ_sorted {l : List Ed} (h : l.Pairwise ltE) (q : Int) : (succ l q).Pairwise fun x y => x.e < y.e := by
  have h1 : (succ l q).Pairwise ltE := h.sublist List.filter_sublist
  refine h1.imp_of_mem fun hx hy hlt => ?_
  rw [mem_succ] at hx hy
  unfold ltE at hlt; omega
theorem succ_eq {a : Au} (h : RightW a) (q : Int) : succ a.ed q = a.al.filterMap (edgeO a.ed q) := by
  refine sorted_ext (r := fun x y : Ed => x.e < y.e) (fun x => by omega) (fun x y z h1 h2 => by omega) _ _ (succ_sorted h.edo q) ?_ fun x => ?_
  · rw [List.pairwise_filterMap]
    refine h.alo.imp fun hlt y hy z hz => ?_
    rw [edgeO_some h.edo] at hy hz
    omega
  · rw [mem_succ, List.mem_filterMap]
    constructor
    · rintro ⟨h1, h2⟩
      exact ⟨x.e, (h.edr x h1).2.2, (edgeO_some h.edo).2 ⟨h1, h2, rfl⟩⟩
    · rintro ⟨ev, _, h2⟩
      have := (edgeO_some h.edo).1 h2
      exact ⟨this.1, this.2.1⟩
theorem split_f : ∀ (l : List Ed) (q : Int), l.Pairwise (fun x y => x.f ≤ y.f) → l = l.filter (fun x => decide (x.f < q)) ++ l.filter (fun x => decide (¬ x.f < q))
  | [], q, _ => rfl
  | x :: l, q, h => by
    rw [List.pairwise_cons] at h
    by_cases hx : x.f < q
    · have := split_f l q h.2
      simp only [List.filter_cons, hx, decide_true, if_true, not_true, decide_false, if_false, List.cons_append]
      simp only [Bool.false_eq_true, if_false]
      exact congrArg _ this
    · have e1 : l.filter (fun x => decide (x.f < q)) = [] := by
        rw [List.filter_eq_nil_iff]; intro y hy; have := h.1 y hy; simp; omega
      have e2 : l.filter (fun x => decide (¬ x.f < q)) = l := by
        rw [List.filter_eq_self]; intro y hy; have := h.1 y hy; simp; omega
      simp only [List.filter_cons, hx, decide_false, not_false_iff, decide_true, if_true, e1, e2]
      simp
theorem le_of_ltE {l : List Ed} (h : l.Pairwise ltE) : l.Pairwise (fun x y => x.f ≤ y.f) := h.imp fun h => by unfold ltE at h; omega
/-- The edges between two starts are those of the state. -/
theorem slice_succ {l : List Ed} (h : l.Pairwise ltE) (q : Nat) : (l.drop (startN l q)).take (startN l (q + 1) - startN l q) = succ l (q : Int) := by
  have h1 := split_f l (q : Int) (le_of_ltE h)
  have e1 : (l.filter fun x => decide (x.f < (q : Int))).length = startN l q := by rw [startN, List.countP_eq_length_filter]
  have e2 : l.drop (startN l q) = l.filter fun x => decide (¬ x.f < (q : Int)) := by
    exact (congrArg (List.drop (startN l q)) h1).trans (by rw [← e1, List.drop_left])
  have h3 : (l.filter fun x => decide (¬ x.f < (q : Int))).Pairwise (fun x y => x.f ≤ y.f) := (le_of_ltE h).sublist List.filter_sublist
  have h4 := split_f _ ((q + 1 : Nat) : Int) h3
  have e3 : ((l.filter fun x => decide (¬ x.f < (q : Int))).filter fun x => decide (x.f < ((q + 1 : Nat) : Int))) = succ l q := by
    rw [List.filter_filter, succ]
    apply List.filter_congr
    intro x _
    rw [Bool.eq_iff_iff]; simp; omega
  have e4 : startN l (q + 1) - startN l q = (succ l q).length := by
    rw [startN_succ, fromN, succ, List.countP_eq_length_filter]
    have : (l.filter fun x => decide (x.f + 1 = ((q + 1 : Nat) : Int))) = l.filter fun x => decide (x.f = (q : Int)) := by
      apply List.filter_congr; intro x _; rw [Bool.eq_iff_iff]; simp
    rw [this, Nat.add_sub_cancel_left]
  rw [e2, h4, e3, e4, List.take_left]

/-- A state that is found. -/
def visit (fl : List Int) (t : Int) : List Int := if t ∈ fl then fl else fl ++ [t]
def visitL (fl : List Int) (l : List Ed) : List Int := l.foldl (fun fl x => visit fl x.t) fl
theorem visit_pre (fl : List Int) (t : Int) : fl <+: visit fl t := by
  unfold visit; split
  · exact List.prefix_rfl
  · exact List.prefix_append _ _
theorem mem_visit {fl : List Int} {t x : Int} : x ∈ visit fl t ↔ x ∈ fl ∨ x = t := by
  unfold visit; split
  · next h => exact ⟨Or.inl, fun h' => h'.elim id fun e => e ▸ h⟩
  · simp
theorem visitL_nil (fl : List Int) : visitL fl [] = fl := rfl
theorem visitL_cons (fl : List Int) (x : Ed) (l : List Ed) : visitL fl (x :: l) = visitL (visit fl x.t) l := rfl
theorem visitL_snoc (fl : List Int) (x : Ed) (l : List Ed) : visitL fl (l ++ [x]) = visit (visitL fl l) x.t := by simp [visitL]
theorem visitL_app (fl : List Int) (l r : List Ed) : visitL fl (l ++ r) = visitL (visitL fl l) r := by simp [visitL]
theorem visitL_pre : ∀ (l : List Ed) (fl : List Int), fl <+: visitL fl l
  | [], fl => List.prefix_rfl
  | x :: l, fl => by rw [visitL_cons]; exact (visit_pre fl x.t).trans (visitL_pre l _)
theorem mem_visitL : ∀ (l : List Ed) (fl : List Int) (q : Int), q ∈ visitL fl l ↔ q ∈ fl ∨ ∃ x ∈ l, x.t = q
  | [], fl, q => by simp [visitL_nil]
  | x :: l, fl, q => by
    rw [visitL_cons, mem_visitL l, mem_visit]
    simp only [List.mem_cons, exists_eq_or_imp]
    constructor
    · rintro ((h | h) | h)
      · exact .inl h
      · exact .inr (.inl h.symm)
      · exact .inr (.inr h)
    · rintro (h | h | h)
      · exact .inl (.inl h)
      · exact .inl (.inr h.symm)
      · exact .inr h
theorem visit_nodup {fl : List Int} (h : fl.Nodup) (t : Int) : (visit fl t).Nodup := by
  unfold visit; split
  · exact h
  · next hn => rw [List.nodup_append]; exact ⟨h, by simp, fun x hx y hy => by simp at hy; subst hy; rintro rfl; exact hn hx⟩
theorem visitL_nodup : ∀ (l : List Ed) {fl : List Int}, fl.Nodup → (visitL fl l).Nodup
  | [], _, h => h
  | x :: l, fl, h => by rw [visitL_cons]; exact visitL_nodup l (visit_nodup h x.t)

/-- What is found when the first n of the found states are done. -/
def Fd (a : Au) : Nat → List Int
  | 0 => [0]
  | n + 1 => if n < (Fd a n).length then visitL (Fd a n) (succ a.ed ((Fd a n).getD n 0)) else Fd a n
theorem Fd_go {a : Au} {n : Nat} (h : n < (Fd a n).length) : Fd a (n + 1) = visitL (Fd a n) (succ a.ed ((Fd a n).getD n 0)) := by rw [Fd, if_pos h]
theorem Fd_stop {a : Au} {n : Nat} (h : ¬ n < (Fd a n).length) : Fd a (n + 1) = Fd a n := by rw [Fd, if_neg h]
theorem Fd_pre (a : Au) (n : Nat) : Fd a n <+: Fd a (n + 1) := by
  by_cases h : n < (Fd a n).length
  · rw [Fd_go h]; exact visitL_pre _ _
  · rw [Fd_stop h]; exact List.prefix_rfl
theorem Fd_mono (a : Au) (n : Nat) : ∀ m, Fd a n <+: Fd a (n + m)
  | 0 => List.prefix_rfl
  | m + 1 => (Fd_mono a n m).trans (Fd_pre a (n + m))
theorem Fd_mono' {a : Au} {n m : Nat} (h : n ≤ m) : Fd a n <+: Fd a m := by
  obtain ⟨d, rfl⟩ : ∃ d, m = n + d := ⟨m - n, by omega⟩
  exact Fd_mono a n d
theorem Fd_nodup (a : Au) : ∀ n, (Fd a n).Nodup
  | 0 => by simp [Fd]
  | n + 1 => by
    by_cases h : n < (Fd a n).length
    · rw [Fd_go h]; exact visitL_nodup _ (Fd_nodup a n)
    · rw [Fd_stop h]; exact Fd_nodup a n
theorem Fd_range {a : Au} (h : RightW a) (h0 : 0 < a.st) : ∀ n, ∀ x ∈ Fd a n, 0 ≤ x ∧ x < a.st
  | 0, x, hx => by simp [Fd] at hx; omega
  | n + 1, x, hx => by
    by_cases hn : n < (Fd a n).length
    · rw [Fd_go hn, mem_visitL] at hx
      rcases hx with hx | ⟨y, hy, rfl⟩
      · exact Fd_range h h0 n x hx
      · exact (h.edr y (mem_succ.1 hy).1).2.1
    · rw [Fd_stop hn] at hx; exact Fd_range h h0 n x hx
/-- A list without repetition whose elements lie in a range is no longer than that. -/
theorem nodup_len {S : Nat} {l : List Int} (hd : l.Nodup) (h : ∀ x ∈ l, 0 ≤ x ∧ x < (S : Int)) : l.length ≤ S := by
  have h1 : (l.map Int.toNat).Nodup := by
    rw [List.nodup_iff_pairwise_ne, List.pairwise_map]
    exact (List.nodup_iff_pairwise_ne.1 hd).imp_of_mem fun hx hy hne e => hne (by have := h _ hx; have := h _ hy; omega)
  have h2 : (l.map Int.toNat) ⊆ List.range S := fun x hx => by
    obtain ⟨y, hy, rfl⟩ := List.mem_map.1 hx
    have := h y hy
    simp; omega
  have := h1.length_le_of_subset h2
  simpa using this
theorem Fd_len {a : Au} (h : RightW a) (h0 : 0 < a.st) (n : Nat) : (Fd a n).length ≤ a.st.toNat :=
  nodup_len (Fd_nodup a n) fun x hx => by have := Fd_range h h0 n x hx; omega
theorem Fd_still {a : Au} {n : Nat} (h : (Fd a n).length ≤ n) : ∀ m, Fd a (n + m) = Fd a n
  | 0 => rfl
  | m + 1 => by
    have ih := Fd_still h m
    rw [← Nat.add_assoc, Fd_stop (by rw [ih]; omega), ih]
/-- All states that are found, in order. -/
def fnd (a : Au) : List Int := if a.st ≤ 0 then [] else Fd a a.st.toNat
theorem fnd_pos {a : Au} (h : 0 < a.st) : fnd a = Fd a a.st.toNat := by rw [fnd, if_neg (by omega)]
theorem fnd_at {a : Au} (h : RightW a) (h0 : 0 < a.st) {n : Nat} (hn : (Fd a n).length ≤ n) (hs : n ≤ a.st.toNat) : fnd a = Fd a n := by
  rw [fnd_pos h0]
  obtain ⟨d, hd⟩ : ∃ d, a.st.toNat = n + d := ⟨a.st.toNat - n, by omega⟩
  rw [hd, Fd_still hn]
theorem Fd_fnd {a : Au} (h : RightW a) (h0 : 0 < a.st) (n : Nat) : Fd a n <+: fnd a := by
  rw [fnd_pos h0]
  by_cases hn : n ≤ a.st.toNat
  · exact Fd_mono' hn
  · have := Fd_still (a := a) (n := a.st.toNat) (Fd_len h h0 _) (n - a.st.toNat)
    rw [← this]
    rw [show a.st.toNat + (n - a.st.toNat) = n by omega]; exact List.prefix_rfl
theorem fnd_nodup (a : Au) : (fnd a).Nodup := by
  unfold fnd; split
  · exact List.nodup_nil
  · exact Fd_nodup _ _
theorem fnd_range {a : Au} (h : RightW a) : ∀ x ∈ fnd a, 0 ≤ x ∧ x < a.st := by
  by_cases h0 : 0 < a.st
  · rw [fnd_pos h0]; exact Fd_range h h0 _
  · rw [fnd, if_pos (by omega)]; simp
theorem fnd_len {a : Au} (h : RightW a) : (fnd a).length ≤ a.st.toNat := nodup_len (fnd_nodup a) fun x hx => by have := fnd_range h x hx; omega
theorem idx_pre {l r : List Int} (h : l <+: r) {x : Int} (hx : x ∈ l) : r.idxOf x = l.idxOf x := by
  obtain ⟨t, rfl⟩ := h
  rw [List.idxOf_append, if_pos hx]
theorem getD_pre {l r : List Int} (h : l <+: r) {i : Nat} (hi : i < l.length) : r.getD i 0 = l.getD i 0 := by
  obtain ⟨t, rfl⟩ := h
  simp [List.getD, List.getElem?_append_left hi]

/-- The edges of the canonical form that leave its state n. -/
def outE (a : Au) (fl : List Int) (n : Nat) : List Ed := (succ a.ed (fl.getD n 0)).map fun x => ⟨(n : Int), x.e, (fl.idxOf x.t : Int)⟩
def canEn (a : Au) (n : Nat) : List Ed := (List.range n).flatMap (outE a (fnd a))
def canM (a : Au) : List Int := ((List.range (fnd a).length).filter fun i => decide ((fnd a).getD i 0 ∈ a.mr)).map fun (i : Nat) => (i : Int)
/-- The canonical form. -/
def canA (a : Au) : Au := ⟨a.al, ((fnd a).length : Int), canM a, canEn a (fnd a).length⟩
theorem canEn_succ (a : Au) (n : Nat) : canEn a (n + 1) = canEn a n ++ outE a (fnd a) n := by simp [canEn, List.range_succ]
theorem sum_one (x : Int) : ∀ qs : List Int, qs.Nodup → (qs.map fun q => if x = q then 1 else 0).sum ≤ 1
  | [], _ => by simp
  | q :: qs, h => by
    rw [List.nodup_cons] at h
    by_cases e : x = q
    · have : (qs.map fun q => if x = q then 1 else 0) = qs.map fun _ => 0 := List.map_congr_left fun y hy => by rw [if_neg]; rintro rfl; exact h.1 (e ▸ hy)
      simp only [List.map_cons, List.sum_cons, if_pos e, this]
      have h0 : ∀ l : List Int, (l.map fun _ => (0 : Nat)).sum = 0 := fun l => by induction l <;> simp_all
      rw [h0]; exact Nat.le_refl _
    · simp only [List.map_cons, List.sum_cons, if_neg e, Nat.zero_add]; exact sum_one x qs h.2
theorem sum_map_add' (f g : Int → Nat) : ∀ qs : List Int, (qs.map fun q => f q + g q).sum = (qs.map f).sum + (qs.map g).sum
  | [] => rfl
  | q :: qs => by simp only [List.map_cons, List.sum_cons, sum_map_add' f g qs]; omega
theorem sum_cnt : ∀ (l : List Ed) (qs : List Int), qs.Nodup → (qs.map fun q => (succ l q).length).sum ≤ l.length
  | [], qs, _ => by
    have h0 : ∀ l : List Int, (l.map fun q => (succ [] q).length).sum = 0 := fun l => by induction l <;> simp_all [succ]
    rw [h0]; exact Nat.le_refl _
  | x :: l, qs, h => by
    have e : (fun q => (succ (x :: l) q).length) = fun q => (succ l q).length + if x.f = q then 1 else 0 := by
      funext q; unfold succ; rw [List.filter_cons]; by_cases hq : x.f = q <;> simp [hq]
    rw [e, sum_map_add']
    have := sum_cnt l qs h
    have := sum_one x.f qs h
    simp only [List.length_cons]; omega
theorem canEn_len (a : Au) {n : Nat} (hn : n ≤ (fnd a).length) : (canEn a n).length ≤ a.ed.length := by
  have h1 : (canEn a n).length = (((fnd a).take n).map fun q => (succ a.ed q).length).sum := by
    unfold canEn
    rw [List.length_flatMap]
    congr 1
    apply List.ext_getElem
    · simp; omega
    · intro i h1 h2
      have : i < (fnd a).length := by simp at h1; omega
      simp [outE, List.getD, List.getElem?_eq_getElem this]
  rw [h1]
  exact sum_cnt a.ed _ ((fnd_nodup a).sublist (List.take_sublist _ _))
end Go.Proofs.Ytceldgcmjmfjfaa

/- Contracts of the library at this program, laid in plain words. -/
namespace Go.Proofs.Ytceldgcmjmfjfaa
open Go.Shelf
def laySI_ren : Go.Shelf.Ren := ⟨fun | 5 => 85 | 8 => 102 | 7 => 101 | 19 => 119 | 20 => 120 | 10 => 111 | 11 => 112 | 12 => 113 | 13 => 114 | 14 => 115 | 15 => 116 | 16 => 109 | 17 => 117 | 18 => 118 | 30 => 130 | 31 => 131 | 32 => 132 | 33 => 133 | 34 => 134 | 35 => 106 | 40 => 138 | n => n, fun | 23 => 27 | 25 => 3 | 3 => 3 | 32 => 134 | 22 => 27 | 0 => 0 | 44 => 147 | 46 => 149 | 4 => 4 | 36 => 141 | 35 => 140 | 41 => 108 | 5 => 5 | 9 => 9 | 53 => 156 | 57 => 160 | 63 => 164 | 64 => 127 | n => n, fun | n => n⟩
theorem laySI : Go.Proofs.SlLaysM.n5 Try.prog laySI_ren := {
  mixed := by kernel_rfl
  f5 := ⟨Try.f85.name, by decide, Try.func85.trans (congrArg some (by kernel_rfl))⟩
  f7 := ⟨Try.f101.name, by decide, Try.func101.trans (congrArg some (by kernel_rfl))⟩
  f8 := Try.func102.trans (congrArg some (by kernel_rfl))
  f10 := ⟨Try.f111.name, by decide, Try.func111.trans (congrArg some (by kernel_rfl))⟩
  f11 := ⟨Try.f112.name, by decide, Try.func112.trans (congrArg some (by kernel_rfl))⟩
  f12 := ⟨Try.f113.name, by decide, Try.func113.trans (congrArg some (by kernel_rfl))⟩
  f13 := ⟨Try.f114.name, by decide, Try.func114.trans (congrArg some (by kernel_rfl))⟩
  f14 := ⟨Try.f115.name, by decide, Try.func115.trans (congrArg some (by kernel_rfl))⟩
  f15 := ⟨Try.f116.name, by decide, Try.func116.trans (congrArg some (by kernel_rfl))⟩
  f16 := ⟨Try.f109.name, by decide, Try.func109.trans (congrArg some (by kernel_rfl))⟩
  f17 := ⟨Try.f117.name, by decide, Try.func117.trans (congrArg some (by kernel_rfl))⟩
  f18 := ⟨Try.f118.name, by decide, Try.func118.trans (congrArg some (by kernel_rfl))⟩
  f19 := Try.func119.trans (congrArg some (by kernel_rfl))
  f20 := Try.func120.trans (congrArg some (by kernel_rfl))
  f30 := ⟨Try.f130.name, by decide, Try.func130.trans (congrArg some (by kernel_rfl))⟩
  f31 := Try.func131.trans (congrArg some (by kernel_rfl))
  f32 := Try.func132.trans (congrArg some (by kernel_rfl))
  f33 := ⟨Try.f133.name, by decide, Try.func133.trans (congrArg some (by kernel_rfl))⟩
  f34 := ⟨Try.f134.name, by decide, Try.func134.trans (congrArg some (by kernel_rfl))⟩
  f35 := ⟨Try.f106.name, by decide, Try.func106.trans (congrArg some (by kernel_rfl))⟩
  f40 := ⟨Try.f138.name, by decide, Try.func138.trans (congrArg some (by kernel_rfl))⟩
  t0 := Try.underlying0
  a0 := Try.isAgg0
  z0 := Try.sizeOf0
  v0 := Try.zeroValue0
  t3 := Try.underlying3
  a3 := Try.isAgg3
  z3 := Try.sizeOf3
  v3 := Try.zeroValue3
  t4 := Try.underlying4
  a4 := Try.isAgg4
  z4 := Try.sizeOf4
  v4 := Try.zeroValue4
  t5 := Try.underlying5
  a5 := Try.isAgg5
  z5 := Try.sizeOf5
  v5 := Try.zeroValue5
  t9 := Try.underlying9
  a9 := Try.isAgg9
  z9 := Try.sizeOf9
  v9 := Try.zeroValue9
  t22 := Try.underlying27
  a22 := Try.isAgg27
  z22 := Try.sizeOf27
  v22 := Try.zeroValue27
  t23 := Try.underlying27
  a23 := Try.isAgg27
  z23 := Try.sizeOf27
  v23 := Try.zeroValue27
  t25 := Try.underlying3
  a25 := Try.isAgg3
  z25 := Try.sizeOf3
  v25 := Try.zeroValue3
  t32 := Try.underlying134
  a32 := Try.isAgg134
  z32 := Try.sizeOf134
  v32 := Try.zeroValue134
  t35 := Try.underlying140
  a35 := Try.isAgg140
  z35 := Try.sizeOf140
  v35 := Try.zeroValue140
  t36 := Try.underlying141
  a36 := Try.isAgg141
  z36 := Try.sizeOf141
  v36 := Try.zeroValue141
  t41 := Try.underlying108
  a41 := Try.isAgg108
  z41 := Try.sizeOf108
  v41 := Try.zeroValue108
  t44 := Try.underlying147
  a44 := Try.isAgg147
  z44 := Try.sizeOf147
  v44 := Try.zeroValue147
  t46 := Try.underlying149
  a46 := Try.isAgg149
  z46 := Try.sizeOf149
  v46 := Try.zeroValue149
  t53 := Try.underlying156
  a53 := Try.isAgg156
  z53 := Try.sizeOf156
  v53 := Try.zeroValue156
  t57 := Try.underlying160
  a57 := Try.isAgg160
  z57 := Try.sizeOf160
  v57 := Try.zeroValue160
  t63 := Try.underlying164
  a63 := Try.isAgg164
  z63 := Try.sizeOf164
  v63 := Try.zeroValue164
  t64 := Try.underlying127
  a64 := Try.isAgg127
  z64 := Try.sizeOf127
  v64 := Try.zeroValue127 }
end Go.Proofs.Ytceldgcmjmfjfaa

/- Layer 3: slices.Sort over a list of ints of the call's own. -/
namespace Go.Proofs.Ytceldgcmjmfjfaa
open Go.RowKit Go.Sort

/-- A list of ints in increasing order. -/
def srtI (zs : List Int) : List Int := zs.mergeSort fun x y => decide (x ≤ y)
theorem srtI_len (zs : List Int) : (srtI zs).length = zs.length := by simp [srtI, List.length_mergeSort]
theorem sort_own {base : Nat} {v : Value} {zs : List Int} (w : World) (h : Own w base v zs) (hl : zs.length ≤ 100000) :
    Calls Try.prog 85 #[v] w fun e w' => e = .returned (.tuple #[]) ∧ Own w' base v (srtI zs) ∧ w.grownBy w' v.ownBlock := by
  rcases h.2 with ⟨rfl, h0⟩ | ⟨g, cap, cur, rfl, hb, hh, hn, hcap, hsz, htake⟩
  · have hz : zs = [] := List.eq_nil_of_length_eq_zero h0
    subst hz
    have hcon := AnyM.slices_Sort_int_none laySI none 0 w
    refine Calls.mono (show Calls Try.prog 85 _ w _ from hcon) ?_
    rintro e w' ⟨rfl, rfl⟩
    exact ⟨rfl, by simpa [srtI] using h, ⟨rfl, rfl, rfl, Nat.le_refl _, fun _ _ _ => rfl⟩⟩
  · rw [Nat.mul_one] at htake hsz
    have hH := holds_of_blockI (ss := zs) hh htake
    have hcon := AnyM.slices_Sort_int laySI g 0 cap zs w hH (h.lt g rfl).2 (by omega)
    refine Calls.mono (show Calls Try.prog 85 _ w _ from hcon) ?_
    rintro e w' ⟨rfl, n, os, rfl⟩
    refine ⟨rfl, ?_, grownBy_sortedI _⟩
    have := ownsRow_sortedI (base := base) (n := n) (os := os) (ss := zs) (ts := srtI zs) (srtI_len zs) hb hh hn hcap (by omega)
    unfold Own
    rw [srtI_len]
    first | exact this | simpa [srtI_len] using this
end Go.Proofs.Ytceldgcmjmfjfaa

/- Layer 3: the memory of canonical between its rounds. -/
namespace Go.Proofs.Ytceldgcmjmfjfaa
open Go.RowKit Go.Sort

theorem results_cell1 {fn : Func} {p : Tmp} {ty : TypeId} (h : fn.results = #[.cell p ty]) (tmps : Array Value) (P : Program) (w : World) :
    (results fn tmps).run P w = ((asAddr (tmps.getD p undef)).run P w).andThen fun a w₁ => (loadVar ty a).run P w₁ := by
  simp only [results, h]
  simp [Sem.run_bind, Result.andThen]
theorem results_cell_tmp1 {fn : Func} {p u : Tmp} {ty : TypeId} (h : fn.results = #[.cell p ty, .tmp u]) (tmps : Array Value) (P : Program) (w : World) :
    (results fn tmps).run P w = ((asAddr (tmps.getD p undef)).run P w).andThen fun a w₁ => ((loadVar ty a).run P w₁).andThen fun v w₂ => .ok (.tuple #[v, tmps.getD u undef]) w₂ := by
  simp only [results, h]
  simp [Sem.run_bind, Result.andThen]
/-- The numbers of the states that have been found, -1 for all others. -/
def numL (fl : List Int) (S : Nat) : List Int := (List.range S).map fun (q : Nat) => if (q : Int) ∈ fl then (fl.idxOf (q : Int) : Int) else -1
theorem numL_len (fl : List Int) (S : Nat) : (numL fl S).length = S := by simp [numL]
theorem numL_at {fl : List Int} {S q : Nat} (h : q < S) : (numL fl S).getD q 0 = if (q : Int) ∈ fl then (fl.idxOf (q : Int) : Int) else -1 := by simp [numL, List.getD, h]
theorem numL_add {fl : List Int} {S T : Nat} (hn : (T : Int) ∉ fl) : numL (fl ++ [(T : Int)]) S = (numL fl S).set T (fl.length : Int) := by
  apply List.ext_getElem
  · simp [numL]
  · intro i h1 h2
    rw [List.getElem_set]
    simp only [numL, List.getElem_map, List.getElem_range]
    by_cases e : T = i
    · subst e
      rw [if_pos rfl, if_pos (by simp), List.idxOf_append, if_neg hn]; simp
    · rw [if_neg e]
      by_cases hi : (i : Int) ∈ fl
      · rw [if_pos (by simp [hi]), if_pos hi, List.idxOf_append, if_pos hi]
      · rw [if_neg (by simp [hi]; omega), if_neg hi]
theorem numL_zero {S : Nat} (h : 0 < S) : numL [0] S = (List.replicate S (-1)).set 0 0 := by
  apply List.ext_getElem
  · simp [numL]
  · intro i h1 h2
    rw [List.getElem_set]
    simp only [numL, List.getElem_map, List.getElem_range]
    by_cases e : 0 = i
    · subst e; simp
    · rw [if_neg e, if_neg (by simp; omega)]; simp

/-- The blocks of canonical: H its argument, H + 1 its result, bc the form that is made, bc + 1 the numbers, gS the starts. -/
structure CS (w : World) (H bc gS : Nat) (A : Option Addr) (n c : Nat) (s : Int) (M : Option Addr) (m d : Nat) (E : Option Addr) (k g : Nat) (S : Nat) (Ac : Option Addr) (cc : Nat) (a : Au) (wr : World) (fl : List Int) (vf : Value) (es : List Ed) (ve : Value) : Prop where
  bel : Below H w wr
  bx : Row wr H 30 [.slice A n c, .int .i64 s, .slice M m d, .slice E k g]
  res : Row wr (H + 1) 30 [.slice none 0 0, .int .i64 0, .slice none 0 0, .slice none 0 0]
  cb : Row wr bc 30 [.slice Ac n cc, .int .i64 0, .slice none 0 0, ve]
  cl : RdI wr bc Ac a.al
  nu : Row wr (bc + 1) 3 ((numL fl S).map (Value.int .i64))
  st : Row wr gS 3 ((startL a.ed (S + 1)).map (Value.int .i64))
  fo : Own wr (bc + 2) vf fl
  eo : OwnE wr (bc + 2) ve es
  fs : vf.ownBlock ≠ some gS
  h1 : H + 1 < bc
  h2 : bc + 1 < gS
  h3 : gS < wr.heap.size
theorem own_row {w w' : World} {base n : Nat} {e : TypeId} {sz : Nat} {v : Value} {xs : List Value} {row : Option Nat} (h : w.ownsRow base e sz v n xs) (hg : w.grownBy w' row) (hne : v.ownBlock = none ∨ v.ownBlock ≠ row) : w'.ownsRow base e sz v n xs := h.kept hg hne
theorem Row.grown {w w' : World} {g : Nat} {e : TypeId} {cs : List Value} {row : Option Nat} (h : Row w g e cs) (hg : w.grownBy w' row) (hne : row ≠ some g) : Row w' g e cs := (hg.block g h.lt (fun e => hne e.symm)).trans h
theorem RdI.grown {w w' : World} {B : Nat} {A : Option Addr} {zs : List Int} {row : Option Nat} (h : RdI w B A zs) (hB : B ≤ w.heap.size) (hg : w.grownBy w' row) (hr : ∀ k, row = some k → B ≤ k) : RdI w' B A zs :=
  h.below ((Below.refl B w).grown hg hB hr) (Nat.le_refl _)

section
variable {w : World} {H bc gS : Nat} {A : Option Addr} {n c : Nat} {s : Int} {M : Option Addr} {m d : Nat} {E : Option Addr} {k g : Nat} {S : Nat} {Ac : Option Addr} {cc : Nat} {a : Au} {wr w1 : World} {fl : List Int} {vf vf' : Value} {es : List Ed} {ve ve' : Value}
theorem CS.alloc (h : CS w H bc gS A n c s M m d E k g S Ac cc a wr fl vf es ve) (o : Obj) : CS w H bc gS A n c s M m d E k g S Ac cc a (wr.alloc o) fl vf es ve :=
  { h with
    bel := h.bel.alloc (by have := h.h1; have := h.h2; have := h.h3; omega) o
    bx := h.bx.alloc o, res := h.res.alloc o, cb := h.cb.alloc o
    cl := h.cl.below ((Below.refl bc wr).alloc (by have := h.h2; have := h.h3; omega) o) (Nat.le_refl _)
    nu := h.nu.alloc o, st := h.st.alloc o, fo := h.fo.alloc o, eo := h.eo.alloc o
    h3 := by have := h.h3; simp; omega }
theorem CS.drew (h : CS w H bc gS A n c s M m d E k g S Ac cc a wr fl vf es ve) : CS w H bc gS A n c s M m d E k g S Ac cc a wr.drew fl vf es ve :=
  { h with bel := h.bel.drew, bx := h.bx, res := h.res, cb := h.cb, cl := h.cl, nu := h.nu, st := h.st, fo := h.fo, eo := h.eo }
theorem CS.drewN (h : CS w H bc gS A n c s M m d E k g S Ac cc a wr fl vf es ve) (q : Nat) : CS w H bc gS A n c s M m d E k g S Ac cc a (wr.drewN q) fl vf es ve :=
  { h with bel := below_drewN h.bel q, bx := h.bx, res := h.res, cb := h.cb, cl := h.cl, nu := h.nu, st := h.st, fo := h.fo, eo := h.eo }
/-- A state is found: its number is written, it is appended. -/
theorem CS.found {T : Nat} (h : CS w H bc gS A n c s M m d E k g S Ac cc a wr fl vf es ve) (hn : (T : Int) ∉ fl) (hT : T < S)
    (hg : (wr.setCell ⟨bc + 1, T, none⟩ (.int .i64 (fl.length : Int))).grownBy w1 vf.ownBlock) (ho : Own w1 (bc + 2) vf' (fl ++ [(T : Int)])) (hs : vf'.ownBlock ≠ some gS) :
    CS w H bc gS A n c s M m d E k g S Ac cc a w1 (fl ++ [(T : Int)]) vf' es ve := by
  have g1 := h.h1; have g2 := h.h2; have g3 := h.h3
  have hf1 : ∀ k, vf.ownBlock = some k → bc + 2 ≤ k := fun k hk => (h.fo.lt k hk).1
  have hne : ∀ j, j < bc + 2 → vf.ownBlock ≠ some j := fun j hj e => by have := hf1 j e; omega
  have hbs : ∀ B, B ≤ bc + 1 → Below B wr w1 := fun B hB => ((Below.refl B wr).setCell (p := ⟨bc + 1, T, none⟩) hB _).grown hg (by simp [World.setCell]; omega) (fun k hk => by have := hf1 k hk; omega)
  have hst : ∀ {j e cs}, Row wr j e cs → j ≠ bc + 1 → vf.ownBlock ≠ some j → Row w1 j e cs := fun hr h1 h2 => (hr.setOther (p := ⟨bc + 1, T, none⟩) h1 _).grown hg h2
  refine ⟨h.bel.trans (hbs H (by omega)), hst h.bx (by omega) (hne _ (by omega)), hst h.res (by omega) (hne _ (by omega)), hst h.cb (by omega) (hne _ (by omega)), h.cl.below (hbs bc (by omega)) (Nat.le_refl _), ?_, hst h.st (by omega) h.fs, ho, ?_, hs, h.h1, h.h2, by have := hg.size; simp [World.setCell] at this; omega⟩
  · have := (h.nu.set T (.int .i64 (fl.length : Int))).grown hg (hne _ (by omega))
    rwa [map_set_int, ← numL_add hn] at this
  · have h5 := ownsRow_setCell_below h.eo (a := ⟨bc + 1, T, none⟩) (by simp) (.int .i64 (fl.length : Int))
    have h6 := ownsRow_setCell_below h.fo (a := ⟨bc + 1, T, none⟩) (by simp) (.int .i64 (fl.length : Int))
    exact own_row h5 hg (owns_ne h5 h6 (by decide))
/-- An edge is appended to the form. -/
theorem CS.edge {x : Ed} (h : CS w H bc gS A n c s M m d E k g S Ac cc a wr fl vf es ve) (hg : wr.grownBy w1 ve.ownBlock) (ho : OwnE w1 (bc + 2) ve' (es ++ [x])) :
    CS w H bc gS A n c s M m d E k g S Ac cc a (w1.setCell ⟨bc, 3, none⟩ ve') fl vf (es ++ [x]) ve' := by
  have g1 := h.h1; have g2 := h.h2; have g3 := h.h3
  have hf1 : ∀ k, ve.ownBlock = some k → bc + 2 ≤ k := fun k hk => (h.eo.lt k hk).1
  have hne : ∀ j, j < bc + 2 → ve.ownBlock ≠ some j := fun j hj e => by have := hf1 j e; omega
  have hbs : ∀ B, B ≤ bc → Below B wr (w1.setCell ⟨bc, 3, none⟩ ve') := fun B hB => ((Below.refl B wr).grown hg (by omega) (fun k hk => by have := hf1 k hk; omega)).setCell (p := ⟨bc, 3, none⟩) hB _
  have hst : ∀ {j e cs}, Row wr j e cs → j ≠ bc → ve.ownBlock ≠ some j → Row (w1.setCell ⟨bc, 3, none⟩ ve') j e cs := fun hr h1 h2 => (hr.grown hg h2).setOther (p := ⟨bc, 3, none⟩) h1 _
  refine ⟨h.bel.trans (hbs H (by omega)), hst h.bx (by omega) (hne _ (by omega)), hst h.res (by omega) (hne _ (by omega)), ?_, h.cl.below (hbs bc (Nat.le_refl _)) (Nat.le_refl _), hst h.nu (by omega) (hne _ (by omega)), hst h.st (by omega) (row_ne_own h.st h.eo (by decide)), ?_, ?_, h.fs, h.h1, h.h2, by have := hg.size; simp [World.setCell]; omega⟩
  · exact (h.cb.grown hg (hne _ (by omega))).set 3 ve'
  · exact ownsRow_setCell_below (own_row h.fo hg (owns_ne h.fo h.eo (by decide))) (a := ⟨bc, 3, none⟩) (by simp) _
  · exact ownsRow_setCell_below ho (a := ⟨bc, 3, none⟩) (by simp) _
end
/-- canonical's memory while its marked states are gathered. -/
structure CM (w : World) (H bc : Nat) (A : Option Addr) (n c : Nat) (s : Int) (M : Option Addr) (m d : Nat) (E : Option Addr) (k g : Nat) (S : Nat) (Ac : Option Addr) (cc : Nat) (a : Au) (fl : List Int) (ns : Int) (es : List Ed) (ve : Value) (wr : World) (ms : List Int) (vm : Value) : Prop where
  bel : Below H w wr
  bx : Row wr H 30 [.slice A n c, .int .i64 s, .slice M m d, .slice E k g]
  res : Row wr (H + 1) 30 [.slice none 0 0, .int .i64 0, .slice none 0 0, .slice none 0 0]
  cb : Row wr bc 30 [.slice Ac n cc, .int .i64 ns, vm, ve]
  cl : RdI wr bc Ac a.al
  nu : Row wr (bc + 1) 3 ((numL fl S).map (Value.int .i64))
  mo : Own wr (bc + 2) vm ms
  eo : OwnE wr (bc + 2) ve es
  h1 : H + 1 < bc
  h2 : bc + 1 < wr.heap.size
section
variable {w : World} {H bc gS : Nat} {A : Option Addr} {n c : Nat} {s : Int} {M : Option Addr} {m d : Nat} {E : Option Addr} {k g : Nat} {S : Nat} {Ac : Option Addr} {cc : Nat} {a : Au} {wr w1 : World} {fl ms zs : List Int} {ns : Int} {vf vm vm' : Value} {es : List Ed} {ve : Value}
theorem CS.marked (h : CS w H bc gS A n c s M m d E k g S Ac cc a wr fl vf es ve) : CM w H bc A n c s M m d E k g S Ac cc a fl ns es ve (wr.setCell ⟨bc, 1, none⟩ (.int .i64 ns)) [] (.slice none 0 0) := by
  have g1 := h.h1; have g2 := h.h2; have g3 := h.h3
  have hb : ∀ B, B ≤ bc → Below B wr (wr.setCell ⟨bc, 1, none⟩ (.int .i64 ns)) := fun B hB => (Below.refl B wr).setCell (p := ⟨bc, 1, none⟩) hB _
  exact ⟨h.bel.trans (hb H (by omega)), h.bx.setOther (p := ⟨bc, 1, none⟩) (by simp; omega) _, h.res.setOther (p := ⟨bc, 1, none⟩) (by simp; omega) _, h.cb.set 1 _, h.cl.below (hb bc (Nat.le_refl _)) (Nat.le_refl _), h.nu.setOther (p := ⟨bc, 1, none⟩) (by simp) _, World.ownsRow_nil _ _ _ _, ownsRow_setCell_below h.eo (a := ⟨bc, 1, none⟩) (by simp) _, h.h1, by simp [World.setCell]; omega⟩
theorem CM.alloc (h : CM w H bc A n c s M m d E k g S Ac cc a fl ns es ve wr ms vm) (o : Obj) : CM w H bc A n c s M m d E k g S Ac cc a fl ns es ve (wr.alloc o) ms vm :=
  { h with
    bel := h.bel.alloc (by have := h.h1; have := h.h2; omega) o
    bx := h.bx.alloc o, res := h.res.alloc o, cb := h.cb.alloc o
    cl := h.cl.below ((Below.refl bc wr).alloc (by have := h.h2; omega) o) (Nat.le_refl _)
    nu := h.nu.alloc o, mo := h.mo.alloc o, eo := h.eo.alloc o
    h2 := by have := h.h2; simp; omega }
theorem CM.drew (h : CM w H bc A n c s M m d E k g S Ac cc a fl ns es ve wr ms vm) : CM w H bc A n c s M m d E k g S Ac cc a fl ns es ve wr.drew ms vm :=
  { h with bel := h.bel.drew, bx := h.bx, res := h.res, cb := h.cb, cl := h.cl, nu := h.nu, mo := h.mo, eo := h.eo }
theorem CM.drewN (h : CM w H bc A n c s M m d E k g S Ac cc a fl ns es ve wr ms vm) (q : Nat) : CM w H bc A n c s M m d E k g S Ac cc a fl ns es ve (wr.drewN q) ms vm :=
  { h with bel := below_drewN h.bel q, bx := h.bx, res := h.res, cb := h.cb, cl := h.cl, nu := h.nu, mo := h.mo, eo := h.eo }
theorem CM.sorted (h : CM w H bc A n c s M m d E k g S Ac cc a fl ns es ve wr ms vm) (hg : wr.grownBy w1 vm.ownBlock) (ho : Own w1 (bc + 2) vm zs) : CM w H bc A n c s M m d E k g S Ac cc a fl ns es ve w1 zs vm := by
  have g1 := h.h1; have g2 := h.h2
  have hf1 : ∀ k, vm.ownBlock = some k → bc + 2 ≤ k := fun k hk => (h.mo.lt k hk).1
  have hne : ∀ j, j < bc + 2 → vm.ownBlock ≠ some j := fun j hj e => by have := hf1 j e; omega
  have hbs : ∀ B, B ≤ bc → Below B wr w1 := fun B hB => (Below.refl B wr).grown hg (by omega) (fun k hk => by have := hf1 k hk; omega)
  exact ⟨h.bel.trans (hbs H (by omega)), h.bx.grown hg (hne _ (by omega)), h.res.grown hg (hne _ (by omega)), h.cb.grown hg (hne _ (by omega)), h.cl.below (hbs bc (Nat.le_refl _)) (Nat.le_refl _), h.nu.grown hg (hne _ (by omega)), ho, own_row h.eo hg (owns_ne h.eo h.mo (by decide)), h.h1, by have := hg.size; omega⟩
/-- A number is appended to the marked states. -/
theorem CM.mark {x : Int} (h : CM w H bc A n c s M m d E k g S Ac cc a fl ns es ve wr ms vm) (hg : wr.grownBy w1 vm.ownBlock) (ho : Own w1 (bc + 2) vm' (ms ++ [x])) :
    CM w H bc A n c s M m d E k g S Ac cc a fl ns es ve (w1.setCell ⟨bc, 2, none⟩ vm') (ms ++ [x]) vm' := by
  have g1 := h.h1; have g2 := h.h2
  have hf1 : ∀ k, vm.ownBlock = some k → bc + 2 ≤ k := fun k hk => (h.mo.lt k hk).1
  have hne : ∀ j, j < bc + 2 → vm.ownBlock ≠ some j := fun j hj e => by have := hf1 j e; omega
  have hbs : ∀ B, B ≤ bc → Below B wr (w1.setCell ⟨bc, 2, none⟩ vm') := fun B hB => ((Below.refl B wr).grown hg (by omega) (fun k hk => by have := hf1 k hk; omega)).setCell (p := ⟨bc, 2, none⟩) hB _
  have hst : ∀ {j e cs}, Row wr j e cs → j ≠ bc → vm.ownBlock ≠ some j → Row (w1.setCell ⟨bc, 2, none⟩ vm') j e cs := fun hr h1 h2 => (hr.grown hg h2).setOther (p := ⟨bc, 2, none⟩) h1 _
  refine ⟨h.bel.trans (hbs H (by omega)), hst h.bx (by omega) (hne _ (by omega)), hst h.res (by omega) (hne _ (by omega)), ?_, h.cl.below (hbs bc (Nat.le_refl _)) (Nat.le_refl _), hst h.nu (by omega) (hne _ (by omega)), ?_, ?_, h.h1, by have := hg.size; simp [World.setCell]; omega⟩
  · exact (h.cb.grown hg (hne _ (by omega))).set 2 vm'
  · exact ownsRow_setCell_below ho (a := ⟨bc, 2, none⟩) (by simp) _
  · exact ownsRow_setCell_below (own_row h.eo hg (owns_ne h.eo h.mo (by decide))) (a := ⟨bc, 2, none⟩) (by simp) _
/-- What canonical hands back. -/
theorem CM.gives (h : CM w H bc A n c s M m d E k g S Ac cc a (fnd a) ((fnd a).length : Int) (canEn a (fnd a).length) ve wr (canM a) vm) (hn : a.al.length = n) (hc : n ≤ cc ∧ cc ≤ 9223372036854775807) (hbn : n ≤ 100000) (hm : (canM a).length ≤ 100000) (he : (canEn a (fnd a).length).length ≤ 1000000) :
    AuV (canA a) (.agg #[.slice Ac n cc, .int .i64 ((fnd a).length : Int), vm, ve]) wr := by
  obtain ⟨M', d', rfl, hm1, hm2, hm3⟩ := own_rdc h.mo
  obtain ⟨E', g', rfl, he1, he2, he3⟩ := ownE_rd h.eo
  exact ⟨Ac, n, cc, ((fnd a).length : Int), M', _, d', E', _, g', rfl,
    { al := h.cl.more (by have := h.h2; omega), mr := hm1, ed := he1, hn := hn, hm := rfl, hk := rfl, st := rfl, cn := hc, cm := ⟨hm2, hm3⟩, ck := ⟨he2, he3⟩, bn := hbn, bm := hm, bk := he }⟩
end
/-- What of canonical's memory is there before its rounds. -/
structure CB (w : World) (H bc : Nat) (A : Option Addr) (n c : Nat) (s : Int) (M : Option Addr) (m d : Nat) (E : Option Addr) (k g : Nat) (Ac : Option Addr) (cc : Nat) (a : Au) (wr : World) (vm ve : Value) (ns : Int) : Prop where
  bel : Below H w wr
  bx : Row wr H 30 [.slice A n c, .int .i64 s, .slice M m d, .slice E k g]
  res : Row wr (H + 1) 30 [.slice none 0 0, .int .i64 0, .slice none 0 0, .slice none 0 0]
  cb : Row wr bc 30 [.slice Ac n cc, .int .i64 ns, vm, ve]
  cl : RdI wr bc Ac a.al
  h1 : H + 1 < bc
  h2 : bc < wr.heap.size
section
variable {w : World} {H bc : Nat} {A : Option Addr} {n c : Nat} {s : Int} {M : Option Addr} {m d : Nat} {E : Option Addr} {k g : Nat} {Ac : Option Addr} {cc : Nat} {a : Au} {wr w1 : World} {vm ve : Value} {ns : Int}
theorem CB.alloc (h : CB w H bc A n c s M m d E k g Ac cc a wr vm ve ns) (o : Obj) : CB w H bc A n c s M m d E k g Ac cc a (wr.alloc o) vm ve ns :=
  { h with
    bel := h.bel.alloc (by have := h.h1; have := h.h2; omega) o
    bx := h.bx.alloc o, res := h.res.alloc o, cb := h.cb.alloc o
    cl := h.cl.below ((Below.refl bc wr).alloc (by have := h.h2; omega) o) (Nat.le_refl _)
    h2 := by have := h.h2; simp; omega }
theorem CB.far (h : CB w H bc A n c s M m d E k g Ac cc a wr vm ve ns) (hb : Below (bc + 1) wr w1) : CB w H bc A n c s M m d E k g Ac cc a w1 vm ve ns :=
  { h with
    bel := h.bel.trans (hb.mono (by have := h.h1; omega))
    bx := h.bx.below hb (by have := h.h1; omega), res := h.res.below hb (by have := h.h1; omega), cb := h.cb.below hb (by omega)
    cl := h.cl.below hb (by omega)
    h2 := by have := h.h2; have := hb.size; omega }
end
theorem fill_step {S i : Nat} (h : i < S) : (List.replicate i (-1 : Int) ++ List.replicate (S - i) 0).set i (-1) = List.replicate (i + 1) (-1) ++ List.replicate (S - (i + 1)) 0 := by
  rw [List.set_append, if_neg (by simp)]
  simp only [List.length_replicate, Nat.sub_self]
  obtain ⟨t, ht⟩ : ∃ t, S - i = t + 1 := ⟨S - i - 1, by omega⟩
  rw [ht, List.replicate_succ, List.set_cons_zero, show S - (i + 1) = t by omega, List.replicate_succ' (n := i)]
  simp
theorem own_shape {w : World} {base L : Nat} {v : Value} {zs : List Int} (h : Own w base v zs) (hL : L = zs.length) (h0 : 0 < L) : ∃ g cap, v = .slice (some ⟨g, 0, none⟩) L cap ∧ g < w.heap.size ∧ (∀ j, j < L → w.cell? ⟨g, j, none⟩ = some (.int .i64 (zs.getD j 0))) ∧ L ≤ cap ∧ cap ≤ 9223372036854775807 := by
  subst hL
  rcases h.2 with ⟨rfl, h1⟩ | ⟨g, cap, cur, rfl, hg, hh, hn, hcap, hsz, htake⟩
  · omega
  · refine ⟨g, cap, rfl, (h.lt g rfl).2, fun j hj => ?_, hn, by unfold maxLen at hcap; omega⟩
    rw [World.ownsRow.cellAt (cap := cap) h j (by omega), List.getElem?_map, List.getElem?_eq_getElem hj]
    simp [List.getD, List.getElem?_eq_getElem hj]
theorem succ_len {l : List Ed} (h : l.Pairwise ltE) (q : Nat) : (succ l (q : Int)).length = startN l (q + 1) - startN l q := by
  rw [← slice_succ h q, List.length_take, List.length_drop]
  have := startN_le l (q + 1)
  omega
theorem startN_mono (l : List Ed) (q : Nat) : startN l q ≤ startN l (q + 1) := by rw [startN_succ]; omega
theorem succ_at {l : List Ed} (h : l.Pairwise ltE) (q j : Nat) (hj : j < startN l (q + 1) - startN l q) : (succ l (q : Int))[j]? = l[startN l q + j]? := by
  rw [← slice_succ h q, List.getElem?_take_of_lt hj, List.getElem?_drop]
theorem own_below {w w' : World} {B : Nat} {e : TypeId} {sz : Nat} {v : Value} {n : Nat} {xs : List Value} (h : w.ownsRow B e sz v n xs) (hb : Below w.heap.size w w') : w'.ownsRow B e sz v n xs :=
  World.ownsRow.kept (row := none) h ⟨hb.os, hb.tape, hb.output, hb.size, fun i hi _ => hb.block i hi⟩ (Classical.em _)
theorem grown_trans {a b c : World} {row : Option Nat} (h : a.grownBy b row) (k : b.grownBy c row) : a.grownBy c row :=
  ⟨k.os.trans h.os, k.tape.trans h.tape, k.output.trans h.output, Nat.le_trans h.size k.size, fun i hi hne => (k.block i (Nat.lt_of_lt_of_le hi h.size) hne).trans (h.block i hi hne)⟩
theorem EdAt.grown {w w' : World} {b o : Nat} {x : Ed} {row : Option Nat} (h : EdAt w b o x) (hg : w.grownBy w' row) (hb : b < w.heap.size) (hne : row ≠ some b) : EdAt w' b o x :=
  h.keep fun o => World.cell?_of_block (a := ⟨b, o, none⟩) (hg.block b hb (fun e => hne e.symm))
theorem EdAt.alloc {w : World} {b o : Nat} {x : Ed} (h : EdAt w b o x) (hb : b < w.heap.size) (ob : Obj) : EdAt (w.alloc ob) b o x :=
  h.keep fun o => World.cell?_of_block (a := ⟨b, o, none⟩) (Below.heap_alloc w ob b hb)
theorem EdAt.setFar {w : World} {b o : Nat} {x : Ed} (h : EdAt w b o x) {p : Addr} (hp : b ≠ p.block) (v : Value) : EdAt (w.setCell p v) b o x :=
  h.keep fun o => World.cell?_of_block (a := ⟨b, o, none⟩) (Below.heap_setCell w p v b hp)
theorem visitL_take {l : List Ed} {fl : List Int} {t : Nat} {x : Ed} (h : l[t]? = some x) : visitL fl (l.take (t + 1)) = visit (visitL fl (l.take t)) x.t := by rw [take_succ_ed h, visitL_snoc]
theorem visit_in {fl : List Int} {t : Int} (h : t ∈ fl) : visit fl t = fl := by rw [visit, if_pos h]
theorem visit_new {fl : List Int} {t : Int} (h : t ∉ fl) : visit fl t = fl ++ [t] := by rw [visit, if_neg h]
/-- What has been found in the midst of a state's edges is found in the end. -/
theorem visit_fnd {a : Au} (h : RightW a) (h0 : 0 < a.st) {n t : Nat} (hn : n < (Fd a n).length) (l : List Ed) (hl : l = succ a.ed ((Fd a n).getD n 0)) : visitL (Fd a n) (l.take t) <+: fnd a := by
  have e : visitL (Fd a n) l = Fd a (n + 1) := by rw [hl, Fd_go hn]
  have h1 : visitL (Fd a n) (l.take t) <+: Fd a (n + 1) := by
    rw [← e]
    conv => rhs; rw [← List.take_append_drop t l, visitL_app]
    exact visitL_pre _ _
  exact h1.trans (Fd_fnd h h0 (n + 1))
theorem outE_take {a : Au} {fl : List Int} {n t : Nat} {x : Ed} {q : Int} (hq : q = fl.getD n 0) (h : (succ a.ed q)[t]? = some x) : (outE a fl n).take (t + 1) = (outE a fl n).take t ++ [⟨(n : Int), x.e, (fl.idxOf x.t : Int)⟩] := by
  subst hq
  unfold outE
  rw [← List.map_take, ← List.map_take, take_succ_ed h, List.map_append]; rfl
theorem news_one {W : World} {x : Value} {T : TypeId} {b : Nat} (hb : W.heap.size = b) : ∀ j u, [x][j]? = some u → (W.alloc (.cells #[x] T)).cell? ((⟨b, 0, none⟩ : Addr).add j) = some u := by
  subst hb
  intro j u hj
  match j, hj with
  | 0, hj => simp at hj; subst hj; simp [Addr.add]
theorem EdAt.made' {w : World} {b : Nat} (f e t : Int) (T : TypeId) (hb : w.heap.size = b) : EdAt (w.alloc (.cells #[.int .i64 f, .int .i64 e, .int .i64 t] T)) b 0 ⟨f, e, t⟩ := by
  subst hb; exact EdAt.made w f e t T
theorem idx_new {fl : List Int} {T : Int} (h : T ∉ fl) : (fl ++ [T]).idxOf T = fl.length := by rw [List.idxOf_append, if_neg h]; simp
end Go.Proofs.Ytceldgcmjmfjfaa
