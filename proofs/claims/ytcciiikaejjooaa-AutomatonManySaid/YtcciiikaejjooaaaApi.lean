/- Layer 3: Step, Run, Enabled, Generates, Accepts of the program. -/
import Derived.Test.YtcciiikaejjooaaaRun
namespace Go.Proofs.Ytcciiikaejjooaa
open Go.RowKit Go.Sort

def stepR (a : Au) (q ev : Int) : Int × Bool × Int := if plE a q ≠ 0 then (0, false, plE a q) else if ev ∈ a.al then ((stepO a q ev).getD 0, (stepO a q ev).isSome, 0) else (0, false, 9)
theorem pl_right {a : Au} {q : Int} (h : plE a q = 0) : Right a := by
  unfold plE at h
  by_cases h1 : chkE a ≠ 0
  · rw [if_pos h1] at h; exact absurd h h1
  · exact right_of (by simpa using h1)
theorem ret_ibi {i j : Int} {a b : Bool} {x y : Int} (h1 : i = j) (h : a = b) (h2 : x = y) : Ending.returned (.tuple #[.int .i64 i, .bool a, .int .i64 x]) = .returned (.tuple #[.int .i64 j, .bool b, .int .i64 y]) := by rw [h1, h, h2]
theorem ret_iii {i j i' j' x y : Int} (h1 : i = i') (h : j = j') (h2 : x = y) : Ending.returned (.tuple #[.int .i64 i, .int .i64 j, .int .i64 x]) = .returned (.tuple #[.int .i64 i', .int .i64 j', .int .i64 y]) := by rw [h1, h, h2]
theorem ret_bi {a b : Bool} {x y : Int} (h : a = b) (h2 : x = y) : Ending.returned (.tuple #[.bool a, .int .i64 x]) = .returned (.tuple #[.bool b, .int .i64 y]) := by rw [h, h2]

set_option maxHeartbeats 1600000 in
theorem mStep_any (A : Option Addr) (n c : Nat) (s : Int) (M : Option Addr) (m d : Nat) (E : Option Addr) (k g : Nat) (a : Au) (q ev : Int) (w : World) (h : AuR w w.heap.size A n c s M m d E k g a) :
    Calls Try.prog 18 #[.agg #[.slice A n c, .int .i64 s, .slice M m d, .slice E k g], .int .i64 q, .int .i64 ev] w fun e w' => e = .returned (.tuple #[.int .i64 (stepR a q ev).1, .bool (stepR a q ev).2.1, .int .i64 (stepR a q ev).2.2]) ∧ Below w.heap.size w w' := by
  have hb1 := (Below.refl w.heap.size w).alloc (Nat.le_refl _) (.cells #[.slice A n c, .int .i64 s, .slice M m d, .slice E k g] 25)
  have HB1 := Lib.hid hb1
  have hR1 := h.below hb1 (Nat.le_refl _)
  have HC := Lib.hid (checkPlace_any A n c s M m d E k g a q _ (hR1.more (by simp)))
  have HX := Lib.hid (BoxA.made w A n c s M m d E k g 25)
  have HR := Lib.hid h
  obtain ⟨u, hu⟩ : ∃ u, u = plE a q := ⟨_, rfl⟩
  rw [← hu] at HC
  have HU := Lib.hid hu
  clear h hR1 hu hb1
  by_cases h0 : u = 0
  · have hb0 : (u != 0) = false := by simp [h0]
    have hpl : plE a q = 0 := by rw [← HU.out, h0]
    have hri := pl_right hpl
    have hE := Lib.hid (fun W (hW : Below w.heap.size w W) => hasEvent_any A n c s M m d E k g ev w.heap.size a.al W (HR.out.al.below hW (Nat.le_refl _)) hW.size HR.out.hn HR.out.bn hri.up)
    have hS := Lib.hid (fun W (hW : Below w.heap.size w W) => step_any A n c s M m d E k g a q ev w.heap.size W (HR.out.below hW (Nat.le_refl _)) hW.size hri.edo)
    have HPL := Lib.hid hpl
    clear hpl hri h0
    by_cases h1 : ev ∈ a.al
    · have hr := Lib.hid (show stepR a q ev = ((stepO a q ev).getD 0, (stepO a q ev).isSome, 0) by rw [stepR, if_neg (by simp [HPL.out]), if_pos h1])
      have hd : decide (ev ∈ a.al) = true := by simpa using h1
      rw [hr.out]
      have hE2 := Lib.hid (fun W hW => by have h := hE.out W hW; rw [hd] at h; exact h)
      obtain ⟨r1, hr1⟩ : ∃ r, r = (stepO a q ev).getD 0 := ⟨_, rfl⟩
      obtain ⟨r2, hr2⟩ : ∃ r, r = (stepO a q ev).isSome := ⟨_, rfl⟩
      rw [← hr1, ← hr2] at hS ⊢
      clear h1 hd hr1 hr2
      go_enter Try.func18, Try.ntmps18
      go_wp2_with fail
      refine HC.out.mono ?_
      rintro e w1 ⟨rfl, hbw⟩
      have BX := Lib.hid (HX.out.below hbw (by simp))
      obtain ⟨p0, p1, p2, p3⟩ := BX.out
      have hz := hbw.size
      simp only [World.size_alloc] at hz
      have hB := HB1.out.trans (hbw.mono (by simp))
      clear hbw
      go_wp2_with fail
      refine (hE2.out _ hB).mono ?_
      rintro e w2 ⟨rfl, hbw⟩
      have hz2 := hbw.size
      have hB2 := hB.trans (hbw.mono hB.size)
      clear p0 p1 p2 p3
      obtain ⟨p0, p1, p2, p3⟩ := BX.out.below hbw (by omega)
      clear hbw
      go_wp2_with fail
      refine (hS.out _ hB2).mono ?_
      rintro e w3 ⟨rfl, hbw⟩
      go_wp2_with fail
      go_ret3
      exact ⟨rfl, hB2.trans (hbw.mono hB2.size)⟩
    · have hr := Lib.hid (show stepR a q ev = (0, false, 9) by rw [stepR, if_neg (by simp [HPL.out]), if_neg h1])
      have hd : decide (ev ∈ a.al) = false := by simpa using h1
      rw [hr.out]
      have hE2 := Lib.hid (fun W hW => by have h := hE.out W hW; rw [hd] at h; exact h)
      clear h1 hd
      go_enter Try.func18, Try.ntmps18
      go_wp2_with fail
      refine HC.out.mono ?_
      rintro e w1 ⟨rfl, hbw⟩
      have BX := Lib.hid (HX.out.below hbw (by simp))
      obtain ⟨p0, p1, p2, p3⟩ := BX.out
      have hz := hbw.size
      simp only [World.size_alloc] at hz
      have hB := HB1.out.trans (hbw.mono (by simp))
      clear hbw
      go_wp2_with fail
      refine (hE2.out _ hB).mono ?_
      rintro e w2 ⟨rfl, hbw⟩
      go_wp2_with fail
      go_ret3
      exact ⟨rfl, hB.trans (hbw.mono hB.size)⟩
  · have hb0 : (u != 0) = true := by simp [h0]
    have hr := Lib.hid (show stepR a q ev = (0, false, u) by rw [stepR, ← HU.out, if_pos h0])
    rw [hr.out]
    clear h0
    go_enter Try.func18, Try.ntmps18
    go_wp2_with fail
    refine HC.out.mono ?_
    rintro e w1 ⟨rfl, hbw⟩
    go_wp2
    go_ret3
    exact ⟨rfl, HB1.out.trans (hbw.mono (by simp))⟩

/-- All numbers of a word are in a set. -/
def inB (zs w : List Int) : Bool := w.all fun x => decide (x ∈ zs)
theorem in_next {zs w : List Int} {k : Nat} (h : k < w.length) (ht : inB zs (w.take k) = true) (he : decide (w.getD k 0 ∈ zs) = true) : inB zs (w.take (k + 1)) = true := by
  unfold inB at *
  rw [List.take_succ_eq_append_getElem h, List.all_append, ht]
  have e : w.getD k 0 = w[k] := by simp [List.getD, List.getElem?_eq_getElem h]
  rw [e] at he
  simpa using he
theorem in_bad {zs w : List Int} {k : Nat} (h : k < w.length) (he : decide (w.getD k 0 ∈ zs) = false) : inB zs w = false := by
  unfold inB
  rw [List.all_eq_false]
  exact ⟨w.getD k 0, getD_mem h, by simpa using he⟩
theorem in_all {zs w : List Int} {n : Nat} (hn : w.length = n) (ht : inB zs (w.take n) = true) : inB zs w = true := by
  rwa [List.take_of_length_le (by omega)] at ht
def runR (a : Au) (q : Int) (ws : List Int) : Int × Int × Int := if plE a q ≠ 0 then (0, 0, plE a q) else if inB a.al ws = true then ((runE a q ws).1, ((runE a q ws).2 : Int), 0) else (0, 0, 9)

set_option maxHeartbeats 1600000 in
theorem mRun_any (A : Option Addr) (n c : Nat) (s : Int) (M : Option Addr) (m d : Nat) (E : Option Addr) (k g : Nat) (a : Au) (q : Int) (W1 : Option Addr) (l lc : Nat) (ws : List Int) (w : World) (h : AuR w w.heap.size A n c s M m d E k g a) (hw : RdI w w.heap.size W1 ws) (hl : ws.length = l) (hlb : l ≤ 100000) :
    Calls Try.prog 19 #[.agg #[.slice A n c, .int .i64 s, .slice M m d, .slice E k g], .int .i64 q, .slice W1 l lc] w fun e w' => e = .returned (.tuple #[.int .i64 (runR a q ws).1, .int .i64 (runR a q ws).2.1, .int .i64 (runR a q ws).2.2]) ∧ Below w.heap.size w w' := by
  have hb1 := (Below.refl w.heap.size w).alloc (Nat.le_refl _) (.cells #[.slice A n c, .int .i64 s, .slice M m d, .slice E k g] 25)
  have HB1 := Lib.hid hb1
  have hR1 := h.below hb1 (Nat.le_refl _)
  have HC := Lib.hid (checkPlace_any A n c s M m d E k g a q _ (hR1.more (by simp)))
  have HX := Lib.hid (BoxA.made w A n c s M m d E k g 25)
  have HR := Lib.hid h
  have HW := Lib.hid hw
  have HL := Lib.hid hl
  obtain ⟨u, hu⟩ : ∃ u, u = plE a q := ⟨_, rfl⟩
  rw [← hu] at HC
  have HU := Lib.hid hu
  clear h hR1 hu hb1 hw hl
  by_cases h0 : u = 0
  · have hb0 : (u != 0) = false := by simp [h0]
    have hpl : plE a q = 0 := by rw [← HU.out, h0]
    have hri := pl_right hpl
    have hE := Lib.hid (fun ev W (hW : Below w.heap.size w W) => hasEvent_any A n c s M m d E k g ev w.heap.size a.al W (HR.out.al.below hW (Nat.le_refl _)) hW.size HR.out.hn HR.out.bn hri.up)
    have hS := Lib.hid (fun W (hW : Below w.heap.size w W) => run_any A n c s M m d E k g a q W1 l lc ws w.heap.size W (HR.out.below hW (Nat.le_refl _)) hW.size hri.edo (HW.out.below hW (Nat.le_refl _)) HL.out hlb)
    have HPL := Lib.hid hpl
    obtain ⟨r, hr⟩ : ∃ r, r = runR a q ws := ⟨_, rfl⟩
    rw [← hr]
    have HV := Lib.hid (show r = if inB a.al ws = true then ((runE a q ws).1, ((runE a q ws).2 : Int), 0) else (0, 0, 9) by rw [hr, runR, if_neg (by simp [HPL.out])])
    clear hpl hri h0 hr
    obtain ⟨r1, r2, r3⟩ := r
    go_enter Try.func19, Try.ntmps19
    go_wp2_with fail
    refine HC.out.mono ?_
    rintro e w1 ⟨rfl, hbw⟩
    have BX := Lib.hid (HX.out.below hbw (by simp))
    have hz := hbw.size
    simp only [World.size_alloc] at hz
    have hB := HB1.out.trans (hbw.mono (by simp))
    clear hbw
    go_wp2_with fail
    go_loopw [20] (fun i wr => ∃ j : Nat, j ≤ l ∧ i = .int .i64 j ∧ Hid (inB a.al (ws.take j) = true) ∧ Below w.heap.size w wr ∧ Hid (BoxA wr w.heap.size A n c s M m d E k g) ∧ w.heap.size < wr.heap.size) (fun i _ => l - (intOf i).toNat)
    case atStart => exact ⟨0, Nat.zero_le _, rfl, rfl, hB, BX, by omega⟩
    case round =>
      obtain ⟨j, hj, rfl, ht, hbel, hbx, hlt0⟩ := hrel
      obtain ⟨y0, y1, y2, y3⟩ := hbx.out
      by_cases hlt : j < l
      · obtain ⟨b1, o1, rfl, hbB, hc1⟩ := HW.out (by rw [HL.out]; omega)
        have hz : j < ws.length := by rw [HL.out]; exact hlt
        have h1 := hc1 j hz
        obtain ⟨x, hxe⟩ : ∃ x, x = ws.getD j 0 := ⟨_, rfl⟩
        rw [← hxe] at h1
        have h2 : wr.cell? ⟨b1, o1 + j, none⟩ = some (.int .i64 x) := (hbel.cell (p := ⟨b1, o1 + j, none⟩) hbB).trans h1
        obtain ⟨r, hr⟩ : ∃ r, decide (x ∈ a.al) = r := ⟨_, rfl⟩
        have HC1 := Lib.hid (by have h := hE.out x wr hbel; rw [hr] at h; exact h)
        clear hc1 h1
        cases r
        · have hf := Lib.hid (show (r1, r2, r3) = ((0 : Int), (0 : Int), (9 : Int)) by rw [HV.out, in_bad hz (by rw [← hxe]; exact hr)]; rfl)
          clear hr hxe ht hz
          go_wp2_with fail
          refine HC1.out.mono ?_
          rintro e w2 ⟨rfl, hbw⟩
          go_wp2_with fail
          go_ret3
          exact ⟨ret_iii (congrArg (fun p : Int × Int × Int => p.1) hf.out).symm (congrArg (fun p : Int × Int × Int => p.2.1) hf.out).symm (congrArg (fun p : Int × Int × Int => p.2.2) hf.out).symm, hbel.trans (hbw.mono (by omega))⟩
        · have hf := Lib.hid (in_next hz ht.out (by rw [← hxe]; exact hr))
          clear hr hxe ht hz
          go_wp2_with fail
          refine HC1.out.mono ?_
          rintro e w2 ⟨rfl, hbw⟩
          have hz2 := hbw.size
          go_wp2_with fail
          go_roundw
          case rel => exact ⟨j + 1, by omega, by go_num, hf, hbel.trans (hbw.mono (by omega)), Lib.hid (hbx.out.below hbw hlt0), by omega⟩
          case measure => simp [intOf]; omega
      · have hkn : j = l := by omega
        rw [hkn] at ht
        have hf := Lib.hid (show (r1, r2, r3) = ((runE a q ws).1, ((runE a q ws).2 : Int), (0 : Int)) by rw [HV.out, in_all HL.out ht.out]; rfl)
        have hS1 := Lib.hid (hS.out wr hbel)
        obtain ⟨t, ht1⟩ : ∃ t, t = runE a q ws := ⟨_, rfl⟩
        rw [← ht1] at hS1 hf
        clear hkn ht ht1
        obtain ⟨t1, t2⟩ := t
        go_wp2_with fail
        refine hS1.out.mono ?_
        rintro e w2 ⟨rfl, hbw⟩
        go_wp2_with fail
        go_ret3
        exact ⟨ret_iii (congrArg (fun p : Int × Int × Int => p.1) hf.out).symm (congrArg (fun p : Int × Int × Int => p.2.1) hf.out).symm (congrArg (fun p : Int × Int × Int => p.2.2) hf.out).symm, hbel.trans (hbw.mono (by omega))⟩
  · have hb0 : (u != 0) = true := by simp [h0]
    have hr := Lib.hid (show runR a q ws = (0, 0, u) by rw [runR, ← HU.out, if_pos h0])
    rw [hr.out]
    clear h0
    go_enter Try.func19, Try.ntmps19
    go_wp2_with fail
    refine HC.out.mono ?_
    rintro e w1 ⟨rfl, hbw⟩
    go_wp2
    go_ret3
    exact ⟨rfl, HB1.out.trans (hbw.mono (by simp))⟩

def genR (a : Au) (ws : List Int) : Bool × Int := if chkE a ≠ 0 then (false, chkE a) else (genB a ws, 0)
def accR (a : Au) (ws : List Int) : Bool × Int := if chkE a ≠ 0 then (false, chkE a) else (accB a ws, 0)
set_option maxHeartbeats 1600000 in
theorem mGenerates_any (A : Option Addr) (n c : Nat) (s : Int) (M : Option Addr) (m d : Nat) (E : Option Addr) (k g : Nat) (a : Au) (W1 : Option Addr) (l lc : Nat) (ws : List Int) (w : World) (h : AuR w w.heap.size A n c s M m d E k g a) (hw : RdI w w.heap.size W1 ws) (hl : ws.length = l) (hlb : l ≤ 100000) :
    Calls Try.prog 21 #[.agg #[.slice A n c, .int .i64 s, .slice M m d, .slice E k g], .slice W1 l lc] w fun e w' => e = .returned (.tuple #[.bool (genR a ws).1, .int .i64 (genR a ws).2]) ∧ Below w.heap.size w w' := by
  have hb1 := (Below.refl w.heap.size w).alloc (Nat.le_refl _) (.cells #[.slice A n c, .int .i64 s, .slice M m d, .slice E k g] 25)
  have HB1 := Lib.hid hb1
  have hR1 := h.below hb1 (Nat.le_refl _)
  have HC := Lib.hid (mCheck_any A n c s M m d E k g a _ (hR1.more (by simp)))
  have HX := Lib.hid (BoxA.made w A n c s M m d E k g 25)
  have HR := Lib.hid h
  have HW := Lib.hid hw
  have HL := Lib.hid hl
  obtain ⟨u, hu⟩ : ∃ u, u = chkE a := ⟨_, rfl⟩
  rw [← hu] at HC
  have HU := Lib.hid hu
  clear h hR1 hu hb1 hw hl
  by_cases h0 : u = 0
  · have hb0 : (u != 0) = false := by simp [h0]
    have hri := right_of (a := a) (by rw [← HU.out, h0])
    have hS := Lib.hid (fun W (hW : Below w.heap.size w W) => end_any A n c s M m d E k g a W1 l lc ws w.heap.size W (HR.out.below hW (Nat.le_refl _)) hW.size hri.edo (HW.out.below hW (Nat.le_refl _)) HL.out hlb)
    have hr := Lib.hid (show genR a ws = (genB a ws, 0) by rw [genR, if_neg (by rw [← HU.out, h0]; simp)])
    rw [hr.out]
    obtain ⟨r1, hr1⟩ : ∃ r, r = endS a ws := ⟨_, rfl⟩
    obtain ⟨r2, hr2⟩ : ∃ r, r = genB a ws := ⟨_, rfl⟩
    rw [← hr1, ← hr2] at hS
    rw [← hr2]
    clear h0 hri hr1 hr2
    go_enter Try.func21, Try.ntmps21
    go_wp2_with fail
    refine HC.out.mono ?_
    rintro e w1 ⟨rfl, hbw⟩
    obtain ⟨p0, p1, p2, p3⟩ := HX.out.below hbw (by simp)
    have hz := hbw.size
    simp only [World.size_alloc] at hz
    have hB := HB1.out.trans (hbw.mono (by simp))
    clear hbw
    go_wp2_with fail
    refine (hS.out _ hB).mono ?_
    rintro e w2 ⟨rfl, hbw⟩
    go_wp2_with fail
    go_ret2
    exact ⟨rfl, hB.trans (hbw.mono hB.size)⟩
  · have hb0 : (u != 0) = true := by simp [h0]
    have hr := Lib.hid (show genR a ws = (false, u) by rw [genR, ← HU.out, if_pos h0])
    rw [hr.out]
    clear h0
    go_enter Try.func21, Try.ntmps21
    go_wp2_with fail
    refine HC.out.mono ?_
    rintro e w1 ⟨rfl, hbw⟩
    go_wp2
    go_ret2
    exact ⟨rfl, HB1.out.trans (hbw.mono (by simp))⟩
theorem acc_end {a : Au} {ws : List Int} (hg : genB a ws = true) : accB a ws = decide (endS a ws ∈ a.mr) := by
  have : a.st ≠ 0 := by unfold genB at hg; simp at hg; exact hg.1
  rw [accB, hg, Bool.true_and, endS, if_neg this]
set_option maxHeartbeats 1600000 in
theorem mAccepts_any (A : Option Addr) (n c : Nat) (s : Int) (M : Option Addr) (m d : Nat) (E : Option Addr) (k g : Nat) (a : Au) (W1 : Option Addr) (l lc : Nat) (ws : List Int) (w : World) (h : AuR w w.heap.size A n c s M m d E k g a) (hw : RdI w w.heap.size W1 ws) (hl : ws.length = l) (hlb : l ≤ 100000) :
    Calls Try.prog 22 #[.agg #[.slice A n c, .int .i64 s, .slice M m d, .slice E k g], .slice W1 l lc] w fun e w' => e = .returned (.tuple #[.bool (accR a ws).1, .int .i64 (accR a ws).2]) ∧ Below w.heap.size w w' := by
  have hb1 := (Below.refl w.heap.size w).alloc (Nat.le_refl _) (.cells #[.slice A n c, .int .i64 s, .slice M m d, .slice E k g] 25)
  have HB1 := Lib.hid hb1
  have hR1 := h.below hb1 (Nat.le_refl _)
  have HC := Lib.hid (mCheck_any A n c s M m d E k g a _ (hR1.more (by simp)))
  have HX := Lib.hid (BoxA.made w A n c s M m d E k g 25)
  have HR := Lib.hid h
  have HW := Lib.hid hw
  have HL := Lib.hid hl
  obtain ⟨u, hu⟩ : ∃ u, u = chkE a := ⟨_, rfl⟩
  rw [← hu] at HC
  have HU := Lib.hid hu
  clear h hR1 hu hb1 hw hl
  by_cases h0 : u = 0
  · have hb0 : (u != 0) = false := by simp [h0]
    have hri := right_of (a := a) (by rw [← HU.out, h0])
    have hS := Lib.hid (fun W (hW : Below w.heap.size w W) => end_any A n c s M m d E k g a W1 l lc ws w.heap.size W (HR.out.below hW (Nat.le_refl _)) hW.size hri.edo (HW.out.below hW (Nat.le_refl _)) HL.out hlb)
    have hM := Lib.hid (fun x W (hW : Below w.heap.size w W) => mContains_any M m d w.heap.size a.mr x W (HR.out.mr.below hW (Nat.le_refl _)) HR.out.hm (by have := HR.out.bm; omega) (up_of hri.mro))
    have hr := Lib.hid (show accR a ws = (accB a ws, 0) by rw [accR, if_neg (by rw [← HU.out, h0]; simp)])
    rw [hr.out]
    obtain ⟨r1, hr1⟩ : ∃ r, r = endS a ws := ⟨_, rfl⟩
    obtain ⟨r2, hr2⟩ : ∃ r, r = genB a ws := ⟨_, rfl⟩
    rw [← hr1, ← hr2] at hS
    have HR1 := Lib.hid hr1
    have HR2 := Lib.hid hr2
    clear h0 hri hr1 hr2
    cases r2
    · have hr3 := Lib.hid (show accB a ws = false by rw [accB, ← HR2.out]; rfl)
      rw [hr3.out]
      go_enter Try.func22, Try.ntmps22
      go_wp2_with fail
      refine HC.out.mono ?_
      rintro e w1 ⟨rfl, hbw⟩
      obtain ⟨p0, p1, p2, p3⟩ := HX.out.below hbw (by simp)
      have hz := hbw.size
      simp only [World.size_alloc] at hz
      have hB := HB1.out.trans (hbw.mono (by simp))
      clear hbw
      go_wp2_with fail
      refine (hS.out _ hB).mono ?_
      rintro e w2 ⟨rfl, hbw⟩
      go_wp2_with fail
      go_ret2
      exact ⟨rfl, hB.trans (hbw.mono hB.size)⟩
    · have hr3 := Lib.hid (show accB a ws = decide (r1 ∈ a.mr) by rw [acc_end HR2.out.symm, HR1.out])
      rw [hr3.out]
      obtain ⟨r4, hr4⟩ : ∃ r, r = decide (r1 ∈ a.mr) := ⟨_, rfl⟩
      have hM1 := Lib.hid (fun W hW => by have h := hM.out r1 W hW; rw [← hr4] at h; exact h)
      rw [← hr4]
      clear hr4
      go_enter Try.func22, Try.ntmps22
      go_wp2_with fail
      refine HC.out.mono ?_
      rintro e w1 ⟨rfl, hbw⟩
      have BX := Lib.hid (HX.out.below hbw (by simp))
      obtain ⟨p0, p1, p2, p3⟩ := BX.out
      have hz := hbw.size
      simp only [World.size_alloc] at hz
      have hB := HB1.out.trans (hbw.mono (by simp))
      clear hbw
      go_wp2_with fail
      refine (hS.out _ hB).mono ?_
      rintro e w2 ⟨rfl, hbw⟩
      have hB2 := hB.trans (hbw.mono hB.size)
      clear p0 p1 p2 p3
      obtain ⟨p0, p1, p2, p3⟩ := BX.out.below hbw (by omega)
      have hz2 := hbw.size
      clear hbw
      go_wp2_with fail
      refine (hM1.out _ hB2).mono ?_
      rintro e w3 ⟨rfl, rfl⟩
      go_wp2_with fail
      go_ret2
      exact ⟨rfl, hB2⟩
  · have hb0 : (u != 0) = true := by simp [h0]
    have hr := Lib.hid (show accR a ws = (false, u) by rw [accR, ← HU.out, if_pos h0])
    rw [hr.out]
    clear h0
    go_enter Try.func22, Try.ntmps22
    go_wp2_with fail
    refine HC.out.mono ?_
    rintro e w1 ⟨rfl, hbw⟩
    go_wp2
    go_ret2
    exact ⟨rfl, HB1.out.trans (hbw.mono (by simp))⟩
end Go.Proofs.Ytcciiikaejjooaa
