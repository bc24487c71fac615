/- Layer 3: step, Step, run, end of the program. -/
import Derived.Test.YtcciiikaejjooaaaSrch
namespace Go.Proofs.Ytcciiikaejjooaa
open Go.RowKit Go.Sort

theorem stepO_some {a : Au} {q ev : Int} {x : Ed} (h : edgeO a.ed q ev = some x) : stepO a q ev = some x.t := by rw [stepO, h]; rfl
theorem stepO_none {a : Au} {q ev : Int} (h : edgeO a.ed q ev = none) : stepO a q ev = none := by rw [stepO, h]; rfl
theorem ret_ib2 {i j : Int} {a b : Bool} (h1 : i = j) (h : a = b) : Ending.returned (.tuple #[.int .i64 i, .bool a]) = .returned (.tuple #[.int .i64 j, .bool b]) := by rw [h1, h]

set_option maxHeartbeats 1600000 in
theorem step_any (A : Option Addr) (n c : Nat) (s : Int) (M : Option Addr) (m d : Nat) (E : Option Addr) (k g : Nat) (a : Au) (q ev : Int) (B : Nat) (w : World) (h : AuR w B A n c s M m d E k g a) (hB : B ≤ w.heap.size) (ho : a.ed.Pairwise ltE) :
    Calls Try.prog 54 #[.agg #[.slice A n c, .int .i64 s, .slice M m d, .slice E k g], .int .i64 q, .int .i64 ev] w fun e w' => e = .returned (.tuple #[.int .i64 ((stepO a q ev).getD 0), .bool (stepO a q ev).isSome]) ∧ Below w.heap.size w w' := by
  have hb1 := (Below.refl w.heap.size w).alloc (Nat.le_refl _) (.cells #[.slice A n c, .int .i64 s, .slice M m d, .slice E k g] 25)
  have HB1 := Lib.hid hb1
  have HE := Lib.hid (h.ed)
  have HK := Lib.hid h.hk
  have hbk := h.bk
  have HC := Lib.hid (searchEd_any E k g B a.ed q ev 0 _ (h.ed.below hb1 hB) (by simp; omega) h.hk h.bk ho)
  have HX := Lib.hid (BoxA.made w A n c s M m d E k g 25)
  clear h ho hb1
  cases hs : edgeO a.ed q ev with
  | none =>
    have e1 := Lib.hid (stepO_none (a := a) hs)
    have hr : ∀ i : Nat, (Ending.returned (.tuple #[.int .i64 i, .bool (edgeO a.ed q ev).isSome])) = .returned (.tuple #[.int .i64 i, .bool false]) := fun i => by rw [hs]; rfl
    have HR := Lib.hid hr
    clear hr hs
    go_enter Try.func54, Try.ntmps54
    go_wp2_with fail
    refine HC.out.mono ?_
    rintro e w1 ⟨⟨i, he, _⟩, hbw⟩
    rw [HR.out] at he
    subst he
    have hz := hbw.size
    simp only [World.size_alloc] at hz
    go_wp2_with fail
    go_ret2
    exact ⟨ret_ib2 (by rw [e1.out]; rfl) (by rw [e1.out]; rfl), HB1.out.trans (hbw.mono (by simp))⟩
  | some x =>
    have e1 := Lib.hid (stepO_some (a := a) hs)
    have hr : ∀ i : Nat, (Ending.returned (.tuple #[.int .i64 i, .bool (edgeO a.ed q ev).isSome])) = .returned (.tuple #[.int .i64 i, .bool true]) := fun i => by rw [hs]; rfl
    have HR := Lib.hid hr
    have HS := Lib.hid hs
    clear hr hs
    go_enter Try.func54, Try.ntmps54
    go_wp2_with fail
    refine HC.out.mono ?_
    rintro e w1 ⟨⟨i, he, hi⟩, hbw⟩
    rw [HR.out] at he
    subst he
    have hiz := hi x HS.out
    have hik : i < k := by have := (List.getElem?_eq_some_iff.1 hiz).1; rw [HK.out] at this; exact this
    obtain ⟨b1, o1, rfl, hbB, hc1⟩ := HE.out (by rw [HK.out]; omega)
    have hxa := (hc1 i x hiz)
    obtain ⟨xf, xe, xt⟩ := x
    have hx1 := hxa.2.2
    have hx2 : w1.cell? ⟨b1, o1 + i * 3 + 2, none⟩ = some (.int .i64 xt) := ((HB1.out.trans (hbw.mono (by simp))).cell (p := ⟨b1, o1 + i * 3 + 2, none⟩) (Nat.lt_of_lt_of_le hbB hB)).trans hx1
    obtain ⟨p0, p1, p2, p3⟩ := HX.out.below hbw (by simp)
    have hB2 := HB1.out.trans (hbw.mono (by simp))
    have hz := hbw.size
    simp only [World.size_alloc] at hz
    clear hi hiz hc1 hxa hx1 hbw
    go_wp2_with fail
    go_ret2
    exact ⟨ret_ib2 (by rw [e1.out]; rfl) (by rw [e1.out]; rfl), hB2⟩

theorem run_step_go {a : Au} {q x t : Int} {ws : List Int} {i : Nat} {v : Int × Nat} (hz : i < ws.length) (hx : x = ws.getD i 0) (hv : v = ((runE a q (ws.drop i)).1, (runE a q (ws.drop i)).2 + i)) (hs : stepO a q x = some t) : v = ((runE a t (ws.drop (i + 1))).1, (runE a t (ws.drop (i + 1))).2 + (i + 1)) := by
  rw [hv, drop_step ws i hz, ← hx, runE_go hs]; simp; omega
theorem run_step_stop {a : Au} {q x : Int} {ws : List Int} {i : Nat} {v : Int × Nat} (hz : i < ws.length) (hx : x = ws.getD i 0) (hv : v = ((runE a q (ws.drop i)).1, (runE a q (ws.drop i)).2 + i)) (hs : stepO a q x = none) : v = (q, i) := by
  rw [hv, drop_step ws i hz, ← hx, runE_stop hs]; simp
theorem run_step_end {a : Au} {q : Int} {ws : List Int} {i : Nat} {v : Int × Nat} (hz : i = ws.length) (hv : v = ((runE a q (ws.drop i)).1, (runE a q (ws.drop i)).2 + i)) : v = (q, i) := by
  rw [hv, List.drop_of_length_le (by omega), runE_nil]; simp
theorem ret_ii {i j i' j' : Int} (h1 : i = i') (h : j = j') : Ending.returned (.tuple #[.int .i64 i, .int .i64 j]) = .returned (.tuple #[.int .i64 i', .int .i64 j']) := by rw [h1, h]

set_option maxHeartbeats 1600000 in
theorem run_any (A : Option Addr) (n c : Nat) (s : Int) (M : Option Addr) (m d : Nat) (E : Option Addr) (k g : Nat) (a : Au) (q : Int) (W1 : Option Addr) (l lc : Nat) (ws : List Int) (B : Nat) (w : World) (h : AuR w B A n c s M m d E k g a) (hB : B ≤ w.heap.size) (ho : a.ed.Pairwise ltE) (hw : RdI w B W1 ws) (hl : ws.length = l) (hlb : l ≤ 100000) :
    Calls Try.prog 55 #[.agg #[.slice A n c, .int .i64 s, .slice M m d, .slice E k g], .int .i64 q, .slice W1 l lc] w fun e w' => e = .returned (.tuple #[.int .i64 (runE a q ws).1, .int .i64 (runE a q ws).2]) ∧ Below w.heap.size w w' := by
  have hb1 := (Below.refl w.heap.size w).alloc (Nat.le_refl _) (.cells #[.slice A n c, .int .i64 s, .slice M m d, .slice E k g] 25)
  have HB1 := Lib.hid hb1
  have HC := Lib.hid (fun q x W (hW : Below w.heap.size w W) => step_any A n c s M m d E k g a q x B W (h.below hW hB) (Nat.le_trans hB hW.size) ho)
  have HX := Lib.hid (BoxA.made w A n c s M m d E k g 25)
  have HL := Lib.hid hl
  have HW := Lib.hid hw
  obtain ⟨v, hv⟩ : ∃ v, v = runE a q ws := ⟨_, rfl⟩
  rw [← hv]
  have HV := Lib.hid hv
  clear h ho hb1 hl hw hv
  go_enter Try.func55, Try.ntmps55
  go_wp2_with fail
  go_loopw [6, 7, 15] (fun u0 u1 i wr => ∃ (q1 : Int) (j : Nat), j ≤ l ∧ u0 = .int .i64 q1 ∧ u1 = .int .i64 j ∧ i = .int .i64 j ∧ Hid (v = ((runE a q1 (ws.drop j)).1, (runE a q1 (ws.drop j)).2 + j)) ∧ Below w.heap.size w wr ∧ Hid (BoxA wr w.heap.size A n c s M m d E k g) ∧ w.heap.size < wr.heap.size) (fun _ _ i _ => l - (intOf i).toNat)
  case atStart => exact ⟨q, 0, Nat.zero_le _, rfl, rfl, rfl, by rw [Hid, HV.out]; simp, HB1.out, HX, by simp⟩
  case round =>
    obtain ⟨q', j, hj, rfl, rfl, rfl, ht, hbel, hbx, hlt0⟩ := hrel
    by_cases hlt : j < l
    · obtain ⟨b1, o1, rfl, hbB, hc1⟩ := HW.out (by rw [HL.out]; omega)
      have hz : j < ws.length := by rw [HL.out]; exact hlt
      have h1 := hc1 j hz
      obtain ⟨x, hxe⟩ : ∃ x, x = ws.getD j 0 := ⟨_, rfl⟩
      rw [← hxe] at h1
      have h2 : wr.cell? ⟨b1, o1 + j, none⟩ = some (.int .i64 x) := (hbel.cell (p := ⟨b1, o1 + j, none⟩) (Nat.lt_of_lt_of_le hbB hB)).trans h1
      have HC1 := Lib.hid (HC.out q' x wr hbel)
      obtain ⟨y0, y1, y2, y3⟩ := hbx.out
      cases hs : stepO a q' x with
      | none =>
        have hr := Lib.hid (run_step_stop hz hxe ht.out hs)
        have HC2 := Lib.hid (show Calls _ _ _ _ _ from by have h := HC1.out; rw [hs] at h; exact h)
        clear h1 hc1 hz hxe hs
        go_wp2_with fail
        refine HC2.out.mono ?_
        rintro e w1 ⟨rfl, hbw⟩
        go_wp2_with fail
        go_ret2
        exact ⟨ret_ii (by rw [hr.out]) (by rw [hr.out]), hbel.trans (hbw.mono (by omega))⟩
      | some t =>
        have hr := Lib.hid (run_step_go hz hxe ht.out hs)
        have HC2 := Lib.hid (show Calls _ _ _ _ _ from by have h := HC1.out; rw [hs] at h; exact h)
        clear h1 hc1 hz hxe hs
        go_wp2_with fail
        refine HC2.out.mono ?_
        rintro e w1 ⟨rfl, hbw⟩
        have hz := hbw.size
        go_wp2_with fail
        go_roundw
        case rel => exact ⟨t, j + 1, by omega, by simp, by go_num, by go_num, hr, hbel.trans (hbw.mono (by omega)), Lib.hid (hbx.out.below hbw hlt0), by omega⟩
        case measure => simp [intOf]; omega
    · have hr := Lib.hid (run_step_end (by rw [HL.out]; omega) ht.out)
      go_wp2_with fail
      go_ret2
      exact ⟨ret_ii (by rw [hr.out]) (by rw [hr.out]), hbel⟩

/-- A word belongs to the generated language. -/
def genB (a : Au) (ws : List Int) : Bool := decide (a.st ≠ 0) && decide ((runE a 0 ws).2 = ws.length)
def accB (a : Au) (ws : List Int) : Bool := genB a ws && decide ((runE a 0 ws).1 ∈ a.mr)
def endS (a : Au) (ws : List Int) : Int := if a.st = 0 then 0 else (runE a 0 ws).1
set_option maxHeartbeats 800000 in
theorem end_any (A : Option Addr) (n c : Nat) (s : Int) (M : Option Addr) (m d : Nat) (E : Option Addr) (k g : Nat) (a : Au) (W1 : Option Addr) (l lc : Nat) (ws : List Int) (B : Nat) (w : World) (h : AuR w B A n c s M m d E k g a) (hB : B ≤ w.heap.size) (ho : a.ed.Pairwise ltE) (hw : RdI w B W1 ws) (hl : ws.length = l) (hlb : l ≤ 100000) :
    Calls Try.prog 56 #[.agg #[.slice A n c, .int .i64 s, .slice M m d, .slice E k g], .slice W1 l lc] w fun e w' => e = .returned (.tuple #[.int .i64 (endS a ws), .bool (genB a ws)]) ∧ Below w.heap.size w w' := by
  have hb1 := (Below.refl w.heap.size w).alloc (Nat.le_refl _) (.cells #[.slice A n c, .int .i64 s, .slice M m d, .slice E k g] 25)
  have HB1 := Lib.hid hb1
  have HC := Lib.hid (run_any A n c s M m d E k g a 0 W1 l lc ws B _ (h.below hb1 hB) (by simp; omega) ho (hw.below hb1 hB) hl hlb)
  have HST := Lib.hid h.st
  have HL := Lib.hid hl
  have hle := runE_le a ws 0
  rw [hl] at hle
  obtain ⟨v, hv⟩ : ∃ v, v = runE a 0 ws := ⟨_, rfl⟩
  rw [← hv] at HC hle
  have HV := Lib.hid hv
  obtain ⟨v1, v2⟩ := v
  clear h ho hw hv hb1 hl
  by_cases h0 : s = 0
  · have hr := Lib.hid (show endS a ws = 0 by rw [endS, HST.out, if_pos h0])
    have hr2 := Lib.hid (show genB a ws = false by simp [genB, HST.out, h0])
    rw [hr.out, hr2.out]
    have hb0 : (s == 0) = true := by simp [h0]
    clear h0
    go_enter Try.func56, Try.ntmps56
    go_wp2_with fail
    go_ret2
    exact ⟨rfl, HB1.out⟩
  · have hr := Lib.hid (show endS a ws = v1 by rw [endS, HST.out, if_neg h0, ← HV.out])
    have hb0 : (s == 0) = false := by simp [h0]
    by_cases h1 : v2 = l
    · have hr2 := Lib.hid (show genB a ws = true by simp [genB, HST.out, h0, ← HV.out, HL.out, h1])
      rw [hr.out, hr2.out]
      have hb2 : ((v2 : Int) == (l : Int)) = true := by simp [h1]
      clear h0 h1
      go_enter Try.func56, Try.ntmps56
      go_wp2_with fail
      refine HC.out.mono ?_
      rintro e w1 ⟨rfl, hbw⟩
      go_wp2_with fail
      go_ret2
      exact ⟨ret_ib2 rfl (by simp), HB1.out.trans (hbw.mono (by simp))⟩
    · have hr2 := Lib.hid (show genB a ws = false by simp [genB, ← HV.out, HL.out, h1])
      rw [hr.out, hr2.out]
      have hb2 : ((v2 : Int) == (l : Int)) = false := by simp; omega
      clear h0 h1
      go_enter Try.func56, Try.ntmps56
      go_wp2_with fail
      refine HC.out.mono ?_
      rintro e w1 ⟨rfl, hbw⟩
      go_wp2_with fail
      go_ret2
      exact ⟨ret_ib2 rfl (by simp), HB1.out.trans (hbw.mono (by simp))⟩
end Go.Proofs.Ytcciiikaejjooaa
