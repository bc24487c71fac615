/- Layer 3: Check, checkPlace, the search for an edge, step, Step. -/
import Derived.Test.YtcciiikaejjooaaaMath
namespace Go.Proofs.Ytcciiikaejjooaa
open Go.RowKit Go.Sort

set_option maxHeartbeats 800000 in
theorem mCheck_any (A : Option Addr) (n c : Nat) (s : Int) (M : Option Addr) (m d : Nat) (E : Option Addr) (k g : Nat) (a : Au) (w : World) (h : AuR w w.heap.size A n c s M m d E k g a) :
    Calls Try.prog 16 #[.agg #[.slice A n c, .int .i64 s, .slice M m d, .slice E k g]] w fun e w' => e = .returned (.int .i64 (chkE a)) ∧ Below w.heap.size w w' := by
  have HB1 := Lib.hid ((Below.refl w.heap.size w).alloc (Nat.le_refl _) (.cells #[.slice A n c, .int .i64 s, .slice M m d, .slice E k g] 25))
  have hR1 := (h.below HB1.out (Nat.le_refl _))
  have HC1 := Lib.hid (checkSet_any A n c w.heap.size a.al 32 _ hR1.al hR1.hn (by have := h.bn; omega))
  have HC2 := Lib.hid (checkSet_any M m d w.heap.size a.mr s _ hR1.mr hR1.hm (by have := h.bm; omega))
  have HC3 := Lib.hid (fun hup => checkEdges_any A n c s M m d E k g a _ (hR1.more (by simp)) hup)
  have HST := Lib.hid h.st
  obtain ⟨u, hu⟩ : ∃ u, u = csE 32 a.al := ⟨_, rfl⟩
  rw [← hu] at HC1
  obtain ⟨v, hv⟩ : ∃ v, v = csE s a.mr := ⟨_, rfl⟩
  rw [← hv] at HC2
  have HU := Lib.hid hu
  have HV := Lib.hid hv
  clear h hR1 hu hv
  by_cases h0 : u = 0
  · have hb0 : (u != 0) = false := by simp [h0]
    have h0' := Lib.hid h0
    clear h0
    by_cases h1 : s < 0
    · have hr := Lib.hid (show chkE a = 2 by rw [chkE, HST.out, ← HU.out, if_neg (by simp [h0'.out]), if_pos h1])
      rw [hr.out]
      go_enter Try.func16, Try.ntmps16
      go_wp2_with fail
      refine HC1.out.mono ?_
      rintro e w' ⟨rfl, rfl⟩
      go_wp2
      go_ret
      exact ⟨rfl, HB1.out⟩
    · by_cases h2 : 4096 < s
      · have hr := Lib.hid (show chkE a = 3 by rw [chkE, HST.out, ← HU.out, if_neg (by simp [h0'.out]), if_neg h1, if_pos h2])
        rw [hr.out]
        go_enter Try.func16, Try.ntmps16
        go_wp2_with fail
        refine HC1.out.mono ?_
        rintro e w' ⟨rfl, rfl⟩
        go_wp2
        go_ret
        exact ⟨rfl, HB1.out⟩
      · by_cases h3 : v = 0
        · have hr := Lib.hid (show chkE a = egE a by rw [chkE, HST.out, ← HU.out, if_neg (by simp [h0'.out]), if_neg h1, if_neg h2, ← HV.out, if_neg (by simp [h3])])
          rw [hr.out]
          have HC4 := Lib.hid (HC3.out (cs_up (m := 32) (by rw [← HU.out, h0'.out])))
          have hb3 : (v != 0) = false := by simp [h3]
          clear h3
          go_enter Try.func16, Try.ntmps16
          go_wp2_with fail
          refine HC1.out.mono ?_
          rintro e w' ⟨rfl, rfl⟩
          go_wp2_with fail
          refine HC2.out.mono ?_
          rintro e w' ⟨rfl, rfl⟩
          go_wp2_with fail
          refine HC4.out.mono ?_
          rintro e w' ⟨rfl, hbw⟩
          go_wp2
          go_ret
          exact ⟨rfl, HB1.out.trans (hbw.mono (by simp))⟩
        · have hr := Lib.hid (show chkE a = v by rw [chkE, HST.out, ← HU.out, if_neg (by simp [h0'.out]), if_neg h1, if_neg h2, ← HV.out, if_pos h3])
          rw [hr.out]
          have hb3 : (v != 0) = true := by simp [h3]
          clear h3
          go_enter Try.func16, Try.ntmps16
          go_wp2_with fail
          refine HC1.out.mono ?_
          rintro e w' ⟨rfl, rfl⟩
          go_wp2_with fail
          refine HC2.out.mono ?_
          rintro e w' ⟨rfl, rfl⟩
          go_wp2
          go_ret
          exact ⟨rfl, HB1.out⟩
  · have hb0 : (u != 0) = true := by simp [h0]
    have hr := Lib.hid (show chkE a = u by rw [chkE, ← HU.out, if_pos h0])
    rw [hr.out]
    clear h0
    go_enter Try.func16, Try.ntmps16
    go_wp2_with fail
    refine HC1.out.mono ?_
    rintro e w' ⟨rfl, rfl⟩
    go_wp2
    go_ret
    exact ⟨rfl, HB1.out⟩

/-- The first error of an automaton and one of its states. -/
def plE (a : Au) (x : Int) : Int := if chkE a ≠ 0 then chkE a else if inSt a.st x = true then 0 else 2
set_option maxHeartbeats 800000 in
theorem checkPlace_any (A : Option Addr) (n c : Nat) (s : Int) (M : Option Addr) (m d : Nat) (E : Option Addr) (k g : Nat) (a : Au) (x : Int) (w : World) (h : AuR w w.heap.size A n c s M m d E k g a) :
    Calls Try.prog 52 #[.agg #[.slice A n c, .int .i64 s, .slice M m d, .slice E k g], .int .i64 x] w fun e w' => e = .returned (.int .i64 (plE a x)) ∧ Below w.heap.size w w' := by
  have HB1 := Lib.hid ((Below.refl w.heap.size w).alloc (Nat.le_refl _) (.cells #[.slice A n c, .int .i64 s, .slice M m d, .slice E k g] 25))
  have hR1 := (h.below HB1.out (Nat.le_refl _))
  have HC1 := Lib.hid (mCheck_any A n c s M m d E k g a _ (hR1.more (by simp)))
  have HS := Lib.hid (isState_any A n c s M m d E k g x)
  have HX := Lib.hid (BoxA.made w A n c s M m d E k g 25)
  have HST := Lib.hid h.st
  obtain ⟨u, hu⟩ : ∃ u, u = chkE a := ⟨_, rfl⟩
  rw [← hu] at HC1
  have HU := Lib.hid hu
  clear h hR1 hu
  by_cases h0 : u = 0
  · have hb0 : (u != 0) = false := by simp [h0]
    obtain ⟨v, hv⟩ : ∃ v, inSt s x = v := ⟨_, rfl⟩
    have HS1 := Lib.hid (fun W => by have h := HS.out W; rw [hv] at h; exact h)
    have hr := Lib.hid (show plE a x = if v = true then 0 else 2 by rw [plE, HST.out, ← HU.out, if_neg (by simp [h0]), hv])
    clear h0 hv
    cases v
    · have hr2 := Lib.hid (show plE a x = 2 by rw [hr.out]; rfl)
      rw [hr2.out]
      go_enter Try.func52, Try.ntmps52
      go_wp2_with fail
      refine HC1.out.mono ?_
      rintro e w1 ⟨rfl, hbw⟩
      obtain ⟨p0, p1, p2, p3⟩ := HX.out.below hbw (by simp)
      have hz := hbw.size
      simp only [World.size_alloc] at hz
      have hB := HB1.out.trans (hbw.mono (by simp))
      clear hbw
      go_wp2_with fail
      refine (HS1.out _).mono ?_
      rintro e w2 ⟨rfl, hbw⟩
      go_wp2
      go_ret
      exact ⟨rfl, hB.trans (hbw.mono (by omega))⟩
    · have hr2 := Lib.hid (show plE a x = 0 by rw [hr.out]; rfl)
      rw [hr2.out]
      go_enter Try.func52, Try.ntmps52
      go_wp2_with fail
      refine HC1.out.mono ?_
      rintro e w1 ⟨rfl, hbw⟩
      obtain ⟨p0, p1, p2, p3⟩ := HX.out.below hbw (by simp)
      have hz := hbw.size
      simp only [World.size_alloc] at hz
      have hB := HB1.out.trans (hbw.mono (by simp))
      clear hbw
      go_wp2_with fail
      refine (HS1.out _).mono ?_
      rintro e w2 ⟨rfl, hbw⟩
      go_wp2
      go_ret
      exact ⟨rfl, hB.trans (hbw.mono (by omega))⟩
  · have hb0 : (u != 0) = true := by simp [h0]
    have hr := Lib.hid (show plE a x = u by rw [plE, ← HU.out, if_pos h0])
    rw [hr.out]
    clear h0
    go_enter Try.func52, Try.ntmps52
    go_wp2_with fail
    refine HC1.out.mono ?_
    rintro e w1 ⟨rfl, hbw⟩
    go_wp2
    go_ret
    exact ⟨rfl, HB1.out.trans (hbw.mono (by simp))⟩
end Go.Proofs.Ytcciiikaejjooaa
