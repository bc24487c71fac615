/- Layer 3: edgeStarts: for each state, how many edges leave smaller states. -/
import Derived.Test.YtcciiikaejjooaaaRow
import Derived.Deep.CutRange
import Derived.StillTailTactics
namespace Go.Proofs.Ytcciiikaejjooaa
open Go.RowKit Go.Sort

/-- How many edges leave states below i. -/
def startN (l : List Ed) (i : Nat) : Nat := l.countP fun x => decide (x.f < (i : Int))
/-- How many edges leave the state before i. -/
def fromN (l : List Ed) (i : Nat) : Nat := l.countP fun x => decide (x.f + 1 = (i : Int))
def fromL (l : List Ed) (N : Nat) : List Int := (List.range N).map fun i => (fromN l i : Int)
/-- Behind i rounds of the second loop. -/
def midL (l : List Ed) (N i : Nat) : List Int := (List.range N).map fun p => if p ≤ i then (startN l p : Int) else (fromN l p : Int)
def startL (l : List Ed) (N : Nat) : List Int := (List.range N).map fun i => (startN l i : Int)
theorem fromL_len (l : List Ed) (N : Nat) : (fromL l N).length = N := by simp [fromL]
theorem midL_len (l : List Ed) (N i : Nat) : (midL l N i).length = N := by simp [midL]
theorem startL_len (l : List Ed) (N : Nat) : (startL l N).length = N := by simp [startL]
theorem fromL_at {l : List Ed} {N i : Nat} (h : i < N) : (fromL l N).getD i 0 = (fromN l i : Int) := by simp [fromL, List.getD, h]
theorem startL_at {l : List Ed} {N i : Nat} (h : i < N) : (startL l N).getD i 0 = (startN l i : Int) := by simp [startL, List.getD, h]
theorem midL_at {l : List Ed} {N i p : Nat} (h : p < N) : (midL l N i).getD p 0 = if p ≤ i then (startN l p : Int) else (fromN l p : Int) := by simp [midL, List.getD, h]
theorem fromL_nil (N : Nat) : fromL [] N = List.replicate N 0 := by
  apply List.ext_getElem
  · simp [fromL]
  · intro i h1 h2; simp [fromL, fromN]
theorem fromN_snoc (l : List Ed) (x : Ed) (i : Nat) : fromN (l ++ [x]) i = fromN l i + if x.f + 1 = (i : Int) then 1 else 0 := by
  simp [fromN, List.countP_append, List.countP_cons]
theorem fromN_le (l : List Ed) (i : Nat) : fromN l i ≤ l.length := List.countP_le_length
theorem startN_le (l : List Ed) (i : Nat) : startN l i ≤ l.length := List.countP_le_length
theorem fromL_step {l : List Ed} {N f1 : Nat} {x : Ed} (h : x.f + 1 = (f1 : Int)) (hN : f1 < N) : fromL (l ++ [x]) N = (fromL l N).set f1 ((fromN l f1 : Int) + 1) := by
  apply List.ext_getElem
  · simp [fromL]
  · intro i h1 h2
    rw [List.getElem_set]
    simp only [fromL, List.getElem_map, List.getElem_range, fromN_snoc]
    by_cases e : f1 = i
    · subst e; rw [if_pos rfl, if_pos h]; simp
    · rw [if_neg e, if_neg (by omega)]; simp
theorem startN_succ (l : List Ed) (i : Nat) : startN l (i + 1) = startN l i + fromN l (i + 1) := by
  induction l with
  | nil => rfl
  | cons x l ih =>
    simp only [startN, fromN, List.countP_cons] at ih ⊢
    by_cases h1 : x.f < (i : Int)
    · have h2 : x.f < ((i + 1 : Nat) : Int) := by omega
      have h3 : ¬ x.f + 1 = ((i + 1 : Nat) : Int) := by omega
      rw [if_pos (decide_eq_true h2), if_pos (decide_eq_true h1), if_neg (by simpa using h3)]; omega
    · by_cases h2 : x.f < ((i + 1 : Nat) : Int)
      · have h3 : x.f + 1 = ((i + 1 : Nat) : Int) := by omega
        rw [if_pos (decide_eq_true h2), if_neg (by simpa using h1), if_pos (decide_eq_true h3)]; omega
      · have h3 : ¬ x.f + 1 = ((i + 1 : Nat) : Int) := by omega
        rw [if_neg (by simpa using h2), if_neg (by simpa using h1), if_neg (by simpa using h3)]; omega
theorem startN_zero {l : List Ed} (h : ∀ x ∈ l, 0 ≤ x.f) : startN l 0 = 0 := by
  unfold startN; rw [List.countP_eq_zero]; intro x hx; have := h x hx; simp; omega
theorem fromN_zero {l : List Ed} (h : ∀ x ∈ l, 0 ≤ x.f) : fromN l 0 = 0 := by
  unfold fromN; rw [List.countP_eq_zero]; intro x hx; have := h x hx; simp; omega
theorem midL_zero {l : List Ed} (h : ∀ x ∈ l, 0 ≤ x.f) (N : Nat) : fromL l N = midL l N 0 := by
  apply List.ext_getElem
  · simp [fromL, midL]
  · intro i h1 h2
    simp only [fromL, midL, List.getElem_map, List.getElem_range]
    by_cases e : i ≤ 0
    · obtain rfl : i = 0 := by omega
      simp [startN_zero h, fromN_zero h]
    · rw [if_neg e]
theorem midL_step {l : List Ed} {N i i1 : Nat} (hi : i1 = i + 1) (h : i1 < N) : midL l N i1 = (midL l N i).set i1 ((fromN l i1 : Int) + (startN l i : Int)) := by
  subst hi
  apply List.ext_getElem
  · simp [midL]
  · intro p h1 h2
    rw [List.getElem_set]
    simp only [midL, List.getElem_map, List.getElem_range]
    by_cases e : i + 1 = p
    · subst e; rw [if_pos (Nat.le_refl _), if_pos rfl, startN_succ]; omega
    · rw [if_neg e]
      by_cases h3 : p ≤ i
      · rw [if_pos (by omega), if_pos h3]
      · rw [if_neg (by omega), if_neg h3]
theorem midL_end {l : List Ed} {N i : Nat} (h : N ≤ i + 1) : midL l N i = startL l N := by
  apply List.ext_getElem
  · simp [startL, midL]
  · intro p h1 h2
    simp only [midL, startL, List.getElem_map, List.getElem_range]
    rw [if_pos (by simp [startL] at h2; omega)]
theorem map_set_int (zs : List Int) (j : Nat) (v : Int) : (zs.map (Value.int .i64)).set j (.int .i64 v) = (zs.set j v).map (Value.int .i64) := by rw [List.map_set]
theorem take_succ_ed {l : List Ed} {j : Nat} {x : Ed} (h : l[j]? = some x) : l.take (j + 1) = l.take j ++ [x] := by
  obtain ⟨hk, e⟩ := List.getElem?_eq_some_iff.1 h
  rw [List.take_succ_eq_append_getElem hk, e]

set_option maxHeartbeats 1600000 in
set_option maxRecDepth 10000 in
theorem edgeStarts_any (A : Option Addr) (n c : Nat) (s : Int) (M : Option Addr) (m d : Nat) (E : Option Addr) (k g : Nat) (a : Au) (S : Nat) (B : Nat) (w : World) (h : AuR w B A n c s M m d E k g a) (hB : B ≤ w.heap.size) (hS : s = (S : Int)) (hSb : S ≤ 5000) (hf : ∀ x ∈ a.ed, 0 ≤ x.f ∧ x.f < a.st) :
    Calls Try.prog 72 #[.agg #[.slice A n c, .int .i64 s, .slice M m d, .slice E k g]] w fun e w' => ∃ gS, e = .returned (.slice (some ⟨gS, 0, none⟩) (S + 1) (S + 1)) ∧ w.heap.size ≤ gS ∧ Row w' gS 3 ((startL a.ed (S + 1)).map (Value.int .i64)) ∧ Below w.heap.size w w' := by
  have hst := h.st
  subst hS
  have HR := Lib.hid h
  have HF := Lib.hid hf
  have HST := Lib.hid hst
  have HB1 := Lib.hid ((Below.refl w.heap.size w).alloc (Nat.le_refl _) (.cells #[.slice A n c, .int .i64 (S : Int), .slice M m d, .slice E k g] 25))
  have HX := Lib.hid (Row.new w [.slice A n c, .int .i64 (S : Int), .slice M m d, .slice E k g] 25)
  have hbk := h.bk
  have hmk := make_ints (S + 1) (by omega)
  simp only [Int.natCast_add, Int.cast_ofNat_Int] at hmk
  clear h hf hst
  go_enter Try.func72, Try.ntmps72
  have HG0 := Lib.hid (show Row ((w.alloc (.cells #[.slice A n c, .int .i64 (S : Int), .slice M m d, .slice E k g] 25)).alloc (.cells (List.replicate (S + 1) (Value.int .i64 0)).toArray 3)) (w.heap.size + 1) 3 ((fromL (a.ed.take 0) (S + 1)).map (Value.int .i64)) by
    have := Row.new (w.alloc (.cells #[.slice A n c, .int .i64 (S : Int), .slice M m d, .slice E k g] 25)) (List.replicate (S + 1) (Value.int .i64 0)) 3
    rw [List.take_zero, fromL_nil, List.map_replicate]
    simpa using this)
  have HX2 := Lib.hid (HX.out.alloc (.cells (List.replicate (S + 1) (Value.int .i64 0)).toArray 3))
  have HB2 := Lib.hid (HB1.out.alloc (by simp) (.cells (List.replicate (S + 1) (Value.int .i64 0)).toArray 3))
  go_wp2_with fail
  go_loopw [14] (fun i wr => ∃ j : Nat, j ≤ k ∧ i = .int .i64 j ∧ Below w.heap.size w wr ∧ Hid (Row wr w.heap.size 25 [.slice A n c, .int .i64 (S : Int), .slice M m d, .slice E k g]) ∧ Hid (Row wr (w.heap.size + 1) 3 ((fromL (a.ed.take j) (S + 1)).map (Value.int .i64))) ∧ w.heap.size + 1 < wr.heap.size) (fun i _ => k - (intOf i).toNat)
  case atStart => exact ⟨0, Nat.zero_le _, rfl, HB2.out, HX2, HG0, by simp⟩
  case round =>
    obtain ⟨j, hj, rfl, hbel, hbx, hro, hlt0⟩ := hrel
    have hk2 := Lib.hid HR.out.hk
    have hy1 := hbx.out.cell 1 rfl
    by_cases hlt : j < k
    · have hz : j < a.ed.length := by rw [hk2.out]; exact hlt
      obtain ⟨b1, o1, rfl, hb1, hc1⟩ := HR.out.ed (by omega)
      obtain ⟨x, hx⟩ : ∃ x, a.ed[j]? = some x := ⟨_, List.getElem?_eq_getElem hz⟩
      have hxr : EdAt wr b1 (o1 + j * 3) x := (hc1 j x hx).keep fun o => hbel.cell (p := ⟨b1, o, none⟩) (Nat.lt_of_lt_of_le hb1 hB)
      have hfx := HF.out x (List.mem_of_getElem? hx)
      rw [HST.out] at hfx
      have hX := Lib.hid hx
      clear hx hz hc1
      obtain ⟨xf, xe, xt⟩ := x
      simp only at hfx
      obtain ⟨F, rfl⟩ : ∃ F : Nat, xf = (F : Int) := ⟨xf.toNat, by omega⟩
      have hF : F < S := by omega
      obtain ⟨x0, x1, x2⟩ := hxr
      have hcF : wr.cell? ⟨w.heap.size + 1, F + 1, none⟩ = some (.int .i64 (fromN (a.ed.take j) (F + 1) : Int)) := by
        have := hro.out.int (j := F + 1) (by rw [fromL_len]; omega)
        rwa [fromL_at (by omega)] at this
      have hfF := hro.out.frozen (F + 1)
      have hle := fromN_le (a.ed.take j) (F + 1)
      have hle2 : (a.ed.take j).length ≤ j := List.length_take_le _ _
      have HN := Lib.hid (fromL_step (l := a.ed.take j) (N := S + 1) (f1 := F + 1) (x := ⟨(F : Int), xe, xt⟩) (by simp) (by omega))
      obtain ⟨q, hq⟩ : ∃ q, q = fromN (a.ed.take j) (F + 1) := ⟨_, rfl⟩
      rw [← hq] at hcF hle HN
      clear hq hfx
      go_wp2_with fail
      go_roundw
      case rel => exact ⟨j + 1, by omega, by go_num, (hbel.setCell (p := ⟨w.heap.size + 1, F + 1, none⟩) (by simp) _).alloc (by simp; omega) _, Lib.hid ((hbx.out.setOther (p := ⟨w.heap.size + 1, F + 1, none⟩) (by simp) _).alloc _), Lib.hid (by
        rw [take_succ_ed hX.out, HN.out, ← map_set_int]; exact (hro.out.set (F + 1) _).alloc _), by simp; omega⟩
      case measure => simp [intOf]; omega
    · obtain rfl : j = k := by omega
      have hmid := Lib.hid (show Row wr (w.heap.size + 1) 3 ((midL a.ed (S + 1) 0).map (Value.int .i64)) by
        rw [← midL_zero (fun x hx => (HF.out x hx).1)]
        have := hro.out
        rwa [List.take_of_length_le (by rw [hk2.out]; exact Nat.le_refl _)] at this)
      clear hro
      go_wp2_with fail
      go_loopw [29] (fun i wr => ∃ p : Nat, p ≤ S ∧ i = .int .i64 p ∧ Below w.heap.size w wr ∧ Hid (Row wr w.heap.size 25 [.slice A n c, .int .i64 (S : Int), .slice M m d, .slice E j g]) ∧ Hid (Row wr (w.heap.size + 1) 3 ((midL a.ed (S + 1) p).map (Value.int .i64))) ∧ w.heap.size + 1 < wr.heap.size) (fun i _ => S - (intOf i).toNat)
      case atStart => exact ⟨0, Nat.zero_le _, rfl, hbel, hbx, hmid, hlt0⟩
      case round =>
        clear hbel hbx hmid hlt0
        obtain ⟨p, hp, rfl, hbel, hbx, hro, hlt0⟩ := hrel
        by_cases hlt2 : p < S
        · obtain ⟨p1, hp1⟩ : ∃ p1, p1 = p + 1 := ⟨_, rfl⟩
          have HP := Lib.hid hp1
          have hpS : p1 < S + 1 := by omega
          have hc0 : wr.cell? ⟨w.heap.size + 1, p, none⟩ = some (.int .i64 (startN a.ed p : Int)) := by
            have := hro.out.int (j := p) (by rw [midL_len]; omega)
            rwa [midL_at (by omega), if_pos (Nat.le_refl _)] at this
          have hc1 : wr.cell? ⟨w.heap.size + 1, p1, none⟩ = some (.int .i64 (fromN a.ed p1 : Int)) := by
            have := hro.out.int (j := p1) (by rw [midL_len]; omega)
            rwa [midL_at (by omega), if_neg (by omega)] at this
          have hfr := hro.out.frozen p1
          have hl1 := startN_le a.ed p
          have hl2 := fromN_le a.ed p1
          rw [hk2.out] at hl1 hl2
          have hN := Lib.hid (midL_step (l := a.ed) hp1 hpS)
          have hwr : IntKind.i64.wrap ((p : Int) + 1) = (p1 : Int) := by rw [IntWalk.i64_in _ (by omega)]; omega
          obtain ⟨q, hq⟩ : ∃ q, q = startN a.ed p := ⟨_, rfl⟩
          obtain ⟨r, hr⟩ : ∃ r, r = fromN a.ed p1 := ⟨_, rfl⟩
          rw [← hq] at hc0 hl1 hN
          rw [← hr] at hc1 hl2 hN
          have hwr2 : IntKind.i64.wrap ((r : Int) + (q : Int)) = (r : Int) + (q : Int) := by rw [IntWalk.i64_in _ (by omega)]
          clear hq hr hp1
          go_wp2_with fail
          have i0 : (0 : Int) ≤ (p1 : Int) := by omega
          have i1 : (p1 : Int) < (S : Int) + 1 := by omega
          have i2 : (p : Int) < (S : Int) + 1 := by omega
          go_still_tail 11, (by kernel_rfl)
          change wpList _ _ _ _ _ wr.drew
          go_wp2_with fail
          go_roundw
          case rel => exact ⟨p1, by omega, by have := HP.out; go_num, (hbel.drew.setCell (p := ⟨w.heap.size + 1, p1, none⟩) (by simp) _), Lib.hid (Row.setOther (w := wr.drew) hbx.out (p := ⟨w.heap.size + 1, p1, none⟩) (by simp) _), Lib.hid (by
            rw [hN.out, ← map_set_int]; exact Row.set (w := wr.drew) hro.out p1 _), by simp; omega⟩
          case measure => have := HP.out; simp [intOf]; omega
        · obtain rfl : p = S := by omega
          have hN := Lib.hid (midL_end (l := a.ed) (N := p + 1) (i := p) (Nat.le_refl _))
          go_wp2_with fail
          go_ret
          exact ⟨w.heap.size + 1, rfl, by omega, by have := hro.out; rwa [hN.out] at this, hbel⟩
end Go.Proofs.Ytcciiikaejjooaa
