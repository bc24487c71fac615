/- Layer 6: slices of automata that came in; few. -/
import Derived.Test.YtedleffmbddccaaDoorZlF
import Derived.Test.YtedleffmbddccaaDoorZa11
import Derived.Test.YtedleffmbddccaaDoorZa8
import Derived.BigQuiet
set_option linter.unusedVariables false
set_option linter.unusedSimpArgs false
set_option linter.unusedSectionVars false
namespace Go.Proofs.YtedleffmbddccaaDoor
/-- At this address lie the four cells of an automaton that came in, of any size. -/
def AuAtI (w : World) (b o : Nat) (a : Au) : Prop := ∃ A n c s M m d E k g,
  w.cell? ⟨b, o, none⟩ = some (.slice A n c) ∧ w.cell? ⟨b, o + 1, none⟩ = some (.int .i64 s) ∧ w.cell? ⟨b, o + 2, none⟩ = some (.slice M m d) ∧ w.cell? ⟨b, o + 3, none⟩ = some (.slice E k g) ∧ AuI w A n c s M m d E k g a
def RdAsI (w : World) (A : Option Addr) (l : List Au) : Prop :=
  0 < l.length → ∃ b off, A = some ⟨b, off, none⟩ ∧ b < w.heap.size ∧ ∀ j a, l[j]? = some a → AuAtI w b (off + j * 4) a
section
open Go.ChangeShapes Go.WideShapes Go.ChangeAt Go.RowKit Go.Deep
variable {H : Type} {enc : TypeId × Value → H} {W : World} {a0 : Option Addr} {len cap : Nat} {d : DataW H} {p : List MemPlace}
set_option maxRecDepth 100000 in
theorem open_aut4 {n : Nat} {cl : List Value} {y : DataW H × List MemPlace} (hcl : cl.length = 4) (hf : DataW.trod enc Tryd.prog W 0 (fun _ => true) true n 34 cl = some y) (hlt : ∀ x ∈ y.2, x.block < W.heap.size) :
    ∃ A n c s M m d' E k g a, cl = [.slice A n c, .int .i64 s, .slice M m d', .slice E k g] ∧ AuI W A n c s M m d' E k g a := by
  have h1 : Tryd.prog.cellsOf 27 = 1 := by kernel_rfl
  have h2 : Tryd.prog.cellsOf 3 = 1 := by kernel_rfl
  have h3 : Tryd.prog.cellsOf 32 = 1 := by kernel_rfl
  obtain ⟨ys, n', _, hx, _, hyl, hfd⟩ := DataW.trod_struct Tryd.underlying34 hf
  match cl, hcl with
  | [s0, s1, s2, s3], _ =>
    match ys, hyl with
    | [y0, y1, y2, y3], _ =>
      have f0 : DataW.trod enc Tryd.prog W 0 (fun _ => true) true n' 27 (([s0, s1, s2, s3].drop 0).take (Tryd.prog.cellsOf 27)) = some y0 := hfd 0 _ rfl
      have f1 : DataW.trod enc Tryd.prog W 0 (fun _ => true) true n' 3 (([s0, s1, s2, s3].drop 1).take (Tryd.prog.cellsOf 3)) = some y1 := hfd 1 _ rfl
      have f2 : DataW.trod enc Tryd.prog W 0 (fun _ => true) true n' 27 (([s0, s1, s2, s3].drop 2).take (Tryd.prog.cellsOf 27)) = some y2 := hfd 2 _ rfl
      have f3 : DataW.trod enc Tryd.prog W 0 (fun _ => true) true n' 32 (([s0, s1, s2, s3].drop 3).take (Tryd.prog.cellsOf 32)) = some y3 := hfd 3 _ rfl
      rw [h1] at f0 f2
      rw [h2] at f1
      rw [h3] at f3
      subst hx
      obtain ⟨A, n, c, za, SA⟩ := open_sl (c := s0) f0 (fun x hx => hlt x (by simp [hx]))
      obtain ⟨q, e1, _, hq⟩ := DataW.trod_int Tryd.underlying3 f1
      obtain ⟨M, m, dd, zm, SM⟩ := open_sl (c := s2) f2 (fun x hx => hlt x (by simp [hx]))
      obtain ⟨E, k, g, ze, SE⟩ := open_slG (c := s3) f3 (fun x hx => hlt x (by simp [hx]))
      simp only [List.drop, List.take, List.cons.injEq, and_true] at e1
      exact ⟨A, n, c, q, M, m, dd, E, k, g, ⟨za, q, zm, ze⟩, by rw [SA.eq, SM.eq, SE.eq, e1], SA.rd, SM.rd, SE.rd, SA.len, SM.len, SE.len, rfl, ⟨SA.cap, SA.top⟩, ⟨SM.cap, SM.top⟩, ⟨SE.cap, SE.top⟩, hq⟩
set_option maxRecDepth 100000 in
theorem open_rdAs (h : DataW.Trod enc Tryd.prog W 0 (fun _ => true) true 22 (.slice a0 len cap) d p) (hlt : ∀ x ∈ p, x.block < W.heap.size) :
    ∃ l : List Au, l.length = len ∧ RdAsI W a0 l ∧ len ≤ 9223372036854775807 ∧ True := by
  obtain ⟨fuel, hf⟩ := h
  rcases open_slice Tryd.underlying22 hf with ⟨hcs, _⟩ | ⟨a, l, c, m, n, D, Pl, hcs, _, hl, hm, hmm, hx, hi⟩
  · simp [Value.cells] at hcs
    obtain ⟨rfl, rfl, rfl⟩ := hcs
    exact ⟨[], rfl, fun h => absurd h (by simp), by omega, trivial⟩
  · simp [Value.cells] at hcs
    obtain ⟨rfl, rfl, rfl⟩ := hcs
    have h28 : Tryd.prog.cellsOf 34 = 4 := by kernel_rfl
    simp only [if_true] at hmm
    simp only [Prod.mk.injEq] at hx
    obtain ⟨_, rfl⟩ := hx
    unfold maxLen at hm
    have each : ∀ j, j < m → ∃ x : Ha, (∀ i v, x.enc[i]? = some v → W.cell? ((a.add (j * 4)).add i) = some v) ∧ W.cell? (a.add (j * 4)) = some (.slice x.A x.n x.c) ∧ AuI W x.A x.n x.c x.s x.M x.m x.d x.E x.k x.g x.a := by
      intro j hj
      obtain ⟨cs', hc, ht⟩ := hi j hj
      rw [h28] at hc
      obtain ⟨_, hcl, hat⟩ := World.cells?_some hc
      obtain ⟨A, n, c, s, M, m', d', E, k, g, a', rfl, hau⟩ := open_aut4 hcl ht (fun x hx => hlt x (List.mem_append_right _ (List.mem_flatMap.2 ⟨j, List.mem_range.2 hj, hx⟩)))
      refine ⟨⟨A, n, c, s, M, m', d', E, k, g, a'⟩, fun i v hv => ?_, ?_, hau⟩
      · have hil : i < 4 := by have := (List.getElem?_eq_some_iff.1 hv).1; simpa [Ha.enc] using this
        rw [hat i hil]; exact hv
      · have := hat 0 (by omega)
        simpa [Addr.add] using this
    have each' : ∀ j : Nat, ∃ x : Ha, j < m → (∀ i v, x.enc[i]? = some v → W.cell? ((a.add (j * 4)).add i) = some v) ∧ W.cell? (a.add (j * 4)) = some (.slice x.A x.n x.c) ∧ AuI W x.A x.n x.c x.s x.M x.m x.d x.E x.k x.g x.a := by
      intro j
      by_cases hj : j < m
      · obtain ⟨x, hx⟩ := each j hj
        exact ⟨x, fun _ => hx⟩
      · exact ⟨⟨none, 0, 0, 0, none, 0, 0, none, 0, 0, zeroA⟩, fun h => absurd h hj⟩
    obtain ⟨E, hE⟩ := Classical.axiomOfChoice each'
    refine ⟨(List.range len).map fun j => (E j).a, by simp, fun h0 => ?_, by omega, trivial⟩
    have h0' : 0 < len := by simpa using h0
    obtain ⟨b, off, spot⟩ := a
    have hspot : spot = none := by simpa [Addr.add] using World.cell?_spot (hE 0 (by omega)).2.1
    subst hspot
    refine ⟨b, off, rfl, hlt (.cell b off) (List.mem_append_left _ (MemPlace.mem_row.2 ⟨0, by rw [h28]; omega, by simp⟩)), fun j q hj => ?_⟩
    rw [List.getElem?_map, Option.map_eq_some_iff] at hj
    obtain ⟨j', hj', rfl⟩ := hj
    have hjl : j < len := by have := (List.getElem?_eq_some_iff.1 hj').1; simpa using this
    rw [List.getElem?_range hjl] at hj'
    injection hj' with hj'
    subst hj'
    obtain ⟨g0, g1, g2⟩ := hE j (by omega)
    have key : ∀ i v, (E j).enc[i]? = some v → W.cell? ⟨b, off + j * 4 + i, none⟩ = some v := fun i v hv => by
      have := g0 i v hv
      rwa [add_plain, add_plain] at this
    exact ⟨(E j).A, (E j).n, (E j).c, (E j).s, (E j).M, (E j).m, (E j).d, (E j).E, (E j).k, (E j).g, key 0 _ rfl, key 1 _ rfl, key 2 _ rfl, key 3 _ rfl, g2⟩
end
section
open Go.RowKit Go.Sort
theorem AuI.keep {w w' : World} {A : Option Addr} {n c : Nat} {s : Int} {M : Option Addr} {m d : Nat} {E : Option Addr} {k g : Nat} {a : Au} (h : AuI w A n c s M m d E k g a) (hb : Below w.heap.size w w') : AuI w' A n c s M m d E k g a :=
  { h with al := (h.al.below hb (Nat.le_refl _)).more hb.size, mr := (h.mr.below hb (Nat.le_refl _)).more hb.size, ed := (h.ed.keep fun _ _ hlt => hb.cell (by exact hlt)).more hb.size }
theorem RdAsI.keep {w w' : World} {A : Option Addr} {l : List Au} (h : RdAsI w A l) (hb : Below w.heap.size w w') : RdAsI w' A l := fun h0 => by
  obtain ⟨b, off, e, hlt, hc⟩ := h h0
  refine ⟨b, off, e, Nat.lt_of_lt_of_le hlt hb.size, fun j a hj => ?_⟩
  obtain ⟨A, n, c, s, M, m, d, E, k, g, h0, h1, h2, h3, h4⟩ := hc j a hj
  exact ⟨A, n, c, s, M, m, d, E, k, g, (hb.cell (p := ⟨b, off + j * 4, none⟩) hlt).trans h0, (hb.cell (p := ⟨b, off + j * 4 + 1, none⟩) hlt).trans h1, (hb.cell (p := ⟨b, off + j * 4 + 2, none⟩) hlt).trans h2, (hb.cell (p := ⟨b, off + j * 4 + 3, none⟩) hlt).trans h3, h4.keep hb⟩
def smA (a : Au) : Bool := decide (a.al.length ≤ 6) && decide (a.mr.length ≤ 6) && decide (a.ed.length ≤ 6)
def fewB (l : List Au) : Bool := (l.take 15).all smA && decide (l.length ≤ 14)
theorem few_all {l : List Au} (h : fewB l = true) : l.length ≤ 14 ∧ ∀ a ∈ l, a.al.length ≤ 6 ∧ a.mr.length ≤ 6 ∧ a.ed.length ≤ 6 := by
  unfold fewB at h
  rw [Bool.and_eq_true, decide_eq_true_eq] at h
  refine ⟨h.2, fun a ha => ?_⟩
  have h1 := h.1
  rw [List.take_of_length_le (by omega), List.all_eq_true] at h1
  have := h1 a ha
  unfold smA at this
  simp only [Bool.and_eq_true, decide_eq_true_eq] at this
  omega
theorem RdAsI.few {w : World} {A : Option Addr} {l : List Au} (h : RdAsI w A l) (hf : fewB l = true) : RdAs w w.heap.size A l := fun h0 => by
  obtain ⟨b, off, e, hlt, hc⟩ := h h0
  refine ⟨b, off, e, hlt, fun j a hj => ?_⟩
  obtain ⟨A, n, c, s, M, m, d, E, k, g, h0, h1, h2, h3, h4⟩ := hc j a hj
  obtain ⟨k1, k2, k3⟩ := (few_all hf).2 a (List.mem_of_getElem? hj)
  exact ⟨A, n, c, s, M, m, d, E, k, g, h0, h1, h2, h3, h4.r (by rw [← h4.hn]; omega) (by rw [← h4.hm]; omega) (by rw [← h4.hk]; omega)⟩
theorem sm_next {l : List Au} {k : Nat} {a : Au} (hk : k < 15) (ha : l[k]? = some a) : ((l.take 15).drop k).all smA = (smA a && ((l.take 15).drop (k + 1)).all smA) := by
  have : (l.take 15)[k]? = some a := by rw [List.getElem?_take_of_lt hk]; exact ha
  rw [drop_au this, List.all_cons]

set_option maxHeartbeats 4000000 in
set_option maxRecDepth 100000 in
theorem few_any6 (A : Option Addr) (n c : Nat) (l : List Au) (w : World) (h : RdAsI w A l) (hn : l.length = n) (hnb : n ≤ 9223372036854775807) :
    Calls Tryd.prog 14 #[.slice A n c] w fun e w' => e = .returned (.bool (fewB l)) ∧ w = w' := by
  have HL := Lib.hid h
  have HN := Lib.hid hn
  obtain ⟨v, hv⟩ : ∃ v, v = (l.take 15).all smA := ⟨_, rfl⟩
  obtain ⟨r, hr⟩ : ∃ r, r = fewB l := ⟨_, rfl⟩
  have HV := Lib.hid (show ((l.take 15).drop 0).all smA = v by rw [hv]; rfl)
  have HR := Lib.hid (show r = (v && decide (n ≤ 14)) by rw [hr, fewB, hv, hn])
  rw [← hr]
  clear h hn hv hr
  go_enter Tryd.func14, Tryd.ntmps14
  go_wp2_with fail
  go_loopw [3] (fun i wr => ∃ k : Nat, k ≤ n ∧ k ≤ 15 ∧ i = .int .i64 k ∧ wr = w ∧ Hid (((l.take 15).drop k).all smA = v)) (fun i _ => 15 - (intOf i).toNat)
  case atStart => exact ⟨0, Nat.zero_le _, Nat.zero_le _, rfl, rfl, HV⟩
  case round =>
    clear HV
    obtain ⟨k, hkn, hk15, rfl, rfl, hv⟩ := hrel
    by_cases hlt : k < n
    · by_cases hl15 : k < 15
      · obtain ⟨a, ha⟩ : ∃ a, l[k]? = some a := ⟨_, List.getElem?_eq_getElem (by rw [HN.out]; exact hlt)⟩
        obtain ⟨b, o, rfl, hb, hc⟩ := HL.out (by rw [HN.out]; omega)
        obtain ⟨A1, n1, c1, s1, M1, m1, d1, E1, k1, g1, q0, q1, q2, q3, hr⟩ := hc k a ha
        have hv2 := hv.out
        rw [sm_next hl15 ha, smA, hr.hn, hr.hm, hr.hk] at hv2
        have HV2 := Lib.hid hv2
        have w0 : (k : Int) < (n : Int) := by omega
        have w1 : (0 : Int) ≤ (k : Int) := by omega
        have w2 : (k : Int) < 15 := by omega
        clear hc ha hr hv hv2 q1
        have bad : ∀ P : Bool, P = false → v = (P && ((l.take 15).drop (k + 1)).all smA) → r = false := fun P hP hvv => by
          rw [HR.out, hvv, hP]; rfl
        have BAD := Lib.hid bad
        clear bad
        by_cases h1 : 6 < n1
        · have g1 : (6 : Int) < (n1 : Int) := by omega
          have hrf : r = false := BAD.out (decide (n1 ≤ 6) && decide (m1 ≤ 6) && decide (k1 ≤ 6)) (by rw [decide_eq_false (by omega)]; rfl) HV2.out.symm
          subst hrf
          go_wp2_with fail
          go_ret
          exact ⟨rfl, rfl⟩
        · have g1 : ¬ (6 : Int) < (n1 : Int) := by omega
          by_cases h2 : 6 < m1
          · have g2 : (6 : Int) < (m1 : Int) := by omega
            have hrf : r = false := BAD.out (decide (n1 ≤ 6) && decide (m1 ≤ 6) && decide (k1 ≤ 6)) (by rw [decide_eq_false (p := m1 ≤ 6) (by omega)]; simp) HV2.out.symm
            subst hrf
            go_wp2_with fail
            go_ret
            exact ⟨rfl, rfl⟩
          · have g2 : ¬ (6 : Int) < (m1 : Int) := by omega
            by_cases h3 : 6 < k1
            · have g3 : (6 : Int) < (k1 : Int) := by omega
              have hrf : r = false := BAD.out (decide (n1 ≤ 6) && decide (m1 ≤ 6) && decide (k1 ≤ 6)) (by rw [decide_eq_false (p := k1 ≤ 6) (by omega)]; simp) HV2.out.symm
              subst hrf
              go_wp2_with fail
              go_ret
              exact ⟨rfl, rfl⟩
            · have g3 : ¬ (6 : Int) < (k1 : Int) := by omega
              have HV3 := Lib.hid (show ((l.take 15).drop (k + 1)).all smA = v by
                have := HV2.out
                rw [decide_eq_true (by omega), decide_eq_true (by omega), decide_eq_true (by omega)] at this
                simpa using this)
              go_wp2_with fail
              go_roundw
              case rel => exact ⟨k + 1, by omega, by omega, by go_num, by first | rfl | trivial, HV3⟩
              case measure => simp [intOf]; omega
      · obtain rfl : k = 15 := by omega
        have w0 : ((15 : Nat) : Int) < (n : Int) := by omega
        have hrf : r = false := by rw [HR.out, decide_eq_false (p := n ≤ 14) (by omega), Bool.and_false]
        have w4 : ¬ (n : Int) ≤ 14 := by omega
        subst hrf
        go_wp2_with fail
        go_ret
        exact ⟨rfl, rfl⟩
    · obtain rfl : k = n := by omega
      have hvt : v = true := by
        rw [← hv.out, List.drop_of_length_le (by rw [List.length_take, HN.out]; exact Nat.min_le_right _ _)]; rfl
      have hrk : r = decide ((k : Int) ≤ 14) := by rw [HR.out, hvt, Bool.true_and]; exact decide_eq_decide.2 (by omega)
      have HRK := Lib.hid hrk
      clear hvt hrk hv
      go_wp2_with fail
      go_ret
      exact ⟨by rw [HRK.out]; rfl, rfl⟩
end
end Go.Proofs.YtedleffmbddccaaDoor
