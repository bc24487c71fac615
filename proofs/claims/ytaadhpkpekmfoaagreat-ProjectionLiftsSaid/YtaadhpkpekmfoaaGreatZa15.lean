/- Texts merged: what follows were texts of their own. -/
import Derived.Test.YtaadhpkpekmfoaaGreatZa5
import Derived.Test.YtaadhpkpekmfoaaGreatZa14
import Derived.Test.YtaadhpkpekmfoaaGreatZa4
import Derived.Test.YtaadhpkpekmfoaaGreatZa9
import Derived.Deep.MidRow
import Derived.Deep.QuietTactic
import Derived.BigQuiet
import Derived.Test.YtaadhpkpekmfoaaGreatZa1
set_option linter.unusedVariables false
set_option linter.unusedSimpArgs false
set_option linter.unusedSectionVars false
/- Layer 3: Same of the reference. -/
namespace Go.Proofs.YtaadhpkpekmfoaaGreat
open Go.RowKit Go.Sort

set_option maxHeartbeats 3200000 in
theorem rSame_any (A : Option Addr) (n c : Nat) (s : Int) (M : Option Addr) (m d : Nat) (E : Option Addr) (k g : Nat) (A2 : Option Addr) (n2 c2 : Nat) (s2 : Int) (M2 : Option Addr) (m2 d2 : Nat) (E2 : Option Addr) (k2 g2 : Nat) (a b : Au) (B : Nat) (w : World) (h : AuR w B A n c s M m d E k g a) (h2 : AuR w B A2 n2 c2 s2 M2 m2 d2 E2 k2 g2 b) (hB : B ≤ w.heap.size) :
    Calls Tryz.prog 16 #[.agg #[.slice A n c, .int .i64 s, .slice M m d, .slice E k g], .agg #[.slice A2 n2 c2, .int .i64 s2, .slice M2 m2 d2, .slice E2 k2 g2]] w fun e w' => e = .returned (.bool (decide (a = b))) ∧ Below w.heap.size w w' := by
  have hb1 := ((Below.refl w.heap.size w).alloc (Nat.le_refl _) (.cells #[.slice A n c, .int .i64 s, .slice M m d, .slice E k g] 33)).alloc (by simp) (.cells #[.slice A2 n2 c2, .int .i64 s2, .slice M2 m2 d2, .slice E2 k2 g2] 33)
  have HB1 := Lib.hid hb1
  have HX := Lib.hid (box_row A n c s M m d E k g ((Row.new w [.slice A n c, .int .i64 s, .slice M m d, .slice E k g] 33).alloc (.cells #[.slice A2 n2 c2, .int .i64 s2, .slice M2 m2 d2, .slice E2 k2 g2] 33)))
  have HX2 := Lib.hid (show BoxA ((w.alloc (.cells #[.slice A n c, .int .i64 s, .slice M m d, .slice E k g] 33)).alloc (.cells #[.slice A2 n2 c2, .int .i64 s2, .slice M2 m2 d2, .slice E2 k2 g2] 33)) (w.heap.size + 1) A2 n2 c2 s2 M2 m2 d2 E2 k2 g2 by
    have := box_row A2 n2 c2 s2 M2 m2 d2 E2 k2 g2 (Row.new (w.alloc (.cells #[.slice A n c, .int .i64 s, .slice M m d, .slice E k g] 33)) [.slice A2 n2 c2, .int .i64 s2, .slice M2 m2 d2, .slice E2 k2 g2] 33)
    simpa using this)
  have HC1 := Lib.hid (sameInts_b A A2 n n2 c c2 B a.al b.al _ (h.al.below hb1 hB) (h2.al.below hb1 hB) h.hn h2.hn h.bn h2.bn)
  have HC2 := Lib.hid (fun W (hW : Below w.heap.size w W) => sameInts_b M M2 m m2 d d2 B a.mr b.mr W (h.mr.below hW hB) (h2.mr.below hW hB) h.hm h2.hm h.bm h2.bm)
  have HST := Lib.hid h.st
  have hB0 := Lib.hid hB
  have HR := Lib.hid h
  have HR2 := Lib.hid h2
  have HST2 := Lib.hid h2.st
  obtain ⟨r1, hr1⟩ : ∃ r, r = decide (a.al = b.al) := ⟨_, rfl⟩
  obtain ⟨r2, hr2⟩ : ∃ r, r = decide (a.mr = b.mr) := ⟨_, rfl⟩
  rw [← hr1] at HC1
  rw [← hr2] at HC2
  obtain ⟨v, hv⟩ : ∃ v, v = decide (a = b) := ⟨_, rfl⟩
  have HV := Lib.hid (show v = (r1 && (decide (s = s2) && (r2 && decide (a.ed = b.ed)))) by rw [hv, au_eq, ← hr1, ← hr2, HST.out, HST2.out])
  rw [← hv]
  clear h h2 hb1 hr1 hr2 hv
  cases r1
  · have hf := Lib.hid (show v = false by rw [HV.out]; rfl)
    go_enter Tryz.func16, Tryz.ntmps16
    go_wp2_with fail
    refine HC1.out.mono ?_
    rintro e w1 ⟨rfl, hbw⟩
    have hB := Lib.hid (HB1.out.trans (hbw.mono (by simp; omega)))
    have hX1 := Lib.hid (HX.out.below hbw (by simp; omega))
    have hX2 := Lib.hid (HX2.out.below hbw (by simp))
    have hz := hbw.size
    simp only [World.size_alloc] at hz
    obtain ⟨p0, p1, p2, p3⟩ := hX1.out
    obtain ⟨q0, q1, q2, q3⟩ := hX2.out
    clear hbw
    go_wp2_with fail
    go_ret
    exact ⟨ret_bool hf.out.symm, hB.out⟩
  · by_cases hs : s = s2
    · have hd : decide (s = s2) = true := by simp [hs]
      subst hs
      cases r2
      · have hf := Lib.hid (show v = false by rw [HV.out, hd]; rfl)
        have hd2 : (s != s) = false := by simp
        go_enter Tryz.func16, Tryz.ntmps16
        go_wp2_with fail
        refine HC1.out.mono ?_
        rintro e w1 ⟨rfl, hbw⟩
        have hB := Lib.hid (HB1.out.trans (hbw.mono (by simp; omega)))
        have hX1 := Lib.hid (HX.out.below hbw (by simp; omega))
        have hX2 := Lib.hid (HX2.out.below hbw (by simp))
        have hz := hbw.size
        simp only [World.size_alloc] at hz
        obtain ⟨p0, p1, p2, p3⟩ := hX1.out
        obtain ⟨q0, q1, q2, q3⟩ := hX2.out
        clear hbw
        go_wp2_with fail
        refine (HC2.out w1 hB.out).mono ?_
        rintro e w2 ⟨rfl, hbw⟩
        have hB2 := Lib.hid (hB.out.trans (hbw.mono hB.out.size))
        clear p0 p1 p2 p3 q0 q1 q2 q3
        have hX3 := Lib.hid (hX1.out.below hbw (by omega))
        have hX4 := Lib.hid (hX2.out.below hbw (by omega))
        have hz2 := hbw.size
        obtain ⟨p0, p1, p2, p3⟩ := hX3.out
        obtain ⟨q0, q1, q2, q3⟩ := hX4.out
        clear hbw
        go_wp2_with fail
        go_ret
        exact ⟨ret_bool hf.out.symm, hB2.out⟩
      · have hf := Lib.hid (show v = decide (a.ed = b.ed) by rw [HV.out, hd]; rfl)
        have hd2 : (s != s) = false := by simp
        by_cases hk : k = k2
        · subst hk
          have hk2 : ((k : Int) != (k : Int)) = false := by simp
          have HK := Lib.hid HR.out.hk
          have HK2 := Lib.hid HR2.out.hk
          go_enter Tryz.func16, Tryz.ntmps16
          go_wp2_with fail
          refine HC1.out.mono ?_
          rintro e w1 ⟨rfl, hbw⟩
          have hB := Lib.hid (HB1.out.trans (hbw.mono (by simp; omega)))
          have hX1 := Lib.hid (HX.out.below hbw (by simp; omega))
          have hX2 := Lib.hid (HX2.out.below hbw (by simp))
          have hz := hbw.size
          simp only [World.size_alloc] at hz
          obtain ⟨p0, p1, p2, p3⟩ := hX1.out
          obtain ⟨q0, q1, q2, q3⟩ := hX2.out
          clear hbw
          go_wp2_with fail
          refine (HC2.out w1 hB.out).mono ?_
          rintro e w2 ⟨rfl, hbw⟩
          have hB2 := Lib.hid (hB.out.trans (hbw.mono hB.out.size))
          clear p0 p1 p2 p3 q0 q1 q2 q3
          have hX3 := Lib.hid (hX1.out.below hbw (by omega))
          have hX4 := Lib.hid (hX2.out.below hbw (by omega))
          have hz2 := hbw.size
          obtain ⟨p0, p1, p2, p3⟩ := hX3.out
          obtain ⟨q0, q1, q2, q3⟩ := hX4.out
          clear hbw
          go_wp2_with fail
          go_loopw [5] (fun i wr => ∃ t : Nat, t ≤ k ∧ i = .int .i64 t ∧ Hid (a.ed.take t = b.ed.take t) ∧ Hid (Below w2.heap.size w2 wr)) (fun i _ => k - (intOf i).toNat)
          case atStart => exact ⟨0, Nat.zero_le _, rfl, rfl, Below.refl _ _⟩
          case round =>
            clear p0 p1 p2 p3 q0 q1 q2 q3
            obtain ⟨t, htk, rfl, ht, hbel⟩ := hrel
            obtain ⟨p0, p1, p2, p3⟩ := hX3.out.below hbel.out (by omega)
            obtain ⟨q0, q1, q2, q3⟩ := hX4.out.below hbel.out (by omega)
            have hBr := Lib.hid (hB2.out.trans (hbel.out.mono hB2.out.size))
            have hbk := HR.out.bk
            by_cases htl : t < k
            · obtain ⟨b1, o1, rfl, hb1, hc1⟩ := HR.out.ed (by rw [HK.out]; omega)
              obtain ⟨b2, o2, rfl, hb2, hc2⟩ := HR2.out.ed (by rw [HK2.out]; omega)
              obtain ⟨x, hx1⟩ := edAt (l := a.ed) (k := t) (by rw [HK.out]; exact htl)
              obtain ⟨y, hy1⟩ := edAt (l := b.ed) (k := t) (by rw [HK2.out]; exact htl)
              obtain ⟨u0, u1, u2⟩ : EdAt wr b1 (o1 + t * 3) x := (hc1 t x hx1).keep fun o => hBr.out.cell (p := ⟨b1, o, none⟩) (Nat.lt_of_lt_of_le hb1 hB0.out)
              obtain ⟨v0, v1, v2⟩ : EdAt wr b2 (o2 + t * 3) y := (hc2 t y hy1).keep fun o => hBr.out.cell (p := ⟨b2, o, none⟩) (Nat.lt_of_lt_of_le hb2 hB0.out)
              clear hc1 hc2
              by_cases hxy : x = y
              · subst hxy
                have hs := Lib.hid (eqE_step hx1 hy1 ht.out)
                obtain ⟨xf, xe, xt⟩ := x
                clear hx1 hy1 ht
                go_wp2_with fail
                go_quiet (fail)
                go_wp2_with fail
                go_roundw
                case measure => simp [intOf]; omega
                case rel => exact ⟨t + 1, by omega, by go_num, hs, Lib.hid (below_drewN hbel.out _)⟩
              · have hff := Lib.hid (show v = false by rw [hf.out, neE_of hx1 hy1 hxy])
                have hne := ed_ne hxy
                obtain ⟨xf, xe, xt⟩ := x
                obtain ⟨yf, ye, yt⟩ := y
                simp only at hne u0 u1 u2 v0 v1 v2
                clear hx1 hy1 ht hxy
                by_cases h1 : xf = yf
                · by_cases h2 : xe = ye
                  · have h3 : ¬ xt = yt := fun h3 => hne ⟨h1, h2, h3⟩
                    subst h1; subst h2
                    clear hne
                    go_wp2_with fail
                    go_quiet (fail)
                    go_wp2_with fail
                    go_ret
                    exact ⟨ret_bool hff.out.symm, below_drewN hBr.out _⟩
                  · subst h1
                    clear hne
                    go_wp2_with fail
                    go_quiet (fail)
                    go_wp2_with fail
                    go_ret
                    exact ⟨ret_bool hff.out.symm, below_drewN hBr.out _⟩
                · clear hne
                  go_wp2_with fail
                  go_quiet (fail)
                  go_wp2_with fail
                  go_ret
                  exact ⟨ret_bool hff.out.symm, below_drewN hBr.out _⟩
            · have hkn : t = k := by omega
              have hff := Lib.hid (show v = true by rw [hf.out]; exact eqE_all (by rw [HK.out, HK2.out]) (by rw [HK.out, ← hkn]; exact ht.out))
              clear hkn ht
              go_wp2_with fail
              go_ret
              exact ⟨ret_bool hff.out.symm, hBr.out⟩
        · have hk2 : ((k : Int) != (k2 : Int)) = true := by simp; omega
          have hff := Lib.hid (show v = false by
            rw [hf.out]; simp only [decide_eq_false_iff_not]; intro e
            have := congrArg List.length e; rw [HR.out.hk, HR2.out.hk] at this; exact hk this)
          go_enter Tryz.func16, Tryz.ntmps16
          go_wp2_with fail
          refine HC1.out.mono ?_
          rintro e w1 ⟨rfl, hbw⟩
          have hB := Lib.hid (HB1.out.trans (hbw.mono (by simp; omega)))
          have hX1 := Lib.hid (HX.out.below hbw (by simp; omega))
          have hX2 := Lib.hid (HX2.out.below hbw (by simp))
          have hz := hbw.size
          simp only [World.size_alloc] at hz
          obtain ⟨p0, p1, p2, p3⟩ := hX1.out
          obtain ⟨q0, q1, q2, q3⟩ := hX2.out
          clear hbw
          go_wp2_with fail
          refine (HC2.out w1 hB.out).mono ?_
          rintro e w2 ⟨rfl, hbw⟩
          have hB2 := Lib.hid (hB.out.trans (hbw.mono hB.out.size))
          clear p0 p1 p2 p3 q0 q1 q2 q3
          have hX3 := Lib.hid (hX1.out.below hbw (by omega))
          have hX4 := Lib.hid (hX2.out.below hbw (by omega))
          have hz2 := hbw.size
          obtain ⟨p0, p1, p2, p3⟩ := hX3.out
          obtain ⟨q0, q1, q2, q3⟩ := hX4.out
          clear hbw
          go_wp2_with fail
          go_ret
          exact ⟨ret_bool hff.out.symm, hB2.out⟩
    · have hd : decide (s = s2) = false := by simp [hs]
      have hf := Lib.hid (show v = false by rw [HV.out, hd]; rfl)
      have hd2 : (s != s2) = true := by simp [hs]
      go_enter Tryz.func16, Tryz.ntmps16
      go_wp2_with fail
      refine HC1.out.mono ?_
      rintro e w1 ⟨rfl, hbw⟩
      have hB := Lib.hid (HB1.out.trans (hbw.mono (by simp; omega)))
      have hX1 := Lib.hid (HX.out.below hbw (by simp; omega))
      have hX2 := Lib.hid (HX2.out.below hbw (by simp))
      have hz := hbw.size
      simp only [World.size_alloc] at hz
      obtain ⟨p0, p1, p2, p3⟩ := hX1.out
      obtain ⟨q0, q1, q2, q3⟩ := hX2.out
      clear hbw
      go_wp2_with fail
      go_ret
      exact ⟨ret_bool hf.out.symm, hB.out⟩
end Go.Proofs.YtaadhpkpekmfoaaGreat

/- Layer 3: the examples of the chapter hold. -/
namespace Go.Proofs.YtaadhpkpekmfoaaGreat
open Go.RowKit Go.Sort

theorem row_rdG {w : World} {g : Nat} {l : List Ed} (h : Row w g 79 (encE l)) : RdG w w.heap.size (some ⟨g, 0, none⟩) l := fun _ =>
  ⟨g, 0, rfl, h.lt, fun j x hj => by
    obtain ⟨e0, e1, e2⟩ := encE_at l j x hj
    rw [Nat.zero_add]
    exact ⟨h.cell _ e0, h.cell _ e1, h.cell _ e2⟩⟩
/-- An automaton in three blocks. -/
theorem au_rows {w : World} {b1 b2 b3 n m k : Nat} {s : Int} {a : Au} (h1 : Row w b1 3 (a.al.map (Value.int .i64))) (h2 : Row w b2 3 (a.mr.map (Value.int .i64))) (h3 : Row w b3 79 (encE a.ed)) (hn : a.al.length = n) (hm : a.mr.length = m) (hk : a.ed.length = k) (hs : a.st = s) (bn : n ≤ 1000) (bm : m ≤ 1000) (bk : k ≤ 1000) :
    AuR w w.heap.size (some ⟨b1, 0, none⟩) n n s (some ⟨b2, 0, none⟩) m m (some ⟨b3, 0, none⟩) k k a :=
  { al := h1.rd, mr := h2.rd, ed := row_rdG h3, hn := hn, hm := hm, hk := hk, st := hs, cn := by omega, cm := by omega, ck := by omega, bn := by omega, bm := by omega, bk := by omega }

theorem Row.new' (w : World) (cs : List Value) (e : TypeId) {g : Nat} (hg : w.heap.size = g) : Row (w.alloc (.cells cs.toArray e)) g e cs := by subst hg; exact Row.new w cs e

theorem own2 {W : World} {g : Nat} {x y : Int} (h : Row W g 3 [.int .i64 x, .int .i64 y]) : RdI W W.heap.size (some ⟨g, 0, none⟩) [x, y] := Row.rd (zs := [x, y]) h
theorem two_hds {hs : List Hd} {a b : List Int} (h : hs.map Hd.z = [a, b]) : ∃ A1 c1 A2 c2, hs = [⟨A1, c1, a⟩, ⟨A2, c2, b⟩] := by
  match hs, h with
  | [x, y], h =>
    simp at h
    obtain ⟨A1, c1, z1⟩ := x
    obtain ⟨A2, c2, z2⟩ := y
    simp at h
    exact ⟨A1, c1, A2, c2, by rw [h.1, h.2]⟩

end Go.Proofs.YtaadhpkpekmfoaaGreat

/- Layer 3: boxes whose cells are known; none of the law's package. -/
namespace Go.Proofs.YtaadhpkpekmfoaaGreat
open Go.RowKit Go.Sort

/-- Boxes whose cells are known. -/
def Bxs (w : World) (l : List (Nat × List Value)) : Prop := ∀ b cs, (b, cs) ∈ l → b < w.heap.size ∧ ∀ (i : Nat) v, cs[i]? = some v → w.cell? ⟨b, i, none⟩ = some v
theorem Bxs.nil (w : World) : Bxs w [] := fun b cs h => by simp at h
theorem Bxs.below {w w' : World} {l : List (Nat × List Value)} (h : Bxs w l) (hb : Below w.heap.size w w') : Bxs w' l := fun b cs hm =>
  ⟨Nat.lt_of_lt_of_le (h b cs hm).1 hb.size, fun i v hi => (hb.cell (p := ⟨b, i, none⟩) (h b cs hm).1).trans ((h b cs hm).2 i v hi)⟩
theorem Bxs.drew {w : World} {l : List (Nat × List Value)} (h : Bxs w l) : Bxs w.drew l := fun b cs hm => ⟨(h b cs hm).1, fun i v hi => (h b cs hm).2 i v hi⟩
theorem Bxs.drewN {w : World} {l : List (Nat × List Value)} (h : Bxs w l) (q : Nat) : Bxs (w.drewN q) l := fun b cs hm => ⟨(h b cs hm).1, fun i v hi => (h b cs hm).2 i v hi⟩
theorem Bxs.alloc {w : World} {l : List (Nat × List Value)} (h : Bxs w l) (o : Obj) : Bxs (w.alloc o) l := h.below ((Below.refl _ w).alloc (Nat.le_refl _) o)
theorem Bxs.new {w : World} {l : List (Nat × List Value)} (h : Bxs w l) (cs : List Value) (t : TypeId) : Bxs (w.alloc (.cells cs.toArray t)) ((w.heap.size, cs) :: l) := fun b ds hm => by
  rcases List.mem_cons.1 hm with e | hm
  · injection e with e1 e2
    subst e1 e2
    exact ⟨by simp, fun i v hi => (Row.new w ds t).cell i hi⟩
  · exact h.alloc _ b ds hm
theorem Bxs.tail {w : World} {x : Nat × List Value} {l : List (Nat × List Value)} (h : Bxs w (x :: l)) : Bxs w l := fun b cs hm => h b cs (List.mem_cons_of_mem _ hm)
/-- The first box's cells. -/
theorem Bxs.at {w : World} {l : List (Nat × List Value)} (h : Bxs w l) (j : Nat) {b : Nat} {cs : List Value} (hj : l[j]? = some (b, cs)) (i : Nat) {v : Value} (hi : cs[i]? = some v) : w.cell? ⟨b, i, none⟩ = some v :=
  (h b cs (List.mem_of_getElem? hj)).2 i v hi
theorem Bxs.lt {w : World} {l : List (Nat × List Value)} (h : Bxs w l) (j : Nat) {b : Nat} {cs : List Value} (hj : l[j]? = some (b, cs)) : b < w.heap.size := (h b cs (List.mem_of_getElem? hj)).1
/-- The cells of a box that holds an automaton. -/
theorem Bxs.aut {w : World} {l : List (Nat × List Value)} (h : Bxs w l) (j : Nat) {b : Nat} (A : Option Addr) (n c : Nat) (s : Int) (M : Option Addr) (m d : Nat) (E : Option Addr) (k g : Nat) (hj : l[j]? = some (b, [.slice A n c, .int .i64 s, .slice M m d, .slice E k g])) : BoxA w b A n c s M m d E k g :=
  ⟨h.at j hj 0 rfl, h.at j hj 1 rfl, h.at j hj 2 rfl, h.at j hj 3 rfl⟩

def noneB (n : Nat) (s : Int) (m k : Nat) : Bool := decide (n = 0) && (decide (s = 0) && (decide (m = 0) && decide (k = 0)))
end Go.Proofs.YtaadhpkpekmfoaaGreat

/- Layer 3: what a law's walk keeps: its arguments' memory, its boxes. -/
namespace Go.Proofs.YtaadhpkpekmfoaaGreat
open Go.RowKit Go.Sort

/-- The memory that came in is as it was; the boxes' cells are known. -/
structure LW (W : World) (l : List (Nat × List Value)) (w : World) : Prop where
  bel : Below W.heap.size W w
  bx : Bxs w l
section
variable {W w w' : World} {l : List (Nat × List Value)}
theorem LW.call (h : LW W l w) (hb : Below w.heap.size w w') : LW W l w' := ⟨h.bel.trans (hb.mono h.bel.size), h.bx.below hb⟩
theorem LW.drew (h : LW W l w) : LW W l w.drew := ⟨h.bel.drew, h.bx.drew⟩
theorem LW.drewN (h : LW W l w) (q : Nat) : LW W l (w.drewN q) := ⟨below_drewN h.bel q, h.bx.drewN q⟩
theorem LW.alloc (h : LW W l w) (o : Obj) : LW W l (w.alloc o) := ⟨h.bel.alloc h.bel.size o, h.bx.alloc o⟩
theorem LW.new (h : LW W l w) (cs : List Value) (t : TypeId) : LW W ((w.heap.size, cs) :: l) (w.alloc (.cells cs.toArray t)) := ⟨h.bel.alloc h.bel.size _, h.bx.new cs t⟩
theorem LW.first (W : World) (cs : List Value) (t : TypeId) : LW W [(W.heap.size, cs)] (W.alloc (.cells cs.toArray t)) := LW.new ⟨Below.refl _ _, Bxs.nil _⟩ cs t
theorem LW.start (W : World) : LW W [] W := ⟨Below.refl _ _, Bxs.nil _⟩
theorem LW.tail {x : Nat × List Value} (h : LW W (x :: l) w) : LW W l w := ⟨h.bel, h.bx.tail⟩
theorem LW.aut (h : LW W l w) {a : Au} (A : Option Addr) (n c : Nat) (s : Int) (M : Option Addr) (m d : Nat) (E : Option Addr) (k g : Nat) (ha : AuR W W.heap.size A n c s M m d E k g a) : AuR w w.heap.size A n c s M m d E k g a := (ha.below h.bel (Nat.le_refl _)).more h.bel.size
theorem LW.ints (h : LW W l w) {A : Option Addr} {zs : List Int} (ha : RdI W W.heap.size A zs) : RdI w w.heap.size A zs := (ha.below h.bel (Nat.le_refl _)).more h.bel.size
/-- What reads in a world of the way reads on. -/
theorem LW.aut' {w1 : World} {l1 : List (Nat × List Value)} (h : LW w1 l1 w) {a : Au} (A : Option Addr) (n c : Nat) (s : Int) (M : Option Addr) (m d : Nat) (E : Option Addr) (k g : Nat) (ha : AuR w1 w1.heap.size A n c s M m d E k g a) : AuR w w.heap.size A n c s M m d E k g a := (ha.below h.bel (Nat.le_refl _)).more h.bel.size
theorem lw_call {f : FuncId} {args : Array Value} {v : Value} (hc : Calls Tryz.prog f args w fun e w' => e = .returned v ∧ Below w.heap.size w w') (h : LW W l w) : Calls Tryz.prog f args w fun e w' => e = .returned v ∧ LW W l w' :=
  hc.mono fun e w' hh => ⟨hh.1, h.call hh.2⟩
theorem lw_pure {f : FuncId} {args : Array Value} {v : Value} (hc : Calls Tryz.prog f args w fun e w' => e = .returned v ∧ w = w') (h : LW W l w) : Calls Tryz.prog f args w fun e w' => e = .returned v ∧ LW W l w' :=
  hc.mono fun e w' hh => ⟨hh.1, hh.2 ▸ h⟩
/-- An automaton in new memory: where it lies, and that it reads. -/
theorem lw_gives {f : FuncId} {args : Array Value} {r : Au × Int} (hc : Calls Tryz.prog f args w fun e w' => GivesA w r e w') (h : LW W l w) : Calls Tryz.prog f args w fun e w' => ∃ A n c s M m d E k g, e = .returned (.tuple #[.agg #[.slice A n c, .int .i64 s, .slice M m d, .slice E k g], .int .i64 r.2]) ∧ AuR w' w'.heap.size A n c s M m d E k g r.1 ∧ LW W l w' :=
  hc.mono fun e w' hh => by
    obtain ⟨v, e1, ⟨A, n, c, s, M, m, d, E, k, g, rfl, hr, _⟩, hb⟩ := hh
    exact ⟨A, n, c, s, M, m, d, E, k, g, e1, hr, h.call hb⟩
theorem lw_wds {f : FuncId} {args : Array Value} {r : List (List Int) × Int} (hc : Calls Tryz.prog f args w fun e w' => WdsR r e w' ∧ Below w.heap.size w w') (h : LW W l w) : Calls Tryz.prog f args w fun e w' => WdsR r e w' ∧ LW W l w' :=
  hc.mono fun e w' hh => ⟨hh.1, h.call hh.2⟩
theorem lw_zero {f : FuncId} {args : Array Value} {u : Int} (hc : Calls Tryz.prog f args w fun e w' => GivesA w (zeroA, u) e w') (h : LW W l w) : Calls Tryz.prog f args w fun e w' => ∃ A c M d E g, e = .returned (.tuple #[.agg #[.slice A 0 c, .int .i64 0, .slice M 0 d, .slice E 0 g], .int .i64 u]) ∧ LW W l w' :=
  hc.mono fun e w' hh => by
    obtain ⟨v, e1, ⟨A, n, c, s, M, m, d, E, k, g, rfl, hr, _⟩, hb⟩ := hh
    obtain rfl : n = 0 := hr.hn.symm
    obtain rfl : s = 0 := hr.st.symm
    obtain rfl : m = 0 := hr.hm.symm
    obtain rfl : k = 0 := hr.hk.symm
    exact ⟨A, c, M, d, E, g, e1, h.call hb⟩
theorem lw_wds_nil {f : FuncId} {args : Array Value} {u : Int} (hc : Calls Tryz.prog f args w fun e w' => WdsR ([], u) e w' ∧ Below w.heap.size w w') (h : LW W l w) : Calls Tryz.prog f args w fun e w' => ∃ A c, e = .returned (.tuple #[.slice A 0 c, .int .i64 u]) ∧ LW W l w' :=
  hc.mono fun e w' hh => by
    obtain ⟨⟨A, c, hs, e1, e2, _⟩, hb⟩ := hh
    obtain rfl : hs = [] := by simpa using e2
    exact ⟨A, c, e1, h.call hb⟩
end
end Go.Proofs.YtaadhpkpekmfoaaGreat

/- Layer 3: what is told of graphs that came in; Events, Make and other calls in a law's walk over graphs. -/
namespace Go.Proofs.YtaadhpkpekmfoaaGreat

section
open Go.ChangeShapes Go.WideShapes Go.ChangeAt Go.RowKit Go.Deep
section
variable {H : Type} {enc : TypeId × Value → H} {W : World} {d : DataW H} {p : List MemPlace} {v : Value} {base : Nat}
theorem open_u8 {n : Nat} {c : Value} {y : DataW H × List MemPlace} (hf : DataW.trod enc Tryz.prog W 0 (fun _ => true) true n 5 [c] = some y) : ∃ z, c = .int .u8 z ∧ 0 ≤ z ∧ z < 256 := by
  obtain ⟨q, e, _, hw⟩ := DataW.trod_int Tryz.underlying5 hf
  simp at e
  subst e
  exact ⟨q, rfl, by simp [Lit.wf, IntKind.min, IntKind.max, IntKind.signed, IntKind.bits] at hw; omega⟩
theorem drop_one {cs : List Value} {i : Nat} (h : i < cs.length) : (cs.drop i).take 1 = [cs[i]] := by
  rw [List.drop_eq_getElem_cons h]; rfl
set_option maxRecDepth 8000 in
theorem open_graph (hval : Value.okWide Tryz.prog W .any base 26 v) (h : DataW.Trod enc Tryz.prog W 0 (fun _ => true) true 26 v d p) : ∃ cs, v = .agg cs ∧ GrC cs := by
  simp only [Value.okWide, Tryz.underlying26] at hval
  obtain ⟨cs, rfl, hsz, _⟩ := hval
  have h27 : Tryz.prog.cellsOf 26 = 27 := by kernel_rfl
  have h25 : Tryz.prog.cellsOf 24 = 25 := by kernel_rfl
  have h5 : Tryz.prog.cellsOf 23 = 5 := by kernel_rfl
  have h1 : Tryz.prog.cellsOf 5 = 1 := by kernel_rfl
  rw [h27] at hsz
  obtain ⟨fuel, hf⟩ := h
  obtain ⟨ys, n', _, hx, _, hyl, hfd⟩ := DataW.trod_struct Tryz.underlying26 hf
  have hcl : cs.toList.length = 27 := by simpa using hsz
  match ys, hyl with
  | [y0, y1, y2], _ =>
    have f0 : DataW.trod enc Tryz.prog W 0 (fun _ => true) true n' 5 ((cs.toList.drop 0).take (Tryz.prog.cellsOf 5)) = some y0 := hfd 0 _ rfl
    have f1 : DataW.trod enc Tryz.prog W 0 (fun _ => true) true n' 5 ((cs.toList.drop 1).take (Tryz.prog.cellsOf 5)) = some y1 := hfd 1 _ rfl
    have f2 : DataW.trod enc Tryz.prog W 0 (fun _ => true) true n' 24 ((cs.toList.drop 2).take (Tryz.prog.cellsOf 24)) = some y2 := hfd 2 _ rfl
    rw [h1, drop_one (by omega)] at f0 f1
    rw [h25] at f2
    obtain ⟨a0, e0, b0⟩ := open_u8 f0
    obtain ⟨a1, e1, b1⟩ := open_u8 f1
    obtain ⟨xs, m, _, hx2, _, hl2, hi2⟩ := DataW.trod_array Tryz.underlying24 f2
    refine ⟨cs, rfl, hsz, fun i hi => ?_⟩
    have key : ∃ x : Int, cs.toList[i]'(by omega) = .int .u8 x ∧ 0 ≤ x ∧ x < 256 := by
      rcases Nat.lt_or_ge i 2 with h2 | h2
      · rcases Nat.lt_or_ge i 1 with h3 | h3
        · obtain rfl : i = 0 := by omega
          exact ⟨a0, e0, b0⟩
        · obtain rfl : i = 1 := by omega
          exact ⟨a1, e1, b1⟩
      · obtain ⟨q, r, hq, hr, he⟩ : ∃ q r, q < 5 ∧ r < 5 ∧ i = 2 + q * 5 + r := ⟨(i - 2) / 5, (i - 2) % 5, by omega, by omega, by omega⟩
        have g := hi2 q hq
        rw [List.getElem?_eq_getElem (by omega), h5] at g
        obtain ⟨zs, m2, _, _, _, hl3, hi3⟩ := DataW.trod_array Tryz.underlying23 g
        have g2 := hi3 r hr
        rw [List.getElem?_eq_getElem (by omega), h1, Nat.mul_one] at g2
        rw [drop_one (by simp; omega)] at g2
        obtain ⟨x, ex, bx⟩ := open_u8 g2
        refine ⟨x, ?_, bx⟩
        rw [← ex]
        simp only [List.getElem_take, List.getElem_drop]
        congr 1
        omega
    obtain ⟨x, ex, bx⟩ := key
    refine ⟨x, ?_, bx⟩
    rw [← ex]
    simp [hsz, hi]
set_option maxRecDepth 100000 in
theorem list27 (gv : Nat → Value) : ([gv 0, gv 1, gv 2, gv 3, gv 4, gv 5, gv 6, gv 7, gv 8, gv 9, gv 10, gv 11, gv 12, gv 13, gv 14, gv 15, gv 16, gv 17, gv 18, gv 19, gv 20, gv 21, gv 22, gv 23, gv 24, gv 25, gv 26] : List Value) = (List.range 27).map gv := rfl
theorem grid27 {gv : Nat → Value} : ∀ i : Nat, i < 27 → ([gv 0, gv 1, gv 2, gv 3, gv 4, gv 5, gv 6, gv 7, gv 8, gv 9, gv 10, gv 11, gv 12, gv 13, gv 14, gv 15, gv 16, gv 17, gv 18, gv 19, gv 20, gv 21, gv 22, gv 23, gv 24, gv 25, gv 26] : List Value)[i]? = some (gv i) := by
  intro i hi
  rw [list27, List.getElem?_map, List.getElem?_range hi]; rfl
set_option maxRecDepth 100000 in
theorem graph_form {cs : Array Value} (h : GrC cs) : ∃ gv : Nat → Value, cs = #[gv 0, gv 1, gv 2, gv 3, gv 4, gv 5, gv 6, gv 7, gv 8, gv 9, gv 10, gv 11, gv 12, gv 13, gv 14, gv 15, gv 16, gv 17, gv 18, gv 19, gv 20, gv 21, gv 22, gv 23, gv 24, gv 25, gv 26] := by
  refine ⟨fun i => cs[i]?.getD (Value.bool false), ?_⟩
  have e : ∀ gv : Nat → Value, #[gv 0, gv 1, gv 2, gv 3, gv 4, gv 5, gv 6, gv 7, gv 8, gv 9, gv 10, gv 11, gv 12, gv 13, gv 14, gv 15, gv 16, gv 17, gv 18, gv 19, gv 20, gv 21, gv 22, gv 23, gv 24, gv 25, gv 26] = ((List.range 27).map gv).toArray := fun gv => congrArg List.toArray (list27 gv)
  refine Eq.trans ?_ (e (fun i => cs[i]?.getD (Value.bool false))).symm
  refine Array.ext_getElem? fun i => ?_
  by_cases hi : i < 27
  · simp [h.sz, hi]
  · rw [Array.getElem?_eq_none (by rw [h.sz]; omega), Array.getElem?_eq_none (by simp; omega)]
set_option maxRecDepth 100000 in
theorem open_graph2 (hval : Value.okWide Tryz.prog W .any base 26 v) (h : DataW.Trod enc Tryz.prog W 0 (fun _ => true) true 26 v d p) : ∃ gv : Nat → Value, v = .agg #[gv 0, gv 1, gv 2, gv 3, gv 4, gv 5, gv 6, gv 7, gv 8, gv 9, gv 10, gv 11, gv 12, gv 13, gv 14, gv 15, gv 16, gv 17, gv 18, gv 19, gv 20, gv 21, gv 22, gv 23, gv 24, gv 25, gv 26] ∧ GrC #[gv 0, gv 1, gv 2, gv 3, gv 4, gv 5, gv 6, gv 7, gv 8, gv 9, gv 10, gv 11, gv 12, gv 13, gv 14, gv 15, gv 16, gv 17, gv 18, gv 19, gv 20, gv 21, gv 22, gv 23, gv 24, gv 25, gv 26] := by
  obtain ⟨cs, rfl, hg⟩ := open_graph hval h
  obtain ⟨gv, rfl⟩ := graph_form hg
  exact ⟨gv, rfl, hg⟩
theorem open_int1 {n : Nat} {c : Value} {y : DataW H × List MemPlace} (hf : DataW.trod enc Tryz.prog W 0 (fun _ => true) true n 3 [c] = some y) : ∃ z, c = .int .i64 z := by
  obtain ⟨q, e, _, _⟩ := DataW.trod_int Tryz.underlying3 hf
  simp at e
  exact ⟨q, e⟩
end
end

section
open Go.RowKit Go.Sort
theorem Bxs.range {w : World} {l : List (Nat × List Value)} (h : Bxs w l) (j : Nat) {b : Nat} {cs : List Value} (hj : l[j]? = some (b, cs)) : w.rangeAt b 0 cs := fun i v hi => by
  have := h.at j hj i hi
  simpa using this
/-- The cells of a graph's box. -/
theorem Bxs.grid {w : World} {l : List (Nat × List Value)} (h : Bxs w l) (j : Nat) {b : Nat} {gv : Nat → Value} (hj : l[j]? = some (b, [gv 0, gv 1, gv 2, gv 3, gv 4, gv 5, gv 6, gv 7, gv 8, gv 9, gv 10, gv 11, gv 12, gv 13, gv 14, gv 15, gv 16, gv 17, gv 18, gv 19, gv 20, gv 21, gv 22, gv 23, gv 24, gv 25, gv 26])) : ∀ i : Nat, i < 27 → w.cell? ⟨b, i, none⟩ = some (gv i) := fun i hi => h.at j hj i (grid27 i hi)
/-- A graph's box is there. -/
def GridOk (w : World) (b : Nat) : Prop := ∀ i : Nat, i < 27 → (w.cell? ⟨b, i, none⟩).isSome = true
theorem gridOk {w : World} {b : Nat} {gv : Nat → Value} (h : ∀ i : Nat, i < 27 → w.cell? ⟨b, i, none⟩ = some (gv i)) : GridOk w b := fun i hi => by rw [h i hi]; rfl
theorem grid_two {w : World} {b : Nat} {gv : Nat → Value} (h : ∀ i : Nat, i < 27 → w.cell? ⟨b, i, none⟩ = some (gv i)) : GridOk w b ∧ ∀ i : Nat, i < 27 → w.cell? ⟨b, i, none⟩ = some (gv i) := ⟨gridOk h, h⟩
/-- A graph's box is read. -/
theorem load_graph (w : World) (b : Nat) (h : GridOk w b) : (Instr.loadAt 26 (.pointer (some ⟨b, 0, none⟩))).run Tryz.prog w = .ok (.agg #[(w.cell? ⟨b, 0, none⟩).getD (Value.bool false), (w.cell? ⟨b, 1, none⟩).getD (Value.bool false), (w.cell? ⟨b, 2, none⟩).getD (Value.bool false), (w.cell? ⟨b, 3, none⟩).getD (Value.bool false), (w.cell? ⟨b, 4, none⟩).getD (Value.bool false), (w.cell? ⟨b, 5, none⟩).getD (Value.bool false), (w.cell? ⟨b, 6, none⟩).getD (Value.bool false), (w.cell? ⟨b, 7, none⟩).getD (Value.bool false), (w.cell? ⟨b, 8, none⟩).getD (Value.bool false), (w.cell? ⟨b, 9, none⟩).getD (Value.bool false), (w.cell? ⟨b, 10, none⟩).getD (Value.bool false), (w.cell? ⟨b, 11, none⟩).getD (Value.bool false), (w.cell? ⟨b, 12, none⟩).getD (Value.bool false), (w.cell? ⟨b, 13, none⟩).getD (Value.bool false), (w.cell? ⟨b, 14, none⟩).getD (Value.bool false), (w.cell? ⟨b, 15, none⟩).getD (Value.bool false), (w.cell? ⟨b, 16, none⟩).getD (Value.bool false), (w.cell? ⟨b, 17, none⟩).getD (Value.bool false), (w.cell? ⟨b, 18, none⟩).getD (Value.bool false), (w.cell? ⟨b, 19, none⟩).getD (Value.bool false), (w.cell? ⟨b, 20, none⟩).getD (Value.bool false), (w.cell? ⟨b, 21, none⟩).getD (Value.bool false), (w.cell? ⟨b, 22, none⟩).getD (Value.bool false), (w.cell? ⟨b, 23, none⟩).getD (Value.bool false), (w.cell? ⟨b, 24, none⟩).getD (Value.bool false), (w.cell? ⟨b, 25, none⟩).getD (Value.bool false), (w.cell? ⟨b, 26, none⟩).getD (Value.bool false)]) w := by
  obtain ⟨gv, hgv⟩ : ∃ gv : Nat → Value, gv = fun i => (w.cell? ⟨b, i, none⟩).getD (Value.bool false) := ⟨_, rfl⟩
  have e : ∀ i, (w.cell? ⟨b, i, none⟩).getD (Value.bool false) = gv i := fun i => by rw [hgv]
  simp only [e]
  refine run_loadAt_mid w b 0 26 [gv 0, gv 1, gv 2, gv 3, gv 4, gv 5, gv 6, gv 7, gv 8, gv 9, gv 10, gv 11, gv 12, gv 13, gv 14, gv 15, gv 16, gv 17, gv 18, gv 19, gv 20, gv 21, gv 22, gv 23, gv 24, gv 25, gv 26] _ (fun i v hi => ?_) Tryz.underlying26 rfl (by kernel_rfl)
  have hi27 : i < 27 := (List.getElem?_eq_some_iff.1 hi).1
  rw [grid27 i hi27] at hi
  injection hi with hi
  obtain ⟨u, hu⟩ := Option.isSome_iff_exists.1 (h i hi27)
  rw [Nat.zero_add, ← hi, ← e, hu]; rfl
def blkOf : Value → Nat
  | .pointer (some a) => a.block
  | _ => 0
theorem blkOf_ptr (b o : Nat) : blkOf (.pointer (some ⟨b, o, none⟩)) = b := rfl
theorem load_graph' (w : World) (p : Value) (hp : p = .pointer (some ⟨blkOf p, 0, none⟩)) (h : GridOk w (blkOf p)) : (Instr.loadAt 26 p).run Tryz.prog w = .ok (.agg #[(w.cell? ⟨blkOf p, 0, none⟩).getD (Value.bool false), (w.cell? ⟨blkOf p, 1, none⟩).getD (Value.bool false), (w.cell? ⟨blkOf p, 2, none⟩).getD (Value.bool false), (w.cell? ⟨blkOf p, 3, none⟩).getD (Value.bool false), (w.cell? ⟨blkOf p, 4, none⟩).getD (Value.bool false), (w.cell? ⟨blkOf p, 5, none⟩).getD (Value.bool false), (w.cell? ⟨blkOf p, 6, none⟩).getD (Value.bool false), (w.cell? ⟨blkOf p, 7, none⟩).getD (Value.bool false), (w.cell? ⟨blkOf p, 8, none⟩).getD (Value.bool false), (w.cell? ⟨blkOf p, 9, none⟩).getD (Value.bool false), (w.cell? ⟨blkOf p, 10, none⟩).getD (Value.bool false), (w.cell? ⟨blkOf p, 11, none⟩).getD (Value.bool false), (w.cell? ⟨blkOf p, 12, none⟩).getD (Value.bool false), (w.cell? ⟨blkOf p, 13, none⟩).getD (Value.bool false), (w.cell? ⟨blkOf p, 14, none⟩).getD (Value.bool false), (w.cell? ⟨blkOf p, 15, none⟩).getD (Value.bool false), (w.cell? ⟨blkOf p, 16, none⟩).getD (Value.bool false), (w.cell? ⟨blkOf p, 17, none⟩).getD (Value.bool false), (w.cell? ⟨blkOf p, 18, none⟩).getD (Value.bool false), (w.cell? ⟨blkOf p, 19, none⟩).getD (Value.bool false), (w.cell? ⟨blkOf p, 20, none⟩).getD (Value.bool false), (w.cell? ⟨blkOf p, 21, none⟩).getD (Value.bool false), (w.cell? ⟨blkOf p, 22, none⟩).getD (Value.bool false), (w.cell? ⟨blkOf p, 23, none⟩).getD (Value.bool false), (w.cell? ⟨blkOf p, 24, none⟩).getD (Value.bool false), (w.cell? ⟨blkOf p, 25, none⟩).getD (Value.bool false), (w.cell? ⟨blkOf p, 26, none⟩).getD (Value.bool false)]) w := by
  obtain ⟨b, hb⟩ : ∃ b, b = blkOf p := ⟨_, rfl⟩
  rw [← hb] at hp h ⊢
  subst hp
  exact load_graph w b h
theorem exec_load_graph (ρ : Operand → Value) (o : Oper) (w : World) (x : Operand) (ho : o.op = .load 26 x) (hp : ρ x = .pointer (some ⟨blkOf (ρ x), 0, none⟩)) (h : GridOk w (blkOf (ρ x))) : (execOp ρ o).run Tryz.prog w = .ok (.value (.agg #[(w.cell? ⟨blkOf (ρ x), 0, none⟩).getD (Value.bool false), (w.cell? ⟨blkOf (ρ x), 1, none⟩).getD (Value.bool false), (w.cell? ⟨blkOf (ρ x), 2, none⟩).getD (Value.bool false), (w.cell? ⟨blkOf (ρ x), 3, none⟩).getD (Value.bool false), (w.cell? ⟨blkOf (ρ x), 4, none⟩).getD (Value.bool false), (w.cell? ⟨blkOf (ρ x), 5, none⟩).getD (Value.bool false), (w.cell? ⟨blkOf (ρ x), 6, none⟩).getD (Value.bool false), (w.cell? ⟨blkOf (ρ x), 7, none⟩).getD (Value.bool false), (w.cell? ⟨blkOf (ρ x), 8, none⟩).getD (Value.bool false), (w.cell? ⟨blkOf (ρ x), 9, none⟩).getD (Value.bool false), (w.cell? ⟨blkOf (ρ x), 10, none⟩).getD (Value.bool false), (w.cell? ⟨blkOf (ρ x), 11, none⟩).getD (Value.bool false), (w.cell? ⟨blkOf (ρ x), 12, none⟩).getD (Value.bool false), (w.cell? ⟨blkOf (ρ x), 13, none⟩).getD (Value.bool false), (w.cell? ⟨blkOf (ρ x), 14, none⟩).getD (Value.bool false), (w.cell? ⟨blkOf (ρ x), 15, none⟩).getD (Value.bool false), (w.cell? ⟨blkOf (ρ x), 16, none⟩).getD (Value.bool false), (w.cell? ⟨blkOf (ρ x), 17, none⟩).getD (Value.bool false), (w.cell? ⟨blkOf (ρ x), 18, none⟩).getD (Value.bool false), (w.cell? ⟨blkOf (ρ x), 19, none⟩).getD (Value.bool false), (w.cell? ⟨blkOf (ρ x), 20, none⟩).getD (Value.bool false), (w.cell? ⟨blkOf (ρ x), 21, none⟩).getD (Value.bool false), (w.cell? ⟨blkOf (ρ x), 22, none⟩).getD (Value.bool false), (w.cell? ⟨blkOf (ρ x), 23, none⟩).getD (Value.bool false), (w.cell? ⟨blkOf (ρ x), 24, none⟩).getD (Value.bool false), (w.cell? ⟨blkOf (ρ x), 25, none⟩).getD (Value.bool false), (w.cell? ⟨blkOf (ρ x), 26, none⟩).getD (Value.bool false)])) w := by
  unfold execOp
  simp only [ho, Sem.run_bind, load_graph' w (ρ x) hp h, Result.andThen_ok, Sem.run_pure]
theorem exec_load_graph' (ρ : Operand → Value) (d : Option Nat) (x : Operand) (T : TypeId) (pos : String) (af) (g) (w : World) (hp : ρ x = .pointer (some ⟨blkOf (ρ x), 0, none⟩)) (h : GridOk w (blkOf (ρ x))) : (execOp ρ { dst := d, op := .load 26 x, type := T, pos := pos, after := af, guard := g }).run Tryz.prog w = .ok (.value (.agg #[(w.cell? ⟨blkOf (ρ x), 0, none⟩).getD (Value.bool false), (w.cell? ⟨blkOf (ρ x), 1, none⟩).getD (Value.bool false), (w.cell? ⟨blkOf (ρ x), 2, none⟩).getD (Value.bool false), (w.cell? ⟨blkOf (ρ x), 3, none⟩).getD (Value.bool false), (w.cell? ⟨blkOf (ρ x), 4, none⟩).getD (Value.bool false), (w.cell? ⟨blkOf (ρ x), 5, none⟩).getD (Value.bool false), (w.cell? ⟨blkOf (ρ x), 6, none⟩).getD (Value.bool false), (w.cell? ⟨blkOf (ρ x), 7, none⟩).getD (Value.bool false), (w.cell? ⟨blkOf (ρ x), 8, none⟩).getD (Value.bool false), (w.cell? ⟨blkOf (ρ x), 9, none⟩).getD (Value.bool false), (w.cell? ⟨blkOf (ρ x), 10, none⟩).getD (Value.bool false), (w.cell? ⟨blkOf (ρ x), 11, none⟩).getD (Value.bool false), (w.cell? ⟨blkOf (ρ x), 12, none⟩).getD (Value.bool false), (w.cell? ⟨blkOf (ρ x), 13, none⟩).getD (Value.bool false), (w.cell? ⟨blkOf (ρ x), 14, none⟩).getD (Value.bool false), (w.cell? ⟨blkOf (ρ x), 15, none⟩).getD (Value.bool false), (w.cell? ⟨blkOf (ρ x), 16, none⟩).getD (Value.bool false), (w.cell? ⟨blkOf (ρ x), 17, none⟩).getD (Value.bool false), (w.cell? ⟨blkOf (ρ x), 18, none⟩).getD (Value.bool false), (w.cell? ⟨blkOf (ρ x), 19, none⟩).getD (Value.bool false), (w.cell? ⟨blkOf (ρ x), 20, none⟩).getD (Value.bool false), (w.cell? ⟨blkOf (ρ x), 21, none⟩).getD (Value.bool false), (w.cell? ⟨blkOf (ρ x), 22, none⟩).getD (Value.bool false), (w.cell? ⟨blkOf (ρ x), 23, none⟩).getD (Value.bool false), (w.cell? ⟨blkOf (ρ x), 24, none⟩).getD (Value.bool false), (w.cell? ⟨blkOf (ρ x), 25, none⟩).getD (Value.bool false), (w.cell? ⟨blkOf (ρ x), 26, none⟩).getD (Value.bool false)])) w :=
  exec_load_graph ρ _ w x rfl hp h
theorem grid_alloc {w : World} {b : Nat} {gv : Nat → Value} (h : ∀ i : Nat, i < 27 → w.cell? ⟨b, i, none⟩ = some (gv i)) (hlt : b < w.heap.size) (cs : Array Value) (T : TypeId) : ∀ i : Nat, i < 27 → (w.alloc (.cells cs T)).cell? ⟨b, i, none⟩ = some (gv i) := fun i hi => (World.cell?_alloc_lt w (.cells cs T) ⟨b, i, none⟩ hlt).trans (h i hi)
theorem grid_set {w : World} {b : Nat} {gv : Nat → Value} (h : ∀ i : Nat, i < 27 → w.cell? ⟨b, i, none⟩ = some (gv i)) {X j : Nat} (hne : b ≠ X) (v : Value) : ∀ i : Nat, i < 27 → (w.setCell ⟨X, j, none⟩ v).cell? ⟨b, i, none⟩ = some (gv i) := fun i hi => (World.cell?_of_block (a := ⟨b, i, none⟩) (Below.heap_setCell w ⟨X, j, none⟩ v b hne)).trans (h i hi)
theorem grid_made {w : World} {b : Nat} {gv : Nat → Value} (h : ∀ i : Nat, i < 27 → w.cell? ⟨b, i, none⟩ = some (gv i)) (hlt : b < w.heap.size) (cs : Array Value) (T : TypeId) (v0 v1 v2 v3 : Value) : ∀ i : Nat, i < 27 → (((((w.alloc (.cells cs T)).setCell ⟨w.heap.size, 0, none⟩ v0).setCell ⟨w.heap.size, 1, none⟩ v1).setCell ⟨w.heap.size, 2, none⟩ v2).setCell ⟨w.heap.size, 3, none⟩ v3).cell? ⟨b, i, none⟩ = some (gv i) :=
  grid_set (grid_set (grid_set (grid_set (grid_alloc h hlt cs T) (by omega) _) (by omega) _) (by omega) _) (by omega) _
theorem grid_below {w w' : World} {b : Nat} {gv : Nat → Value} (h : ∀ i : Nat, i < 27 → w.cell? ⟨b, i, none⟩ = some (gv i)) (hlt : b < w.heap.size) (hb : Below w.heap.size w w') : ∀ i : Nat, i < 27 → w'.cell? ⟨b, i, none⟩ = some (gv i) := fun i hi => (hb.cell (p := ⟨b, i, none⟩) hlt).trans (h i hi)
theorem grid_below' {w w' : World} {b : Nat} {gv : Nat → Value} (hb : Below w.heap.size w w') (h : ∀ i : Nat, i < 27 → w.cell? ⟨b, i, none⟩ = some (gv i)) (hlt : b < w.heap.size) : ∀ i : Nat, i < 27 → w'.cell? ⟨b, i, none⟩ = some (gv i) := grid_below h hlt hb
theorem lt_alloc {w : World} {b : Nat} (h : b < w.heap.size) (cs : Array Value) (T : TypeId) : b < (w.alloc (.cells cs T)).heap.size := by simp; omega
theorem grid_drew {w : World} {b : Nat} {gv : Nat → Value} (h : ∀ i : Nat, i < 27 → w.cell? ⟨b, i, none⟩ = some (gv i)) : ∀ i : Nat, i < 27 → w.drew.cell? ⟨b, i, none⟩ = some (gv i) := h
theorem lt_drew {w : World} {b : Nat} (h : b < w.heap.size) : b < w.drew.heap.size := h
theorem row_drew {w : World} {g : Nat} {e : TypeId} {cs : List Value} (h : Row w g e cs) : Row w.drew g e cs := h
theorem grid_set4 {w : World} {b X : Nat} {gv : Nat → Value} (h : ∀ i : Nat, i < 27 → w.cell? ⟨b, i, none⟩ = some (gv i)) (hne : b ≠ X) (v0 v1 v2 v3 : Value) : ∀ i : Nat, i < 27 → ((((w.setCell ⟨X, 0, none⟩ v0).setCell ⟨X, 1, none⟩ v1).setCell ⟨X, 2, none⟩ v2).setCell ⟨X, 3, none⟩ v3).cell? ⟨b, i, none⟩ = some (gv i) :=
  grid_set (grid_set (grid_set (grid_set h hne _) hne _) hne _) hne _
/-- An automaton is stored into a box of its own. -/
theorem LW.put {W w : World} {l : List (Nat × List Value)} {b : Nat} {x0 x1 x2 x3 : Value} (h : LW W l w) (hr : Row w b 33 [x0, x1, x2, x3]) (hb : W.heap.size ≤ b) (hne : ∀ x ∈ l, x.1 ≠ b) (v0 v1 v2 v3 : Value) : LW W ((b, [v0, v1, v2, v3]) :: l) ((((w.setCell ⟨b, 0, none⟩ v0).setCell ⟨b, 1, none⟩ v1).setCell ⟨b, 2, none⟩ v2).setCell ⟨b, 3, none⟩ v3) := by
  refine ⟨below_set4 h.bel hb _ _ _ _, fun b' cs hm => ?_⟩
  have hR : Row ((((w.setCell ⟨b, 0, none⟩ v0).setCell ⟨b, 1, none⟩ v1).setCell ⟨b, 2, none⟩ v2).setCell ⟨b, 3, none⟩ v3) b 33 [v0, v1, v2, v3] := (((hr.set 0 v0).set 1 v1).set 2 v2).set 3 v3
  rcases List.mem_cons.1 hm with e | hm
  · injection e with e1 e2
    subst e1 e2
    exact ⟨hR.lt, fun i v hi => hR.cell i hi⟩
  · obtain ⟨h1, h2⟩ := h.bx b' cs hm
    have hn : b' ≠ b := hne _ hm
    refine ⟨by simp only [World.size_setCell]; exact h1, fun i v hi => ?_⟩
    rw [cell_set4 hn]; exact h2 i v hi
theorem AuR.put {w : World} {B b : Nat} {a : Au} (A : Option Addr) (n c : Nat) (s : Int) (M : Option Addr) (m d : Nat) (E : Option Addr) (k g : Nat) (h : AuR w B A n c s M m d E k g a) (hB : B ≤ b) (v0 v1 v2 v3 : Value) : AuR ((((w.setCell ⟨b, 0, none⟩ v0).setCell ⟨b, 1, none⟩ v1).setCell ⟨b, 2, none⟩ v2).setCell ⟨b, 3, none⟩ v3) B A n c s M m d E k g a :=
  h.keep fun b' o hlt => cell_set4 (by omega)
theorem AuF.aur {a : Au} {w : World} {base : Nat} (A : Option Addr) (n c : Nat) (s : Int) (M : Option Addr) (m d : Nat) (E : Option Addr) (k g : Nat) (h : AuF a (.agg #[.slice A n c, .int .i64 s, .slice M m d, .slice E k g]) w base) : AuR w w.heap.size A n c s M m d E k g a := by
  obtain ⟨A', n', c', s', M', m', d', E', k', g', e, hr, _⟩ := h
  simp only [Value.agg.injEq, Array.mk.injEq, List.cons.injEq, Value.slice.injEq, Value.int.injEq, and_true, true_and] at e
  obtain ⟨⟨rfl, rfl, rfl⟩, rfl, ⟨rfl, rfl, rfl⟩, rfl, rfl, rfl⟩ := e
  exact hr
theorem LW.put' {W w w1 : World} {l : List (Nat × List Value)} {b : Nat} {x0 x1 x2 x3 : Value} (h1 : LW W l w1) (h : LW W l w) (hr : Row w b 33 [x0, x1, x2, x3]) (hb : w1.heap.size ≤ b) (v0 v1 v2 v3 : Value) : LW W ((b, [v0, v1, v2, v3]) :: l) ((((w.setCell ⟨b, 0, none⟩ v0).setCell ⟨b, 1, none⟩ v1).setCell ⟨b, 2, none⟩ v2).setCell ⟨b, 3, none⟩ v3) :=
  h.put hr (Nat.le_trans h1.bel.size hb) (fun x hx => Nat.ne_of_lt (Nat.lt_of_lt_of_le (h1.bx x.1 x.2 hx).1 hb)) v0 v1 v2 v3
/-- The three ways in which the box is made: behind the calls, between them, ahead of them. -/
def PreR (W : World) (l : List (Nat × List Value)) (v : Value) (wx : World) : Prop := ∃ (bc : Nat) (al : List Int) (a : Au) (A : Option Addr) (n c : Nat) (s : Int) (M : Option Addr) (m d : Nat) (E : Option Addr) (k g : Nat), v = .pointer (some ⟨bc, 0, none⟩) ∧ Hid (LW W ((bc, [.slice A n c, .int .i64 s, .slice M m d, .slice E k g]) :: l) wx) ∧ Hid (Ev5 5 al) ∧ Hid (OkM al a) ∧ Hid (AuR wx wx.heap.size A n c s M m d E k g a)
section
variable {W w1 w2 w3 : World} {l : List (Nat × List Value)} {al : List Int} {a : Au} {A : Option Addr} {n c : Nat} {s : Int} {M : Option Addr} {m d : Nat} {E : Option Addr} {k g : Nat} {base : Nat}
theorem pre_1 (h1 : LW W l w1) (hb2 : Below w1.drew.heap.size w1.drew w2) (hb3 : Below w2.heap.size w2 w3) (hev : Ev5 5 al) (hok : OkM al a) (hau : AuF a (.agg #[.slice A n c, .int .i64 s, .slice M m d, .slice E k g]) w3 base) : PreR W l (.pointer (some ⟨w3.heap.size, 0, none⟩)) (w3.alloc (.cells #[.slice A n c, .int .i64 s, .slice M m d, .slice E k g] 33)) :=
  ⟨_, al, a, A, n, c, s, M, m, d, E, k, g, rfl, ((h1.drew.call hb2).call hb3).new [.slice A n c, .int .i64 s, .slice M m d, .slice E k g] 33, hev, hok, ((hau.aur A n c s M m d E k g).below ((Below.refl _ w3).alloc (Nat.le_refl _) _) (Nat.le_refl _)).more (by simp)⟩
theorem pre_2 {x0 x1 x2 x3 : Value} {o : Obj} (h1 : LW W l w1) (hb2 : Below w1.drew.heap.size w1.drew w2) (hb3 : Below (w2.alloc o).heap.size (w2.alloc o) w3) (hq : Row w3 w2.heap.size 33 [x0, x1, x2, x3]) (hev : Ev5 5 al) (hok : OkM al a) (hau : AuF a (.agg #[.slice A n c, .int .i64 s, .slice M m d, .slice E k g]) w3 (w2.alloc o).heap.size) : PreR W l (.pointer (some ⟨w2.heap.size, 0, none⟩)) ((((w3.setCell ⟨w2.heap.size, 0, none⟩ (.slice A n c)).setCell ⟨w2.heap.size, 1, none⟩ (.int .i64 s)).setCell ⟨w2.heap.size, 2, none⟩ (.slice M m d)).setCell ⟨w2.heap.size, 3, none⟩ (.slice E k g)) :=
  ⟨_, al, a, A, n, c, s, M, m, d, E, k, g, rfl, LW.put' h1 (((h1.drew.call hb2).alloc o).call hb3) hq hb2.size _ _ _ _, hev, hok, AuF.aur A n c s M m d E k g (hau.set4 (by simp) _ _ _ _)⟩
theorem pre_3 {x0 x1 x2 x3 : Value} {o : Obj} (h1 : LW W l w1) (hb2 : Below (w1.alloc o).drew.heap.size (w1.alloc o).drew w2) (hb3 : Below w2.heap.size w2 w3) (hq : Row w3 w1.heap.size 33 [x0, x1, x2, x3]) (hev : Ev5 5 al) (hok : OkM al a) (hau : AuF a (.agg #[.slice A n c, .int .i64 s, .slice M m d, .slice E k g]) w3 w2.heap.size) : PreR W l (.pointer (some ⟨w1.heap.size, 0, none⟩)) ((((w3.setCell ⟨w1.heap.size, 0, none⟩ (.slice A n c)).setCell ⟨w1.heap.size, 1, none⟩ (.int .i64 s)).setCell ⟨w1.heap.size, 2, none⟩ (.slice M m d)).setCell ⟨w1.heap.size, 3, none⟩ (.slice E k g)) :=
  ⟨_, al, a, A, n, c, s, M, m, d, E, k, g, rfl, LW.put' h1 (((h1.alloc o).drew.call hb2).call hb3) hq (Nat.le_refl _) _ _ _ _, hev, hok, AuF.aur A n c s M m d E k g (hau.set4 (by have := hb2.size; simp at this; omega) _ _ _ _)⟩
end
section
variable {W w : World} {l : List (Nat × List Value)}
theorem lw_events {x : Int} (hx : (Lit.int .u8 x).wf = true) (h : LW W l w) : Calls Tryz.prog 13 #[.int .u8 x] w fun e w' => ∃ zs A n c, zs.length = n ∧ e = .returned (.slice A n c) ∧ Ev5 5 zs ∧ RdI w' w'.heap.size A zs ∧ n ≤ c ∧ LW W l w' :=
  (events_any x w hx).mono fun e w' hh => by
    obtain ⟨zs, hev, A, c, e1, hr, hb, hc, _⟩ := hh
    exact ⟨zs, A, _, c, rfl, e1, hev, hr, hc, h.call hb⟩
theorem lw_make {A0 : Option Addr} {n0 c0 : Nat} {al : List Int} {cs : Array Value} (hx : RdI w w.heap.size A0 al) (hn : al.length = n0) (hc : n0 ≤ c0) (hev : Ev5 5 al) (hg : GrC cs) (h : LW W l w) : Calls Tryz.prog 12 #[.slice A0 n0 c0, .agg cs] w fun e w' => ∃ a A n c s M m d E k g, e = .returned (.agg #[.slice A n c, .int .i64 s, .slice M m d, .slice E k g]) ∧ OkM al a ∧ AuR w' w'.heap.size A n c s M m d E k g a ∧ LW W l w' :=
  (make_any A0 n0 c0 w.heap.size al cs w hx (Nat.le_refl _) hn hc hev hg).mono fun e w' hh => by
    obtain ⟨a, v, hok, e1, ⟨A, n, c, s, M, m, d, E, k, g, rfl, hr, _⟩, hb⟩ := hh
    exact ⟨a, A, n, c, s, M, m, d, E, k, g, e1, hok, hr, h.call hb⟩
theorem lw_list' {f : FuncId} {args : Array Value} {r : List Int × Int} (hc : Calls Tryz.prog f args w fun e w' => GivesP w r e w') (h : LW W l w) : Calls Tryz.prog f args w fun e w' => ∃ A n c, r.1.length = n ∧ e = .returned (.tuple #[.slice A n c, .int .i64 r.2]) ∧ RdI w' w'.heap.size A r.1 ∧ LW W l w' :=
  hc.mono fun e w' hh => by
    obtain ⟨A, c, e1, hr, hb, _⟩ := hh
    exact ⟨A, _, c, rfl, e1, hr, h.call hb⟩
theorem lw_givesC {f : FuncId} {args : Array Value} {zs : List Int} (hc : Calls Tryz.prog f args w fun e w' => GivesC w zs e w') (h : LW W l w) : Calls Tryz.prog f args w fun e w' => ∃ A n c, zs.length = n ∧ e = .returned (.slice A n c) ∧ RdI w' w'.heap.size A zs ∧ LW W l w' :=
  hc.mono fun e w' hh => by
    obtain ⟨A, c, e1, hr, hb, _⟩ := hh
    exact ⟨A, _, c, rfl, e1, hr, h.call hb⟩
end
theorem stepR_out {a : Au} {q ev : Int} (hc : chkE a = 0) (hq : inSt a.st q = false) : stepR a q ev = (0, false, 2) := by
  simp [stepR, plE, hc, hq]
theorem stepR_in {a : Au} {q ev : Int} (hc : chkE a = 0) (hq : inSt a.st q = true) (he : ev ∈ a.al) : stepR a q ev = ((stepO a q ev).getD 0, (stepO a q ev).isSome, 0) := by
  simp [stepR, plE, hc, hq, he]
theorem stepR_un {a : Au} {q ev : Int} (hc : chkE a = 0) (hq : inSt a.st q = true) (he : ev ∉ a.al) : stepR a q ev = (0, false, 9) := by
  simp [stepR, plE, hc, hq, he]
theorem enR_out {a : Au} {q : Int} (hc : chkE a = 0) (hq : inSt a.st q = false) : enR a q = ([], 2) := by
  simp [enR, plE, hc, hq]
theorem enR_in {a : Au} {q : Int} (hr : RightW a) (hc : chkE a = 0) (hq : inSt a.st q = true) : enR a q = (enI a q, 0) := by
  simp [enR, plE, hc, hq, en_eq hr]
/-- The way goes on: the boxes are as they were, and so is all memory. -/
structure KW (W : World) (l : List (Nat × List Value)) (w w' : World) : Prop where
  lw : LW W l w'
  bel : Below w.heap.size w w'
theorem KW.of {W w w' : World} {l : List (Nat × List Value)} (h : LW W l w) (hb : Below w.heap.size w w') : KW W l w w' := ⟨h.call hb, hb⟩
theorem KW.ints {W w w' : World} {l : List (Nat × List Value)} (h : KW W l w w') {A : Option Addr} {zs : List Int} (ha : RdI w w.heap.size A zs) : RdI w' w'.heap.size A zs := (ha.below h.bel (Nat.le_refl _)).more h.bel.size
theorem KW.aut {W w w' : World} {l : List (Nat × List Value)} (h : KW W l w w') {a : Au} {A : Option Addr} {n c : Nat} {s : Int} {M : Option Addr} {m d : Nat} {E : Option Addr} {k g : Nat} (ha : AuR w w.heap.size A n c s M m d E k g a) : AuR w' w'.heap.size A n c s M m d E k g a := (ha.below h.bel (Nat.le_refl _)).more h.bel.size
theorem kw_call {f : FuncId} {args : Array Value} {v : Value} {W w : World} {l : List (Nat × List Value)} (hc : Calls Tryz.prog f args w fun e w' => e = .returned v ∧ Below w.heap.size w w') (h : LW W l w) : Calls Tryz.prog f args w fun e w' => e = .returned v ∧ KW W l w w' :=
  hc.mono fun e w' hh => ⟨hh.1, KW.of h hh.2⟩
section
variable {W w : World} {l : List (Nat × List Value)} {A : Option Addr} {n c : Nat} {s : Int} {M : Option Addr} {m d : Nat} {E : Option Addr} {k g : Nat} {a : Au}
theorem k_same {A1 A2 : Option Addr} {n1 c1 n2 c2 : Nat} {xs ys : List Int} {r : Bool} (hr : decide (xs = ys) = r) (h1 : RdI w w.heap.size A1 xs) (h2 : RdI w w.heap.size A2 ys) (l1 : xs.length = n1) (l2 : ys.length = n2) (hb : n1 ≤ 100000) (hb2 : n2 ≤ 100000) (h : LW W l w) : Calls Tryz.prog 21 #[.slice A1 n1 c1, .slice A2 n2 c2] w fun e w' => e = .returned (.bool r) ∧ KW W l w w' :=
  (sameInts_any A1 A2 n1 n2 c1 c2 w.heap.size w.heap.size xs ys w h1 h2 l1 l2 (by omega) (by omega)).mono fun e w' hh => by
    obtain ⟨e1, q, rfl⟩ := hh
    exact ⟨by rw [e1, hr], KW.of h (below_drewN (Below.refl _ _) q)⟩
theorem k_has {A1 : Option Addr} {n1 c1 : Nat} {xs : List Int} {x : Int} {r : Bool} (hr : decide (x ∈ xs) = r) (h1 : RdI w w.heap.size A1 xs) (l1 : xs.length = n1) (hb : n1 ≤ 100000) (h : LW W l w) : Calls Tryz.prog 24 #[.slice A1 n1 c1, .int .i64 x] w fun e w' => e = .returned (.bool r) ∧ KW W l w w' :=
  (lHas_any A1 n1 c1 w.heap.size xs x w h1 l1 (by omega)).mono fun e w' hh => by
    obtain ⟨e1, rfl⟩ := hh
    exact ⟨by rw [e1, hr], KW.of h (Below.refl _ _)⟩
theorem k_rstep {q ev t : Int} (ht : stepI a q ev = t) (ha : AuR w w.heap.size A n c s M m d E k g a) (h : LW W l w) : Calls Tryz.prog 71 #[.agg #[.slice A n c, .int .i64 s, .slice M m d, .slice E k g], .int .i64 q, .int .i64 ev] w fun e w' => e = .returned (.int .i64 t) ∧ KW W l w w' := by
  have := kw_call (rStep_any A n c s M m d E k g a q ev w.heap.size w ha (Nat.le_refl _)) h
  rw [ht] at this; exact this
end
theorem succ_en_len {a : Au} (h : RightW a) (q : Int) : (enI a q).length ≤ 32 := Nat.le_trans (List.length_filter_le _ _) (al_len h)
end

section
open Go.RowKit Go.Sort
section
variable {W w : World} {l : List (Nat × List Value)} {A : Option Addr} {n c : Nat} {s : Int} {M : Option Addr} {m d : Nat} {E : Option Addr} {k g : Nat} {a : Au} {A1 : Option Addr} {n1 c1 : Nat} {ws : List Int}
theorem k_gen {b : Bool} (hc : chkE a = 0) (hb : genB a ws = b) (ha : AuR w w.heap.size A n c s M m d E k g a) (hw : RdI w w.heap.size A1 ws) (hl : ws.length = n1) (hn : n1 ≤ 100000) (h : LW W l w) : Calls Tryz.prog 36 #[.agg #[.slice A n c, .int .i64 s, .slice M m d, .slice E k g], .slice A1 n1 c1] w fun e w' => e = .returned (.tuple #[.bool b, .int .i64 0]) ∧ KW W l w w' := by
  have := kw_call (mGenerates_any A n c s M m d E k g a A1 n1 c1 ws w ha hw hl hn) h
  rw [show genR a ws = (b, 0) by simp [genR, hc, hb]] at this; exact this
theorem k_acc {b : Bool} (hc : chkE a = 0) (hb : accB a ws = b) (ha : AuR w w.heap.size A n c s M m d E k g a) (hw : RdI w w.heap.size A1 ws) (hl : ws.length = n1) (hn : n1 ≤ 100000) (h : LW W l w) : Calls Tryz.prog 38 #[.agg #[.slice A n c, .int .i64 s, .slice M m d, .slice E k g], .slice A1 n1 c1] w fun e w' => e = .returned (.tuple #[.bool b, .int .i64 0]) ∧ KW W l w w' := by
  have := kw_call (mAccepts_any A n c s M m d E k g a A1 n1 c1 ws w ha hw hl hn) h
  rw [show accR a ws = (b, 0) by simp [accR, hc, hb]] at this; exact this
theorem k_run {q x y er : Int} (hs : runR a q ws = (x, y, er)) (ha : AuR w w.heap.size A n c s M m d E k g a) (hw : RdI w w.heap.size A1 ws) (hl : ws.length = n1) (hn : n1 ≤ 100000) (h : LW W l w) : Calls Tryz.prog 37 #[.agg #[.slice A n c, .int .i64 s, .slice M m d, .slice E k g], .int .i64 q, .slice A1 n1 c1] w fun e w' => e = .returned (.tuple #[.int .i64 x, .int .i64 y, .int .i64 er]) ∧ KW W l w w' := by
  have := kw_call (mRun_any A n c s M m d E k g a q A1 n1 c1 ws w ha hw hl hn) h
  rw [hs] at this; exact this
end
theorem runR_out {a : Au} {q : Int} {ws : List Int} (hc : chkE a = 0) (hq : inSt a.st q = false) : runR a q ws = (0, 0, 2) := by simp [runR, plE, hc, hq]
theorem runR_in {a : Au} {q : Int} {ws : List Int} (hc : chkE a = 0) (hq : inSt a.st q = true) (hi : inB a.al ws = true) : runR a q ws = ((runE a q ws).1, ((runE a q ws).2 : Int), 0) := by simp [runR, plE, hc, hq, hi]
theorem runR_un {a : Au} {q : Int} {ws : List Int} (hc : chkE a = 0) (hq : inSt a.st q = true) (hi : inB a.al ws = false) : runR a q ws = (0, 0, 9) := by simp [runR, plE, hc, hq, hi]
theorem in_at {zs ws : List Int} {k : Nat} (h : inB zs ws = true) (hk : k < ws.length) : decide (ws.getD k 0 ∈ zs) = true := by
  unfold inB at h
  exact List.all_eq_true.1 h _ (getD_mem hk)
end
end Go.Proofs.YtaadhpkpekmfoaaGreat

/- Layer 3: SameWords of the law; lists of words on a law's way. -/
namespace Go.Proofs.YtaadhpkpekmfoaaGreat
open Go.RowKit Go.Sort

theorem RdL.dr {w : World} {B : Nat} {A : Option Addr} {hs : List Hd} (h : RdL w B A hs) (q : Nat) : RdL (w.drewN q) B A hs := h
theorem take_w {zs : List (List Int)} {k : Nat} (h : k < zs.length) : zs.take (k + 1) = zs.take k ++ [zs.getD k []] := by
  rw [List.take_add_one, List.getElem?_eq_getElem h]; simp [List.getD, List.getElem?_eq_getElem h]
theorem take_succ_w {zs ys : List (List Int)} {k : Nat} (hx : k < zs.length) (hy : k < ys.length) (h : zs.take k = ys.take k) (he : zs.getD k [] = ys.getD k []) : zs.take (k + 1) = ys.take (k + 1) := by
  rw [take_w hx, take_w hy, h, he]
theorem ne_of_getD_w {zs ys : List (List Int)} {k : Nat} (he : ¬ zs.getD k [] = ys.getD k []) : decide (zs = ys) = false := by
  simp only [decide_eq_false_iff_not]; rintro rfl; exact he rfl
theorem eq_of_take_w {zs ys : List (List Int)} {n : Nat} (h1 : zs.length = n) (h2 : ys.length = n) (h : zs.take n = ys.take n) : decide (zs = ys) = true := by
  rw [List.take_of_length_le (by omega), List.take_of_length_le (by omega)] at h
  simpa using h
theorem hd_getD {hs : List Hd} {k : Nat} {x : Hd} (h : hs[k]? = some x) : (hs.map Hd.z).getD k [] = x.z := by
  simp [List.getD, List.getElem?_map, h]
/-- All words are short. -/
def ShW (hs : List Hd) : Prop := ∀ x ∈ hs, x.z.length ≤ 100000

set_option maxHeartbeats 2000000 in
theorem sameWords_any (A B : Option Addr) (n m c d : Nat) (hs gs : List Hd) (w : World) (hx : RdL w w.heap.size A hs) (hy : RdL w w.heap.size B gs) (hn : hs.length = n) (hm : gs.length = m) (hb : n ≤ 100000) (hb' : m ≤ 100000) (lx : ShW hs) (ly : ShW gs) :
    Calls Tryz.prog 17 #[.slice A n c, .slice B m d] w fun e w' => e = .returned (.bool (decide (hs.map Hd.z = gs.map Hd.z))) ∧ ∃ q, w' = w.drewN q := by
  by_cases hnm : n = m
  · subst hnm
    obtain ⟨zs, hzs⟩ : ∃ zs, zs = hs.map Hd.z := ⟨_, rfl⟩
    obtain ⟨ys, hys⟩ : ∃ ys, ys = gs.map Hd.z := ⟨_, rfl⟩
    have HX := Lib.hid hx
    have HY := Lib.hid hy
    have HN := Lib.hid hn
    have HM := Lib.hid hm
    have HLX := Lib.hid lx
    have HLY := Lib.hid ly
    have HZS := Lib.hid hzs
    have HYS := Lib.hid hys
    have HZN := Lib.hid (show zs.length = n by rw [hzs, List.length_map, hn])
    have HYN := Lib.hid (show ys.length = n by rw [hys, List.length_map, hm])
    rw [← hzs, ← hys]
    clear hn hm hx hy lx ly hzs hys
    go_enter Tryz.func17, Tryz.ntmps17
    go_wp2_with fail
    go_loopw [5] (fun i wr => ∃ k : Nat, k ≤ n ∧ i = .int .i64 k ∧ Hid (zs.take k = ys.take k) ∧ Hid (∃ q, wr = w.drewN q)) (fun i _ => n - (intOf i).toNat)
    case atStart => exact ⟨0, Nat.zero_le _, rfl, rfl, 0, rfl⟩
    case round =>
      obtain ⟨k, hk, rfl, ht, HQ⟩ := hrel
      by_cases hlt : k < n
      · have hz : k < zs.length := by rw [HZN.out]; exact hlt
        have hy : k < ys.length := by rw [HYN.out]; exact hlt
        have r1 : RdL wr wr.heap.size A hs := by obtain ⟨q, e⟩ := HQ.out; subst e; exact HX.out
        have r2 : RdL wr wr.heap.size B gs := by obtain ⟨q, e⟩ := HQ.out; subst e; exact HY.out
        obtain ⟨b1, o1, rfl, hb1, hc1⟩ := r1 (by rw [HN.out]; omega)
        obtain ⟨b2, o2, rfl, hb2, hc2⟩ := r2 (by rw [HM.out]; omega)
        obtain ⟨x, hxk⟩ : ∃ x, hs[k]? = some x := ⟨_, List.getElem?_eq_getElem (by rw [HN.out]; exact hlt)⟩
        obtain ⟨y, hyk⟩ : ∃ y, gs[k]? = some y := ⟨_, List.getElem?_eq_getElem (by rw [HM.out]; exact hlt)⟩
        obtain ⟨c1, rd1, _, _⟩ := hc1 k x hxk
        obtain ⟨c2, rd2, _, _⟩ := hc2 k y hyk
        have hl1 := HLX.out x (List.mem_of_getElem? hxk)
        have hl2 := HLY.out y (List.mem_of_getElem? hyk)
        have e1 := hd_getD hxk
        have e2 := hd_getD hyk
        rw [← HZS.out] at e1
        rw [← HYS.out] at e2
        obtain ⟨C1, d1, z1⟩ := x
        obtain ⟨C2, d2, z2⟩ := y
        simp only [Hd.enc] at c1 c2
        have C := Lib.hid (fun q => sameInts_any C1 C2 _ _ d1 d2 _ _ z1 z2 (wr.drewN q) (rd1.dr q) (rd2.dr q) rfl rfl (by simp only at hl1; omega) (by simp only at hl2; omega))
        have k4 : (k : Int) < (n : Int) := by omega
        clear hc1 hc2 rd1 rd2 r1 r2 hxk hyk hl1 hl2
        by_cases he : z1 = z2
        · have hs' := Lib.hid (take_succ_w hz hy ht.out (by rw [e1, e2]; exact he))
          have hd : decide (z1 = z2) = true := decide_eq_true he
          rw [hd] at C
          clear he hd ht hz hy e1 e2
          generalize z1.length = n1 at *
          generalize z2.length = n2 at *
          go_wp2_with fail
          go_quiet ((go_at_call 21; with_reducible exact Calls.quiet_of (C.out _)))
          go_wp2_with fail
          go_roundw
          case rel => exact ⟨k + 1, by omega, by go_num, hs', by obtain ⟨q, e⟩ := HQ.out; subst e; exact ⟨_, World.drewN_drewN _ _ _⟩⟩
          case measure => simp [intOf]; omega
        · have hs' := Lib.hid (ne_of_getD_w (zs := zs) (ys := ys) (k := k) (by rw [e1, e2]; exact he))
          have hd : decide (z1 = z2) = false := decide_eq_false he
          rw [hd] at C
          clear he hd ht hz hy e1 e2
          generalize z1.length = n1 at *
          generalize z2.length = n2 at *
          go_wp2_with fail
          go_quiet ((go_at_call 21; with_reducible exact Calls.quiet_of (C.out _)))
          go_wp2_with fail
          go_ret
          exact ⟨ret_bool hs'.out.symm, by obtain ⟨q, e⟩ := HQ.out; subst e; exact ⟨_, World.drewN_drewN _ _ _⟩⟩
      · have hkn : k = n := by omega
        have hf := Lib.hid (by have := ht.out; rw [hkn] at this; exact eq_of_take_w HZN.out HYN.out this)
        clear hkn ht
        go_wp2_with fail
        go_ret
        exact ⟨ret_bool hf.out.symm, HQ.out⟩
  · have hne : ((n : Int) != (m : Int)) = true := by simp; omega
    have hf := Lib.hid (show decide (hs.map Hd.z = gs.map Hd.z) = false by
      simp only [decide_eq_false_iff_not]; intro e
      have := congrArg List.length e
      simp only [List.length_map] at this; omega)
    rw [hf.out]
    clear hn hm hx hy lx ly
    go_enter Tryz.func17, Tryz.ntmps17
    go_wp2_with fail
    go_ret
    exact ⟨rfl, 0, rfl⟩

theorem rowL_rd {w : World} {base : Nat} {v : Value} {hs : List Hd} (h : w.ownsRow base 27 1 v hs.length (hs.map Hd.enc)) (ho : ∀ x ∈ hs, RdI w w.heap.size x.A x.z ∧ x.z.length ≤ x.c ∧ x.c ≤ 9223372036854775807) : ∃ A c, v = .slice A hs.length c ∧ RdL w w.heap.size A hs := by
  rcases h.2 with ⟨rfl, h0⟩ | ⟨g, cap, cur, rfl, hg, hh, hn, hcap, hsz, htake⟩
  · have : hs = [] := List.eq_nil_of_length_eq_zero h0
    subst this
    exact ⟨none, 0, rfl, RdL.nil _ _ _⟩
  · refine ⟨some ⟨g, 0, none⟩, cap, rfl, fun _ => ⟨g, 0, rfl, (h.lt g rfl).2, fun j x hj => ?_⟩⟩
    have hl := (List.getElem?_eq_some_iff.1 hj).1
    exact ⟨by rw [Nat.zero_add, World.ownsRow.cellAt (cap := cap) h j (by omega), List.getElem?_map, hj]; rfl, ho x (List.mem_of_getElem? hj)⟩
theorem RdL.all {w : World} {B : Nat} {A : Option Addr} {hs : List Hd} (h : RdL w B A hs) : ∀ x ∈ hs, RdI w B x.A x.z ∧ x.z.length ≤ x.c ∧ x.c ≤ 9223372036854775807 := fun x hx => by
  obtain ⟨j, hj⟩ := List.mem_iff_getElem?.1 hx
  have hl := (List.getElem?_eq_some_iff.1 hj).1
  obtain ⟨_, _, _, _, hc⟩ := h (by omega)
  exact (hc j x hj).2
/-- The words have at most so many events. -/
theorem genF_short {a : Au} {m : Nat} : ∀ (f i : Nat) (L R : List (List Int × Int)), (∀ p ∈ L, p.1.length ≤ m) → genF a (m : Int) f i L = some R → ∀ p ∈ R, p.1.length ≤ m
  | 0, i, L, R, _, h => by rw [genF] at h; cases h
  | f + 1, i, L, R, hL, h => by
    rw [genF] at h
    split at h
    · rename_i hc
      split at h
      · cases h
      · refine genF_short f (i + 1) _ R (fun p hp => ?_) h
        rcases List.mem_append.1 hp with hp | hp
        · exact hL p hp
        · unfold extW at hp
          obtain ⟨y, _, rfl⟩ := List.mem_map.1 hp
          rw [List.length_append, List.length_singleton]; omega
    · injection h with h; subst h; exact hL
theorem genO_short {a : Au} {m : Nat} {R : List (List Int × Int)} (h : genO a (m : Int) = some R) : ∀ p ∈ R, p.1.length ≤ m := by
  unfold genO at h
  split at h
  · injection h with h; subst h; intro p hp; simp at hp
  · exact genF_short _ _ _ _ (fun p hp => by rw [List.mem_singleton] at hp; subst hp; simp) h
theorem shW_of {hs : List Hd} {R : List (List Int × Int)} (h : hs.map Hd.z = R.map Prod.fst) (hR : ∀ p ∈ R, p.1.length ≤ 100000) : ShW hs := fun x hx => by
  have : x.z ∈ hs.map Hd.z := List.mem_map.2 ⟨x, hx, rfl⟩
  rw [h] at this
  obtain ⟨p, hp, e⟩ := List.mem_map.1 this
  rw [← e]; exact hR p hp
/-- The words of a list that are accepted. -/
def accW (a : Au) (hs : List Hd) : List Hd := hs.filter fun x => accB a x.z
theorem accW_map (a : Au) (hs : List Hd) : (accW a hs).map Hd.z = (hs.map Hd.z).filter fun z => accB a z := by
  unfold accW; rw [List.filter_map]; rfl
theorem accW_step {a : Au} {hs : List Hd} {t : Nat} {x : Hd} (h : hs[t]? = some x) : accW a (hs.take (t + 1)) = accW a (hs.take t) ++ (if accB a x.z = true then [x] else []) := by
  unfold accW
  rw [List.take_add_one, h, List.filter_append]
  cases hb : accB a x.z <;> simp [hb]
theorem accW_len (a : Au) (hs : List Hd) (t : Nat) : (accW a (hs.take t)).length ≤ t := by
  unfold accW
  exact Nat.le_trans (List.length_filter_le _ _) (List.length_take_le _ _)
theorem accW_mem {a : Au} {hs : List Hd} {x : Hd} (h : x ∈ accW a hs) : x ∈ hs := (List.mem_filter.1 h).1
section
variable {W w w' : World} {l : List (Nat × List Value)} {A : Option Addr} {n c : Nat} {s : Int} {M : Option Addr} {m d : Nat} {E : Option Addr} {k g : Nat} {a : Au}
theorem KW.wds (h : KW W l w w') {A : Option Addr} {hs : List Hd} (ha : RdL w w.heap.size A hs) : RdL w' w'.heap.size A hs := (ha.below h.bel (Nat.le_refl _)).more h.bel.size
theorem k_words {most u : Int} {mk : Bool} {zs : List (List Int)} (hs : wordsR a most mk = (zs, u)) (ha : AuR w w.heap.size A n c s M m d E k g a) (h : LW W l w) : Calls Tryz.prog 33 #[.agg #[.slice A n c, .int .i64 s, .slice M m d, .slice E k g], .int .i64 most, .bool mk] w fun e w' => ∃ A1 n1 c1 hs, e = .returned (.tuple #[.slice A1 n1 c1, .int .i64 u]) ∧ hs.length = n1 ∧ hs.map Hd.z = zs ∧ RdL w' w'.heap.size A1 hs ∧ n1 ≤ 1024 ∧ KW W l w w' :=
  (mWords_any A n c s M m d E k g a most mk w ha).mono fun e w' hh => by
    obtain ⟨⟨A1, c1, gs, e1, e2, e3, _, _, e4⟩, hb⟩ := hh
    rw [hs] at e1 e2
    exact ⟨A1, _, c1, gs, e1, rfl, e2, e3, e4, KW.of h hb⟩
theorem k_samew {A1 A2 : Option Addr} {n1 c1 n2 c2 : Nat} {hs gs : List Hd} {r : Bool} (hr : decide (hs.map Hd.z = gs.map Hd.z) = r) (h1 : RdL w w.heap.size A1 hs) (h2 : RdL w w.heap.size A2 gs) (l1 : hs.length = n1) (l2 : gs.length = n2) (hb : n1 ≤ 100000) (hb2 : n2 ≤ 100000) (s1 : ShW hs) (s2 : ShW gs) (h : LW W l w) : Calls Tryz.prog 17 #[.slice A1 n1 c1, .slice A2 n2 c2] w fun e w' => e = .returned (.bool r) ∧ KW W l w w' :=
  (sameWords_any A1 A2 n1 n2 c1 c2 hs gs w h1 h2 l1 l2 hb hb2 s1 s2).mono fun e w' hh => by
    obtain ⟨e1, q, rfl⟩ := hh
    exact ⟨by rw [e1, hr], KW.of h (below_drewN (Below.refl _ _) q)⟩
end
theorem wordsR_out {a : Au} {most : Int} {mk : Bool} (hc : chkE a = 0) (h : most < 0 ∨ 4096 < most) : wordsR a most mk = ([], 2) := by rw [wordsR, if_neg (by rw [hc]; simp), if_pos h]
theorem wordsR_in {a : Au} {most : Int} {mk : Bool} {R : List (List Int × Int)} (hc : chkE a = 0) (h : ¬ (most < 0 ∨ 4096 < most)) (hR : genO a most = some R) : wordsR a most mk = (selL a.mr mk R, 0) := by rw [wordsR, if_neg (by rw [hc]; simp), if_neg h, hR]
end Go.Proofs.YtaadhpkpekmfoaaGreat

/- Layer 7: the examples of the chapter hold. -/
namespace Go.Proofs.YtaadhpkpekmfoaaGreat
open Go.RowKit Go.Sort

theorem row_rdG7 {w : World} {g : Nat} {l : List Ed} (h : Row w g 79 (encE l)) : RdG w w.heap.size (some ⟨g, 0, none⟩) l := fun _ =>
  ⟨g, 0, rfl, h.lt, fun j x hj => by
    obtain ⟨e0, e1, e2⟩ := encE_at l j x hj
    rw [Nat.zero_add]
    exact ⟨h.cell _ e0, h.cell _ e1, h.cell _ e2⟩⟩
theorem au_rows7 {w : World} {b1 b2 b3 n m k : Nat} {s : Int} {a : Au} (h1 : Row w b1 3 (a.al.map (Value.int .i64))) (h2 : Row w b2 3 (a.mr.map (Value.int .i64))) (h3 : Row w b3 79 (encE a.ed)) (hn : a.al.length = n) (hm : a.mr.length = m) (hk : a.ed.length = k) (hs : a.st = s) (bn : n ≤ 1000) (bm : m ≤ 1000) (bk : k ≤ 1000) :
    AuR w w.heap.size (some ⟨b1, 0, none⟩) n n s (some ⟨b2, 0, none⟩) m m (some ⟨b3, 0, none⟩) k k a :=
  { al := h1.rd, mr := h2.rd, ed := row_rdG7 h3, hn := hn, hm := hm, hk := hk, st := hs, cn := by omega, cm := by omega, ck := by omega, bn := by omega, bm := by omega, bk := by omega }
set_option maxHeartbeats 800000 in
theorem example7_any (w : World) : Calls Tryz.prog 39 #[] w fun e w' => ∃ A n c s M m d E k g, e = .returned (.agg #[.slice A n c, .int .i64 s, .slice M m d, .slice E k g]) ∧ AuR w' w'.heap.size A n c s M m d E k g exA7 ∧ Below w.heap.size w w' := by
  go_enter Tryz.func39, Tryz.ntmps39
  go_wp2_with fail
  (try simp only [Exit.inBlock, Exit.then])
  refine bodyPost_ret (v := .agg #[.slice (some ⟨w.heap.size + 1, 0, none⟩) 2 2, .int .i64 3, .slice (some ⟨w.heap.size + 1 + 1, 0, none⟩) 1 1, .slice (some ⟨w.heap.size + 1 + 1 + 1, 0, none⟩) 4 4]) ?_ rfl ⟨_, _, _, _, _, _, _, _, _, _, rfl, ?_, ?_⟩
  · rw [results_cell1 rfl]
    go_simp
  · refine au_rows7 ?_ ?_ ?_ rfl rfl rfl rfl (by omega) (by omega) (by omega)
    · exact ((Row.newE _ [.int .i64 0, .int .i64 1] 3 (by simp)).alloc _).alloc _
    · exact (Row.newE _ [.int .i64 2] 3 (by simp)).alloc _
    · exact Row.newE _ (encE exA7.ed) 79 (by simp)
  · exact ((((Below.refl _ w).alloc (Nat.le_refl _) _).alloc (by simp) _).alloc (by simp; omega) _).alloc (by simp; omega) _
set_option maxHeartbeats 8000000 in
set_option maxRecDepth 100000 in
/-- known() holds. -/
theorem known7_any (w : World) : Calls Tryz.prog 10 #[] w fun e w' => e = .returned (.bool true) ∧ Below w.heap.size w w' := by
  have HE := Lib.hid (example7_any w)
  go_enter Tryz.func10, Tryz.ntmps10
  go_wp2_with fail
  refine HE.out.mono ?_
  rintro e w1 ⟨A, n, c, s, M, m, d, E, k, g, rfl, hA, hb1⟩
  have HB1 := Lib.hid hb1
  have HA1 := Lib.hid hA
  have hbx := (((Below.refl w1.heap.size w1).alloc (by simp; try omega) (.cells #[.slice A n c, .int .i64 s, .slice M m d, .slice E k g] 33)).alloc (by simp; try omega) (.cells #[.int .i64 1] 3))
  have HBX := Lib.hid hbx
  have HX1 := Lib.hid (show Row ((w1.alloc (.cells #[.slice A n c, .int .i64 s, .slice M m d, .slice E k g] 33)).alloc (.cells #[.int .i64 1] 3)) (w1.heap.size) 33 [.slice A n c, .int .i64 s, .slice M m d, .slice E k g] from ((Row.newE w1 [.slice A n c, .int .i64 s, .slice M m d, .slice E k g] 33 (by simp; try rfl)).alloc (.cells #[.int .i64 1] 3)))
  have HO1 := Lib.hid (show Row ((w1.alloc (.cells #[.slice A n c, .int .i64 s, .slice M m d, .slice E k g] 33)).alloc (.cells #[.int .i64 1] 3)) (w1.heap.size + 1) 3 [.int .i64 1] from (Row.newE (w1.alloc (.cells #[.slice A n c, .int .i64 s, .slice M m d, .slice E k g] 33)) [.int .i64 1] 3 (by simp; try rfl)))
  have HP := Lib.hid (kn_proj A n c s M m d E k g (some ⟨w1.heap.size + 1, 0, none⟩) ((w1.alloc (.cells #[.slice A n c, .int .i64 s, .slice M m d, .slice E k g] 33)).alloc (.cells #[.int .i64 1] 3)) ((hA.below hbx (Nat.le_refl _)).more hbx.size) (Row.rd (zs := [1]) HO1.out))
  clear HE hA hb1 hbx
  go_wp2_with fail
  refine HP.out.mono ?_
  rintro e w2 ⟨A1, n1, c1, s1, M1, m1, d1, E1, k1, g1, V, cV, hs, rfl, hA1, hV, hVl, hVm, hb2⟩
  have HB12 := Lib.hid (HBX.out.trans (hb2.mono HBX.out.size))
  have HB2 := Lib.hid (HB1.out.trans (HB12.out.mono HB1.out.size))
  have HX2 := Lib.hid (HX1.out.below hb2 HX1.out.lt)
  have HP2 := Lib.hid hA1
  have HV2 := Lib.hid hV
  have HVL := Lib.hid hVl
  have HVM := Lib.hid hVm
  clear hb2 hA1 hV hVl hVm HP HX1 HO1 HBX
  have x0 := HX2.out.cell 0 rfl
  have x1 := HX2.out.cell 1 rfl
  have x2 := HX2.out.cell 2 rfl
  have x3 := HX2.out.cell 3 rfl
  have hbx := ((((Below.refl w2.heap.size w2).alloc (by simp; try omega) (.cells #[.slice A1 n1 c1, .int .i64 s1, .slice M1 m1 d1, .slice E1 k1 g1] 33)).alloc (by simp; try omega) (.cells #[.int .i64 1] 3)).alloc (by simp; try omega) (.cells #[.int .i64 1] 3))
  have HBX := Lib.hid hbx
  have HX3 := Lib.hid (show Row (((w2.alloc (.cells #[.slice A1 n1 c1, .int .i64 s1, .slice M1 m1 d1, .slice E1 k1 g1] 33)).alloc (.cells #[.int .i64 1] 3)).alloc (.cells #[.int .i64 1] 3)) (w2.heap.size) 33 [.slice A1 n1 c1, .int .i64 s1, .slice M1 m1 d1, .slice E1 k1 g1] from (((Row.newE w2 [.slice A1 n1 c1, .int .i64 s1, .slice M1 m1 d1, .slice E1 k1 g1] 33 (by simp; try rfl)).alloc (.cells #[.int .i64 1] 3)).alloc (.cells #[.int .i64 1] 3)))
  have HO1 := Lib.hid (show Row (((w2.alloc (.cells #[.slice A1 n1 c1, .int .i64 s1, .slice M1 m1 d1, .slice E1 k1 g1] 33)).alloc (.cells #[.int .i64 1] 3)).alloc (.cells #[.int .i64 1] 3)) (w2.heap.size + 1) 3 [.int .i64 1] from ((Row.newE (w2.alloc (.cells #[.slice A1 n1 c1, .int .i64 s1, .slice M1 m1 d1, .slice E1 k1 g1] 33)) [.int .i64 1] 3 (by simp; try rfl)).alloc (.cells #[.int .i64 1] 3)))
  have HO2 := Lib.hid (show Row (((w2.alloc (.cells #[.slice A1 n1 c1, .int .i64 s1, .slice M1 m1 d1, .slice E1 k1 g1] 33)).alloc (.cells #[.int .i64 1] 3)).alloc (.cells #[.int .i64 1] 3)) (w2.heap.size + 1 + 1) 3 [.int .i64 1] from (Row.newE ((w2.alloc (.cells #[.slice A1 n1 c1, .int .i64 s1, .slice M1 m1 d1, .slice E1 k1 g1] 33)).alloc (.cells #[.int .i64 1] 3)) [.int .i64 1] 3 (by simp; try rfl)))
  have hbw := HB12.out.trans (hbx.mono HB12.out.size)
  have HLI := Lib.hid (kn_lift A n c s M m d E k g (some ⟨w2.heap.size + 1, 0, none⟩) (some ⟨w2.heap.size + 1 + 1, 0, none⟩) (((w2.alloc (.cells #[.slice A1 n1 c1, .int .i64 s1, .slice M1 m1 d1, .slice E1 k1 g1] 33)).alloc (.cells #[.int .i64 1] 3)).alloc (.cells #[.int .i64 1] 3)) ((HA1.out.below hbw (Nat.le_refl _)).more hbw.size) (Row.rd (zs := [1]) HO1.out) (Row.rd (zs := [1]) HO2.out))
  have hxl := HX2.out.lt
  clear hbx hbw
  go_wp2_with fail
  refine HLI.out.mono ?_
  rintro e w3 ⟨AL, cL, rfl, hAL, hb3⟩
  have HB23 := Lib.hid (HBX.out.trans (hb3.mono HBX.out.size))
  have HB3 := Lib.hid (HB2.out.trans (HB23.out.mono HB2.out.size))
  have HX3' := Lib.hid (HX3.out.below hb3 HX3.out.lt)
  have HL3 := Lib.hid hAL
  clear hb3 hAL HLI HX3 HO1 HO2 HBX x0 x1 x2 x3 hxl HX2
  have hbx := (((Below.refl w3.heap.size w3).alloc (by simp; try omega) (.cells #[.int .i64 1] 3)).alloc (by simp; try omega) (.cells #[.int .i64 0, .int .i64 1] 3))
  have HBX := Lib.hid hbx
  have HO1 := Lib.hid (show Row ((w3.alloc (.cells #[.int .i64 1] 3)).alloc (.cells #[.int .i64 0, .int .i64 1] 3)) (w3.heap.size) 3 [.int .i64 1] from ((Row.newE w3 [.int .i64 1] 3 (by simp; try rfl)).alloc (.cells #[.int .i64 0, .int .i64 1] 3)))
  have HO2 := Lib.hid (show Row ((w3.alloc (.cells #[.int .i64 1] 3)).alloc (.cells #[.int .i64 0, .int .i64 1] 3)) (w3.heap.size + 1) 3 [.int .i64 0, .int .i64 1] from (Row.newE (w3.alloc (.cells #[.int .i64 1] 3)) [.int .i64 0, .int .i64 1] 3 (by simp; try rfl)))
  have HIN := Lib.hid (kn_inv (some ⟨w3.heap.size, 0, none⟩) 1 1 (some ⟨w3.heap.size + 1, 0, none⟩) ((w3.alloc (.cells #[.int .i64 1] 3)).alloc (.cells #[.int .i64 0, .int .i64 1] 3)) (Row.rd (zs := [1]) HO1.out) rfl rfl (Row.rd (zs := [0, 1]) HO2.out))
  clear hbx
  go_wp2_with fail
  refine HIN.out.mono ?_
  rintro e w4 ⟨A5, n5, c5, s5, M5, m5, d5, E5, g5, rfl, hb4⟩
  have HB34 := Lib.hid (HBX.out.trans (hb4.mono HBX.out.size))
  have HB4 := Lib.hid (HB3.out.trans (HB34.out.mono HB3.out.size))
  have HB24 := Lib.hid (HB23.out.trans (HB34.out.mono HB23.out.size))
  have HX4 := Lib.hid (HX3'.out.below HB34.out HX3'.out.lt)
  clear hb4 HIN HO1 HO2 HBX HX3' HB12
  have x0 := HX4.out.cell 0 rfl
  have x1 := HX4.out.cell 1 rfl
  have x2 := HX4.out.cell 2 rfl
  have x3 := HX4.out.cell 3 rfl
  have hxl := HX4.out.lt
  have hbx := (((((Below.refl w4.heap.size w4).alloc (by simp; try omega) (.cells #[.slice A5 n5 c5, .int .i64 s5, .slice M5 m5 d5, .slice E5 1 g5] 33)).alloc (by simp; try omega) (.cells #[.int .i64 1] 3)).alloc (by simp; try omega) (.cells #[.int .i64 1] 3)).alloc (by simp; try omega) (.cells #[.int .i64 0, .int .i64 1, .int .i64 1, .int .i64 1, .int .i64 1, .int .i64 1] 79))
  have HBX := Lib.hid hbx
  have HX5 := Lib.hid (show Row ((((w4.alloc (.cells #[.slice A5 n5 c5, .int .i64 s5, .slice M5 m5 d5, .slice E5 1 g5] 33)).alloc (.cells #[.int .i64 1] 3)).alloc (.cells #[.int .i64 1] 3)).alloc (.cells #[.int .i64 0, .int .i64 1, .int .i64 1, .int .i64 1, .int .i64 1, .int .i64 1] 79)) (w4.heap.size) 33 [.slice A5 n5 c5, .int .i64 s5, .slice M5 m5 d5, .slice E5 1 g5] from ((((Row.newE w4 [.slice A5 n5 c5, .int .i64 s5, .slice M5 m5 d5, .slice E5 1 g5] 33 (by simp; try rfl)).alloc (.cells #[.int .i64 1] 3)).alloc (.cells #[.int .i64 1] 3)).alloc (.cells #[.int .i64 0, .int .i64 1, .int .i64 1, .int .i64 1, .int .i64 1, .int .i64 1] 79)))
  have HO1 := Lib.hid (show Row ((((w4.alloc (.cells #[.slice A5 n5 c5, .int .i64 s5, .slice M5 m5 d5, .slice E5 1 g5] 33)).alloc (.cells #[.int .i64 1] 3)).alloc (.cells #[.int .i64 1] 3)).alloc (.cells #[.int .i64 0, .int .i64 1, .int .i64 1, .int .i64 1, .int .i64 1, .int .i64 1] 79)) (w4.heap.size + 1) 3 [.int .i64 1] from (((Row.newE (w4.alloc (.cells #[.slice A5 n5 c5, .int .i64 s5, .slice M5 m5 d5, .slice E5 1 g5] 33)) [.int .i64 1] 3 (by simp; try rfl)).alloc (.cells #[.int .i64 1] 3)).alloc (.cells #[.int .i64 0, .int .i64 1, .int .i64 1, .int .i64 1, .int .i64 1, .int .i64 1] 79)))
  have HO2 := Lib.hid (show Row ((((w4.alloc (.cells #[.slice A5 n5 c5, .int .i64 s5, .slice M5 m5 d5, .slice E5 1 g5] 33)).alloc (.cells #[.int .i64 1] 3)).alloc (.cells #[.int .i64 1] 3)).alloc (.cells #[.int .i64 0, .int .i64 1, .int .i64 1, .int .i64 1, .int .i64 1, .int .i64 1] 79)) (w4.heap.size + 1 + 1) 3 [.int .i64 1] from ((Row.newE ((w4.alloc (.cells #[.slice A5 n5 c5, .int .i64 s5, .slice M5 m5 d5, .slice E5 1 g5] 33)).alloc (.cells #[.int .i64 1] 3)) [.int .i64 1] 3 (by simp; try rfl)).alloc (.cells #[.int .i64 0, .int .i64 1, .int .i64 1, .int .i64 1, .int .i64 1, .int .i64 1] 79)))
  have HO3 := Lib.hid (show Row ((((w4.alloc (.cells #[.slice A5 n5 c5, .int .i64 s5, .slice M5 m5 d5, .slice E5 1 g5] 33)).alloc (.cells #[.int .i64 1] 3)).alloc (.cells #[.int .i64 1] 3)).alloc (.cells #[.int .i64 0, .int .i64 1, .int .i64 1, .int .i64 1, .int .i64 1, .int .i64 1] 79)) (w4.heap.size + 1 + 1 + 1) 79 [.int .i64 0, .int .i64 1, .int .i64 1, .int .i64 1, .int .i64 1, .int .i64 1] from (Row.newE (((w4.alloc (.cells #[.slice A5 n5 c5, .int .i64 s5, .slice M5 m5 d5, .slice E5 1 g5] 33)).alloc (.cells #[.int .i64 1] 3)).alloc (.cells #[.int .i64 1] 3)) [.int .i64 0, .int .i64 1, .int .i64 1, .int .i64 1, .int .i64 1, .int .i64 1] 79 (by simp; try rfl)))
  have hbw := HB24.out.trans (hbx.mono HB24.out.size)
  have hAL : AuR ((((w4.alloc (.cells #[.slice A5 n5 c5, .int .i64 s5, .slice M5 m5 d5, .slice E5 1 g5] 33)).alloc (.cells #[.int .i64 1] 3)).alloc (.cells #[.int .i64 1] 3)).alloc (.cells #[.int .i64 0, .int .i64 1, .int .i64 1, .int .i64 1, .int .i64 1, .int .i64 1] 79)) ((((w4.alloc (.cells #[.slice A5 n5 c5, .int .i64 s5, .slice M5 m5 d5, .slice E5 1 g5] 33)).alloc (.cells #[.int .i64 1] 3)).alloc (.cells #[.int .i64 1] 3)).alloc (.cells #[.int .i64 0, .int .i64 1, .int .i64 1, .int .i64 1, .int .i64 1, .int .i64 1] 79)).heap.size (some ⟨w4.heap.size + 1, 0, none⟩) 1 1 2 (some ⟨w4.heap.size + 1 + 1, 0, none⟩) 1 1 (some ⟨w4.heap.size + 1 + 1 + 1, 0, none⟩) 2 2 exP7 := au_rows7 (a := exP7) HO1.out HO2.out HO3.out rfl rfl rfl rfl (by omega) (by omega) (by omega)
  have HSA := Lib.hid (rSame_any A1 n1 c1 s1 M1 m1 d1 E1 k1 g1 (some ⟨w4.heap.size + 1, 0, none⟩) 1 1 2 (some ⟨w4.heap.size + 1 + 1, 0, none⟩) 1 1 (some ⟨w4.heap.size + 1 + 1 + 1, 0, none⟩) 2 2 exP7 exP7 _ ((((w4.alloc (.cells #[.slice A5 n5 c5, .int .i64 s5, .slice M5 m5 d5, .slice E5 1 g5] 33)).alloc (.cells #[.int .i64 1] 3)).alloc (.cells #[.int .i64 1] 3)).alloc (.cells #[.int .i64 0, .int .i64 1, .int .i64 1, .int .i64 1, .int .i64 1, .int .i64 1] 79)) ((HP2.out.below hbw (Nat.le_refl _)).more hbw.size) hAL (Nat.le_refl _))
  rw [show decide (exP7 = exP7) = true by simp] at HSA
  clear hbx hbw hAL
  go_wp2_with fail
  refine HSA.out.mono ?_
  rintro e w5 ⟨rfl, hb5⟩
  have HB45 := Lib.hid (HBX.out.trans (hb5.mono HBX.out.size))
  have HB5 := Lib.hid (HB4.out.trans (HB45.out.mono HB4.out.size))
  have HB25 := Lib.hid (HB24.out.trans (HB45.out.mono HB24.out.size))
  have HB35 := Lib.hid (HB34.out.trans (HB45.out.mono HB34.out.size))
  have HX6 := Lib.hid (HX5.out.below hb5 HX5.out.lt)
  clear hb5 HSA HO1 HO2 HO3 HX5 HBX x0 x1 x2 x3 hxl HX4
  have hbx := ((((Below.refl w5.heap.size w5).alloc (by simp; try omega) (.cells #[.int .i64 0, .int .i64 1] 3)).alloc (by simp; try omega) (.cells #[.int .i64 0, .int .i64 1, .int .i64 2] 3)).alloc (by simp; try omega) (.cells #[.slice (some ⟨w5.heap.size, 0, none⟩) 2 2, .slice (some ⟨w5.heap.size + 1, 0, none⟩) 3 3] 27))
  have HBX := Lib.hid hbx
  have HO1 := Lib.hid (show Row (((w5.alloc (.cells #[.int .i64 0, .int .i64 1] 3)).alloc (.cells #[.int .i64 0, .int .i64 1, .int .i64 2] 3)).alloc (.cells #[.slice (some ⟨w5.heap.size, 0, none⟩) 2 2, .slice (some ⟨w5.heap.size + 1, 0, none⟩) 3 3] 27)) (w5.heap.size) 3 [.int .i64 0, .int .i64 1] from (((Row.newE w5 [.int .i64 0, .int .i64 1] 3 (by simp; try rfl)).alloc (.cells #[.int .i64 0, .int .i64 1, .int .i64 2] 3)).alloc (.cells #[.slice (some ⟨w5.heap.size, 0, none⟩) 2 2, .slice (some ⟨w5.heap.size + 1, 0, none⟩) 3 3] 27)))
  have HO2 := Lib.hid (show Row (((w5.alloc (.cells #[.int .i64 0, .int .i64 1] 3)).alloc (.cells #[.int .i64 0, .int .i64 1, .int .i64 2] 3)).alloc (.cells #[.slice (some ⟨w5.heap.size, 0, none⟩) 2 2, .slice (some ⟨w5.heap.size + 1, 0, none⟩) 3 3] 27)) (w5.heap.size + 1) 3 [.int .i64 0, .int .i64 1, .int .i64 2] from ((Row.newE (w5.alloc (.cells #[.int .i64 0, .int .i64 1] 3)) [.int .i64 0, .int .i64 1, .int .i64 2] 3 (by simp; try rfl)).alloc (.cells #[.slice (some ⟨w5.heap.size, 0, none⟩) 2 2, .slice (some ⟨w5.heap.size + 1, 0, none⟩) 3 3] 27)))
  have HO3 := Lib.hid (show Row (((w5.alloc (.cells #[.int .i64 0, .int .i64 1] 3)).alloc (.cells #[.int .i64 0, .int .i64 1, .int .i64 2] 3)).alloc (.cells #[.slice (some ⟨w5.heap.size, 0, none⟩) 2 2, .slice (some ⟨w5.heap.size + 1, 0, none⟩) 3 3] 27)) (w5.heap.size + 1 + 1) 27 [.slice (some ⟨w5.heap.size, 0, none⟩) 2 2, .slice (some ⟨w5.heap.size + 1, 0, none⟩) 3 3] from (Row.newE ((w5.alloc (.cells #[.int .i64 0, .int .i64 1] 3)).alloc (.cells #[.int .i64 0, .int .i64 1, .int .i64 2] 3)) [.slice (some ⟨w5.heap.size, 0, none⟩) 2 2, .slice (some ⟨w5.heap.size + 1, 0, none⟩) 3 3] 27 (by simp; try rfl)))
  have hbw := HB25.out.trans (hbx.mono HB25.out.size)
  have hGS : RdL (((w5.alloc (.cells #[.int .i64 0, .int .i64 1] 3)).alloc (.cells #[.int .i64 0, .int .i64 1, .int .i64 2] 3)).alloc (.cells #[.slice (some ⟨w5.heap.size, 0, none⟩) 2 2, .slice (some ⟨w5.heap.size + 1, 0, none⟩) 3 3] 27)) (((w5.alloc (.cells #[.int .i64 0, .int .i64 1] 3)).alloc (.cells #[.int .i64 0, .int .i64 1, .int .i64 2] 3)).alloc (.cells #[.slice (some ⟨w5.heap.size, 0, none⟩) 2 2, .slice (some ⟨w5.heap.size + 1, 0, none⟩) 3 3] 27)).heap.size (some ⟨w5.heap.size + 1 + 1, 0, none⟩) [⟨some ⟨w5.heap.size, 0, none⟩, 2, [0, 1]⟩, ⟨some ⟨w5.heap.size + 1, 0, none⟩, 3, [0, 1, 2]⟩] := fun _ => ⟨_, 0, rfl, HO3.out.lt, fun j x hj => by
    match j, hj with
    | 0, hj => simp at hj; subst hj; exact ⟨HO3.out.cell 0 rfl, Row.rd (zs := [0, 1]) HO1.out, Nat.le_refl _, by simp⟩
    | 1, hj => simp at hj; subst hj; exact ⟨HO3.out.cell 1 rfl, Row.rd (zs := [0, 1, 2]) HO2.out, Nat.le_refl _, by simp⟩
    | j + 2, hj => simp at hj⟩
  have hsw : ShW hs := fun x hx => by
    have h1 := HVM.out
    have h2 : x.z ∈ hs.map Hd.z := List.mem_map.2 ⟨x, hx, rfl⟩
    rw [h1] at h2
    simp at h2
    rcases h2 with h2 | h2 <;> rw [h2] <;> simp
  have HSW := Lib.hid (sameWords_any V (some ⟨w5.heap.size + 1 + 1, 0, none⟩) 2 2 cV 2 hs _ (((w5.alloc (.cells #[.int .i64 0, .int .i64 1] 3)).alloc (.cells #[.int .i64 0, .int .i64 1, .int .i64 2] 3)).alloc (.cells #[.slice (some ⟨w5.heap.size, 0, none⟩) 2 2, .slice (some ⟨w5.heap.size + 1, 0, none⟩) 3 3] 27)) ((HV2.out.below hbw (Nat.le_refl _)).more hbw.size) hGS HVL.out rfl (by omega) (by omega) hsw (fun x hx => by simp at hx; rcases hx with rfl | rfl <;> simp))
  rw [show (decide (hs.map Hd.z = List.map Hd.z [(⟨some ⟨w5.heap.size, 0, none⟩, 2, [0, 1]⟩ : Hd), ⟨some ⟨w5.heap.size + 1, 0, none⟩, 3, [0, 1, 2]⟩])) = true by rw [HVM.out]; rfl] at HSW
  clear hbx hbw hGS hsw
  go_wp2_with fail
  refine HSW.out.mono ?_
  rintro e w6 ⟨rfl, q6, hw6⟩
  have hb6 : Below w5.heap.size w5 w6 := by rw [hw6]; exact below_drewN HBX.out q6
  have HB36 := Lib.hid (HB35.out.trans (hb6.mono HB35.out.size))
  have HB6 := Lib.hid (HB5.out.trans (hb6.mono HB5.out.size))
  have HX7 := Lib.hid (HX6.out.below hb6 HX6.out.lt)
  clear hb6 HSW HO1 HO2 HO3 HX6 HBX hw6
  have hbx := ((Below.refl w6.heap.size w6).alloc (by simp; try omega) (.cells #[.int .i64 0, .int .i64 1] 3))
  have HBX := Lib.hid hbx
  have HO1 := Lib.hid (show Row (w6.alloc (.cells #[.int .i64 0, .int .i64 1] 3)) (w6.heap.size) 3 [.int .i64 0, .int .i64 1] from (Row.newE w6 [.int .i64 0, .int .i64 1] 3 (by simp; try rfl)))
  have hbw := HB36.out.trans (hbx.mono HB36.out.size)
  have HSI := Lib.hid (sameInts_any AL (some ⟨w6.heap.size, 0, none⟩) 2 2 cL 2 (w6.alloc (.cells #[.int .i64 0, .int .i64 1] 3)).heap.size (w6.alloc (.cells #[.int .i64 0, .int .i64 1] 3)).heap.size [0, 1] [0, 1] (w6.alloc (.cells #[.int .i64 0, .int .i64 1] 3)) ((HL3.out.below hbw (Nat.le_refl _)).more hbw.size) (Row.rd (zs := [0, 1]) HO1.out) rfl rfl (by omega) (by omega))
  rw [show decide (([0, 1] : List Int) = [0, 1]) = true by simp] at HSI
  have y3 := HX7.out.cell 3 rfl
  have hyl := HX7.out.lt
  clear hbx hbw
  go_wp2_with fail
  refine HSI.out.mono ?_
  rintro e w7 ⟨rfl, q7, hw7⟩
  have hb7 : Below w6.heap.size w6 w7 := by rw [hw7]; exact below_drewN HBX.out q7
  have HX8 := Lib.hid (HX7.out.below hb7 HX7.out.lt)
  have HB7 := Lib.hid (HB6.out.trans (hb7.mono HB6.out.size))
  have y3 := HX8.out.cell 3 rfl
  clear hb7 HSI HO1 HX7 HBX hw7 hyl
  go_wp2_with fail
  go_ret
  exact ⟨rfl, HB7.out⟩
end Go.Proofs.YtaadhpkpekmfoaaGreat
