/- Layer 3: slices.Equal of edges, Equal of the program, Same of the reference, few. -/
import Derived.Test.YtcciiikaejjooaaaStarts
namespace Go.Proofs.Ytcciiikaejjooaa
open Go.RowKit Go.Sort

theorem edAt {l : List Ed} {k : Nat} (h : k < l.length) : ∃ x, l[k]? = some x := ⟨_, List.getElem?_eq_getElem h⟩
theorem eqE_step {xs ys : List Ed} {k : Nat} {x : Ed} (hx : xs[k]? = some x) (hy : ys[k]? = some x) (h : xs.take k = ys.take k) : xs.take (k + 1) = ys.take (k + 1) := by
  rw [take_succ_ed hx, take_succ_ed hy, h]
theorem neE_of {xs ys : List Ed} {k : Nat} {x y : Ed} (hx : xs[k]? = some x) (hy : ys[k]? = some y) (h : ¬ x = y) : decide (xs = ys) = false := by
  simp only [decide_eq_false_iff_not]; rintro rfl; rw [hx] at hy; injection hy with hy; exact h hy
theorem eqE_all {xs ys : List Ed} (hl : ys.length = xs.length) (h : xs.take xs.length = ys.take xs.length) : decide (xs = ys) = true := by
  rw [List.take_of_length_le (Nat.le_refl _), List.take_of_length_le (by omega)] at h
  simpa using h
theorem ed_ne {x y : Ed} (h : ¬ x = y) : ¬ (x.f = y.f ∧ x.e = y.e ∧ x.t = y.t) := fun ⟨h1, h2, h3⟩ => h (by cases x; cases y; simp_all)
set_option maxHeartbeats 800000 in
theorem equalEd_any (A B : Option Addr) (n m c d Bx By : Nat) (xs ys : List Ed) (w : World) (hx : RdG w Bx A xs) (hy : RdG w By B ys) (hn : xs.length = n) (hm : ys.length = m) (hb : n ≤ 1000000) (hb' : m ≤ 1000000) :
    Calls Try.prog 69 #[.slice A n c, .slice B m d] w fun e w' => e = .returned (.bool (decide (xs = ys))) ∧ ∃ q, w' = w.drewN q := by
  by_cases hnm : n = m
  · subst hnm
    have HN := Lib.hid hn
    have HM := Lib.hid hm
    clear hn hm
    go_enter Try.func69, Try.ntmps69
    go_wp2
    go_loopw [13] (fun i wr => ∃ k : Nat, k ≤ n ∧ i = .int .i64 k ∧ Hid (xs.take k = ys.take k) ∧ ∃ q, wr = w.drewN q) (fun i _ => n - (intOf i).toNat)
    case atStart => exact ⟨0, Nat.zero_le _, rfl, rfl, 0, rfl⟩
    case round =>
      obtain ⟨k, hk, rfl, ht, q, rfl⟩ := hrel
      by_cases hlt : k < n
      · obtain ⟨b1, o1, rfl, _, hc1⟩ := hx (by rw [HN.out]; omega)
        obtain ⟨b2, o2, rfl, _, hc2⟩ := hy (by rw [HM.out]; omega)
        obtain ⟨x, hx1⟩ := edAt (l := xs) (k := k) (by rw [HN.out]; exact hlt)
        obtain ⟨y, hy1⟩ := edAt (l := ys) (k := k) (by rw [HM.out]; exact hlt)
        obtain ⟨u0, u1, u2⟩ := hc1 k x hx1
        obtain ⟨v0, v1, v2⟩ := hc2 k y hy1
        clear hc1 hc2 hx hy
        by_cases hxy : x = y
        · subst hxy
          have hs := Lib.hid (eqE_step hx1 hy1 ht.out)
          obtain ⟨xf, xe, xt⟩ := x
          clear hx1 hy1 ht
          go_wp2
          go_quiet (fail)
          go_wp2
          go_roundw
          case rel => exact ⟨k + 1, by omega, by go_num, hs, by first | exact ⟨_, rfl⟩ | exact dr_add _ _ _⟩
          case measure => simp [intOf]; omega
        · have hf := Lib.hid (neE_of hx1 hy1 hxy)
          have hne := ed_ne hxy
          obtain ⟨xf, xe, xt⟩ := x
          obtain ⟨yf, ye, yt⟩ := y
          simp only at hne u0 u1 u2 v0 v1 v2
          clear hx1 hy1 ht hxy
          by_cases h1 : xf = yf
          · by_cases h2 : xe = ye
            · have h3 : ¬ xt = yt := fun h3 => hne ⟨h1, h2, h3⟩
              subst h1; subst h2
              clear hne
              go_wp2
              go_quiet (fail)
              go_wp2
              go_ret
              exact ⟨ret_bool hf.out.symm, by first | exact ⟨_, rfl⟩ | exact dr_add _ _ _⟩
            · subst h1
              clear hne
              go_wp2
              go_quiet (fail)
              go_wp2
              go_ret
              exact ⟨ret_bool hf.out.symm, by first | exact ⟨_, rfl⟩ | exact dr_add _ _ _⟩
          · clear hne
            go_wp2
            go_quiet (fail)
            go_wp2
            go_ret
            exact ⟨ret_bool hf.out.symm, by first | exact ⟨_, rfl⟩ | exact dr_add _ _ _⟩
      · have hkn : k = n := by omega
        have hf := Lib.hid (eqE_all (xs := xs) (ys := ys) (by rw [HN.out, HM.out]) (by rw [HN.out, ← hkn]; exact ht.out))
        clear hkn ht
        go_wp2
        go_ret
        exact ⟨ret_bool hf.out.symm, _, rfl⟩
  · have hf : decide (xs = ys) = false := by simp only [decide_eq_false_iff_not]; rintro rfl; omega
    have hne : ((n : Int) != (m : Int)) = true := by simp; omega
    clear hn hm
    go_enter Try.func69, Try.ntmps69
    go_wp2
    go_ret
    exact ⟨ret_bool hf.symm, 0, rfl⟩

theorem au_eq (a b : Au) : decide (a = b) = (decide (a.al = b.al) && (decide (a.st = b.st) && (decide (a.mr = b.mr) && decide (a.ed = b.ed)))) := by
  cases a; cases b; simp [Bool.decide_and]
/-- The calls that compare lists, told by Below. -/
theorem equalInt_b (A B : Option Addr) (n m c d Bx : Nat) (xs ys : List Int) (w : World) (hx : RdI w Bx A xs) (hy : RdI w Bx B ys) (hn : xs.length = n) (hm : ys.length = m) (hb : n ≤ 100000) (hb' : m ≤ 100000) :
    Calls Try.prog 68 #[.slice A n c, .slice B m d] w fun e w' => e = .returned (.bool (decide (xs = ys))) ∧ Below w.heap.size w w' :=
  (equalInt_any A B n m c d Bx Bx xs ys w hx hy hn hm (by omega) (by omega)).mono fun e w' ⟨h, q, e2⟩ => ⟨h, by rw [e2]; exact below_drewN (Below.refl _ _) q⟩
theorem sameInts_b (A B : Option Addr) (n m c d Bx : Nat) (xs ys : List Int) (w : World) (hx : RdI w Bx A xs) (hy : RdI w Bx B ys) (hn : xs.length = n) (hm : ys.length = m) (hb : n ≤ 100000) (hb' : m ≤ 100000) :
    Calls Try.prog 34 #[.slice A n c, .slice B m d] w fun e w' => e = .returned (.bool (decide (xs = ys))) ∧ Below w.heap.size w w' :=
  (sameInts_any A B n m c d Bx Bx xs ys w hx hy hn hm (by omega) (by omega)).mono fun e w' ⟨h, q, e2⟩ => ⟨h, by rw [e2]; exact below_drewN (Below.refl _ _) q⟩
theorem equalEd_b (A B : Option Addr) (n m c d Bx : Nat) (xs ys : List Ed) (w : World) (hx : RdG w Bx A xs) (hy : RdG w Bx B ys) (hn : xs.length = n) (hm : ys.length = m) (hb : n ≤ 1000000) (hb' : m ≤ 1000000) :
    Calls Try.prog 69 #[.slice A n c, .slice B m d] w fun e w' => e = .returned (.bool (decide (xs = ys))) ∧ Below w.heap.size w w' :=
  (equalEd_any A B n m c d Bx Bx xs ys w hx hy hn hm hb hb').mono fun e w' ⟨h, q, e2⟩ => ⟨h, by rw [e2]; exact below_drewN (Below.refl _ _) q⟩

set_option maxHeartbeats 1600000 in
theorem mEqual_any (A : Option Addr) (n c : Nat) (s : Int) (M : Option Addr) (m d : Nat) (E : Option Addr) (k g : Nat) (A2 : Option Addr) (n2 c2 : Nat) (s2 : Int) (M2 : Option Addr) (m2 d2 : Nat) (E2 : Option Addr) (k2 g2 : Nat) (a b : Au) (B : Nat) (w : World) (h : AuR w B A n c s M m d E k g a) (h2 : AuR w B A2 n2 c2 s2 M2 m2 d2 E2 k2 g2 b) (hB : B ≤ w.heap.size) :
    Calls Try.prog 31 #[.agg #[.slice A n c, .int .i64 s, .slice M m d, .slice E k g], .agg #[.slice A2 n2 c2, .int .i64 s2, .slice M2 m2 d2, .slice E2 k2 g2]] w fun e w' => e = .returned (.bool (decide (a = b))) ∧ Below w.heap.size w w' := by
  have hb1 := ((Below.refl w.heap.size w).alloc (Nat.le_refl _) (.cells #[.slice A n c, .int .i64 s, .slice M m d, .slice E k g] 25)).alloc (by simp) (.cells #[.slice A2 n2 c2, .int .i64 s2, .slice M2 m2 d2, .slice E2 k2 g2] 25)
  have HB1 := Lib.hid hb1
  have HX := Lib.hid (box_row A n c s M m d E k g ((Row.new w [.slice A n c, .int .i64 s, .slice M m d, .slice E k g] 25).alloc (.cells #[.slice A2 n2 c2, .int .i64 s2, .slice M2 m2 d2, .slice E2 k2 g2] 25)))
  have HX2 := Lib.hid (show BoxA ((w.alloc (.cells #[.slice A n c, .int .i64 s, .slice M m d, .slice E k g] 25)).alloc (.cells #[.slice A2 n2 c2, .int .i64 s2, .slice M2 m2 d2, .slice E2 k2 g2] 25)) (w.heap.size + 1) A2 n2 c2 s2 M2 m2 d2 E2 k2 g2 by
    have := box_row A2 n2 c2 s2 M2 m2 d2 E2 k2 g2 (Row.new (w.alloc (.cells #[.slice A n c, .int .i64 s, .slice M m d, .slice E k g] 25)) [.slice A2 n2 c2, .int .i64 s2, .slice M2 m2 d2, .slice E2 k2 g2] 25)
    simpa using this)
  have HC1 := Lib.hid (equalInt_b A A2 n n2 c c2 B a.al b.al _ (h.al.below hb1 hB) (h2.al.below hb1 hB) h.hn h2.hn h.bn h2.bn)
  have HC2 := Lib.hid (fun W (hW : Below w.heap.size w W) => equalInt_b M M2 m m2 d d2 B a.mr b.mr W (h.mr.below hW hB) (h2.mr.below hW hB) h.hm h2.hm h.bm h2.bm)
  have HC3 := Lib.hid (fun W (hW : Below w.heap.size w W) => equalEd_b E E2 k k2 g g2 B a.ed b.ed W (h.ed.below hW hB) (h2.ed.below hW hB) h.hk h2.hk h.bk h2.bk)
  have HST := Lib.hid h.st
  have HST2 := Lib.hid h2.st
  obtain ⟨r1, hr1⟩ : ∃ r, r = decide (a.al = b.al) := ⟨_, rfl⟩
  obtain ⟨r2, hr2⟩ : ∃ r, r = decide (a.mr = b.mr) := ⟨_, rfl⟩
  obtain ⟨r3, hr3⟩ : ∃ r, r = decide (a.ed = b.ed) := ⟨_, rfl⟩
  rw [← hr1] at HC1
  rw [← hr2] at HC2
  rw [← hr3] at HC3
  obtain ⟨v, hv⟩ : ∃ v, v = decide (a = b) := ⟨_, rfl⟩
  have HV := Lib.hid (show v = (r1 && (decide (s = s2) && (r2 && r3))) by rw [hv, au_eq, ← hr1, ← hr2, ← hr3, HST.out, HST2.out])
  rw [← hv]
  clear h h2 hb1 hr1 hr2 hr3 hv
  cases r1
  · have hf := Lib.hid (show v = false by rw [HV.out]; rfl)
    go_enter Try.func31, Try.ntmps31
    go_wp2_with fail
    refine HC1.out.mono ?_
    rintro e w1 ⟨rfl, hbw⟩
    have hB := HB1.out.trans (hbw.mono (by simp; omega))
    go_wp2_with fail
    go_ret
    exact ⟨ret_bool hf.out.symm, hB⟩
  · by_cases hs : s = s2
    · have hd : decide (s = s2) = true := by simp [hs]
      subst hs
      cases r2
      · have hf := Lib.hid (show v = false by rw [HV.out, hd]; rfl)
        go_enter Try.func31, Try.ntmps31
        go_wp2_with fail
        refine HC1.out.mono ?_
        rintro e w1 ⟨rfl, hbw⟩
        have hB := Lib.hid (HB1.out.trans (hbw.mono (by simp; omega)))
        obtain ⟨p0, p1, p2, p3⟩ := HX.out.below hbw (by simp; omega)
        obtain ⟨q0, q1, q2, q3⟩ := HX2.out.below hbw (by simp)
        clear hbw
        go_wp2_with fail
        refine (HC2.out w1 hB.out).mono ?_
        rintro e w2 ⟨rfl, hbw⟩
        have hB2 := Lib.hid (hB.out.trans (hbw.mono hB.out.size))
        go_wp2_with fail
        go_ret
        exact ⟨ret_bool hf.out.symm, hB2.out⟩
      · have hf := Lib.hid (show v = r3 by rw [HV.out, hd]; rfl)
        go_enter Try.func31, Try.ntmps31
        go_wp2_with fail
        refine HC1.out.mono ?_
        rintro e w1 ⟨rfl, hbw⟩
        have hB := Lib.hid (HB1.out.trans (hbw.mono (by simp; omega)))
        have hX1 := Lib.hid (HX.out.below hbw (by simp; omega))
        have hX2 := Lib.hid (HX2.out.below hbw (by simp))
        have hz := hbw.size
        simp only [World.size_alloc] at hz
        obtain ⟨p0, p1, p2, p3⟩ := hX1.out
        obtain ⟨q0, q1, q2, q3⟩ := hX2.out
        clear hbw
        go_wp2_with fail
        refine (HC2.out w1 hB.out).mono ?_
        rintro e w2 ⟨rfl, hbw⟩
        have hB2 := Lib.hid (hB.out.trans (hbw.mono hB.out.size))
        clear p0 p1 p2 p3 q0 q1 q2 q3
        obtain ⟨p0, p1, p2, p3⟩ := hX1.out.below hbw (by omega)
        obtain ⟨q0, q1, q2, q3⟩ := hX2.out.below hbw (by omega)
        clear hbw
        go_wp2_with fail
        refine (HC3.out w2 hB2.out).mono ?_
        rintro e w3 ⟨rfl, hbw⟩
        have hB3 := Lib.hid (hB2.out.trans (hbw.mono hB2.out.size))
        go_wp2_with fail
        go_ret
        exact ⟨ret_bool hf.out.symm, hB3.out⟩
    · have hd : decide (s = s2) = false := by simp [hs]
      have hf := Lib.hid (show v = false by rw [HV.out, hd]; rfl)
      have hd2 : (s == s2) = false := by simp [hs]
      go_enter Try.func31, Try.ntmps31
      go_wp2_with fail
      refine HC1.out.mono ?_
      rintro e w1 ⟨rfl, hbw⟩
      have hB := Lib.hid (HB1.out.trans (hbw.mono (by simp; omega)))
      obtain ⟨p0, p1, p2, p3⟩ := HX.out.below hbw (by simp; omega)
      obtain ⟨q0, q1, q2, q3⟩ := HX2.out.below hbw (by simp)
      clear hbw
      go_wp2_with fail
      go_ret
      exact ⟨ret_bool hf.out.symm, hB.out⟩
end Go.Proofs.Ytcciiikaejjooaa
