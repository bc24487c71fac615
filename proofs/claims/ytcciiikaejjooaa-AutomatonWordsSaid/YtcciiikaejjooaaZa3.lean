/- Texts merged: what follows were texts of their own. -/
import Derived.Test.YtcciiikaejjooaaZa2
import Derived.Test.YtcciiikaejjooaaZa1
import Derived.Shelf.SortM.Plain
import Derived.Shelf.SortM.SortNone
import Derived.Test.YtcciiikaejjooaaProg
import Derived.Sort.OwnSortedInts
/- Layer 3: slices.Equal of edges, Equal of the program, Same of the reference, few. -/
namespace Go.Proofs.Ytcciiikaejjooaa
open Go.RowKit Go.Sort

theorem edAt {l : List Ed} {k : Nat} (h : k < l.length) : ∃ x, l[k]? = some x := ⟨_, List.getElem?_eq_getElem h⟩
theorem eqE_step {xs ys : List Ed} {k : Nat} {x : Ed} (hx : xs[k]? = some x) (hy : ys[k]? = some x) (h : xs.take k = ys.take k) : xs.take (k + 1) = ys.take (k + 1) := by
  rw [take_succ_ed hx, take_succ_ed hy, h]
theorem neE_of {xs ys : List Ed} {k : Nat} {x y : Ed} (hx : xs[k]? = some x) (hy : ys[k]? = some y) (h : ¬ x = y) : decide (xs = ys) = false := by
  simp only [decide_eq_false_iff_not]; rintro rfl; rw [hx] at hy; injection hy with hy; exact h hy
theorem eqE_all {xs ys : List Ed} (hl : ys.length = xs.length) (h : xs.take xs.length = ys.take xs.length) : decide (xs = ys) = true := by
  rw [List.take_of_length_le (Nat.le_refl _), List.take_of_length_le (by omega)] at h
  simpa using h
theorem ed_ne {x y : Ed} (h : ¬ x = y) : ¬ (x.f = y.f ∧ x.e = y.e ∧ x.t = y.t) := fun ⟨h1, h2, h3⟩ => h (by cases x; cases y; simp_all)
set_option maxHeartbeats 800000 in
theorem equalEd_any (A B : Option Addr) (n m c d Bx By : Nat) (xs ys : List Ed) (w : World) (hx : RdG w Bx A xs) (hy : RdG w By B ys) (hn : xs.length = n) (hm : ys.length = m) (hb : n ≤ 1000000) (hb' : m ≤ 1000000) :
    Calls Try.prog 69 #[.slice A n c, .slice B m d] w fun e w' => e = .returned (.bool (decide (xs = ys))) ∧ ∃ q, w' = w.drewN q := by
  by_cases hnm : n = m
  · subst hnm
    have HN := Lib.hid hn
    have HM := Lib.hid hm
    clear hn hm
    go_enter Try.func69, Try.ntmps69
    go_wp2
    go_loopw [13] (fun i wr => ∃ k : Nat, k ≤ n ∧ i = .int .i64 k ∧ Hid (xs.take k = ys.take k) ∧ ∃ q, wr = w.drewN q) (fun i _ => n - (intOf i).toNat)
    case atStart => exact ⟨0, Nat.zero_le _, rfl, rfl, 0, rfl⟩
    case round =>
      obtain ⟨k, hk, rfl, ht, q, rfl⟩ := hrel
      by_cases hlt : k < n
      · obtain ⟨b1, o1, rfl, _, hc1⟩ := hx (by rw [HN.out]; omega)
        obtain ⟨b2, o2, rfl, _, hc2⟩ := hy (by rw [HM.out]; omega)
        obtain ⟨x, hx1⟩ := edAt (l := xs) (k := k) (by rw [HN.out]; exact hlt)
        obtain ⟨y, hy1⟩ := edAt (l := ys) (k := k) (by rw [HM.out]; exact hlt)
        obtain ⟨u0, u1, u2⟩ := hc1 k x hx1
        obtain ⟨v0, v1, v2⟩ := hc2 k y hy1
        clear hc1 hc2 hx hy
        by_cases hxy : x = y
        · subst hxy
          have hs := Lib.hid (eqE_step hx1 hy1 ht.out)
          obtain ⟨xf, xe, xt⟩ := x
          clear hx1 hy1 ht
          go_wp2
          go_quiet (fail)
          go_wp2
          go_roundw
          case rel => exact ⟨k + 1, by omega, by go_num, hs, by first | exact ⟨_, rfl⟩ | exact dr_add _ _ _⟩
          case measure => simp [intOf]; omega
        · have hf := Lib.hid (neE_of hx1 hy1 hxy)
          have hne := ed_ne hxy
          obtain ⟨xf, xe, xt⟩ := x
          obtain ⟨yf, ye, yt⟩ := y
          simp only at hne u0 u1 u2 v0 v1 v2
          clear hx1 hy1 ht hxy
          by_cases h1 : xf = yf
          · by_cases h2 : xe = ye
            · have h3 : ¬ xt = yt := fun h3 => hne ⟨h1, h2, h3⟩
              subst h1; subst h2
              clear hne
              go_wp2
              go_quiet (fail)
              go_wp2
              go_ret
              exact ⟨ret_bool hf.out.symm, by first | exact ⟨_, rfl⟩ | exact dr_add _ _ _⟩
            · subst h1
              clear hne
              go_wp2
              go_quiet (fail)
              go_wp2
              go_ret
              exact ⟨ret_bool hf.out.symm, by first | exact ⟨_, rfl⟩ | exact dr_add _ _ _⟩
          · clear hne
            go_wp2
            go_quiet (fail)
            go_wp2
            go_ret
            exact ⟨ret_bool hf.out.symm, by first | exact ⟨_, rfl⟩ | exact dr_add _ _ _⟩
      · have hkn : k = n := by omega
        have hf := Lib.hid (eqE_all (xs := xs) (ys := ys) (by rw [HN.out, HM.out]) (by rw [HN.out, ← hkn]; exact ht.out))
        clear hkn ht
        go_wp2
        go_ret
        exact ⟨ret_bool hf.out.symm, _, rfl⟩
  · have hf : decide (xs = ys) = false := by simp only [decide_eq_false_iff_not]; rintro rfl; omega
    have hne : ((n : Int) != (m : Int)) = true := by simp; omega
    clear hn hm
    go_enter Try.func69, Try.ntmps69
    go_wp2
    go_ret
    exact ⟨ret_bool hf.symm, 0, rfl⟩

theorem au_eq (a b : Au) : decide (a = b) = (decide (a.al = b.al) && (decide (a.st = b.st) && (decide (a.mr = b.mr) && decide (a.ed = b.ed)))) := by
  cases a; cases b; simp [Bool.decide_and]
/-- The calls that compare lists, told by Below. -/
theorem equalInt_b (A B : Option Addr) (n m c d Bx : Nat) (xs ys : List Int) (w : World) (hx : RdI w Bx A xs) (hy : RdI w Bx B ys) (hn : xs.length = n) (hm : ys.length = m) (hb : n ≤ 100000) (hb' : m ≤ 100000) :
    Calls Try.prog 68 #[.slice A n c, .slice B m d] w fun e w' => e = .returned (.bool (decide (xs = ys))) ∧ Below w.heap.size w w' :=
  (equalInt_any A B n m c d Bx Bx xs ys w hx hy hn hm (by omega) (by omega)).mono fun e w' ⟨h, q, e2⟩ => ⟨h, by rw [e2]; exact below_drewN (Below.refl _ _) q⟩
theorem sameInts_b (A B : Option Addr) (n m c d Bx : Nat) (xs ys : List Int) (w : World) (hx : RdI w Bx A xs) (hy : RdI w Bx B ys) (hn : xs.length = n) (hm : ys.length = m) (hb : n ≤ 100000) (hb' : m ≤ 100000) :
    Calls Try.prog 34 #[.slice A n c, .slice B m d] w fun e w' => e = .returned (.bool (decide (xs = ys))) ∧ Below w.heap.size w w' :=
  (sameInts_any A B n m c d Bx Bx xs ys w hx hy hn hm (by omega) (by omega)).mono fun e w' ⟨h, q, e2⟩ => ⟨h, by rw [e2]; exact below_drewN (Below.refl _ _) q⟩
theorem equalEd_b (A B : Option Addr) (n m c d Bx : Nat) (xs ys : List Ed) (w : World) (hx : RdG w Bx A xs) (hy : RdG w Bx B ys) (hn : xs.length = n) (hm : ys.length = m) (hb : n ≤ 1000000) (hb' : m ≤ 1000000) :
    Calls Try.prog 69 #[.slice A n c, .slice B m d] w fun e w' => e = .returned (.bool (decide (xs = ys))) ∧ Below w.heap.size w w' :=
  (equalEd_any A B n m c d Bx Bx xs ys w hx hy hn hm hb hb').mono fun e w' ⟨h, q, e2⟩ => ⟨h, by rw [e2]; exact below_drewN (Below.refl _ _) q⟩

set_option maxHeartbeats 1600000 in
theorem mEqual_any (A : Option Addr) (n c : Nat) (s : Int) (M : Option Addr) (m d : Nat) (E : Option Addr) (k g : Nat) (A2 : Option Addr) (n2 c2 : Nat) (s2 : Int) (M2 : Option Addr) (m2 d2 : Nat) (E2 : Option Addr) (k2 g2 : Nat) (a b : Au) (B : Nat) (w : World) (h : AuR w B A n c s M m d E k g a) (h2 : AuR w B A2 n2 c2 s2 M2 m2 d2 E2 k2 g2 b) (hB : B ≤ w.heap.size) :
    Calls Try.prog 31 #[.agg #[.slice A n c, .int .i64 s, .slice M m d, .slice E k g], .agg #[.slice A2 n2 c2, .int .i64 s2, .slice M2 m2 d2, .slice E2 k2 g2]] w fun e w' => e = .returned (.bool (decide (a = b))) ∧ Below w.heap.size w w' := by
  have hb1 := ((Below.refl w.heap.size w).alloc (Nat.le_refl _) (.cells #[.slice A n c, .int .i64 s, .slice M m d, .slice E k g] 25)).alloc (by simp) (.cells #[.slice A2 n2 c2, .int .i64 s2, .slice M2 m2 d2, .slice E2 k2 g2] 25)
  have HB1 := Lib.hid hb1
  have HX := Lib.hid (box_row A n c s M m d E k g ((Row.new w [.slice A n c, .int .i64 s, .slice M m d, .slice E k g] 25).alloc (.cells #[.slice A2 n2 c2, .int .i64 s2, .slice M2 m2 d2, .slice E2 k2 g2] 25)))
  have HX2 := Lib.hid (show BoxA ((w.alloc (.cells #[.slice A n c, .int .i64 s, .slice M m d, .slice E k g] 25)).alloc (.cells #[.slice A2 n2 c2, .int .i64 s2, .slice M2 m2 d2, .slice E2 k2 g2] 25)) (w.heap.size + 1) A2 n2 c2 s2 M2 m2 d2 E2 k2 g2 by
    have := box_row A2 n2 c2 s2 M2 m2 d2 E2 k2 g2 (Row.new (w.alloc (.cells #[.slice A n c, .int .i64 s, .slice M m d, .slice E k g] 25)) [.slice A2 n2 c2, .int .i64 s2, .slice M2 m2 d2, .slice E2 k2 g2] 25)
    simpa using this)
  have HC1 := Lib.hid (equalInt_b A A2 n n2 c c2 B a.al b.al _ (h.al.below hb1 hB) (h2.al.below hb1 hB) h.hn h2.hn h.bn h2.bn)
  have HC2 := Lib.hid (fun W (hW : Below w.heap.size w W) => equalInt_b M M2 m m2 d d2 B a.mr b.mr W (h.mr.below hW hB) (h2.mr.below hW hB) h.hm h2.hm h.bm h2.bm)
  have HC3 := Lib.hid (fun W (hW : Below w.heap.size w W) => equalEd_b E E2 k k2 g g2 B a.ed b.ed W (h.ed.below hW hB) (h2.ed.below hW hB) h.hk h2.hk h.bk h2.bk)
  have HST := Lib.hid h.st
  have HST2 := Lib.hid h2.st
  obtain ⟨r1, hr1⟩ : ∃ r, r = decide (a.al = b.al) := ⟨_, rfl⟩
  obtain ⟨r2, hr2⟩ : ∃ r, r = decide (a.mr = b.mr) := ⟨_, rfl⟩
  obtain ⟨r3, hr3⟩ : ∃ r, r = decide (a.ed = b.ed) := ⟨_, rfl⟩
  rw [← hr1] at HC1
  rw [← hr2] at HC2
  rw [← hr3] at HC3
  obtain ⟨v, hv⟩ : ∃ v, v = decide (a = b) := ⟨_, rfl⟩
  have HV := Lib.hid (show v = (r1 && (decide (s = s2) && (r2 && r3))) by rw [hv, au_eq, ← hr1, ← hr2, ← hr3, HST.out, HST2.out])
  rw [← hv]
  clear h h2 hb1 hr1 hr2 hr3 hv
  cases r1
  · have hf := Lib.hid (show v = false by rw [HV.out]; rfl)
    go_enter Try.func31, Try.ntmps31
    go_wp2_with fail
    refine HC1.out.mono ?_
    rintro e w1 ⟨rfl, hbw⟩
    have hB := HB1.out.trans (hbw.mono (by simp; omega))
    go_wp2_with fail
    go_ret
    exact ⟨ret_bool hf.out.symm, hB⟩
  · by_cases hs : s = s2
    · have hd : decide (s = s2) = true := by simp [hs]
      subst hs
      cases r2
      · have hf := Lib.hid (show v = false by rw [HV.out, hd]; rfl)
        go_enter Try.func31, Try.ntmps31
        go_wp2_with fail
        refine HC1.out.mono ?_
        rintro e w1 ⟨rfl, hbw⟩
        have hB := Lib.hid (HB1.out.trans (hbw.mono (by simp; omega)))
        obtain ⟨p0, p1, p2, p3⟩ := HX.out.below hbw (by simp; omega)
        obtain ⟨q0, q1, q2, q3⟩ := HX2.out.below hbw (by simp)
        clear hbw
        go_wp2_with fail
        refine (HC2.out w1 hB.out).mono ?_
        rintro e w2 ⟨rfl, hbw⟩
        have hB2 := Lib.hid (hB.out.trans (hbw.mono hB.out.size))
        go_wp2_with fail
        go_ret
        exact ⟨ret_bool hf.out.symm, hB2.out⟩
      · have hf := Lib.hid (show v = r3 by rw [HV.out, hd]; rfl)
        go_enter Try.func31, Try.ntmps31
        go_wp2_with fail
        refine HC1.out.mono ?_
        rintro e w1 ⟨rfl, hbw⟩
        have hB := Lib.hid (HB1.out.trans (hbw.mono (by simp; omega)))
        have hX1 := Lib.hid (HX.out.below hbw (by simp; omega))
        have hX2 := Lib.hid (HX2.out.below hbw (by simp))
        have hz := hbw.size
        simp only [World.size_alloc] at hz
        obtain ⟨p0, p1, p2, p3⟩ := hX1.out
        obtain ⟨q0, q1, q2, q3⟩ := hX2.out
        clear hbw
        go_wp2_with fail
        refine (HC2.out w1 hB.out).mono ?_
        rintro e w2 ⟨rfl, hbw⟩
        have hB2 := Lib.hid (hB.out.trans (hbw.mono hB.out.size))
        clear p0 p1 p2 p3 q0 q1 q2 q3
        obtain ⟨p0, p1, p2, p3⟩ := hX1.out.below hbw (by omega)
        obtain ⟨q0, q1, q2, q3⟩ := hX2.out.below hbw (by omega)
        clear hbw
        go_wp2_with fail
        refine (HC3.out w2 hB2.out).mono ?_
        rintro e w3 ⟨rfl, hbw⟩
        have hB3 := Lib.hid (hB2.out.trans (hbw.mono hB2.out.size))
        go_wp2_with fail
        go_ret
        exact ⟨ret_bool hf.out.symm, hB3.out⟩
    · have hd : decide (s = s2) = false := by simp [hs]
      have hf := Lib.hid (show v = false by rw [HV.out, hd]; rfl)
      have hd2 : (s == s2) = false := by simp [hs]
      go_enter Try.func31, Try.ntmps31
      go_wp2_with fail
      refine HC1.out.mono ?_
      rintro e w1 ⟨rfl, hbw⟩
      have hB := Lib.hid (HB1.out.trans (hbw.mono (by simp; omega)))
      obtain ⟨p0, p1, p2, p3⟩ := HX.out.below hbw (by simp; omega)
      obtain ⟨q0, q1, q2, q3⟩ := HX2.out.below hbw (by simp)
      clear hbw
      go_wp2_with fail
      go_ret
      exact ⟨ret_bool hf.out.symm, hB.out⟩
end Go.Proofs.Ytcciiikaejjooaa

/- Layer 3: Check of the reference. -/
namespace Go.Proofs.Ytcciiikaejjooaa
open Go.RowKit Go.Sort

set_option maxHeartbeats 3200000 in
set_option maxRecDepth 100000 in
theorem rCheck_any (A : Option Addr) (n c : Nat) (s : Int) (M : Option Addr) (m d : Nat) (E : Option Addr) (k g : Nat) (a : Au) (B : Nat) (w : World) (h : AuR w B A n c s M m d E k g a) (hB : B ≤ w.heap.size) :
    Calls Try.prog 15 #[.agg #[.slice A n c, .int .i64 s, .slice M m d, .slice E k g]] w fun e w' => e = .returned (.int .i64 (chkE a)) ∧ Below w.heap.size w w' := by
  have HB1 := Lib.hid ((Below.refl w.heap.size w).alloc (Nat.le_refl _) (.cells #[.slice A n c, .int .i64 s, .slice M m d, .slice E k g] 25))
  have HR := Lib.hid h
  have HX := Lib.hid (BoxA.made w A n c s M m d E k g 25)
  have HB0 := Lib.hid hB
  have hk1 := h.bk
  have HC1 := Lib.hid (rList_any A n c B a.al 32 _ (h.al.below HB1.out hB) h.hn (by have := h.bn; omega))
  have HC2 := Lib.hid (fun W (hW : Below w.heap.size w W) => rList_any M m d B a.mr s W (h.mr.below hW hB) h.hm (by have := h.bm; omega))
  have HE := Lib.hid (fun x W (hW : Below w.heap.size w W) => rHas_any A n c B a.al x W (h.al.below hW hB) h.hn (by have := h.bn; omega))
  have HST := Lib.hid h.st
  obtain ⟨u, hu⟩ : ∃ u, u = csE 32 a.al := ⟨_, rfl⟩
  rw [← hu] at HC1
  obtain ⟨v, hv⟩ : ∃ v, v = csE s a.mr := ⟨_, rfl⟩
  rw [← hv] at HC2
  have HU := Lib.hid hu
  have HV := Lib.hid hv
  clear h hu hv hB
  by_cases h0 : u = 0
  · have hb0 : (u != 0) = false := by simp [h0]
    have h0' := Lib.hid h0
    clear h0
    by_cases h1 : s < 0
    · have hr := Lib.hid (show chkE a = 2 by rw [chkE, HST.out, ← HU.out, if_neg (by simp [h0'.out]), if_pos h1])
      rw [hr.out]
      go_enter Try.func15, Try.ntmps15
      go_wp2_with fail
      refine HC1.out.mono ?_
      rintro e w' ⟨rfl, q, rfl⟩
      obtain ⟨p0, p1, p2, p3⟩ := HX.out.drewN q
      go_wp2_with fail
      go_ret
      exact ⟨rfl, below_drewN HB1.out q⟩
    · by_cases h2 : 4096 < s
      · have hr := Lib.hid (show chkE a = 3 by rw [chkE, HST.out, ← HU.out, if_neg (by simp [h0'.out]), if_neg h1, if_pos h2])
        rw [hr.out]
        go_enter Try.func15, Try.ntmps15
        go_wp2_with fail
        refine HC1.out.mono ?_
        rintro e w' ⟨rfl, q, rfl⟩
        obtain ⟨p0, p1, p2, p3⟩ := HX.out.drewN q
        go_wp2_with fail
        go_ret
        exact ⟨rfl, below_drewN HB1.out q⟩
      · by_cases h3 : v = 0
        · obtain ⟨v2, hv2⟩ : ∃ v2, v2 = egE a := ⟨_, rfl⟩
          have hr := Lib.hid (show chkE a = v2 by rw [hv2, chkE, HST.out, ← HU.out, if_neg (by simp [h0'.out]), if_neg h1, if_neg h2, ← HV.out, if_neg (by simp [h3])])
          have HV2 := Lib.hid (show egGo a.al s (prevE a.ed 0) (a.ed.drop 0) = v2 by rw [hv2, egE, HST.out]; rfl)
          rw [hr.out]
          have hb3 : (v != 0) = false := by simp [h3]
          have hk2 := Lib.hid HR.out.hk
          clear h3 hv2
          go_enter Try.func15, Try.ntmps15
          go_wp2_with fail
          refine HC1.out.mono ?_
          rintro e w' ⟨rfl, q, rfl⟩
          have HB2 := Lib.hid (below_drewN HB1.out q)
          obtain ⟨p0, p1, p2, p3⟩ := HX.out.drewN q
          go_wp2_with fail
          refine (HC2.out _ HB2.out).mono ?_
          rintro e w' ⟨rfl, q2, rfl⟩
          have HB3 := Lib.hid (below_drewN HB2.out q2)
          have HX3 := Lib.hid ((HX.out.drewN q).drewN q2)
          clear p0 p1 p2 p3
          obtain ⟨p0, p1, p2, p3⟩ := HX3.out
          go_wp2_with fail
          go_loopw [5] (fun i wr => ∃ j : Nat, j ≤ k ∧ i = .int .i64 j ∧ Hid (egGo a.al s (prevE a.ed j) (a.ed.drop j) = v2) ∧ Hid (Below w.heap.size w wr ∧ BoxA wr w.heap.size A n c s M m d E k g ∧ w.heap.size < wr.heap.size)) (fun i _ => k - (intOf i).toNat)
          case atStart => exact ⟨0, Nat.zero_le _, rfl, HV2, below_drewN HB1.out _, HX.out.drewN _, by simp [World.drewN]⟩
          case round =>
            clear p0 p1 p2 p3
            obtain ⟨j, hj, rfl, ht, hbel⟩ := hrel
            obtain ⟨p0, p1, p2, p3⟩ := hbel.out.2.1
            have hwl := hbel.out.2.2
            have hbk := HR.out.bk
            have HXA := Lib.hid (fun (x y z : Int) => hbel.out.2.1.below ((Below.refl _ wr).alloc (Nat.le_refl _) (.cells #[.int .i64 x, .int .i64 y, .int .i64 z] 67)) hwl)
            by_cases hlt : j < k
            · obtain ⟨b1, o1, rfl, hb1, hc1⟩ := HR.out.ed (by rw [hk2.out]; omega)
              obtain ⟨x, hx⟩ := edAt (l := a.ed) (k := j) (by rw [hk2.out]; exact hlt)
              obtain ⟨x0, x1, x2⟩ : EdAt wr b1 (o1 + j * 3) x := (hc1 j x hx).keep fun o => hbel.out.1.cell (p := ⟨b1, o, none⟩) (Nat.lt_of_lt_of_le hb1 HB0.out)
              have HX := Lib.hid hx
              obtain ⟨xf, xe, xt⟩ := x
              simp only at x0 x1 x2
              have hBA := Lib.hid (show Below w.heap.size w (wr.alloc (.cells #[.int .i64 xf, .int .i64 xe, .int .i64 xt] 67)) from hbel.out.1.alloc (by omega) _)
              clear hx
              by_cases c0 : xf < 0
              · have hf := Lib.hid (show (2 : Int) = v2 from (eg_range HX.out ht.out (.inl (by simp [inSt]; omega))).symm)
                clear ht hc1
                go_wp2_with fail
                go_ret
                exact ⟨ret_int hf.out, hBA.out⟩
              by_cases c1 : s ≤ xf
              · have hf := Lib.hid (show (2 : Int) = v2 from (eg_range HX.out ht.out (.inl (by simp [inSt]; omega))).symm)
                clear ht hc1
                go_wp2_with fail
                go_ret
                exact ⟨ret_int hf.out, hBA.out⟩
              by_cases c2 : xt < 0
              · have hf := Lib.hid (show (2 : Int) = v2 from (eg_range HX.out ht.out (.inr (by simp [inSt]; omega))).symm)
                clear ht hc1
                go_wp2_with fail
                go_ret
                exact ⟨ret_int hf.out, hBA.out⟩
              by_cases c3 : s ≤ xt
              · have hf := Lib.hid (show (2 : Int) = v2 from (eg_range HX.out ht.out (.inr (by simp [inSt]; omega))).symm)
                clear ht hc1
                go_wp2_with fail
                go_ret
                exact ⟨ret_int hf.out, hBA.out⟩
              have hu0 := Lib.hid (show inSt s xf = true by simp [inSt]; omega)
              have hu1 := Lib.hid (show inSt s xt = true by simp [inSt]; omega)
              obtain ⟨r, hr0⟩ : ∃ r, decide (xe ∈ a.al) = r := ⟨_, rfl⟩
              have H2 := Lib.hid (fun W (hw : Below w.heap.size w W) => by have h := HE.out xe W hw; rw [hr0] at h; exact h)
              cases r
              · have hf := Lib.hid (show (9 : Int) = v2 from (eg_unknown HX.out ht.out hu0.out hu1.out hr0).symm)
                clear ht hc1 hr0
                go_wp2_with fail
                refine (H2.out _ hBA.out).mono ?_
                rintro e w' ⟨rfl, rfl⟩
                go_wp2_with fail
                go_ret
                exact ⟨ret_int hf.out, hBA.out⟩
              · have hR0 := Lib.hid hr0
                clear hr0
                rcases Nat.eq_zero_or_pos j with hj0 | hj0
                · have hn := Lib.hid (eg_next HX.out ht.out hu0.out hu1.out hR0.out (fun y hy => absurd hy (by omega)))
                  have hd : decide (0 < j) = false := by simp; omega
                  clear hj0 ht hc1
                  go_wp2_with fail
                  refine (H2.out _ hBA.out).mono ?_
                  rintro e w' ⟨rfl, rfl⟩
                  go_wp2_with fail
                  go_quiet (fail)
                  go_wp2_with fail
                  go_roundw
                  case rel => exact ⟨j + 1, by omega, by go_num, hn, by first | exact below_drewN hBA.out _ | exact hBA.out, by first | exact HXA.out _ _ _ | exact (HXA.out _ _ _).drewN _, by first | (simp; omega) | (simp [World.drewN]; omega)⟩
                  case measure => simp [intOf]; omega
                · obtain ⟨y, hy⟩ := edAt (l := a.ed) (k := j - 1) (by rw [hk2.out]; omega)
                  obtain ⟨y0, y1, y2⟩ : EdAt wr b1 (o1 + (j - 1) * 3) y := (hc1 (j - 1) y hy).keep fun o => hbel.out.1.cell (p := ⟨b1, o, none⟩) (Nat.lt_of_lt_of_le hb1 HB0.out)
                  have HY := Lib.hid hy
                  obtain ⟨yf, ye, yt⟩ := y
                  simp only at y0 y1 y2
                  have hd : decide (0 < j) = true := by simp; omega
                  obtain ⟨l, hl⟩ : ∃ l, j - 1 = l := ⟨_, rfl⟩
                  rw [hl] at y0 y1 y2
                  have hl1 : (j : Int) - 1 = (l : Int) := by omega
                  have hl2 : IntKind.i64.wrap (l : Int) = (l : Int) := IntWalk.i64_in _ (by omega)
                  have hlk : (l : Int) < (k : Int) := by omega
                  have hl0 : (0 : Int) ≤ (l : Int) := by omega
                  have hB1l : b1 < wr.heap.size := by have := hbel.out.1.size; have := HB0.out; omega
                  have Y0 := fun cs : Array Value => fun ty => (World.cell?_alloc_lt wr (.cells cs ty) ⟨b1, o1 + l * 3, none⟩ hB1l).trans y0
                  have Y1 := fun cs : Array Value => fun ty => (World.cell?_alloc_lt wr (.cells cs ty) ⟨b1, o1 + l * 3 + 1, none⟩ hB1l).trans y1
                  clear hy hc1 hl
                  by_cases o0 : xf < yf
                  · have hf := Lib.hid (show (5 : Int) = v2 from (eg_order HX.out ht.out hu0.out hu1.out hR0.out hj0 HY.out (by rw [cmpE_le]; unfold ltE; simp; omega)).symm)
                    clear ht hj0
                    go_wp2_with fail
                    refine (H2.out _ hBA.out).mono ?_
                    rintro e w' ⟨rfl, rfl⟩
                    go_wp2_with fail
                    go_quiet (fail)
                    go_wp2_with fail
                    go_ret
                    exact ⟨ret_int hf.out, by first | exact below_drewN hBA.out _ | exact hBA.out⟩
                  have ho0 : decide (xf < yf) = false := by simp; omega
                  by_cases o1' : xf = yf
                  · by_cases o2 : xe ≤ ye
                    · have hf := Lib.hid (show (5 : Int) = v2 from (eg_order HX.out ht.out hu0.out hu1.out hR0.out hj0 HY.out (by rw [cmpE_le]; unfold ltE; simp; omega)).symm)
                      have hq : (xf == yf) = true := by simp [o1']
                      have hle : decide (xe ≤ ye) = true := by simp; omega
                      clear ht hj0 o1'
                      go_wp2_with fail
                      refine (H2.out _ hBA.out).mono ?_
                      rintro e w' ⟨rfl, rfl⟩
                      go_wp2_with fail
                      go_quiet (fail)
                      go_wp2_with fail
                      go_ret
                      exact ⟨ret_int hf.out, by first | exact below_drewN hBA.out _ | exact hBA.out⟩
                    · have hn := Lib.hid (eg_next HX.out ht.out hu0.out hu1.out hR0.out (fun y hj hy => by rw [HY.out] at hy; injection hy with hy; subst hy; rw [cmpE_le]; unfold ltE; simp; omega))
                      have hq : (xf == yf) = true := by simp [o1']
                      have hle : decide (xe ≤ ye) = false := by simp; omega
                      clear ht hj0 o1' o2
                      go_wp2_with fail
                      refine (H2.out _ hBA.out).mono ?_
                      rintro e w' ⟨rfl, rfl⟩
                      go_wp2_with fail
                      go_quiet (fail)
                      go_wp2_with fail
                      go_roundw
                      case rel => exact ⟨j + 1, by omega, by go_num, hn, by first | exact below_drewN hBA.out _ | exact hBA.out, by first | exact HXA.out _ _ _ | exact (HXA.out _ _ _).drewN _, by first | (simp; omega) | (simp [World.drewN]; omega)⟩
                      case measure => simp [intOf]; omega
                  · have hn := Lib.hid (eg_next HX.out ht.out hu0.out hu1.out hR0.out (fun y hj hy => by rw [HY.out] at hy; injection hy with hy; subst hy; rw [cmpE_le]; unfold ltE; simp; omega))
                    have hq : (xf == yf) = false := by simp [o1']
                    clear ht hj0 o1'
                    go_wp2_with fail
                    refine (H2.out _ hBA.out).mono ?_
                    rintro e w' ⟨rfl, rfl⟩
                    go_wp2_with fail
                    go_quiet (fail)
                    go_wp2_with fail
                    go_roundw
                    case rel => exact ⟨j + 1, by omega, by go_num, hn, by first | exact below_drewN hBA.out _ | exact hBA.out, by first | exact HXA.out _ _ _ | exact (HXA.out _ _ _).drewN _, by first | (simp; omega) | (simp [World.drewN]; omega)⟩
                    case measure => simp [intOf]; omega
            · obtain rfl : j = k := by omega
              have hf := Lib.hid (show (0 : Int) = v2 from (eg_end hk2.out ht.out).symm)
              clear ht
              go_wp2_with fail
              go_ret
              exact ⟨ret_int hf.out, hbel.out.1⟩
        · have hr := Lib.hid (show chkE a = v by rw [chkE, HST.out, ← HU.out, if_neg (by simp [h0'.out]), if_neg h1, if_neg h2, ← HV.out, if_pos h3])
          rw [hr.out]
          have hb3 : (v != 0) = true := by simp [h3]
          clear h3
          go_enter Try.func15, Try.ntmps15
          go_wp2_with fail
          refine HC1.out.mono ?_
          rintro e w' ⟨rfl, q, rfl⟩
          have HB2 := Lib.hid (below_drewN HB1.out q)
          obtain ⟨p0, p1, p2, p3⟩ := HX.out.drewN q
          go_wp2_with fail
          refine (HC2.out _ HB2.out).mono ?_
          rintro e w' ⟨rfl, q2, rfl⟩
          go_wp2_with fail
          go_ret
          exact ⟨rfl, below_drewN HB1.out _⟩
  · have hb0 : (u != 0) = true := by simp [h0]
    have hr := Lib.hid (show chkE a = u by rw [chkE, ← HU.out, if_pos h0])
    rw [hr.out]
    clear h0
    go_enter Try.func15, Try.ntmps15
    go_wp2_with fail
    refine HC1.out.mono ?_
    rintro e w' ⟨rfl, q, rfl⟩
    go_wp2_with fail
    go_ret
    exact ⟨rfl, below_drewN HB1.out q⟩
end Go.Proofs.Ytcciiikaejjooaa

/- Layer 3: Step, index, Empty of the reference. -/
namespace Go.Proofs.Ytcciiikaejjooaa
open Go.RowKit Go.Sort

/-- The state to which an event leads; -1 if it is not possible. -/
def stepI (a : Au) (q ev : Int) : Int := (stepO a q ev).getD (-1)
theorem edge_first {l : List Ed} {k : Nat} {q ev : Int} {x : Ed} (hx : l[k]? = some x) (h : ∀ y ∈ l.take k, ¬ (y.f = q ∧ y.e = ev)) (h1 : x.f = q) (h2 : x.e = ev) : edgeO l q ev = some x := by
  unfold edgeO
  have hl := (List.getElem?_eq_some_iff.1 hx)
  obtain ⟨hk, e⟩ := hl
  have e2 : l = l.take k ++ x :: l.drop (k + 1) := by
    rw [← e, List.getElem_cons_drop, List.take_append_drop]
  conv => lhs; rw [e2]
  rw [List.find?_append, List.find?_eq_none.2 (fun y hy => by simpa using h y hy)]
  simp [h1, h2]
theorem step_first {a : Au} {k : Nat} {q ev : Int} {x : Ed} (hx : a.ed[k]? = some x) (h : ∀ y ∈ a.ed.take k, ¬ (y.f = q ∧ y.e = ev)) (h1 : x.f = q) (h2 : x.e = ev) : stepI a q ev = x.t := by
  rw [stepI, stepO, edge_first hx h h1 h2]; rfl
theorem step_never {a : Au} {q ev : Int} {n : Nat} (hn : a.ed.length = n) (h : ∀ y ∈ a.ed.take n, ¬ (y.f = q ∧ y.e = ev)) : stepI a q ev = -1 := by
  rw [List.take_of_length_le (by omega)] at h
  rw [stepI, stepO, edgeO_none.2 h]; rfl
theorem not_next {l : List Ed} {k : Nat} {q ev : Int} {x : Ed} (hx : l[k]? = some x) (h : ∀ y ∈ l.take k, ¬ (y.f = q ∧ y.e = ev)) (hn : ¬ (x.f = q ∧ x.e = ev)) : ∀ y ∈ l.take (k + 1), ¬ (y.f = q ∧ y.e = ev) := fun y hy => by
  rw [take_succ_ed hx, List.mem_append] at hy
  rcases hy with hy | hy
  · exact h y hy
  · rw [List.mem_singleton] at hy; subst hy; exact hn

set_option maxHeartbeats 1600000 in
theorem rStep_any (A : Option Addr) (n c : Nat) (s : Int) (M : Option Addr) (m d : Nat) (E : Option Addr) (k g : Nat) (a : Au) (q ev : Int) (B : Nat) (w : World) (h : AuR w B A n c s M m d E k g a) (hB : B ≤ w.heap.size) :
    Calls Try.prog 37 #[.agg #[.slice A n c, .int .i64 s, .slice M m d, .slice E k g], .int .i64 q, .int .i64 ev] w fun e w' => e = .returned (.int .i64 (stepI a q ev)) ∧ Below w.heap.size w w' := by
  have HB1 := Lib.hid ((Below.refl w.heap.size w).alloc (Nat.le_refl _) (.cells #[.slice A n c, .int .i64 s, .slice M m d, .slice E k g] 25))
  have HR := Lib.hid h
  have HX := Lib.hid (BoxA.made w A n c s M m d E k g 25)
  have HB0 := Lib.hid hB
  have hk1 := h.bk
  have hk2 := Lib.hid h.hk
  obtain ⟨v, hv⟩ : ∃ v, v = stepI a q ev := ⟨_, rfl⟩
  have HV := Lib.hid hv
  rw [← hv]
  clear h hB hv
  go_enter Try.func37, Try.ntmps37
  go_wp2_with fail
  go_loopw [7] (fun i wr => ∃ j : Nat, j ≤ k ∧ i = .int .i64 j ∧ Hid (∀ y ∈ a.ed.take j, ¬ (y.f = q ∧ y.e = ev)) ∧ Hid (Below w.heap.size w wr ∧ BoxA wr w.heap.size A n c s M m d E k g ∧ w.heap.size < wr.heap.size)) (fun i _ => k - (intOf i).toNat)
  case atStart => exact ⟨0, Nat.zero_le _, rfl, by simp [Hid], HB1.out, HX.out, by simp⟩
  case round =>
    obtain ⟨j, hj, rfl, ht, hbel⟩ := hrel
    obtain ⟨p0, p1, p2, p3⟩ := hbel.out.2.1
    by_cases hlt : j < k
    · obtain ⟨b1, o1, rfl, hb1, hc1⟩ := HR.out.ed (by rw [hk2.out]; omega)
      obtain ⟨x, hx⟩ := edAt (l := a.ed) (k := j) (by rw [hk2.out]; exact hlt)
      obtain ⟨x0, x1, x2⟩ : EdAt wr b1 (o1 + j * 3) x := (hc1 j x hx).keep fun o => hbel.out.1.cell (p := ⟨b1, o, none⟩) (Nat.lt_of_lt_of_le hb1 HB0.out)
      have HX := Lib.hid hx
      obtain ⟨xf, xe, xt⟩ := x
      simp only at x0 x1 x2
      clear hc1 hx
      by_cases h1 : xf = q
      · have hq : (xf == q) = true := by simp [h1]
        by_cases h2 : xe = ev
        · have hq2 : (xe == ev) = true := by simp [h2]
          have hf := Lib.hid (show xt = v by rw [HV.out, step_first HX.out ht.out h1 h2])
          clear h1 h2 ht
          go_wp2_with fail
          go_ret
          exact ⟨ret_int hf.out, by first | exact hbel.out.1 | exact below_drewN hbel.out.1 _⟩
        · have hq2 : (xe == ev) = false := by simp [h2]
          have hn := Lib.hid (not_next HX.out ht.out (fun h => h2 h.2))
          clear h1 h2 ht
          go_wp2_with fail
          go_roundw
          case rel => exact ⟨j + 1, by omega, by go_num, hn, by first | exact hbel.out | exact ⟨below_drewN hbel.out.1 _, hbel.out.2.1.drewN _, hbel.out.2.2⟩⟩
          case measure => simp [intOf]; omega
      · have hq : (xf == q) = false := by simp [h1]
        have hn := Lib.hid (not_next HX.out ht.out (fun h => h1 h.1))
        clear h1 ht
        go_wp2_with fail
        go_roundw
        case rel => exact ⟨j + 1, by omega, by go_num, hn, by first | exact hbel.out | exact ⟨below_drewN hbel.out.1 _, hbel.out.2.1.drewN _, hbel.out.2.2⟩⟩
        case measure => simp [intOf]; omega
    · obtain rfl : j = k := by omega
      have hf := Lib.hid (show (-1 : Int) = v by rw [HV.out, step_never hk2.out ht.out])
      clear ht
      go_wp2_with fail
      go_ret
      exact ⟨ret_int hf.out, hbel.out.1⟩
end Go.Proofs.Ytcciiikaejjooaa

/- Layer 3, the mathematics of the canonical form. -/
namespace Go.Proofs.Ytcciiikaejjooaa
open Go.RowKit

/-- Two lists that are increasing in one order and have the same elements are one. -/
theorem sorted_ext {α : Type} {r : α → α → Prop} (hi : ∀ x, ¬ r x x) (ht : ∀ x y z, r x y → r y z → r x z) : ∀ (a b : List α), a.Pairwise r → b.Pairwise r → (∀ x, x ∈ a ↔ x ∈ b) → a = b
  | [], [], _, _, _ => rfl
  | [], y :: b, _, _, h => absurd ((h y).2 (by simp)) (by simp)
  | x :: a, [], _, _, h => absurd ((h x).1 (by simp)) (by simp)
  | x :: a, y :: b, ha, hb, h => by
    rw [List.pairwise_cons] at ha hb
    have hxy : x = y := by
      rcases List.mem_cons.1 ((h x).1 (by simp)) with e | h1
      · exact e
      · rcases List.mem_cons.1 ((h y).2 (by simp)) with e | h2
        · exact e.symm
        · exact absurd (ht _ _ _ (ha.1 y h2) (hb.1 x h1)) (hi x)
    subst hxy
    have : a = b := sorted_ext hi ht a b ha.2 hb.2 fun z => by
      constructor
      · intro hz
        rcases List.mem_cons.1 ((h z).1 (by simp [hz])) with e | h1
        · subst e; exact absurd (ha.1 z hz) (hi z)
        · exact h1
      · intro hz
        rcases List.mem_cons.1 ((h z).2 (by simp [hz])) with e | h1
        · subst e; exact absurd (hb.1 z hz) (hi z)
        · exact h1
    rw [this]

/-- The edges of a state, in order. -/
def succ (l : List Ed) (q : Int) : List Ed := l.filter fun x => decide (x.f = q)
theorem mem_succ {l : List Ed} {q : Int} {x : Ed} : x ∈ succ l q ↔ x ∈ l ∧ x.f = q := by simp [succ]
theorem succ_sorted {l : List Ed} (h : l.Pairwise ltE) (q : Int) : (succ l q).Pairwise fun x y => x.e < y.e := by
  have h1 : (succ l q).Pairwise ltE := h.sublist List.filter_sublist
  refine h1.imp_of_mem fun hx hy hlt => ?_
  rw [mem_succ] at hx hy
  unfold ltE at hlt; omega
theorem succ_eq {a : Au} (h : RightW a) (q : Int) : succ a.ed q = a.al.filterMap (edgeO a.ed q) := by
  refine sorted_ext (r := fun x y : Ed => x.e < y.e) (fun x => by omega) (fun x y z h1 h2 => by omega) _ _ (succ_sorted h.edo q) ?_ fun x => ?_
  · rw [List.pairwise_filterMap]
    refine h.alo.imp fun hlt y hy z hz => ?_
    rw [edgeO_some h.edo] at hy hz
    omega
  · rw [mem_succ, List.mem_filterMap]
    constructor
    · rintro ⟨h1, h2⟩
      exact ⟨x.e, (h.edr x h1).2.2, (edgeO_some h.edo).2 ⟨h1, h2, rfl⟩⟩
    · rintro ⟨ev, _, h2⟩
      have := (edgeO_some h.edo).1 h2
      exact ⟨this.1, this.2.1⟩
theorem split_f : ∀ (l : List Ed) (q : Int), l.Pairwise (fun x y => x.f ≤ y.f) → l = l.filter (fun x => decide (x.f < q)) ++ l.filter (fun x => decide (¬ x.f < q))
  | [], q, _ => rfl
  | x :: l, q, h => by
    rw [List.pairwise_cons] at h
    by_cases hx : x.f < q
    · have := split_f l q h.2
      simp only [List.filter_cons, hx, decide_true, if_true, not_true, decide_false, if_false, List.cons_append]
      simp only [Bool.false_eq_true, if_false]
      exact congrArg _ this
    · have e1 : l.filter (fun x => decide (x.f < q)) = [] := by
        rw [List.filter_eq_nil_iff]; intro y hy; have := h.1 y hy; simp; omega
      have e2 : l.filter (fun x => decide (¬ x.f < q)) = l := by
        rw [List.filter_eq_self]; intro y hy; have := h.1 y hy; simp; omega
      simp only [List.filter_cons, hx, decide_false, not_false_iff, decide_true, if_true, e1, e2]
      simp
theorem le_of_ltE {l : List Ed} (h : l.Pairwise ltE) : l.Pairwise (fun x y => x.f ≤ y.f) := h.imp fun h => by unfold ltE at h; omega
/-- The edges between two starts are those of the state. -/
theorem slice_succ {l : List Ed} (h : l.Pairwise ltE) (q : Nat) : (l.drop (startN l q)).take (startN l (q + 1) - startN l q) = succ l (q : Int) := by
  have h1 := split_f l (q : Int) (le_of_ltE h)
  have e1 : (l.filter fun x => decide (x.f < (q : Int))).length = startN l q := by rw [startN, List.countP_eq_length_filter]
  have e2 : l.drop (startN l q) = l.filter fun x => decide (¬ x.f < (q : Int)) := by
    exact (congrArg (List.drop (startN l q)) h1).trans (by rw [← e1, List.drop_left])
  have h3 : (l.filter fun x => decide (¬ x.f < (q : Int))).Pairwise (fun x y => x.f ≤ y.f) := (le_of_ltE h).sublist List.filter_sublist
  have h4 := split_f _ ((q + 1 : Nat) : Int) h3
  have e3 : ((l.filter fun x => decide (¬ x.f < (q : Int))).filter fun x => decide (x.f < ((q + 1 : Nat) : Int))) = succ l q := by
    rw [List.filter_filter, succ]
    apply List.filter_congr
    intro x _
    rw [Bool.eq_iff_iff]; simp; omega
  have e4 : startN l (q + 1) - startN l q = (succ l q).length := by
    rw [startN_succ, fromN, succ, List.countP_eq_length_filter]
    have : (l.filter fun x => decide (x.f + 1 = ((q + 1 : Nat) : Int))) = l.filter fun x => decide (x.f = (q : Int)) := by
      apply List.filter_congr; intro x _; rw [Bool.eq_iff_iff]; simp
    rw [this, Nat.add_sub_cancel_left]
  rw [e2, h4, e3, e4, List.take_left]

/-- A state that is found. -/
def visit (fl : List Int) (t : Int) : List Int := if t ∈ fl then fl else fl ++ [t]
def visitL (fl : List Int) (l : List Ed) : List Int := l.foldl (fun fl x => visit fl x.t) fl
theorem visit_pre (fl : List Int) (t : Int) : fl <+: visit fl t := by
  unfold visit; split
  · exact List.prefix_rfl
  · exact List.prefix_append _ _
theorem mem_visit {fl : List Int} {t x : Int} : x ∈ visit fl t ↔ x ∈ fl ∨ x = t := by
  unfold visit; split
  · next h => exact ⟨Or.inl, fun h' => h'.elim id fun e => e ▸ h⟩
  · simp
theorem visitL_nil (fl : List Int) : visitL fl [] = fl := rfl
theorem visitL_cons (fl : List Int) (x : Ed) (l : List Ed) : visitL fl (x :: l) = visitL (visit fl x.t) l := rfl
theorem visitL_snoc (fl : List Int) (x : Ed) (l : List Ed) : visitL fl (l ++ [x]) = visit (visitL fl l) x.t := by simp [visitL]
theorem visitL_app (fl : List Int) (l r : List Ed) : visitL fl (l ++ r) = visitL (visitL fl l) r := by simp [visitL]
theorem visitL_pre : ∀ (l : List Ed) (fl : List Int), fl <+: visitL fl l
  | [], fl => List.prefix_rfl
  | x :: l, fl => by rw [visitL_cons]; exact (visit_pre fl x.t).trans (visitL_pre l _)
theorem mem_visitL : ∀ (l : List Ed) (fl : List Int) (q : Int), q ∈ visitL fl l ↔ q ∈ fl ∨ ∃ x ∈ l, x.t = q
  | [], fl, q => by simp [visitL_nil]
  | x :: l, fl, q => by
    rw [visitL_cons, mem_visitL l, mem_visit]
    simp only [List.mem_cons, exists_eq_or_imp]
    constructor
    · rintro ((h | h) | h)
      · exact .inl h
      · exact .inr (.inl h.symm)
      · exact .inr (.inr h)
    · rintro (h | h | h)
      · exact .inl (.inl h)
      · exact .inl (.inr h.symm)
      · exact .inr h
theorem visit_nodup {fl : List Int} (h : fl.Nodup) (t : Int) : (visit fl t).Nodup := by
  unfold visit; split
  · exact h
  · next hn => rw [List.nodup_append]; exact ⟨h, by simp, fun x hx y hy => by simp at hy; subst hy; rintro rfl; exact hn hx⟩
theorem visitL_nodup : ∀ (l : List Ed) {fl : List Int}, fl.Nodup → (visitL fl l).Nodup
  | [], _, h => h
  | x :: l, fl, h => by rw [visitL_cons]; exact visitL_nodup l (visit_nodup h x.t)

/-- What is found when the first n of the found states are done. -/
def Fd (a : Au) : Nat → List Int
  | 0 => [0]
  | n + 1 => if n < (Fd a n).length then visitL (Fd a n) (succ a.ed ((Fd a n).getD n 0)) else Fd a n
theorem Fd_go {a : Au} {n : Nat} (h : n < (Fd a n).length) : Fd a (n + 1) = visitL (Fd a n) (succ a.ed ((Fd a n).getD n 0)) := by rw [Fd, if_pos h]
theorem Fd_stop {a : Au} {n : Nat} (h : ¬ n < (Fd a n).length) : Fd a (n + 1) = Fd a n := by rw [Fd, if_neg h]
theorem Fd_pre (a : Au) (n : Nat) : Fd a n <+: Fd a (n + 1) := by
  by_cases h : n < (Fd a n).length
  · rw [Fd_go h]; exact visitL_pre _ _
  · rw [Fd_stop h]; exact List.prefix_rfl
theorem Fd_mono (a : Au) (n : Nat) : ∀ m, Fd a n <+: Fd a (n + m)
  | 0 => List.prefix_rfl
  | m + 1 => (Fd_mono a n m).trans (Fd_pre a (n + m))
theorem Fd_mono' {a : Au} {n m : Nat} (h : n ≤ m) : Fd a n <+: Fd a m := by
  obtain ⟨d, rfl⟩ : ∃ d, m = n + d := ⟨m - n, by omega⟩
  exact Fd_mono a n d
theorem Fd_nodup (a : Au) : ∀ n, (Fd a n).Nodup
  | 0 => by simp [Fd]
  | n + 1 => by
    by_cases h : n < (Fd a n).length
    · rw [Fd_go h]; exact visitL_nodup _ (Fd_nodup a n)
    · rw [Fd_stop h]; exact Fd_nodup a n
theorem Fd_range {a : Au} (h : RightW a) (h0 : 0 < a.st) : ∀ n, ∀ x ∈ Fd a n, 0 ≤ x ∧ x < a.st
  | 0, x, hx => by simp [Fd] at hx; omega
  | n + 1, x, hx => by
    by_cases hn : n < (Fd a n).length
    · rw [Fd_go hn, mem_visitL] at hx
      rcases hx with hx | ⟨y, hy, rfl⟩
      · exact Fd_range h h0 n x hx
      · exact (h.edr y (mem_succ.1 hy).1).2.1
    · rw [Fd_stop hn] at hx; exact Fd_range h h0 n x hx
/-- A list without repetition whose elements lie in a range is no longer than that. -/
theorem nodup_len {S : Nat} {l : List Int} (hd : l.Nodup) (h : ∀ x ∈ l, 0 ≤ x ∧ x < (S : Int)) : l.length ≤ S := by
  have h1 : (l.map Int.toNat).Nodup := by
    rw [List.nodup_iff_pairwise_ne, List.pairwise_map]
    exact (List.nodup_iff_pairwise_ne.1 hd).imp_of_mem fun hx hy hne e => hne (by have := h _ hx; have := h _ hy; omega)
  have h2 : (l.map Int.toNat) ⊆ List.range S := fun x hx => by
    obtain ⟨y, hy, rfl⟩ := List.mem_map.1 hx
    have := h y hy
    simp; omega
  have := h1.length_le_of_subset h2
  simpa using this
theorem Fd_len {a : Au} (h : RightW a) (h0 : 0 < a.st) (n : Nat) : (Fd a n).length ≤ a.st.toNat :=
  nodup_len (Fd_nodup a n) fun x hx => by have := Fd_range h h0 n x hx; omega
theorem Fd_still {a : Au} {n : Nat} (h : (Fd a n).length ≤ n) : ∀ m, Fd a (n + m) = Fd a n
  | 0 => rfl
  | m + 1 => by
    have ih := Fd_still h m
    rw [← Nat.add_assoc, Fd_stop (by rw [ih]; omega), ih]
/-- All states that are found, in order. -/
def fnd (a : Au) : List Int := if a.st ≤ 0 then [] else Fd a a.st.toNat
theorem fnd_pos {a : Au} (h : 0 < a.st) : fnd a = Fd a a.st.toNat := by rw [fnd, if_neg (by omega)]
theorem fnd_at {a : Au} (h : RightW a) (h0 : 0 < a.st) {n : Nat} (hn : (Fd a n).length ≤ n) (hs : n ≤ a.st.toNat) : fnd a = Fd a n := by
  rw [fnd_pos h0]
  obtain ⟨d, hd⟩ : ∃ d, a.st.toNat = n + d := ⟨a.st.toNat - n, by omega⟩
  rw [hd, Fd_still hn]
theorem Fd_fnd {a : Au} (h : RightW a) (h0 : 0 < a.st) (n : Nat) : Fd a n <+: fnd a := by
  rw [fnd_pos h0]
  by_cases hn : n ≤ a.st.toNat
  · exact Fd_mono' hn
  · have := Fd_still (a := a) (n := a.st.toNat) (Fd_len h h0 _) (n - a.st.toNat)
    rw [← this]
    rw [show a.st.toNat + (n - a.st.toNat) = n by omega]; exact List.prefix_rfl
theorem fnd_nodup (a : Au) : (fnd a).Nodup := by
  unfold fnd; split
  · exact List.nodup_nil
  · exact Fd_nodup _ _
theorem fnd_range {a : Au} (h : RightW a) : ∀ x ∈ fnd a, 0 ≤ x ∧ x < a.st := by
  by_cases h0 : 0 < a.st
  · rw [fnd_pos h0]; exact Fd_range h h0 _
  · rw [fnd, if_pos (by omega)]; simp
theorem fnd_len {a : Au} (h : RightW a) : (fnd a).length ≤ a.st.toNat := nodup_len (fnd_nodup a) fun x hx => by have := fnd_range h x hx; omega
theorem idx_pre {l r : List Int} (h : l <+: r) {x : Int} (hx : x ∈ l) : r.idxOf x = l.idxOf x := by
  obtain ⟨t, rfl⟩ := h
  rw [List.idxOf_append, if_pos hx]
theorem getD_pre {l r : List Int} (h : l <+: r) {i : Nat} (hi : i < l.length) : r.getD i 0 = l.getD i 0 := by
  obtain ⟨t, rfl⟩ := h
  simp [List.getD, List.getElem?_append_left hi]

/-- The edges of the canonical form that leave its state n. -/
def outE (a : Au) (fl : List Int) (n : Nat) : List Ed := (succ a.ed (fl.getD n 0)).map fun x => ⟨(n : Int), x.e, (fl.idxOf x.t : Int)⟩
def canEn (a : Au) (n : Nat) : List Ed := (List.range n).flatMap (outE a (fnd a))
def canM (a : Au) : List Int := ((List.range (fnd a).length).filter fun i => decide ((fnd a).getD i 0 ∈ a.mr)).map fun (i : Nat) => (i : Int)
/-- The canonical form. -/
def canA (a : Au) : Au := ⟨a.al, ((fnd a).length : Int), canM a, canEn a (fnd a).length⟩
theorem canEn_succ (a : Au) (n : Nat) : canEn a (n + 1) = canEn a n ++ outE a (fnd a) n := by simp [canEn, List.range_succ]
theorem sum_one (x : Int) : ∀ qs : List Int, qs.Nodup → (qs.map fun q => if x = q then 1 else 0).sum ≤ 1
  | [], _ => by simp
  | q :: qs, h => by
    rw [List.nodup_cons] at h
    by_cases e : x = q
    · have : (qs.map fun q => if x = q then 1 else 0) = qs.map fun _ => 0 := List.map_congr_left fun y hy => by rw [if_neg]; rintro rfl; exact h.1 (e ▸ hy)
      simp only [List.map_cons, List.sum_cons, if_pos e, this]
      have h0 : ∀ l : List Int, (l.map fun _ => (0 : Nat)).sum = 0 := fun l => by induction l <;> simp_all
      rw [h0]; exact Nat.le_refl _
    · simp only [List.map_cons, List.sum_cons, if_neg e, Nat.zero_add]; exact sum_one x qs h.2
theorem sum_map_add' (f g : Int → Nat) : ∀ qs : List Int, (qs.map fun q => f q + g q).sum = (qs.map f).sum + (qs.map g).sum
  | [] => rfl
  | q :: qs => by simp only [List.map_cons, List.sum_cons, sum_map_add' f g qs]; omega
theorem sum_cnt : ∀ (l : List Ed) (qs : List Int), qs.Nodup → (qs.map fun q => (succ l q).length).sum ≤ l.length
  | [], qs, _ => by
    have h0 : ∀ l : List Int, (l.map fun q => (succ [] q).length).sum = 0 := fun l => by induction l <;> simp_all [succ]
    rw [h0]; exact Nat.le_refl _
  | x :: l, qs, h => by
    have e : (fun q => (succ (x :: l) q).length) = fun q => (succ l q).length + if x.f = q then 1 else 0 := by
      funext q; unfold succ; rw [List.filter_cons]; by_cases hq : x.f = q <;> simp [hq]
    rw [e, sum_map_add']
    have := sum_cnt l qs h
    have := sum_one x.f qs h
    simp only [List.length_cons]; omega
theorem canEn_len (a : Au) {n : Nat} (hn : n ≤ (fnd a).length) : (canEn a n).length ≤ a.ed.length := by
  have h1 : (canEn a n).length = (((fnd a).take n).map fun q => (succ a.ed q).length).sum := by
    unfold canEn
    rw [List.length_flatMap]
    congr 1
    apply List.ext_getElem
    · simp; omega
    · intro i h1 h2
      have : i < (fnd a).length := by simp at h1; omega
      simp [outE, List.getD, List.getElem?_eq_getElem this]
  rw [h1]
  exact sum_cnt a.ed _ ((fnd_nodup a).sublist (List.take_sublist _ _))
end Go.Proofs.Ytcciiikaejjooaa

/- Contracts of the library at this program, laid in plain words. -/
namespace Go.Proofs.Ytcciiikaejjooaa
open Go.Shelf
def laySI_ren : Go.Shelf.Ren := ⟨fun | 5 => 73 | 8 => 82 | 7 => 84 | 19 => 97 | 20 => 98 | 10 => 99 | 11 => 100 | 12 => 101 | 13 => 102 | 14 => 103 | 15 => 104 | 16 => 79 | 17 => 105 | 18 => 106 | 30 => 112 | 31 => 108 | 32 => 109 | 33 => 113 | 34 => 114 | 35 => 88 | 40 => 116 | n => n, fun | 23 => 22 | 25 => 3 | 3 => 3 | 32 => 98 | 22 => 22 | 0 => 0 | 44 => 114 | 46 => 116 | 4 => 4 | 36 => 108 | 35 => 107 | 41 => 76 | 5 => 5 | 9 => 9 | 53 => 122 | 57 => 126 | 63 => 130 | 64 => 60 | n => n, fun | n => n⟩
theorem laySI : Go.Proofs.SlLaysM.n5 Try.prog laySI_ren := {
  mixed := by kernel_rfl
  f5 := ⟨Try.f73.name, by decide, Try.func73.trans (congrArg some (by kernel_rfl))⟩
  f7 := ⟨Try.f84.name, by decide, Try.func84.trans (congrArg some (by kernel_rfl))⟩
  f8 := Try.func82.trans (congrArg some (by kernel_rfl))
  f10 := ⟨Try.f99.name, by decide, Try.func99.trans (congrArg some (by kernel_rfl))⟩
  f11 := ⟨Try.f100.name, by decide, Try.func100.trans (congrArg some (by kernel_rfl))⟩
  f12 := ⟨Try.f101.name, by decide, Try.func101.trans (congrArg some (by kernel_rfl))⟩
  f13 := ⟨Try.f102.name, by decide, Try.func102.trans (congrArg some (by kernel_rfl))⟩
  f14 := ⟨Try.f103.name, by decide, Try.func103.trans (congrArg some (by kernel_rfl))⟩
  f15 := ⟨Try.f104.name, by decide, Try.func104.trans (congrArg some (by kernel_rfl))⟩
  f16 := ⟨Try.f79.name, by decide, Try.func79.trans (congrArg some (by kernel_rfl))⟩
  f17 := ⟨Try.f105.name, by decide, Try.func105.trans (congrArg some (by kernel_rfl))⟩
  f18 := ⟨Try.f106.name, by decide, Try.func106.trans (congrArg some (by kernel_rfl))⟩
  f19 := Try.func97.trans (congrArg some (by kernel_rfl))
  f20 := Try.func98.trans (congrArg some (by kernel_rfl))
  f30 := ⟨Try.f112.name, by decide, Try.func112.trans (congrArg some (by kernel_rfl))⟩
  f31 := Try.func108.trans (congrArg some (by kernel_rfl))
  f32 := Try.func109.trans (congrArg some (by kernel_rfl))
  f33 := ⟨Try.f113.name, by decide, Try.func113.trans (congrArg some (by kernel_rfl))⟩
  f34 := ⟨Try.f114.name, by decide, Try.func114.trans (congrArg some (by kernel_rfl))⟩
  f35 := ⟨Try.f88.name, by decide, Try.func88.trans (congrArg some (by kernel_rfl))⟩
  f40 := ⟨Try.f116.name, by decide, Try.func116.trans (congrArg some (by kernel_rfl))⟩
  t0 := Try.underlying0
  a0 := Try.isAgg0
  z0 := Try.sizeOf0
  v0 := Try.zeroValue0
  t3 := Try.underlying3
  a3 := Try.isAgg3
  z3 := Try.sizeOf3
  v3 := Try.zeroValue3
  t4 := Try.underlying4
  a4 := Try.isAgg4
  z4 := Try.sizeOf4
  v4 := Try.zeroValue4
  t5 := Try.underlying5
  a5 := Try.isAgg5
  z5 := Try.sizeOf5
  v5 := Try.zeroValue5
  t9 := Try.underlying9
  a9 := Try.isAgg9
  z9 := Try.sizeOf9
  v9 := Try.zeroValue9
  t22 := Try.underlying22
  a22 := Try.isAgg22
  z22 := Try.sizeOf22
  v22 := Try.zeroValue22
  t23 := Try.underlying22
  a23 := Try.isAgg22
  z23 := Try.sizeOf22
  v23 := Try.zeroValue22
  t25 := Try.underlying3
  a25 := Try.isAgg3
  z25 := Try.sizeOf3
  v25 := Try.zeroValue3
  t32 := Try.underlying98
  a32 := Try.isAgg98
  z32 := Try.sizeOf98
  v32 := Try.zeroValue98
  t35 := Try.underlying107
  a35 := Try.isAgg107
  z35 := Try.sizeOf107
  v35 := Try.zeroValue107
  t36 := Try.underlying108
  a36 := Try.isAgg108
  z36 := Try.sizeOf108
  v36 := Try.zeroValue108
  t41 := Try.underlying76
  a41 := Try.isAgg76
  z41 := Try.sizeOf76
  v41 := Try.zeroValue76
  t44 := Try.underlying114
  a44 := Try.isAgg114
  z44 := Try.sizeOf114
  v44 := Try.zeroValue114
  t46 := Try.underlying116
  a46 := Try.isAgg116
  z46 := Try.sizeOf116
  v46 := Try.zeroValue116
  t53 := Try.underlying122
  a53 := Try.isAgg122
  z53 := Try.sizeOf122
  v53 := Try.zeroValue122
  t57 := Try.underlying126
  a57 := Try.isAgg126
  z57 := Try.sizeOf126
  v57 := Try.zeroValue126
  t63 := Try.underlying130
  a63 := Try.isAgg130
  z63 := Try.sizeOf130
  v63 := Try.zeroValue130
  t64 := Try.underlying60
  a64 := Try.isAgg60
  z64 := Try.sizeOf60
  v64 := Try.zeroValue60 }
end Go.Proofs.Ytcciiikaejjooaa

/- Layer 3: slices.Sort over a list of ints of the call's own. -/
namespace Go.Proofs.Ytcciiikaejjooaa
open Go.RowKit Go.Sort

/-- A list of ints in increasing order. -/
def srtI (zs : List Int) : List Int := zs.mergeSort fun x y => decide (x ≤ y)
theorem srtI_len (zs : List Int) : (srtI zs).length = zs.length := by simp [srtI, List.length_mergeSort]
theorem sort_own {base : Nat} {v : Value} {zs : List Int} (w : World) (h : Own w base v zs) (hl : zs.length ≤ 100000) :
    Calls Try.prog 73 #[v] w fun e w' => e = .returned (.tuple #[]) ∧ Own w' base v (srtI zs) ∧ w.grownBy w' v.ownBlock := by
  rcases h.2 with ⟨rfl, h0⟩ | ⟨g, cap, cur, rfl, hb, hh, hn, hcap, hsz, htake⟩
  · have hz : zs = [] := List.eq_nil_of_length_eq_zero h0
    subst hz
    have hcon := AnyM.slices_Sort_int_none laySI none 0 w
    refine Calls.mono (show Calls Try.prog 73 _ w _ from hcon) ?_
    rintro e w' ⟨rfl, rfl⟩
    exact ⟨rfl, by simpa [srtI] using h, ⟨rfl, rfl, rfl, Nat.le_refl _, fun _ _ _ => rfl⟩⟩
  · rw [Nat.mul_one] at htake hsz
    have hH := holds_of_blockI (ss := zs) hh htake
    have hcon := AnyM.slices_Sort_int laySI g 0 cap zs w hH (h.lt g rfl).2 (by omega)
    refine Calls.mono (show Calls Try.prog 73 _ w _ from hcon) ?_
    rintro e w' ⟨rfl, n, os, rfl⟩
    refine ⟨rfl, ?_, grownBy_sortedI _⟩
    have := ownsRow_sortedI (base := base) (n := n) (os := os) (ss := zs) (ts := srtI zs) (srtI_len zs) hb hh hn hcap (by omega)
    unfold Own
    rw [srtI_len]
    first | exact this | simpa [srtI_len] using this
end Go.Proofs.Ytcciiikaejjooaa

/- Layer 3: the memory of canonical between its rounds. -/
namespace Go.Proofs.Ytcciiikaejjooaa
open Go.RowKit Go.Sort

theorem results_cell1 {fn : Func} {p : Tmp} {ty : TypeId} (h : fn.results = #[.cell p ty]) (tmps : Array Value) (P : Program) (w : World) :
    (results fn tmps).run P w = ((asAddr (tmps.getD p undef)).run P w).andThen fun a w₁ => (loadVar ty a).run P w₁ := by
  simp only [results, h]
  simp [Sem.run_bind, Result.andThen]
theorem results_cell_tmp1 {fn : Func} {p u : Tmp} {ty : TypeId} (h : fn.results = #[.cell p ty, .tmp u]) (tmps : Array Value) (P : Program) (w : World) :
    (results fn tmps).run P w = ((asAddr (tmps.getD p undef)).run P w).andThen fun a w₁ => ((loadVar ty a).run P w₁).andThen fun v w₂ => .ok (.tuple #[v, tmps.getD u undef]) w₂ := by
  simp only [results, h]
  simp [Sem.run_bind, Result.andThen]
/-- The numbers of the states that have been found, -1 for all others. -/
def numL (fl : List Int) (S : Nat) : List Int := (List.range S).map fun (q : Nat) => if (q : Int) ∈ fl then (fl.idxOf (q : Int) : Int) else -1
theorem numL_len (fl : List Int) (S : Nat) : (numL fl S).length = S := by simp [numL]
theorem numL_at {fl : List Int} {S q : Nat} (h : q < S) : (numL fl S).getD q 0 = if (q : Int) ∈ fl then (fl.idxOf (q : Int) : Int) else -1 := by simp [numL, List.getD, h]
theorem numL_add {fl : List Int} {S T : Nat} (hn : (T : Int) ∉ fl) : numL (fl ++ [(T : Int)]) S = (numL fl S).set T (fl.length : Int) := by
  apply List.ext_getElem
  · simp [numL]
  · intro i h1 h2
    rw [List.getElem_set]
    simp only [numL, List.getElem_map, List.getElem_range]
    by_cases e : T = i
    · subst e
      rw [if_pos rfl, if_pos (by simp), List.idxOf_append, if_neg hn]; simp
    · rw [if_neg e]
      by_cases hi : (i : Int) ∈ fl
      · rw [if_pos (by simp [hi]), if_pos hi, List.idxOf_append, if_pos hi]
      · rw [if_neg (by simp [hi]; omega), if_neg hi]
theorem numL_zero {S : Nat} (h : 0 < S) : numL [0] S = (List.replicate S (-1)).set 0 0 := by
  apply List.ext_getElem
  · simp [numL]
  · intro i h1 h2
    rw [List.getElem_set]
    simp only [numL, List.getElem_map, List.getElem_range]
    by_cases e : 0 = i
    · subst e; simp
    · rw [if_neg e, if_neg (by simp; omega)]; simp

/-- The blocks of canonical: H its argument, H + 1 its result, bc the form that is made, bc + 1 the numbers, gS the starts. -/
structure CS (w : World) (H bc gS : Nat) (A : Option Addr) (n c : Nat) (s : Int) (M : Option Addr) (m d : Nat) (E : Option Addr) (k g : Nat) (S : Nat) (Ac : Option Addr) (cc : Nat) (a : Au) (wr : World) (fl : List Int) (vf : Value) (es : List Ed) (ve : Value) : Prop where
  bel : Below H w wr
  bx : Row wr H 25 [.slice A n c, .int .i64 s, .slice M m d, .slice E k g]
  res : Row wr (H + 1) 25 [.slice none 0 0, .int .i64 0, .slice none 0 0, .slice none 0 0]
  cb : Row wr bc 25 [.slice Ac n cc, .int .i64 0, .slice none 0 0, ve]
  cl : RdI wr bc Ac a.al
  nu : Row wr (bc + 1) 3 ((numL fl S).map (Value.int .i64))
  st : Row wr gS 3 ((startL a.ed (S + 1)).map (Value.int .i64))
  fo : Own wr (bc + 2) vf fl
  eo : OwnE wr (bc + 2) ve es
  fs : vf.ownBlock ≠ some gS
  h1 : H + 1 < bc
  h2 : bc + 1 < gS
  h3 : gS < wr.heap.size
theorem own_row {w w' : World} {base n : Nat} {e : TypeId} {sz : Nat} {v : Value} {xs : List Value} {row : Option Nat} (h : w.ownsRow base e sz v n xs) (hg : w.grownBy w' row) (hne : v.ownBlock = none ∨ v.ownBlock ≠ row) : w'.ownsRow base e sz v n xs := h.kept hg hne
theorem Row.grown {w w' : World} {g : Nat} {e : TypeId} {cs : List Value} {row : Option Nat} (h : Row w g e cs) (hg : w.grownBy w' row) (hne : row ≠ some g) : Row w' g e cs := (hg.block g h.lt (fun e => hne e.symm)).trans h
theorem RdI.grown {w w' : World} {B : Nat} {A : Option Addr} {zs : List Int} {row : Option Nat} (h : RdI w B A zs) (hB : B ≤ w.heap.size) (hg : w.grownBy w' row) (hr : ∀ k, row = some k → B ≤ k) : RdI w' B A zs :=
  h.below ((Below.refl B w).grown hg hB hr) (Nat.le_refl _)

section
variable {w : World} {H bc gS : Nat} {A : Option Addr} {n c : Nat} {s : Int} {M : Option Addr} {m d : Nat} {E : Option Addr} {k g : Nat} {S : Nat} {Ac : Option Addr} {cc : Nat} {a : Au} {wr w1 : World} {fl : List Int} {vf vf' : Value} {es : List Ed} {ve ve' : Value}
theorem CS.alloc (h : CS w H bc gS A n c s M m d E k g S Ac cc a wr fl vf es ve) (o : Obj) : CS w H bc gS A n c s M m d E k g S Ac cc a (wr.alloc o) fl vf es ve :=
  { h with
    bel := h.bel.alloc (by have := h.h1; have := h.h2; have := h.h3; omega) o
    bx := h.bx.alloc o, res := h.res.alloc o, cb := h.cb.alloc o
    cl := h.cl.below ((Below.refl bc wr).alloc (by have := h.h2; have := h.h3; omega) o) (Nat.le_refl _)
    nu := h.nu.alloc o, st := h.st.alloc o, fo := h.fo.alloc o, eo := h.eo.alloc o
    h3 := by have := h.h3; simp; omega }
theorem CS.drew (h : CS w H bc gS A n c s M m d E k g S Ac cc a wr fl vf es ve) : CS w H bc gS A n c s M m d E k g S Ac cc a wr.drew fl vf es ve :=
  { h with bel := h.bel.drew, bx := h.bx, res := h.res, cb := h.cb, cl := h.cl, nu := h.nu, st := h.st, fo := h.fo, eo := h.eo }
theorem CS.drewN (h : CS w H bc gS A n c s M m d E k g S Ac cc a wr fl vf es ve) (q : Nat) : CS w H bc gS A n c s M m d E k g S Ac cc a (wr.drewN q) fl vf es ve :=
  { h with bel := below_drewN h.bel q, bx := h.bx, res := h.res, cb := h.cb, cl := h.cl, nu := h.nu, st := h.st, fo := h.fo, eo := h.eo }
/-- A state is found: its number is written, it is appended. -/
theorem CS.found {T : Nat} (h : CS w H bc gS A n c s M m d E k g S Ac cc a wr fl vf es ve) (hn : (T : Int) ∉ fl) (hT : T < S)
    (hg : (wr.setCell ⟨bc + 1, T, none⟩ (.int .i64 (fl.length : Int))).grownBy w1 vf.ownBlock) (ho : Own w1 (bc + 2) vf' (fl ++ [(T : Int)])) (hs : vf'.ownBlock ≠ some gS) :
    CS w H bc gS A n c s M m d E k g S Ac cc a w1 (fl ++ [(T : Int)]) vf' es ve := by
  have g1 := h.h1; have g2 := h.h2; have g3 := h.h3
  have hf1 : ∀ k, vf.ownBlock = some k → bc + 2 ≤ k := fun k hk => (h.fo.lt k hk).1
  have hne : ∀ j, j < bc + 2 → vf.ownBlock ≠ some j := fun j hj e => by have := hf1 j e; omega
  have hbs : ∀ B, B ≤ bc + 1 → Below B wr w1 := fun B hB => ((Below.refl B wr).setCell (p := ⟨bc + 1, T, none⟩) hB _).grown hg (by simp [World.setCell]; omega) (fun k hk => by have := hf1 k hk; omega)
  have hst : ∀ {j e cs}, Row wr j e cs → j ≠ bc + 1 → vf.ownBlock ≠ some j → Row w1 j e cs := fun hr h1 h2 => (hr.setOther (p := ⟨bc + 1, T, none⟩) h1 _).grown hg h2
  refine ⟨h.bel.trans (hbs H (by omega)), hst h.bx (by omega) (hne _ (by omega)), hst h.res (by omega) (hne _ (by omega)), hst h.cb (by omega) (hne _ (by omega)), h.cl.below (hbs bc (by omega)) (Nat.le_refl _), ?_, hst h.st (by omega) h.fs, ho, ?_, hs, h.h1, h.h2, by have := hg.size; simp [World.setCell] at this; omega⟩
  · have := (h.nu.set T (.int .i64 (fl.length : Int))).grown hg (hne _ (by omega))
    rwa [map_set_int, ← numL_add hn] at this
  · have h5 := ownsRow_setCell_below h.eo (a := ⟨bc + 1, T, none⟩) (by simp) (.int .i64 (fl.length : Int))
    have h6 := ownsRow_setCell_below h.fo (a := ⟨bc + 1, T, none⟩) (by simp) (.int .i64 (fl.length : Int))
    exact own_row h5 hg (owns_ne h5 h6 (by decide))
/-- An edge is appended to the form. -/
theorem CS.edge {x : Ed} (h : CS w H bc gS A n c s M m d E k g S Ac cc a wr fl vf es ve) (hg : wr.grownBy w1 ve.ownBlock) (ho : OwnE w1 (bc + 2) ve' (es ++ [x])) :
    CS w H bc gS A n c s M m d E k g S Ac cc a (w1.setCell ⟨bc, 3, none⟩ ve') fl vf (es ++ [x]) ve' := by
  have g1 := h.h1; have g2 := h.h2; have g3 := h.h3
  have hf1 : ∀ k, ve.ownBlock = some k → bc + 2 ≤ k := fun k hk => (h.eo.lt k hk).1
  have hne : ∀ j, j < bc + 2 → ve.ownBlock ≠ some j := fun j hj e => by have := hf1 j e; omega
  have hbs : ∀ B, B ≤ bc → Below B wr (w1.setCell ⟨bc, 3, none⟩ ve') := fun B hB => ((Below.refl B wr).grown hg (by omega) (fun k hk => by have := hf1 k hk; omega)).setCell (p := ⟨bc, 3, none⟩) hB _
  have hst : ∀ {j e cs}, Row wr j e cs → j ≠ bc → ve.ownBlock ≠ some j → Row (w1.setCell ⟨bc, 3, none⟩ ve') j e cs := fun hr h1 h2 => (hr.grown hg h2).setOther (p := ⟨bc, 3, none⟩) h1 _
  refine ⟨h.bel.trans (hbs H (by omega)), hst h.bx (by omega) (hne _ (by omega)), hst h.res (by omega) (hne _ (by omega)), ?_, h.cl.below (hbs bc (Nat.le_refl _)) (Nat.le_refl _), hst h.nu (by omega) (hne _ (by omega)), hst h.st (by omega) (row_ne_own h.st h.eo (by decide)), ?_, ?_, h.fs, h.h1, h.h2, by have := hg.size; simp [World.setCell]; omega⟩
  · exact (h.cb.grown hg (hne _ (by omega))).set 3 ve'
  · exact ownsRow_setCell_below (own_row h.fo hg (owns_ne h.fo h.eo (by decide))) (a := ⟨bc, 3, none⟩) (by simp) _
  · exact ownsRow_setCell_below ho (a := ⟨bc, 3, none⟩) (by simp) _
end
/-- canonical's memory while its marked states are gathered. -/
structure CM (w : World) (H bc : Nat) (A : Option Addr) (n c : Nat) (s : Int) (M : Option Addr) (m d : Nat) (E : Option Addr) (k g : Nat) (S : Nat) (Ac : Option Addr) (cc : Nat) (a : Au) (fl : List Int) (ns : Int) (es : List Ed) (ve : Value) (wr : World) (ms : List Int) (vm : Value) : Prop where
  bel : Below H w wr
  bx : Row wr H 25 [.slice A n c, .int .i64 s, .slice M m d, .slice E k g]
  res : Row wr (H + 1) 25 [.slice none 0 0, .int .i64 0, .slice none 0 0, .slice none 0 0]
  cb : Row wr bc 25 [.slice Ac n cc, .int .i64 ns, vm, ve]
  cl : RdI wr bc Ac a.al
  nu : Row wr (bc + 1) 3 ((numL fl S).map (Value.int .i64))
  mo : Own wr (bc + 2) vm ms
  eo : OwnE wr (bc + 2) ve es
  h1 : H + 1 < bc
  h2 : bc + 1 < wr.heap.size
section
variable {w : World} {H bc gS : Nat} {A : Option Addr} {n c : Nat} {s : Int} {M : Option Addr} {m d : Nat} {E : Option Addr} {k g : Nat} {S : Nat} {Ac : Option Addr} {cc : Nat} {a : Au} {wr w1 : World} {fl ms zs : List Int} {ns : Int} {vf vm vm' : Value} {es : List Ed} {ve : Value}
theorem CS.marked (h : CS w H bc gS A n c s M m d E k g S Ac cc a wr fl vf es ve) : CM w H bc A n c s M m d E k g S Ac cc a fl ns es ve (wr.setCell ⟨bc, 1, none⟩ (.int .i64 ns)) [] (.slice none 0 0) := by
  have g1 := h.h1; have g2 := h.h2; have g3 := h.h3
  have hb : ∀ B, B ≤ bc → Below B wr (wr.setCell ⟨bc, 1, none⟩ (.int .i64 ns)) := fun B hB => (Below.refl B wr).setCell (p := ⟨bc, 1, none⟩) hB _
  exact ⟨h.bel.trans (hb H (by omega)), h.bx.setOther (p := ⟨bc, 1, none⟩) (by simp; omega) _, h.res.setOther (p := ⟨bc, 1, none⟩) (by simp; omega) _, h.cb.set 1 _, h.cl.below (hb bc (Nat.le_refl _)) (Nat.le_refl _), h.nu.setOther (p := ⟨bc, 1, none⟩) (by simp) _, World.ownsRow_nil _ _ _ _, ownsRow_setCell_below h.eo (a := ⟨bc, 1, none⟩) (by simp) _, h.h1, by simp [World.setCell]; omega⟩
theorem CM.alloc (h : CM w H bc A n c s M m d E k g S Ac cc a fl ns es ve wr ms vm) (o : Obj) : CM w H bc A n c s M m d E k g S Ac cc a fl ns es ve (wr.alloc o) ms vm :=
  { h with
    bel := h.bel.alloc (by have := h.h1; have := h.h2; omega) o
    bx := h.bx.alloc o, res := h.res.alloc o, cb := h.cb.alloc o
    cl := h.cl.below ((Below.refl bc wr).alloc (by have := h.h2; omega) o) (Nat.le_refl _)
    nu := h.nu.alloc o, mo := h.mo.alloc o, eo := h.eo.alloc o
    h2 := by have := h.h2; simp; omega }
theorem CM.drew (h : CM w H bc A n c s M m d E k g S Ac cc a fl ns es ve wr ms vm) : CM w H bc A n c s M m d E k g S Ac cc a fl ns es ve wr.drew ms vm :=
  { h with bel := h.bel.drew, bx := h.bx, res := h.res, cb := h.cb, cl := h.cl, nu := h.nu, mo := h.mo, eo := h.eo }
theorem CM.drewN (h : CM w H bc A n c s M m d E k g S Ac cc a fl ns es ve wr ms vm) (q : Nat) : CM w H bc A n c s M m d E k g S Ac cc a fl ns es ve (wr.drewN q) ms vm :=
  { h with bel := below_drewN h.bel q, bx := h.bx, res := h.res, cb := h.cb, cl := h.cl, nu := h.nu, mo := h.mo, eo := h.eo }
theorem CM.sorted (h : CM w H bc A n c s M m d E k g S Ac cc a fl ns es ve wr ms vm) (hg : wr.grownBy w1 vm.ownBlock) (ho : Own w1 (bc + 2) vm zs) : CM w H bc A n c s M m d E k g S Ac cc a fl ns es ve w1 zs vm := by
  have g1 := h.h1; have g2 := h.h2
  have hf1 : ∀ k, vm.ownBlock = some k → bc + 2 ≤ k := fun k hk => (h.mo.lt k hk).1
  have hne : ∀ j, j < bc + 2 → vm.ownBlock ≠ some j := fun j hj e => by have := hf1 j e; omega
  have hbs : ∀ B, B ≤ bc → Below B wr w1 := fun B hB => (Below.refl B wr).grown hg (by omega) (fun k hk => by have := hf1 k hk; omega)
  exact ⟨h.bel.trans (hbs H (by omega)), h.bx.grown hg (hne _ (by omega)), h.res.grown hg (hne _ (by omega)), h.cb.grown hg (hne _ (by omega)), h.cl.below (hbs bc (Nat.le_refl _)) (Nat.le_refl _), h.nu.grown hg (hne _ (by omega)), ho, own_row h.eo hg (owns_ne h.eo h.mo (by decide)), h.h1, by have := hg.size; omega⟩
/-- A number is appended to the marked states. -/
theorem CM.mark {x : Int} (h : CM w H bc A n c s M m d E k g S Ac cc a fl ns es ve wr ms vm) (hg : wr.grownBy w1 vm.ownBlock) (ho : Own w1 (bc + 2) vm' (ms ++ [x])) :
    CM w H bc A n c s M m d E k g S Ac cc a fl ns es ve (w1.setCell ⟨bc, 2, none⟩ vm') (ms ++ [x]) vm' := by
  have g1 := h.h1; have g2 := h.h2
  have hf1 : ∀ k, vm.ownBlock = some k → bc + 2 ≤ k := fun k hk => (h.mo.lt k hk).1
  have hne : ∀ j, j < bc + 2 → vm.ownBlock ≠ some j := fun j hj e => by have := hf1 j e; omega
  have hbs : ∀ B, B ≤ bc → Below B wr (w1.setCell ⟨bc, 2, none⟩ vm') := fun B hB => ((Below.refl B wr).grown hg (by omega) (fun k hk => by have := hf1 k hk; omega)).setCell (p := ⟨bc, 2, none⟩) hB _
  have hst : ∀ {j e cs}, Row wr j e cs → j ≠ bc → vm.ownBlock ≠ some j → Row (w1.setCell ⟨bc, 2, none⟩ vm') j e cs := fun hr h1 h2 => (hr.grown hg h2).setOther (p := ⟨bc, 2, none⟩) h1 _
  refine ⟨h.bel.trans (hbs H (by omega)), hst h.bx (by omega) (hne _ (by omega)), hst h.res (by omega) (hne _ (by omega)), ?_, h.cl.below (hbs bc (Nat.le_refl _)) (Nat.le_refl _), hst h.nu (by omega) (hne _ (by omega)), ?_, ?_, h.h1, by have := hg.size; simp [World.setCell]; omega⟩
  · exact (h.cb.grown hg (hne _ (by omega))).set 2 vm'
  · exact ownsRow_setCell_below ho (a := ⟨bc, 2, none⟩) (by simp) _
  · exact ownsRow_setCell_below (own_row h.eo hg (owns_ne h.eo h.mo (by decide))) (a := ⟨bc, 2, none⟩) (by simp) _
/-- What canonical hands back. -/
theorem CM.gives (h : CM w H bc A n c s M m d E k g S Ac cc a (fnd a) ((fnd a).length : Int) (canEn a (fnd a).length) ve wr (canM a) vm) (hn : a.al.length = n) (hc : n ≤ cc ∧ cc ≤ 9223372036854775807) (hbn : n ≤ 100000) (hm : (canM a).length ≤ 100000) (he : (canEn a (fnd a).length).length ≤ 1000000) :
    AuV (canA a) (.agg #[.slice Ac n cc, .int .i64 ((fnd a).length : Int), vm, ve]) wr := by
  obtain ⟨M', d', rfl, hm1, hm2, hm3⟩ := own_rdc h.mo
  obtain ⟨E', g', rfl, he1, he2, he3⟩ := ownE_rd h.eo
  exact ⟨Ac, n, cc, ((fnd a).length : Int), M', _, d', E', _, g', rfl,
    { al := h.cl.more (by have := h.h2; omega), mr := hm1, ed := he1, hn := hn, hm := rfl, hk := rfl, st := rfl, cn := hc, cm := ⟨hm2, hm3⟩, ck := ⟨he2, he3⟩, bn := hbn, bm := hm, bk := he }⟩
end
/-- What of canonical's memory is there before its rounds. -/
structure CB (w : World) (H bc : Nat) (A : Option Addr) (n c : Nat) (s : Int) (M : Option Addr) (m d : Nat) (E : Option Addr) (k g : Nat) (Ac : Option Addr) (cc : Nat) (a : Au) (wr : World) (vm ve : Value) (ns : Int) : Prop where
  bel : Below H w wr
  bx : Row wr H 25 [.slice A n c, .int .i64 s, .slice M m d, .slice E k g]
  res : Row wr (H + 1) 25 [.slice none 0 0, .int .i64 0, .slice none 0 0, .slice none 0 0]
  cb : Row wr bc 25 [.slice Ac n cc, .int .i64 ns, vm, ve]
  cl : RdI wr bc Ac a.al
  h1 : H + 1 < bc
  h2 : bc < wr.heap.size
section
variable {w : World} {H bc : Nat} {A : Option Addr} {n c : Nat} {s : Int} {M : Option Addr} {m d : Nat} {E : Option Addr} {k g : Nat} {Ac : Option Addr} {cc : Nat} {a : Au} {wr w1 : World} {vm ve : Value} {ns : Int}
theorem CB.alloc (h : CB w H bc A n c s M m d E k g Ac cc a wr vm ve ns) (o : Obj) : CB w H bc A n c s M m d E k g Ac cc a (wr.alloc o) vm ve ns :=
  { h with
    bel := h.bel.alloc (by have := h.h1; have := h.h2; omega) o
    bx := h.bx.alloc o, res := h.res.alloc o, cb := h.cb.alloc o
    cl := h.cl.below ((Below.refl bc wr).alloc (by have := h.h2; omega) o) (Nat.le_refl _)
    h2 := by have := h.h2; simp; omega }
theorem CB.far (h : CB w H bc A n c s M m d E k g Ac cc a wr vm ve ns) (hb : Below (bc + 1) wr w1) : CB w H bc A n c s M m d E k g Ac cc a w1 vm ve ns :=
  { h with
    bel := h.bel.trans (hb.mono (by have := h.h1; omega))
    bx := h.bx.below hb (by have := h.h1; omega), res := h.res.below hb (by have := h.h1; omega), cb := h.cb.below hb (by omega)
    cl := h.cl.below hb (by omega)
    h2 := by have := h.h2; have := hb.size; omega }
end
theorem fill_step {S i : Nat} (h : i < S) : (List.replicate i (-1 : Int) ++ List.replicate (S - i) 0).set i (-1) = List.replicate (i + 1) (-1) ++ List.replicate (S - (i + 1)) 0 := by
  rw [List.set_append, if_neg (by simp)]
  simp only [List.length_replicate, Nat.sub_self]
  obtain ⟨t, ht⟩ : ∃ t, S - i = t + 1 := ⟨S - i - 1, by omega⟩
  rw [ht, List.replicate_succ, List.set_cons_zero, show S - (i + 1) = t by omega, List.replicate_succ' (n := i)]
  simp
theorem own_shape {w : World} {base L : Nat} {v : Value} {zs : List Int} (h : Own w base v zs) (hL : L = zs.length) (h0 : 0 < L) : ∃ g cap, v = .slice (some ⟨g, 0, none⟩) L cap ∧ g < w.heap.size ∧ (∀ j, j < L → w.cell? ⟨g, j, none⟩ = some (.int .i64 (zs.getD j 0))) ∧ L ≤ cap ∧ cap ≤ 9223372036854775807 := by
  subst hL
  rcases h.2 with ⟨rfl, h1⟩ | ⟨g, cap, cur, rfl, hg, hh, hn, hcap, hsz, htake⟩
  · omega
  · refine ⟨g, cap, rfl, (h.lt g rfl).2, fun j hj => ?_, hn, by unfold maxLen at hcap; omega⟩
    rw [World.ownsRow.cellAt (cap := cap) h j (by omega), List.getElem?_map, List.getElem?_eq_getElem hj]
    simp [List.getD, List.getElem?_eq_getElem hj]
theorem succ_len {l : List Ed} (h : l.Pairwise ltE) (q : Nat) : (succ l (q : Int)).length = startN l (q + 1) - startN l q := by
  rw [← slice_succ h q, List.length_take, List.length_drop]
  have := startN_le l (q + 1)
  omega
theorem startN_mono (l : List Ed) (q : Nat) : startN l q ≤ startN l (q + 1) := by rw [startN_succ]; omega
theorem succ_at {l : List Ed} (h : l.Pairwise ltE) (q j : Nat) (hj : j < startN l (q + 1) - startN l q) : (succ l (q : Int))[j]? = l[startN l q + j]? := by
  rw [← slice_succ h q, List.getElem?_take_of_lt hj, List.getElem?_drop]
theorem own_below {w w' : World} {B : Nat} {e : TypeId} {sz : Nat} {v : Value} {n : Nat} {xs : List Value} (h : w.ownsRow B e sz v n xs) (hb : Below w.heap.size w w') : w'.ownsRow B e sz v n xs :=
  World.ownsRow.kept (row := none) h ⟨hb.os, hb.tape, hb.output, hb.size, fun i hi _ => hb.block i hi⟩ (Classical.em _)
theorem grown_trans {a b c : World} {row : Option Nat} (h : a.grownBy b row) (k : b.grownBy c row) : a.grownBy c row :=
  ⟨k.os.trans h.os, k.tape.trans h.tape, k.output.trans h.output, Nat.le_trans h.size k.size, fun i hi hne => (k.block i (Nat.lt_of_lt_of_le hi h.size) hne).trans (h.block i hi hne)⟩
theorem EdAt.grown {w w' : World} {b o : Nat} {x : Ed} {row : Option Nat} (h : EdAt w b o x) (hg : w.grownBy w' row) (hb : b < w.heap.size) (hne : row ≠ some b) : EdAt w' b o x :=
  h.keep fun o => World.cell?_of_block (a := ⟨b, o, none⟩) (hg.block b hb (fun e => hne e.symm))
theorem EdAt.alloc {w : World} {b o : Nat} {x : Ed} (h : EdAt w b o x) (hb : b < w.heap.size) (ob : Obj) : EdAt (w.alloc ob) b o x :=
  h.keep fun o => World.cell?_of_block (a := ⟨b, o, none⟩) (Below.heap_alloc w ob b hb)
theorem EdAt.setFar {w : World} {b o : Nat} {x : Ed} (h : EdAt w b o x) {p : Addr} (hp : b ≠ p.block) (v : Value) : EdAt (w.setCell p v) b o x :=
  h.keep fun o => World.cell?_of_block (a := ⟨b, o, none⟩) (Below.heap_setCell w p v b hp)
theorem visitL_take {l : List Ed} {fl : List Int} {t : Nat} {x : Ed} (h : l[t]? = some x) : visitL fl (l.take (t + 1)) = visit (visitL fl (l.take t)) x.t := by rw [take_succ_ed h, visitL_snoc]
theorem visit_in {fl : List Int} {t : Int} (h : t ∈ fl) : visit fl t = fl := by rw [visit, if_pos h]
theorem visit_new {fl : List Int} {t : Int} (h : t ∉ fl) : visit fl t = fl ++ [t] := by rw [visit, if_neg h]
/-- What has been found in the midst of a state's edges is found in the end. -/
theorem visit_fnd {a : Au} (h : RightW a) (h0 : 0 < a.st) {n t : Nat} (hn : n < (Fd a n).length) (l : List Ed) (hl : l = succ a.ed ((Fd a n).getD n 0)) : visitL (Fd a n) (l.take t) <+: fnd a := by
  have e : visitL (Fd a n) l = Fd a (n + 1) := by rw [hl, Fd_go hn]
  have h1 : visitL (Fd a n) (l.take t) <+: Fd a (n + 1) := by
    rw [← e]
    conv => rhs; rw [← List.take_append_drop t l, visitL_app]
    exact visitL_pre _ _
  exact h1.trans (Fd_fnd h h0 (n + 1))
theorem outE_take {a : Au} {fl : List Int} {n t : Nat} {x : Ed} {q : Int} (hq : q = fl.getD n 0) (h : (succ a.ed q)[t]? = some x) : (outE a fl n).take (t + 1) = (outE a fl n).take t ++ [⟨(n : Int), x.e, (fl.idxOf x.t : Int)⟩] := by
  subst hq
  unfold outE
  rw [← List.map_take, ← List.map_take, take_succ_ed h, List.map_append]; rfl
theorem news_one {W : World} {x : Value} {T : TypeId} {b : Nat} (hb : W.heap.size = b) : ∀ j u, [x][j]? = some u → (W.alloc (.cells #[x] T)).cell? ((⟨b, 0, none⟩ : Addr).add j) = some u := by
  subst hb
  intro j u hj
  match j, hj with
  | 0, hj => simp at hj; subst hj; simp [Addr.add]
theorem EdAt.made' {w : World} {b : Nat} (f e t : Int) (T : TypeId) (hb : w.heap.size = b) : EdAt (w.alloc (.cells #[.int .i64 f, .int .i64 e, .int .i64 t] T)) b 0 ⟨f, e, t⟩ := by
  subst hb; exact EdAt.made w f e t T
theorem idx_new {fl : List Int} {T : Int} (h : T ∉ fl) : (fl ++ [T]).idxOf T = fl.length := by rw [List.idxOf_append, if_neg h]; simp
end Go.Proofs.Ytcciiikaejjooaa

/- Layer 3, the mathematics of the canonical form's marked states. -/
namespace Go.Proofs.Ytcciiikaejjooaa
open Go.RowKit Go.Sort

/-- The numbers of those of these states that are found. -/
def mkL (fl ms : List Int) : List Int := (ms.filter fun q => decide (q ∈ fl)).map fun q => (fl.idxOf q : Int)
theorem mkL_nil (fl : List Int) : mkL fl [] = [] := rfl
theorem mkL_yes {fl ms : List Int} {k : Nat} (h : k < ms.length) (hp : ms.getD k 0 ∈ fl) : mkL fl (ms.take (k + 1)) = mkL fl (ms.take k) ++ [(fl.idxOf (ms.getD k 0) : Int)] := by
  unfold mkL
  rw [filter_take_yes h (by simpa using hp), List.map_append]; rfl
theorem mkL_no {fl ms : List Int} {k : Nat} (h : k < ms.length) (hp : ms.getD k 0 ∉ fl) : mkL fl (ms.take (k + 1)) = mkL fl (ms.take k) := by
  unfold mkL
  rw [filter_take_no h (by simpa using hp)]
theorem mkL_len (fl ms : List Int) (k : Nat) : (mkL fl (ms.take k)).length ≤ k := by
  unfold mkL; rw [List.length_map]; exact filter_take_le _ _ _
theorem getD_idxOf {l : List Int} {q : Int} (h : q ∈ l) : l.getD (l.idxOf q) 0 = q := by
  have := List.idxOf_lt_length_iff.2 h
  simp [List.getD, List.getElem?_eq_getElem this, List.getElem_idxOf]
theorem idxOf_getD : ∀ {l : List Int} {i : Nat}, l.Nodup → i < l.length → l.idxOf (l.getD i 0) = i
  | [], i, _, hi => by simp at hi
  | x :: l, 0, _, _ => by simp
  | x :: l, i + 1, hd, hi => by
    rw [List.nodup_cons] at hd
    have h1 : i < l.length := by simpa using hi
    have hm : l.getD i 0 ∈ l := getD_mem h1
    have hne : ¬ x = l.getD i 0 := fun e => hd.1 (e ▸ hm)
    rw [List.getD_cons_succ, List.idxOf_cons]
    have : (x == l.getD i 0) = false := by simpa using hne
    rw [this, cond_false, idxOf_getD hd.2 h1]
theorem idx_inj {l : List Int} {x y : Int} (hx : x ∈ l) (hy : y ∈ l) (h : l.idxOf x = l.idxOf y) : x = y := by
  rw [← getD_idxOf hx, h, getD_idxOf hy]
theorem mkL_nodup {fl ms : List Int} (h : ms.Nodup) : (mkL fl ms).Nodup := by
  unfold mkL
  have h1 : (ms.filter fun q => decide (q ∈ fl)).Nodup := h.sublist List.filter_sublist
  rw [List.nodup_iff_pairwise_ne, List.pairwise_map]
  refine (List.nodup_iff_pairwise_ne.1 h1).imp_of_mem fun hx hy hne e => hne ?_
  rw [List.mem_filter] at hx hy
  exact idx_inj (by simpa using hx.2) (by simpa using hy.2) (by omega)
theorem srtI_perm (zs : List Int) : (srtI zs).Perm zs := List.mergeSort_perm zs _
theorem srtI_sorted (zs : List Int) : (srtI zs).Pairwise (· ≤ ·) := by
  have := List.pairwise_mergeSort (le := fun x y : Int => decide (x ≤ y)) (fun x y z h1 h2 => by simp at *; omega) (fun x y => by simp; omega) zs
  exact this.imp fun h => by simpa using h
theorem nodup_lt {l : List Int} (h : l.Pairwise (· ≤ ·)) (hd : l.Nodup) : l.Pairwise (· < ·) := by
  have := h.and (List.nodup_iff_pairwise_ne.1 hd)
  exact this.imp fun h => by omega
theorem lt_nodup {l : List Int} (h : l.Pairwise (· < ·)) : l.Nodup := List.nodup_iff_pairwise_ne.2 (h.imp fun h => by omega)
theorem srtI_lt {zs : List Int} (h : zs.Nodup) : (srtI zs).Pairwise (· < ·) := nodup_lt (srtI_sorted zs) ((srtI_perm zs).nodup_iff.2 h)
theorem lt_ext {l r : List Int} (hl : l.Pairwise (· < ·)) (hr : r.Pairwise (· < ·)) (h : ∀ x, x ∈ l ↔ x ∈ r) : l = r :=
  sorted_ext (r := fun x y : Int => x < y) (fun x => by omega) (fun x y z h1 h2 => by omega) l r hl hr h
theorem mem_canM {a : Au} {x : Int} : x ∈ canM a ↔ ∃ i : Nat, i < (fnd a).length ∧ (fnd a).getD i 0 ∈ a.mr ∧ (i : Int) = x := by
  unfold canM
  rw [List.mem_map]
  constructor
  · rintro ⟨i, h, e⟩
    rw [List.mem_filter, List.mem_range] at h
    exact ⟨i, h.1, by simpa using h.2, e⟩
  · rintro ⟨i, h1, h2, e⟩
    exact ⟨i, by rw [List.mem_filter, List.mem_range]; exact ⟨h1, by simpa using h2⟩, e⟩
theorem canM_lt (a : Au) : (canM a).Pairwise (· < ·) := by
  unfold canM
  rw [List.pairwise_map]
  have h1 : ((List.range (fnd a).length).filter fun i => decide ((fnd a).getD i 0 ∈ a.mr)).Pairwise (· < ·) := List.pairwise_lt_range.sublist List.filter_sublist
  exact h1.imp fun h => by omega
theorem canM_len (a : Au) : (canM a).length ≤ (fnd a).length := by
  unfold canM
  rw [List.length_map]
  exact Nat.le_trans (List.length_filter_le _ _) (by simp)
theorem srt_mk {a : Au} (h : RightW a) : srtI (mkL (fnd a) a.mr) = canM a := by
  refine lt_ext (srtI_lt (mkL_nodup (lt_nodup h.mro))) (canM_lt a) fun x => ?_
  rw [(srtI_perm _).mem_iff, mem_canM]
  unfold mkL
  rw [List.mem_map]
  constructor
  · rintro ⟨q, hq, e⟩
    rw [List.mem_filter] at hq
    have hf : q ∈ fnd a := by simpa using hq.2
    exact ⟨(fnd a).idxOf q, List.idxOf_lt_length_iff.2 hf, by rw [getD_idxOf hf]; exact hq.1, e⟩
  · rintro ⟨i, h1, h2, e⟩
    refine ⟨(fnd a).getD i 0, ?_, by rw [idxOf_getD (fnd_nodup a) h1]; exact e⟩
    rw [List.mem_filter]
    exact ⟨h2, by simpa using getD_mem h1⟩
/-- What canonical has made, while it is stored into its result. -/
structure CR (w : World) (H bc : Nat) (Ac : Option Addr) (al ms : List Int) (es : List Ed) (vm ve : Value) (wr : World) : Prop where
  bel : Below H w wr
  cl : RdI wr bc Ac al
  mo : Own wr (bc + 2) vm ms
  eo : OwnE wr (bc + 2) ve es
  h1 : H + 1 < bc
  h2 : bc ≤ wr.heap.size
theorem CR.set {w : World} {H bc : Nat} {Ac : Option Addr} {al ms : List Int} {es : List Ed} {vm ve : Value} {wr : World} (h : CR w H bc Ac al ms es vm ve wr) (hAc : ∀ b o f, Ac = some ⟨b, o, f⟩ → H + 1 < b) (i : Nat) (v : Value) : CR w H bc Ac al ms es vm ve (wr.setCell ⟨H + 1, i, none⟩ v) := by
  have g1 := h.h1
  refine ⟨h.bel.setCell (p := ⟨H + 1, i, none⟩) (by simp) v, fun h0 => ?_, ownsRow_setCell_below h.mo (a := ⟨H + 1, i, none⟩) (by simp; omega) v, ownsRow_setCell_below h.eo (a := ⟨H + 1, i, none⟩) (by simp; omega) v, g1, by rw [World.size_setCell]; exact h.h2⟩
  obtain ⟨b, o, e, hb, hc⟩ := h.cl h0
  have hb2 := hAc b o none e
  exact ⟨b, o, e, hb, fun j hj => (World.cell?_of_block (a := ⟨b, o + j, none⟩) (Below.heap_setCell wr ⟨H + 1, i, none⟩ v b (by simp; omega))).trans (hc j hj)⟩
theorem CR.alloc {w : World} {H bc : Nat} {Ac : Option Addr} {al ms : List Int} {es : List Ed} {vm ve : Value} {wr : World} (h : CR w H bc Ac al ms es vm ve wr) (o : Obj) : CR w H bc Ac al ms es vm ve (wr.alloc o) :=
  ⟨h.bel.alloc (by have := h.h1; have := h.h2; omega) o, h.cl.below ((Below.refl bc wr).alloc h.h2 o) (Nat.le_refl _), h.mo.alloc o, h.eo.alloc o, h.h1, by have := h.h2; simp; omega⟩
/-- What a function hands back that makes an automaton in new memory, from block base on. -/
def AuF (a : Au) (v : Value) (w : World) (base : Nat) : Prop := ∃ A n c s M m d E k g, v = .agg #[.slice A n c, .int .i64 s, .slice M m d, .slice E k g] ∧ AuR w w.heap.size A n c s M m d E k g a ∧ (∀ b o f, A = some ⟨b, o, f⟩ → base ≤ b) ∧ (∀ b o f, M = some ⟨b, o, f⟩ → base ≤ b) ∧ (∀ b o f, E = some ⟨b, o, f⟩ → base ≤ b)
theorem AuF.below {a : Au} {v : Value} {w w' : World} {base : Nat} (h : AuF a v w base) (hb : Below w.heap.size w w') : AuF a v w' base := by
  obtain ⟨A, n, c, s, M, m, d, E, k, g, e, hr, h1, h2, h3⟩ := h
  exact ⟨A, n, c, s, M, m, d, E, k, g, e, (hr.below hb (Nat.le_refl _)).more hb.size, h1, h2, h3⟩
theorem AuF.more {a : Au} {v : Value} {w : World} {base B : Nat} (h : AuF a v w base) (hB : B ≤ base) : AuF a v w B := by
  obtain ⟨A, n, c, s, M, m, d, E, k, g, e, hr, h1, h2, h3⟩ := h
  exact ⟨A, n, c, s, M, m, d, E, k, g, e, hr, fun b o f e => Nat.le_trans hB (h1 b o f e), fun b o f e => Nat.le_trans hB (h2 b o f e), fun b o f e => Nat.le_trans hB (h3 b o f e)⟩
theorem RdI.off {w : World} {B base X i : Nat} {A : Option Addr} {zs : List Int} (h : RdI w B A zs) (hA : ∀ b o f, A = some ⟨b, o, f⟩ → base ≤ b) (hX : X < base) (v : Value) : RdI (w.setCell ⟨X, i, none⟩ v) B A zs := fun h0 => by
  obtain ⟨b, o, e, hb, hc⟩ := h h0
  have := hA b o none e
  exact ⟨b, o, e, hb, fun j hj => (World.cell?_of_block (a := ⟨b, o + j, none⟩) (Below.heap_setCell w ⟨X, i, none⟩ v b (by simp; omega))).trans (hc j hj)⟩
theorem RdG.off {w : World} {B base X i : Nat} {A : Option Addr} {zs : List Ed} (h : RdG w B A zs) (hA : ∀ b o f, A = some ⟨b, o, f⟩ → base ≤ b) (hX : X < base) (v : Value) : RdG (w.setCell ⟨X, i, none⟩ v) B A zs := fun h0 => by
  obtain ⟨b, o, e, hb, hc⟩ := h h0
  have := hA b o none e
  exact ⟨b, o, e, hb, fun j x hj => (hc j x hj).setFar (p := ⟨X, i, none⟩) (by simp; omega) v⟩
theorem AuF.set {a : Au} {v : Value} {w : World} {base X : Nat} (h : AuF a v w base) (hX : X < base) (i : Nat) (u : Value) : AuF a v (w.setCell ⟨X, i, none⟩ u) base := by
  obtain ⟨A, n, c, s, M, m, d, E, k, g, e, hr, h1, h2, h3⟩ := h
  exact ⟨A, n, c, s, M, m, d, E, k, g, e, { hr with al := by rw [World.size_setCell]; exact hr.al.off h1 hX u, mr := by rw [World.size_setCell]; exact hr.mr.off h2 hX u, ed := by rw [World.size_setCell]; exact hr.ed.off h3 hX u }, h1, h2, h3⟩
theorem AuF.zero (w : World) (base : Nat) : AuF ⟨[], 0, [], []⟩ (.agg #[.slice none 0 0, .int .i64 0, .slice none 0 0, .slice none 0 0]) w base :=
  ⟨none, 0, 0, 0, none, 0, 0, none, 0, 0, rfl, { al := RdI.nil _ _ _, mr := RdI.nil _ _ _, ed := RdG.nil _ _ _, hn := rfl, hm := rfl, hk := rfl, st := rfl, cn := by omega, cm := by omega, ck := by omega, bn := by omega, bm := by omega, bk := by omega }, fun b o f e => (by cases e), fun b o f e => (by cases e), fun b o f e => (by cases e)⟩
theorem own_from {w : World} {base n c : Nat} {A : Option Addr} {e : TypeId} {sz : Nat} {m : Nat} {xs : List Value} (h : w.ownsRow base e sz (.slice A n c) m xs) : ∀ b o f, A = some ⟨b, o, f⟩ → base ≤ b := fun b o f e => by
  subst e; exact (h.lt b rfl).1
theorem CR.gives {w : World} {H bc : Nat} {Ac : Option Addr} {a : Au} {vm ve : Value} {wr : World} {n cc : Nat} (h : CR w H bc Ac a.al (canM a) (canEn a (fnd a).length) vm ve wr) (hAc : ∀ b o f, Ac = some ⟨b, o, f⟩ → H + 1 < b) (hn : a.al.length = n) (hc : n ≤ cc ∧ cc ≤ 9223372036854775807) (hbn : n ≤ 100000) (hm : (canM a).length ≤ 100000) (he : (canEn a (fnd a).length).length ≤ 1000000) :
    AuF (canA a) (.agg #[.slice Ac n cc, .int .i64 ((fnd a).length : Int), vm, ve]) wr H ∧ Below H w wr := by
  have g1 := h.h1
  obtain ⟨M', d', rfl, hm1, hm2, hm3⟩ := own_rdc h.mo
  obtain ⟨E', g', rfl, he1, he2, he3⟩ := ownE_rd h.eo
  exact ⟨⟨Ac, n, cc, ((fnd a).length : Int), M', _, d', E', _, g', rfl,
    { al := h.cl.more (by have := h.h2; omega), mr := hm1, ed := he1, hn := hn, hm := rfl, hk := rfl, st := rfl, cn := hc, cm := ⟨hm2, hm3⟩, ck := ⟨he2, he3⟩, bn := hbn, bm := hm, bk := he },
    fun b o f e => by have := hAc b o f e; omega, fun b o f e => by have := own_from h.mo b o f e; omega, fun b o f e => by have := own_from h.eo b o f e; omega⟩, h.bel⟩
theorem CR.gives' {w : World} {H bc : Nat} {Ac : Option Addr} {a : Au} {vm ve : Value} {wr : World} {n cc n0 : Nat} (h : CR w H bc Ac a.al (canM a) (canEn a n0) vm ve wr) (hAc : ∀ b o f, Ac = some ⟨b, o, f⟩ → H + 1 < b) (h0 : n0 = (fnd a).length) (hn : a.al.length = n) (hc : n ≤ cc ∧ cc ≤ 9223372036854775807) (hbn : n ≤ 100000) (hm : (canM a).length ≤ 100000) (he : (canEn a n0).length ≤ 1000000) :
    AuF (canA a) (.agg #[.slice Ac n cc, .int .i64 (n0 : Int), vm, ve]) wr H ∧ Below H w wr := by
  subst h0; exact h.gives hAc hn hc hbn hm he
end Go.Proofs.Ytcciiikaejjooaa
