/- Layer 3: Check of the program: the first error of an automaton. -/
import Derived.Test.YtcciiikaejjooaaaAut
import Derived.IntWalk
namespace Go.Proofs.Ytcciiikaejjooaa
open Go.RowKit Go.Sort

/-- The four cells of an automaton in a box. -/
structure BoxA (w : World) (b : Nat) (A : Option Addr) (n c : Nat) (s : Int) (M : Option Addr) (m d : Nat) (E : Option Addr) (k g : Nat) : Prop where
  c0 : w.cell? ⟨b, 0, none⟩ = some (.slice A n c)
  c1 : w.cell? ⟨b, 1, none⟩ = some (.int .i64 s)
  c2 : w.cell? ⟨b, 2, none⟩ = some (.slice M m d)
  c3 : w.cell? ⟨b, 3, none⟩ = some (.slice E k g)
theorem BoxA.below {w w' : World} {b B : Nat} {A : Option Addr} {n c : Nat} {s : Int} {M : Option Addr} {m d : Nat} {E : Option Addr} {k g : Nat} (h : BoxA w b A n c s M m d E k g) (hb : Below B w w') (hB : b < B) : BoxA w' b A n c s M m d E k g :=
  ⟨(hb.cell (p := ⟨b, 0, none⟩) hB).trans h.c0, (hb.cell (p := ⟨b, 1, none⟩) hB).trans h.c1, (hb.cell (p := ⟨b, 2, none⟩) hB).trans h.c2, (hb.cell (p := ⟨b, 3, none⟩) hB).trans h.c3⟩
theorem BoxA.made (w : World) (A : Option Addr) (n c : Nat) (s : Int) (M : Option Addr) (m d : Nat) (E : Option Addr) (k g : Nat) (t : TypeId) : BoxA (w.alloc (.cells #[.slice A n c, .int .i64 s, .slice M m d, .slice E k g] t)) w.heap.size A n c s M m d E k g :=
  ⟨by rw [World.cell?_alloc_at _ _ _ _ rfl]; rfl, by rw [World.cell?_alloc_at _ _ _ _ rfl]; rfl, by rw [World.cell?_alloc_at _ _ _ _ rfl]; rfl, by rw [World.cell?_alloc_at _ _ _ _ rfl]; rfl⟩
theorem BoxA.drewN {w : World} {b : Nat} {A : Option Addr} {n c : Nat} {s : Int} {M : Option Addr} {m d : Nat} {E : Option Addr} {k g : Nat} (h : BoxA w b A n c s M m d E k g) (q : Nat) : BoxA (w.drewN q) b A n c s M m d E k g := ⟨h.c0, h.c1, h.c2, h.c3⟩
theorem bcell {W w1 : World} (hb : Below W.heap.size W w1) : (∀ b o, b < W.heap.size → w1.cell? ⟨b, o, none⟩ = W.cell? ⟨b, o, none⟩) ∧ (∀ b o, b < W.heap.size → w1.frozen? ⟨b, o, none⟩ = W.frozen? ⟨b, o, none⟩) :=
  ⟨fun b o h => hb.cell (p := ⟨b, o, none⟩) h, fun b o h => hb.frozen (p := ⟨b, o, none⟩) h⟩

theorem EdAt.below {w w' : World} {b o B : Nat} {x : Ed} (h : EdAt w b o x) (hb : Below B w w') (hB : b < B) : EdAt w' b o x := h.keep fun o => hb.cell (p := ⟨b, o, none⟩) hB
theorem EdAt.made (w : World) (f e t : Int) (T : TypeId) : EdAt (w.alloc (.cells #[.int .i64 f, .int .i64 e, .int .i64 t] T)) w.heap.size 0 ⟨f, e, t⟩ :=
  ⟨by rw [World.cell?_alloc_at _ _ _ _ rfl]; rfl, by rw [World.cell?_alloc_at _ _ _ _ rfl]; rfl, by rw [World.cell?_alloc_at _ _ _ _ rfl]; rfl⟩
theorem EdAt.shift0 {w : World} {b : Nat} {x : Ed} (h : EdAt w b 0 x) : w.cell? ⟨b, 0, none⟩ = some (.int .i64 x.f) ∧ w.cell? ⟨b, 1, none⟩ = some (.int .i64 x.e) ∧ w.cell? ⟨b, 2, none⟩ = some (.int .i64 x.t) := h
def ordE : Option Ed → Ed → Bool
  | some y, x => decide (cmpE x y ≤ 0)
  | none, _ => false
/-- The first error of edges behind an edge. -/
def egGo (al : List Int) (s : Int) : Option Ed → List Ed → Int
  | _, [] => 0
  | p, x :: r => if inSt s x.f = false ∨ inSt s x.t = false then 2 else if x.e ∉ al then 9 else if ordE p x = true then 5 else egGo al s (some x) r
def egE (a : Au) : Int := egGo a.al a.st none a.ed
def prevE (l : List Ed) (j : Nat) : Option Ed := if j = 0 then none else l[j - 1]?
def edZ : Ed := ⟨0, 0, 0⟩
theorem drop_stepE {l : List Ed} {j : Nat} {x : Ed} (h : l[j]? = some x) : l.drop j = x :: l.drop (j + 1) := by
  obtain ⟨hk, e⟩ := List.getElem?_eq_some_iff.1 h
  rw [List.drop_eq_getElem_cons hk, e]
theorem eg_range {al : List Int} {s : Int} {l : List Ed} {j : Nat} {x : Ed} {p : Option Ed} {v : Int} (h : l[j]? = some x) (hv : egGo al s p (l.drop j) = v) (hx : inSt s x.f = false ∨ inSt s x.t = false) : v = 2 := by
  rw [← hv, drop_stepE h, egGo, if_pos hx]
theorem eg_unknown {al : List Int} {s : Int} {l : List Ed} {j : Nat} {x : Ed} {p : Option Ed} {v : Int} (h : l[j]? = some x) (hv : egGo al s p (l.drop j) = v) (h1 : inSt s x.f = true) (h2 : inSt s x.t = true) (hx : decide (x.e ∈ al) = false) : v = 9 := by
  rw [← hv, drop_stepE h, egGo, if_neg (by simp [h1, h2]), if_pos (by simpa using hx)]
theorem prevE_some {l : List Ed} {j : Nat} {y : Ed} (hj : 0 < j) (hy : l[j - 1]? = some y) : prevE l j = some y := by
  rw [prevE, if_neg (Nat.ne_of_gt hj), hy]
theorem eg_order {al : List Int} {s : Int} {l : List Ed} {j : Nat} {x y : Ed} {v : Int} (h : l[j]? = some x) (hv : egGo al s (prevE l j) (l.drop j) = v) (h1 : inSt s x.f = true) (h2 : inSt s x.t = true) (h3 : decide (x.e ∈ al) = true) (hj : 0 < j) (hy : l[j - 1]? = some y) (hx : cmpE x y ≤ 0) : v = 5 := by
  rw [← hv, prevE_some hj hy, drop_stepE h, egGo, if_neg (by simp [h1, h2]), if_neg (by simpa using h3), if_pos (by simpa [ordE] using hx)]
theorem eg_next {al : List Int} {s : Int} {l : List Ed} {j : Nat} {x : Ed} {v : Int} (h : l[j]? = some x) (hv : egGo al s (prevE l j) (l.drop j) = v) (h1 : inSt s x.f = true) (h2 : inSt s x.t = true) (h3 : decide (x.e ∈ al) = true) (hx : ∀ y, 0 < j → l[j - 1]? = some y → ¬ cmpE x y ≤ 0) : egGo al s (prevE l (j + 1)) (l.drop (j + 1)) = v := by
  have e : prevE l (j + 1) = some x := by simp [prevE, h]
  rw [e, ← hv, drop_stepE h, egGo, if_neg (by simp [h1, h2]), if_neg (by simpa using h3)]
  rcases Nat.eq_zero_or_pos j with rfl | hj
  · simp [prevE, ordE]
  · cases hy : l[j - 1]? with
    | none => simp [prevE, hy, ordE, Nat.ne_of_gt hj]
    | some y => rw [prevE_some hj hy, if_neg (by simpa [ordE] using hx y hj hy)]
theorem eg_end {al : List Int} {s : Int} {l : List Ed} {j : Nat} {p : Option Ed} {v : Int} (hj : l.length = j) (hv : egGo al s p (l.drop j) = v) : v = 0 := by
  rw [← hv, List.drop_of_length_le (by omega), egGo]

set_option maxHeartbeats 1600000 in
theorem checkEdges_any (A : Option Addr) (n c : Nat) (s : Int) (M : Option Addr) (m d : Nat) (E : Option Addr) (k g : Nat) (a : Au) (w : World) (h : AuR w w.heap.size A n c s M m d E k g a) (hup : Up a.al) :
    Calls Try.prog 50 #[.agg #[.slice A n c, .int .i64 s, .slice M m d, .slice E k g]] w fun e w' => e = .returned (.int .i64 (egE a)) ∧ Below w.heap.size w w' := by
  obtain ⟨b0, hb0⟩ : ∃ b0, b0 = w.heap.size := ⟨_, rfl⟩
  have HR := Lib.hid h
  have hk1 := h.bk
  obtain ⟨v, hv⟩ : ∃ v, v = egE a := ⟨_, rfl⟩
  rw [← hv]
  have HV := Lib.hid (show egGo a.al s (prevE a.ed 0) (a.ed.drop 0) = v by rw [hv, egE, h.st]; rfl)
  have HS := Lib.hid (fun x W => isState_any A n c s M m d E k g x W)
  have HE := Lib.hid (fun x W (hw : Below w.heap.size w W) => hasEvent_any A n c s M m d E k g x w.heap.size a.al W (h.al.below hw (Nat.le_refl _)) hw.size h.hn h.bn hup)
  have HC := Lib.hid compareEdges_any
  have HX := Lib.hid (BoxA.made w A n c s M m d E k g 25)
  have HB1 := Lib.hid ((Below.refl w.heap.size w).alloc (Nat.le_refl _) (.cells #[.slice A n c, .int .i64 s, .slice M m d, .slice E k g] 25))
  clear h hup hv
  go_enter Try.func50, Try.ntmps50
  go_wp2_with fail
  go_loopw [8] (fun i wr => ∃ j : Nat, j ≤ k ∧ i = .int .i64 j ∧ Hid (egGo a.al s (prevE a.ed j) (a.ed.drop j) = v) ∧ Below w.heap.size w wr ∧ Hid (BoxA wr w.heap.size A n c s M m d E k g) ∧ w.heap.size < wr.heap.size) (fun i _ => k - (intOf i).toNat)
  case atStart => exact ⟨0, Nat.zero_le _, rfl, HV, HB1.out, HX, by simp⟩
  case round =>
    obtain ⟨j, hj, rfl, ht, hbel, hbx, hlt0⟩ := hrel
    have hk2 := Lib.hid HR.out.hk
    by_cases hlt : j < k
    · have hz : j < a.ed.length := by rw [hk2.out]; exact hlt
      obtain ⟨b1, o1, rfl, hb1, hc1⟩ := HR.out.ed (by omega)
      obtain ⟨x, hx⟩ : ∃ x, a.ed[j]? = some x := ⟨_, List.getElem?_eq_getElem hz⟩
      have hxa := (hc1 j x hx)
      have hxr : EdAt wr b1 (o1 + j * 3) x := hxa.keep fun o => hbel.cell (p := ⟨b1, o, none⟩) hb1
      obtain ⟨x0, x1, x2⟩ := hxr
      have hX := Lib.hid hx
      clear hx hxa hz hc1
      obtain ⟨xf, xe, xt⟩ := x
      obtain ⟨u0, hu0⟩ : ∃ u0, inSt s xf = u0 := ⟨_, rfl⟩
      have H0 := Lib.hid (fun W => by have h := HS.out xf W; rw [hu0] at h; exact h)
      simp only at x0 x1 x2
      have hl1 : Below wr.heap.size wr (wr.alloc (.cells #[.int .i64 xf, .int .i64 xe, .int .i64 xt] 67)) := (Below.refl _ _).alloc (Nat.le_refl _) _
      have HL1 := Lib.hid hl1
      have BX := Lib.hid (hbx.out.below hl1 hlt0)
      have XX := Lib.hid (EdAt.made wr xf xe xt 67)
      obtain ⟨y0, y1, y2, y3⟩ := hbx.out
      clear hl1
      cases u0
      · have hr := Lib.hid (eg_range hX.out ht.out (.inl hu0))
        clear hu0
        go_wp2_with fail
        refine (H0.out _).mono ?_
        rintro e w1 ⟨rfl, hbw⟩
        have hz1 := hbw.size
        simp only [World.size_alloc] at hz1
        have BX1 := Lib.hid (BX.out.below hbw (by simp; omega))
        have XX1 := Lib.hid (XX.out.below hbw (by simp))
        have hB1 := hbel.trans ((HL1.out.trans (hbw.mono (by simp))).mono (Nat.le_of_lt hlt0))
        obtain ⟨p0, p1, p2, p3⟩ := BX1.out
        obtain ⟨q0, q1, q2⟩ := XX1.out.shift0
        clear hbw
        go_wp2_with fail
        go_ret
        exact ⟨ret_int hr.out.symm, hB1⟩
      · obtain ⟨u1, hu1⟩ : ∃ u1, inSt s xt = u1 := ⟨_, rfl⟩
        have H1 := Lib.hid (fun W => by have h := HS.out xt W; rw [hu1] at h; exact h)
        cases u1
        · have hr := Lib.hid (eg_range hX.out ht.out (.inr hu1))
          clear hu0 hu1
          go_wp2_with fail
          refine (H0.out _).mono ?_
          rintro e w1 ⟨rfl, hbw⟩
          have hz1 := hbw.size
          simp only [World.size_alloc] at hz1
          have BX1 := Lib.hid (BX.out.below hbw (by simp; omega))
          have XX1 := Lib.hid (XX.out.below hbw (by simp))
          have hB1 := hbel.trans ((HL1.out.trans (hbw.mono (by simp))).mono (Nat.le_of_lt hlt0))
          obtain ⟨p0, p1, p2, p3⟩ := BX1.out
          obtain ⟨q0, q1, q2⟩ := XX1.out.shift0
          clear hbw
          go_wp2_with fail
          refine (H1.out _).mono ?_
          rintro e w2 ⟨rfl, hbw⟩
          have hz2 := hbw.size
          have BX2 := Lib.hid (BX1.out.below hbw (by omega))
          have XX2 := Lib.hid (XX1.out.below hbw (by omega))
          have hB2 := hB1.trans (hbw.mono hB1.size)
          clear p0 p1 p2 p3 q0 q1 q2 hbw
          obtain ⟨p0, p1, p2, p3⟩ := BX2.out
          obtain ⟨q0, q1, q2⟩ := XX2.out.shift0
          go_wp2_with fail
          go_ret
          exact ⟨ret_int hr.out.symm, hB2⟩
        · obtain ⟨r, hr0⟩ : ∃ r, decide (xe ∈ a.al) = r := ⟨_, rfl⟩
          have H2 := Lib.hid (fun W (hw : Below w.heap.size w W) => by have h := HE.out xe W hw; rw [hr0] at h; exact h)
          cases r
          · have hr := Lib.hid (eg_unknown hX.out ht.out hu0 hu1 hr0)
            clear hu0 hu1 hr0
            go_wp2_with fail
            refine (H0.out _).mono ?_
            rintro e w1 ⟨rfl, hbw⟩
            have hz1 := hbw.size
            simp only [World.size_alloc] at hz1
            have BX1 := Lib.hid (BX.out.below hbw (by simp; omega))
            have XX1 := Lib.hid (XX.out.below hbw (by simp))
            have hB1 := hbel.trans ((HL1.out.trans (hbw.mono (by simp))).mono (Nat.le_of_lt hlt0))
            obtain ⟨p0, p1, p2, p3⟩ := BX1.out
            obtain ⟨q0, q1, q2⟩ := XX1.out.shift0
            clear hbw
            go_wp2_with fail
            refine (H1.out _).mono ?_
            rintro e w2 ⟨rfl, hbw⟩
            have hz2 := hbw.size
            have BX2 := Lib.hid (BX1.out.below hbw (by omega))
            have XX2 := Lib.hid (XX1.out.below hbw (by omega))
            have hB2 := hB1.trans (hbw.mono hB1.size)
            clear p0 p1 p2 p3 q0 q1 q2 hbw
            obtain ⟨p0, p1, p2, p3⟩ := BX2.out
            obtain ⟨q0, q1, q2⟩ := XX2.out.shift0
            go_wp2_with fail
            refine (H2.out _ hB2).mono ?_
            rintro e w3 ⟨rfl, hbw⟩
            have hz3 := hbw.size
            have BX3 := Lib.hid (BX2.out.below hbw (by omega))
            have XX3 := Lib.hid (XX2.out.below hbw (by omega))
            have hB3 := hB2.trans (hbw.mono hB2.size)
            clear p0 p1 p2 p3 q0 q1 q2 hbw
            obtain ⟨p0, p1, p2, p3⟩ := BX3.out
            obtain ⟨q0, q1, q2⟩ := XX3.out.shift0
            go_wp2_with fail
            go_ret
            exact ⟨ret_int hr.out.symm, hB3⟩
          · have hU0 := Lib.hid hu0
            have hU1 := Lib.hid hu1
            have hR0 := Lib.hid hr0
            clear hu0 hu1 hr0
            rcases Nat.eq_zero_or_pos j with hj0 | hj0
            · have hn := Lib.hid (eg_next hX.out ht.out hU0.out hU1.out hR0.out (fun y hy => absurd hy (by omega)))
              have hd : decide (0 < j) = false := by simp; omega
              clear hj0
              go_wp2_with fail
              refine (H0.out _).mono ?_
              rintro e w1 ⟨rfl, hbw⟩
              have hz1 := hbw.size
              simp only [World.size_alloc] at hz1
              have BX1 := Lib.hid (BX.out.below hbw (by simp; omega))
              have XX1 := Lib.hid (XX.out.below hbw (by simp))
              have hB1 := hbel.trans ((HL1.out.trans (hbw.mono (by simp))).mono (Nat.le_of_lt hlt0))
              obtain ⟨p0, p1, p2, p3⟩ := BX1.out
              obtain ⟨q0, q1, q2⟩ := XX1.out.shift0
              clear hbw
              go_wp2_with fail
              refine (H1.out _).mono ?_
              rintro e w2 ⟨rfl, hbw⟩
              have hz2 := hbw.size
              have BX2 := Lib.hid (BX1.out.below hbw (by omega))
              have XX2 := Lib.hid (XX1.out.below hbw (by omega))
              have hB2 := hB1.trans (hbw.mono hB1.size)
              clear p0 p1 p2 p3 q0 q1 q2 hbw
              obtain ⟨p0, p1, p2, p3⟩ := BX2.out
              obtain ⟨q0, q1, q2⟩ := XX2.out.shift0
              go_wp2_with fail
              refine (H2.out _ hB2).mono ?_
              rintro e w3 ⟨rfl, hbw⟩
              have hz3 := hbw.size
              have BX3 := Lib.hid (BX2.out.below hbw (by omega))
              have XX3 := Lib.hid (XX2.out.below hbw (by omega))
              have hB3 := hB2.trans (hbw.mono hB2.size)
              clear p0 p1 p2 p3 q0 q1 q2 hbw
              obtain ⟨p0, p1, p2, p3⟩ := BX3.out
              obtain ⟨q0, q1, q2⟩ := XX3.out.shift0
              go_wp2_with fail
              go_quiet (fail)
              go_wp2
              go_roundw
              case rel => exact ⟨j + 1, by omega, by go_num, hn, below_drewN hB3 _, Lib.hid (BX3.out.drewN _), by simp; omega⟩
              case measure => simp [intOf]; omega
            · obtain ⟨t, ht1⟩ : ∃ t, t + 1 = j := ⟨j - 1, by omega⟩
              have HT := Lib.hid ht1
              have HT2 := Lib.hid (show j - 1 = t by omega)
              clear ht1
              obtain ⟨y, hy⟩ : ∃ y, a.ed[j - 1]? = some y := ⟨_, List.getElem?_eq_getElem (by rw [hk2.out]; omega)⟩
              have hd : decide (0 < j) = true := by simp; omega
              obtain ⟨b2, o2, e2, hb2, hc2⟩ := HR.out.ed (by rw [hk2.out]; omega)
              injection e2 with e2
              injection e2 with e2 e3
              subst e2
              subst e3
              have hya := Lib.hid (show EdAt w b1 (o1 + t * 3) y by rw [← HT2.out]; exact hc2 (j - 1) y hy)
              have HB1b := Lib.hid hb2
              have hY := Lib.hid hy
              clear hy hc2 hb2
              obtain ⟨yf, ye, yt⟩ := y
              obtain ⟨u, hu⟩ : ∃ u, cmpE ⟨xf, xe, xt⟩ ⟨yf, ye, yt⟩ = u := ⟨_, rfl⟩
              have HC2 := Lib.hid (fun W => by have h := HC.out xf xe xt yf ye yt W; rw [hu] at h; exact h)
              have HU := Lib.hid hu
              clear hu
              by_cases hc0 : u ≤ 0
              · have hr := Lib.hid (eg_order hX.out ht.out hU0.out hU1.out hR0.out hj0 hY.out (by rw [HU.out]; exact hc0))
                go_wp2_with fail
                refine (H0.out _).mono ?_
                rintro e w1 ⟨rfl, hbw⟩
                have hz1 := hbw.size
                simp only [World.size_alloc] at hz1
                have BX1 := Lib.hid (BX.out.below hbw (by simp; omega))
                have XX1 := Lib.hid (XX.out.below hbw (by simp))
                have hB1 := hbel.trans ((HL1.out.trans (hbw.mono (by simp))).mono (Nat.le_of_lt hlt0))
                obtain ⟨p0, p1, p2, p3⟩ := BX1.out
                obtain ⟨q0, q1, q2⟩ := XX1.out.shift0
                clear hbw
                go_wp2_with fail
                refine (H1.out _).mono ?_
                rintro e w2 ⟨rfl, hbw⟩
                have hz2 := hbw.size
                have BX2 := Lib.hid (BX1.out.below hbw (by omega))
                have XX2 := Lib.hid (XX1.out.below hbw (by omega))
                have hB2 := hB1.trans (hbw.mono hB1.size)
                clear p0 p1 p2 p3 q0 q1 q2 hbw
                obtain ⟨p0, p1, p2, p3⟩ := BX2.out
                obtain ⟨q0, q1, q2⟩ := XX2.out.shift0
                go_wp2_with fail
                refine (H2.out _ hB2).mono ?_
                rintro e w3 ⟨rfl, hbw⟩
                have hz3 := hbw.size
                have BX3 := Lib.hid (BX2.out.below hbw (by omega))
                have XX3 := Lib.hid (XX2.out.below hbw (by omega))
                have hB3 := hB2.trans (hbw.mono hB2.size)
                clear p0 p1 p2 p3 q0 q1 q2 hbw
                obtain ⟨p0, p1, p2, p3⟩ := BX3.out
                obtain ⟨q0, q1, q2⟩ := XX3.out.shift0
                go_wp2_with fail
                have hyw : EdAt w3 b1 (o1 + t * 3) ⟨yf, ye, yt⟩ := hya.out.keep fun o => hB3.cell (p := ⟨b1, o, none⟩) (HB1b.out)
                obtain ⟨r0, r1, r2⟩ := hyw
                have hbb : b1 < w3.heap.size := Nat.lt_of_lt_of_le HB1b.out hB3.size
                have g3 := fun n os => cell_grown (show w.heap.size < w3.heap.size by omega) p3 n os
                have k0 := fun n os => cell_grown (show wr.heap.size < w3.heap.size by omega) q0 n os
                have k1 := fun n os => cell_grown (show wr.heap.size < w3.heap.size by omega) q1 n os
                have k2 := fun n os => cell_grown (show wr.heap.size < w3.heap.size by omega) q2 n os
                have l0 := fun n os => cell_grown hbb r0 n os
                have l1 := fun n os => cell_grown hbb r1 n os
                have l2 := fun n os => cell_grown hbb r2 n os
                clear p0 p1 p2 p3 q0 q1 q2 r0 r1 r2
                have hwr : IntKind.i64.wrap ((j : Int) - 1) = (t : Int) := by rw [IntWalk.i64_in _ (by omega)]; have := HT.out; omega
                have htk : t < k := by have := HT.out; omega
                have hmix : Try.prog.follows .mixedOrders = true := by kernel_rfl
                go_quiet_grown ((go_at_call 64; exact Calls.grown_of (HC2.out _)))
                go_wp2_with fail
                go_ret
                exact ⟨ret_int hr.out.symm, hB3.trans ((below_grow _ _ _).mono hB3.size)⟩
              · have hn := Lib.hid (eg_next hX.out ht.out hU0.out hU1.out hR0.out (fun y _ hy => by
                  rw [hY.out] at hy; injection hy with hy; rw [← hy, HU.out]; exact hc0))
                go_wp2_with fail
                refine (H0.out _).mono ?_
                rintro e w1 ⟨rfl, hbw⟩
                have hz1 := hbw.size
                simp only [World.size_alloc] at hz1
                have BX1 := Lib.hid (BX.out.below hbw (by simp; omega))
                have XX1 := Lib.hid (XX.out.below hbw (by simp))
                have hB1 := hbel.trans ((HL1.out.trans (hbw.mono (by simp))).mono (Nat.le_of_lt hlt0))
                obtain ⟨p0, p1, p2, p3⟩ := BX1.out
                obtain ⟨q0, q1, q2⟩ := XX1.out.shift0
                clear hbw
                go_wp2_with fail
                refine (H1.out _).mono ?_
                rintro e w2 ⟨rfl, hbw⟩
                have hz2 := hbw.size
                have BX2 := Lib.hid (BX1.out.below hbw (by omega))
                have XX2 := Lib.hid (XX1.out.below hbw (by omega))
                have hB2 := hB1.trans (hbw.mono hB1.size)
                clear p0 p1 p2 p3 q0 q1 q2 hbw
                obtain ⟨p0, p1, p2, p3⟩ := BX2.out
                obtain ⟨q0, q1, q2⟩ := XX2.out.shift0
                go_wp2_with fail
                refine (H2.out _ hB2).mono ?_
                rintro e w3 ⟨rfl, hbw⟩
                have hz3 := hbw.size
                have BX3 := Lib.hid (BX2.out.below hbw (by omega))
                have XX3 := Lib.hid (XX2.out.below hbw (by omega))
                have hB3 := hB2.trans (hbw.mono hB2.size)
                clear p0 p1 p2 p3 q0 q1 q2 hbw
                obtain ⟨p0, p1, p2, p3⟩ := BX3.out
                obtain ⟨q0, q1, q2⟩ := XX3.out.shift0
                go_wp2_with fail
                have hyw : EdAt w3 b1 (o1 + t * 3) ⟨yf, ye, yt⟩ := hya.out.keep fun o => hB3.cell (p := ⟨b1, o, none⟩) (HB1b.out)
                obtain ⟨r0, r1, r2⟩ := hyw
                have hbb : b1 < w3.heap.size := Nat.lt_of_lt_of_le HB1b.out hB3.size
                have g3 := fun n os => cell_grown (show w.heap.size < w3.heap.size by omega) p3 n os
                have k0 := fun n os => cell_grown (show wr.heap.size < w3.heap.size by omega) q0 n os
                have k1 := fun n os => cell_grown (show wr.heap.size < w3.heap.size by omega) q1 n os
                have k2 := fun n os => cell_grown (show wr.heap.size < w3.heap.size by omega) q2 n os
                have l0 := fun n os => cell_grown hbb r0 n os
                have l1 := fun n os => cell_grown hbb r1 n os
                have l2 := fun n os => cell_grown hbb r2 n os
                clear p0 p1 p2 p3 q0 q1 q2 r0 r1 r2
                have hwr : IntKind.i64.wrap ((j : Int) - 1) = (t : Int) := by rw [IntWalk.i64_in _ (by omega)]; have := HT.out; omega
                have htk : t < k := by have := HT.out; omega
                have hmix : Try.prog.follows .mixedOrders = true := by kernel_rfl
                go_quiet_grown ((go_at_call 64; exact Calls.grown_of (HC2.out _)))
                go_wp2_with fail
                go_roundw
                case rel => exact ⟨j + 1, by omega, by go_num, hn, hB3.trans ((below_grow _ _ _).mono hB3.size), Lib.hid (BX3.out.below (below_grow _ _ _) (by omega)), by have := (below_grow w3 nq osq).size; omega⟩
                case measure => simp [intOf]; omega
    · have hr := Lib.hid (eg_end (j := j) (by rw [hk2.out]; omega) ht.out)
      go_wp2
      go_ret
      exact ⟨ret_int hr.out.symm, hbel⟩
end Go.Proofs.Ytcciiikaejjooaa
