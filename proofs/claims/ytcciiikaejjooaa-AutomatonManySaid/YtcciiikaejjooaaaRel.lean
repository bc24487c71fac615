/- Layer 3: Relabel of the program. -/
import Derived.Test.YtcciiikaejjooaaaRelM
namespace Go.Proofs.Ytcciiikaejjooaa
open Go.RowKit Go.Sort

theorem cell_set4 {w : World} {X b i : Nat} {v0 v1 v2 v3 : Value} (h : b ≠ X) : ((((w.setCell ⟨X, 0, none⟩ v0).setCell ⟨X, 1, none⟩ v1).setCell ⟨X, 2, none⟩ v2).setCell ⟨X, 3, none⟩ v3).cell? ⟨b, i, none⟩ = w.cell? ⟨b, i, none⟩ := by
  have e : ∀ (W : World) j v, (W.setCell ⟨X, j, none⟩ v).cell? ⟨b, i, none⟩ = W.cell? ⟨b, i, none⟩ := fun W j v => World.cell?_of_block (a := ⟨b, i, none⟩) (Below.heap_setCell W ⟨X, j, none⟩ v b h)
  rw [e, e, e, e]

set_option maxHeartbeats 4000000 in
set_option maxRecDepth 100000 in
theorem mRelabel_any (A : Option Addr) (n c : Nat) (s : Int) (M : Option Addr) (m d : Nat) (E : Option Addr) (k g : Nat) (a : Au) (T : Option Addr) (l lc : Nat) (tl : List Int) (w : World) (h : AuR w w.heap.size A n c s M m d E k g a) (ht : RdI w w.heap.size T tl) (hl : tl.length = l) (hlc : l ≤ lc) (hlb : l ≤ 100000) :
    Calls Try.prog 24 #[.agg #[.slice A n c, .int .i64 s, .slice M m d, .slice E k g], .slice T l lc] w fun e w' => GivesA w (relR a tl) e w' := by
  have hb1 := ((Below.refl w.heap.size w).alloc (Nat.le_refl _) (.cells #[.slice A n c, .int .i64 s, .slice M m d, .slice E k g] 25)).alloc (by simp) (.cells #[.slice none 0 0, .int .i64 0, .slice none 0 0, .slice none 0 0] 25)
  have HB1 := Lib.hid hb1
  have hR1 := h.below hb1 (Nat.le_refl _)
  have HC := Lib.hid (mCheck_any A n c s M m d E k g a _ (hR1.more (by simp; omega)))
  have HA := Lib.hid ((Row.new w [.slice A n c, .int .i64 s, .slice M m d, .slice E k g] 25).alloc (.cells #[.slice none 0 0, .int .i64 0, .slice none 0 0, .slice none 0 0] 25))
  have HRes := Lib.hid (Row.new (w.alloc (.cells #[.slice A n c, .int .i64 s, .slice M m d, .slice E k g] 25)) [.slice none 0 0, .int .i64 0, .slice none 0 0, .slice none 0 0] 25)
  have HR := Lib.hid h
  have HT := Lib.hid ht
  have HL := Lib.hid hl
  obtain ⟨iE, iE0, iE1, iE2, iE3⟩ := info_parts info_edge
  obtain ⟨u, hu⟩ : ∃ u, u = chkE a := ⟨_, rfl⟩
  rw [← hu] at HC
  have HU := Lib.hid hu
  clear h hR1 hu hb1 ht hl
  by_cases h0 : u = 0
  · have hb0 : (u != 0) = false := by simp [h0]
    have HRI := Lib.hid (right_of (a := a) (by rw [← HU.out, h0]))
    have hc0 : chkE a = 0 := by rw [← HU.out, h0]
    by_cases hln : l = n
    · have hbl : ((l : Int) != (n : Int)) = false := by simp [hln]
      have hln2 := Lib.hid (show tl.length = a.al.length by rw [HL.out, HR.out.hn, hln])
      obtain ⟨v, hv⟩ : ∃ v, v = neE tl := ⟨_, rfl⟩
      have HV := Lib.hid hv
      have HNE := Lib.hid (fun W (hW : Below w.heap.size w W) => by have := checkNew_any T l lc tl W ((HT.out.below hW (Nat.le_refl _)).more hW.size) HL.out hlc hlb; rwa [← hv] at this)
      clear hv hln
      by_cases hv0 : v = 0
      · have hbv : (v != 0) = false := by simp [hv0]
        have hr := Lib.hid (show relR a tl = (canA (relA a tl), 0) by rw [relR, if_neg (by simp [hc0]), if_neg (by simp [hln2.out]), if_neg (by rw [← HV.out]; simp [hv0])])
        have hne := neE_ok (show neE tl = 0 by rw [← HV.out, hv0])
        have HRR := Lib.hid (rel_right HRI.out.toRightW hln2.out hne.1 hne.2)
        have HKD := Lib.hid (rel_keys HRI.out.toRightW hln2.out hne.2)
        clear h0 hv0 hne hc0
        go_enter Try.func24, Try.ntmps24
        go_wp2_with fail
        refine HC.out.mono ?_
        rintro e w1 ⟨rfl, hbw⟩
        have hA1 := Lib.hid (HA.out.below hbw (by simp; omega))
        have hR1 := Lib.hid (show Row w1 (w.heap.size + 1) 25 [.slice none 0 0, .int .i64 0, .slice none 0 0, .slice none 0 0] by have := HRes.out.below hbw (by simp); simpa using this)
        have hB1 := Lib.hid (HB1.out.trans (hbw.mono (by simp; omega)))
        have hz := hbw.size
        simp only [World.size_alloc] at hz
        clear hbw
        have p0 := hA1.out.cell 0 rfl
        go_wp2_with fail
        refine (HNE.out w1 hB1.out).mono ?_
        rintro e w' ⟨rfl, rfl⟩
        have HSO := Lib.hid (fun (Bs : Nat) (W : World) (hW : Below w1.heap.size w1 W) (hBs : Bs < W.heap.size) (hc : W.cell? ⟨Bs, 0, none⟩ = some (.slice T l lc)) => sorted_any Bs T l lc tl HL.out hlb W hBs hc ((HT.out.below (hB1.out.trans (hW.mono hB1.out.size)) (Nat.le_refl _)).more (Nat.le_trans hB1.out.size hW.size)))
        have HSC := Lib.hid (HSO.out w1.heap.size ((w1.alloc (.cells #[.slice T l lc] 22)).drew) (Below.drew (Below.alloc (Below.refl _ _) (Nat.le_refl _) _)) (by simp) ((Row.new w1 [.slice T l lc] 22).cell 0 rfl))
        have HSB := Lib.hid ((HSO.out w1.heap.size (((w1.alloc (.cells #[.slice T l lc] 22)).alloc (.cells #[.slice none 0 0, .int .i64 0, .slice none 0 0, .slice none 0 0] 25)).drew) (Below.drew (Below.alloc (Below.alloc (Below.refl _ _) (Nat.le_refl _) _) (by simp) _)) (by simp; omega) (((Row.new w1 [.slice T l lc] 22).alloc (.cells #[.slice none 0 0, .int .i64 0, .slice none 0 0, .slice none 0 0] 25)).cell 0 rfl)).mono (R' := fun e w3 => (∃ As cs, e = .returned (.slice As l cs) ∧ Own w3 (((w1.alloc (.cells #[.slice T l lc] 22)).alloc (.cells #[.slice none 0 0, .int .i64 0, .slice none 0 0, .slice none 0 0] 25)).drew).heap.size (.slice As l cs) (srtI tl) ∧ Below (((w1.alloc (.cells #[.slice T l lc] 22)).alloc (.cells #[.slice none 0 0, .int .i64 0, .slice none 0 0, .slice none 0 0] 25)).drew).heap.size (((w1.alloc (.cells #[.slice T l lc] 22)).alloc (.cells #[.slice none 0 0, .int .i64 0, .slice none 0 0, .slice none 0 0] 25)).drew) w3) ∧ Row w3 (w1.heap.size + 1) 25 [.slice none 0 0, .int .i64 0, .slice none 0 0, .slice none 0 0]) fun e w3 h => ⟨h, by
          obtain ⟨As, cs, _, _, hb⟩ := h
          have := Row.new (w1.alloc (.cells #[.slice T l lc] 22)) [.slice none 0 0, .int .i64 0, .slice none 0 0, .slice none 0 0] 25
          simp only [World.size_alloc] at this
          exact Row.below (w := ((w1.alloc (.cells #[.slice T l lc] 22)).alloc (.cells #[.slice none 0 0, .int .i64 0, .slice none 0 0, .slice none 0 0] 25)).drew) this hb (by simp)⟩)
        have HSA := Lib.hid ((HSO.out (w1.heap.size + 1) (((w1.alloc (.cells #[.slice none 0 0, .int .i64 0, .slice none 0 0, .slice none 0 0] 25)).alloc (.cells #[.slice T l lc] 22)).drew) (Below.drew (Below.alloc (Below.alloc (Below.refl _ _) (Nat.le_refl _) _) (by simp) _)) (by simp) (by
          have := (Row.new (w1.alloc (.cells #[.slice none 0 0, .int .i64 0, .slice none 0 0, .slice none 0 0] 25)) [.slice T l lc] 22).cell 0 rfl
          simp only [World.size_alloc] at this; exact this)).mono (R' := fun e w3 => (∃ As cs, e = .returned (.slice As l cs) ∧ Own w3 (((w1.alloc (.cells #[.slice none 0 0, .int .i64 0, .slice none 0 0, .slice none 0 0] 25)).alloc (.cells #[.slice T l lc] 22)).drew).heap.size (.slice As l cs) (srtI tl) ∧ Below (((w1.alloc (.cells #[.slice none 0 0, .int .i64 0, .slice none 0 0, .slice none 0 0] 25)).alloc (.cells #[.slice T l lc] 22)).drew).heap.size (((w1.alloc (.cells #[.slice none 0 0, .int .i64 0, .slice none 0 0, .slice none 0 0] 25)).alloc (.cells #[.slice T l lc] 22)).drew) w3) ∧ Row w3 w1.heap.size 25 [.slice none 0 0, .int .i64 0, .slice none 0 0, .slice none 0 0]) fun e w3 h => ⟨h, by
          obtain ⟨As, cs, _, _, hb⟩ := h
          exact Row.below (w := ((w1.alloc (.cells #[.slice none 0 0, .int .i64 0, .slice none 0 0, .slice none 0 0] 25)).alloc (.cells #[.slice T l lc] 22)).drew) ((Row.new w1 [.slice none 0 0, .int .i64 0, .slice none 0 0, .slice none 0 0] 25).alloc (.cells #[.slice T l lc] 22)) hb (by simp; omega)⟩)
        clear HNE
        have p1 := hA1.out.cell 1 rfl
        have p2 := hA1.out.cell 2 rfl
        have a1 := fun cs : Array Value => fun ty => (World.cell?_alloc_lt w1 (.cells cs ty) ⟨w.heap.size, 1, none⟩ (by show w.heap.size < w1.heap.size; omega)).trans p1
        have a2 := fun cs : Array Value => fun ty => (World.cell?_alloc_lt w1 (.cells cs ty) ⟨w.heap.size, 2, none⟩ (by show w.heap.size < w1.heap.size; omega)).trans p2
        go_wp2_with fail
        go_upto_region 9 with fail
        go_cut [8] from 32 to 39 (fun v8 wx => ∃ (bb : Nat) (As : Option Addr) (cs : Nat), v8 = .pointer (some ⟨bb, 0, none⟩) ∧ Hid (RB w1 bb As l cs s M m d (srtI tl) wx [] (.slice none 0 0)) ∧ l ≤ cs ∧ cs ≤ 9223372036854775807)
        case first =>
          go_region_held3 (fun w' => w'.cell? ⟨w.heap.size, 1, none⟩ = some (.int .i64 s) ∧ w'.cell? ⟨w.heap.size, 2, none⟩ = some (.slice M m d)) (first | with_reducible exact ⟨p1, p2⟩ | with_reducible exact ⟨q1, q2⟩ | with_reducible exact ⟨q3 _ _, q4 _ _⟩ | with_reducible exact ⟨a1 _ _, a2 _ _⟩ | with_reducible exact ⟨(cell_set4 (by omega)).trans q1, (cell_set4 (by omega)).trans q2⟩ | go_keep)
            (first
            | (go_simp; go_at_call 61; refine (values_any T l lc _).mono ?_; rintro e w2 ⟨rfl, rfl⟩)
            | (go_simp; go_at_call 60; with_reducible refine HSC.out.mono ?_; rintro e w3 ⟨As, cs, rfl, ho3, hb3⟩
               have hB3 := Lib.hid (show Below w1.heap.size w1 w3 from Below.trans (by repeat (first | exact Below.refl _ _ | refine Below.drew ?_ | refine Below.alloc ?_ (by simp; try omega) _)) (hb3.mono (by simp; try omega)))
               have hO3 := Lib.hid (show Own w3 w1.heap.size (.slice As l cs) (srtI tl) from own_more ho3 (by simp; try omega))
               have hcs3 : l ≤ cs ∧ cs ≤ 9223372036854775807 := by
                 obtain ⟨A', c', e, _, c1, c2⟩ := own_rdc hO3.out
                 injection e with e1 e2 e3
                 subst e3; exact ⟨by rw [srtI_len, HL.out] at c1; exact c1, c2⟩
               have q1 := (hA1.out.below hB3.out (by omega)).cell 1 rfl
               have q2 := (hA1.out.below hB3.out (by omega)).cell 2 rfl
               have hz3 := hB3.out.size
               have q3 := fun cs : Array Value => fun ty => (World.cell?_alloc_lt w3 (.cells cs ty) ⟨w.heap.size, 1, none⟩ (by show w.heap.size < w3.heap.size; omega)).trans q1
               have q4 := fun cs : Array Value => fun ty => (World.cell?_alloc_lt w3 (.cells cs ty) ⟨w.heap.size, 2, none⟩ (by show w.heap.size < w3.heap.size; omega)).trans q2
               clear ho3 hb3)
            | (go_simp; go_at_call 60; with_reducible refine HSB.out.mono ?_; rintro e w3 ⟨⟨As, cs, rfl, ho3, hb3⟩, hrow⟩
               have hB3 := Lib.hid (show Below w1.heap.size w1 w3 from Below.trans (by repeat (first | exact Below.refl _ _ | refine Below.drew ?_ | refine Below.alloc ?_ (by simp; try omega) _)) (hb3.mono (by simp; try omega)))
               have hO3 := Lib.hid (show Own w3 w1.heap.size (.slice As l cs) (srtI tl) from own_more ho3 (by simp; try omega))
               have hcs3 : l ≤ cs ∧ cs ≤ 9223372036854775807 := by
                 obtain ⟨A', c', e, _, c1, c2⟩ := own_rdc hO3.out
                 injection e with e1 e2 e3
                 subst e3; exact ⟨by rw [srtI_len, HL.out] at c1; exact c1, c2⟩
               have q1 := (hA1.out.below hB3.out (by omega)).cell 1 rfl
               have q2 := (hA1.out.below hB3.out (by omega)).cell 2 rfl
               have hz3 := hB3.out.size
               have q3 := fun cs : Array Value => fun ty => (World.cell?_alloc_lt w3 (.cells cs ty) ⟨w.heap.size, 1, none⟩ (by show w.heap.size < w3.heap.size; omega)).trans q1
               have q4 := fun cs : Array Value => fun ty => (World.cell?_alloc_lt w3 (.cells cs ty) ⟨w.heap.size, 2, none⟩ (by show w.heap.size < w3.heap.size; omega)).trans q2
               have hRow := Lib.hid hrow
               have z0 := hrow.cell 0 rfl
               have z1 := hrow.cell 1 rfl
               have z2 := hrow.cell 2 rfl
               have z3 := hrow.cell 3 rfl
               have f0 := hrow.frozen 0
               have f1 := hrow.frozen 1
               have f2 := hrow.frozen 2
               have f3 := hrow.frozen 3
               have hRlt := hrow.lt
               clear ho3 hb3 hrow)
            | (go_simp; go_at_call 60; with_reducible refine HSA.out.mono ?_; rintro e w3 ⟨⟨As, cs, rfl, ho3, hb3⟩, hrow⟩
               have hB3 := Lib.hid (show Below w1.heap.size w1 w3 from Below.trans (by repeat (first | exact Below.refl _ _ | refine Below.drew ?_ | refine Below.alloc ?_ (by simp; try omega) _)) (hb3.mono (by simp; try omega)))
               have hO3 := Lib.hid (show Own w3 w1.heap.size (.slice As l cs) (srtI tl) from own_more ho3 (by simp; try omega))
               have hcs3 : l ≤ cs ∧ cs ≤ 9223372036854775807 := by
                 obtain ⟨A', c', e, _, c1, c2⟩ := own_rdc hO3.out
                 injection e with e1 e2 e3
                 subst e3; exact ⟨by rw [srtI_len, HL.out] at c1; exact c1, c2⟩
               have q1 := (hA1.out.below hB3.out (by omega)).cell 1 rfl
               have q2 := (hA1.out.below hB3.out (by omega)).cell 2 rfl
               have hz3 := hB3.out.size
               have q3 := fun cs : Array Value => fun ty => (World.cell?_alloc_lt w3 (.cells cs ty) ⟨w.heap.size, 1, none⟩ (by show w.heap.size < w3.heap.size; omega)).trans q1
               have q4 := fun cs : Array Value => fun ty => (World.cell?_alloc_lt w3 (.cells cs ty) ⟨w.heap.size, 2, none⟩ (by show w.heap.size < w3.heap.size; omega)).trans q2
               have hRow := Lib.hid hrow
               have z0 := hrow.cell 0 rfl
               have z1 := hrow.cell 1 rfl
               have z2 := hrow.cell 2 rfl
               have z3 := hrow.cell 3 rfl
               have f0 := hrow.frozen 0
               have f1 := hrow.frozen 1
               have f2 := hrow.frozen 2
               have f3 := hrow.frozen 3
               have hRlt := hrow.lt
               clear ho3 hb3 hrow))
          all_goals
            go_wp2_with fail
            go_meet
            case rel => exact ⟨_, _, _, rfl, by first | exact RB.start1 hB3.out hO3.out | exact RB.start2 hB3.out hO3.out hRow.out (by omega) | exact (RB.start1 hB3.out hO3.out).drew | exact (RB.start2 hB3.out hO3.out hRow.out (by omega)).drew, hcs3.1, hcs3.2⟩
        case rest =>
          obtain ⟨bb, As, cs, rfl, hrb, hcs1, hcs2⟩ := hcut
          clear p0 p1 p2 a1 a2 HSO HSA HSB HSC
          have p3 := (hA1.out.below hrb.out.bel (by omega)).cell 3 rfl
          have hbk := HR.out.bk
          go_wp2_with fail
          go_loopw [43] (fun i wr => ∃ (t : Nat) (es : List Ed) (ve : Value), i = .int .i64 t ∧ t ≤ k ∧ Hid (RB w1 bb As l cs s M m d (srtI tl) wr es ve) ∧ Hid (es = (a.ed.take t).map (relE a.al tl))) (fun i _ => k - (intOf i).toNat)
          case atStart => exact ⟨0, [], _, rfl, Nat.zero_le _, hrb, by rw [List.take_zero]; rfl⟩
          case round =>
            clear hrb p3
            obtain ⟨t, es, ve, rfl, htk, hrb, hes⟩ := hrel
            have hsz := hrb.out.bel.size
            have hBr := Lib.hid (hB1.out.trans (hrb.out.bel.mono hB1.out.size))
            by_cases htl : t < k
            · obtain ⟨bE, oE, rfl, hbE, hcE⟩ := HR.out.ed (by rw [HR.out.hk]; omega)
              obtain ⟨x, hx⟩ : ∃ x, a.ed[t]? = some x := ⟨_, List.getElem?_eq_getElem (by rw [HR.out.hk]; omega)⟩
              have hxm := HRI.out.edr x (List.mem_of_getElem? hx)
              have hxr : EdAt wr bE (oE + t * 3) x := (hcE t x hx).keep fun o => hBr.out.cell (p := ⟨bE, o, none⟩) hbE
              have hes2 := Lib.hid (show (a.ed.take (t + 1)).map (relE a.al tl) = es ++ [relE a.al tl x] by rw [take_succ_ed hx, List.map_append, hes.out]; rfl)
              have hesl : es.length ≤ 1000000 := by rw [hes.out, List.length_map, List.length_take]; omega
              obtain ⟨xf, xe, xt⟩ := x
              obtain ⟨z0, z1, z2⟩ := hxr
              have HXM := Lib.hid hxm.2.2
              have p0 := (hA1.out.below hrb.out.bel (by omega)).cell 0 rfl
              have p0a := fun cs : Array Value => fun ty => (World.cell?_alloc_lt wr (.cells cs ty) ⟨w.heap.size, 0, none⟩ (by show w.heap.size < wr.heap.size; omega)).trans p0
              have hB5 := Lib.hid (Below.alloc (Below.refl wr.heap.size wr) (Nat.le_refl _) (.cells #[.int .i64 xf, .int .i64 xe, .int .i64 xt] 67))
              have HSE := Lib.hid (search_any A n c w.heap.size a.al xe (wr.alloc (.cells #[.int .i64 xf, .int .i64 xe, .int .i64 xt] 67)) (HR.out.al.below (hBr.out.trans (hB5.out.mono hBr.out.size)) (Nat.le_refl _)) HR.out.hn (by have := HR.out.bn; omega) HRI.out.up)
              have hX5 := Lib.hid (EdAt.made wr xf xe xt 67)
              have hrb5 := Lib.hid (hrb.out.below hB5.out)
              have hs5 : wr.heap.size < (wr.alloc (.cells #[.int .i64 xf, .int .i64 xe, .int .i64 xt] 67)).heap.size := by simp
              clear hx hxm hcE
              go_wp2_with fail
              refine HSE.out.mono ?_
              rintro e w' ⟨⟨i, hat, rfl⟩, rfl⟩
              obtain ⟨hix, hin⟩ := at_idx HRI.out.up hat HXM.out
              have hil : i < l := by rw [← HL.out, hln2.out]; exact hin
              have HIX := Lib.hid hix
              obtain ⟨bT, oT, rfl, hbT, hcT⟩ := HT.out (by rw [HL.out]; omega)
              have hT0 := hcT i (by rw [HL.out]; exact hil)
              obtain ⟨y, hy⟩ : ∃ y, y = tl.getD i 0 := ⟨_, rfl⟩
              rw [← hy] at hT0
              have hT5 := Lib.hid ((hBr.out.trans (hB5.out.mono hBr.out.size)).cell (p := ⟨bT, oT + i, none⟩) hbT |>.trans hT0)
              have hey := Lib.hid (show relE a.al tl ⟨xf, xe, xt⟩ = ⟨xf, y, xt⟩ by rw [relE, hy, hix])
              have hes3 := Lib.hid (show (a.ed.take (t + 1)).map (relE a.al tl) = es ++ [⟨xf, y, xt⟩] by rw [hes2.out, hey.out])
              clear hcT hT0 hy hix hat hin z0 z1 z2 hes2 hey HSE hrb hB5 p0 p0a
              generalize wr.alloc (.cells #[.int .i64 xf, .int .i64 xe, .int .i64 xt] 67) = w5 at *
              have hT6 := hT5.out
              obtain ⟨z0, z1, z2⟩ := hX5.out.shift0
              have u0 := hrb5.out.row.cell 3 rfl
              have u3 := hrb5.out.row.frozen 3
              have hbl : bb < w5.heap.size := hrb5.out.row.lt
              have hb5 := hrb5.out.bel.size
              have v0 := fun cs : Array Value => (World.cell?_alloc_lt w5 (.cells cs 67) ⟨bb, 3, none⟩ hbl).trans u0
              have v1 := fun cs : Array Value => (frozen?_alloc_cells w5 cs 67 ⟨bb, 3, none⟩).trans u3
              have hneV : some bb ≠ ve.ownBlock := (row_ne_own hrb5.out.row hrb5.out.eo (by decide)).symm
              go_wp2_with fail
              go_region_law (first
                | (refine step_append_lies _ (by rfl) (.tmp 56) (.tmp 66) _ (by rfl) w1.heap.size 67 iE (.agg #[.int .i64 0, .int .i64 0, .int .i64 0]) 3 24 Try.underlying23 iE0 iE1 iE2 iE3 rfl (by omega) ve es.length (encE es) (by rfl) (by first | exact (hrb5.out.eo.alloc _).drew | exact (hrb5.out.eo.alloc _)) ⟨w5.heap.size, 0, none⟩ 1 1 [.int .i64 xf, .int .i64 y, .int .i64 xt] (by rfl) (by rfl) (World.news_of_block (cs := #[.int .i64 xf, .int .i64 y, .int .i64 xt]) (t := 67) (fr := (0, 0)) (heap_alloc_new w5 _)) (by simp [Value.oneCell']) (by omega) (by unfold maxLen; omega) (by omega) (by simp; omega) (w5.heap.size + 1) (by simp) ?_; intro gG capG w6 hown6 hgrow6 hat6 hlt6; have hc6 := (hgrow6.cell_far ⟨bb, 3, none⟩ (by simp; omega) hneV).trans (v0 _); have hf6 := (hgrow6.frozen_far ⟨bb, 3, none⟩ (by simp; omega) hneV).trans (v1 _)))
              all_goals
                have hown7 : OwnE w6 w1.heap.size (.slice (some ⟨gG, 0, none⟩) (es.length + 1) capG) (es ++ [⟨xf, y, xt⟩]) := by
                  unfold OwnE; rw [encE_app, List.length_append]; exact hown6
                have hrb7 := Lib.hid (show RB w1 bb As l cs s M m d (srtI tl) (w6.setCell ⟨bb, 3, none⟩ (.slice (some ⟨gG, 0, none⟩) (es.length + 1) capG)) (es ++ [⟨xf, y, xt⟩]) (.slice (some ⟨gG, 0, none⟩) (es.length + 1) capG) from by
                  first
                  | exact RB.edge (hrb5.out.alloc _) hgrow6 hown7
                  | exact RB.edge ((hrb5.out.alloc _).drew) hgrow6 hown7
                  | exact RB.edge (hrb5.out.drew.alloc _) hgrow6 hown7)
                clear hown7 hown6 hgrow6 hat6 hc6 hf6 hlt6
                go_wp2_with fail
                go_roundw
                case measure => simp [intOf]; omega
                case rel => exact ⟨t + 1, _, _, by go_num, by omega, by first | exact hrb7 | exact Lib.hid hrb7.out.drew, by rw [hes3.out]; rfl⟩
            · obtain rfl : t = k := by omega
              have hes2 : es = a.ed.map (relE a.al tl) := by rw [hes.out, List.take_of_length_le (by rw [HR.out.hk]; exact Nat.le_refl _)]
              have hsl : es.length = t := by rw [hes2, List.length_map, HR.out.hk]
              have hso := Lib.hid (sortEd_any wr hrb.out.eo (by omega))
              have HES2 := Lib.hid hes2
              have HSL2 := Lib.hid hsl
              have u0 := hrb.out.row.cell 3 rfl
              clear hes2 hsl
              go_wp2_with fail
              refine hso.out.mono ?_
              rintro e w6 ⟨rfl, A6, c6, l6, rfl, hp6, hs6, hr6, hg6, hc61, hc62⟩
              have hb6 := hrb.out.grown hg6
              have hel := srtE_eq HKD.out (HES2.out ▸ hp6) hs6
              have hll : l6.length ≤ 1000000 := by rw [hp6.length_eq, HSL2.out]; omega
              have hB6 := Lib.hid (hB1.out.trans (hb6.1.mono hB1.out.size))
              have HAUR := Lib.hid (show AuR w6 w6.heap.size As l cs s M m d A6 l6.length c6 (relA a tl) from
                { al := by
                    obtain ⟨A', c', e, hrd⟩ := own_rd hb6.2.2
                    injection e with e1 e2 e3
                    subst e1; exact hrd
                  mr := (HR.out.mr.below hB6.out (Nat.le_refl _)).more hB6.out.size
                  ed := by rw [hel] at hr6; exact hr6
                  hn := by show (srtI tl).length = l; rw [srtI_len, HL.out]
                  hm := HR.out.hm
                  hk := by rw [hel]; rfl
                  st := HR.out.st
                  cn := ⟨hcs1, hcs2⟩
                  cm := HR.out.cm
                  ck := ⟨hc61, hc62⟩
                  bn := hlb
                  bm := HR.out.bm
                  bk := hll })
              have HCAN := Lib.hid (canon_all As l cs s M m d A6 l6.length c6 (relA a tl) w6.heap.size w6 HAUR.out (Nat.le_refl _) HRR.out (by have := HRI.out.st1; show a.st ≤ 5000; omega))
              have hR6 := Lib.hid (hR1.out.below hb6.1 (by omega))
              have hz6 := hb6.1.size
              have d0 := hb6.2.1.cell 0 rfl
              have d1 := hb6.2.1.cell 1 rfl
              have d2 := hb6.2.1.cell 2 rfl
              have d3 := hb6.2.1.cell 3 rfl
              obtain ⟨K6, hK6⟩ : ∃ K6, K6 = l6.length := ⟨_, rfl⟩
              rw [← hK6] at d3 HCAN
              clear hb6 hel hll hp6 hs6 hr6 hg6 hrb hso u0 hK6
              go_wp2_with fail
              refine HCAN.out.mono ?_
              rintro e w7 ⟨v7, rfl, hau, hbw⟩
              have hR7 := hR6.out.below hbw (by omega)
              have hB7 := Lib.hid (hB6.out.trans (hbw.mono hB6.out.size))
              obtain ⟨A2, n2, c2, s2, M2, m2, d2', E2, k2, g2, rfl, hrest⟩ := hau
              have hau2 := Lib.hid (show AuF (canA (relA a tl)) (.agg #[.slice A2 n2 c2, .int .i64 s2, .slice M2 m2 d2', .slice E2 k2 g2]) w7 w6.heap.size from ⟨_, _, _, _, _, _, _, _, _, _, rfl, hrest⟩)
              have r0 := hR7.cell 0 rfl
              have r1 := hR7.cell 1 rfl
              have r2 := hR7.cell 2 rfl
              have r3 := hR7.cell 3 rfl
              have s0 := hR7.frozen 0
              have s1 := hR7.frozen 1
              have s2' := hR7.frozen 2
              have s3 := hR7.frozen 3
              clear d0 d1 d2 d3 hrest hR7 hbw
              go_wp2_with fail
              (try simp only [Exit.inBlock, Exit.then])
              refine bodyPost_ret (v := .tuple #[.agg #[.slice A2 n2 c2, .int .i64 s2, .slice M2 m2 d2', .slice E2 k2 g2], .int .i64 0]) ?_ rfl ⟨.agg #[.slice A2 n2 c2, .int .i64 s2, .slice M2 m2 d2', .slice E2 k2 g2], by rw [hr.out], ?_, ?_⟩
              · rw [results_cell_tmp1 rfl]
                go_simp
              · rw [hr.out]
                exact (hau2.out.set4 (by omega) _ _ _ _).more (by omega)
              · exact below_set4 hB7.out (by omega) _ _ _ _
      · have hbv : (v != 0) = true := by simp [hv0]
        have HRES := Lib.hid (show relR a tl = (zeroA, v) by rw [relR, if_neg (by simp [hc0]), if_neg (by simp [hln2.out]), if_pos (by rw [← HV.out]; exact hv0), HV.out])
        clear h0 hv0 hc0
        go_enter Try.func24, Try.ntmps24
        go_wp2_with fail
        refine HC.out.mono ?_
        rintro e w1 ⟨rfl, hbw⟩
        have hA1 := Lib.hid (HA.out.below hbw (by simp; omega))
        have hR1 := Lib.hid (show Row w1 (w.heap.size + 1) 25 [.slice none 0 0, .int .i64 0, .slice none 0 0, .slice none 0 0] by have := HRes.out.below hbw (by simp); simpa using this)
        have hB1 := Lib.hid (HB1.out.trans (hbw.mono (by simp; omega)))
        have p0 := hA1.out.cell 0 rfl
        have hz := hbw.size
        simp only [World.size_alloc] at hz
        clear hbw
        have r0 := hR1.out.cell 0 rfl
        have r1 := hR1.out.cell 1 rfl
        have r2 := hR1.out.cell 2 rfl
        have r3 := hR1.out.cell 3 rfl
        have s0 := hR1.out.frozen 0
        have s1 := hR1.out.frozen 1
        have s2 := hR1.out.frozen 2
        have s3 := hR1.out.frozen 3
        go_wp2_with fail
        refine (HNE.out w1 hB1.out).mono ?_
        rintro e w' ⟨rfl, rfl⟩
        go_wp2_with fail
        (try simp only [Exit.inBlock, Exit.then])
        refine bodyPost_ret (v := .tuple #[.agg #[.slice none 0 0, .int .i64 0, .slice none 0 0, .slice none 0 0], .int .i64 v]) ?_ rfl ⟨_, by rw [HRES.out], ?_, ?_⟩
        · rw [results_cell_tmp1 rfl]
          go_simp
        · rw [HRES.out]; exact AuF.zero _ _
        · exact below_set4 hB1.out (by omega) _ _ _ _
    · have hbl : ((l : Int) != (n : Int)) = true := by simp; omega
      have HRES := Lib.hid (show relR a tl = (zeroA, 4) by rw [relR, if_neg (by simp [hc0]), if_pos (by rw [HL.out, HR.out.hn]; exact hln)])
      clear h0 hln hc0
      go_enter Try.func24, Try.ntmps24
      go_wp2_with fail
      refine HC.out.mono ?_
      rintro e w1 ⟨rfl, hbw⟩
      have hA1 := Lib.hid (HA.out.below hbw (by simp; omega))
      have hR1 := Lib.hid (show Row w1 (w.heap.size + 1) 25 [.slice none 0 0, .int .i64 0, .slice none 0 0, .slice none 0 0] by have := HRes.out.below hbw (by simp); simpa using this)
      have hB1 := Lib.hid (HB1.out.trans (hbw.mono (by simp; omega)))
      have p0 := hA1.out.cell 0 rfl
      have hz := hbw.size
      simp only [World.size_alloc] at hz
      clear hbw
      have r0 := hR1.out.cell 0 rfl
      have r1 := hR1.out.cell 1 rfl
      have r2 := hR1.out.cell 2 rfl
      have r3 := hR1.out.cell 3 rfl
      have s0 := hR1.out.frozen 0
      have s1 := hR1.out.frozen 1
      have s2 := hR1.out.frozen 2
      have s3 := hR1.out.frozen 3
      go_wp2_with fail
      (try simp only [Exit.inBlock, Exit.then])
      refine bodyPost_ret (v := .tuple #[.agg #[.slice none 0 0, .int .i64 0, .slice none 0 0, .slice none 0 0], .int .i64 4]) ?_ rfl ⟨_, by rw [HRES.out], ?_, ?_⟩
      · rw [results_cell_tmp1 rfl]
        go_simp
      · rw [HRES.out]; exact AuF.zero _ _
      · exact below_set4 hB1.out (by omega) _ _ _ _
  · have hb0 : (u != 0) = true := by simp [h0]
    have HRES := Lib.hid (show relR a tl = (zeroA, u) by rw [relR, if_pos (by rw [← HU.out]; exact h0), ← HU.out])
    clear h0
    go_enter Try.func24, Try.ntmps24
    go_wp2_with fail
    refine HC.out.mono ?_
    rintro e w1 ⟨rfl, hbw⟩
    have hA1 := Lib.hid (HA.out.below hbw (by simp; omega))
    have hR1 := Lib.hid (show Row w1 (w.heap.size + 1) 25 [.slice none 0 0, .int .i64 0, .slice none 0 0, .slice none 0 0] by have := HRes.out.below hbw (by simp); simpa using this)
    have hB1 := Lib.hid (HB1.out.trans (hbw.mono (by simp; omega)))
    have p0 := hA1.out.cell 0 rfl
    have hz := hbw.size
    simp only [World.size_alloc] at hz
    clear hbw
    have r0 := hR1.out.cell 0 rfl
    have r1 := hR1.out.cell 1 rfl
    have r2 := hR1.out.cell 2 rfl
    have r3 := hR1.out.cell 3 rfl
    have s0 := hR1.out.frozen 0
    have s1 := hR1.out.frozen 1
    have s2 := hR1.out.frozen 2
    have s3 := hR1.out.frozen 3
    go_wp2_with fail
    (try simp only [Exit.inBlock, Exit.then])
    refine bodyPost_ret (v := .tuple #[.agg #[.slice none 0 0, .int .i64 0, .slice none 0 0, .slice none 0 0], .int .i64 u]) ?_ rfl ⟨_, by rw [HRES.out], ?_, ?_⟩
    · rw [results_cell_tmp1 rfl]
      go_simp
    · rw [HRES.out]; exact AuF.zero _ _
    · exact below_set4 hB1.out (by omega) _ _ _ _
end Go.Proofs.Ytcciiikaejjooaa
