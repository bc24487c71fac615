/- Texts merged: what follows were texts of their own. -/
import Derived.Test.YtcciiikaejjooaaZa3
import Derived.Deep.RegionHeld3
/- Layer 3: canonical of the program makes the canonical form. -/
namespace Go.Proofs.Ytcciiikaejjooaa
open Go.RowKit Go.Sort

set_option maxHeartbeats 4000000 in
set_option maxRecDepth 100000 in
theorem canonical_any (A : Option Addr) (n c : Nat) (s : Int) (M : Option Addr) (m d : Nat) (E : Option Addr) (k g : Nat) (a : Au) (S : Nat) (B : Nat) (w : World) (h : AuR w B A n c s M m d E k g a) (hB : B ≤ w.heap.size) (hr : RightW a) (hS : s = (S : Int)) (hS0 : 0 < S) (hSb : S ≤ 5000) :
    Calls Try.prog 51 #[.agg #[.slice A n c, .int .i64 s, .slice M m d, .slice E k g]] w fun e w' => ∃ v, e = .returned v ∧ AuF (canA a) v w' w.heap.size ∧ Below w.heap.size w w' := by
  have hst := h.st
  subst hS
  have HR := Lib.hid h
  have HRI := Lib.hid hr
  have HST := Lib.hid hst
  have HA := Lib.hid (Row.new w [.slice A n c, .int .i64 (S : Int), .slice M m d, .slice E k g] 25)
  have HA2 := Lib.hid (HA.out.alloc (.cells #[.slice none 0 0, .int .i64 0, .slice none 0 0, .slice none 0 0] 25))
  have HRes := Lib.hid (Row.new (w.alloc (.cells #[.slice A n c, .int .i64 (S : Int), .slice M m d, .slice E k g] 25)) [.slice none 0 0, .int .i64 0, .slice none 0 0, .slice none 0 0] 25)
  have HB1 := Lib.hid (((Below.refl w.heap.size w).alloc (Nat.le_refl _) (.cells #[.slice A n c, .int .i64 (S : Int), .slice M m d, .slice E k g] 25)).alloc (by simp) (.cells #[.slice none 0 0, .int .i64 0, .slice none 0 0, .slice none 0 0] 25))
  have HCL := Lib.hid (clone_sl A n c a.al _ (((h.al.more hB).below HB1.out (Nat.le_refl _)).more HB1.out.size) h.hn (by have := h.bn; omega))
  obtain ⟨iI, iI0, iI1, iI2, iI3⟩ := info_parts info_int
  obtain ⟨iE, iE0, iE1, iE2, iE3⟩ := info_parts info_edge
  have hmk := make_ints S (by omega)
  have hbk := h.bk
  have hdS : ((S : Int) == 0) = false := by simp; omega
  have HES := Lib.hid (fun W (hw : Below w.heap.size w W) => edgeStarts_any A n c (S : Int) M m d E k g a S B W (h.below hw hB) (Nat.le_trans hB hw.size) rfl hSb (fun x hx => (hr.edr x hx).1))
  clear h hst hr
  go_enter Try.func51, Try.ntmps51
  go_wp2_with fail
  refine HCL.out.mono ?_
  rintro e w1 ⟨Ac, cc, rfl, hoc, hbw⟩
  rw [HR.out.hn] at *
  have hz := hbw.size
  simp only [World.size_alloc] at hz
  have hB1 := Lib.hid (HB1.out.trans (hbw.mono (by simp; omega)))
  have hA1 := Lib.hid (HA2.out.below hbw (by simp; omega))
  have hR1 := Lib.hid (show Row w1 (w.heap.size + 1) 25 [.slice none 0 0, .int .i64 0, .slice none 0 0, .slice none 0 0] by have := HRes.out.below hbw (by simp); simpa using this)
  have hC1 := Lib.hid hoc
  have HCC := Lib.hid (show n ≤ cc ∧ cc ≤ 9223372036854775807 from by
    obtain ⟨A', c', e, _, q1, q2⟩ := own_rdc hoc
    injection e with e1 e2 e3
    rw [HR.out.hn] at q1; subst e3; exact ⟨q1, q2⟩)
  have HAC := Lib.hid (show ∀ b o f, Ac = some ⟨b, o, f⟩ → w.heap.size + 1 < b from fun b o f e => by
    subst e
    have := (hoc.lt b rfl).1
    simp at this; omega)
  clear hoc hbw
  have y1 := hA1.out.cell 1 rfl
  have y1a := fun cs : Array Value => (World.cell?_alloc_lt w1 (.cells cs 25) ⟨w.heap.size, 1, none⟩ (by simp; omega)).trans y1
  go_wp2_with fail
  have hCB := Lib.hid (show CB w w.heap.size w1.heap.size A n c (S : Int) M m d E k g Ac cc a (w1.alloc (.cells #[.slice Ac n cc, .int .i64 0, .slice none 0 0, .slice none 0 0] 25)) (.slice none 0 0) (.slice none 0 0) 0 from
    { bel := hB1.out.alloc (by omega) _
      bx := hA1.out.alloc _
      res := hR1.out.alloc _
      cb := Row.new w1 [.slice Ac n cc, .int .i64 0, .slice none 0 0, .slice none 0 0] 25
      cl := by
        obtain ⟨A', c', e, hrd⟩ := own_rd hC1.out
        injection e with e1 e2 e3
        subst e1
        exact hrd.below ((Below.refl w1.heap.size w1).alloc (Nat.le_refl _) _) (Nat.le_refl _)
      h1 := by omega
      h2 := by simp })
  have hN0 := Lib.hid (show Row ((w1.alloc (.cells #[.slice Ac n cc, .int .i64 0, .slice none 0 0, .slice none 0 0] 25)).alloc (.cells (List.replicate S (Value.int .i64 0)).toArray 3)) (w1.heap.size + 1) 3 ((List.replicate 0 (-1 : Int) ++ List.replicate (S - 0) 0).map (Value.int .i64)) by
    have := Row.new (w1.alloc (.cells #[.slice Ac n cc, .int .i64 0, .slice none 0 0, .slice none 0 0] 25)) (List.replicate S (Value.int .i64 0)) 3
    simpa using this)
  clear y1 y1a
  go_loopw [26] (fun i wr => ∃ j : Nat, j ≤ S ∧ i = .int .i64 j ∧ Hid (CB w w.heap.size w1.heap.size A n c (S : Int) M m d E k g Ac cc a wr (.slice none 0 0) (.slice none 0 0) 0) ∧ Hid (Row wr (w1.heap.size + 1) 3 ((List.replicate j (-1 : Int) ++ List.replicate (S - j) 0).map (Value.int .i64))) ∧ wr.heap.size = w1.heap.size + 2) (fun i _ => S - (intOf i).toNat)
  case atStart => exact ⟨0, Nat.zero_le _, rfl, Lib.hid (hCB.out.alloc _), hN0, by simp⟩
  case round =>
    obtain ⟨j, hj, rfl, hcb, hno, hsz⟩ := hrel
    have HSZ := Lib.hid hsz
    clear hsz
    by_cases hlt : j < S
    · have hx := hno.out.cell j (v := .int .i64 0) (by
        rw [List.getElem?_map, List.getElem?_append_right (by simp), List.getElem?_replicate, if_pos (by simp; omega)]; rfl)
      have hf := hno.out.frozen j
      go_wp2_with fail
      go_roundw
      case rel => exact ⟨j + 1, by omega, by go_num, Lib.hid (hcb.out.far ((Below.refl _ _).setCell (p := ⟨w1.heap.size + 1, j, none⟩) (Nat.le_refl _) _)), Lib.hid (by
        have := hno.out.set j (.int .i64 (-1)); rwa [map_set_int, fill_step hlt] at this), by simp [World.setCell, HSZ.out]⟩
      case measure => simp [intOf]; omega
    · obtain rfl : j = S := by omega
      have hx := hno.out.cell 0 (v := .int .i64 (-1)) (by
        rw [Nat.sub_self, List.replicate_zero, List.append_nil, List.getElem?_map, List.getElem?_replicate, if_pos (by omega)]; rfl)
      have hf := hno.out.frozen 0
      have i0 : (0 : Int) < (j : Int) := by omega
      have hcb2 := Lib.hid ((hcb.out.far ((Below.refl _ _).setCell (p := ⟨w1.heap.size + 1, 0, none⟩) (Nat.le_refl _) (.int .i64 0))).alloc (.cells #[.int .i64 0] 3))
      have hnu2 := Lib.hid (show Row ((wr.setCell ⟨w1.heap.size + 1, 0, none⟩ (.int .i64 0)).alloc (.cells #[.int .i64 0] 3)) (w1.heap.size + 1) 3 ((numL [0] j).map (Value.int .i64)) by
        have := (hno.out.set 0 (.int .i64 0)).alloc (.cells #[.int .i64 0] 3)
        rw [map_set_int, Nat.sub_self, List.replicate_zero, List.append_nil] at this
        rwa [numL_zero hS0])
      have hfo2 := Lib.hid (show ((wr.setCell ⟨w1.heap.size + 1, 0, none⟩ (.int .i64 0)).alloc (.cells #[.int .i64 0] 3)).ownsRow (w1.heap.size + 2) 3 1 (.slice (some ⟨wr.heap.size, 0, none⟩) 1 1) 1 [.int .i64 0] by
        have := World.ownsRow_lit (base := w1.heap.size + 2) (size := 1) (e := 3) (wr.setCell ⟨w1.heap.size + 1, 0, none⟩ (.int .i64 0)) #[.int .i64 0] 1 (by rw [← HSZ.out]; simp [World.setCell]) (by unfold maxLen; omega) rfl
        simpa [World.setCell] using this)
      have e0 := hcb2.out.bx.cell 0 rfl
      have e1 := hcb2.out.bx.cell 1 rfl
      have e2 := hcb2.out.bx.cell 2 rfl
      have e3 := hcb2.out.bx.cell 3 rfl
      go_wp2_with fail
      refine (HES.out _ hcb2.out.bel).mono ?_
      rintro e w2 ⟨gS, rfl, hgS, hrS, hbw⟩
      have hz2 := hbw.size
      simp only [World.size_alloc, World.size_setCell] at hz2 hgS
      go_wp2_with fail
      have hcs := Lib.hid (show CS w w.heap.size w1.heap.size gS A n c (j : Int) M m d E k g j Ac cc a w2 (Fd a 0) (.slice (some ⟨wr.heap.size, 0, none⟩) 1 1) (canEn a 0) (.slice none 0 0) from
        { bel := hcb2.out.bel.trans (hbw.mono hcb2.out.bel.size)
          bx := hcb2.out.bx.below hbw hcb2.out.bx.lt
          res := hcb2.out.res.below hbw hcb2.out.res.lt
          cb := hcb2.out.cb.below hbw hcb2.out.cb.lt
          cl := hcb2.out.cl.below hbw (by have := HSZ.out; simp; omega)
          nu := hnu2.out.below hbw hnu2.out.lt
          st := hrS
          fo := by
            have := own_below hfo2.out hbw
            simpa [Own, Fd] using this
          eo := World.ownsRow_nil _ _ _ _
          fs := by simp [Value.ownBlock]; omega
          h1 := hcb2.out.h1
          h2 := by have := HSZ.out; omega
          h3 := hrS.lt })
      clear hcb hno hx hf hcb2 hnu2 hfo2 e0 e1 e2 e3 hrS hbw hgS hz2 hCB hN0 hmk HCL HES HA HA2 HRes HB1 hB1 hA1 hR1 hC1
      go_loopw [6, 8] (fun v i wr => ∃ (n0 : Nat) (ve : Value), i = .int .i64 n0 ∧ n0 ≤ j ∧ Hid (n0 ≤ (Fd a n0).length) ∧ Hid (CS w w.heap.size w1.heap.size gS A n c (j : Int) M m d E k g j Ac cc a wr (Fd a n0) v (canEn a n0) ve)) (fun _ i _ => j - (intOf i).toNat)
      case atStart => exact ⟨0, _, rfl, Nat.zero_le _, Nat.zero_le _, hcs⟩
      case round =>
        clear hcs
        obtain ⟨n0, ve, rfl, hnj, hnl, hcs⟩ := hrel
        have hst0 : 0 < a.st := by rw [HST.out]; omega
        have hrange := Fd_range HRI.out hst0 n0
        have hlen := Fd_len HRI.out hst0 n0
        rw [HST.out] at hrange hlen
        rw [Int.toNat_natCast] at hlen
        have HRG := Lib.hid hrange
        have HPR := Lib.hid (Fd_fnd HRI.out hst0 n0)
        obtain ⟨L, hL⟩ : ∃ L, L = (Fd a n0).length := ⟨_, rfl⟩
        have HL := Lib.hid hL
        have hL1 : 1 ≤ L := by have := (Fd_mono a 0 n0).length_le; rw [Nat.zero_add, ← hL] at this; simpa [Fd] using this
        obtain ⟨gF, cF, rfl, hgF, hcF, hcap, hcap2⟩ := own_shape hcs.out.fo hL hL1
        rw [← hL] at hlen
        clear hrange hst0
        by_cases hlt : n0 < L
        · have hq := HRG.out ((Fd a n0).getD n0 0) (getD_mem (by rw [← HL.out]; exact hlt))
          obtain ⟨Q, hQ⟩ : ∃ Q : Nat, (Fd a n0).getD n0 0 = (Q : Int) := ⟨((Fd a n0).getD n0 0).toNat, by omega⟩
          have hQj : Q < j := by rw [hQ] at hq; omega
          have c1 := hcF n0 hlt
          rw [hQ] at c1
          have HQ := Lib.hid hQ
          obtain ⟨Q1, hQ1⟩ : ∃ Q1, Q1 = Q + 1 := ⟨_, rfl⟩
          have HQ1 := Lib.hid hQ1
          have hQ1j : Q1 < j + 1 := by omega
          have c2 := hcs.out.st.int (j := Q) (by rw [startL_len]; omega)
          rw [startL_at (by omega)] at c2
          have c3 := hcs.out.st.int (j := Q1) (by rw [startL_len]; omega)
          rw [startL_at (by omega)] at c3
          have c4 := hcs.out.bx.cell 3 rfl
          have hsl := succ_len HRI.out.edo Q
          rw [← hQ1] at hsl
          have hmo := startN_mono a.ed Q
          rw [← hQ1] at hmo
          have hle := startN_le a.ed Q1
          rw [HR.out.hk] at hle
          have hat := Lib.hid (succ_at HRI.out.edo Q)
          rw [← hQ1] at hat
          obtain ⟨lo, hlo⟩ : ∃ lo, lo = startN a.ed Q := ⟨_, rfl⟩
          obtain ⟨hi, hhi⟩ : ∃ hi, hi = startN a.ed Q1 := ⟨_, rfl⟩
          rw [← hlo] at c2 hsl hmo hat
          rw [← hhi] at c3 hsl hmo hat hle
          have HSL := Lib.hid hsl
          have hwr : IntKind.i64.wrap ((Q : Int) + 1) = (Q1 : Int) := by rw [IntWalk.i64_in _ (by omega)]; omega
          have hkg := HR.out.ck.1
          have hkg2 := HR.out.ck.2
          have j0 : (0 : Int) ≤ (Q1 : Int) := by omega
          have j1 : (Q1 : Int) < (j : Int) + 1 := by omega
          have j2 : (Q : Int) < (j : Int) + 1 := by omega
          have j3 : (lo : Int) ≤ (hi : Int) := by omega
          have j4 : (hi : Int) ≤ (g : Int) := by omega
          have HcF := Lib.hid hcF
          obtain ⟨N, hN⟩ : ∃ N, N = hi - lo := ⟨_, rfl⟩
          have hNi : (hi : Int) - (lo : Int) = (N : Int) := by omega
          rw [← hN] at hsl hat
          have hNb : N ≤ 1000000 := by have := HR.out.bk; omega
          have HNN := Lib.hid hN
          have HNI := Lib.hid hNi
          have HSL := Lib.hid hsl
          have HqF := Lib.hid (show (Q : Int) = (fnd a).getD n0 0 by rw [getD_pre HPR.out (by rw [← HL.out]; exact hlt), HQ.out])
          have hhk := HR.out.hk
          have HED := Lib.hid HR.out.ed
          clear hq hcF hQ hQ1 hlo hhi hsl hL hN hNi
          go_upto_region 16 with fail
          go_cut [61, 62, 63] from 38 to 98 (fun v1 v2 v3 wx => ∃ (E1 : Option Addr) (c1 : Nat), v1 = .slice E1 N c1 ∧ v2 = .int .i64 (N : Int) ∧ v3 = .int .i64 0 ∧ Hid (RdG w B E1 (succ a.ed (Q : Int))) ∧ Hid (CS w w.heap.size w1.heap.size gS A n c (j : Int) M m d E k g j Ac cc a wx (Fd a n0) (.slice (some ⟨gF, 0, none⟩) L cF) (canEn a n0) ve))
          case first =>
            by_cases hne : lo < hi
            · obtain ⟨bE, oE, rfl, hbE, hcE⟩ := HED.out (by omega)
              have hgl : ¬ g = lo := by omega
              have hrd := Lib.hid (show RdG w B (some ⟨bE, oE + lo * 3, none⟩) (succ a.ed (Q : Int)) from fun _ => ⟨bE, oE + lo * 3, rfl, hbE, fun t x hx => by
                have htN : t < N := by have := (List.getElem?_eq_some_iff.1 hx).1; rw [HSL.out] at this; exact this
                rw [hat.out t htN] at hx
                have := hcE (lo + t) x hx
                rwa [show oE + (lo + t) * 3 = oE + lo * 3 + t * 3 by omega] at this⟩)
              clear hcE
              go_wp2_with fail
              go_quiet (fail)
              go_wp2_with fail
              go_meet
              case rel => exact ⟨_, _, by rw [HNN.out], by first | rfl | exact congrArg (Value.int .i64) (by have := HNI.out; omega), rfl, hrd, Lib.hid (hcs.out.drewN nq)⟩
            · have hN0 : N = 0 := by rw [HNN.out]; omega
              have hrd := Lib.hid (show ∀ E1, RdG w B E1 (succ a.ed (Q : Int)) from fun E1 h => by rw [HSL.out] at h; omega)
              obtain rfl : hi = lo := by omega
              rcases E with _ | ⟨bE, oE, fE⟩
              · go_wp2_with fail
                go_quiet (fail)
                go_wp2_with fail
                go_meet
                case rel => exact ⟨_, _, by rw [hN0], by first | rfl | exact congrArg (Value.int .i64) (by omega), rfl, hrd.out _, Lib.hid (hcs.out.drewN nq)⟩
              · by_cases hgl : g = hi
                all_goals
                  go_wp2_with fail
                  go_quiet (fail)
                  go_wp2_with fail
                  go_meet
                  case rel => exact ⟨_, _, by rw [hN0], by first | rfl | exact congrArg (Value.int .i64) (by omega), rfl, hrd.out _, Lib.hid (hcs.out.drewN nq)⟩
          case rest =>
            obtain ⟨E1, c1, rfl, rfl, rfl, hrd, hcs0⟩ := hcut
            clear hcs c2 c3 c4 hwr hat j0 j1 j2 j3 j4 HED
            go_wp2_with fail
            go_loopw [6, 63] (fun v i wx => ∃ (t : Nat) (ve : Value), i = .int .i64 t ∧ t ≤ N ∧ Hid (CS w w.heap.size w1.heap.size gS A n c (j : Int) M m d E k g j Ac cc a wx (visitL (Fd a n0) ((succ a.ed (Q : Int)).take t)) v (canEn a n0 ++ (outE a (fnd a) n0).take t) ve)) (fun _ i _ => N - (intOf i).toNat)
            case atStart => exact ⟨0, _, rfl, Nat.zero_le _, by rw [List.take_zero, List.take_zero, visitL_nil, List.append_nil]; exact hcs0⟩
            case round =>
              clear hcs0
              obtain ⟨t, ve, rfl, hth, hcs⟩ := hrel
              by_cases htl : t < N
              · obtain ⟨bE, oE, rfl, hbE, hcE⟩ := hrd.out (by rw [HSL.out]; omega)
                obtain ⟨x, hx⟩ : ∃ x, (succ a.ed (Q : Int))[t]? = some x := ⟨_, List.getElem?_eq_getElem (by rw [HSL.out]; omega)⟩
                have hxm := HRI.out.edr x (mem_succ.1 (List.mem_of_getElem? hx)).1
                rw [HST.out] at hxm
                have hxr : EdAt wr bE (oE + t * 3) x := (hcE t x hx).keep fun o => hcs.out.bel.cell (p := ⟨bE, o, none⟩) (Nat.lt_of_lt_of_le hbE hB)
                obtain ⟨xf, xe, xt⟩ := x
                simp only at hxm
                obtain ⟨T, rfl⟩ : ∃ T : Nat, xt = (T : Int) := ⟨xt.toNat, by omega⟩
                have hTj : T < j := by omega
                obtain ⟨fl, hfl⟩ : ∃ fl, fl = visitL (Fd a n0) ((succ a.ed (Q : Int)).take t) := ⟨_, rfl⟩
                have hfl2 := Lib.hid (show visitL (Fd a n0) ((succ a.ed (Q : Int)).take (t + 1)) = visit fl (T : Int) by rw [visitL_take hx, hfl])
                have hpre2 := visit_fnd (t := t + 1) HRI.out (by rw [HST.out]; omega) (by rw [← HL.out]; exact hlt) _ (by rw [HQ.out] : succ a.ed (Q : Int) = _)
                rw [hfl2.out] at hpre2
                have hes2 := outE_take HqF.out hx
                rw [idx_pre hpre2 (mem_visit.2 (Or.inr rfl))] at hes2
                obtain ⟨es, hes⟩ : ∃ es, es = canEn a n0 ++ (outE a (fnd a) n0).take t := ⟨_, rfl⟩
                have HE2 := Lib.hid (show canEn a n0 ++ (outE a (fnd a) n0).take (t + 1) = es ++ [⟨(n0 : Int), xe, ((visit fl (T : Int)).idxOf (T : Int) : Int)⟩] by rw [hes2, hes, List.append_assoc])
                have hess : es.length ≤ 1000000 := by
                  have h1 : n0 + 1 ≤ (fnd a).length := by have := HPR.out.length_le; rw [← HL.out] at this; omega
                  have h2 := canEn_len a h1
                  rw [canEn_succ, List.length_append, hhk] at h2
                  rw [hes, List.length_append, List.length_take]
                  have := HR.out.bk
                  omega
                rw [← hfl, ← hes] at hcs
                have hflj : fl.length ≤ j := nodup_len (by rw [hfl]; exact visitL_nodup _ (Fd_nodup a n0)) (fun x hx => by
                  have := fnd_range HRI.out x (hpre2.subset (mem_visit.2 (Or.inl hx))); rwa [HST.out] at this)
                obtain ⟨L2, hL2⟩ : ∃ L2, L2 = fl.length := ⟨_, rfl⟩
                have HL2 := Lib.hid hL2
                rw [← hL2] at hflj
                have hfp : Fd a n0 <+: fl := by rw [hfl]; exact visitL_pre _ _
                have hL21 : 1 ≤ L2 := by have := hfp.length_le; rw [← hL2, ← HL.out] at this; omega
                obtain ⟨gF2, cF2, rfl, hgF2, hcF2, hcap3, hcap4⟩ := own_shape hcs.out.fo hL2 hL21
                have n1 := hcs.out.nu.int (j := T) (by rw [numL_len]; omega)
                rw [numL_at hTj] at n1
                obtain ⟨nx, hnx⟩ : ∃ nx : Int, nx = if (T : Int) ∈ fl then (fl.idxOf (T : Int) : Int) else -1 := ⟨_, rfl⟩
                rw [← hnx] at n1
                have HNX := Lib.hid hnx
                clear hnx
                have f1 := hcs.out.nu.frozen T
                obtain ⟨z0, z1, z2⟩ := hxr
                have HCB := hcs.out.h3
                have k1 : w1.heap.size + 1 < wr.heap.size := by have := hcs.out.h2; omega
                clear hx hxm hfl hes hfp hL2 hcE hpre2 hes2
                go_upto_if 72 with fail
                go_cut [6, 63] from 63 to 98 (fun v i wx => i = .int .i64 (t : Int) ∧ Hid (CS w w.heap.size w1.heap.size gS A n c (j : Int) M m d E k g j Ac cc a wx (visit fl (T : Int)) v es ve) ∧ Hid (EdAt wx wr.heap.size 0 ⟨xf, xe, (T : Int)⟩) ∧ wr.heap.size < wx.heap.size)
                case first =>
                  by_cases hin : (T : Int) ∈ fl
                  · have hneg : ¬ nx < 0 := by rw [HNX.out, if_pos hin]; omega
                    have HIN := Lib.hid hin
                    clear hin
                    go_wp2_with fail
                    go_meet
                    case rel => exact ⟨rfl, by rw [visit_in HIN.out]; exact hcs.out.alloc _, EdAt.made' xf xe (T : Int) 67 rfl, by simp⟩
                  · have hneg : nx < 0 := by rw [HNX.out, if_neg hin]; omega
                    have HIN := Lib.hid hin
                    have hown4 := Lib.hid (show (((wr.setCell ⟨w1.heap.size + 1, T, none⟩ (.int .i64 (L2 : Int))).alloc (.cells #[.int .i64 xf, .int .i64 xe, .int .i64 (T : Int)] 67)).alloc (.cells #[.int .i64 (T : Int)] 3)).ownsRow (w1.heap.size + 2) 3 1 (.slice (some ⟨gF2, 0, none⟩) L2 cF2) L2 (fl.map (Value.int .i64)) by
                      have := ((ownsRow_setCell_below hcs.out.fo (a := ⟨w1.heap.size + 1, T, none⟩) (by simp) (.int .i64 (L2 : Int))).alloc (.cells #[.int .i64 xf, .int .i64 xe, .int .i64 (T : Int)] 67)).alloc (.cells #[.int .i64 (T : Int)] 3)
                      rwa [← HL2.out] at this)
                    have hX4 := Lib.hid (((EdAt.made' (w := wr.setCell ⟨w1.heap.size + 1, T, none⟩ (.int .i64 (L2 : Int))) xf xe (T : Int) 67 (World.size_setCell ..)).alloc (by simp) (.cells #[.int .i64 (T : Int)] 3)))
                    clear hin
                    go_wp2_with (at_builtin; refine wpList_append_lies _ rfl (.tmp 79) (.tmp 82) 22 rfl (w1.heap.size + 2) 3 iI (.int .i64 0) 1 8 Try.underlying22 iI0 iI1 iI2 iI3 rfl (by omega) (.slice (some ⟨gF2, 0, none⟩) L2 cF2) L2 (fl.map (Value.int .i64)) rfl hown4.out ⟨wr.heap.size + 1, 0, none⟩ 1 1 [.int .i64 (T : Int)] rfl rfl (news_one (by simp)) (by simp [Value.oneCell']) (by omega) (by unfold maxLen; omega) (by omega) (by simp; omega) (wr.heap.size + 2) (by simp) ?_; intro gN capN w5 hown5 hgrow5 hat5 hlt5)
                    have hrow5 : (wr.setCell ⟨w1.heap.size + 1, T, none⟩ (.int .i64 (L2 : Int))).grownBy w5 (some gF2) := grown_trans (grown_trans (World.grownBy_alloc _ _ _) (World.grownBy_alloc _ _ _)) hgrow5
                    have hcs5 := Lib.hid (CS.found hcs.out HIN.out hTj (by rw [← HL2.out]; exact hrow5) (by unfold Own; rw [List.length_append, ← HL2.out]; simpa using hown5) (by
                      rcases hat5 with h | h
                      · have := hcs.out.fs; rwa [h] at this
                      · simp [Value.ownBlock]; omega))
                    have hX5 := Lib.hid (hX4.out.grown hgrow5 (by simp; omega) (by simp [Value.ownBlock]; omega))
                    have hs5 : wr.heap.size < w5.heap.size := by have := hrow5.size; have := hgrow5.size; simp at this; omega
                    clear hrow5 hown5 hgrow5 hat5 hX4 hown4
                    go_wp2_with fail
                    go_meet
                    case rel => exact ⟨rfl, by rw [visit_new HIN.out]; exact hcs5, hX5, hs5⟩
                case rest =>
                  clear hcs n1 f1 z0 z1 z2 hcF2 HCB
                  obtain ⟨rfl, hcs5, hX5, hs5⟩ := hcut
                  obtain ⟨fl2, hf2⟩ : ∃ fl2, fl2 = visit fl (T : Int) := ⟨_, rfl⟩
                  rw [← hf2] at hcs5 HE2 hfl2
                  have n2 := hcs5.out.nu.int (j := T) (by rw [numL_len]; omega)
                  rw [numL_at hTj, if_pos (by rw [hf2]; exact mem_visit.2 (Or.inr rfl))] at n2
                  obtain ⟨ix, hix⟩ : ∃ ix, ix = fl2.idxOf (T : Int) := ⟨_, rfl⟩
                  rw [← hix] at n2 HE2
                  clear hf2 hix
                  have u0 := hcs5.out.cb.cell 3 rfl
                  have u3 := hcs5.out.cb.frozen 3
                  obtain ⟨q0, u1, u2⟩ := hX5.out.shift0
                  clear q0
                  have hbl : w1.heap.size < wc.heap.size := by omega
                  have v0 := fun cs : Array Value => (World.cell?_alloc_lt wc (.cells cs 67) ⟨w1.heap.size, 3, none⟩ hbl).trans u0
                  have v1 := fun cs : Array Value => (frozen?_alloc_cells wc cs 67 ⟨w1.heap.size, 3, none⟩).trans u3
                  have hneV : some w1.heap.size ≠ ve.ownBlock := fun h => by have := (hcs5.out.eo.lt _ h.symm).1; omega
                  go_wp2_with fail
                  go_region_law (first
                    | (refine step_append_lies _ (by rfl) (.tmp 85) (.tmp 95) _ (by rfl) (w1.heap.size + 2) 67 iE (.agg #[.int .i64 0, .int .i64 0, .int .i64 0]) 3 24 Try.underlying23 iE0 iE1 iE2 iE3 rfl (by omega) ve es.length (encE es) (by rfl) (by first | exact (hcs5.out.eo.alloc _).drew | exact (hcs5.out.eo.alloc _)) ⟨wc.heap.size, 0, none⟩ 1 1 [.int .i64 (n0 : Int), .int .i64 xe, .int .i64 (ix : Int)] (by rfl) (by rfl) (World.news_of_block (cs := #[.int .i64 (n0 : Int), .int .i64 xe, .int .i64 (ix : Int)]) (t := 67) (fr := (0, 0)) (heap_alloc_new wc _)) (by simp [Value.oneCell']) (by omega) (by unfold maxLen; omega) (by omega) (by simp; omega) (wc.heap.size + 1) (by simp) ?_; intro gG capG w6 hown6 hgrow6 hat6 hlt6; have hc6 := (hgrow6.cell_far ⟨w1.heap.size, 3, none⟩ (by simp; omega) hneV).trans (v0 _); have hf6 := (hgrow6.frozen_far ⟨w1.heap.size, 3, none⟩ (by simp; omega) hneV).trans (v1 _)))
                  all_goals
                    have hown7 : OwnE w6 (w1.heap.size + 2) (.slice (some ⟨gG, 0, none⟩) (es.length + 1) capG) (es ++ [⟨(n0 : Int), xe, (ix : Int)⟩]) := by
                      unfold OwnE; rw [encE_app, List.length_append]; exact hown6
                    have hcs7 := Lib.hid (show CS w w.heap.size w1.heap.size gS A n c (j : Int) M m d E k g j Ac cc a (w6.setCell ⟨w1.heap.size, 3, none⟩ (.slice (some ⟨gG, 0, none⟩) (es.length + 1) capG)) fl2 _ (es ++ [⟨(n0 : Int), xe, (ix : Int)⟩]) (.slice (some ⟨gG, 0, none⟩) (es.length + 1) capG) from by
                      first
                      | exact CS.edge (hcs5.out.alloc _) hgrow6 hown7
                      | exact CS.edge ((hcs5.out.alloc _).drew) hgrow6 hown7
                      | exact CS.edge (hcs5.out.drew.alloc _) hgrow6 hown7)
                    rw [← HE2.out, ← hfl2.out] at hcs7
                    clear hown7 hown6 hgrow6 hat6 hc6 hf6 hlt6
                    go_wp2_with fail
                    go_roundw
                    case measure => simp [intOf]; omega
                    case rel => exact ⟨t + 1, _, by go_num, by omega, by first | exact hcs7 | exact Lib.hid hcs7.out.drew⟩
              · obtain rfl : t = N := by omega
                have hFs : visitL (Fd a n0) ((succ a.ed (Q : Int)).take t) = Fd a (n0 + 1) := by
                  rw [List.take_of_length_le (by rw [HSL.out]; exact Nat.le_refl _), Fd_go (by rw [← HL.out]; exact hlt), HQ.out]
                have hEs : canEn a n0 ++ (outE a (fnd a) n0).take t = canEn a (n0 + 1) := by
                  rw [canEn_succ, List.take_of_length_le]
                  unfold outE
                  rw [List.length_map, ← HqF.out, HSL.out]; exact Nat.le_refl _
                rw [hFs, hEs] at hcs
                have hln := Lib.hid (show n0 + 1 ≤ (Fd a (n0 + 1)).length by have := (Fd_pre a n0).length_le; rw [← HL.out] at this; omega)
                clear hFs hEs
                go_wp2_with fail
                go_roundw
                case measure => simp [intOf]; omega
                case rel => exact ⟨n0 + 1, _, by go_num, by omega, hln, hcs⟩
        · obtain rfl : n0 = L := by have := hnl.out; rw [← HL.out] at this; omega
          have hfn : fnd a = Fd a n0 := fnd_at HRI.out (by rw [HST.out]; omega) (by rw [← HL.out]; exact Nat.le_refl _) (by rw [HST.out]; simp; omega)
          rw [← hfn] at hcs HL
          have hcm := Lib.hid (hcs.out.marked (ns := (n0 : Int)))
          have f1 := hcs.out.cb.frozen 1
          have e1 := hcs.out.cb.cell 1 rfl
          have e2 := hcm.out.bx.cell 2 rfl
          have hbm := HR.out.bm
          clear hcs hfn HRG HPR hcF hcap hcap2 hgF hL
          go_wp2_with fail
          go_loopw [105] (fun i wx => ∃ (t : Nat) (vm : Value), i = .int .i64 t ∧ t ≤ m ∧ Hid (CM w w.heap.size w1.heap.size A n c (j : Int) M m d E k g j Ac cc a (fnd a) (n0 : Int) (canEn a n0) ve wx (mkL (fnd a) (a.mr.take t)) vm)) (fun i _ => m - (intOf i).toNat)
          case atStart => exact ⟨0, _, rfl, Nat.zero_le _, hcm⟩
          case round =>
            clear hcm e1 e2 f1
            obtain ⟨t, vm, rfl, htm, hcm⟩ := hrel
            by_cases htl : t < m
            · obtain ⟨bM, oM, rfl, hbM, hcM⟩ := HR.out.mr (by rw [HR.out.hm]; omega)
              have hz : t < a.mr.length := by rw [HR.out.hm]; exact htl
              have h1 := hcM t hz
              obtain ⟨x, hx⟩ : ∃ x, x = a.mr.getD t 0 := ⟨_, rfl⟩
              rw [← hx] at h1
              have hxr := HRI.out.mrr x (by rw [hx]; exact getD_mem hz)
              rw [HST.out] at hxr
              obtain ⟨X, rfl⟩ : ∃ X : Nat, x = (X : Int) := ⟨x.toNat, by omega⟩
              have hXj : X < j := by omega
              have h2 : wr.cell? ⟨bM, oM + t, none⟩ = some (.int .i64 (X : Int)) := (hcm.out.bel.cell (p := ⟨bM, oM + t, none⟩) (Nat.lt_of_lt_of_le hbM hB)).trans h1
              have n1 := hcm.out.nu.int (j := X) (by rw [numL_len]; exact hXj)
              rw [numL_at hXj] at n1
              obtain ⟨nx, hnx⟩ : ∃ nx : Int, nx = if (X : Int) ∈ fnd a then ((fnd a).idxOf (X : Int) : Int) else -1 := ⟨_, rfl⟩
              rw [← hnx] at n1
              have c2 := hcm.out.cb.cell 2 rfl
              have f2 := hcm.out.cb.frozen 2
              have hsz1 := hcm.out.h2
              obtain ⟨ms, hms⟩ : ∃ ms, ms = mkL (fnd a) (a.mr.take t) := ⟨_, rfl⟩
              have hmsl := mkL_len (fnd a) a.mr t
              have HMS := Lib.hid hms
              rw [← hms] at hcm hmsl
              by_cases hin : (X : Int) ∈ fnd a
              · have hge : 0 ≤ nx := by rw [hnx, if_pos hin]; omega
                have hms2 := Lib.hid (show mkL (fnd a) (a.mr.take (t + 1)) = ms ++ [nx] by rw [mkL_yes hz (by rw [← hx]; exact hin), ← hx, hms, hnx, if_pos hin])
                have v0 := fun cs : Array Value => (World.cell?_alloc_lt wr (.cells cs 3) ⟨w1.heap.size, 2, none⟩ (by simp; omega)).trans c2
                have v1 := fun cs : Array Value => (frozen?_alloc_cells wr cs 3 ⟨w1.heap.size, 2, none⟩).trans f2
                have hneV : some w1.heap.size ≠ vm.ownBlock := fun h => by have := (hcm.out.mo.lt _ h.symm).1; omega
                clear hin hnx hx h1 hcM hms hz
                go_wp2_with fail
                go_region_law (first
                    | (refine step_append_lies _ (by rfl) (.tmp 115) (.tmp 120) _ (by rfl) (w1.heap.size + 2) 3 iI (.int .i64 0) 1 8 Try.underlying22 iI0 iI1 iI2 iI3 rfl (by omega) vm ms.length (ms.map (Value.int .i64)) (by rfl) (by first | exact (hcm.out.mo.alloc _).drew | exact (hcm.out.mo.alloc _)) ⟨wr.heap.size, 0, none⟩ 1 1 [.int .i64 nx] (by rfl) (by rfl) (World.news_of_block (cs := #[.int .i64 nx]) (t := 3) (fr := (0, 0)) (heap_alloc_new wr _)) (by simp [Value.oneCell']) (by omega) (by unfold maxLen; omega) (by omega) (by simp; omega) (wr.heap.size + 1) (by simp) ?_; intro gG capG w6 hown6 hgrow6 hat6 hlt6; have hc6 := (hgrow6.cell_far ⟨w1.heap.size, 2, none⟩ (by simp; omega) hneV).trans (v0 _); have hf6 := (hgrow6.frozen_far ⟨w1.heap.size, 2, none⟩ (by simp; omega) hneV).trans (v1 _)))
                all_goals
                  have hown7 : Own w6 (w1.heap.size + 2) (.slice (some ⟨gG, 0, none⟩) (ms.length + 1) capG) (ms ++ [nx]) := by
                    unfold Own; rw [List.map_append, List.length_append]; exact hown6
                  have hcm7 := Lib.hid (show CM w w.heap.size w1.heap.size A n c (j : Int) (some ⟨bM, oM, none⟩) m d E k g j Ac cc a (fnd a) (n0 : Int) (canEn a n0) ve (w6.setCell ⟨w1.heap.size, 2, none⟩ (.slice (some ⟨gG, 0, none⟩) (ms.length + 1) capG)) (ms ++ [nx]) (.slice (some ⟨gG, 0, none⟩) (ms.length + 1) capG) from by
                    first
                    | exact CM.mark (hcm.out.alloc _) hgrow6 hown7
                    | exact CM.mark ((hcm.out.alloc _).drew) hgrow6 hown7
                    | exact CM.mark (hcm.out.drew.alloc _) hgrow6 hown7)
                  rw [← hms2.out] at hcm7
                  clear hown7 hown6 hgrow6 hat6 hc6 hf6 hlt6
                  go_wp2_with fail
                  go_roundw
                  case measure => simp [intOf]; omega
                  case rel => exact ⟨t + 1, _, by go_num, by omega, by first | exact hcm7 | exact Lib.hid hcm7.out.drew⟩
              · have hge : ¬ 0 ≤ nx := by rw [hnx, if_neg hin]; omega
                have hms2 := Lib.hid (show mkL (fnd a) (a.mr.take (t + 1)) = ms by rw [mkL_no hz (by rw [← hx]; exact hin), hms])
                clear hin hnx hx h1 hcM hms hz
                rw [← hms2.out] at hcm
                go_wp2_with fail
                go_roundw
                case measure => simp [intOf]; omega
                case rel => exact ⟨t + 1, _, by go_num, by omega, hcm⟩
            · obtain rfl : t = m := by omega
              rw [List.take_of_length_le (by rw [HR.out.hm]; exact Nat.le_refl _)] at hcm
              have c2 := hcm.out.cb.cell 2 rfl
              have hml := mkL_len (fnd a) a.mr t
              rw [List.take_of_length_le (by rw [HR.out.hm]; exact Nat.le_refl _)] at hml
              have hso := Lib.hid (sort_own wr hcm.out.mo (by omega))
              clear hml
              go_wp2_with fail
              refine hso.out.mono ?_
              rintro e w6 ⟨rfl, ho6, hg6⟩
              have hcm6 := hcm.out.sorted hg6 ho6
              rw [srt_mk HRI.out] at hcm6
              obtain ⟨M2, c2m, rfl, hM1, hM2, hM3⟩ := own_rdc hcm6.mo
              obtain ⟨E2, g2, rfl, hE1, hE2, hE3⟩ := ownE_rd hcm6.eo
              have HM1 := Lib.hid hM1
              have HE1 := Lib.hid hE1
              have d0 := hcm6.cb.cell 0 rfl
              have d1 := hcm6.cb.cell 1 rfl
              have d2 := hcm6.cb.cell 2 rfl
              have d3 := hcm6.cb.cell 3 rfl
              have r0 := hcm6.res.cell 0 rfl
              have r1 := hcm6.res.cell 1 rfl
              have r2 := hcm6.res.cell 2 rfl
              have r3 := hcm6.res.cell 3 rfl
              have s0 := hcm6.res.frozen 0
              have s1 := hcm6.res.frozen 1
              have s2 := hcm6.res.frozen 2
              have s3 := hcm6.res.frozen 3
              have HCM := Lib.hid hcm6
              clear hcm hso ho6 hg6 hcm6 hM1 hE1
              go_wp2_with fail
              (try simp only [Exit.inBlock, Exit.then])
              have hfin := (((CR.mk HCM.out.bel HCM.out.cl HCM.out.mo HCM.out.eo HCM.out.h1 (by have := HCM.out.h2; omega)).set HAC.out 0 (.slice Ac n cc) |>.set HAC.out 1 (.int .i64 (n0 : Int)) |>.set HAC.out 2 (.slice M2 (canM a).length c2m) |>.set HAC.out 3 (.slice E2 (canEn a n0).length g2))).gives' HAC.out HL.out HR.out.hn HCC.out HR.out.bn (by have := canM_len a; rw [← HL.out] at this; omega) (by have := canEn_len a (n := n0) (by rw [← HL.out]; exact Nat.le_refl _); rw [HR.out.hk] at this; omega)
              refine bodyPost_ret (v := .agg #[.slice Ac n cc, .int .i64 (n0 : Int), .slice M2 (canM a).length c2m, .slice E2 (canEn a n0).length g2]) ?_ rfl ⟨_, rfl, hfin.1, hfin.2⟩
              rw [results_cell1 rfl]
              go_simp
end Go.Proofs.Ytcciiikaejjooaa

/- Layer 3: canonical and Canonical of the program, every automaton. -/
namespace Go.Proofs.Ytcciiikaejjooaa
open Go.RowKit Go.Sort

theorem canA_zero {a : Au} (h : a.st = 0) : canA a = ⟨a.al, 0, [], []⟩ := by
  have : fnd a = [] := by rw [fnd, if_pos (by omega)]
  simp [canA, this, canM, canEn]
theorem fnd_zero {a : Au} (h : a.st = 0) : fnd a = [] := by rw [fnd, if_pos (by omega)]

set_option maxHeartbeats 1000000 in
theorem canonical_zero (A : Option Addr) (n c : Nat) (s : Int) (M : Option Addr) (m d : Nat) (E : Option Addr) (k g : Nat) (a : Au) (B : Nat) (w : World) (h : AuR w B A n c s M m d E k g a) (hB : B ≤ w.heap.size) (hS : s = 0) :
    Calls Try.prog 51 #[.agg #[.slice A n c, .int .i64 s, .slice M m d, .slice E k g]] w fun e w' => ∃ v, e = .returned v ∧ AuF (canA a) v w' w.heap.size ∧ Below w.heap.size w w' := by
  have hst := h.st
  subst hS
  have hca := Lib.hid (canA_zero hst)
  have HR := Lib.hid h
  have HA := Lib.hid (Row.new w [.slice A n c, .int .i64 0, .slice M m d, .slice E k g] 25)
  have HA2 := Lib.hid (HA.out.alloc (.cells #[.slice none 0 0, .int .i64 0, .slice none 0 0, .slice none 0 0] 25))
  have HRes := Lib.hid (Row.new (w.alloc (.cells #[.slice A n c, .int .i64 0, .slice M m d, .slice E k g] 25)) [.slice none 0 0, .int .i64 0, .slice none 0 0, .slice none 0 0] 25)
  have HB1 := Lib.hid (((Below.refl w.heap.size w).alloc (Nat.le_refl _) (.cells #[.slice A n c, .int .i64 0, .slice M m d, .slice E k g] 25)).alloc (by simp) (.cells #[.slice none 0 0, .int .i64 0, .slice none 0 0, .slice none 0 0] 25))
  have HCL := Lib.hid (clone_sl A n c a.al _ (((h.al.more hB).below HB1.out (Nat.le_refl _)).more HB1.out.size) h.hn (by have := h.bn; omega))
  clear h hst
  go_enter Try.func51, Try.ntmps51
  go_wp2_with fail
  refine HCL.out.mono ?_
  rintro e w1 ⟨Ac, cc, rfl, hoc, hbw⟩
  rw [HR.out.hn] at *
  have hz := hbw.size
  simp only [World.size_alloc] at hz
  have hB1 := Lib.hid (HB1.out.trans (hbw.mono (by simp; omega)))
  have hA1 := Lib.hid (HA2.out.below hbw (by simp; omega))
  have hR1 := Lib.hid (show Row w1 (w.heap.size + 1) 25 [.slice none 0 0, .int .i64 0, .slice none 0 0, .slice none 0 0] by have := HRes.out.below hbw (by simp); simpa using this)
  have hC1 := Lib.hid hoc
  have HCC := Lib.hid (show n ≤ cc ∧ cc ≤ 9223372036854775807 from by
    obtain ⟨A', c', e, _, q1, q2⟩ := own_rdc hoc
    injection e with e1 e2 e3
    rw [HR.out.hn] at q1; subst e3; exact ⟨q1, q2⟩)
  have HAC := Lib.hid (show ∀ b o f, Ac = some ⟨b, o, f⟩ → w.heap.size + 1 < b from fun b o f e => by
    subst e
    have := (hoc.lt b rfl).1
    simp at this; omega)
  have hrd := Lib.hid (show RdI w1 w1.heap.size Ac a.al by
    obtain ⟨A', c', e, hrd⟩ := own_rd hoc
    injection e with e1 e2 e3
    subst e1
    exact hrd)
  clear hoc hbw
  have hbl : w.heap.size + 1 < w1.heap.size := by omega
  have y1 := (hA1.out.alloc (.cells #[.slice Ac n cc, .int .i64 0, .slice none 0 0, .slice none 0 0] 25)).cell 1 rfl
  have hR2 := Lib.hid (hR1.out.alloc (.cells #[.slice Ac n cc, .int .i64 0, .slice none 0 0, .slice none 0 0] 25))
  have r0 := hR2.out.cell 0 rfl
  have r1 := hR2.out.cell 1 rfl
  have r2 := hR2.out.cell 2 rfl
  have r3 := hR2.out.cell 3 rfl
  have s0 := hR2.out.frozen 0
  have s1 := hR2.out.frozen 1
  have s2 := hR2.out.frozen 2
  have s3 := hR2.out.frozen 3
  have r0' := hR1.out.cell 0 rfl
  have r1' := hR1.out.cell 1 rfl
  have r2' := hR1.out.cell 2 rfl
  have r3' := hR1.out.cell 3 rfl
  have s0' := hR1.out.frozen 0
  have s1' := hR1.out.frozen 1
  have s2' := hR1.out.frozen 2
  have s3' := hR1.out.frozen 3
  have y1' := hA1.out.cell 1 rfl
  go_wp2_with fail
  (try simp only [Exit.inBlock, Exit.then])
  have hcr : CR w w.heap.size w1.heap.size Ac a.al (canM a) (canEn a 0) (.slice none 0 0) (.slice none 0 0) w1 :=
    { bel := hB1.out
      cl := hrd.out
      mo := by
        have : canM a = [] := by rw [canM, fnd_zero HR.out.st]; rfl
        rw [this]; exact World.ownsRow_nil _ _ _ _
      eo := World.ownsRow_nil _ _ _ _
      h1 := hbl
      h2 := Nat.le_refl _ }
  have hfin := ((hcr.set HAC.out 0 (.slice Ac n cc) |>.set HAC.out 1 (.int .i64 0) |>.set HAC.out 2 (.slice none 0 0) |>.set HAC.out 3 (.slice none 0 0)).alloc (.cells #[.slice Ac n cc, .int .i64 0, .slice none 0 0, .slice none 0 0] 25)).gives' (n0 := 0) HAC.out (by rw [fnd_zero HR.out.st]; rfl) HR.out.hn HCC.out HR.out.bn (by have := canM_len a; rw [fnd_zero HR.out.st] at this; simp at this; rw [this]; simp) (by simp [canEn])
  refine bodyPost_ret (v := .agg #[.slice Ac n cc, .int .i64 0, .slice none 0 0, .slice none 0 0]) ?_ rfl ⟨_, rfl, hfin.1, hfin.2⟩
  rw [results_cell1 rfl]
  go_simp

/-- canonical, every right automaton. -/
theorem canon_all (A : Option Addr) (n c : Nat) (s : Int) (M : Option Addr) (m d : Nat) (E : Option Addr) (k g : Nat) (a : Au) (B : Nat) (w : World) (h : AuR w B A n c s M m d E k g a) (hB : B ≤ w.heap.size) (hr : RightW a) (hb : a.st ≤ 5000) :
    Calls Try.prog 51 #[.agg #[.slice A n c, .int .i64 s, .slice M m d, .slice E k g]] w fun e w' => ∃ v, e = .returned v ∧ AuF (canA a) v w' w.heap.size ∧ Below w.heap.size w w' := by
  have h0 := hr.st0
  have hs := h.st
  by_cases hz : a.st = 0
  · exact canonical_zero A n c s M m d E k g a B w h hB (by omega)
  · exact canonical_any A n c s M m d E k g a a.st.toNat B w h hB hr (by omega) (by omega) (by omega)

end Go.Proofs.Ytcciiikaejjooaa

/- Layer 3: Canonical of the program. -/
namespace Go.Proofs.Ytcciiikaejjooaa
open Go.RowKit Go.Sort

def zeroA : Au := ⟨[], 0, [], []⟩
/-- What Canonical hands back. -/
def canR (a : Au) : Au × Int := if chkE a ≠ 0 then (zeroA, chkE a) else (canA a, 0)
/-- An automaton in new memory and an error. -/
def GivesA (w : World) (r : Au × Int) (e : Ending) (w' : World) : Prop := ∃ v, e = .returned (.tuple #[v, .int .i64 r.2]) ∧ AuF r.1 v w' w.heap.size ∧ Below w.heap.size w w'
theorem AuF.set4 {a : Au} {v : Value} {w : World} {base X : Nat} (h : AuF a v w base) (hX : X < base) (v0 v1 v2 v3 : Value) : AuF a v ((((w.setCell ⟨X, 0, none⟩ v0).setCell ⟨X, 1, none⟩ v1).setCell ⟨X, 2, none⟩ v2).setCell ⟨X, 3, none⟩ v3) base :=
  (((h.set hX 0 v0).set hX 1 v1).set hX 2 v2).set hX 3 v3
theorem below_set4 {w w' : World} {B X : Nat} (h : Below B w w') (hX : B ≤ X) (v0 v1 v2 v3 : Value) : Below B w ((((w'.setCell ⟨X, 0, none⟩ v0).setCell ⟨X, 1, none⟩ v1).setCell ⟨X, 2, none⟩ v2).setCell ⟨X, 3, none⟩ v3) :=
  (((h.setCell (p := ⟨X, 0, none⟩) hX v0).setCell (p := ⟨X, 1, none⟩) hX v1).setCell (p := ⟨X, 2, none⟩) hX v2).setCell (p := ⟨X, 3, none⟩) hX v3

set_option maxHeartbeats 1000000 in
theorem mCanonical_any (A : Option Addr) (n c : Nat) (s : Int) (M : Option Addr) (m d : Nat) (E : Option Addr) (k g : Nat) (a : Au) (w : World) (h : AuR w w.heap.size A n c s M m d E k g a) :
    Calls Try.prog 17 #[.agg #[.slice A n c, .int .i64 s, .slice M m d, .slice E k g]] w fun e w' => GivesA w (canR a) e w' := by
  have hb1 := ((Below.refl w.heap.size w).alloc (Nat.le_refl _) (.cells #[.slice A n c, .int .i64 s, .slice M m d, .slice E k g] 25)).alloc (by simp) (.cells #[.slice none 0 0, .int .i64 0, .slice none 0 0, .slice none 0 0] 25)
  have HB1 := Lib.hid hb1
  have hR1 := h.below hb1 (Nat.le_refl _)
  have HC := Lib.hid (mCheck_any A n c s M m d E k g a _ (hR1.more (by simp; omega)))
  have HA := Lib.hid ((Row.new w [.slice A n c, .int .i64 s, .slice M m d, .slice E k g] 25).alloc (.cells #[.slice none 0 0, .int .i64 0, .slice none 0 0, .slice none 0 0] 25))
  have HRes := Lib.hid (Row.new (w.alloc (.cells #[.slice A n c, .int .i64 s, .slice M m d, .slice E k g] 25)) [.slice none 0 0, .int .i64 0, .slice none 0 0, .slice none 0 0] 25)
  have HR := Lib.hid h
  obtain ⟨u, hu⟩ : ∃ u, u = chkE a := ⟨_, rfl⟩
  rw [← hu] at HC
  have HU := Lib.hid hu
  clear h hR1 hu hb1
  by_cases h0 : u = 0
  · have hb0 : (u != 0) = false := by simp [h0]
    have hri := right_of (a := a) (by rw [← HU.out, h0])
    have hS := Lib.hid (fun W (hW : Below w.heap.size w W) => canon_all A n c s M m d E k g a w.heap.size W (HR.out.below hW (Nat.le_refl _)) hW.size hri.toRightW (by have := hri.st1; omega))
    have hr := Lib.hid (show canR a = (canA a, 0) by rw [canR, if_neg (by rw [← HU.out, h0]; simp)])
    clear h0 hri
    go_enter Try.func17, Try.ntmps17
    go_wp2_with fail
    refine HC.out.mono ?_
    rintro e w1 ⟨rfl, hbw⟩
    have hA1 := Lib.hid (HA.out.below hbw (by simp; omega))
    have hR1 := Lib.hid (show Row w1 (w.heap.size + 1) 25 [.slice none 0 0, .int .i64 0, .slice none 0 0, .slice none 0 0] by have := HRes.out.below hbw (by simp); simpa using this)
    have hB1 := Lib.hid (HB1.out.trans (hbw.mono (by simp; omega)))
    have hz := hbw.size
    simp only [World.size_alloc] at hz
    clear hbw
    have p0 := hA1.out.cell 0 rfl
    have p1 := hA1.out.cell 1 rfl
    have p2 := hA1.out.cell 2 rfl
    have p3 := hA1.out.cell 3 rfl
    go_wp2_with fail
    refine (hS.out _ hB1.out).mono ?_
    rintro e w2 ⟨v, rfl, hau, hbw⟩
    have hR2 := hR1.out.below hbw (by omega)
    have hB2 := Lib.hid (hB1.out.trans (hbw.mono hB1.out.size))
    obtain ⟨A2, n2, c2, s2, M2, m2, d2, E2, k2, g2, rfl, hrest⟩ := hau
    have hau2 := Lib.hid (show AuF (canA a) (.agg #[.slice A2 n2 c2, .int .i64 s2, .slice M2 m2 d2, .slice E2 k2 g2]) w2 w1.heap.size from ⟨_, _, _, _, _, _, _, _, _, _, rfl, hrest⟩)
    have r0 := hR2.cell 0 rfl
    have r1 := hR2.cell 1 rfl
    have r2 := hR2.cell 2 rfl
    have r3 := hR2.cell 3 rfl
    have s0 := hR2.frozen 0
    have s1 := hR2.frozen 1
    have s2' := hR2.frozen 2
    have s3 := hR2.frozen 3
    clear p0 p1 p2 p3 hrest hR2 hbw
    go_wp2_with fail
    (try simp only [Exit.inBlock, Exit.then])
    refine bodyPost_ret (v := .tuple #[.agg #[.slice A2 n2 c2, .int .i64 s2, .slice M2 m2 d2, .slice E2 k2 g2], .int .i64 0]) ?_ rfl ⟨.agg #[.slice A2 n2 c2, .int .i64 s2, .slice M2 m2 d2, .slice E2 k2 g2], by rw [hr.out], ?_, ?_⟩
    · rw [results_cell_tmp1 rfl]
      go_simp
    · rw [hr.out]
      exact (hau2.out.set4 (by omega) _ _ _ _).more (by omega)
    · exact below_set4 hB2.out (by omega) _ _ _ _
  · have hb0 : (u != 0) = true := by simp [h0]
    have hr := Lib.hid (show canR a = (zeroA, u) by rw [canR, ← HU.out, if_pos h0])
    clear h0
    go_enter Try.func17, Try.ntmps17
    go_wp2_with fail
    refine HC.out.mono ?_
    rintro e w1 ⟨rfl, hbw⟩
    have hR1 := Lib.hid (show Row w1 (w.heap.size + 1) 25 [.slice none 0 0, .int .i64 0, .slice none 0 0, .slice none 0 0] by have := HRes.out.below hbw (by simp); simpa using this)
    have hB1 := Lib.hid (HB1.out.trans (hbw.mono (by simp; omega)))
    clear hbw
    have r0 := hR1.out.cell 0 rfl
    have r1 := hR1.out.cell 1 rfl
    have r2 := hR1.out.cell 2 rfl
    have r3 := hR1.out.cell 3 rfl
    have s0 := hR1.out.frozen 0
    have s1 := hR1.out.frozen 1
    have s2 := hR1.out.frozen 2
    have s3 := hR1.out.frozen 3
    go_wp2_with fail
    (try simp only [Exit.inBlock, Exit.then])
    refine bodyPost_ret (v := .tuple #[.agg #[.slice none 0 0, .int .i64 0, .slice none 0 0, .slice none 0 0], .int .i64 u]) ?_ rfl ⟨_, by rw [hr.out], ?_, ?_⟩
    · rw [results_cell_tmp1 rfl]
      go_simp
    · rw [hr.out]; exact AuF.zero _ _
    · exact below_set4 hB1.out (by omega) _ _ _ _
end Go.Proofs.Ytcciiikaejjooaa

/- Layer 3: an automaton that is being built in a box. -/
namespace Go.Proofs.Ytcciiikaejjooaa
open Go.RowKit Go.Sort

/-- An automaton that is being built in box bc: below block b1 all is as it was; its edges and, if mk says so, its marked states lie in rows of its own. -/
structure Bd (w1 : World) (b1 bc : Nat) (mk ke : Bool) (va : Value) (s : Int) (wr : World) (ms : List Int) (vm : Value) (es : List Ed) (ve : Value) : Prop where
  bel : Below b1 w1 wr
  cb : Row wr bc 25 [va, .int .i64 s, vm, ve]
  mo : mk = true → Own wr b1 vm ms
  eo : ke = true → OwnE wr b1 ve es
  h1 : b1 ≤ bc
section
variable {w1 wr w2 : World} {b1 bc : Nat} {mk ke : Bool} {va vm ve vm' ve' : Value} {s : Int} {ms : List Int} {es : List Ed}
theorem Bd.h2 (h : Bd w1 b1 bc mk ke va s wr ms vm es ve) : bc < wr.heap.size := h.cb.lt
theorem Bd.call (h : Bd w1 b1 bc mk ke va s wr ms vm es ve) (hb : Below wr.heap.size wr w2) : Bd w1 b1 bc mk ke va s w2 ms vm es ve :=
  ⟨h.bel.trans (hb.mono (Nat.le_of_lt (Nat.lt_of_le_of_lt h.h1 h.h2))), h.cb.below hb h.h2, fun e => own_below (h.mo e) hb, fun e => own_below (h.eo e) hb, h.h1⟩
theorem Bd.alloc (h : Bd w1 b1 bc mk ke va s wr ms vm es ve) (o : Obj) : Bd w1 b1 bc mk ke va s (wr.alloc o) ms vm es ve := h.call ((Below.refl _ wr).alloc (Nat.le_refl _) o)
theorem Bd.drewN (h : Bd w1 b1 bc mk ke va s wr ms vm es ve) (q : Nat) : Bd w1 b1 bc mk ke va s (wr.drewN q) ms vm es ve := ⟨below_drewN h.bel q, h.cb, h.mo, h.eo, h.h1⟩
theorem Bd.drew (h : Bd w1 b1 bc mk ke va s wr ms vm es ve) : Bd w1 b1 bc mk ke va s wr.drew ms vm es ve := ⟨h.bel.drew, h.cb, h.mo, h.eo, h.h1⟩
theorem Bd.neM (h : Bd w1 b1 bc true ke va s wr ms vm es ve) : some bc ≠ vm.ownBlock := fun e => row_ne_own h.cb (h.mo rfl) (by decide) e.symm
theorem Bd.neE (h : Bd w1 b1 bc mk true va s wr ms vm es ve) : some bc ≠ ve.ownBlock := fun e => row_ne_own h.cb (h.eo rfl) (by decide) e.symm
/-- An edge is appended. -/
theorem Bd.edge {x : Ed} (h : Bd w1 b1 bc mk true va s wr ms vm es ve) (hg : wr.grownBy w2 ve.ownBlock) (ho : OwnE w2 b1 ve' (es ++ [x])) :
    Bd w1 b1 bc mk true va s (w2.setCell ⟨bc, 3, none⟩ ve') ms vm (es ++ [x]) ve' := by
  have g2 := h.h2
  have g1 := h.h1
  have hne := h.neE
  have he := h.eo rfl
  refine ⟨h.bel.trans (((Below.refl b1 wr).grown hg (by omega) (fun k hk => (he.lt k hk).1)).setCell (p := ⟨bc, 3, none⟩) h.h1 _), ?_, fun e => ?_, fun _ => ?_, h.h1⟩
  · exact (h.cb.grown hg (fun e => hne e.symm)).set 3 ve'
  · have h3 := own_row (h.mo e) hg (owns_ne (h.mo e) he (by decide))
    exact ownsRow_setCell_other h3 (a := ⟨bc, 3, none⟩) (row_ne_own (h.cb.grown hg (fun e => hne e.symm)) h3 (by decide)) ve'
  · exact ownsRow_setCell_other ho (a := ⟨bc, 3, none⟩) (row_ne_own (h.cb.grown hg (fun e => hne e.symm)) ho (by decide)) ve'
/-- A number is appended to the marked states. -/
theorem Bd.mark {x : Int} (h : Bd w1 b1 bc true ke va s wr ms vm es ve) (hg : wr.grownBy w2 vm.ownBlock) (ho : Own w2 b1 vm' (ms ++ [x])) :
    Bd w1 b1 bc true ke va s (w2.setCell ⟨bc, 2, none⟩ vm') (ms ++ [x]) vm' es ve := by
  have g2 := h.h2
  have g1 := h.h1
  have hne := h.neM
  have hm := h.mo rfl
  refine ⟨h.bel.trans (((Below.refl b1 wr).grown hg (by omega) (fun k hk => (hm.lt k hk).1)).setCell (p := ⟨bc, 2, none⟩) h.h1 _), ?_, fun e => ?_, fun e => ?_, h.h1⟩
  · exact (h.cb.grown hg (fun e => hne e.symm)).set 2 vm'
  · exact ownsRow_setCell_other ho (a := ⟨bc, 2, none⟩) (row_ne_own (h.cb.grown hg (fun e => hne e.symm)) ho (by decide)) vm'
  · have h3 := own_row (h.eo e) hg (owns_ne (h.eo e) hm (by decide))
    exact ownsRow_setCell_other h3 (a := ⟨bc, 2, none⟩) (row_ne_own (h.cb.grown hg (fun e => hne e.symm)) h3 (by decide)) vm'
/-- The number of the states is stored. -/
theorem Bd.state (h : Bd w1 b1 bc mk ke va s wr ms vm es ve) (s' : Int) : Bd w1 b1 bc mk ke va s' (wr.setCell ⟨bc, 1, none⟩ (.int .i64 s')) ms vm es ve := by
  refine ⟨h.bel.setCell (p := ⟨bc, 1, none⟩) h.h1 _, h.cb.set 1 _, fun e => ownsRow_setCell_other (h.mo e) (a := ⟨bc, 1, none⟩) (row_ne_own h.cb (h.mo e) (by decide)) _, fun e => ownsRow_setCell_other (h.eo e) (a := ⟨bc, 1, none⟩) (row_ne_own h.cb (h.eo e) (by decide)) _, h.h1⟩
end
end Go.Proofs.Ytcciiikaejjooaa

/- Layer 3: Found and index of the reference. -/
namespace Go.Proofs.Ytcciiikaejjooaa
open Go.RowKit Go.Sort

/-- Where a number is in a list; -1 if it isn't. -/
def idxI (l : List Int) (x : Int) : Int := if x ∈ l then (l.idxOf x : Int) else -1
theorem idx_yes {zs : List Int} {k : Nat} {x : Int} (h : k < zs.length) (ht : x ∉ zs.take k) (he : zs.getD k 0 = x) : idxI zs x = (k : Int) := by
  have hm : x ∈ zs := by rw [← he]; exact getD_mem h
  rw [idxI, if_pos hm]
  have e : zs = zs.take k ++ zs.drop k := (List.take_append_drop k zs).symm
  rw [e, List.idxOf_append, if_neg ht, drop_step zs k h, he]
  simp; omega
theorem idx_no {zs : List Int} {n : Nat} {x : Int} (hn : zs.length = n) (h : x ∉ zs.take n) : idxI zs x = -1 := by
  rw [List.take_of_length_le (by omega)] at h; rw [idxI, if_neg h]

set_option maxHeartbeats 800000 in
theorem rIndex_any (A : Option Addr) (n c Bx : Nat) (zs : List Int) (x : Int) (w : World) (hx : RdI w Bx A zs) (hn : zs.length = n) (hb : n ≤ 140737488355328) :
    Calls Try.prog 67 #[.slice A n c, .int .i64 x] w fun e w' => e = .returned (.int .i64 (idxI zs x)) ∧ w = w' := by
  have HN := Lib.hid hn
  clear hn
  obtain ⟨v, hv⟩ : ∃ v, v = idxI zs x := ⟨_, rfl⟩
  have HV := Lib.hid hv
  rw [← hv]
  clear hv
  go_enter Try.func67, Try.ntmps67
  go_wp2
  go_loop [5] (fun i => ∃ k : Nat, k ≤ n ∧ i = .int .i64 k ∧ Hid (x ∉ zs.take k)) (fun i => n - (intOf i).toNat)
  case atStart => exact ⟨0, Nat.zero_le _, rfl, by simp [Hid]⟩
  case round =>
    obtain ⟨k, hk, rfl, ht⟩ := hrel
    by_cases hlt : k < n
    · obtain ⟨b1, o1, rfl, _, hc1⟩ := hx (by rw [HN.out]; omega)
      have hz : k < zs.length := by rw [HN.out]; exact hlt
      have h1 := hc1 k hz
      obtain ⟨y, hye⟩ : ∃ y, y = zs.getD k 0 := ⟨_, rfl⟩
      rw [← hye] at h1
      clear hc1 hx
      by_cases hyx : y = x
      · have hr := Lib.hid (show (k : Int) = v by rw [HV.out, idx_yes hz ht.out (by rw [← hye]; exact hyx)])
        have hb1 : (y == x) = true := by simpa using hyx
        clear hyx hye ht hz
        go_wp2
        go_ret
        exact ⟨ret_int hr.out, rfl⟩
      · have hr := Lib.hid (show x ∉ zs.take (k + 1) by rw [mem_snoc_take hz, not_or]; exact ⟨ht.out, by rw [← hye]; exact hyx⟩)
        have hb1 : (y == x) = false := by simpa using hyx
        clear hyx hye ht hz
        go_wp2
        go_round
        case rel => exact ⟨k + 1, by omega, by go_num, hr⟩
        case measure => simp [intOf]; omega
    · have hkn : k = n := by omega
      rw [hkn] at ht
      have hr := Lib.hid (show (-1 : Int) = v by rw [HV.out, idx_no HN.out ht.out])
      clear hkn ht
      go_wp2
      go_ret
      exact ⟨ret_int hr.out, rfl⟩

/-- The edges of a state by the first events. -/
def succK (a : Au) (q : Int) (k : Nat) : List Ed := (a.al.take k).filterMap (edgeO a.ed q)
theorem succK_zero (a : Au) (q : Int) : succK a q 0 = [] := by simp [succK]
theorem take_getD {zs : List Int} {k : Nat} (h : k < zs.length) : zs.take (k + 1) = zs.take k ++ [zs.getD k 0] := by
  rw [List.take_add_one]; simp [List.getD, List.getElem?_eq_getElem h]
theorem succK_some {a : Au} {q : Int} {k : Nat} {x : Ed} (hk : k < a.al.length) (h : edgeO a.ed q (a.al.getD k 0) = some x) : succK a q (k + 1) = succK a q k ++ [x] := by
  unfold succK; rw [take_getD hk, List.filterMap_append]; simp only [List.filterMap_cons, h, List.filterMap_nil, List.append_nil]
theorem succK_none {a : Au} {q : Int} {k : Nat} (hk : k < a.al.length) (h : edgeO a.ed q (a.al.getD k 0) = none) : succK a q (k + 1) = succK a q k := by
  unfold succK; rw [take_getD hk, List.filterMap_append]; simp only [List.filterMap_cons, h, List.filterMap_nil, List.append_nil]
theorem succK_all {a : Au} (h : RightW a) {q : Int} {n : Nat} (hn : a.al.length = n) : succK a q n = succ a.ed q := by
  unfold succK; rw [List.take_of_length_le (by omega), succ_eq h]
theorem succK_pre {a : Au} (h : RightW a) (q : Int) (k : Nat) : succK a q k <+: succ a.ed q := by
  rw [succ_eq h, succK]
  conv => rhs; rw [← List.take_append_drop k a.al, List.filterMap_append]
  exact List.prefix_append _ _
theorem stepI_of {a : Au} {q ev : Int} {x : Ed} (h : edgeO a.ed q ev = some x) : stepI a q ev = x.t := by rw [stepI, stepO, h]; rfl
theorem stepI_no {a : Au} {q ev : Int} (h : edgeO a.ed q ev = none) : stepI a q ev = -1 := by rw [stepI, stepO, h]; rfl

/-- What Found keeps: the call's memory, its list. -/
structure FP (W1 : World) (v : Value) (fl : List Int) (wr : World) : Prop where
  bel : Below W1.heap.size W1 wr
  ow : Own wr W1.heap.size v fl
theorem FP.call {W1 wr w2 : World} {v : Value} {fl : List Int} (h : FP W1 v fl wr) (hb : Below wr.heap.size wr w2) : FP W1 v fl w2 := ⟨h.bel.trans (hb.mono h.bel.size), own_kept h.ow hb⟩
theorem FP.drew {W1 wr : World} {v : Value} {fl : List Int} (h : FP W1 v fl wr) : FP W1 v fl wr.drew := ⟨h.bel.drew, h.ow⟩
/-- The cells that a step's arguments are loaded from. -/
structure StC (H : Nat) (A : Option Addr) (n c : Nat) (s : Int) (M : Option Addr) (m d : Nat) (E : Option Addr) (k g : Nat) (gF j : Nat) (q : Int) (bA iA : Nat) (ev : Int) (wr : World) : Prop where
  bx : BoxA wr H A n c s M m d E k g
  cf : wr.cell? ⟨gF, j, none⟩ = some (.int .i64 q)
  ca : wr.cell? ⟨bA, iA, none⟩ = some (.int .i64 ev)
  l1 : H < wr.heap.size
  l2 : gF < wr.heap.size
  l3 : bA < wr.heap.size
section
variable {H : Nat} {A : Option Addr} {n c : Nat} {s : Int} {M : Option Addr} {m d : Nat} {E : Option Addr} {k g : Nat} {gF j : Nat} {q : Int} {bA iA : Nat} {ev : Int} {wr w2 : World}
theorem StC.call (h : StC H A n c s M m d E k g gF j q bA iA ev wr) (hb : Below wr.heap.size wr w2) : StC H A n c s M m d E k g gF j q bA iA ev w2 :=
  ⟨h.bx.below hb h.l1, (hb.cell (p := ⟨gF, j, none⟩) h.l2).trans h.cf, (hb.cell (p := ⟨bA, iA, none⟩) h.l3).trans h.ca, Nat.lt_of_lt_of_le h.l1 hb.size, Nat.lt_of_lt_of_le h.l2 hb.size, Nat.lt_of_lt_of_le h.l3 hb.size⟩
theorem StC.drew (h : StC H A n c s M m d E k g gF j q bA iA ev wr) : StC H A n c s M m d E k g gF j q bA iA ev wr.drew := ⟨⟨h.bx.c0, h.bx.c1, h.bx.c2, h.bx.c3⟩, h.cf, h.ca, h.l1, h.l2, h.l3⟩
end

set_option maxHeartbeats 4000000 in
set_option maxRecDepth 100000 in
theorem rFound_any (A : Option Addr) (n c : Nat) (s : Int) (M : Option Addr) (m d : Nat) (E : Option Addr) (k g : Nat) (a : Au) (B : Nat) (w : World) (h : AuR w B A n c s M m d E k g a) (hB : B ≤ w.heap.size) (hr : RightW a) (hS : s ≤ 5000) :
    Calls Try.prog 65 #[.agg #[.slice A n c, .int .i64 s, .slice M m d, .slice E k g]] w fun e w' => GivesC w (fnd a) e w' := by
  have HB1 := Lib.hid ((Below.refl w.heap.size w).alloc (Nat.le_refl _) (.cells #[.slice A n c, .int .i64 s, .slice M m d, .slice E k g] 25))
  have HBX := Lib.hid (BoxA.made w A n c s M m d E k g 25)
  have HST := Lib.hid h.st
  have HR := Lib.hid h
  have HRI := Lib.hid hr
  have HBw := Lib.hid hB
  have hs0 := hr.st0
  rw [h.st] at hs0
  obtain ⟨i0, hi, hz0, hz1, hz2⟩ := info_parts info_int
  obtain ⟨W1, hW1⟩ : ∃ W1, W1 = w.alloc (.cells #[.slice A n c, .int .i64 s, .slice M m d, .slice E k g] 25) := ⟨_, rfl⟩
  have hsz1 : W1.heap.size = w.heap.size + 1 := by rw [hW1]; simp
  have HB1l := HB1
  have HBXl := HBX
  rw [← hW1] at HB1 HBX
  have HW1 := Lib.hid hW1
  have HSZ := Lib.hid hsz1
  have HBT := Lib.hid (fun W (hW : Below W1.heap.size W1 W) => HB1.out.trans (hW.mono (by omega)))
  clear h hr hsz1 hW1 hB
  by_cases h0 : s = 0
  · subst h0
    have hf := Lib.hid (show fnd a = [] from fnd_zero HST.out)
    rw [hf.out]
    obtain ⟨p0, p1, p2, p3⟩ := HBXl.out
    go_enter Try.func65, Try.ntmps65
    go_wp2_with fail
    go_loop [3, 4] (fun v i => v = .slice none 0 0 ∧ i = .int .i64 0) (fun _ i => 0)
    case atStart => exact ⟨rfl, rfl⟩
    case round =>
      obtain ⟨rfl, rfl⟩ := hrel
      go_wp2_with fail
      go_ret
      exact ⟨none, 0, rfl, RdI.nil _ _ _, HB1l.out, Nat.le_refl _, by omega⟩
  · have hs1 : 0 < s := by omega
    obtain ⟨S, rfl⟩ : ∃ S : Nat, s = (S : Int) := ⟨s.toNat, by omega⟩
    have hst1 := Lib.hid (show 0 < a.st by rw [HST.out]; exact hs1)
    obtain ⟨p0, p1, p2, p3⟩ := HBXl.out
    go_enter Try.func65, Try.ntmps65
    go_wp2_with (at_builtin; refine wpList_append_own _ rfl _ _ 22 rfl (w.heap.size + 1) 3 i0 (.int .i64 0) 1 8 Try.underlying22 hi hz0 hz1 hz2 rfl (by decide) _ _ _ rfl (World.ownsRow_nil _ _ _ _) ⟨w.heap.size + 1, 0, none⟩ 1 1 [.int .i64 0] rfl rfl ?c1 ?c2 ?c3 ?c4 ?c5 ?_)
    case c1 => exact news_one (by simp)
    case c2 => intro u hu; simp at hu; subst hu; rfl
    case c3 => unfold maxLen; omega
    case c4 => omega
    case c5 => simp
    intro v1 w1 hown1 hgrow1 _
    rw [← HW1.out] at hgrow1
    rw [← HSZ.out] at hown1
    have hO1 := own_app (K := []) (K' := [0]) rfl (Below.refl W1.heap.size W1) (World.ownsRow_nil _ _ _ _) hown1 hgrow1 (Nat.le_refl _)
    have hF1 := Lib.hid (show FP W1 v1 (Fd a 0) w1 from ⟨hO1.2, hO1.1⟩)
    clear hown1 hgrow1 hO1 p0 p1 p2 p3
    go_wp2_with fail
    go_loopw [3, 4] (fun v i wr => ∃ j : Nat, i = .int .i64 j ∧ j ≤ S ∧ Hid (j ≤ (Fd a j).length) ∧ Hid (FP W1 v (Fd a j) wr)) (fun _ i _ => S - (intOf i).toNat)
    case atStart => exact ⟨0, rfl, Nat.zero_le _, Nat.zero_le _, hF1⟩
    case round =>
      clear hF1
      obtain ⟨j, rfl, hjS, hjl, hfp⟩ := hrel
      have hlenS := Fd_len HRI.out hst1.out j
      rw [HST.out, Int.toNat_natCast] at hlenS
      have HPR := Lib.hid (Fd_fnd HRI.out hst1.out j)
      obtain ⟨L, hL⟩ : ∃ L, L = (Fd a j).length := ⟨_, rfl⟩
      have HL := Lib.hid hL
      have hL1 : 1 ≤ L := by have := (Fd_mono a 0 j).length_le; rw [Nat.zero_add, ← hL] at this; simpa [Fd] using this
      rw [← hL] at hlenS
      by_cases hlt : j < L
      · obtain ⟨gF, cF, rfl, hgF, hcF, hcap, hcap2⟩ := own_shape hfp.out.ow hL hL1
        obtain ⟨q, hq⟩ : ∃ q, q = (Fd a j).getD j 0 := ⟨_, rfl⟩
        have HQ := Lib.hid hq
        have HFP := Lib.hid hfp.out
        clear hcF hL hq hfp
        go_wp2_with fail
        go_loopw [3, 5] (fun v i wx => ∃ t : Nat, i = .int .i64 t ∧ t ≤ n ∧ Hid (FP W1 v (visitL (Fd a j) (succK a q t)) wx)) (fun _ i _ => n - (intOf i).toNat)
        case atStart => exact ⟨0, rfl, Nat.zero_le _, by rw [succK_zero, visitL_nil]; exact HFP⟩
        case round =>
          clear hgF hcap hcap2
          obtain ⟨t, rfl, htn, hfp⟩ := hrel
          obtain ⟨p0, p1, p2, p3⟩ := HBX.out.below hfp.out.bel (by have := HSZ.out; omega)
          have hWz := hfp.out.bel.size
          have hSZ := HSZ.out
          by_cases htl : t < n
          · obtain ⟨bA, oA, rfl, hbA, hcA⟩ := HR.out.al (by rw [HR.out.hn]; omega)
            have hz : t < a.al.length := by rw [HR.out.hn]; exact htl
            have ca := hcA t hz
            obtain ⟨ev, hev⟩ : ∃ ev, ev = a.al.getD t 0 := ⟨_, rfl⟩
            rw [← hev] at ca
            have ca' : wr.cell? ⟨bA, oA + t, none⟩ = some (.int .i64 ev) := ((HBT.out wr hfp.out.bel).cell (p := ⟨bA, oA + t, none⟩) (Nat.lt_of_lt_of_le hbA HBw.out)).trans ca
            obtain ⟨fl, hfl⟩ : ∃ fl, fl = visitL (Fd a j) (succK a q t) := ⟨_, rfl⟩
            have hfpre : Fd a j <+: fl := by rw [hfl]; exact visitL_pre _ _
            obtain ⟨L2, hL2⟩ : ∃ L2, L2 = fl.length := ⟨_, rfl⟩
            have HL2 := Lib.hid hL2
            have hLL : L ≤ L2 := by have := hfpre.length_le; rw [← HL.out, ← hL2] at this; exact this
            rw [← hfl] at hfp
            have hflS : L2 ≤ S := by
              have hpre2 : visitL (Fd a j) (succK a q t) <+: fnd a := by
                obtain ⟨r, hr⟩ := succK_pre HRI.out q t
                have h1 : visitL (Fd a j) (succK a q t) <+: visitL (Fd a j) (succ a.ed q) := by
                  rw [← hr, visitL_app]; exact visitL_pre _ _
                rw [HQ.out, ← Fd_go (by rw [← HL.out]; exact hlt), ← HQ.out] at h1
                exact h1.trans (Fd_fnd HRI.out hst1.out (j + 1))
              have h2 := hpre2.length_le
              have h3 := fnd_len HRI.out
              rw [← hfl, ← hL2] at h2
              rw [HST.out, Int.toNat_natCast] at h3
              omega
            obtain ⟨gF2, cF2, rfl, hgF2, hcF2, hcap3, hcap4⟩ := own_shape hfp.out.ow hL2 (by omega)
            have cf : wr.cell? ⟨gF2, j, none⟩ = some (.int .i64 q) := by
              have h1 := hcF2 j (by omega)
              have h2 := getD_pre hfpre (i := j) (by rw [← HL.out]; exact hlt)
              rw [h2, ← HQ.out] at h1
              exact h1
            have z1 : (j : Int) < (L2 : Int) := by omega
            have z2 : (t : Int) < (n : Int) := by omega
            have z3 : (0 : Int) ≤ (j : Int) := by omega
            have z4 : (0 : Int) ≤ (t : Int) := by omega
            have hbn := HR.out.bn
            have HST4 := Lib.hid (show StC w.heap.size (some ⟨bA, oA, none⟩) n c (S : Int) M m d E k g gF2 j q bA (oA + t) ev wr from ⟨⟨p0, p1, p2, p3⟩, cf, ca', by omega, hgF2, by have := HBw.out; omega⟩)
            have HST4d := Lib.hid HST4.out.drew
            have hfpd := Lib.hid hfp.out.drew
            obtain ⟨tt, hto⟩ : ∃ tt, tt = stepI a q ev := ⟨_, rfl⟩
            have HTO := Lib.hid hto
            have HS := Lib.hid (fun W (hF : FP W1 (.slice (some ⟨gF2, 0, none⟩) L2 cF2) fl W) (hC : StC w.heap.size (some ⟨bA, oA, none⟩) n c (S : Int) M m d E k g gF2 j q bA (oA + t) ev W) => (rStep_any (some ⟨bA, oA, none⟩) n c (S : Int) M m d E k g a q ev B W (HR.out.below (HBT.out W hF.bel) HBw.out) (Nat.le_trans HBw.out (HBT.out W hF.bel).size)).mono (R' := fun e w'' => e = .returned (.int .i64 tt) ∧ FP W1 (.slice (some ⟨gF2, 0, none⟩) L2 cF2) fl w'' ∧ StC w.heap.size (some ⟨bA, oA, none⟩) n c (S : Int) M m d E k g gF2 j q bA (oA + t) ev w'') fun e w'' hh => ⟨by rw [hh.1, hto], hF.call hh.2, hC.call hh.2⟩)
            have HEV := Lib.hid hev
            have HFL := Lib.hid hfl
            clear hto hcF2 hcA ca hev hfl hL2
            go_wp2_with fail
            go_region_held3 (fun w' => w'.cell? ⟨w.heap.size, 0, none⟩ = some (.slice (some ⟨bA, oA, none⟩) n c) ∧ w'.cell? ⟨w.heap.size, 1, none⟩ = some (.int .i64 (S : Int)) ∧ w'.cell? ⟨w.heap.size, 2, none⟩ = some (.slice M m d) ∧ w'.cell? ⟨w.heap.size, 3, none⟩ = some (.slice E k g) ∧ w'.cell? ⟨gF2, j, none⟩ = some (.int .i64 q) ∧ w'.cell? ⟨bA, oA + t, none⟩ = some (.int .i64 ev)) (first | with_reducible exact ⟨p0, p1, p2, p3, cf, ca'⟩ | go_keep)
              (first
              | (go_simp; go_at_call 37; (first | with_reducible refine (HS.out _ hfp.out HST4.out).mono ?_ | with_reducible refine (HS.out _ hfpd.out HST4d.out).mono ?_); rintro e w4 ⟨rfl, hF4, hC4⟩
                 have HF4 := Lib.hid hF4
                 have HC4 := Lib.hid hC4
                 obtain ⟨⟨p0, p1, p2, p3⟩, cf, ca', _, _, _⟩ := hC4
                 clear hF4))
            all_goals
              cases he : edgeO a.ed q ev with
              | none =>
                have hto := stepI_no he
                rw [← HTO.out] at hto
                subst hto
                have hnx := Lib.hid (show visitL (Fd a j) (succK a q (t + 1)) = fl by rw [succK_none hz (by rw [← HEV.out]; exact he), HFL.out])
                clear he
                go_wp2_with fail
                go_roundw
                case rel => exact ⟨t + 1, by go_num, by omega, by rw [hnx.out]; first | exact HF4 | exact Lib.hid HF4.out.drew⟩
                case measure => simp [intOf]; omega
              | some x =>
                have hto := stepI_of he
                rw [← HTO.out] at hto
                have hxr := (HRI.out.edr x ((edgeO_some HRI.out.edo).1 he).1).2.1
                rw [← hto] at hxr
                have hnx := Lib.hid (show visitL (Fd a j) (succK a q (t + 1)) = visit fl tt by rw [succK_some hz (by rw [← HEV.out]; exact he), visitL_snoc, ← HFL.out, hto])
                have hto0 : 0 ≤ tt := hxr.1
                obtain ⟨A', c', e', hrd, _, _⟩ := own_rdc HF4.out.ow
                rw [← HL2.out] at e'
                injection e' with e1 e2 e3
                subst e1; subst e3
                have HRD := Lib.hid hrd
                clear he hxr hto hrd
                obtain ⟨r, hr⟩ : ∃ r, r = decide (tt ∈ fl) := ⟨_, rfl⟩
                have HH := Lib.hid (fun W (hW : RdI W W.heap.size (some ⟨gF2, 0, none⟩) fl) => by
                  have := rHas_any (some ⟨gF2, 0, none⟩) L2 cF2 W.heap.size fl tt W hW HL2.out.symm (by omega)
                  rw [← hr] at this; exact this)
                have HRr := Lib.hid hr
                clear hr
                have HRDd := Lib.hid (HRD.out.dr 1)
                cases r
                · have hni := Lib.hid (show tt ∉ fl by have := HRr.out; simpa using this.symm)
                  go_wp2_with fail
                  refine (HH.out _ (by first | exact HRD.out | exact HRDd.out)).mono ?_
                  rintro e w5 ⟨rfl, rfl⟩
                  have HO4 := Lib.hid (show w4.ownsRow W1.heap.size 3 1 (.slice (some ⟨gF2, 0, none⟩) L2 cF2) L2 (fl.map (Value.int .i64)) by have := HF4.out.ow; unfold Own at this; rwa [← HL2.out] at this)
                  have hb4 := HF4.out.bel.size
                  go_wp2_with (at_builtin; refine wpList_append_own _ rfl _ _ 22 rfl W1.heap.size 3 i0 (.int .i64 0) 1 8 Try.underlying22 hi hz0 hz1 hz2 rfl (by decide) _ _ _ rfl (HO4.out.alloc _) ⟨w4.heap.size, 0, none⟩ 1 1 [.int .i64 tt] rfl rfl ?c1 ?c2 ?c3 ?c4 ?c5 ?_)
                  case c1 => exact own_one
                  case c2 => intro u hu; simp at hu; subst hu; rfl
                  case c3 => unfold maxLen; omega
                  case c4 => omega
                  case c5 => simp; omega
                  intro v5 w5 hown5 hgrow5 _
                  rw [HL2.out, ← HSZ.out] at hown5
                  have hO5 := own_app (K' := fl ++ [tt]) rfl HF4.out.bel HF4.out.ow hown5 hgrow5 (Nat.le_refl _)
                  have hF6 := Lib.hid (show FP W1 v5 (fl ++ [tt]) w5 from ⟨hO5.2, hO5.1⟩)
                  clear hown5 hgrow5 hO5
                  go_wp2_with fail
                  go_roundw
                  case rel => exact ⟨t + 1, by go_num, by omega, by rw [hnx.out, visit_new hni.out]; exact hF6⟩
                  case measure => simp [intOf]; omega
                · have hin := Lib.hid (show tt ∈ fl by have := HRr.out; simpa using this.symm)
                  go_wp2_with fail
                  refine (HH.out _ (by first | exact HRD.out | exact HRDd.out)).mono ?_
                  rintro e w5 ⟨rfl, rfl⟩
                  go_wp2_with fail
                  go_roundw
                  case rel => exact ⟨t + 1, by go_num, by omega, by rw [hnx.out, visit_in hin.out]; first | exact HF4 | exact Lib.hid HF4.out.drew⟩
                  case measure => simp [intOf]; omega
          · obtain rfl : t = n := by omega
            have hFs : visitL (Fd a j) (succK a q t) = Fd a (j + 1) := by
              rw [succK_all HRI.out HR.out.hn, Fd_go (by rw [← HL.out]; exact hlt), HQ.out]
            rw [hFs] at hfp
            have hln := Lib.hid (show j + 1 ≤ (Fd a (j + 1)).length by have := (Fd_pre a j).length_le; rw [← HL.out] at this; omega)
            clear hFs
            go_wp2_with fail
            go_roundw
            case rel => exact ⟨j + 1, by go_num, by omega, hln, hfp⟩
            case measure => simp [intOf]; omega
      · obtain rfl : j = L := by have := hjl.out; rw [← HL.out] at this; omega
        have hfn : fnd a = Fd a j := fnd_at HRI.out hst1.out (by rw [← HL.out]; exact Nat.le_refl _) (by rw [HST.out]; simp; omega)
        rw [← hfn] at hfp HL
        obtain ⟨A', c', rfl, hrd, hc1, hc2⟩ := own_rdc hfp.out.ow
        have HF := Lib.hid hfp.out
        have HRD := Lib.hid hrd
        rw [← HL.out] at HF hc1
        clear hfp hrd hfn hL
        have HL9 := Lib.hid HL.out.symm
        rw [HL9.out]
        go_wp2_with fail
        go_ret
        exact ⟨A', c', by rw [HL9.out]; rfl, HRD.out, HBT.out _ HF.out.bel, by rw [HL9.out]; exact hc1, hc2⟩
end Go.Proofs.Ytcciiikaejjooaa

/- Layer 3: Enabled and IsCanonical of the program. -/
namespace Go.Proofs.Ytcciiikaejjooaa
open Go.RowKit Go.Sort

/-- What Enabled hands back. -/
def enR (a : Au) (q : Int) : List Int × Int := if plE a q ≠ 0 then ([], plE a q) else ((succ a.ed q).map Ed.e, 0)
/-- A list in new memory and an error. -/
def GivesP (w : World) (r : List Int × Int) (e : Ending) (w' : World) : Prop := ∃ A c, e = .returned (.tuple #[.slice A r.1.length c, .int .i64 r.2]) ∧ RdI w' w'.heap.size A r.1 ∧ Below w.heap.size w w' ∧ r.1.length ≤ c ∧ c ≤ 9223372036854775807
theorem succ_take_yes {l : List Ed} {t : Nat} {x : Ed} {q : Int} (h : l[t]? = some x) (hq : x.f = q) : (succ (l.take (t + 1)) q).map Ed.e = (succ (l.take t) q).map Ed.e ++ [x.e] := by
  rw [take_succ_ed h]; unfold succ; rw [List.filter_append, List.map_append]; simp [hq]
theorem succ_take_no {l : List Ed} {t : Nat} {x : Ed} {q : Int} (h : l[t]? = some x) (hq : ¬ x.f = q) : (succ (l.take (t + 1)) q).map Ed.e = (succ (l.take t) q).map Ed.e := by
  rw [take_succ_ed h]; unfold succ; rw [List.filter_append]; simp [hq]
theorem succ_take_len (l : List Ed) (t : Nat) (q : Int) : ((succ (l.take t) q).map Ed.e).length ≤ t := by
  rw [List.length_map]; unfold succ
  exact Nat.le_trans (List.length_filter_le _ _) (List.length_take_le _ _)

set_option maxHeartbeats 4000000 in
set_option maxRecDepth 100000 in
theorem mEnabled_any (A : Option Addr) (n c : Nat) (s : Int) (M : Option Addr) (m d : Nat) (E : Option Addr) (k g : Nat) (a : Au) (q : Int) (w : World) (h : AuR w w.heap.size A n c s M m d E k g a) :
    Calls Try.prog 20 #[.agg #[.slice A n c, .int .i64 s, .slice M m d, .slice E k g], .int .i64 q] w fun e w' => GivesP w (enR a q) e w' := by
  have HB1 := Lib.hid ((Below.refl w.heap.size w).alloc (Nat.le_refl _) (.cells #[.slice A n c, .int .i64 s, .slice M m d, .slice E k g] 25))
  have hR1 := (h.below HB1.out (Nat.le_refl _))
  have HP := Lib.hid (checkPlace_any A n c s M m d E k g a q _ (hR1.more (by simp)))
  have HX := Lib.hid (BoxA.made w A n c s M m d E k g 25)
  have HR := Lib.hid h
  obtain ⟨i0, hi, hz0, hz1, hz2⟩ := info_parts info_int
  obtain ⟨u, hu⟩ : ∃ u, u = plE a q := ⟨_, rfl⟩
  rw [← hu] at HP
  have HU := Lib.hid hu
  clear h hR1 hu
  by_cases h0 : u = 0
  · have hb0 : (u != 0) = false := by simp [h0]
    have hr := Lib.hid (show enR a q = ((succ a.ed q).map Ed.e, 0) by rw [enR, if_neg (by rw [← HU.out, h0]; simp)])
    rw [hr.out]
    clear h0
    go_enter Try.func20, Try.ntmps20
    go_wp2_with fail
    refine HP.out.mono ?_
    rintro e w1 ⟨rfl, hbw⟩
    have hB1 := Lib.hid (HB1.out.trans (hbw.mono (by simp)))
    have hX1 := Lib.hid (HX.out.below hbw (by simp))
    have hz := hbw.size
    simp only [World.size_alloc] at hz
    clear hbw
    obtain ⟨p0, p1, p2, p3⟩ := hX1.out
    go_wp2_with fail
    go_loopw [7, 19] (fun v i wr => ∃ t : Nat, t ≤ k ∧ i = .int .i64 t ∧ Hid (FP w1 v ((succ (a.ed.take t) q).map Ed.e) wr)) (fun _ i _ => k - (intOf i).toNat)
    case atStart => exact ⟨0, Nat.zero_le _, rfl, ⟨Below.refl _ _, World.ownsRow_nil _ _ _ _⟩⟩
    case round =>
      clear p0 p1 p2 p3
      obtain ⟨t, htk, rfl, hfp⟩ := hrel
      have hbk := HR.out.bk
      have hsz := hfp.out.bel.size
      by_cases htl : t < k
      · obtain ⟨b1, o1, rfl, hb1, hc1⟩ := HR.out.ed (by rw [HR.out.hk]; omega)
        obtain ⟨x, hx⟩ := edAt (l := a.ed) (k := t) (by rw [HR.out.hk]; exact htl)
        obtain ⟨x0, x1, x2⟩ : EdAt wr b1 (o1 + t * 3) x := (hc1 t x hx).keep fun o => (hB1.out.trans (hfp.out.bel.mono hB1.out.size)).cell (p := ⟨b1, o, none⟩) hb1
        have HX2 := Lib.hid hx
        have hll := succ_take_len a.ed t q
        obtain ⟨K0, hK0⟩ : ∃ K0, K0 = (succ (a.ed.take t) q).map Ed.e := ⟨_, rfl⟩
        have HK0 := Lib.hid hK0
        rw [← hK0] at hfp hll
        clear hK0
        obtain ⟨xf, xe, xt⟩ := x
        simp only at x0 x1 x2
        have HF2 := Lib.hid (hfp.out.call ((Below.refl wr.heap.size wr).alloc (Nat.le_refl _) (.cells #[.int .i64 xf, .int .i64 xe, .int .i64 xt] 67)))
        clear hx hc1
        by_cases hq : xf = q
        · have hqq : (xf == q) = true := by simp [hq]
          have hy := Lib.hid (show (succ (a.ed.take (t + 1)) q).map Ed.e = K0 ++ [xe] by rw [succ_take_yes HX2.out hq, HK0.out])
          clear hq
          go_wp2_with (at_builtin; refine wpList_append_own _ rfl _ _ 22 rfl w1.heap.size 3 i0 (.int .i64 0) 1 8 Try.underlying22 hi hz0 hz1 hz2 rfl (by decide) _ _ _ rfl (HF2.out.ow.alloc _) ⟨wr.heap.size + 1, 0, none⟩ 1 1 [.int .i64 xe] rfl rfl (news_one (by simp)) (by intro u hu; simp at hu; subst hu; rfl) (by unfold maxLen; omega) (by omega) (by simp; omega) ?_)
          intro v5 w5 hown5 hgrow5 _
          have hO5 := own_app (K' := (succ (a.ed.take (t + 1)) q).map Ed.e) hy.out HF2.out.bel HF2.out.ow hown5 hgrow5 (Nat.le_refl _)
          have hF6 := Lib.hid (show FP w1 v5 ((succ (a.ed.take (t + 1)) q).map Ed.e) w5 from ⟨hO5.2, hO5.1⟩)
          clear hown5 hgrow5 hO5
          go_wp2_with fail
          go_roundw
          case rel => exact ⟨t + 1, by omega, by go_num, hF6⟩
          case measure => simp [intOf]; omega
        · have hqq : (xf == q) = false := by simp [hq]
          have hy := Lib.hid (show (succ (a.ed.take (t + 1)) q).map Ed.e = K0 by rw [succ_take_no HX2.out hq, HK0.out])
          clear hq
          go_wp2_with fail
          go_roundw
          case rel => exact ⟨t + 1, by omega, by go_num, by rw [hy.out]; exact HF2⟩
          case measure => simp [intOf]; omega
      · obtain rfl : t = k := by omega
        rw [List.take_of_length_le (by rw [HR.out.hk]; exact Nat.le_refl _)] at hfp
        obtain ⟨A', c', rfl, hrd, hc1, hc2⟩ := own_rdc hfp.out.ow
        have HF := Lib.hid hfp.out
        have HRD := Lib.hid hrd
        clear hfp hrd
        go_wp2_with fail
        go_ret2
        exact ⟨A', c', rfl, HRD.out, hB1.out.trans (HF.out.bel.mono hB1.out.size), hc1, hc2⟩
  · have hb0 : (u != 0) = true := by simp [h0]
    have hr := Lib.hid (show enR a q = ([], u) by rw [enR, if_pos (by rw [← HU.out]; exact h0), HU.out])
    rw [hr.out]
    clear h0
    go_enter Try.func20, Try.ntmps20
    go_wp2_with fail
    refine HP.out.mono ?_
    rintro e w1 ⟨rfl, hbw⟩
    have hB1 := Lib.hid (HB1.out.trans (hbw.mono (by simp)))
    clear hbw
    go_wp2_with fail
    go_ret2
    exact ⟨none, 0, rfl, RdI.nil _ _ _, hB1.out, Nat.le_refl _, by omega⟩

/-- Whether an automaton is right and its own canonical form. -/
def isC (a : Au) : Bool := decide (chkE a = 0) && decide (a = canA a)
/-- The argument's box. -/
structure IB (w : World) (A : Option Addr) (n c : Nat) (s : Int) (M : Option Addr) (m d : Nat) (E : Option Addr) (k g : Nat) (w' : World) : Prop where
  bel : Below w.heap.size w w'
  bx : BoxA w' w.heap.size A n c s M m d E k g
  lt : w.heap.size < w'.heap.size
section
variable {w w1 w2 : World} {A : Option Addr} {n c : Nat} {s : Int} {M : Option Addr} {m d : Nat} {E : Option Addr} {k g : Nat}
theorem IB.call (h : IB w A n c s M m d E k g w1) (hb : Below w1.heap.size w1 w2) : IB w A n c s M m d E k g w2 := ⟨h.bel.trans (hb.mono h.bel.size), h.bx.below hb h.lt, Nat.lt_of_lt_of_le h.lt hb.size⟩
theorem IB.drew (h : IB w A n c s M m d E k g w1) : IB w A n c s M m d E k g w1.drew := ⟨h.bel.drew, ⟨h.bx.c0, h.bx.c1, h.bx.c2, h.bx.c3⟩, h.lt⟩
theorem IB.made (w : World) : IB w A n c s M m d E k g (w.alloc (.cells #[.slice A n c, .int .i64 s, .slice M m d, .slice E k g] 25)) := ⟨(Below.refl _ _).alloc (Nat.le_refl _) _, BoxA.made w A n c s M m d E k g 25, by simp⟩
end

set_option maxHeartbeats 4000000 in
set_option maxRecDepth 100000 in
theorem mIsCanonical_any (A : Option Addr) (n c : Nat) (s : Int) (M : Option Addr) (m d : Nat) (E : Option Addr) (k g : Nat) (a : Au) (w : World) (h : AuR w w.heap.size A n c s M m d E k g a) :
    Calls Try.prog 28 #[.agg #[.slice A n c, .int .i64 s, .slice M m d, .slice E k g]] w fun e w' => e = .returned (.bool (isC a)) ∧ Below w.heap.size w w' := by
  have HI0 := Lib.hid (IB.made (A := A) (n := n) (c := c) (s := s) (M := M) (m := m) (d := d) (E := E) (k := k) (g := g) w)
  have HI0d := Lib.hid HI0.out.drew
  have HAt := Lib.hid (fun W (hW : Below w.heap.size w W) => (h.below hW (Nat.le_refl _)).more hW.size)
  obtain ⟨u, hu⟩ : ∃ u, u = chkE a := ⟨_, rfl⟩
  have HC := Lib.hid (fun W (hI : IB w A n c s M m d E k g W) => (mCheck_any A n c s M m d E k g a W (HAt.out W hI.bel)).mono (R' := fun e w' => e = .returned (.int .i64 u) ∧ IB w A n c s M m d E k g w') fun e w' hh => ⟨by rw [hh.1, hu], hI.call hh.2⟩)
  have HU := Lib.hid hu
  obtain ⟨p0, p1, p2, p3⟩ := HI0.out.bx
  by_cases h0 : u = 0
  · have hri := Lib.hid (right_of (a := a) (by rw [← hu, h0]))
    obtain ⟨r, hr⟩ : ∃ r, r = decide (a = canA a) := ⟨_, rfl⟩
    have hisC := Lib.hid (show isC a = r by rw [isC, ← hu, ← hr, h0]; simp)
    rw [hisC.out]
    have HCan := Lib.hid (fun W (hI : IB w A n c s M m d E k g W) => (canon_all A n c s M m d E k g a W.heap.size W (HAt.out W hI.bel) (Nat.le_refl _) hri.out.toRightW (by have := hri.out.st1; omega)).mono (R' := fun e w' => ∃ A2 n2 c2 s2 M2 m2 d2 E2 k2 g2, e = .returned (.agg #[.slice A2 n2 c2, .int .i64 s2, .slice M2 m2 d2, .slice E2 k2 g2]) ∧ AuR w' w'.heap.size A2 n2 c2 s2 M2 m2 d2 E2 k2 g2 (canA a) ∧ IB w A n c s M m d E k g w') fun e w' hh => by
      obtain ⟨v, e1, ⟨A2, n2, c2, s2, M2, m2, d2, E2, k2, g2, rfl, hx, _⟩, hb⟩ := hh
      exact ⟨A2, n2, c2, s2, M2, m2, d2, E2, k2, g2, e1, hx, hI.call hb⟩)
    have HRr := Lib.hid hr
    have hd : (u == 0) = true := by simp [h0]
    clear h hu hr h0
    go_enter Try.func28, Try.ntmps28
    go_wp2_with fail
    go_region_held3 (fun w' => w'.cell? ⟨w.heap.size, 0, none⟩ = some (.slice A n c) ∧ w'.cell? ⟨w.heap.size, 1, none⟩ = some (.int .i64 s) ∧ w'.cell? ⟨w.heap.size, 2, none⟩ = some (.slice M m d) ∧ w'.cell? ⟨w.heap.size, 3, none⟩ = some (.slice E k g)) (first | with_reducible exact ⟨p0, p1, p2, p3⟩ | go_keep)
      (first
      | (go_simp; go_at_call 16; (first | with_reducible refine (HC.out _ HI0.out).mono ?_ | with_reducible refine (HC.out _ HI0d.out).mono ?_); rintro e w3 ⟨rfl, hI3⟩
         have HI3 := Lib.hid hI3
         have HI3d := Lib.hid hI3.drew
         obtain ⟨p0, p1, p2, p3⟩ := hI3.bx
         clear hI3)
      | (go_simp; go_at_call 51; (first | with_reducible refine (HCan.out _ HI3.out).mono ?_ | with_reducible refine (HCan.out _ HI3d.out).mono ?_); rintro e w4 ⟨A2, n2, c2, s2, M2, m2, d2, E2, k2, g2, rfl, hau, hI4⟩
         have HI4 := Lib.hid hI4
         have HI4d := Lib.hid hI4.drew
         have HE4 := Lib.hid ((mEqual_any A n c s M m d E k g A2 n2 c2 s2 M2 m2 d2 E2 k2 g2 a (canA a) w4.heap.size w4 (HAt.out w4 hI4.bel) hau (Nat.le_refl _)).mono (R' := fun e w' => e = .returned (.bool r) ∧ IB w A n c s M m d E k g w') fun e w' hh => ⟨by rw [hh.1, ← HRr.out], hI4.call hh.2⟩)
         have HE4d := Lib.hid ((mEqual_any A n c s M m d E k g A2 n2 c2 s2 M2 m2 d2 E2 k2 g2 a (canA a) w4.heap.size w4.drew (HAt.out w4.drew hI4.drew.bel) (AuR.keep hau fun b o _ => rfl) (Nat.le_refl _)).mono (R' := fun e w' => e = .returned (.bool r) ∧ IB w A n c s M m d E k g w') fun e w' hh => ⟨by rw [hh.1, ← HRr.out], hI4.drew.call hh.2⟩)
         obtain ⟨p0, p1, p2, p3⟩ := hI4.bx
         clear hI4 hau)
      | (go_simp; go_at_call 31; (first | with_reducible refine HE4.out.mono ?_ | with_reducible refine HE4d.out.mono ?_); rintro e w5 ⟨rfl, hI5⟩
         have HI5 := Lib.hid hI5
         obtain ⟨p0, p1, p2, p3⟩ := hI5.bx
         clear hI5))
    all_goals
      go_wp2_with fail
      go_ret
      exact ⟨rfl, by first | exact HI5.out.bel | exact HI5.out.bel.drew⟩
  · have hisC := Lib.hid (show isC a = false by rw [isC, ← hu]; simp [h0])
    rw [hisC.out]
    have hd : (u == 0) = false := by simp [h0]
    clear h hu h0
    go_enter Try.func28, Try.ntmps28
    go_wp2_with fail
    go_region_law (first
      | (go_simp; go_at_call 16; refine (HC.out _ HI0d.out).mono ?_; rintro e w3 ⟨rfl, hI3⟩
         have HI3 := Lib.hid hI3
         obtain ⟨p0, p1, p2, p3⟩ := hI3.bx
         clear hI3))
    all_goals
      go_wp2_with fail
      go_ret
      exact ⟨rfl, by first | exact HI3.out.bel | exact HI3.out.bel.drew⟩
end Go.Proofs.Ytcciiikaejjooaa
