/- Layer 3: canonical of the program makes the canonical form. -/
import Derived.Test.YtcciiikaejjooaaaMk
namespace Go.Proofs.Ytcciiikaejjooaa
open Go.RowKit Go.Sort

set_option maxHeartbeats 4000000 in
set_option maxRecDepth 100000 in
theorem canonical_any (A : Option Addr) (n c : Nat) (s : Int) (M : Option Addr) (m d : Nat) (E : Option Addr) (k g : Nat) (a : Au) (S : Nat) (B : Nat) (w : World) (h : AuR w B A n c s M m d E k g a) (hB : B ≤ w.heap.size) (hr : RightW a) (hS : s = (S : Int)) (hS0 : 0 < S) (hSb : S ≤ 5000) :
    Calls Try.prog 51 #[.agg #[.slice A n c, .int .i64 s, .slice M m d, .slice E k g]] w fun e w' => ∃ v, e = .returned v ∧ AuF (canA a) v w' w.heap.size ∧ Below w.heap.size w w' := by
  have hst := h.st
  subst hS
  have HR := Lib.hid h
  have HRI := Lib.hid hr
  have HST := Lib.hid hst
  have HA := Lib.hid (Row.new w [.slice A n c, .int .i64 (S : Int), .slice M m d, .slice E k g] 25)
  have HA2 := Lib.hid (HA.out.alloc (.cells #[.slice none 0 0, .int .i64 0, .slice none 0 0, .slice none 0 0] 25))
  have HRes := Lib.hid (Row.new (w.alloc (.cells #[.slice A n c, .int .i64 (S : Int), .slice M m d, .slice E k g] 25)) [.slice none 0 0, .int .i64 0, .slice none 0 0, .slice none 0 0] 25)
  have HB1 := Lib.hid (((Below.refl w.heap.size w).alloc (Nat.le_refl _) (.cells #[.slice A n c, .int .i64 (S : Int), .slice M m d, .slice E k g] 25)).alloc (by simp) (.cells #[.slice none 0 0, .int .i64 0, .slice none 0 0, .slice none 0 0] 25))
  have HCL := Lib.hid (clone_sl A n c a.al _ (((h.al.more hB).below HB1.out (Nat.le_refl _)).more HB1.out.size) h.hn (by have := h.bn; omega))
  obtain ⟨iI, iI0, iI1, iI2, iI3⟩ := info_parts info_int
  obtain ⟨iE, iE0, iE1, iE2, iE3⟩ := info_parts info_edge
  have hmk := make_ints S (by omega)
  have hbk := h.bk
  have hdS : ((S : Int) == 0) = false := by simp; omega
  have HES := Lib.hid (fun W (hw : Below w.heap.size w W) => edgeStarts_any A n c (S : Int) M m d E k g a S B W (h.below hw hB) (Nat.le_trans hB hw.size) rfl hSb (fun x hx => (hr.edr x hx).1))
  clear h hst hr
  go_enter Try.func51, Try.ntmps51
  go_wp2_with fail
  refine HCL.out.mono ?_
  rintro e w1 ⟨Ac, cc, rfl, hoc, hbw⟩
  rw [HR.out.hn] at *
  have hz := hbw.size
  simp only [World.size_alloc] at hz
  have hB1 := Lib.hid (HB1.out.trans (hbw.mono (by simp; omega)))
  have hA1 := Lib.hid (HA2.out.below hbw (by simp; omega))
  have hR1 := Lib.hid (show Row w1 (w.heap.size + 1) 25 [.slice none 0 0, .int .i64 0, .slice none 0 0, .slice none 0 0] by have := HRes.out.below hbw (by simp); simpa using this)
  have hC1 := Lib.hid hoc
  have HCC := Lib.hid (show n ≤ cc ∧ cc ≤ 9223372036854775807 from by
    obtain ⟨A', c', e, _, q1, q2⟩ := own_rdc hoc
    injection e with e1 e2 e3
    rw [HR.out.hn] at q1; subst e3; exact ⟨q1, q2⟩)
  have HAC := Lib.hid (show ∀ b o f, Ac = some ⟨b, o, f⟩ → w.heap.size + 1 < b from fun b o f e => by
    subst e
    have := (hoc.lt b rfl).1
    simp at this; omega)
  clear hoc hbw
  have y1 := hA1.out.cell 1 rfl
  have y1a := fun cs : Array Value => (World.cell?_alloc_lt w1 (.cells cs 25) ⟨w.heap.size, 1, none⟩ (by simp; omega)).trans y1
  go_wp2_with fail
  have hCB := Lib.hid (show CB w w.heap.size w1.heap.size A n c (S : Int) M m d E k g Ac cc a (w1.alloc (.cells #[.slice Ac n cc, .int .i64 0, .slice none 0 0, .slice none 0 0] 25)) (.slice none 0 0) (.slice none 0 0) 0 from
    { bel := hB1.out.alloc (by omega) _
      bx := hA1.out.alloc _
      res := hR1.out.alloc _
      cb := Row.new w1 [.slice Ac n cc, .int .i64 0, .slice none 0 0, .slice none 0 0] 25
      cl := by
        obtain ⟨A', c', e, hrd⟩ := own_rd hC1.out
        injection e with e1 e2 e3
        subst e1
        exact hrd.below ((Below.refl w1.heap.size w1).alloc (Nat.le_refl _) _) (Nat.le_refl _)
      h1 := by omega
      h2 := by simp })
  have hN0 := Lib.hid (show Row ((w1.alloc (.cells #[.slice Ac n cc, .int .i64 0, .slice none 0 0, .slice none 0 0] 25)).alloc (.cells (List.replicate S (Value.int .i64 0)).toArray 3)) (w1.heap.size + 1) 3 ((List.replicate 0 (-1 : Int) ++ List.replicate (S - 0) 0).map (Value.int .i64)) by
    have := Row.new (w1.alloc (.cells #[.slice Ac n cc, .int .i64 0, .slice none 0 0, .slice none 0 0] 25)) (List.replicate S (Value.int .i64 0)) 3
    simpa using this)
  clear y1 y1a
  go_loopw [26] (fun i wr => ∃ j : Nat, j ≤ S ∧ i = .int .i64 j ∧ Hid (CB w w.heap.size w1.heap.size A n c (S : Int) M m d E k g Ac cc a wr (.slice none 0 0) (.slice none 0 0) 0) ∧ Hid (Row wr (w1.heap.size + 1) 3 ((List.replicate j (-1 : Int) ++ List.replicate (S - j) 0).map (Value.int .i64))) ∧ wr.heap.size = w1.heap.size + 2) (fun i _ => S - (intOf i).toNat)
  case atStart => exact ⟨0, Nat.zero_le _, rfl, Lib.hid (hCB.out.alloc _), hN0, by simp⟩
  case round =>
    obtain ⟨j, hj, rfl, hcb, hno, hsz⟩ := hrel
    have HSZ := Lib.hid hsz
    clear hsz
    by_cases hlt : j < S
    · have hx := hno.out.cell j (v := .int .i64 0) (by
        rw [List.getElem?_map, List.getElem?_append_right (by simp), List.getElem?_replicate, if_pos (by simp; omega)]; rfl)
      have hf := hno.out.frozen j
      go_wp2_with fail
      go_roundw
      case rel => exact ⟨j + 1, by omega, by go_num, Lib.hid (hcb.out.far ((Below.refl _ _).setCell (p := ⟨w1.heap.size + 1, j, none⟩) (Nat.le_refl _) _)), Lib.hid (by
        have := hno.out.set j (.int .i64 (-1)); rwa [map_set_int, fill_step hlt] at this), by simp [World.setCell, HSZ.out]⟩
      case measure => simp [intOf]; omega
    · obtain rfl : j = S := by omega
      have hx := hno.out.cell 0 (v := .int .i64 (-1)) (by
        rw [Nat.sub_self, List.replicate_zero, List.append_nil, List.getElem?_map, List.getElem?_replicate, if_pos (by omega)]; rfl)
      have hf := hno.out.frozen 0
      have i0 : (0 : Int) < (j : Int) := by omega
      have hcb2 := Lib.hid ((hcb.out.far ((Below.refl _ _).setCell (p := ⟨w1.heap.size + 1, 0, none⟩) (Nat.le_refl _) (.int .i64 0))).alloc (.cells #[.int .i64 0] 3))
      have hnu2 := Lib.hid (show Row ((wr.setCell ⟨w1.heap.size + 1, 0, none⟩ (.int .i64 0)).alloc (.cells #[.int .i64 0] 3)) (w1.heap.size + 1) 3 ((numL [0] j).map (Value.int .i64)) by
        have := (hno.out.set 0 (.int .i64 0)).alloc (.cells #[.int .i64 0] 3)
        rw [map_set_int, Nat.sub_self, List.replicate_zero, List.append_nil] at this
        rwa [numL_zero hS0])
      have hfo2 := Lib.hid (show ((wr.setCell ⟨w1.heap.size + 1, 0, none⟩ (.int .i64 0)).alloc (.cells #[.int .i64 0] 3)).ownsRow (w1.heap.size + 2) 3 1 (.slice (some ⟨wr.heap.size, 0, none⟩) 1 1) 1 [.int .i64 0] by
        have := World.ownsRow_lit (base := w1.heap.size + 2) (size := 1) (e := 3) (wr.setCell ⟨w1.heap.size + 1, 0, none⟩ (.int .i64 0)) #[.int .i64 0] 1 (by rw [← HSZ.out]; simp [World.setCell]) (by unfold maxLen; omega) rfl
        simpa [World.setCell] using this)
      have e0 := hcb2.out.bx.cell 0 rfl
      have e1 := hcb2.out.bx.cell 1 rfl
      have e2 := hcb2.out.bx.cell 2 rfl
      have e3 := hcb2.out.bx.cell 3 rfl
      go_wp2_with fail
      refine (HES.out _ hcb2.out.bel).mono ?_
      rintro e w2 ⟨gS, rfl, hgS, hrS, hbw⟩
      have hz2 := hbw.size
      simp only [World.size_alloc, World.size_setCell] at hz2 hgS
      go_wp2_with fail
      have hcs := Lib.hid (show CS w w.heap.size w1.heap.size gS A n c (j : Int) M m d E k g j Ac cc a w2 (Fd a 0) (.slice (some ⟨wr.heap.size, 0, none⟩) 1 1) (canEn a 0) (.slice none 0 0) from
        { bel := hcb2.out.bel.trans (hbw.mono hcb2.out.bel.size)
          bx := hcb2.out.bx.below hbw hcb2.out.bx.lt
          res := hcb2.out.res.below hbw hcb2.out.res.lt
          cb := hcb2.out.cb.below hbw hcb2.out.cb.lt
          cl := hcb2.out.cl.below hbw (by have := HSZ.out; simp; omega)
          nu := hnu2.out.below hbw hnu2.out.lt
          st := hrS
          fo := by
            have := own_below hfo2.out hbw
            simpa [Own, Fd] using this
          eo := World.ownsRow_nil _ _ _ _
          fs := by simp [Value.ownBlock]; omega
          h1 := hcb2.out.h1
          h2 := by have := HSZ.out; omega
          h3 := hrS.lt })
      clear hcb hno hx hf hcb2 hnu2 hfo2 e0 e1 e2 e3 hrS hbw hgS hz2 hCB hN0 hmk HCL HES HA HA2 HRes HB1 hB1 hA1 hR1 hC1
      go_loopw [6, 8] (fun v i wr => ∃ (n0 : Nat) (ve : Value), i = .int .i64 n0 ∧ n0 ≤ j ∧ Hid (n0 ≤ (Fd a n0).length) ∧ Hid (CS w w.heap.size w1.heap.size gS A n c (j : Int) M m d E k g j Ac cc a wr (Fd a n0) v (canEn a n0) ve)) (fun _ i _ => j - (intOf i).toNat)
      case atStart => exact ⟨0, _, rfl, Nat.zero_le _, Nat.zero_le _, hcs⟩
      case round =>
        clear hcs
        obtain ⟨n0, ve, rfl, hnj, hnl, hcs⟩ := hrel
        have hst0 : 0 < a.st := by rw [HST.out]; omega
        have hrange := Fd_range HRI.out hst0 n0
        have hlen := Fd_len HRI.out hst0 n0
        rw [HST.out] at hrange hlen
        rw [Int.toNat_natCast] at hlen
        have HRG := Lib.hid hrange
        have HPR := Lib.hid (Fd_fnd HRI.out hst0 n0)
        obtain ⟨L, hL⟩ : ∃ L, L = (Fd a n0).length := ⟨_, rfl⟩
        have HL := Lib.hid hL
        have hL1 : 1 ≤ L := by have := (Fd_mono a 0 n0).length_le; rw [Nat.zero_add, ← hL] at this; simpa [Fd] using this
        obtain ⟨gF, cF, rfl, hgF, hcF, hcap, hcap2⟩ := own_shape hcs.out.fo hL hL1
        rw [← hL] at hlen
        clear hrange hst0
        by_cases hlt : n0 < L
        · have hq := HRG.out ((Fd a n0).getD n0 0) (getD_mem (by rw [← HL.out]; exact hlt))
          obtain ⟨Q, hQ⟩ : ∃ Q : Nat, (Fd a n0).getD n0 0 = (Q : Int) := ⟨((Fd a n0).getD n0 0).toNat, by omega⟩
          have hQj : Q < j := by rw [hQ] at hq; omega
          have c1 := hcF n0 hlt
          rw [hQ] at c1
          have HQ := Lib.hid hQ
          obtain ⟨Q1, hQ1⟩ : ∃ Q1, Q1 = Q + 1 := ⟨_, rfl⟩
          have HQ1 := Lib.hid hQ1
          have hQ1j : Q1 < j + 1 := by omega
          have c2 := hcs.out.st.int (j := Q) (by rw [startL_len]; omega)
          rw [startL_at (by omega)] at c2
          have c3 := hcs.out.st.int (j := Q1) (by rw [startL_len]; omega)
          rw [startL_at (by omega)] at c3
          have c4 := hcs.out.bx.cell 3 rfl
          have hsl := succ_len HRI.out.edo Q
          rw [← hQ1] at hsl
          have hmo := startN_mono a.ed Q
          rw [← hQ1] at hmo
          have hle := startN_le a.ed Q1
          rw [HR.out.hk] at hle
          have hat := Lib.hid (succ_at HRI.out.edo Q)
          rw [← hQ1] at hat
          obtain ⟨lo, hlo⟩ : ∃ lo, lo = startN a.ed Q := ⟨_, rfl⟩
          obtain ⟨hi, hhi⟩ : ∃ hi, hi = startN a.ed Q1 := ⟨_, rfl⟩
          rw [← hlo] at c2 hsl hmo hat
          rw [← hhi] at c3 hsl hmo hat hle
          have HSL := Lib.hid hsl
          have hwr : IntKind.i64.wrap ((Q : Int) + 1) = (Q1 : Int) := by rw [IntWalk.i64_in _ (by omega)]; omega
          have hkg := HR.out.ck.1
          have hkg2 := HR.out.ck.2
          have j0 : (0 : Int) ≤ (Q1 : Int) := by omega
          have j1 : (Q1 : Int) < (j : Int) + 1 := by omega
          have j2 : (Q : Int) < (j : Int) + 1 := by omega
          have j3 : (lo : Int) ≤ (hi : Int) := by omega
          have j4 : (hi : Int) ≤ (g : Int) := by omega
          have HcF := Lib.hid hcF
          obtain ⟨N, hN⟩ : ∃ N, N = hi - lo := ⟨_, rfl⟩
          have hNi : (hi : Int) - (lo : Int) = (N : Int) := by omega
          rw [← hN] at hsl hat
          have hNb : N ≤ 1000000 := by have := HR.out.bk; omega
          have HNN := Lib.hid hN
          have HNI := Lib.hid hNi
          have HSL := Lib.hid hsl
          have HqF := Lib.hid (show (Q : Int) = (fnd a).getD n0 0 by rw [getD_pre HPR.out (by rw [← HL.out]; exact hlt), HQ.out])
          have hhk := HR.out.hk
          have HED := Lib.hid HR.out.ed
          clear hq hcF hQ hQ1 hlo hhi hsl hL hN hNi
          go_upto_region 16 with fail
          go_cut [61, 62, 63] from 38 to 98 (fun v1 v2 v3 wx => ∃ (E1 : Option Addr) (c1 : Nat), v1 = .slice E1 N c1 ∧ v2 = .int .i64 (N : Int) ∧ v3 = .int .i64 0 ∧ Hid (RdG w B E1 (succ a.ed (Q : Int))) ∧ Hid (CS w w.heap.size w1.heap.size gS A n c (j : Int) M m d E k g j Ac cc a wx (Fd a n0) (.slice (some ⟨gF, 0, none⟩) L cF) (canEn a n0) ve))
          case first =>
            by_cases hne : lo < hi
            · obtain ⟨bE, oE, rfl, hbE, hcE⟩ := HED.out (by omega)
              have hgl : ¬ g = lo := by omega
              have hrd := Lib.hid (show RdG w B (some ⟨bE, oE + lo * 3, none⟩) (succ a.ed (Q : Int)) from fun _ => ⟨bE, oE + lo * 3, rfl, hbE, fun t x hx => by
                have htN : t < N := by have := (List.getElem?_eq_some_iff.1 hx).1; rw [HSL.out] at this; exact this
                rw [hat.out t htN] at hx
                have := hcE (lo + t) x hx
                rwa [show oE + (lo + t) * 3 = oE + lo * 3 + t * 3 by omega] at this⟩)
              clear hcE
              go_wp2_with fail
              go_quiet (fail)
              go_wp2_with fail
              go_meet
              case rel => exact ⟨_, _, by rw [HNN.out], by first | rfl | exact congrArg (Value.int .i64) (by have := HNI.out; omega), rfl, hrd, Lib.hid (hcs.out.drewN nq)⟩
            · have hN0 : N = 0 := by rw [HNN.out]; omega
              have hrd := Lib.hid (show ∀ E1, RdG w B E1 (succ a.ed (Q : Int)) from fun E1 h => by rw [HSL.out] at h; omega)
              obtain rfl : hi = lo := by omega
              rcases E with _ | ⟨bE, oE, fE⟩
              · go_wp2_with fail
                go_quiet (fail)
                go_wp2_with fail
                go_meet
                case rel => exact ⟨_, _, by rw [hN0], by first | rfl | exact congrArg (Value.int .i64) (by omega), rfl, hrd.out _, Lib.hid (hcs.out.drewN nq)⟩
              · by_cases hgl : g = hi
                all_goals
                  go_wp2_with fail
                  go_quiet (fail)
                  go_wp2_with fail
                  go_meet
                  case rel => exact ⟨_, _, by rw [hN0], by first | rfl | exact congrArg (Value.int .i64) (by omega), rfl, hrd.out _, Lib.hid (hcs.out.drewN nq)⟩
          case rest =>
            obtain ⟨E1, c1, rfl, rfl, rfl, hrd, hcs0⟩ := hcut
            clear hcs c2 c3 c4 hwr hat j0 j1 j2 j3 j4 HED
            go_wp2_with fail
            go_loopw [6, 63] (fun v i wx => ∃ (t : Nat) (ve : Value), i = .int .i64 t ∧ t ≤ N ∧ Hid (CS w w.heap.size w1.heap.size gS A n c (j : Int) M m d E k g j Ac cc a wx (visitL (Fd a n0) ((succ a.ed (Q : Int)).take t)) v (canEn a n0 ++ (outE a (fnd a) n0).take t) ve)) (fun _ i _ => N - (intOf i).toNat)
            case atStart => exact ⟨0, _, rfl, Nat.zero_le _, by rw [List.take_zero, List.take_zero, visitL_nil, List.append_nil]; exact hcs0⟩
            case round =>
              clear hcs0
              obtain ⟨t, ve, rfl, hth, hcs⟩ := hrel
              by_cases htl : t < N
              · obtain ⟨bE, oE, rfl, hbE, hcE⟩ := hrd.out (by rw [HSL.out]; omega)
                obtain ⟨x, hx⟩ : ∃ x, (succ a.ed (Q : Int))[t]? = some x := ⟨_, List.getElem?_eq_getElem (by rw [HSL.out]; omega)⟩
                have hxm := HRI.out.edr x (mem_succ.1 (List.mem_of_getElem? hx)).1
                rw [HST.out] at hxm
                have hxr : EdAt wr bE (oE + t * 3) x := (hcE t x hx).keep fun o => hcs.out.bel.cell (p := ⟨bE, o, none⟩) (Nat.lt_of_lt_of_le hbE hB)
                obtain ⟨xf, xe, xt⟩ := x
                simp only at hxm
                obtain ⟨T, rfl⟩ : ∃ T : Nat, xt = (T : Int) := ⟨xt.toNat, by omega⟩
                have hTj : T < j := by omega
                obtain ⟨fl, hfl⟩ : ∃ fl, fl = visitL (Fd a n0) ((succ a.ed (Q : Int)).take t) := ⟨_, rfl⟩
                have hfl2 := Lib.hid (show visitL (Fd a n0) ((succ a.ed (Q : Int)).take (t + 1)) = visit fl (T : Int) by rw [visitL_take hx, hfl])
                have hpre2 := visit_fnd (t := t + 1) HRI.out (by rw [HST.out]; omega) (by rw [← HL.out]; exact hlt) _ (by rw [HQ.out] : succ a.ed (Q : Int) = _)
                rw [hfl2.out] at hpre2
                have hes2 := outE_take HqF.out hx
                rw [idx_pre hpre2 (mem_visit.2 (Or.inr rfl))] at hes2
                obtain ⟨es, hes⟩ : ∃ es, es = canEn a n0 ++ (outE a (fnd a) n0).take t := ⟨_, rfl⟩
                have HE2 := Lib.hid (show canEn a n0 ++ (outE a (fnd a) n0).take (t + 1) = es ++ [⟨(n0 : Int), xe, ((visit fl (T : Int)).idxOf (T : Int) : Int)⟩] by rw [hes2, hes, List.append_assoc])
                have hess : es.length ≤ 1000000 := by
                  have h1 : n0 + 1 ≤ (fnd a).length := by have := HPR.out.length_le; rw [← HL.out] at this; omega
                  have h2 := canEn_len a h1
                  rw [canEn_succ, List.length_append, hhk] at h2
                  rw [hes, List.length_append, List.length_take]
                  have := HR.out.bk
                  omega
                rw [← hfl, ← hes] at hcs
                have hflj : fl.length ≤ j := nodup_len (by rw [hfl]; exact visitL_nodup _ (Fd_nodup a n0)) (fun x hx => by
                  have := fnd_range HRI.out x (hpre2.subset (mem_visit.2 (Or.inl hx))); rwa [HST.out] at this)
                obtain ⟨L2, hL2⟩ : ∃ L2, L2 = fl.length := ⟨_, rfl⟩
                have HL2 := Lib.hid hL2
                rw [← hL2] at hflj
                have hfp : Fd a n0 <+: fl := by rw [hfl]; exact visitL_pre _ _
                have hL21 : 1 ≤ L2 := by have := hfp.length_le; rw [← hL2, ← HL.out] at this; omega
                obtain ⟨gF2, cF2, rfl, hgF2, hcF2, hcap3, hcap4⟩ := own_shape hcs.out.fo hL2 hL21
                have n1 := hcs.out.nu.int (j := T) (by rw [numL_len]; omega)
                rw [numL_at hTj] at n1
                obtain ⟨nx, hnx⟩ : ∃ nx : Int, nx = if (T : Int) ∈ fl then (fl.idxOf (T : Int) : Int) else -1 := ⟨_, rfl⟩
                rw [← hnx] at n1
                have HNX := Lib.hid hnx
                clear hnx
                have f1 := hcs.out.nu.frozen T
                obtain ⟨z0, z1, z2⟩ := hxr
                have HCB := hcs.out.h3
                have k1 : w1.heap.size + 1 < wr.heap.size := by have := hcs.out.h2; omega
                clear hx hxm hfl hes hfp hL2 hcE hpre2 hes2
                go_upto_if 72 with fail
                go_cut [6, 63] from 63 to 98 (fun v i wx => i = .int .i64 (t : Int) ∧ Hid (CS w w.heap.size w1.heap.size gS A n c (j : Int) M m d E k g j Ac cc a wx (visit fl (T : Int)) v es ve) ∧ Hid (EdAt wx wr.heap.size 0 ⟨xf, xe, (T : Int)⟩) ∧ wr.heap.size < wx.heap.size)
                case first =>
                  by_cases hin : (T : Int) ∈ fl
                  · have hneg : ¬ nx < 0 := by rw [HNX.out, if_pos hin]; omega
                    have HIN := Lib.hid hin
                    clear hin
                    go_wp2_with fail
                    go_meet
                    case rel => exact ⟨rfl, by rw [visit_in HIN.out]; exact hcs.out.alloc _, EdAt.made' xf xe (T : Int) 67 rfl, by simp⟩
                  · have hneg : nx < 0 := by rw [HNX.out, if_neg hin]; omega
                    have HIN := Lib.hid hin
                    have hown4 := Lib.hid (show (((wr.setCell ⟨w1.heap.size + 1, T, none⟩ (.int .i64 (L2 : Int))).alloc (.cells #[.int .i64 xf, .int .i64 xe, .int .i64 (T : Int)] 67)).alloc (.cells #[.int .i64 (T : Int)] 3)).ownsRow (w1.heap.size + 2) 3 1 (.slice (some ⟨gF2, 0, none⟩) L2 cF2) L2 (fl.map (Value.int .i64)) by
                      have := ((ownsRow_setCell_below hcs.out.fo (a := ⟨w1.heap.size + 1, T, none⟩) (by simp) (.int .i64 (L2 : Int))).alloc (.cells #[.int .i64 xf, .int .i64 xe, .int .i64 (T : Int)] 67)).alloc (.cells #[.int .i64 (T : Int)] 3)
                      rwa [← HL2.out] at this)
                    have hX4 := Lib.hid (((EdAt.made' (w := wr.setCell ⟨w1.heap.size + 1, T, none⟩ (.int .i64 (L2 : Int))) xf xe (T : Int) 67 (World.size_setCell ..)).alloc (by simp) (.cells #[.int .i64 (T : Int)] 3)))
                    clear hin
                    go_wp2_with (at_builtin; refine wpList_append_lies _ rfl (.tmp 79) (.tmp 82) 22 rfl (w1.heap.size + 2) 3 iI (.int .i64 0) 1 8 Try.underlying22 iI0 iI1 iI2 iI3 rfl (by omega) (.slice (some ⟨gF2, 0, none⟩) L2 cF2) L2 (fl.map (Value.int .i64)) rfl hown4.out ⟨wr.heap.size + 1, 0, none⟩ 1 1 [.int .i64 (T : Int)] rfl rfl (news_one (by simp)) (by simp [Value.oneCell']) (by omega) (by unfold maxLen; omega) (by omega) (by simp; omega) (wr.heap.size + 2) (by simp) ?_; intro gN capN w5 hown5 hgrow5 hat5 hlt5)
                    have hrow5 : (wr.setCell ⟨w1.heap.size + 1, T, none⟩ (.int .i64 (L2 : Int))).grownBy w5 (some gF2) := grown_trans (grown_trans (World.grownBy_alloc _ _ _) (World.grownBy_alloc _ _ _)) hgrow5
                    have hcs5 := Lib.hid (CS.found hcs.out HIN.out hTj (by rw [← HL2.out]; exact hrow5) (by unfold Own; rw [List.length_append, ← HL2.out]; simpa using hown5) (by
                      rcases hat5 with h | h
                      · have := hcs.out.fs; rwa [h] at this
                      · simp [Value.ownBlock]; omega))
                    have hX5 := Lib.hid (hX4.out.grown hgrow5 (by simp; omega) (by simp [Value.ownBlock]; omega))
                    have hs5 : wr.heap.size < w5.heap.size := by have := hrow5.size; have := hgrow5.size; simp at this; omega
                    clear hrow5 hown5 hgrow5 hat5 hX4 hown4
                    go_wp2_with fail
                    go_meet
                    case rel => exact ⟨rfl, by rw [visit_new HIN.out]; exact hcs5, hX5, hs5⟩
                case rest =>
                  clear hcs n1 f1 z0 z1 z2 hcF2 HCB
                  obtain ⟨rfl, hcs5, hX5, hs5⟩ := hcut
                  obtain ⟨fl2, hf2⟩ : ∃ fl2, fl2 = visit fl (T : Int) := ⟨_, rfl⟩
                  rw [← hf2] at hcs5 HE2 hfl2
                  have n2 := hcs5.out.nu.int (j := T) (by rw [numL_len]; omega)
                  rw [numL_at hTj, if_pos (by rw [hf2]; exact mem_visit.2 (Or.inr rfl))] at n2
                  obtain ⟨ix, hix⟩ : ∃ ix, ix = fl2.idxOf (T : Int) := ⟨_, rfl⟩
                  rw [← hix] at n2 HE2
                  clear hf2 hix
                  have u0 := hcs5.out.cb.cell 3 rfl
                  have u3 := hcs5.out.cb.frozen 3
                  obtain ⟨q0, u1, u2⟩ := hX5.out.shift0
                  clear q0
                  have hbl : w1.heap.size < wc.heap.size := by omega
                  have v0 := fun cs : Array Value => (World.cell?_alloc_lt wc (.cells cs 67) ⟨w1.heap.size, 3, none⟩ hbl).trans u0
                  have v1 := fun cs : Array Value => (frozen?_alloc_cells wc cs 67 ⟨w1.heap.size, 3, none⟩).trans u3
                  have hneV : some w1.heap.size ≠ ve.ownBlock := fun h => by have := (hcs5.out.eo.lt _ h.symm).1; omega
                  go_wp2_with fail
                  go_region_law (first
                    | (refine step_append_lies _ (by rfl) (.tmp 85) (.tmp 95) _ (by rfl) (w1.heap.size + 2) 67 iE (.agg #[.int .i64 0, .int .i64 0, .int .i64 0]) 3 24 Try.underlying23 iE0 iE1 iE2 iE3 rfl (by omega) ve es.length (encE es) (by rfl) (by first | exact (hcs5.out.eo.alloc _).drew | exact (hcs5.out.eo.alloc _)) ⟨wc.heap.size, 0, none⟩ 1 1 [.int .i64 (n0 : Int), .int .i64 xe, .int .i64 (ix : Int)] (by rfl) (by rfl) (World.news_of_block (cs := #[.int .i64 (n0 : Int), .int .i64 xe, .int .i64 (ix : Int)]) (t := 67) (fr := (0, 0)) (heap_alloc_new wc _)) (by simp [Value.oneCell']) (by omega) (by unfold maxLen; omega) (by omega) (by simp; omega) (wc.heap.size + 1) (by simp) ?_; intro gG capG w6 hown6 hgrow6 hat6 hlt6; have hc6 := (hgrow6.cell_far ⟨w1.heap.size, 3, none⟩ (by simp; omega) hneV).trans (v0 _); have hf6 := (hgrow6.frozen_far ⟨w1.heap.size, 3, none⟩ (by simp; omega) hneV).trans (v1 _)))
                  all_goals
                    have hown7 : OwnE w6 (w1.heap.size + 2) (.slice (some ⟨gG, 0, none⟩) (es.length + 1) capG) (es ++ [⟨(n0 : Int), xe, (ix : Int)⟩]) := by
                      unfold OwnE; rw [encE_app, List.length_append]; exact hown6
                    have hcs7 := Lib.hid (show CS w w.heap.size w1.heap.size gS A n c (j : Int) M m d E k g j Ac cc a (w6.setCell ⟨w1.heap.size, 3, none⟩ (.slice (some ⟨gG, 0, none⟩) (es.length + 1) capG)) fl2 _ (es ++ [⟨(n0 : Int), xe, (ix : Int)⟩]) (.slice (some ⟨gG, 0, none⟩) (es.length + 1) capG) from by
                      first
                      | exact CS.edge (hcs5.out.alloc _) hgrow6 hown7
                      | exact CS.edge ((hcs5.out.alloc _).drew) hgrow6 hown7
                      | exact CS.edge (hcs5.out.drew.alloc _) hgrow6 hown7)
                    rw [← HE2.out, ← hfl2.out] at hcs7
                    clear hown7 hown6 hgrow6 hat6 hc6 hf6 hlt6
                    go_wp2_with fail
                    go_roundw
                    case measure => simp [intOf]; omega
                    case rel => exact ⟨t + 1, _, by go_num, by omega, by first | exact hcs7 | exact Lib.hid hcs7.out.drew⟩
              · obtain rfl : t = N := by omega
                have hFs : visitL (Fd a n0) ((succ a.ed (Q : Int)).take t) = Fd a (n0 + 1) := by
                  rw [List.take_of_length_le (by rw [HSL.out]; exact Nat.le_refl _), Fd_go (by rw [← HL.out]; exact hlt), HQ.out]
                have hEs : canEn a n0 ++ (outE a (fnd a) n0).take t = canEn a (n0 + 1) := by
                  rw [canEn_succ, List.take_of_length_le]
                  unfold outE
                  rw [List.length_map, ← HqF.out, HSL.out]; exact Nat.le_refl _
                rw [hFs, hEs] at hcs
                have hln := Lib.hid (show n0 + 1 ≤ (Fd a (n0 + 1)).length by have := (Fd_pre a n0).length_le; rw [← HL.out] at this; omega)
                clear hFs hEs
                go_wp2_with fail
                go_roundw
                case measure => simp [intOf]; omega
                case rel => exact ⟨n0 + 1, _, by go_num, by omega, hln, hcs⟩
        · obtain rfl : n0 = L := by have := hnl.out; rw [← HL.out] at this; omega
          have hfn : fnd a = Fd a n0 := fnd_at HRI.out (by rw [HST.out]; omega) (by rw [← HL.out]; exact Nat.le_refl _) (by rw [HST.out]; simp; omega)
          rw [← hfn] at hcs HL
          have hcm := Lib.hid (hcs.out.marked (ns := (n0 : Int)))
          have f1 := hcs.out.cb.frozen 1
          have e1 := hcs.out.cb.cell 1 rfl
          have e2 := hcm.out.bx.cell 2 rfl
          have hbm := HR.out.bm
          clear hcs hfn HRG HPR hcF hcap hcap2 hgF hL
          go_wp2_with fail
          go_loopw [105] (fun i wx => ∃ (t : Nat) (vm : Value), i = .int .i64 t ∧ t ≤ m ∧ Hid (CM w w.heap.size w1.heap.size A n c (j : Int) M m d E k g j Ac cc a (fnd a) (n0 : Int) (canEn a n0) ve wx (mkL (fnd a) (a.mr.take t)) vm)) (fun i _ => m - (intOf i).toNat)
          case atStart => exact ⟨0, _, rfl, Nat.zero_le _, hcm⟩
          case round =>
            clear hcm e1 e2 f1
            obtain ⟨t, vm, rfl, htm, hcm⟩ := hrel
            by_cases htl : t < m
            · obtain ⟨bM, oM, rfl, hbM, hcM⟩ := HR.out.mr (by rw [HR.out.hm]; omega)
              have hz : t < a.mr.length := by rw [HR.out.hm]; exact htl
              have h1 := hcM t hz
              obtain ⟨x, hx⟩ : ∃ x, x = a.mr.getD t 0 := ⟨_, rfl⟩
              rw [← hx] at h1
              have hxr := HRI.out.mrr x (by rw [hx]; exact getD_mem hz)
              rw [HST.out] at hxr
              obtain ⟨X, rfl⟩ : ∃ X : Nat, x = (X : Int) := ⟨x.toNat, by omega⟩
              have hXj : X < j := by omega
              have h2 : wr.cell? ⟨bM, oM + t, none⟩ = some (.int .i64 (X : Int)) := (hcm.out.bel.cell (p := ⟨bM, oM + t, none⟩) (Nat.lt_of_lt_of_le hbM hB)).trans h1
              have n1 := hcm.out.nu.int (j := X) (by rw [numL_len]; exact hXj)
              rw [numL_at hXj] at n1
              obtain ⟨nx, hnx⟩ : ∃ nx : Int, nx = if (X : Int) ∈ fnd a then ((fnd a).idxOf (X : Int) : Int) else -1 := ⟨_, rfl⟩
              rw [← hnx] at n1
              have c2 := hcm.out.cb.cell 2 rfl
              have f2 := hcm.out.cb.frozen 2
              have hsz1 := hcm.out.h2
              obtain ⟨ms, hms⟩ : ∃ ms, ms = mkL (fnd a) (a.mr.take t) := ⟨_, rfl⟩
              have hmsl := mkL_len (fnd a) a.mr t
              have HMS := Lib.hid hms
              rw [← hms] at hcm hmsl
              by_cases hin : (X : Int) ∈ fnd a
              · have hge : 0 ≤ nx := by rw [hnx, if_pos hin]; omega
                have hms2 := Lib.hid (show mkL (fnd a) (a.mr.take (t + 1)) = ms ++ [nx] by rw [mkL_yes hz (by rw [← hx]; exact hin), ← hx, hms, hnx, if_pos hin])
                have v0 := fun cs : Array Value => (World.cell?_alloc_lt wr (.cells cs 3) ⟨w1.heap.size, 2, none⟩ (by simp; omega)).trans c2
                have v1 := fun cs : Array Value => (frozen?_alloc_cells wr cs 3 ⟨w1.heap.size, 2, none⟩).trans f2
                have hneV : some w1.heap.size ≠ vm.ownBlock := fun h => by have := (hcm.out.mo.lt _ h.symm).1; omega
                clear hin hnx hx h1 hcM hms hz
                go_wp2_with fail
                go_region_law (first
                    | (refine step_append_lies _ (by rfl) (.tmp 115) (.tmp 120) _ (by rfl) (w1.heap.size + 2) 3 iI (.int .i64 0) 1 8 Try.underlying22 iI0 iI1 iI2 iI3 rfl (by omega) vm ms.length (ms.map (Value.int .i64)) (by rfl) (by first | exact (hcm.out.mo.alloc _).drew | exact (hcm.out.mo.alloc _)) ⟨wr.heap.size, 0, none⟩ 1 1 [.int .i64 nx] (by rfl) (by rfl) (World.news_of_block (cs := #[.int .i64 nx]) (t := 3) (fr := (0, 0)) (heap_alloc_new wr _)) (by simp [Value.oneCell']) (by omega) (by unfold maxLen; omega) (by omega) (by simp; omega) (wr.heap.size + 1) (by simp) ?_; intro gG capG w6 hown6 hgrow6 hat6 hlt6; have hc6 := (hgrow6.cell_far ⟨w1.heap.size, 2, none⟩ (by simp; omega) hneV).trans (v0 _); have hf6 := (hgrow6.frozen_far ⟨w1.heap.size, 2, none⟩ (by simp; omega) hneV).trans (v1 _)))
                all_goals
                  have hown7 : Own w6 (w1.heap.size + 2) (.slice (some ⟨gG, 0, none⟩) (ms.length + 1) capG) (ms ++ [nx]) := by
                    unfold Own; rw [List.map_append, List.length_append]; exact hown6
                  have hcm7 := Lib.hid (show CM w w.heap.size w1.heap.size A n c (j : Int) (some ⟨bM, oM, none⟩) m d E k g j Ac cc a (fnd a) (n0 : Int) (canEn a n0) ve (w6.setCell ⟨w1.heap.size, 2, none⟩ (.slice (some ⟨gG, 0, none⟩) (ms.length + 1) capG)) (ms ++ [nx]) (.slice (some ⟨gG, 0, none⟩) (ms.length + 1) capG) from by
                    first
                    | exact CM.mark (hcm.out.alloc _) hgrow6 hown7
                    | exact CM.mark ((hcm.out.alloc _).drew) hgrow6 hown7
                    | exact CM.mark (hcm.out.drew.alloc _) hgrow6 hown7)
                  rw [← hms2.out] at hcm7
                  clear hown7 hown6 hgrow6 hat6 hc6 hf6 hlt6
                  go_wp2_with fail
                  go_roundw
                  case measure => simp [intOf]; omega
                  case rel => exact ⟨t + 1, _, by go_num, by omega, by first | exact hcm7 | exact Lib.hid hcm7.out.drew⟩
              · have hge : ¬ 0 ≤ nx := by rw [hnx, if_neg hin]; omega
                have hms2 := Lib.hid (show mkL (fnd a) (a.mr.take (t + 1)) = ms by rw [mkL_no hz (by rw [← hx]; exact hin), hms])
                clear hin hnx hx h1 hcM hms hz
                rw [← hms2.out] at hcm
                go_wp2_with fail
                go_roundw
                case measure => simp [intOf]; omega
                case rel => exact ⟨t + 1, _, by go_num, by omega, hcm⟩
            · obtain rfl : t = m := by omega
              rw [List.take_of_length_le (by rw [HR.out.hm]; exact Nat.le_refl _)] at hcm
              have c2 := hcm.out.cb.cell 2 rfl
              have hml := mkL_len (fnd a) a.mr t
              rw [List.take_of_length_le (by rw [HR.out.hm]; exact Nat.le_refl _)] at hml
              have hso := Lib.hid (sort_own wr hcm.out.mo (by omega))
              clear hml
              go_wp2_with fail
              refine hso.out.mono ?_
              rintro e w6 ⟨rfl, ho6, hg6⟩
              have hcm6 := hcm.out.sorted hg6 ho6
              rw [srt_mk HRI.out] at hcm6
              obtain ⟨M2, c2m, rfl, hM1, hM2, hM3⟩ := own_rdc hcm6.mo
              obtain ⟨E2, g2, rfl, hE1, hE2, hE3⟩ := ownE_rd hcm6.eo
              have HM1 := Lib.hid hM1
              have HE1 := Lib.hid hE1
              have d0 := hcm6.cb.cell 0 rfl
              have d1 := hcm6.cb.cell 1 rfl
              have d2 := hcm6.cb.cell 2 rfl
              have d3 := hcm6.cb.cell 3 rfl
              have r0 := hcm6.res.cell 0 rfl
              have r1 := hcm6.res.cell 1 rfl
              have r2 := hcm6.res.cell 2 rfl
              have r3 := hcm6.res.cell 3 rfl
              have s0 := hcm6.res.frozen 0
              have s1 := hcm6.res.frozen 1
              have s2 := hcm6.res.frozen 2
              have s3 := hcm6.res.frozen 3
              have HCM := Lib.hid hcm6
              clear hcm hso ho6 hg6 hcm6 hM1 hE1
              go_wp2_with fail
              (try simp only [Exit.inBlock, Exit.then])
              have hfin := (((CR.mk HCM.out.bel HCM.out.cl HCM.out.mo HCM.out.eo HCM.out.h1 (by have := HCM.out.h2; omega)).set HAC.out 0 (.slice Ac n cc) |>.set HAC.out 1 (.int .i64 (n0 : Int)) |>.set HAC.out 2 (.slice M2 (canM a).length c2m) |>.set HAC.out 3 (.slice E2 (canEn a n0).length g2))).gives' HAC.out HL.out HR.out.hn HCC.out HR.out.bn (by have := canM_len a; rw [← HL.out] at this; omega) (by have := canEn_len a (n := n0) (by rw [← HL.out]; exact Nat.le_refl _); rw [HR.out.hk] at this; omega)
              refine bodyPost_ret (v := .agg #[.slice Ac n cc, .int .i64 (n0 : Int), .slice M2 (canM a).length c2m, .slice E2 (canEn a n0).length g2]) ?_ rfl ⟨_, rfl, hfin.1, hfin.2⟩
              rw [results_cell1 rfl]
              go_simp
end Go.Proofs.Ytcciiikaejjooaa
