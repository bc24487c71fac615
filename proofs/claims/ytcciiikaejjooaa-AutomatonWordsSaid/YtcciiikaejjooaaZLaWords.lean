/- The law AutomatonWords, walked. -/
import Derived.Test.YtcciiikaejjooaaZaSmW
import Derived.Test.YtcciiikaejjooaaZa9
import Derived.Deep.RegionHeld3
import Derived.Deep.CutRange
namespace Go.Proofs.Ytcciiikaejjooaa
open Go.RowKit Go.Sort
attribute [local go_sem ↓] exec_load_graph'
attribute [local go_sem] blkOf_ptr

theorem k_words0 {W w : World} {l : List (Nat × List Value)} {A : Option Addr} {n c : Nat} {s : Int} {M : Option Addr} {m d : Nat} {E : Option Addr} {k g : Nat} {a : Au} {most u : Int} {mk : Bool} (hs : wordsR a most mk = ([], u)) (ha : AuR w w.heap.size A n c s M m d E k g a) (h : LW W l w) : Calls Try.prog 23 #[.agg #[.slice A n c, .int .i64 s, .slice M m d, .slice E k g], .int .i64 most, .bool mk] w fun e w' => ∃ A1 c1, e = .returned (.tuple #[.slice A1 0 c1, .int .i64 u]) ∧ KW W l w w' :=
  (k_words hs ha h).mono fun e w' hh => by
    obtain ⟨A1, n1, c1, gs, e1, e2, e3, _, _, hk⟩ := hh
    have : gs = [] := List.map_eq_nil_iff.1 e3
    subst this
    subst e2
    exact ⟨A1, c1, e1, hk⟩

set_option maxHeartbeats 16000000 in
set_option maxRecDepth 100000 in
theorem lawWords (x : Int) (gv : Nat → Value) (mo : Int) (W : World) (S0 : (Lit.int .u8 x).wf = true) (S1 : GrC #[gv 0, gv 1, gv 2, gv 3, gv 4, gv 5, gv 6, gv 7, gv 8, gv 9, gv 10, gv 11, gv 12, gv 13, gv 14, gv 15, gv 16, gv 17, gv 18, gv 19, gv 20, gv 21, gv 22, gv 23, gv 24, gv 25, gv 26]) :
    Calls Try.prog 8 #[.int .u8 x, .agg #[gv 0, gv 1, gv 2, gv 3, gv 4, gv 5, gv 6, gv 7, gv 8, gv 9, gv 10, gv 11, gv 12, gv 13, gv 14, gv 15, gv 16, gv 17, gv 18, gv 19, gv 20, gv 21, gv 22, gv 23, gv 24, gv 25, gv 26], .int .i64 mo] W fun e W' => e = .returned (.bool true) ∧ Below W.heap.size W W' := by
  have HL0 := Lib.hid (LW.first W [gv 0, gv 1, gv 2, gv 3, gv 4, gv 5, gv 6, gv 7, gv 8, gv 9, gv 10, gv 11, gv 12, gv 13, gv 14, gv 15, gv 16, gv 17, gv 18, gv 19, gv 20, gv 21, gv 22, gv 23, gv 24, gv 25, gv 26] 50)
  have HK := Lib.hid known_any
  have HS0 := Lib.hid S0
  have HS1 := Lib.hid S1
  obtain ⟨iI, iI0, iI1, iI2, iI3⟩ := info_parts info_int
  obtain ⟨iL, iL0, iL1, iL2, iL3⟩ := info_parts info_ints
  clear S0 S1
  go_enter Try.func8, Try.ntmps8
  go_wp2_with fail
  refine (lw_call (HK.out _) HL0.out).mono ?_
  rintro e w1 ⟨rfl, hl⟩
  have HL1 := Lib.hid hl
  clear hl
  have hr := HL1.out.bx.grid 0 rfl
  have hz := HL1.out.bx.lt 0 rfl
  go_wp2_with fail
  go_cut [7] from 17 to 21 (fun v wx => PreR W [(W.heap.size, [gv 0, gv 1, gv 2, gv 3, gv 4, gv 5, gv 6, gv 7, gv 8, gv 9, gv 10, gv 11, gv 12, gv 13, gv 14, gv 15, gv 16, gv 17, gv 18, gv 19, gv 20, gv 21, gv 22, gv 23, gv 24, gv 25, gv 26])] v wx)
  case first =>
    go_region_held3 (fun w' => GridOk w' W.heap.size ∧ ∀ i : Nat, i < 27 → w'.cell? ⟨W.heap.size, i, none⟩ = some (gv i)) (first | with_reducible exact grid_two (hr) | with_reducible exact grid_two (grid_drew hr) | with_reducible exact grid_two (grid_alloc hr hz _ _) | with_reducible exact grid_two (grid_drew (grid_alloc hr hz _ _)) | with_reducible exact grid_two (grid_set4 hr (by omega) _ _ _ _) | with_reducible exact grid_two (grid_set4 (grid_alloc hr hz _ _) (by omega) _ _ _ _))
      (first
      | (go_simp; go_at_call 33; refine (events_any x _ HS0.out).mono ?_; rintro e w2 ⟨al, hev, A0, c0, rfl, hrd, hb2, hc0, hc02⟩
         have HB2 := Lib.hid hb2
         have HEV := Lib.hid hev
         have HRD := Lib.hid hrd
         have hz2 := hb2.size
         have hr : ∀ i : Nat, i < 27 → w2.cell? ⟨W.heap.size, i, none⟩ = some (gv i) := by first | with_reducible exact grid_below' hb2 hr hz | with_reducible exact grid_below' hb2 (grid_drew hr) (lt_drew hz) | with_reducible exact grid_below' hb2 (grid_alloc hr hz _ _) (lt_alloc hz _ _) | with_reducible exact grid_below' hb2 (grid_drew (grid_alloc hr hz _ _)) (lt_drew (lt_alloc hz _ _))
         have hz : W.heap.size < w2.heap.size := by (try simp at hz2); omega
         try (have hq : Row w2 w1.heap.size 25 [.slice none 0 0, .int .i64 0, .slice none 0 0, .slice none 0 0] := Row.below (row_drew (Row.new w1 [.slice none 0 0, .int .i64 0, .slice none 0 0, .slice none 0 0] 25)) hb2 (by simp); have hq0 := Lib.hid hq)
         clear hb2 hev hrd)
      | (go_simp; go_at_call 32; refine (make_any A0 al.length c0 w2.heap.size al #[gv 0, gv 1, gv 2, gv 3, gv 4, gv 5, gv 6, gv 7, gv 8, gv 9, gv 10, gv 11, gv 12, gv 13, gv 14, gv 15, gv 16, gv 17, gv 18, gv 19, gv 20, gv 21, gv 22, gv 23, gv 24, gv 25, gv 26] _ (by first | exact HRD.out | exact HRD.out.below ((Below.refl _ w2).alloc (Nat.le_refl _) _) (Nat.le_refl _)) (by simp) rfl hc0 HEV.out HS1.out).mono ?_; rintro e w3 ⟨a, v3, hok, rfl, ⟨A, n, c, s, M, m, d, E, k, g, rfl, hau, hfr⟩, hb3⟩
         have HB3 := Lib.hid hb3
         have HOK := Lib.hid hok
         have HAU := Lib.hid (show AuF a (.agg #[.slice A n c, .int .i64 s, .slice M m d, .slice E k g]) w3 _ from ⟨A, n, c, s, M, m, d, E, k, g, rfl, hau, hfr⟩)
         have hz3 := hb3.size
         have hr : ∀ i : Nat, i < 27 → w3.cell? ⟨W.heap.size, i, none⟩ = some (gv i) := by first | with_reducible exact grid_below' hb3 hr hz | with_reducible exact grid_below' hb3 (grid_drew hr) (lt_drew hz) | with_reducible exact grid_below' hb3 (grid_alloc hr hz _ _) (lt_alloc hz _ _) | with_reducible exact grid_below' hb3 (grid_drew (grid_alloc hr hz _ _)) (lt_drew (lt_alloc hz _ _))
         have hz : W.heap.size < w3.heap.size := by (try simp at hz3); omega
         try (have hq : Row w3 w1.heap.size 25 [.slice none 0 0, .int .i64 0, .slice none 0 0, .slice none 0 0] := hq0.out.below hb3 hq0.out.lt; have hq1 := Lib.hid hq; have y0 := hq.cell 0 rfl; have y1 := hq.cell 1 rfl; have y2 := hq.cell 2 rfl; have y3 := hq.cell 3 rfl; have g0 := hq.frozen 0; have g1 := hq.frozen 1; have g2 := hq.frozen 2; have g3 := hq.frozen 3; clear hq)
         try (have hq : Row w3 w2.heap.size 25 [.slice none 0 0, .int .i64 0, .slice none 0 0, .slice none 0 0] := Row.below (Row.new w2 [.slice none 0 0, .int .i64 0, .slice none 0 0, .slice none 0 0] 25) hb3 (by simp); have hq1 := Lib.hid hq; have y0 := hq.cell 0 rfl; have y1 := hq.cell 1 rfl; have y2 := hq.cell 2 rfl; have y3 := hq.cell 3 rfl; have g0 := hq.frozen 0; have g1 := hq.frozen 1; have g2 := hq.frozen 2; have g3 := hq.frozen 3; clear hq)
         clear hb3 hok hau hfr))
    all_goals
      go_wp2_with fail
      go_meet
      case rel => first | exact pre_1 HL1.out HB2.out HB3.out HEV.out HOK.out HAU.out | exact pre_2 HL1.out HB2.out HB3.out hq1.out HEV.out HOK.out HAU.out | exact pre_3 HL1.out HB2.out HB3.out hq1.out HEV.out HOK.out HAU.out
  case rest =>
    obtain ⟨bc, al, a, A, n, c, s, M, m, d, E, k, g, rfl, HL4, HEV, HOK, HAU⟩ := hcut
    have HB0 := Lib.hid HL4.out.bel
    have HL5 := Lib.hid (show LW wc ((bc, [.slice A n c, .int .i64 s, .slice M m d, .slice E k g]) :: [(W.heap.size, [gv 0, gv 1, gv 2, gv 3, gv 4, gv 5, gv 6, gv 7, gv 8, gv 9, gv 10, gv 11, gv 12, gv 13, gv 14, gv 15, gv 16, gv 17, gv 18, gv 19, gv 20, gv 21, gv 22, gv 23, gv 24, gv 25, gv 26])]) wc from ⟨Below.refl _ _, HL4.out.bx⟩)
    have HC := Lib.hid HOK.out.r.chk
    have HRW := Lib.hid HOK.out.r.toRightW
    have HAL := Lib.hid HAU.out.hn
    have h5a := Lib.hid (show a.al.length ≤ 5 by have h1 := Ev5.len (n := 5) HEV.out; rw [← HOK.out.al] at h1; exact h1)
    clear hr hz
    have p0_0 := HL5.out.bx.at 0 rfl 0 rfl
    have p0_1 := HL5.out.bx.at 0 rfl 1 rfl
    have p0_2 := HL5.out.bx.at 0 rfl 2 rfl
    have p0_3 := HL5.out.bx.at 0 rfl 3 rfl
    by_cases hout : mo < 0 ∨ 4096 < mo
    · have HX := Lib.hid (fun mk => wordsR_out (mk := mk) HC.out hout)
      go_wp2_with fail
      refine (k_words0 (HX.out false) HAU.out HL5.out).mono ?_
      rintro e w6 ⟨A2, c2, rfl, hl⟩
      clear p0_0 p0_1 p0_2 p0_3
      have HL6 := Lib.hid hl.lw
      have HAU := Lib.hid (hl.aut HAU.out)
      clear hl
      have p0_0 := HL6.out.bx.at 0 rfl 0 rfl
      have p0_1 := HL6.out.bx.at 0 rfl 1 rfl
      have p0_2 := HL6.out.bx.at 0 rfl 2 rfl
      have p0_3 := HL6.out.bx.at 0 rfl 3 rfl
      go_wp2_with fail
      refine (k_words0 (HX.out true) HAU.out HL6.out).mono ?_
      rintro e w7 ⟨A3, c3, rfl, hl⟩
      clear p0_0 p0_1 p0_2 p0_3
      have HL7 := Lib.hid hl.lw
      have HAU := Lib.hid (hl.aut HAU.out)
      clear hl
      have p0_0 := HL7.out.bx.at 0 rfl 0 rfl
      have p0_1 := HL7.out.bx.at 0 rfl 1 rfl
      have p0_2 := HL7.out.bx.at 0 rfl 2 rfl
      have p0_3 := HL7.out.bx.at 0 rfl 3 rfl
      by_cases hneg : mo < 0
      · clear hout
        go_wp2_with fail
        go_ret
        exact ⟨rfl, HB0.out.trans (HL7.out.bel.mono HB0.out.size)⟩
      · have hb : 4096 < mo := by omega
        clear hout
        go_wp2_with fail
        go_ret
        exact ⟨rfl, HB0.out.trans (HL7.out.bel.mono HB0.out.size)⟩
    · have h0 : 0 ≤ mo := by omega
      have h1 : mo ≤ 4096 := by omega
      have hin := Lib.hid hout
      clear hout
      by_cases h4 : 4 < mo
      · obtain ⟨z1, u1, hw1⟩ : ∃ z1 u1, wordsR a mo false = (z1, u1) := ⟨_, _, rfl⟩
        obtain ⟨z2, u2, hw2⟩ : ∃ z2 u2, wordsR a mo true = (z2, u2) := ⟨_, _, rfl⟩
        have HW1 := Lib.hid hw1
        have HW2 := Lib.hid hw2
        clear hw1 hw2
        go_wp2_with fail
        refine (k_words HW1.out HAU.out HL5.out).mono ?_
        rintro e w6 ⟨A2, n2, c2, hs2, rfl, _, _, _, _, hl⟩
        clear p0_0 p0_1 p0_2 p0_3
        have HL6 := Lib.hid hl.lw
        have HAU := Lib.hid (hl.aut HAU.out)
        clear hl
        have p0_0 := HL6.out.bx.at 0 rfl 0 rfl
        have p0_1 := HL6.out.bx.at 0 rfl 1 rfl
        have p0_2 := HL6.out.bx.at 0 rfl 2 rfl
        have p0_3 := HL6.out.bx.at 0 rfl 3 rfl
        go_wp2_with fail
        refine (k_words HW2.out HAU.out HL6.out).mono ?_
        rintro e w7 ⟨A3, n3, c3, hs3, rfl, _, _, _, _, hl⟩
        clear p0_0 p0_1 p0_2 p0_3
        have HL7 := Lib.hid hl.lw
        have HAU := Lib.hid (hl.aut HAU.out)
        clear hl
        have p0_0 := HL7.out.bx.at 0 rfl 0 rfl
        have p0_1 := HL7.out.bx.at 0 rfl 1 rfl
        have p0_2 := HL7.out.bx.at 0 rfl 2 rfl
        have p0_3 := HL7.out.bx.at 0 rfl 3 rfl
        go_wp2_with fail
        go_ret
        exact ⟨rfl, HB0.out.trans (HL7.out.bel.mono HB0.out.size)⟩
      · have h4b : mo ≤ 4 := by omega
        obtain ⟨mn, rfl⟩ : ∃ mn : Nat, mo = (mn : Int) := ⟨mo.toNat, by omega⟩
        obtain ⟨R, hR, hRl⟩ := genO_some HRW.out h5a.out (m := mn) (by omega)
        have HR := Lib.hid hR
        have HRL := Lib.hid hRl
        have HSH := Lib.hid (show ∀ p ∈ R, p.1.length ≤ 100000 from fun p hp => Nat.le_trans (genO_short hR p hp) (by omega))
        have HX1 := Lib.hid (wordsR_in (mk := false) HC.out hin.out hR)
        have HX2 := Lib.hid (wordsR_in (mk := true) HC.out hin.out hR)
        have HA1 := Lib.hid (sel_all a.mr R)
        have HA2 := Lib.hid (sel_acc' HRW.out hR)
        clear hR hRl
        go_wp2_with fail
        refine (k_words HX1.out HAU.out HL5.out).mono ?_
        rintro e w6 ⟨A2, n2, c2, hs2, rfl, hl2, hz2, hr2, hn2, hl⟩
        clear p0_0 p0_1 p0_2 p0_3
        have HL6 := Lib.hid hl.lw
        have HAU := Lib.hid (hl.aut HAU.out)
        have HW2 := Lib.hid hr2
        have HN2 := Lib.hid hl2
        have HZ2 := Lib.hid hz2
        clear hr2 hl2 hz2
        clear hl
        have p0_0 := HL6.out.bx.at 0 rfl 0 rfl
        have p0_1 := HL6.out.bx.at 0 rfl 1 rfl
        have p0_2 := HL6.out.bx.at 0 rfl 2 rfl
        have p0_3 := HL6.out.bx.at 0 rfl 3 rfl
        go_wp2_with fail
        refine (k_words HX2.out HAU.out HL6.out).mono ?_
        rintro e w7 ⟨A3, n3, c3, hs3, rfl, hl3, hz3, hr3, hn3, hl⟩
        clear p0_0 p0_1 p0_2 p0_3
        have HL7 := Lib.hid hl.lw
        have HAU := Lib.hid (hl.aut HAU.out)
        have HW2 := Lib.hid (hl.wds HW2.out)
        have HW3 := Lib.hid hr3
        have HN3 := Lib.hid hl3
        have HZ3 := Lib.hid hz3
        clear hr3 hl3 hz3
        clear hl
        have p0_0 := HL7.out.bx.at 0 rfl 0 rfl
        have p0_1 := HL7.out.bx.at 0 rfl 1 rfl
        have p0_2 := HL7.out.bx.at 0 rfl 2 rfl
        have p0_3 := HL7.out.bx.at 0 rfl 3 rfl
        go_wp2_with fail
        refine (k_rwords HRW.out HR.out HRL.out h1 HAU.out HL7.out).mono ?_
        rintro e w8 ⟨A4, n4, c4, hs4, rfl, hl4, hz4, hr4, hn4, hl⟩
        clear p0_0 p0_1 p0_2 p0_3
        have HL8 := Lib.hid hl.lw
        have HAU := Lib.hid (hl.aut HAU.out)
        have HW2 := Lib.hid (hl.wds HW2.out)
        have HW3 := Lib.hid (hl.wds HW3.out)
        have HW4 := Lib.hid hr4
        have HN4 := Lib.hid hl4
        have HZ4 := Lib.hid hz4
        clear hr4 hl4 hz4
        clear hl
        have p0_0 := HL8.out.bx.at 0 rfl 0 rfl
        have p0_1 := HL8.out.bx.at 0 rfl 1 rfl
        have p0_2 := HL8.out.bx.at 0 rfl 2 rfl
        have p0_3 := HL8.out.bx.at 0 rfl 3 rfl
        clear p0_0 p0_1 p0_2 p0_3
        go_wp2_with fail
        go_loopw [13, 14] (fun vl i wr => ∃ t : Nat, t ≤ n4 ∧ i = .int .i64 t ∧ Hid (Below w8.heap.size w8 wr) ∧ Hid (wr.ownsRow w8.heap.size 22 1 vl (accW a (hs4.take t)).length ((accW a (hs4.take t)).map Hd.enc))) (fun _ i _ => n4 - (intOf i).toNat)
        case atStart => exact ⟨0, Nat.zero_le _, rfl, Lib.hid (Below.refl _ _), Lib.hid (World.ownsRow_nil _ _ _ _)⟩
        case round =>
          obtain ⟨t, htN, rfl, hbel, hrow⟩ := hrel
          have HLr := Lib.hid (HL8.out.call hbel.out)
          have p0_0 := HLr.out.bx.at 0 rfl 0 rfl
          have p0_1 := HLr.out.bx.at 0 rfl 1 rfl
          have p0_2 := HLr.out.bx.at 0 rfl 2 rfl
          have p0_3 := HLr.out.bx.at 0 rfl 3 rfl
          have hbs := hbel.out.size
          have hbcl := HL8.out.bx.lt 0 rfl
          by_cases htl : t < n4
          · obtain ⟨xw, hx⟩ : ∃ xw, hs4[t]? = some xw := ⟨_, List.getElem?_eq_getElem (by rw [HN4.out]; exact htl)⟩
            obtain ⟨b4, o4, rfl, hb4, hc4⟩ := HW4.out (by rw [HN4.out]; omega)
            obtain ⟨hcx, hrx, hx1, hx2⟩ := hc4 t xw hx
            have hsh := shW_of HZ4.out HSH.out xw (List.mem_of_getElem? hx)
            have hst := Lib.hid (accW_step (a := a) hx)
            obtain ⟨Ax, cx, zx⟩ := xw
            simp only [Hd.enc] at hcx hx1 hx2 hsh
            obtain ⟨lx, hlx⟩ : ∃ lx, lx = zx.length := ⟨_, rfl⟩
            have HLX := Lib.hid hlx
            rw [← hlx] at hcx hx1 hsh
            obtain ⟨ac, hac⟩ : ∃ ac, accB a zx = ac := ⟨_, rfl⟩
            have HAC := Lib.hid hac
            have HRX := Lib.hid hrx
            have CX := Lib.hid (fun (W' : World) (hW : Below w8.heap.size w8 W') => show W'.cell? ⟨b4, o4 + t, none⟩ = some (.slice Ax lx cx) from (hW.cell (p := ⟨b4, o4 + t, none⟩) hb4).trans hcx)
            have cx0 := CX.out wr hbel.out
            have HAc := Lib.hid (fun (W' : World) (hW : Below wr.heap.size wr W') => (rAccepts_any A n c s M m d E k g a Ax lx cx zx w8.heap.size W' (HAU.out.below (hbel.out.trans (hW.mono hbs)) (Nat.le_refl _)) (hbel.out.trans (hW.mono hbs)).size HRW.out (HRX.out.below (hbel.out.trans (hW.mono hbs)) (Nat.le_refl _)) HLX.out.symm (by omega)).mono (R' := fun e w' => e = .returned (.bool ac) ∧ Below wr.heap.size wr w') fun e w' hh => ⟨by rw [hh.1, hac], hW.trans (hh.2.mono hW.size)⟩)
            have w0 : (t : Int) < (n4 : Int) := by omega
            have w0b : (0 : Int) ≤ (t : Int) := by omega
            have hb4r : b4 < wr.heap.size := by omega
            have hbcr : bc < wr.heap.size := by omega
            rw [hac] at hst
            have HWA := Lib.hid (fun (W' : World) (hW : Below wr.heap.size wr W') => (fun b o v (hlt : b < wr.heap.size) (h : wr.cell? ⟨b, o, none⟩ = some v) => (hW.cell (p := ⟨b, o, none⟩) hlt).trans h))
            clear hlx hac hrx hcx hx hc4
            go_wp2_with fail
            go_upto_region 15 with fail
            go_cut [71] from 60 to 78 (fun v wx => v = .bool ac ∧ Hid (Below wr.heap.size wr wx))
            case first =>
              have hbr := Lib.hid (Below.refl wr.heap.size wr)
              have hbd := Lib.hid ((Below.refl wr.heap.size wr).drew)
              go_region_held3 (fun w' => w'.cell? ⟨bc, 0, none⟩ = some (.slice A n c) ∧ w'.cell? ⟨bc, 1, none⟩ = some (.int .i64 s) ∧ w'.cell? ⟨bc, 2, none⟩ = some (.slice M m d) ∧ w'.cell? ⟨bc, 3, none⟩ = some (.slice E k g) ∧ w'.cell? ⟨b4, o4 + t, none⟩ = some (.slice Ax lx cx)) (first | with_reducible exact ⟨p0_0, p0_1, p0_2, p0_3, cx0⟩ | go_keep)
                (first | (go_simp; go_at_call 39; (first | with_reducible refine (HAc.out _ hbr.out).mono ?_ | with_reducible refine (HAc.out _ hbd.out).mono ?_); rintro e w14 ⟨rfl, hb14⟩
                          have HB14 := Lib.hid hb14
                          have p0_0 := HWA.out _ hb14 _ _ _ hbcr p0_0
                          have p0_1 := HWA.out _ hb14 _ _ _ hbcr p0_1
                          have p0_2 := HWA.out _ hb14 _ _ _ hbcr p0_2
                          have p0_3 := HWA.out _ hb14 _ _ _ hbcr p0_3
                          have cx0 := HWA.out _ hb14 _ _ _ hb4r cx0
                          clear hb14))
              all_goals
                go_wp2_with fail
                go_meet
                case rel => exact ⟨rfl, by first | exact HB14 | exact Lib.hid HB14.out.drew⟩
            case rest =>
              obtain ⟨rfl, hbx⟩ := hcut
              have hbel2 := Lib.hid (hbel.out.trans (hbx.out.mono hbs))
              have hrow2 := Lib.hid (own_below hrow.out hbx.out)
              have hbs2 := hbel2.out.size
              have hkl := accW_len a hs4 t
              have cx1 := CX.out wc hbel2.out
              clear hbel hrow hbx p0_0 p0_1 p0_2 p0_3 cx0 HAc HWA HLr
              cases ac
              · rw [if_neg (by simp), List.append_nil] at hst
                go_wp2_with fail
                go_roundw
                case rel => exact ⟨t + 1, by omega, by go_num, hbel2, by rw [hst.out]; exact hrow2⟩
                case measure => simp [intOf]; omega
              · rw [if_pos rfl] at hst
                obtain ⟨ks, hks⟩ : ∃ ks, ks = accW a (hs4.take t) := ⟨_, rfl⟩
                rw [← hks] at hrow2 hst hkl
                obtain ⟨K1, hK1⟩ : ∃ K1, K1 = ks.length := ⟨_, rfl⟩
                have hrow3 := Lib.hid (hrow2.out.alloc (.cells #[.slice Ax lx cx] 22))
                rw [← hK1] at hrow3 hkl
                have HK1 := Lib.hid hK1
                clear hK1 hks
                go_wp2_with (at_builtin; refine wpList_append_lies _ rfl (.tmp 72) (.tmp 77) 40 rfl w8.heap.size 22 iL (.slice none 0 0) 1 24 Try.underlying40 iL0 iL1 iL2 iL3 rfl (by omega) u13 K1 (ks.map Hd.enc) rfl hrow3.out ⟨wc.heap.size, 0, none⟩ 1 1 [.slice Ax lx cx] rfl rfl (news_one rfl) (by simp [Value.oneCell']) (by omega) (by unfold maxLen; omega) (by omega) (by simp; omega) (wc.heap.size + 1) (by simp) ?_; intro gN capN w19 hown19 hgrow19 hat19 hlt19)
                have hrow9 := Lib.hid (show w19.ownsRow w8.heap.size 22 1 (.slice (some ⟨gN, 0, none⟩) (K1 + 1) capN) (ks ++ [(⟨Ax, cx, zx⟩ : Hd)]).length ((ks ++ [(⟨Ax, cx, zx⟩ : Hd)]).map Hd.enc) by
                  rw [List.length_append, ← HK1.out, List.map_append]; simp only [List.map_cons, List.map_nil, Hd.enc, ← HLX.out]; exact hown19)
                have hb9 := Lib.hid (show Below w8.heap.size w8 w19 from (hbel2.out.alloc hbs2 (.cells #[.slice Ax lx cx] 22)).grown hgrow19 (by simp; omega) (fun k hk => (hrow3.out.lt k hk).1))
                clear hown19 hgrow19 hat19 hlt19 cx1
                go_wp2_with fail
                go_roundw
                case rel => exact ⟨t + 1, by omega, by go_num, hb9, by rw [hst.out]; exact hrow9⟩
                case measure => simp [intOf]; omega
          · obtain rfl : t = n4 := by omega
            have hkl := accW_len a hs4 t
            rw [List.take_of_length_le (by rw [HN4.out]; exact Nat.le_refl _)] at hrow hkl
            obtain ⟨A5, c5, rfl, hr5⟩ := rowL_rd hrow.out (fun x hx => by
              obtain ⟨h1, h2, h3⟩ := RdL.all HW4.out x (accW_mem hx)
              exact ⟨(h1.below hbel.out (Nat.le_refl _)).more hbel.out.size, h2, h3⟩)
            obtain ⟨n5, hn5⟩ : ∃ n5, (accW a hs4).length = n5 := ⟨_, rfl⟩
            rw [hn5] at hkl ⊢
            have HW5 := Lib.hid hr5
            have HN5 := Lib.hid hn5
            have HW2 := Lib.hid ((HW2.out.below hbel.out (Nat.le_refl _)).more hbel.out.size)
            have HW3 := Lib.hid ((HW3.out.below hbel.out (Nat.le_refl _)).more hbel.out.size)
            have HW4 := Lib.hid ((HW4.out.below hbel.out (Nat.le_refl _)).more hbel.out.size)
            have HE1 := Lib.hid (show decide (hs2.map Hd.z = hs4.map Hd.z) = true by rw [HZ2.out, HZ4.out, HA1.out]; exact decide_eq_true rfl)
            have HE2 := Lib.hid (show decide (hs3.map Hd.z = (accW a hs4).map Hd.z) = true by rw [HZ3.out, accW_map, HZ4.out, HA2.out]; exact decide_eq_true rfl)
            have HS2 := Lib.hid (shW_of (HZ2.out.trans HA1.out) HSH.out)
            have HS4 := Lib.hid (shW_of HZ4.out HSH.out)
            have HS5 := Lib.hid (show ShW (accW a hs4) from fun x hx => HS4.out x (accW_mem hx))
            have HS3 := Lib.hid (show ShW hs3 from fun x hx => by
              have h1 : x.z ∈ hs3.map Hd.z := List.mem_map.2 ⟨x, hx, rfl⟩
              rw [HZ3.out, HA2.out] at h1
              obtain ⟨p, hp, e⟩ := List.mem_map.1 (List.mem_filter.1 h1).1
              rw [← e]; exact HSH.out p hp)
            have HL30 := Lib.hid HLr.out
            clear hrow hr5 hn5 p0_0 p0_1 p0_2 p0_3
            have p0_0 := HL30.out.bx.at 0 rfl 0 rfl
            have p0_1 := HL30.out.bx.at 0 rfl 1 rfl
            have p0_2 := HL30.out.bx.at 0 rfl 2 rfl
            have p0_3 := HL30.out.bx.at 0 rfl 3 rfl
            go_wp2_with fail
            refine (k_samew HE1.out HW2.out HW4.out HN2.out HN4.out (by omega) (by omega) HS2.out HS4.out HL30.out).mono ?_
            rintro e w31 ⟨rfl, hl⟩
            clear p0_0 p0_1 p0_2 p0_3
            have HL31 := Lib.hid hl.lw
            have HW3 := Lib.hid (hl.wds HW3.out)
            have HW5 := Lib.hid (hl.wds HW5.out)
            clear hl
            have p0_0 := HL31.out.bx.at 0 rfl 0 rfl
            have p0_1 := HL31.out.bx.at 0 rfl 1 rfl
            have p0_2 := HL31.out.bx.at 0 rfl 2 rfl
            have p0_3 := HL31.out.bx.at 0 rfl 3 rfl
            go_wp2_with fail
            refine (k_samew HE2.out HW3.out HW5.out HN3.out HN5.out (by omega) (by omega) HS3.out HS5.out HL31.out).mono ?_
            rintro e w32 ⟨rfl, hl⟩
            clear p0_0 p0_1 p0_2 p0_3
            have HL32 := Lib.hid hl.lw
            have HW3 := Lib.hid (hl.wds HW3.out)
            have HW5 := Lib.hid (hl.wds HW5.out)
            clear hl
            have p0_0 := HL32.out.bx.at 0 rfl 0 rfl
            have p0_1 := HL32.out.bx.at 0 rfl 1 rfl
            have p0_2 := HL32.out.bx.at 0 rfl 2 rfl
            have p0_3 := HL32.out.bx.at 0 rfl 3 rfl
            go_wp2_with fail
            go_ret
            exact ⟨rfl, HB0.out.trans (HL32.out.bel.mono HB0.out.size)⟩
end Go.Proofs.Ytcciiikaejjooaa
