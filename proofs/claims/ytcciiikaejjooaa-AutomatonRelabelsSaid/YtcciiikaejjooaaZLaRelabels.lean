/- The law AutomatonRelabels, walked. -/
import Derived.Test.YtcciiikaejjooaaZa9
import Derived.Test.YtcciiikaejjooaaZaRRl
import Derived.Deep.RegionHeld3
import Derived.Deep.CutRange
namespace Go.Proofs.Ytcciiikaejjooaa
open Go.RowKit Go.Sort
attribute [local go_sem ↓] exec_load_graph'
attribute [local go_sem] blkOf_ptr

theorem rd_take {w : World} {B : Nat} {A : Option Addr} {zs : List Int} (h : RdI w B A zs) (k : Nat) : RdI w B A (zs.take k) := fun h0 => by
  rw [List.length_take] at h0
  obtain ⟨b, o, e, hb, hc⟩ := h (by omega)
  refine ⟨b, o, e, hb, fun j hj => ?_⟩
  rw [List.length_take] at hj
  rw [hc j (by omega)]
  simp [List.getD, show j < k by omega]
theorem KW.more {W w w1 w2 : World} {l : List (Nat × List Value)} (h : KW W l w w1) (h2 : KW W l w1 w2) : KW W l w w2 := ⟨h2.lw, h.bel.trans (h2.bel.mono h.bel.size)⟩
theorem KW.drew {W w w1 : World} {l : List (Nat × List Value)} (h : KW W l w w1) : KW W l w w1.drew := ⟨h.lw.drew, h.bel.drew⟩
section
variable {W w : World} {l : List (Nat × List Value)} {A : Option Addr} {n c : Nat} {s : Int} {M : Option Addr} {m d : Nat} {E : Option Addr} {k g : Nat} {a : Au} {T : Option Addr} {l1 lc : Nat} {tl : List Int}
theorem k_rel {x : Au} {u : Int} (hx : relR a tl = (x, u)) (ha : AuR w w.heap.size A n c s M m d E k g a) (ht : RdI w w.heap.size T tl) (hl : tl.length = l1) (hlc : l1 ≤ lc) (hlb : l1 ≤ 100000) (h : LW W l w) : Calls Try.prog 24 #[.agg #[.slice A n c, .int .i64 s, .slice M m d, .slice E k g], .slice T l1 lc] w fun e w' => ∃ A n c s M m d E k g, e = .returned (.tuple #[.agg #[.slice A n c, .int .i64 s, .slice M m d, .slice E k g], .int .i64 u]) ∧ AuR w' w'.heap.size A n c s M m d E k g x ∧ KW W l w w' :=
  k_gives (mRelabel_any A n c s M m d E k g a T l1 lc tl w ha ht hl hlc hlb) hx h
theorem k_rel0 {u : Int} (hx : relR a tl = (zeroA, u)) (ha : AuR w w.heap.size A n c s M m d E k g a) (ht : RdI w w.heap.size T tl) (hl : tl.length = l1) (hlc : l1 ≤ lc) (hlb : l1 ≤ 100000) (h : LW W l w) : Calls Try.prog 24 #[.agg #[.slice A n c, .int .i64 s, .slice M m d, .slice E k g], .slice T l1 lc] w fun e w' => ∃ A2 c2 M2 d2 E2 g2, e = .returned (.tuple #[.agg #[.slice A2 0 c2, .int .i64 0, .slice M2 0 d2, .slice E2 0 g2], .int .i64 u]) ∧ KW W l w w' :=
  (k_rel hx ha ht hl hlc hlb h).mono fun e w' hh => by
    obtain ⟨A2, n2, c2, s2, M2, m2, d2, E2, k2, g2, e1, hr, hk⟩ := hh
    obtain rfl : n2 = 0 := hr.hn.symm
    obtain rfl : s2 = 0 := hr.st.symm
    obtain rfl : m2 = 0 := hr.hm.symm
    obtain rfl : k2 = 0 := hr.hk.symm
    exact ⟨A2, c2, M2, d2, E2, g2, e1, hk⟩
theorem k_rrel (hr : RightW a) (h0 : 0 ≤ s) (hs : s ≤ 5) (hll : tl.length = a.al.length) (hrg : ∀ x ∈ tl, 0 ≤ x ∧ x < 32) (hd : tl.Nodup) (ha : AuR w w.heap.size A n c s M m d E k g a) (ht : RdI w w.heap.size T tl) (hl : tl.length = l1) (h : LW W l w) : Calls Try.prog 43 #[.agg #[.slice A n c, .int .i64 s, .slice M m d, .slice E k g], .slice T l1 lc] w fun e w' => ∃ A n c s M m d E k g, e = .returned (.agg #[.slice A n c, .int .i64 s, .slice M m d, .slice E k g]) ∧ AuR w' w'.heap.size A n c s M m d E k g (canA (relA a tl)) ∧ KW W l w w' :=
  k_auf (rRelabel_any A n c s M m d E k g a T l1 lc tl w.heap.size w ha ht hl (Nat.le_refl _) hr hll hrg hd s.toNat (by omega) (by omega)) h
theorem k_none {A : Option Addr} {c : Nat} {M : Option Addr} {d : Nat} {E : Option Addr} {g : Nat} (h : LW W l w) : Calls Try.prog 27 #[.agg #[.slice A 0 c, .int .i64 0, .slice M 0 d, .slice E 0 g]] w fun e w' => e = .returned (.bool true) ∧ KW W l w w' :=
  kw_call (none_zero A c M d E g w) h
end

set_option maxHeartbeats 16000000 in
set_option maxRecDepth 100000 in
theorem lawRelabels (x : Int) (gv : Nat → Value) (T : Option Addr) (l lc : Nat) (tl : List Int) (W : World) (S0 : (Lit.int .u8 x).wf = true) (S1 : GrC #[gv 0, gv 1, gv 2, gv 3, gv 4, gv 5, gv 6, gv 7, gv 8, gv 9, gv 10, gv 11, gv 12, gv 13, gv 14, gv 15, gv 16, gv 17, gv 18, gv 19, gv 20, gv 21, gv 22, gv 23, gv 24, gv 25, gv 26]) (S2 : RdI W W.heap.size T tl) (S3 : tl.length = l) (S4 : ∀ z ∈ tl, (Lit.int .i64 z).wf = true) (S5 : l ≤ lc) :
    Calls Try.prog 10 #[.int .u8 x, .agg #[gv 0, gv 1, gv 2, gv 3, gv 4, gv 5, gv 6, gv 7, gv 8, gv 9, gv 10, gv 11, gv 12, gv 13, gv 14, gv 15, gv 16, gv 17, gv 18, gv 19, gv 20, gv 21, gv 22, gv 23, gv 24, gv 25, gv 26], .slice T l lc] W fun e W' => e = .returned (.bool true) ∧ Below W.heap.size W W' := by
  have HL0 := Lib.hid (LW.first W [gv 0, gv 1, gv 2, gv 3, gv 4, gv 5, gv 6, gv 7, gv 8, gv 9, gv 10, gv 11, gv 12, gv 13, gv 14, gv 15, gv 16, gv 17, gv 18, gv 19, gv 20, gv 21, gv 22, gv 23, gv 24, gv 25, gv 26] 50)
  have HK := Lib.hid known_any
  have HS0 := Lib.hid S0
  have HS1 := Lib.hid S1
  have HTD := Lib.hid S2
  have HTL := Lib.hid S3
  have hlc := S5
  obtain ⟨iI, iI0, iI1, iI2, iI3⟩ := info_parts info_int
  clear S0 S1 S2 S3 S4 S5
  by_cases h10 : 8 < l
  · go_enter Try.func10, Try.ntmps10
    go_wp2_with fail
    refine (lw_call (HK.out _) HL0.out).mono ?_
    rintro e w1 ⟨rfl, hl⟩
    have HL1 := Lib.hid hl
    clear hl
    go_wp2_with fail
    refine (lw_call (HK.out _) HL1.out).mono ?_
    rintro e w2 ⟨rfl, hl⟩
    have HL2 := Lib.hid hl
    clear hl
    go_wp2_with fail
    go_ret
    exact ⟨rfl, HL2.out.bel⟩
  have hl10 : l ≤ 8 := by omega
  go_enter Try.func10, Try.ntmps10
  go_wp2_with fail
  refine (lw_call (HK.out _) HL0.out).mono ?_
  rintro e w1 ⟨rfl, hl⟩
  have HL1 := Lib.hid hl
  clear hl
  have hr := HL1.out.bx.grid 0 rfl
  have hz := HL1.out.bx.lt 0 rfl
  go_wp2_with fail
  go_cut [7] from 25 to 29 (fun v wx => PreR W [(W.heap.size, [gv 0, gv 1, gv 2, gv 3, gv 4, gv 5, gv 6, gv 7, gv 8, gv 9, gv 10, gv 11, gv 12, gv 13, gv 14, gv 15, gv 16, gv 17, gv 18, gv 19, gv 20, gv 21, gv 22, gv 23, gv 24, gv 25, gv 26])] v wx)
  case first =>
    go_region_held3 (fun w' => GridOk w' W.heap.size ∧ ∀ i : Nat, i < 27 → w'.cell? ⟨W.heap.size, i, none⟩ = some (gv i)) (first | with_reducible exact grid_two (hr) | with_reducible exact grid_two (grid_drew hr) | with_reducible exact grid_two (grid_alloc hr hz _ _) | with_reducible exact grid_two (grid_drew (grid_alloc hr hz _ _)) | with_reducible exact grid_two (grid_set4 hr (by omega) _ _ _ _) | with_reducible exact grid_two (grid_set4 (grid_alloc hr hz _ _) (by omega) _ _ _ _))
      (first
      | (go_simp; go_at_call 33; refine (events_any x _ HS0.out).mono ?_; rintro e w2 ⟨al, hev, A0, c0, rfl, hrd, hb2, hc0, hc02⟩
         have HB2 := Lib.hid hb2
         have HEV := Lib.hid hev
         have HRD := Lib.hid hrd
         have hz2 := hb2.size
         have hr : ∀ i : Nat, i < 27 → w2.cell? ⟨W.heap.size, i, none⟩ = some (gv i) := by first | with_reducible exact grid_below' hb2 hr hz | with_reducible exact grid_below' hb2 (grid_drew hr) (lt_drew hz) | with_reducible exact grid_below' hb2 (grid_alloc hr hz _ _) (lt_alloc hz _ _) | with_reducible exact grid_below' hb2 (grid_drew (grid_alloc hr hz _ _)) (lt_drew (lt_alloc hz _ _))
         have hz : W.heap.size < w2.heap.size := by (try simp at hz2); omega
         try (have hq : Row w2 w1.heap.size 25 [.slice none 0 0, .int .i64 0, .slice none 0 0, .slice none 0 0] := Row.below (row_drew (Row.new w1 [.slice none 0 0, .int .i64 0, .slice none 0 0, .slice none 0 0] 25)) hb2 (by simp); have hq0 := Lib.hid hq)
         clear hb2 hev hrd)
      | (go_simp; go_at_call 32; refine (make_any A0 al.length c0 w2.heap.size al #[gv 0, gv 1, gv 2, gv 3, gv 4, gv 5, gv 6, gv 7, gv 8, gv 9, gv 10, gv 11, gv 12, gv 13, gv 14, gv 15, gv 16, gv 17, gv 18, gv 19, gv 20, gv 21, gv 22, gv 23, gv 24, gv 25, gv 26] _ (by first | exact HRD.out | exact HRD.out.below ((Below.refl _ w2).alloc (Nat.le_refl _) _) (Nat.le_refl _)) (by simp) rfl hc0 HEV.out HS1.out).mono ?_; rintro e w3 ⟨a, v3, hok, rfl, ⟨A, n, c, s, M, m, d, E, k, g, rfl, hau, hfr⟩, hb3⟩
         have HB3 := Lib.hid hb3
         have HOK := Lib.hid hok
         have HAU := Lib.hid (show AuF a (.agg #[.slice A n c, .int .i64 s, .slice M m d, .slice E k g]) w3 _ from ⟨A, n, c, s, M, m, d, E, k, g, rfl, hau, hfr⟩)
         have hz3 := hb3.size
         have hr : ∀ i : Nat, i < 27 → w3.cell? ⟨W.heap.size, i, none⟩ = some (gv i) := by first | with_reducible exact grid_below' hb3 hr hz | with_reducible exact grid_below' hb3 (grid_drew hr) (lt_drew hz) | with_reducible exact grid_below' hb3 (grid_alloc hr hz _ _) (lt_alloc hz _ _) | with_reducible exact grid_below' hb3 (grid_drew (grid_alloc hr hz _ _)) (lt_drew (lt_alloc hz _ _))
         have hz : W.heap.size < w3.heap.size := by (try simp at hz3); omega
         try (have hq : Row w3 w1.heap.size 25 [.slice none 0 0, .int .i64 0, .slice none 0 0, .slice none 0 0] := hq0.out.below hb3 hq0.out.lt; have hq1 := Lib.hid hq; have y0 := hq.cell 0 rfl; have y1 := hq.cell 1 rfl; have y2 := hq.cell 2 rfl; have y3 := hq.cell 3 rfl; have g0 := hq.frozen 0; have g1 := hq.frozen 1; have g2 := hq.frozen 2; have g3 := hq.frozen 3; clear hq)
         try (have hq : Row w3 w2.heap.size 25 [.slice none 0 0, .int .i64 0, .slice none 0 0, .slice none 0 0] := Row.below (Row.new w2 [.slice none 0 0, .int .i64 0, .slice none 0 0, .slice none 0 0] 25) hb3 (by simp); have hq1 := Lib.hid hq; have y0 := hq.cell 0 rfl; have y1 := hq.cell 1 rfl; have y2 := hq.cell 2 rfl; have y3 := hq.cell 3 rfl; have g0 := hq.frozen 0; have g1 := hq.frozen 1; have g2 := hq.frozen 2; have g3 := hq.frozen 3; clear hq)
         clear hb3 hok hau hfr))
    all_goals
      go_wp2_with fail
      go_meet
      case rel => first | exact pre_1 HL1.out HB2.out HB3.out HEV.out HOK.out HAU.out | exact pre_2 HL1.out HB2.out HB3.out hq1.out HEV.out HOK.out HAU.out | exact pre_3 HL1.out HB2.out HB3.out hq1.out HEV.out HOK.out HAU.out
  case rest =>
    obtain ⟨bc, al, a, A, n, c, s, M, m, d, E, k, g, rfl, HL4, HEV, HOK, HAU⟩ := hcut
    have HB0 := Lib.hid HL4.out.bel
    have HTc := Lib.hid (HL4.out.ints HTD.out)
    have HL5 := Lib.hid (show LW wc ((bc, [.slice A n c, .int .i64 s, .slice M m d, .slice E k g]) :: [(W.heap.size, [gv 0, gv 1, gv 2, gv 3, gv 4, gv 5, gv 6, gv 7, gv 8, gv 9, gv 10, gv 11, gv 12, gv 13, gv 14, gv 15, gv 16, gv 17, gv 18, gv 19, gv 20, gv 21, gv 22, gv 23, gv 24, gv 25, gv 26])]) wc from ⟨Below.refl _ _, HL4.out.bx⟩)
    have HC := Lib.hid HOK.out.r.chk
    have HRT := Lib.hid HOK.out.r
    have HCA := Lib.hid HOK.out.c
    have HRW := Lib.hid HOK.out.r.toRightW
    have HST := Lib.hid HAU.out.st
    have HAL := Lib.hid HAU.out.hn
    have hbn : n ≤ 5 := by have h1 := Ev5.len (n := 5) HEV.out; rw [← HOK.out.al, HAL.out] at h1; exact h1
    have hs0 : 0 ≤ s := by rw [← HST.out]; exact HRW.out.st0
    have hs5 : s ≤ 5 := by rw [← HST.out]; exact HOK.out.st
    have hb8 : decide ((8 : Int) < (l : Int)) = false := by simp; omega
    have hlb : l ≤ 100000 := by omega
    have HTw := Lib.hid HTc.out
    clear hr hz
    have p0_0 := HL5.out.bx.at 0 rfl 0 rfl
    have p0_1 := HL5.out.bx.at 0 rfl 1 rfl
    have p0_2 := HL5.out.bx.at 0 rfl 2 rfl
    have p0_3 := HL5.out.bx.at 0 rfl 3 rfl
    by_cases hln : l = n
    · have hne : ((l : Int) != (n : Int)) = false := by simp; omega
      have HLN := Lib.hid hln
      have hll := Lib.hid (show tl.length = a.al.length by rw [HTL.out, HAL.out]; exact hln)
      clear hln
      obtain ⟨v, hv⟩ : ∃ v, v = neE tl := ⟨_, rfl⟩
      have HV := Lib.hid hv
      by_cases hv0 : v = 0
      · have HX := Lib.hid (show relR a tl = (canA (relA a tl), 0) by rw [relR, if_neg (by rw [HC.out]; simp), if_neg (by rw [hll.out]; simp), if_neg (by rw [← hv, hv0]; simp)])
        have hnd := Lib.hid (neE_ok (zs := tl) (by rw [← hv, hv0]))
        clear hv
        have HV0 := Lib.hid hv0
        clear hv0
        go_wp2_with fail
        refine (k_rel HX.out HAU.out HTc.out HTL.out hlc hlb HL5.out).mono ?_
        rintro e w6 ⟨A2, n2, c2, s2, M2, m2, d2, E2, k2, g2, rfl, hau2, hl⟩
        clear p0_0 p0_1 p0_2 p0_3
        have HL6 := Lib.hid hl.lw
        have HAU := Lib.hid (hl.aut HAU.out)
        have HTc := Lib.hid (hl.ints HTc.out)
        have HAU2 := Lib.hid hau2
        clear hau2
        clear hl
        have p0_0 := HL6.out.bx.at 0 rfl 0 rfl
        have p0_1 := HL6.out.bx.at 0 rfl 1 rfl
        have p0_2 := HL6.out.bx.at 0 rfl 2 rfl
        have p0_3 := HL6.out.bx.at 0 rfl 3 rfl
        have HKa := Below.alloc (Below.refl w6.heap.size w6) (Nat.le_refl _) (.cells #[.slice A2 n2 c2, .int .i64 s2, .slice M2 m2 d2, .slice E2 k2 g2] 25)
        have HL6n := Lib.hid (HL6.out.new [.slice A2 n2 c2, .int .i64 s2, .slice M2 m2 d2, .slice E2 k2 g2] 25)
        have HAU := Lib.hid ((HAU.out.below HKa (Nat.le_refl _)).more HKa.size)
        have HTc := Lib.hid ((HTc.out.below HKa (Nat.le_refl _)).more HKa.size)
        have HAU2 := Lib.hid ((HAU2.out.below HKa (Nat.le_refl _)).more HKa.size)
        clear HKa
        clear p0_0 p0_1 p0_2 p0_3
        have p0_0 := HL6n.out.bx.at 0 rfl 0 rfl
        have p0_1 := HL6n.out.bx.at 0 rfl 1 rfl
        have p0_2 := HL6n.out.bx.at 0 rfl 2 rfl
        have p0_3 := HL6n.out.bx.at 0 rfl 3 rfl
        have p1_0 := HL6n.out.bx.at 1 rfl 0 rfl
        have p1_1 := HL6n.out.bx.at 1 rfl 1 rfl
        have p1_2 := HL6n.out.bx.at 1 rfl 2 rfl
        have p1_3 := HL6n.out.bx.at 1 rfl 3 rfl
        have HAUr := Lib.hid HAU.out
        go_wp2_with fail
        go_loopw [10, 11] (fun wv i wr => ∃ (t : Nat) (u : Int), t ≤ l ∧ i = .int .i64 t ∧ wv = .int .i64 u ∧ Hid ((u = 0 ∧ neGo (tl.take t) (tl.drop t) = v) ∨ (u = v ∧ v ≠ 0)) ∧ Hid (KW wc ((w6.heap.size, [.slice A2 n2 c2, .int .i64 s2, .slice M2 m2 d2, .slice E2 k2 g2]) :: ((bc, [.slice A n c, .int .i64 s, .slice M m d, .slice E k g]) :: [(W.heap.size, [gv 0, gv 1, gv 2, gv 3, gv 4, gv 5, gv 6, gv 7, gv 8, gv 9, gv 10, gv 11, gv 12, gv 13, gv 14, gv 15, gv 16, gv 17, gv 18, gv 19, gv 20, gv 21, gv 22, gv 23, gv 24, gv 25, gv 26])])) (w6.alloc (.cells #[.slice A2 n2 c2, .int .i64 s2, .slice M2 m2 d2, .slice E2 k2 g2] 25)) wr)) (fun _ i _ => l - (intOf i).toNat)
        case atStart => exact ⟨0, 0, Nat.zero_le _, rfl, rfl, Lib.hid (.inl ⟨rfl, by rw [HV.out]; rfl⟩), Lib.hid (KW.of HL6n.out (Below.refl _ _))⟩
        case round =>
          obtain ⟨t, u, htl0, rfl, rfl, hu, HK40⟩ := hrel
          have HL40 := Lib.hid HK40.out.lw
          rcases hu.out with ⟨rfl, hg⟩ | ⟨rfl, hv1⟩
          · have HG := Lib.hid hg
            clear hu hg
            by_cases htl : t < l
            · obtain ⟨b1, o1, rfl, hb1, hc1⟩ := HTD.out (by rw [HTL.out]; omega)
              have hz1 : t < tl.length := by rw [HTL.out]; exact htl
              obtain ⟨ev, hev⟩ : ∃ ev, ev = tl.getD t 0 := ⟨_, rfl⟩
              have CE := Lib.hid (fun W' (hW : Below wc.heap.size wc W') => by
                have := ((HB0.out.trans (hW.mono HB0.out.size)).cell (p := ⟨b1, o1 + t, none⟩) hb1).trans (hc1 t hz1)
                rw [← hev] at this; exact this)
              have ce := CE.out wr HL40.out.bel
              have z1 : (t : Int) < (l : Int) := by omega
              have z2 : (0 : Int) ≤ (t : Int) := by omega
              have z3 : (t : Int) ≤ (l : Int) := by omega
              have z4 : (t : Int) ≤ (lc : Int) := by omega
              have HEVV := Lib.hid hev
              clear hc1 hev
              by_cases hx0 : ev < 0
              · have hR := Lib.hid (ne_range hz1 HG.out (by rw [← HEVV.out]; exact .inl hx0))
                go_wp2_with fail
                go_roundw
                case rel => exact ⟨t + 1, 2, by omega, by go_num, rfl, Lib.hid (.inr ⟨hR.out.symm, by rw [hR.out]; simp⟩), HK40⟩
                case measure => simp [intOf]; omega
              · have hx1 : 0 ≤ ev := by omega
                by_cases hx2 : 32 ≤ ev
                · have hR := Lib.hid (ne_range hz1 HG.out (by rw [← HEVV.out]; exact .inr hx2))
                  go_wp2_with fail
                  go_roundw
                  case rel => exact ⟨t + 1, 2, by omega, by go_num, rfl, Lib.hid (.inr ⟨hR.out.symm, by rw [hR.out]; simp⟩), HK40⟩
                  case measure => simp [intOf]; omega
                · have hx3 : ev < 32 := by omega
                  have hnr := Lib.hid (show ¬ (tl.getD t 0 < 0 ∨ 32 ≤ tl.getD t 0) by rw [← HEVV.out]; omega)
                  have HTt := Lib.hid (show RdI wr wr.heap.size (some ⟨b1, o1, none⟩) (tl.take t) from rd_take (HL40.out.ints HTw.out) t)
                  have HTd := Lib.hid (show RdI wr.drew wr.drew.heap.size (some ⟨b1, o1, none⟩) (tl.take t) from HTt.out)
                  have htk : (tl.take t).length = t := by rw [List.length_take]; omega
                  have HTK := Lib.hid htk
                  clear htk
                  cases hme : decide (ev ∈ tl.take t)
                  · have hH := Lib.hid hme
                    have hR := Lib.hid (ne_next hz1 HG.out hnr.out (by rw [← HEVV.out]; simpa using hme))
                    clear hme
                    go_wp2_with fail
                    go_region_held3 (fun w' => w'.cell? ⟨b1, o1 + t, none⟩ = some (.int .i64 ev)) (first | with_reducible exact ce | go_keep)
                      (first | (go_simp; go_at_call 36; (first | refine (k_has (w := wr.drew) hH.out HTd.out HTK.out (by omega) HL40.out.drew).mono ?_ | refine (k_has (w := wr) hH.out HTt.out HTK.out (by omega) HL40.out).mono ?_); rintro e w41 ⟨rfl, hl⟩
                                have HL41 := Lib.hid (by first | exact HK40.out.more hl | exact HK40.out.drew.more hl : KW wc ((w6.heap.size, [.slice A2 n2 c2, .int .i64 s2, .slice M2 m2 d2, .slice E2 k2 g2]) :: ((bc, [.slice A n c, .int .i64 s, .slice M m d, .slice E k g]) :: [(W.heap.size, [gv 0, gv 1, gv 2, gv 3, gv 4, gv 5, gv 6, gv 7, gv 8, gv 9, gv 10, gv 11, gv 12, gv 13, gv 14, gv 15, gv 16, gv 17, gv 18, gv 19, gv 20, gv 21, gv 22, gv 23, gv 24, gv 25, gv 26])])) (w6.alloc (.cells #[.slice A2 n2 c2, .int .i64 s2, .slice M2 m2 d2, .slice E2 k2 g2] 25)) w41)
                                have HL41d := Lib.hid HL41.out.drew
                                have ce := CE.out _ hl.lw.bel
                                clear hl))
                    all_goals
                      go_wp2_with fail
                      go_roundw
                      case rel => exact ⟨t + 1, 0, by omega, by go_num, rfl, Lib.hid (.inl ⟨rfl, hR.out⟩), by first | exact HL41 | exact HL41d⟩
                      case measure => simp [intOf]; omega
                  · have hH := Lib.hid hme
                    have hR := Lib.hid (ne_dup hz1 HG.out hnr.out (by rw [← HEVV.out]; simpa using hme))
                    clear hme
                    go_wp2_with fail
                    go_region_held3 (fun w' => w'.cell? ⟨b1, o1 + t, none⟩ = some (.int .i64 ev)) (first | with_reducible exact ce | go_keep)
                      (first | (go_simp; go_at_call 36; (first | refine (k_has (w := wr.drew) hH.out HTd.out HTK.out (by omega) HL40.out.drew).mono ?_ | refine (k_has (w := wr) hH.out HTt.out HTK.out (by omega) HL40.out).mono ?_); rintro e w41 ⟨rfl, hl⟩
                                have HL41 := Lib.hid (by first | exact HK40.out.more hl | exact HK40.out.drew.more hl : KW wc ((w6.heap.size, [.slice A2 n2 c2, .int .i64 s2, .slice M2 m2 d2, .slice E2 k2 g2]) :: ((bc, [.slice A n c, .int .i64 s, .slice M m d, .slice E k g]) :: [(W.heap.size, [gv 0, gv 1, gv 2, gv 3, gv 4, gv 5, gv 6, gv 7, gv 8, gv 9, gv 10, gv 11, gv 12, gv 13, gv 14, gv 15, gv 16, gv 17, gv 18, gv 19, gv 20, gv 21, gv 22, gv 23, gv 24, gv 25, gv 26])])) (w6.alloc (.cells #[.slice A2 n2 c2, .int .i64 s2, .slice M2 m2 d2, .slice E2 k2 g2] 25)) w41)
                                have HL41d := Lib.hid HL41.out.drew
                                have ce := CE.out _ hl.lw.bel
                                clear hl))
                    all_goals
                      go_wp2_with fail
                      go_roundw
                      case rel => exact ⟨t + 1, 8, by omega, by go_num, rfl, Lib.hid (.inr ⟨hR.out.symm, by rw [hR.out]; simp⟩), by first | exact HL41 | exact HL41d⟩
                      case measure => simp [intOf]; omega
            · have htl2 : (l : Int) ≤ (t : Int) := by omega
              obtain ⟨wo, rfl⟩ : ∃ wo : World, wo = wr := ⟨_, rfl⟩
              have HLo := Lib.hid HK40.out.lw
              have HAUo := Lib.hid ((HAU.out.below HK40.out.bel (Nat.le_refl _)).more HK40.out.bel.size)
              have HAU2o := Lib.hid ((HAU2.out.below HK40.out.bel (Nat.le_refl _)).more HK40.out.bel.size)
              have HTo := Lib.hid ((HTc.out.below HK40.out.bel (Nat.le_refl _)).more HK40.out.bel.size)
              have HSL := Lib.hid (show (srtI tl).length = l by rw [srtI_len, HTL.out])
              have HN2 := Lib.hid (show n2 = l by rw [← HAU2.out.hn]; exact HSL.out)
              have hn2a : n2 ≤ l := by rw [HN2.out]; exact Nat.le_refl _
              have hn2b : l ≤ n2 := by rw [HN2.out]; exact Nat.le_refl _
              have hna : l ≤ n := by rw [HLN.out]; exact Nat.le_refl _
              have HOL := Lib.hid hnd
              have HSZ := Lib.hid HK40.out.bel.size
              clear hnd
              go_wp2_with fail
              go_loopw [12, 13] (fun vb i wr => ∃ t2 : Nat, t2 ≤ l ∧ i = .int .i64 t2 ∧ Hid (Below wo.heap.size wo wr) ∧ Hid (Own wr wo.heap.size vb (((srtI tl).take t2).map (oldE a.al tl)))) (fun _ i _ => l - (intOf i).toNat)
              case atStart => exact ⟨0, Nat.zero_le _, rfl, Lib.hid (Below.refl _ _), Lib.hid (World.ownsRow_nil _ _ _ _)⟩
              case round =>
                obtain ⟨t2, ht2, rfl, hbo, hown⟩ := hrel
                have HLr := Lib.hid (HLo.out.call hbo.out)
                have q0 := HLr.out.bx.at 0 rfl 0 rfl
                by_cases hlt : t2 < l
                · obtain ⟨b1, o1, rfl, hb1, hc1⟩ := HTo.out (by rw [HTL.out]; omega)
                  obtain ⟨b2, o2, rfl, hb2, hc2⟩ := HAU2o.out.al (by rw [HAU2.out.hn]; omega)
                  obtain ⟨b3, o3, rfl, hb3, hc3⟩ := HAUo.out.al (by rw [HAL.out]; omega)
                  obtain ⟨ev, hev⟩ : ∃ ev, ev = (srtI tl).getD t2 0 := ⟨_, rfl⟩
                  obtain ⟨P, hP⟩ : ∃ P, P = ((srtI tl).take t2).map (oldE a.al tl) := ⟨_, rfl⟩
                  rw [← hP] at hown
                  have HPL := Lib.hid (show P.length ≤ l by rw [hP, List.length_map, List.length_take]; omega)
                  have HEM := Lib.hid (show ev ∈ tl from (srtI_perm tl).mem_iff.1 (by rw [hev]; exact getD_mem (by rw [HSL.out]; exact hlt)))
                  have HEN := Lib.hid (show P ++ [oldE a.al tl ev] = ((srtI tl).take (t2 + 1)).map (oldE a.al tl) by
                    rw [hP, hev, List.take_add_one, List.getElem?_eq_getElem (by rw [HSL.out]; exact hlt), List.map_append]
                    simp [List.getD, List.getElem?_eq_getElem (show t2 < (srtI tl).length by rw [HSL.out]; exact hlt)])
                  have CR := Lib.hid (fun (W' : World) (hW : Below wo.heap.size wo W') => show W'.cell? ⟨b2, o2 + t2, none⟩ = some (.int .i64 ev) by
                    have := (hW.cell (p := ⟨b2, o2 + t2, none⟩) hb2).trans (hc2 t2 (by rw [show (canA (relA a tl)).al = srtI tl from rfl, HSL.out]; exact hlt))
                    rw [this, hev]; rfl)
                  have C1 := Lib.hid hc1
                  have C3 := Lib.hid hc3
                  have w2a : (t2 : Int) < (l : Int) := by omega
                  have w2b : (t2 : Int) < (n2 : Int) := by omega
                  have w2c : (0 : Int) ≤ (t2 : Int) := by omega
                  clear hc1 hc2 hc3 hev hP
                  go_wp2_with fail
                  clear q0
                  go_loopw [12, 14] (fun vb k wq => ∃ j : Nat, j ≤ l ∧ k = .int .i64 j ∧ Hid (Below wo.heap.size wo wq) ∧ Hid (Own wq wo.heap.size vb (P ++ if tl.idxOf ev < j then [oldE a.al tl ev] else []))) (fun _ k _ => l - (intOf k).toNat)
                  case atStart => exact ⟨0, Nat.zero_le _, rfl, hbo, Lib.hid (by simpa using hown.out)⟩
                  case round =>
                    clear hown
                    obtain ⟨j, hj0, rfl, hbq, hown⟩ := hrel
                    by_cases hj : j < l
                    · have hz1 : j < tl.length := by rw [HTL.out]; exact hj
                      have hz3 : j < a.al.length := by rw [HAL.out]; omega
                      have c2 := CR.out wr hbq.out
                      have HLq := Lib.hid (HLo.out.call hbq.out)
                      have q0 := HLq.out.bx.at 0 rfl 0 rfl
                      have hsq := hbq.out.size
                      have hb1q : b1 < wo.heap.size := hb1
                      have w3a : (j : Int) < (l : Int) := by omega
                      have w3b : (j : Int) < (n : Int) := by omega
                      have w3c : (0 : Int) ≤ (j : Int) := by omega
                      by_cases he : tl.getD j 0 = ev
                      · have c1 : wr.cell? ⟨b1, o1 + j, none⟩ = some (.int .i64 ev) := by rw [hbq.out.cell (p := ⟨b1, o1 + j, none⟩) hb1, C1.out j hz1, he]
                        have HIX := Lib.hid (show tl.idxOf ev = j from (by
                          have hm := HEM.out
                          exact getD_inj HOL.out.2 (List.idxOf_lt_length_iff.2 hm) hz1 (by rw [getD_idxOf hm, he])))
                        have HOE := Lib.hid (show a.al.getD j 0 = oldE a.al tl ev by unfold oldE; rw [HIX.out])
                        obtain ⟨ov, hov⟩ : ∃ ov, ov = oldE a.al tl ev := ⟨_, rfl⟩
                        have HOV := Lib.hid hov
                        have hown2 := Lib.hid (show Own wr wo.heap.size u12 P by have := hown.out; rw [if_neg (by rw [HIX.out]; omega), List.append_nil] at this; exact this)
                        have hnew := Lib.hid (show P ++ (if tl.idxOf ev < j + 1 then [oldE a.al tl ev] else []) = P ++ [ov] by rw [if_pos (by rw [HIX.out]; omega), hov])
                        clear hov hown he
                        go_wp2_with fail
                        go_quiet (fail)
                        have hbq2 := Lib.hid (show Below wo.heap.size wo (wr.drewN nq) from below_drewN hbq.out nq)
                        have hsz2 : wo.heap.size ≤ (wr.drewN nq).heap.size := hsq
                        have c3 : (wr.drewN nq).cell? ⟨b3, o3 + j, none⟩ = some (.int .i64 ov) := by rw [hbq2.out.cell (p := ⟨b3, o3 + j, none⟩) hb3, C3.out j hz3, HOE.out, HOV.out]
                        have q1 := (HLq.out.drewN nq).bx.at 1 rfl 0 rfl
                        obtain ⟨PL, hPL⟩ : ∃ PL, PL = P.length := ⟨_, rfl⟩
                        have hao := Lib.hid (show (wr.drewN nq).ownsRow wo.heap.size 3 1 u12 PL (P.map (Value.int .i64)) by have := own_dr hown2.out nq; unfold Own at this; rwa [← hPL] at this)
                        have hPb : PL ≤ l := by rw [hPL]; exact HPL.out
                        have HPE := Lib.hid hPL
                        clear hbq hown2 q0 c1 c2 hsq HLq hPL hsz2
                        have hsz2 := hbq2.out.size
                        generalize wr.drewN nq = wr at *
                        go_wp2_with (at_builtin; refine wpList_append_own _ rfl _ _ 22 rfl wo.heap.size 3 iI (.int .i64 0) 1 8 Try.underlying22 iI0 iI1 iI2 iI3 rfl (by decide) _ _ _ rfl (hao.out.alloc _) ⟨wr.heap.size, 0, none⟩ 1 1 [.int .i64 ov] rfl rfl (news_one (by simp)) (by intro u hu; simp at hu; subst hu; rfl) (by unfold maxLen; omega) (by omega) (by simp; omega) ?_)
                        intro v5 w5 hown5 hgrow5 _
                        obtain ⟨A5, c5, rfl, ho5⟩ := int_app HPE.out hown5
                        have hb5 := Lib.hid (show Below wo.heap.size wo w5 from (hbq2.out.alloc hsz2 (.cells #[.int .i64 ov] 3)).grown hgrow5 (by simp; omega) (fun k hk => (hao.out.lt k hk).1))
                        have HO5 := Lib.hid ho5
                        clear hown5 hgrow5 ho5 q1 c3
                        go_wp2_with fail
                        go_roundw
                        case rel => exact ⟨j + 1, by omega, by go_num, hb5, by rw [hnew.out]; exact HO5⟩
                        case measure => simp [intOf]; omega
                      · obtain ⟨xv, hxv⟩ : ∃ xv, xv = tl.getD j 0 := ⟨_, rfl⟩
                        rw [← hxv] at he
                        have c1 : wr.cell? ⟨b1, o1 + j, none⟩ = some (.int .i64 xv) := by rw [hbq.out.cell (p := ⟨b1, o1 + j, none⟩) hb1, C1.out j hz1, hxv]
                        have hnb : (xv == ev) = false := by simp [he]
                        have hnew := Lib.hid (show (if tl.idxOf ev < j + 1 then [oldE a.al tl ev] else []) = (if tl.idxOf ev < j then [oldE a.al tl ev] else []) by
                          have : tl.idxOf ev ≠ j := fun e => he (by rw [hxv, ← e, getD_idxOf HEM.out])
                          by_cases h : tl.idxOf ev < j
                          · rw [if_pos h, if_pos (by omega)]
                          · rw [if_neg h, if_neg (by omega)])
                        have hbq2 := Lib.hid (fun q => below_drewN hbq.out q)
                        have hown3 := Lib.hid (fun q => own_dr hown.out q)
                        clear hxv he
                        go_wp2_with fail
                        go_quiet (fail)
                        go_wp2_with fail
                        go_roundw
                        case rel => exact ⟨j + 1, by omega, by go_num, hbq2.out nq, by rw [hnew.out]; exact hown3.out nq⟩
                        case measure => simp [intOf]; omega
                    · obtain rfl : j = l := by omega
                      have HOW := Lib.hid (show Own wr wo.heap.size u12 (((srtI tl).take (t2 + 1)).map (oldE a.al tl)) by
                        have := hown.out
                        rw [if_pos (by rw [← HTL.out]; exact List.idxOf_lt_length_iff.2 HEM.out), HEN.out] at this; exact this)
                      clear hown
                      go_wp2_with fail
                      go_roundw
                      case rel => exact ⟨t2 + 1, by omega, by go_num, hbq, HOW⟩
                      case measure => simp [intOf]; omega
                · obtain rfl : t2 = l := by omega
                  have HOB := Lib.hid (show Own wr wo.heap.size u12 (backL a.al tl) by have := hown.out; rw [List.take_of_length_le (by rw [HSL.out]; exact Nat.le_refl _)] at this; exact this)
                  clear hown
                  have HB9 := Lib.hid (show (backL a.al tl).length = t2 by rw [back_len]; exact HSL.out)
                  obtain ⟨A9, c9, rfl, hrd9, hc91, hc92⟩ := own_rdc HOB.out
                  rw [HB9.out] at hc91 ⊢
                  have HRD9 := Lib.hid hrd9
                  have HAU := Lib.hid ((HAUo.out.below hbo.out (Nat.le_refl _)).more hbo.out.size)
                  have HAU2 := Lib.hid ((HAU2o.out.below hbo.out (Nat.le_refl _)).more hbo.out.size)
                  have HTc := Lib.hid ((HTo.out.below hbo.out (Nat.le_refl _)).more hbo.out.size)
                  have HXB := Lib.hid (rel_back HRT.out HCA.out hll.out HOL.out.1 HOL.out.2)
                  have HL50 := Lib.hid HLr.out
                  clear hrd9 q0
                  have p0_0 := HL50.out.bx.at 0 rfl 0 rfl
                  have p0_1 := HL50.out.bx.at 0 rfl 1 rfl
                  have p0_2 := HL50.out.bx.at 0 rfl 2 rfl
                  have p0_3 := HL50.out.bx.at 0 rfl 3 rfl
                  have p1_0 := HL50.out.bx.at 1 rfl 0 rfl
                  have p1_1 := HL50.out.bx.at 1 rfl 1 rfl
                  have p1_2 := HL50.out.bx.at 1 rfl 2 rfl
                  have p1_3 := HL50.out.bx.at 1 rfl 3 rfl
                  go_wp2_with fail
                  refine (k_rel HXB.out HAU2.out HRD9.out HB9.out hc91 (by omega) HL50.out).mono ?_
                  rintro e w51 ⟨A3, n3, c3, s3, M3, m3, d3, E3, k3, g3, rfl, hau3, hl⟩
                  clear p0_0 p0_1 p0_2 p0_3 p1_0 p1_1 p1_2 p1_3
                  have HL51 := Lib.hid hl.lw
                  have HAU2 := Lib.hid (hl.aut HAU2.out)
                  have HAU := Lib.hid (hl.aut HAU.out)
                  have HTc := Lib.hid (hl.ints HTc.out)
                  have HAU3 := Lib.hid hau3
                  clear hau3
                  clear hl
                  have p0_0 := HL51.out.bx.at 0 rfl 0 rfl
                  have p0_1 := HL51.out.bx.at 0 rfl 1 rfl
                  have p0_2 := HL51.out.bx.at 0 rfl 2 rfl
                  have p0_3 := HL51.out.bx.at 0 rfl 3 rfl
                  have p1_0 := HL51.out.bx.at 1 rfl 0 rfl
                  have p1_1 := HL51.out.bx.at 1 rfl 1 rfl
                  have p1_2 := HL51.out.bx.at 1 rfl 2 rfl
                  have p1_3 := HL51.out.bx.at 1 rfl 3 rfl
                  have HKa := Below.alloc (Below.refl w51.heap.size w51) (Nat.le_refl _) (.cells #[.slice A3 n3 c3, .int .i64 s3, .slice M3 m3 d3, .slice E3 k3 g3] 25)
                  have HL51n := Lib.hid (HL51.out.new [.slice A3 n3 c3, .int .i64 s3, .slice M3 m3 d3, .slice E3 k3 g3] 25)
                  have HAU2 := Lib.hid ((HAU2.out.below HKa (Nat.le_refl _)).more HKa.size)
                  have HAU := Lib.hid ((HAU.out.below HKa (Nat.le_refl _)).more HKa.size)
                  have HTc := Lib.hid ((HTc.out.below HKa (Nat.le_refl _)).more HKa.size)
                  have HAU3 := Lib.hid ((HAU3.out.below HKa (Nat.le_refl _)).more HKa.size)
                  clear HKa
                  clear p0_0 p0_1 p0_2 p0_3 p1_0 p1_1 p1_2 p1_3
                  have p0_0 := HL51n.out.bx.at 0 rfl 0 rfl
                  have p0_1 := HL51n.out.bx.at 0 rfl 1 rfl
                  have p0_2 := HL51n.out.bx.at 0 rfl 2 rfl
                  have p0_3 := HL51n.out.bx.at 0 rfl 3 rfl
                  have p1_0 := HL51n.out.bx.at 1 rfl 0 rfl
                  have p1_1 := HL51n.out.bx.at 1 rfl 1 rfl
                  have p1_2 := HL51n.out.bx.at 1 rfl 2 rfl
                  have p1_3 := HL51n.out.bx.at 1 rfl 3 rfl
                  have p2_0 := HL51n.out.bx.at 2 rfl 0 rfl
                  have p2_1 := HL51n.out.bx.at 2 rfl 1 rfl
                  have p2_2 := HL51n.out.bx.at 2 rfl 2 rfl
                  have p2_3 := HL51n.out.bx.at 2 rfl 3 rfl
                  have HLd := Lib.hid HL51n.out.drew
                  have HAUd := Lib.hid HAU.out.dr
                  have HAU2d := Lib.hid HAU2.out.dr
                  have HAU3d := Lib.hid HAU3.out.dr
                  have HTd := Lib.hid (show RdI (w51.alloc (.cells #[.slice A3 n3 c3, .int .i64 s3, .slice M3 m3 d3, .slice E3 k3 g3] 25)).drew (w51.alloc (.cells #[.slice A3 n3 c3, .int .i64 s3, .slice M3 m3 d3, .slice E3 k3 g3] 25)).drew.heap.size T tl from HTc.out)
                  have HRr := Lib.hid (fun (w' : World) (h : LW wc ((w51.heap.size, [.slice A3 n3 c3, .int .i64 s3, .slice M3 m3 d3, .slice E3 k3 g3]) :: ((w6.heap.size, [.slice A2 n2 c2, .int .i64 s2, .slice M2 m2 d2, .slice E2 k2 g2]) :: ((bc, [.slice A n c, .int .i64 s, .slice M m d, .slice E k g]) :: [(W.heap.size, [gv 0, gv 1, gv 2, gv 3, gv 4, gv 5, gv 6, gv 7, gv 8, gv 9, gv 10, gv 11, gv 12, gv 13, gv 14, gv 15, gv 16, gv 17, gv 18, gv 19, gv 20, gv 21, gv 22, gv 23, gv 24, gv 25, gv 26])]))) w') (ha : AuR w' w'.heap.size A n c s M m d E k g a) (ht : RdI w' w'.heap.size T tl) => k_rrel (lc := lc) HRW.out hs0 hs5 hll.out HOL.out.1 HOL.out.2 ha ht HTL.out h)
                  go_wp2_with fail
                  go_region_held3 (fun w' => w'.cell? ⟨w51.heap.size, 0, none⟩ = some (.slice A3 n3 c3) ∧ w'.cell? ⟨w51.heap.size, 1, none⟩ = some (.int .i64 s3) ∧ w'.cell? ⟨w51.heap.size, 2, none⟩ = some (.slice M3 m3 d3) ∧ w'.cell? ⟨w51.heap.size, 3, none⟩ = some (.slice E3 k3 g3) ∧ w'.cell? ⟨w6.heap.size, 0, none⟩ = some (.slice A2 n2 c2) ∧ w'.cell? ⟨w6.heap.size, 1, none⟩ = some (.int .i64 s2) ∧ w'.cell? ⟨w6.heap.size, 2, none⟩ = some (.slice M2 m2 d2) ∧ w'.cell? ⟨w6.heap.size, 3, none⟩ = some (.slice E2 k2 g2) ∧ w'.cell? ⟨bc, 0, none⟩ = some (.slice A n c) ∧ w'.cell? ⟨bc, 1, none⟩ = some (.int .i64 s) ∧ w'.cell? ⟨bc, 2, none⟩ = some (.slice M m d) ∧ w'.cell? ⟨bc, 3, none⟩ = some (.slice E k g)) (first | with_reducible exact ⟨p0_0, p0_1, p0_2, p0_3, p1_0, p1_1, p1_2, p1_3, p2_0, p2_1, p2_2, p2_3⟩ | go_keep)
                    (first
                     | (go_simp; go_at_call 43; refine (HRr.out _ HLd.out HAUd.out HTd.out).mono ?_; rintro e w52 ⟨A4, n4, c4, s4, M4, m4, d4, E4, k4, g4, rfl, hau4, hl⟩
                        have HL52 := Lib.hid hl.lw
                        have HAU4 := Lib.hid hau4
                        have HAUb := Lib.hid (by exact hl.aut HAUd.out : AuR w52 w52.heap.size A n c s M m d E k g a)
                        have HAU2b := Lib.hid (by exact hl.aut HAU2d.out : AuR w52 w52.heap.size A2 n2 c2 s2 M2 m2 d2 E2 k2 g2 (canA (relA a tl)))
                        have HAU3b := Lib.hid (by exact hl.aut HAU3d.out : AuR w52 w52.heap.size A3 n3 c3 s3 M3 m3 d3 E3 k3 g3 a)
                        have p0_0 := hl.lw.bx.at 0 rfl 0 rfl; have p0_1 := hl.lw.bx.at 0 rfl 1 rfl; have p0_2 := hl.lw.bx.at 0 rfl 2 rfl; have p0_3 := hl.lw.bx.at 0 rfl 3 rfl; have p1_0 := hl.lw.bx.at 1 rfl 0 rfl; have p1_1 := hl.lw.bx.at 1 rfl 1 rfl; have p1_2 := hl.lw.bx.at 1 rfl 2 rfl; have p1_3 := hl.lw.bx.at 1 rfl 3 rfl; have p2_0 := hl.lw.bx.at 2 rfl 0 rfl; have p2_1 := hl.lw.bx.at 2 rfl 1 rfl; have p2_2 := hl.lw.bx.at 2 rfl 2 rfl; have p2_3 := hl.lw.bx.at 2 rfl 3 rfl
                        clear hl hau4)
                     | (go_simp; go_at_call 30; with_reducible refine (k_rsame A4 n4 c4 s4 M4 m4 d4 E4 k4 g4 (decide_eq_true rfl) HAU2b.out HAU4.out HL52.out).mono ?_; rintro e w53 ⟨rfl, hl⟩
                        have HL53 := Lib.hid hl.lw
                        have HAU9 := Lib.hid (hl.aut HAUb.out)
                        have HAU39 := Lib.hid (hl.aut HAU3b.out)
                        have p0_0 := hl.lw.bx.at 0 rfl 0 rfl; have p0_1 := hl.lw.bx.at 0 rfl 1 rfl; have p0_2 := hl.lw.bx.at 0 rfl 2 rfl; have p0_3 := hl.lw.bx.at 0 rfl 3 rfl; have p1_0 := hl.lw.bx.at 1 rfl 0 rfl; have p1_1 := hl.lw.bx.at 1 rfl 1 rfl; have p1_2 := hl.lw.bx.at 1 rfl 2 rfl; have p1_3 := hl.lw.bx.at 1 rfl 3 rfl; have p2_0 := hl.lw.bx.at 2 rfl 0 rfl; have p2_1 := hl.lw.bx.at 2 rfl 1 rfl; have p2_2 := hl.lw.bx.at 2 rfl 2 rfl; have p2_3 := hl.lw.bx.at 2 rfl 3 rfl
                        clear hl)
                     | (go_simp; go_at_call 30; with_reducible refine (k_rsame A n c s M m d E k g (decide_eq_true rfl) HAU39.out HAU9.out HL53.out).mono ?_; rintro e w54 ⟨rfl, hl⟩
                        have HL54 := Lib.hid hl.lw
                        have p0_0 := hl.lw.bx.at 0 rfl 0 rfl; have p0_1 := hl.lw.bx.at 0 rfl 1 rfl; have p0_2 := hl.lw.bx.at 0 rfl 2 rfl; have p0_3 := hl.lw.bx.at 0 rfl 3 rfl; have p1_0 := hl.lw.bx.at 1 rfl 0 rfl; have p1_1 := hl.lw.bx.at 1 rfl 1 rfl; have p1_2 := hl.lw.bx.at 1 rfl 2 rfl; have p1_3 := hl.lw.bx.at 1 rfl 3 rfl; have p2_0 := hl.lw.bx.at 2 rfl 0 rfl; have p2_1 := hl.lw.bx.at 2 rfl 1 rfl; have p2_2 := hl.lw.bx.at 2 rfl 2 rfl; have p2_3 := hl.lw.bx.at 2 rfl 3 rfl
                        clear hl))
                  all_goals
                    go_wp2_with fail
                    go_ret
                    exact ⟨rfl, HB0.out.trans (HL54.out.bel.mono HB0.out.size)⟩
          · exact absurd HV0.out hv1
      · have HX := Lib.hid (show relR a tl = (zeroA, v) by rw [relR, if_neg (by rw [HC.out]; simp), if_neg (by rw [hll.out]; simp), if_pos (by rw [← hv]; exact hv0), ← hv])
        have hvb : (v != 0) = true := by simp [hv0]
        have hvc : (v == 0) = false := by simp [hv0]
        clear hv
        go_wp2_with fail
        refine (k_rel0 HX.out HAU.out HTc.out HTL.out hlc hlb HL5.out).mono ?_
        rintro e w6 ⟨A2, c2, M2, d2, E2, g2, rfl, hl⟩
        clear p0_0 p0_1 p0_2 p0_3
        have HL6 := Lib.hid hl.lw
        have HAU := Lib.hid (hl.aut HAU.out)
        have HTc := Lib.hid (hl.ints HTc.out)
        clear hl
        have p0_0 := HL6.out.bx.at 0 rfl 0 rfl
        have p0_1 := HL6.out.bx.at 0 rfl 1 rfl
        have p0_2 := HL6.out.bx.at 0 rfl 2 rfl
        have p0_3 := HL6.out.bx.at 0 rfl 3 rfl
        have HKa := Below.alloc (Below.refl w6.heap.size w6) (Nat.le_refl _) (.cells #[.slice A2 0 c2, .int .i64 0, .slice M2 0 d2, .slice E2 0 g2] 25)
        have HL6n := Lib.hid (HL6.out.new [.slice A2 0 c2, .int .i64 0, .slice M2 0 d2, .slice E2 0 g2] 25)
        have HAU := Lib.hid ((HAU.out.below HKa (Nat.le_refl _)).more HKa.size)
        have HTc := Lib.hid ((HTc.out.below HKa (Nat.le_refl _)).more HKa.size)
        clear HKa
        clear p0_0 p0_1 p0_2 p0_3
        have p0_0 := HL6n.out.bx.at 0 rfl 0 rfl
        have p0_1 := HL6n.out.bx.at 0 rfl 1 rfl
        have p0_2 := HL6n.out.bx.at 0 rfl 2 rfl
        have p0_3 := HL6n.out.bx.at 0 rfl 3 rfl
        have p1_0 := HL6n.out.bx.at 1 rfl 0 rfl
        have p1_1 := HL6n.out.bx.at 1 rfl 1 rfl
        have p1_2 := HL6n.out.bx.at 1 rfl 2 rfl
        have p1_3 := HL6n.out.bx.at 1 rfl 3 rfl
        go_wp2_with fail
        go_loopw [10, 11] (fun wv i wr => ∃ (t : Nat) (u : Int), t ≤ l ∧ i = .int .i64 t ∧ wv = .int .i64 u ∧ Hid ((u = 0 ∧ neGo (tl.take t) (tl.drop t) = v) ∨ (u = v ∧ v ≠ 0)) ∧ Hid (LW wc ((w6.heap.size, [.slice A2 0 c2, .int .i64 0, .slice M2 0 d2, .slice E2 0 g2]) :: ((bc, [.slice A n c, .int .i64 s, .slice M m d, .slice E k g]) :: [(W.heap.size, [gv 0, gv 1, gv 2, gv 3, gv 4, gv 5, gv 6, gv 7, gv 8, gv 9, gv 10, gv 11, gv 12, gv 13, gv 14, gv 15, gv 16, gv 17, gv 18, gv 19, gv 20, gv 21, gv 22, gv 23, gv 24, gv 25, gv 26])])) wr)) (fun _ i _ => l - (intOf i).toNat)
        case atStart => exact ⟨0, 0, Nat.zero_le _, rfl, rfl, Lib.hid (.inl ⟨rfl, by rw [HV.out]; rfl⟩), HL6n⟩
        case round =>
          obtain ⟨t, u, htl0, rfl, rfl, hu, HL40⟩ := hrel
          rcases hu.out with ⟨rfl, hg⟩ | ⟨rfl, hv1⟩
          · have HG := Lib.hid hg
            clear hu hg
            by_cases htl : t < l
            · obtain ⟨b1, o1, rfl, hb1, hc1⟩ := HTD.out (by rw [HTL.out]; omega)
              have hz1 : t < tl.length := by rw [HTL.out]; exact htl
              obtain ⟨ev, hev⟩ : ∃ ev, ev = tl.getD t 0 := ⟨_, rfl⟩
              have CE := Lib.hid (fun W' (hW : Below wc.heap.size wc W') => by
                have := ((HB0.out.trans (hW.mono HB0.out.size)).cell (p := ⟨b1, o1 + t, none⟩) hb1).trans (hc1 t hz1)
                rw [← hev] at this; exact this)
              have ce := CE.out wr HL40.out.bel
              have z1 : (t : Int) < (l : Int) := by omega
              have z2 : (0 : Int) ≤ (t : Int) := by omega
              have z3 : (t : Int) ≤ (l : Int) := by omega
              have z4 : (t : Int) ≤ (lc : Int) := by omega
              have HEVV := Lib.hid hev
              clear hc1 hev
              by_cases hx0 : ev < 0
              · have hR := Lib.hid (ne_range hz1 HG.out (by rw [← HEVV.out]; exact .inl hx0))
                go_wp2_with fail
                go_roundw
                case rel => exact ⟨t + 1, 2, by omega, by go_num, rfl, Lib.hid (.inr ⟨hR.out.symm, by rw [hR.out]; simp⟩), HL40⟩
                case measure => simp [intOf]; omega
              · have hx1 : 0 ≤ ev := by omega
                by_cases hx2 : 32 ≤ ev
                · have hR := Lib.hid (ne_range hz1 HG.out (by rw [← HEVV.out]; exact .inr hx2))
                  go_wp2_with fail
                  go_roundw
                  case rel => exact ⟨t + 1, 2, by omega, by go_num, rfl, Lib.hid (.inr ⟨hR.out.symm, by rw [hR.out]; simp⟩), HL40⟩
                  case measure => simp [intOf]; omega
                · have hx3 : ev < 32 := by omega
                  have hnr := Lib.hid (show ¬ (tl.getD t 0 < 0 ∨ 32 ≤ tl.getD t 0) by rw [← HEVV.out]; omega)
                  have HTt := Lib.hid (show RdI wr wr.heap.size (some ⟨b1, o1, none⟩) (tl.take t) from rd_take (HL40.out.ints HTw.out) t)
                  have HTd := Lib.hid (show RdI wr.drew wr.drew.heap.size (some ⟨b1, o1, none⟩) (tl.take t) from HTt.out)
                  have htk : (tl.take t).length = t := by rw [List.length_take]; omega
                  have HTK := Lib.hid htk
                  clear htk
                  cases hme : decide (ev ∈ tl.take t)
                  · have hH := Lib.hid hme
                    have hR := Lib.hid (ne_next hz1 HG.out hnr.out (by rw [← HEVV.out]; simpa using hme))
                    clear hme
                    go_wp2_with fail
                    go_region_held3 (fun w' => w'.cell? ⟨b1, o1 + t, none⟩ = some (.int .i64 ev)) (first | with_reducible exact ce | go_keep)
                      (first | (go_simp; go_at_call 36; (first | refine (k_has (w := wr.drew) hH.out HTd.out HTK.out (by omega) HL40.out.drew).mono ?_ | refine (k_has (w := wr) hH.out HTt.out HTK.out (by omega) HL40.out).mono ?_); rintro e w41 ⟨rfl, hl⟩
                                have HL41 := Lib.hid hl.lw
                                have HL41d := Lib.hid hl.lw.drew
                                have ce := CE.out _ hl.lw.bel
                                clear hl))
                    all_goals
                      go_wp2_with fail
                      go_roundw
                      case rel => exact ⟨t + 1, 0, by omega, by go_num, rfl, Lib.hid (.inl ⟨rfl, hR.out⟩), by first | exact HL41 | exact HL41d⟩
                      case measure => simp [intOf]; omega
                  · have hH := Lib.hid hme
                    have hR := Lib.hid (ne_dup hz1 HG.out hnr.out (by rw [← HEVV.out]; simpa using hme))
                    clear hme
                    go_wp2_with fail
                    go_region_held3 (fun w' => w'.cell? ⟨b1, o1 + t, none⟩ = some (.int .i64 ev)) (first | with_reducible exact ce | go_keep)
                      (first | (go_simp; go_at_call 36; (first | refine (k_has (w := wr.drew) hH.out HTd.out HTK.out (by omega) HL40.out.drew).mono ?_ | refine (k_has (w := wr) hH.out HTt.out HTK.out (by omega) HL40.out).mono ?_); rintro e w41 ⟨rfl, hl⟩
                                have HL41 := Lib.hid hl.lw
                                have HL41d := Lib.hid hl.lw.drew
                                have ce := CE.out _ hl.lw.bel
                                clear hl))
                    all_goals
                      go_wp2_with fail
                      go_roundw
                      case rel => exact ⟨t + 1, 8, by omega, by go_num, rfl, Lib.hid (.inr ⟨hR.out.symm, by rw [hR.out]; simp⟩), by first | exact HL41 | exact HL41d⟩
                      case measure => simp [intOf]; omega
            · exact absurd HG.out (by rw [List.drop_of_length_le (by rw [HTL.out]; omega), neGo]; exact fun e => hv0 e.symm)
          · clear hu
            by_cases htl : t < l
            · have z1 : (t : Int) < (l : Int) := by omega
              have e7 : (u == u) = true := by simp
              have p0_0 := HL40.out.bx.at 0 rfl 0 rfl
              have p0_1 := HL40.out.bx.at 0 rfl 1 rfl
              have p0_2 := HL40.out.bx.at 0 rfl 2 rfl
              have p0_3 := HL40.out.bx.at 0 rfl 3 rfl
              have p1_0 := HL40.out.bx.at 1 rfl 0 rfl
              have p1_1 := HL40.out.bx.at 1 rfl 1 rfl
              have p1_2 := HL40.out.bx.at 1 rfl 2 rfl
              have p1_3 := HL40.out.bx.at 1 rfl 3 rfl
              go_wp2_with fail
              refine (k_none HL40.out).mono ?_
              rintro e w41 ⟨rfl, hl⟩
              clear p0_0 p0_1 p0_2 p0_3 p1_0 p1_1 p1_2 p1_3
              have HL41 := Lib.hid hl.lw
              clear hl
              have p0_0 := HL41.out.bx.at 0 rfl 0 rfl
              have p0_1 := HL41.out.bx.at 0 rfl 1 rfl
              have p0_2 := HL41.out.bx.at 0 rfl 2 rfl
              have p0_3 := HL41.out.bx.at 0 rfl 3 rfl
              have p1_0 := HL41.out.bx.at 1 rfl 0 rfl
              have p1_1 := HL41.out.bx.at 1 rfl 1 rfl
              have p1_2 := HL41.out.bx.at 1 rfl 2 rfl
              have p1_3 := HL41.out.bx.at 1 rfl 3 rfl
              go_wp2_with fail
              go_ret
              exact ⟨rfl, HB0.out.trans (HL41.out.bel.mono HB0.out.size)⟩
            · have z1 : (l : Int) ≤ (t : Int) := by omega
              have e7 : (u == u) = true := by simp
              have p0_0 := HL40.out.bx.at 0 rfl 0 rfl
              have p0_1 := HL40.out.bx.at 0 rfl 1 rfl
              have p0_2 := HL40.out.bx.at 0 rfl 2 rfl
              have p0_3 := HL40.out.bx.at 0 rfl 3 rfl
              have p1_0 := HL40.out.bx.at 1 rfl 0 rfl
              have p1_1 := HL40.out.bx.at 1 rfl 1 rfl
              have p1_2 := HL40.out.bx.at 1 rfl 2 rfl
              have p1_3 := HL40.out.bx.at 1 rfl 3 rfl
              go_wp2_with fail
              refine (k_none HL40.out).mono ?_
              rintro e w41 ⟨rfl, hl⟩
              clear p0_0 p0_1 p0_2 p0_3 p1_0 p1_1 p1_2 p1_3
              have HL41 := Lib.hid hl.lw
              clear hl
              have p0_0 := HL41.out.bx.at 0 rfl 0 rfl
              have p0_1 := HL41.out.bx.at 0 rfl 1 rfl
              have p0_2 := HL41.out.bx.at 0 rfl 2 rfl
              have p0_3 := HL41.out.bx.at 0 rfl 3 rfl
              have p1_0 := HL41.out.bx.at 1 rfl 0 rfl
              have p1_1 := HL41.out.bx.at 1 rfl 1 rfl
              have p1_2 := HL41.out.bx.at 1 rfl 2 rfl
              have p1_3 := HL41.out.bx.at 1 rfl 3 rfl
              go_wp2_with fail
              go_ret
              exact ⟨rfl, HB0.out.trans (HL41.out.bel.mono HB0.out.size)⟩
    · have hne : ((l : Int) != (n : Int)) = true := by simp; omega
      have HX := Lib.hid (show relR a tl = (zeroA, 4) by rw [relR, if_neg (by rw [HC.out]; simp), if_pos (by rw [HTL.out, HAL.out]; exact hln)])
      go_wp2_with fail
      refine (k_rel0 HX.out HAU.out HTc.out HTL.out hlc hlb HL5.out).mono ?_
      rintro e w6 ⟨A2, c2, M2, d2, E2, g2, rfl, hl⟩
      clear p0_0 p0_1 p0_2 p0_3
      have HL6 := Lib.hid hl.lw
      have HAU := Lib.hid (hl.aut HAU.out)
      have HTc := Lib.hid (hl.ints HTc.out)
      clear hl
      have p0_0 := HL6.out.bx.at 0 rfl 0 rfl
      have p0_1 := HL6.out.bx.at 0 rfl 1 rfl
      have p0_2 := HL6.out.bx.at 0 rfl 2 rfl
      have p0_3 := HL6.out.bx.at 0 rfl 3 rfl
      have HKa := Below.alloc (Below.refl w6.heap.size w6) (Nat.le_refl _) (.cells #[.slice A2 0 c2, .int .i64 0, .slice M2 0 d2, .slice E2 0 g2] 25)
      have HL6n := Lib.hid (HL6.out.new [.slice A2 0 c2, .int .i64 0, .slice M2 0 d2, .slice E2 0 g2] 25)
      have HAU := Lib.hid ((HAU.out.below HKa (Nat.le_refl _)).more HKa.size)
      have HTc := Lib.hid ((HTc.out.below HKa (Nat.le_refl _)).more HKa.size)
      clear HKa
      clear p0_0 p0_1 p0_2 p0_3
      have p0_0 := HL6n.out.bx.at 0 rfl 0 rfl
      have p0_1 := HL6n.out.bx.at 0 rfl 1 rfl
      have p0_2 := HL6n.out.bx.at 0 rfl 2 rfl
      have p0_3 := HL6n.out.bx.at 0 rfl 3 rfl
      have p1_0 := HL6n.out.bx.at 1 rfl 0 rfl
      have p1_1 := HL6n.out.bx.at 1 rfl 1 rfl
      have p1_2 := HL6n.out.bx.at 1 rfl 2 rfl
      have p1_3 := HL6n.out.bx.at 1 rfl 3 rfl
      by_cases hl0 : 0 < l
      · have hl1 : (0 : Int) < (l : Int) := by omega
        go_wp2_with fail
        go_loopw [10, 11] (fun wv i wr => i = .int .i64 0 ∧ wv = .int .i64 4 ∧ Hid (LW wc ((w6.heap.size, [.slice A2 0 c2, .int .i64 0, .slice M2 0 d2, .slice E2 0 g2]) :: ((bc, [.slice A n c, .int .i64 s, .slice M m d, .slice E k g]) :: [(W.heap.size, [gv 0, gv 1, gv 2, gv 3, gv 4, gv 5, gv 6, gv 7, gv 8, gv 9, gv 10, gv 11, gv 12, gv 13, gv 14, gv 15, gv 16, gv 17, gv 18, gv 19, gv 20, gv 21, gv 22, gv 23, gv 24, gv 25, gv 26])])) wr)) (fun _ _ _ => 0)
        case atStart => exact ⟨rfl, rfl, HL6n⟩
        case round =>
          obtain ⟨rfl, rfl, HL40⟩ := hrel
          have e7 : ((4 : Int) == (4 : Int)) = true := by simp
          have p0_0 := HL40.out.bx.at 0 rfl 0 rfl
          have p0_1 := HL40.out.bx.at 0 rfl 1 rfl
          have p0_2 := HL40.out.bx.at 0 rfl 2 rfl
          have p0_3 := HL40.out.bx.at 0 rfl 3 rfl
          have p1_0 := HL40.out.bx.at 1 rfl 0 rfl
          have p1_1 := HL40.out.bx.at 1 rfl 1 rfl
          have p1_2 := HL40.out.bx.at 1 rfl 2 rfl
          have p1_3 := HL40.out.bx.at 1 rfl 3 rfl
          go_wp2_with fail
          refine (k_none HL40.out).mono ?_
          rintro e w41 ⟨rfl, hl⟩
          clear p0_0 p0_1 p0_2 p0_3 p1_0 p1_1 p1_2 p1_3
          have HL41 := Lib.hid hl.lw
          clear hl
          have p0_0 := HL41.out.bx.at 0 rfl 0 rfl
          have p0_1 := HL41.out.bx.at 0 rfl 1 rfl
          have p0_2 := HL41.out.bx.at 0 rfl 2 rfl
          have p0_3 := HL41.out.bx.at 0 rfl 3 rfl
          have p1_0 := HL41.out.bx.at 1 rfl 0 rfl
          have p1_1 := HL41.out.bx.at 1 rfl 1 rfl
          have p1_2 := HL41.out.bx.at 1 rfl 2 rfl
          have p1_3 := HL41.out.bx.at 1 rfl 3 rfl
          go_wp2_with fail
          go_ret
          exact ⟨rfl, HB0.out.trans (HL41.out.bel.mono HB0.out.size)⟩
      · have hl1 : (l : Int) ≤ 0 := by omega
        go_wp2_with fail
        go_loopw [10, 11] (fun wv i wr => i = .int .i64 0 ∧ wv = .int .i64 4 ∧ Hid (LW wc ((w6.heap.size, [.slice A2 0 c2, .int .i64 0, .slice M2 0 d2, .slice E2 0 g2]) :: ((bc, [.slice A n c, .int .i64 s, .slice M m d, .slice E k g]) :: [(W.heap.size, [gv 0, gv 1, gv 2, gv 3, gv 4, gv 5, gv 6, gv 7, gv 8, gv 9, gv 10, gv 11, gv 12, gv 13, gv 14, gv 15, gv 16, gv 17, gv 18, gv 19, gv 20, gv 21, gv 22, gv 23, gv 24, gv 25, gv 26])])) wr)) (fun _ _ _ => 0)
        case atStart => exact ⟨rfl, rfl, HL6n⟩
        case round =>
          obtain ⟨rfl, rfl, HL40⟩ := hrel
          have e7 : ((4 : Int) == (4 : Int)) = true := by simp
          have p0_0 := HL40.out.bx.at 0 rfl 0 rfl
          have p0_1 := HL40.out.bx.at 0 rfl 1 rfl
          have p0_2 := HL40.out.bx.at 0 rfl 2 rfl
          have p0_3 := HL40.out.bx.at 0 rfl 3 rfl
          have p1_0 := HL40.out.bx.at 1 rfl 0 rfl
          have p1_1 := HL40.out.bx.at 1 rfl 1 rfl
          have p1_2 := HL40.out.bx.at 1 rfl 2 rfl
          have p1_3 := HL40.out.bx.at 1 rfl 3 rfl
          go_wp2_with fail
          refine (k_none HL40.out).mono ?_
          rintro e w41 ⟨rfl, hl⟩
          clear p0_0 p0_1 p0_2 p0_3 p1_0 p1_1 p1_2 p1_3
          have HL41 := Lib.hid hl.lw
          clear hl
          have p0_0 := HL41.out.bx.at 0 rfl 0 rfl
          have p0_1 := HL41.out.bx.at 0 rfl 1 rfl
          have p0_2 := HL41.out.bx.at 0 rfl 2 rfl
          have p0_3 := HL41.out.bx.at 0 rfl 3 rfl
          have p1_0 := HL41.out.bx.at 1 rfl 0 rfl
          have p1_1 := HL41.out.bx.at 1 rfl 1 rfl
          have p1_2 := HL41.out.bx.at 1 rfl 2 rfl
          have p1_3 := HL41.out.bx.at 1 rfl 3 rfl
          go_wp2_with fail
          go_ret
          exact ⟨rfl, HB0.out.trans (HL41.out.bel.mono HB0.out.size)⟩
end Go.Proofs.Ytcciiikaejjooaa
