/- Layer 7, the reference: Inverse. -/
import Derived.Test.YtmghngehpgolgaaGreatZa14
import Derived.Test.YtmghngehpgolgaaGreatZa16
import Derived.Test.YtmghngehpgolgaaGreatZa15
import Derived.Deep.RegionHeld3
set_option linter.unusedVariables false
set_option linter.unusedSimpArgs false
set_option linter.unusedSectionVars false
namespace Go.Proofs.YtmghngehpgolgaaGreat
open Go.RowKit Go.Sort

/-- The events of both alphabets below n. -/
def ivK (a : Au) (al2 : List Int) (n : Nat) : List Int := (rng n).filter fun x => decide (x ∈ a.al) || decide (x ∈ al2)
theorem ivK_yes {a : Au} {al2 : List Int} {t : Nat} (h : (decide ((t : Int) ∈ a.al) || decide ((t : Int) ∈ al2)) = true) : ivK a al2 (t + 1) = ivK a al2 t ++ [(t : Int)] := by
  unfold ivK; rw [rng_succ, List.filter_append]; congr 1; simp only [List.filter_cons, h, if_true, List.filter_nil]
theorem ivK_no {a : Au} {al2 : List Int} {t : Nat} (h : (decide ((t : Int) ∈ a.al) || decide ((t : Int) ∈ al2)) = false) : ivK a al2 (t + 1) = ivK a al2 t := by
  unfold ivK; rw [rng_succ, List.filter_append]; simp only [List.filter_cons, h, Bool.false_eq_true, if_false, List.filter_nil, List.append_nil]
theorem ivK_len (a : Au) (al2 : List Int) (t : Nat) : (ivK a al2 t).length ≤ t := by
  unfold ivK; exact Nat.le_trans (List.length_filter_le _ _) (by rw [rng_len]; exact Nat.le_refl _)
/-- A step of the inverse projection. -/
def ivO (a : Au) (q e : Int) : Option Int := if e ∈ a.al then stepO a q e else some q
def ivT (a : Au) (zs : List Int) (q : Int) (t : Nat) : List Ed := (zs.take t).filterMap fun e => (ivO a q e).map fun u => ⟨q, e, u⟩
theorem ivT_zero (a : Au) (zs : List Int) (q : Int) : ivT a zs q 0 = [] := by simp [ivT]
theorem ivT_some {a : Au} {zs : List Int} {q u : Int} {t : Nat} (ht : t < zs.length) (h : ivO a q (zs.getD t 0) = some u) : ivT a zs q (t + 1) = ivT a zs q t ++ [⟨q, zs.getD t 0, u⟩] := by
  unfold ivT
  rw [List.take_succ_eq_append_getElem ht, List.filterMap_append]
  have e : zs[t] = zs.getD t 0 := by simp [List.getD, List.getElem?_eq_getElem ht]
  rw [e, List.filterMap_cons, h]; rfl
theorem ivT_none {a : Au} {zs : List Int} {q : Int} {t : Nat} (ht : t < zs.length) (h : ivO a q (zs.getD t 0) = none) : ivT a zs q (t + 1) = ivT a zs q t := by
  unfold ivT
  rw [List.take_succ_eq_append_getElem ht, List.filterMap_append]
  have e : zs[t] = zs.getD t 0 := by simp [List.getD, List.getElem?_eq_getElem ht]
  rw [e, List.filterMap_cons, h]; simp
theorem ivT_len (a : Au) (zs : List Int) (q : Int) (t : Nat) : (ivT a zs q t).length ≤ t := by
  unfold ivT; exact Nat.le_trans (List.length_filterMap_le _ _) (List.length_take_le _ _)
def ivS (a : Au) (zs : List Int) (n : Nat) : List Ed := (List.range n).flatMap fun q : Nat => ivT a zs (q : Int) zs.length
theorem ivS_succ (a : Au) (zs : List Int) (n : Nat) : ivS a zs (n + 1) = ivS a zs n ++ ivT a zs (n : Int) zs.length := by
  unfold ivS; rw [List.range_succ, List.flatMap_append]; simp
theorem ivS_len (a : Au) (zs : List Int) : ∀ n, (ivS a zs n).length ≤ n * zs.length
  | 0 => by simp [ivS]
  | n + 1 => by
    have h := ivT_len a zs (n : Int) zs.length
    rw [ivS_succ, List.length_append, Nat.add_mul, Nat.one_mul]
    have := ivS_len a zs n
    omega
theorem iv_eq {a : Au} (h : RightW a) (al2 : List Int) : (⟨ivK a al2 32, a.st, a.mr, ivS a (ivK a al2 32) a.st.toNat⟩ : Au) = invA a al2 := by
  have hst := h.st0
  have e1 : ivK a al2 32 = (invA a al2).al := rfl
  have e2 : a.st = (invA a al2).st := (inv_st h al2).symm
  have e3 : a.mr = (invA a al2).mr := pw_ext (r := fun x y : Int => x < y) (fun x => Int.lt_irrefl x) (fun x y h => by omega) _ _ h.mro (inv_right h al2).mro fun x => by
    show x ∈ a.mr ↔ x ∈ ((List.range a.st.toNat).filter fun (y : Nat) => decide ((y : Int) ∈ a.mr)).map fun (y : Nat) => (y : Int)
    rw [List.mem_map]
    constructor
    · intro hx
      have := h.mrr x hx
      refine ⟨x.toNat, List.mem_filter.2 ⟨List.mem_range.2 (by omega), ?_⟩, by omega⟩
      rw [show ((x.toNat : Nat) : Int) = x by omega]
      exact decide_eq_true hx
    · rintro ⟨y, hy, rfl⟩
      simpa using (List.mem_filter.1 hy).2
  have e4 : ivS a (ivK a al2 32) a.st.toNat = (invA a al2).ed := by
    unfold ivS ivT
    rw [List.take_length]
    rfl
  rw [e4]
  conv => lhs; rw [e2, e3, e1]
set_option maxHeartbeats 8000000 in
set_option maxRecDepth 100000 in
theorem r7Inverse_any (A : Option Addr) (n c : Nat) (s : Int) (M : Option Addr) (m d : Nat) (E : Option Addr) (k g : Nat) (a : Au) (T : Option Addr) (l lc : Nat) (al2 : List Int) (B : Nat) (w : World) (h : AuR w B A n c s M m d E k g a) (ht : RdI w B T al2) (hl : al2.length = l) (hlb : l ≤ 100000) (hB : B ≤ w.heap.size) (hr : RightW a) (S : Nat) (hS : s = (S : Int)) (hS5 : S ≤ 100) :
    Calls Tryz.prog 30 #[.agg #[.slice A n c, .int .i64 s, .slice M m d, .slice E k g], .slice T l lc] w fun e w' => ∃ v, e = .returned v ∧ AuF (canA (invA a al2)) v w' w.heap.size ∧ Below w.heap.size w w' := by
  subst hS
  have HB1 := Lib.hid (((Below.refl w.heap.size w).alloc (Nat.le_refl _) (.cells #[.slice A n c, .int .i64 (S : Int), .slice M m d, .slice E k g] 33)).alloc (by simp) (.cells #[.slice none 0 0, .int .i64 0, .slice none 0 0, .slice none 0 0] 33))
  have hA := Lib.hid ((Row.new w [.slice A n c, .int .i64 (S : Int), .slice M m d, .slice E k g] 33).alloc (.cells #[.slice none 0 0, .int .i64 0, .slice none 0 0, .slice none 0 0] 33))
  have hRes := Lib.hid (show Row ((w.alloc (.cells #[.slice A n c, .int .i64 (S : Int), .slice M m d, .slice E k g] 33)).alloc (.cells #[.slice none 0 0, .int .i64 0, .slice none 0 0, .slice none 0 0] 33)) (w.heap.size + 1) 33 [.slice none 0 0, .int .i64 0, .slice none 0 0, .slice none 0 0] by
    have := Row.new (w.alloc (.cells #[.slice A n c, .int .i64 (S : Int), .slice M m d, .slice E k g] 33)) [.slice none 0 0, .int .i64 0, .slice none 0 0, .slice none 0 0] 33
    simpa using this)
  have HR := Lib.hid h
  have HRI := Lib.hid hr
  have HBw := Lib.hid hB
  have HT := Lib.hid ht
  have HL := Lib.hid hl
  have HST := Lib.hid h.st
  have hbn := h.bn
  have hbm := h.bm
  have hnc := h.cn
  have hmc := h.cm
  obtain ⟨iI, iI0, iI1, iI2, iI3⟩ := info_parts info_int
  obtain ⟨iE, iE0, iE1, iE2, iE3⟩ := info_parts info_edge
  have p1 := hA.out.cell 1 rfl
  have p2 := hA.out.cell 2 rfl
  have hzz := Lib.hid (show ((w.alloc (.cells #[.slice A n c, .int .i64 (S : Int), .slice M m d, .slice E k g] 33)).alloc (.cells #[.slice none 0 0, .int .i64 0, .slice none 0 0, .slice none 0 0] 33)).heap.size = w.heap.size + 2 by simp)
  clear h hr hB ht hl
  go_enter Tryz.func30, Tryz.ntmps30
  go_wp2_with fail
  obtain ⟨w1, hw1⟩ : ∃ w1, w1 = (w.alloc (.cells #[.slice A n c, .int .i64 (S : Int), .slice M m d, .slice E k g] 33)).alloc (.cells #[.slice none 0 0, .int .i64 0, .slice none 0 0, .slice none 0 0] 33) := ⟨_, rfl⟩
  rw [← hw1] at HB1 hA hRes hzz ⊢
  rw [show w.heap.size + 2 = w1.heap.size from hzz.out.symm]
  clear p1 p2 hw1
  have hba0 := Lib.hid (show Ba w1 w1.heap.size w1.heap.size (S : Int) (.slice M m d) (w1.alloc (.cells #[.slice none 0 0, .int .i64 (S : Int), .slice M m d, .slice none 0 0] 33)) (ivK a al2 0) (.slice none 0 0) [] (.slice none 0 0) from
    ⟨(Below.refl _ _).alloc (Nat.le_refl _) _, Row.new w1 [.slice none 0 0, .int .i64 (S : Int), .slice M m d, .slice none 0 0] 33, World.ownsRow_nil _ _ _ _, World.ownsRow_nil _ _ _ _, Nat.le_refl _⟩)
  have CB := Lib.hid (fun W (hW : Below w1.heap.size w1 W) => box_row A n c (S : Int) M m d E k g (hA.out.below hW hA.out.lt))
  go_loopw [6] (fun i wr => ∃ (t : Nat) (va : Value), t ≤ 32 ∧ i = .int .i64 t ∧ Hid (Ba w1 w1.heap.size w1.heap.size (S : Int) (.slice M m d) wr (ivK a al2 t) va [] (.slice none 0 0))) (fun i _ => 32 - (intOf i).toNat)
  case atStart => exact ⟨0, _, Nat.zero_le _, rfl, hba0⟩
  case round =>
    clear hba0
    obtain ⟨t, va, ht32, rfl, hba⟩ := hrel
    obtain ⟨p0, p1, p2, p3⟩ := CB.out _ hba.out.bel
    have hsz := hba.out.h2
    have hal := ivK_len a al2 t
    by_cases hlt : t < 32
    · have z1 : (t : Int) < 32 := by omega
      obtain ⟨r1, hr1⟩ : ∃ r, r = decide ((t : Int) ∈ a.al) := ⟨_, rfl⟩
      obtain ⟨r2, hr2⟩ : ∃ r, r = decide ((t : Int) ∈ al2) := ⟨_, rfl⟩
      have HM1 := Lib.hid (r7Has_any A n c B a.al (t : Int) wr (HR.out.al.below (HB1.out.trans (hba.out.bel.mono HB1.out.size)) HBw.out) HR.out.hn (by omega))
      have HM2 := Lib.hid (r7Has_any T l lc B al2 (t : Int) wr (HT.out.below (HB1.out.trans (hba.out.bel.mono HB1.out.size)) HBw.out) HL.out (by omega))
      have hno := Lib.hid (fun h => ivK_no (a := a) (al2 := al2) (t := t) h)
      have hyes := Lib.hid (fun h => ivK_yes (a := a) (al2 := al2) (t := t) h)
      rw [← hr1, ← hr2] at hno hyes
      rw [← hr1] at HM1
      rw [← hr2] at HM2
      clear hr1 hr2
      cases r1
      · cases r2
        · have hn := Lib.hid (hno.out rfl)
          clear hno hyes
          go_wp2_with fail
          with_reducible refine HM1.out.mono ?_
          rintro e w' ⟨rfl, rfl⟩
          go_wp2_with fail
          with_reducible refine HM2.out.mono ?_
          rintro e w' ⟨rfl, rfl⟩
          go_wp2_with fail
          go_roundw
          case rel => exact ⟨t + 1, _, by omega, by go_num, by rw [hn.out]; exact hba⟩
          case measure => simp [intOf]; omega
        · have hy := Lib.hid (hyes.out rfl)
          clear hno hyes
          go_wp2_with fail
          with_reducible refine HM1.out.mono ?_
          rintro e w' ⟨rfl, rfl⟩
          go_wp2_with fail
          with_reducible refine HM2.out.mono ?_
          rintro e w' ⟨rfl, rfl⟩
          obtain ⟨K0, hK0⟩ : ∃ K0, K0 = ivK a al2 t := ⟨_, rfl⟩
          obtain ⟨l0, hl0⟩ : ∃ l0, l0 = K0.length := ⟨_, rfl⟩
          rw [← hK0] at hba hy hal
          rw [← hl0] at hal
          have HL0 := Lib.hid hl0
          have a0 := hba.out.cb.cell 0 rfl
          have f0 := hba.out.cb.frozen 0
          have hao := Lib.hid (show wr.ownsRow w1.heap.size 3 1 va l0 (K0.map (Value.int .i64)) by have := hba.out.ao; unfold Own at this; rwa [← hl0] at this)
          clear hK0 hl0
          go_wp2_with (at_builtin; refine wpList_append_own _ rfl _ _ 27 rfl w1.heap.size 3 iI (.int .i64 0) 1 8 Tryz.underlying27 iI0 iI1 iI2 iI3 rfl (by decide) _ _ _ rfl (hao.out.alloc _) ⟨wr.heap.size, 0, none⟩ 1 1 [.int .i64 (t : Int)] rfl rfl (news_one (by simp)) (by intro u hu; simp at hu; subst hu; rfl) (by unfold maxLen; omega) (by omega) (by simp; omega) ?_)
          intro v5 w5 hown5 hgrow5 _
          obtain ⟨A5, c5, rfl, ho5⟩ := int_app HL0.out hown5
          have hb5 := hba.out.alloc (.cells #[.int .i64 (t : Int)] 3)
          have hcb5 := Lib.hid (hb5.cb.grown hgrow5 (fun e => hb5.neA e.symm))
          have hba5 := Lib.hid (Ba.event hb5 hgrow5 ho5)
          rw [← hy.out] at hba5
          have a0 := hcb5.out.cell 0 rfl
          have f0 := hcb5.out.frozen 0
          clear hown5 hgrow5 ho5 hb5
          go_wp2_with fail
          go_roundw
          case rel => exact ⟨t + 1, _, by omega, by go_num, hba5⟩
          case measure => simp [intOf]; omega
      · have hy := Lib.hid (hyes.out (by cases r2 <;> rfl))
        clear hno hyes
        go_wp2_with fail
        with_reducible refine HM1.out.mono ?_
        rintro e w' ⟨rfl, rfl⟩
        obtain ⟨K0, hK0⟩ : ∃ K0, K0 = ivK a al2 t := ⟨_, rfl⟩
        obtain ⟨l0, hl0⟩ : ∃ l0, l0 = K0.length := ⟨_, rfl⟩
        rw [← hK0] at hba hy hal
        rw [← hl0] at hal
        have HL0 := Lib.hid hl0
        have a0 := hba.out.cb.cell 0 rfl
        have f0 := hba.out.cb.frozen 0
        have hao := Lib.hid (show wr.ownsRow w1.heap.size 3 1 va l0 (K0.map (Value.int .i64)) by have := hba.out.ao; unfold Own at this; rwa [← hl0] at this)
        clear hK0 hl0
        go_wp2_with (at_builtin; refine wpList_append_own _ rfl _ _ 27 rfl w1.heap.size 3 iI (.int .i64 0) 1 8 Tryz.underlying27 iI0 iI1 iI2 iI3 rfl (by decide) _ _ _ rfl (hao.out.alloc _) ⟨wr.heap.size, 0, none⟩ 1 1 [.int .i64 (t : Int)] rfl rfl (news_one (by simp)) (by intro u hu; simp at hu; subst hu; rfl) (by unfold maxLen; omega) (by omega) (by simp; omega) ?_)
        intro v5 w5 hown5 hgrow5 _
        obtain ⟨A5, c5, rfl, ho5⟩ := int_app HL0.out hown5
        have hb5 := hba.out.alloc (.cells #[.int .i64 (t : Int)] 3)
        have hcb5 := Lib.hid (hb5.cb.grown hgrow5 (fun e => hb5.neA e.symm))
        have hba5 := Lib.hid (Ba.event hb5 hgrow5 ho5)
        rw [← hy.out] at hba5
        have a0 := hcb5.out.cell 0 rfl
        have f0 := hcb5.out.frozen 0
        clear hown5 hgrow5 ho5 hb5
        go_wp2_with fail
        go_roundw
        case rel => exact ⟨t + 1, _, by omega, by go_num, hba5⟩
        case measure => simp [intOf]; omega
    · obtain rfl : t = 32 := by omega
      obtain ⟨zs, hzs⟩ : ∃ zs, zs = ivK a al2 32 := ⟨_, rfl⟩
      rw [← hzs] at hba hal
      have HZS := Lib.hid hzs
      obtain ⟨nz, hnz⟩ : ∃ nz, zs.length = nz := ⟨_, rfl⟩
      have HNZ := Lib.hid hnz
      have hn32 : nz ≤ 32 := by omega
      obtain ⟨A2, c2, rfl, hA1, hA2, hA3⟩ := own_rdc hba.out.ao
      rw [hnz] at hA2 hba
      have hba1 := Lib.hid (show Ba w1 w1.heap.size w1.heap.size (S : Int) (.slice M m d) wr zs (.slice A2 nz c2) (ivS a zs 0) (.slice none 0 0) from hba.out)
      clear hba hA1 hzs hnz hal p0 p1 p2 p3
      go_wp2_with fail
      go_loopw [7] (fun i wr => ∃ (j : Nat) (ve : Value), j ≤ S ∧ i = .int .i64 j ∧ Hid (Ba w1 w1.heap.size w1.heap.size (S : Int) (.slice M m d) wr zs (.slice A2 nz c2) (ivS a zs j) ve)) (fun i _ => S - (intOf i).toNat)
      case atStart => exact ⟨0, _, Nat.zero_le _, rfl, hba1⟩
      case round =>
        clear hba1
        obtain ⟨j, ve, hjS, rfl, hba⟩ := hrel
        have hlA := hA.out.lt
        obtain ⟨p0, p1, p2, p3⟩ := CB.out _ hba.out.bel
        by_cases hjl : j < S
        · have y1 : (j : Int) < (S : Int) := by omega
          have y2 : (0 : Int) ≤ (j : Int) := by omega
          go_wp2_with fail
          go_loopw [8, 9] (fun i _ wr => ∃ (t : Nat) (ve : Value), t ≤ nz ∧ i = .int .i64 t ∧ Hid (Ba w1 w1.heap.size w1.heap.size (S : Int) (.slice M m d) wr zs (.slice A2 nz c2) (ivS a zs j ++ ivT a zs (j : Int) t) ve)) (fun i _ _ => nz - (intOf i).toNat)
          case atStart => exact ⟨0, ve, Nat.zero_le _, rfl, by rw [ivT_zero, List.append_nil]; exact hba⟩
          case round =>
            clear hba p0 p1 p2 p3
            obtain ⟨t, ve, htn, rfl, hba⟩ := hrel
            obtain ⟨p0, p1, p2, p3⟩ := CB.out _ hba.out.bel
            have o0 := hba.out.cb.cell 0 rfl
            have hbs := hba.out.bel.size
            have hb2 := hba.out.h2
            by_cases htl : t < nz
            · have hts : t < zs.length := by rw [HNZ.out]; exact htl
              obtain ⟨ev, hev⟩ : ∃ ev, ev = zs.getD t 0 := ⟨_, rfl⟩
              obtain ⟨b2, o2, rfl, hb2l, hc2⟩ : ∃ b off, A2 = some ⟨b, off, none⟩ ∧ b < wr.heap.size ∧ wr.cell? ⟨b, off + t, none⟩ = some (.int .i64 ev) := by
                obtain ⟨A', c', e, hrd, _, _⟩ := own_rdc hba.out.ao
                injection e with e1 e2 e3
                subst e1
                obtain ⟨b, o, e, hb, hc⟩ := hrd (by omega)
                exact ⟨b, o, e, hb, by rw [hev]; exact hc t hts⟩
              have HEV := Lib.hid hev
              obtain ⟨es, hes⟩ : ∃ es, es = ivS a zs j ++ ivT a zs (j : Int) t := ⟨_, rfl⟩
              have hel : es.length ≤ 100 * 32 + 32 := by
                rw [hes, List.length_append]
                have h1 := ivS_len a zs j
                have h2 := ivT_len a zs (j : Int) t
                have h3 : j * zs.length ≤ 100 * 32 := Nat.mul_le_mul (by omega) (by rw [HNZ.out]; exact hn32)
                omega
              rw [← hes] at hba
              have HES := Lib.hid hes
              obtain ⟨r, hr⟩ : ∃ r, r = decide (ev ∈ a.al) := ⟨_, rfl⟩
              have HRr := Lib.hid hr
              have HH := Lib.hid (fun q : Nat => by
                have := r7Has_any A n c B a.al ev (wr.drewN q) ((HR.out.al.below (HB1.out.trans (hba.out.bel.mono HB1.out.size)) HBw.out).dr q) HR.out.hn (by omega)
                rw [← hr] at this; exact calls_sym7 this)
              have CC := Lib.hid (fun W (hG : Ba w1 w1.heap.size w1.heap.size (S : Int) (.slice M m d) W zs (.slice (some ⟨b2, o2, none⟩) nz c2) es ve) => (by
                obtain ⟨A', c', e, hrd, _, _⟩ := own_rdc hG.ao
                injection e with e1 e2 e3
                subst e1
                obtain ⟨b, o, e, hb, hc⟩ := hrd (by rw [HNZ.out]; omega)
                injection e with e; injection e with e3 e4; subst e3 e4
                rw [HEV.out]; exact ⟨hb, hc t hts⟩ : b2 < W.heap.size ∧ W.cell? ⟨b2, o2 + t, none⟩ = some (.int .i64 ev)))
              have y3 : (t : Int) < (nz : Int) := by omega
              have y4 : (0 : Int) ≤ (t : Int) := by omega
              clear hev hes hr
              go_wp2_with fail
              go_quiet ((go_at_call 49; with_reducible exact Calls.quiet_of_same (HH.out _)))
              have hbaq := Lib.hid (hba.out.drewN nq)
              clear hba o0 hc2 HH hbs hb2 hb2l p0 p1 p2 p3
              generalize wr.drewN nq = wq at *
              obtain ⟨p0, p1, p2, p3⟩ := CB.out _ hbaq.out.bel
              obtain ⟨hb2l, hc2⟩ := CC.out _ hbaq.out
              have o0 := hbaq.out.cb.cell 0 rfl
              cases r
              · have hnx := Lib.hid (show ivS a zs j ++ ivT a zs (j : Int) (t + 1) = es ++ [⟨(j : Int), ev, (j : Int)⟩] by
                  rw [ivT_some hts (u := (j : Int)) (by rw [← HEV.out]; unfold ivO; rw [if_neg (by have := HRr.out; simpa using this.symm)]), ← List.append_assoc, ← HES.out, ← HEV.out])
                have HG := hbaq
                clear hbaq p0 p1 p2 p3
                have o0 := HG.out.cb.cell 0 rfl
                have c3 := HG.out.cb.cell 3 rfl
                have f3 := HG.out.cb.frozen 3
                have heo := Lib.hid HG.out.eo
                have hneV := HG.out.neE
                have hsq := HG.out.h2
                have hbs := HG.out.bel.size
                have v0 := fun cs : Array Value => (World.cell?_alloc_lt wq (.cells cs 79) ⟨w1.heap.size, 0, none⟩ hsq).trans o0
                have v2 := fun cs : Array Value => (World.cell?_alloc_lt wq (.cells cs 79) ⟨b2, o2 + t, none⟩ hb2l).trans hc2
                have v3 := fun cs : Array Value => (World.cell?_alloc_lt wq (.cells cs 79) ⟨w1.heap.size, 3, none⟩ hsq).trans c3
                have v5 := fun cs : Array Value => (frozen?_alloc_cells wq cs 79 ⟨w1.heap.size, 3, none⟩).trans f3
                go_wp2_with fail
                go_region_law (refine step_append_lies _ (by rfl) (.tmp 67) (.tmp 76) _ (by rfl) w1.heap.size 79 iE (.agg #[.int .i64 0, .int .i64 0, .int .i64 0]) 3 24 Tryz.underlying31 iE0 iE1 iE2 iE3 rfl (by omega) ve es.length (encE es) (by rfl) (by first | exact (heo.out.alloc _).drew | exact (heo.out.alloc _)) ⟨wq.heap.size, 0, none⟩ 1 1 [.int .i64 (j : Int), .int .i64 ev, .int .i64 (j : Int)] (by rfl) (by rfl) (World.news_of_block (cs := #[.int .i64 (j : Int), .int .i64 ev, .int .i64 (j : Int)]) (t := 79) (fr := (0, 0)) (heap_alloc_new wq _)) (by simp [Value.oneCell']) (by omega) (by unfold maxLen; omega) (by omega) (by simp; omega) (wq.heap.size + 1) (by simp) ?_; intro gg cap w6 hown6 hgrow hat hlt1; have c6 := far12 hgrow hsq hneV c3; have f6 := far12f hgrow hsq hneV f3)
                all_goals
                  have hown7 : OwnE w6 w1.heap.size (.slice (some ⟨gg, 0, none⟩) (es.length + 1) cap) (es ++ [⟨(j : Int), ev, (j : Int)⟩]) := by
                    unfold OwnE; rw [encE_app, List.length_append]; exact hown6
                  have hbd7 := Lib.hid (show Ba w1 w1.heap.size w1.heap.size (S : Int) (.slice M m d) (w6.setCell ⟨w1.heap.size, 3, none⟩ (.slice (some ⟨gg, 0, none⟩) (es.length + 1) cap)) zs (.slice (some ⟨b2, o2, none⟩) nz c2) (es ++ [⟨(j : Int), ev, (j : Int)⟩]) (.slice (some ⟨gg, 0, none⟩) (es.length + 1) cap) from by
                    first
                    | exact Ba.edge (HG.out.alloc _) hgrow hown7
                    | exact Ba.edge ((HG.out.alloc _).drew) hgrow hown7
                    | exact Ba.edge (HG.out.drew.alloc _) hgrow hown7)
                  clear hown7 hown6 hgrow hat
                  go_wp2_with fail
                  go_roundw
                  case measure => simp [intOf]; omega
                  case rel => first | exact ⟨t + 1, _, by omega, by go_num, by rw [hnx.out]; first | exact hbd7 | exact Lib.hid hbd7.out.drew⟩ | ((repeat apply Exists.intro); exact ⟨⟨t + 1, _, by omega, by go_num, by rw [hnx.out]; first | exact hbd7 | exact Lib.hid hbd7.out.drew⟩, rfl⟩)
              · have hin : ev ∈ a.al := by have := HRr.out; simpa using this.symm
                obtain ⟨tt, htt⟩ : ∃ tt, tt = stepI a (j : Int) ev := ⟨_, rfl⟩
                have HTT := Lib.hid htt
                have HS := Lib.hid (fun W (hG : Ba w1 w1.heap.size w1.heap.size (S : Int) (.slice M m d) W zs (.slice (some ⟨b2, o2, none⟩) nz c2) es ve) => (rStep_any A n c (S : Int) M m d E k g a (j : Int) ev B W (HR.out.below (HB1.out.trans (hG.bel.mono HB1.out.size)) HBw.out) (Nat.le_trans HBw.out (HB1.out.trans (hG.bel.mono HB1.out.size)).size)).mono (R' := fun e w' => e = .returned (.int .i64 tt) ∧ Ba w1 w1.heap.size w1.heap.size (S : Int) (.slice M m d) w' zs (.slice (some ⟨b2, o2, none⟩) nz c2) es ve) fun e w' hh => ⟨by rw [hh.1, htt], hG.call hh.2⟩)
                have hbdd := Lib.hid hbaq.out.drew
                clear htt
                go_wp2_with fail
                go_region_held3 (fun w' => w'.cell? ⟨w.heap.size, 0, none⟩ = some (.slice A n c) ∧ w'.cell? ⟨w.heap.size, 1, none⟩ = some (.int .i64 (S : Int)) ∧ w'.cell? ⟨w.heap.size, 2, none⟩ = some (.slice M m d) ∧ w'.cell? ⟨w.heap.size, 3, none⟩ = some (.slice E k g) ∧ w'.cell? ⟨w1.heap.size, 0, none⟩ = some (.slice (some ⟨b2, o2, none⟩) nz c2) ∧ w'.cell? ⟨b2, o2 + t, none⟩ = some (.int .i64 ev)) (first | with_reducible exact ⟨p0, p1, p2, p3, o0, hc2⟩ | go_keep)
                  (first
                  | (go_simp; go_at_call 71; (first | with_reducible refine (HS.out _ hbaq.out).mono ?_ | with_reducible refine (HS.out _ hbdd.out).mono ?_); rintro e w4 ⟨rfl, hG⟩
                     have HG := Lib.hid hG
                     obtain ⟨p0, p1, p2, p3⟩ := CB.out _ hG.bel
                     obtain ⟨hb2l, hc2⟩ := CC.out _ hG
                     have o0 := hG.cb.cell 0 rfl
                     clear hG))
                all_goals
                  clear hbaq hbdd HS p0 p1 p2 p3
                  cases hso : stepO a (j : Int) ev with
                  | none =>
                    have hto := stepI_neg hso
                    rw [← HTT.out] at hto
                    subst hto
                    have hnx := Lib.hid (show ivS a zs j ++ ivT a zs (j : Int) (t + 1) = es by rw [ivT_none hts (by rw [← HEV.out]; unfold ivO; rw [if_pos hin]; exact hso), HES.out])
                    clear hso
                    go_wp2_with fail
                    go_roundw
                    case rel => first | exact ⟨t + 1, _, by omega, by go_num, by rw [hnx.out]; first | exact HG | exact Lib.hid HG.out.drew⟩ | ((repeat apply Exists.intro); exact ⟨⟨t + 1, _, by omega, by go_num, by rw [hnx.out]; first | exact HG | exact Lib.hid HG.out.drew⟩, rfl⟩)
                    case measure => simp [intOf]; omega
                  | some tq =>
                    have hto := stepI_pos hso
                    have hq0 := (step_range HRI.out hso).1
                    rw [← HTT.out] at hto
                    rw [← hto] at hq0
                    have hnx := Lib.hid (show ivS a zs j ++ ivT a zs (j : Int) (t + 1) = es ++ [⟨(j : Int), ev, tt⟩] by
                      rw [ivT_some hts (u := tq) (by rw [← HEV.out]; unfold ivO; rw [if_pos hin]; exact hso), ← List.append_assoc, ← HES.out, ← HEV.out, hto])
                    clear hso hto
                    have o0 := HG.out.cb.cell 0 rfl
                    have c3 := HG.out.cb.cell 3 rfl
                    have f3 := HG.out.cb.frozen 3
                    have heo := Lib.hid HG.out.eo
                    have hneV := HG.out.neE
                    have hsq := HG.out.h2
                    have hbs := HG.out.bel.size
                    have v0 := fun cs : Array Value => (World.cell?_alloc_lt w4 (.cells cs 79) ⟨w1.heap.size, 0, none⟩ hsq).trans o0
                    have v2 := fun cs : Array Value => (World.cell?_alloc_lt w4 (.cells cs 79) ⟨b2, o2 + t, none⟩ hb2l).trans hc2
                    have v3 := fun cs : Array Value => (World.cell?_alloc_lt w4 (.cells cs 79) ⟨w1.heap.size, 3, none⟩ hsq).trans c3
                    have v5 := fun cs : Array Value => (frozen?_alloc_cells w4 cs 79 ⟨w1.heap.size, 3, none⟩).trans f3
                    go_wp2_with fail
                    go_region_law (refine step_append_lies _ (by rfl) (.tmp 67) (.tmp 76) _ (by rfl) w1.heap.size 79 iE (.agg #[.int .i64 0, .int .i64 0, .int .i64 0]) 3 24 Tryz.underlying31 iE0 iE1 iE2 iE3 rfl (by omega) ve es.length (encE es) (by rfl) (by first | exact (heo.out.alloc _).drew | exact (heo.out.alloc _)) ⟨w4.heap.size, 0, none⟩ 1 1 [.int .i64 (j : Int), .int .i64 ev, .int .i64 tt] (by rfl) (by rfl) (World.news_of_block (cs := #[.int .i64 (j : Int), .int .i64 ev, .int .i64 tt]) (t := 79) (fr := (0, 0)) (heap_alloc_new w4 _)) (by simp [Value.oneCell']) (by omega) (by unfold maxLen; omega) (by omega) (by simp; omega) (w4.heap.size + 1) (by simp) ?_; intro gg cap w6 hown6 hgrow hat hlt1; have c6 := far12 hgrow hsq hneV c3; have f6 := far12f hgrow hsq hneV f3)
                    all_goals
                      have hown7 : OwnE w6 w1.heap.size (.slice (some ⟨gg, 0, none⟩) (es.length + 1) cap) (es ++ [⟨(j : Int), ev, tt⟩]) := by
                        unfold OwnE; rw [encE_app, List.length_append]; exact hown6
                      have hbd7 := Lib.hid (show Ba w1 w1.heap.size w1.heap.size (S : Int) (.slice M m d) (w6.setCell ⟨w1.heap.size, 3, none⟩ (.slice (some ⟨gg, 0, none⟩) (es.length + 1) cap)) zs (.slice (some ⟨b2, o2, none⟩) nz c2) (es ++ [⟨(j : Int), ev, tt⟩]) (.slice (some ⟨gg, 0, none⟩) (es.length + 1) cap) from by
                        first
                        | exact Ba.edge (HG.out.alloc _) hgrow hown7
                        | exact Ba.edge ((HG.out.alloc _).drew) hgrow hown7
                        | exact Ba.edge (HG.out.drew.alloc _) hgrow hown7)
                      clear hown7 hown6 hgrow hat
                      go_wp2_with fail
                      go_roundw
                      case measure => simp [intOf]; omega
                      case rel => first | exact ⟨t + 1, _, by omega, by go_num, by rw [hnx.out]; first | exact hbd7 | exact Lib.hid hbd7.out.drew⟩ | ((repeat apply Exists.intro); exact ⟨⟨t + 1, _, by omega, by go_num, by rw [hnx.out]; first | exact hbd7 | exact Lib.hid hbd7.out.drew⟩, rfl⟩)
            · obtain rfl : t = nz := by omega
              have hba2 := Lib.hid (show Ba w1 w1.heap.size w1.heap.size (S : Int) (.slice M m d) wr zs (.slice A2 t c2) (ivS a zs (j + 1)) ve from by rw [ivS_succ, HNZ.out]; exact hba.out)
              clear hba
              go_wp2_with fail
              go_roundw
              case rel => exact ⟨j + 1, _, by omega, by go_num, hba2⟩
              case measure => simp [intOf]; omega
        · obtain rfl : j = S := by omega
          obtain ⟨E3, g3, rfl, hE1, hE2, hE3⟩ := ownE_rd hba.out.eo
          have hel := ivS_len a zs j
          have hel2 : (ivS a zs j).length ≤ 100 * 32 := Nat.le_trans hel (Nat.mul_le_mul (by omega) (by rw [HNZ.out]; exact hn32))
          have s0 := hba.out.cb.cell 0 rfl
          have s1 := hba.out.cb.cell 1 rfl
          have s2 := hba.out.cb.cell 2 rfl
          have s3 := hba.out.cb.cell 3 rfl
          have hbs := hba.out.bel.size
          have hst1 : a.st.toNat = j := by rw [HST.out]; simp
          have HIV := Lib.hid (show invA a al2 = ⟨zs, a.st, a.mr, ivS a zs j⟩ by rw [← iv_eq HRI.out al2, ← HZS.out, hst1])
          have HAL2 := Lib.hid (show RdI wr wr.heap.size A2 zs by
            obtain ⟨_, _, he, hrd, _, _⟩ := own_rdc hba.out.ao
            injection he with he1 he2 he3
            subst he1; exact hrd)
          have HAu := Lib.hid (show AuR wr wr.heap.size A2 nz c2 (j : Int) M m d E3 (ivS a zs j).length g3 (invA a al2) from by
            rw [HIV.out]
            exact { al := HAL2.out, mr := (HR.out.mr.below (HB1.out.trans (hba.out.bel.mono HB1.out.size)) HBw.out).more (Nat.le_trans HBw.out (HB1.out.trans (hba.out.bel.mono HB1.out.size)).size), ed := hE1, hn := HNZ.out, hm := HR.out.hm, hk := rfl, st := HST.out, cn := ⟨hA2, hA3⟩, cm := HR.out.cm, ck := ⟨hE2, hE3⟩, bn := by omega, bm := HR.out.bm, bk := by omega })
          have HCn := Lib.hid (rCanonical_any A2 nz c2 (j : Int) M m d E3 (ivS a zs j).length g3 (invA a al2) wr.heap.size wr HAu.out (Nat.le_refl _) (inv_right HRI.out al2) (by omega))
          have hR2 := Lib.hid (hRes.out.below hba.out.bel hRes.out.lt)
          have hB2 := Lib.hid (HB1.out.trans (hba.out.bel.mono HB1.out.size))
          have hzw : w.heap.size + 2 ≤ w1.heap.size := Nat.le_of_eq hzz.out.symm
          clear hE1 hba hel hst1
          go_wp2_with fail
          refine HCn.out.mono ?_
          rintro e w9 ⟨v9, rfl, hau9, hb9⟩
          obtain ⟨A9, n9, c9, s9, M9, m9, d9, E9, k9, g9, rfl, hr9, hf9⟩ := hau9
          have hAu9 := Lib.hid (show AuF _ _ w9 wr.heap.size from ⟨A9, n9, c9, s9, M9, m9, d9, E9, k9, g9, rfl, hr9, hf9⟩)
          have hR9 := Lib.hid (hR2.out.below hb9 hR2.out.lt)
          have hB9 := Lib.hid (hB2.out.trans (hb9.mono hB2.out.size))
          have r0 := hR9.out.cell 0 rfl
          have r1 := hR9.out.cell 1 rfl
          have r2 := hR9.out.cell 2 rfl
          have r3 := hR9.out.cell 3 rfl
          have x0 := hR9.out.frozen 0
          have x1 := hR9.out.frozen 1
          have x2 := hR9.out.frozen 2
          have x3 := hR9.out.frozen 3
          clear hb9 hr9 hf9
          go_wp2_with fail
          (try simp only [Exit.inBlock, Exit.then])
          refine bodyPost_ret (v := .agg #[.slice A9 n9 c9, .int .i64 s9, .slice M9 m9 d9, .slice E9 k9 g9]) ?_ rfl ⟨_, rfl, ?_, ?_⟩
          · rw [results_cell1 rfl]
            go_simp
          · exact (hAu9.out.set4 (by omega) _ _ _ _).more (by omega)
          · exact below_set4 hB9.out (by omega) _ _ _ _
end Go.Proofs.YtmghngehpgolgaaGreat
