/- Layer 3: Relabel of the reference. -/
import Derived.Test.YtcciiikaejjooaaZa6
import Derived.Test.YtcciiikaejjooaaZaBa
import Derived.Test.YtcciiikaejjooaaZa8
namespace Go.Proofs.Ytcciiikaejjooaa
open Go.RowKit Go.Sort

/-- The new events below n, in order. -/
def alK (tl : List Int) (n : Nat) : List Int := (rng n).filter fun e => decide (e ∈ tl)
theorem alK_yes {tl : List Int} {t : Nat} (h : (t : Int) ∈ tl) : alK tl (t + 1) = alK tl t ++ [(t : Int)] := by
  unfold alK; rw [rng_succ, List.filter_append, List.filter_cons_of_pos (by simpa using h)]; rfl
theorem alK_no {tl : List Int} {t : Nat} (h : (t : Int) ∉ tl) : alK tl (t + 1) = alK tl t := by
  unfold alK; rw [rng_succ, List.filter_append, List.filter_cons_of_neg (by simpa using h)]; simp
theorem alK_len (tl : List Int) (t : Nat) : (alK tl t).length ≤ t := by
  unfold alK; exact Nat.le_trans (List.length_filter_le _ _) (by rw [rng_len]; exact Nat.le_refl _)
theorem rng_lt (n : Nat) : (rng n).Pairwise (· < ·) := by
  unfold rng; rw [List.pairwise_map]; exact List.pairwise_lt_range.imp fun h => by omega
theorem mem_rng {n : Nat} {x : Int} : x ∈ rng n ↔ 0 ≤ x ∧ x < (n : Int) := by
  unfold rng
  rw [List.mem_map]
  constructor
  · rintro ⟨i, hi, rfl⟩; have := List.mem_range.1 hi; omega
  · rintro ⟨h0, h1⟩; exact ⟨x.toNat, List.mem_range.2 (by omega), by omega⟩
theorem alK_all {tl : List Int} (hr : ∀ x ∈ tl, 0 ≤ x ∧ x < 32) (hd : tl.Nodup) : alK tl 32 = srtI tl := by
  refine lt_ext ((rng_lt 32).sublist List.filter_sublist) (srtI_lt hd) fun x => ?_
  unfold alK
  rw [List.mem_filter, (srtI_perm tl).mem_iff, mem_rng]
  constructor
  · rintro ⟨_, h⟩; simpa using h
  · intro h; exact ⟨hr x h, by simpa using h⟩
/-- The edges of a state by the first new events. -/
def relT (a : Au) (tl : List Int) (q : Int) (t : Nat) : List Ed := ((srtI tl).take t).filterMap fun e => (stepO a q (oldE a.al tl e)).map fun u => ⟨q, e, u⟩
theorem relT_zero (a : Au) (tl : List Int) (q : Int) : relT a tl q 0 = [] := by simp [relT]
theorem relT_some {a : Au} {tl : List Int} {q u : Int} {t : Nat} (ht : t < (srtI tl).length) (h : stepO a q (oldE a.al tl ((srtI tl).getD t 0)) = some u) : relT a tl q (t + 1) = relT a tl q t ++ [⟨q, (srtI tl).getD t 0, u⟩] := by
  unfold relT
  rw [List.take_succ_eq_append_getElem ht, List.filterMap_append]
  have e : (srtI tl)[t] = (srtI tl).getD t 0 := by simp [List.getD, List.getElem?_eq_getElem ht]
  rw [e, List.filterMap_cons, h]; rfl
theorem relT_none {a : Au} {tl : List Int} {q : Int} {t : Nat} (ht : t < (srtI tl).length) (h : stepO a q (oldE a.al tl ((srtI tl).getD t 0)) = none) : relT a tl q (t + 1) = relT a tl q t := by
  unfold relT
  rw [List.take_succ_eq_append_getElem ht, List.filterMap_append]
  have e : (srtI tl)[t] = (srtI tl).getD t 0 := by simp [List.getD, List.getElem?_eq_getElem ht]
  rw [e, List.filterMap_cons, h]; simp
theorem relT_all {a : Au} {tl : List Int} {q : Int} {t : Nat} (ht : (srtI tl).length = t) : relT a tl q t = relK a tl q := by
  unfold relT relK; rw [List.take_of_length_le (by omega)]
theorem relT_len (a : Au) (tl : List Int) (q : Int) (t : Nat) : (relT a tl q t).length ≤ t := by
  unfold relT; exact Nat.le_trans (List.length_filterMap_le _ _) (List.length_take_le _ _)
/-- The edges of the first states. -/
def relS (a : Au) (tl : List Int) (n : Nat) : List Ed := (List.range n).flatMap fun q : Nat => relK a tl (q : Int)
theorem relS_succ (a : Au) (tl : List Int) (n : Nat) : relS a tl (n + 1) = relS a tl n ++ relK a tl (n : Int) := by
  unfold relS; rw [List.range_succ, List.flatMap_append]; simp
theorem relS_len (a : Au) (tl : List Int) : ∀ n, (relS a tl n).length ≤ n * tl.length
  | 0 => by simp [relS]
  | n + 1 => by
    have h := relT_len a tl (n : Int) (srtI tl).length
    rw [relT_all rfl, (srtI_perm tl).length_eq] at h
    rw [relS_succ, List.length_append, Nat.add_mul, Nat.one_mul]
    have := relS_len a tl n
    omega
theorem relS_all {a : Au} {tl : List Int} (h : RightW a) (hl : tl.length = a.al.length) (hr : ∀ x ∈ tl, 0 ≤ x ∧ x < 32) (hd : tl.Nodup) : relS a tl a.st.toNat = (relA a tl).ed := by
  rw [all_succ (rel_right h hl hr hd)]
  unfold relS
  rw [List.flatMap_def, List.flatMap_def]
  exact congrArg List.flatten (List.map_congr_left fun q _ => relK_eq h hl hr hd _)

set_option maxHeartbeats 8000000 in
set_option maxRecDepth 100000 in
theorem rRelabel_any (A : Option Addr) (n c : Nat) (s : Int) (M : Option Addr) (m d : Nat) (E : Option Addr) (k g : Nat) (a : Au) (T : Option Addr) (l lc : Nat) (tl : List Int) (B : Nat) (w : World) (h : AuR w B A n c s M m d E k g a) (ht : RdI w B T tl) (hl : tl.length = l) (hB : B ≤ w.heap.size) (hr : RightW a) (htl : tl.length = a.al.length) (hrg : ∀ x ∈ tl, 0 ≤ x ∧ x < 32) (hd : tl.Nodup) (S : Nat) (hS : s = (S : Int)) (hS5 : S ≤ 100) :
    Calls Try.prog 43 #[.agg #[.slice A n c, .int .i64 s, .slice M m d, .slice E k g], .slice T l lc] w fun e w' => ∃ v, e = .returned v ∧ AuF (canA (relA a tl)) v w' w.heap.size ∧ Below w.heap.size w w' := by
  subst hS
  have HB1 := Lib.hid (((Below.refl w.heap.size w).alloc (Nat.le_refl _) (.cells #[.slice A n c, .int .i64 (S : Int), .slice M m d, .slice E k g] 25)).alloc (by simp) (.cells #[.slice none 0 0, .int .i64 0, .slice none 0 0, .slice none 0 0] 25))
  have hA := Lib.hid ((Row.new w [.slice A n c, .int .i64 (S : Int), .slice M m d, .slice E k g] 25).alloc (.cells #[.slice none 0 0, .int .i64 0, .slice none 0 0, .slice none 0 0] 25))
  have hRes := Lib.hid (show Row ((w.alloc (.cells #[.slice A n c, .int .i64 (S : Int), .slice M m d, .slice E k g] 25)).alloc (.cells #[.slice none 0 0, .int .i64 0, .slice none 0 0, .slice none 0 0] 25)) (w.heap.size + 1) 25 [.slice none 0 0, .int .i64 0, .slice none 0 0, .slice none 0 0] by
    have := Row.new (w.alloc (.cells #[.slice A n c, .int .i64 (S : Int), .slice M m d, .slice E k g] 25)) [.slice none 0 0, .int .i64 0, .slice none 0 0, .slice none 0 0] 25
    simpa using this)
  have HR := Lib.hid h
  have HRI := Lib.hid hr
  have HBw := Lib.hid hB
  have HT := Lib.hid ht
  have HL := Lib.hid hl
  have HTL := Lib.hid htl
  have HRG := Lib.hid hrg
  have HD := Lib.hid hd
  have hST := h.st
  have HST := Lib.hid hST
  have hbn := h.bn
  have hbm := h.bm
  have hnc := h.cn
  have hmc := h.cm
  have hln : l = n := by rw [← hl, htl, h.hn]
  have HLN := Lib.hid hln
  have hn32 : n ≤ 32 := by have := al_len hr; rw [h.hn] at this; exact this
  have hlb : l ≤ 100000 := by omega
  have hsl := Lib.hid (show (srtI tl).length = n by rw [(srtI_perm tl).length_eq, hl, hln])
  obtain ⟨iI, iI0, iI1, iI2, iI3⟩ := info_parts info_int
  obtain ⟨iE, iE0, iE1, iE2, iE3⟩ := info_parts info_edge
  have p1 := hA.out.cell 1 rfl
  have p2 := hA.out.cell 2 rfl
  have hzz := Lib.hid (show ((w.alloc (.cells #[.slice A n c, .int .i64 (S : Int), .slice M m d, .slice E k g] 25)).alloc (.cells #[.slice none 0 0, .int .i64 0, .slice none 0 0, .slice none 0 0] 25)).heap.size = w.heap.size + 2 by simp)
  clear h hr hB ht hl htl hrg hd hST hln
  go_enter Try.func43, Try.ntmps43
  go_wp2_with fail
  obtain ⟨w1, hw1⟩ : ∃ w1, w1 = (w.alloc (.cells #[.slice A n c, .int .i64 (S : Int), .slice M m d, .slice E k g] 25)).alloc (.cells #[.slice none 0 0, .int .i64 0, .slice none 0 0, .slice none 0 0] 25) := ⟨_, rfl⟩
  rw [← hw1] at HB1 hA hRes hzz ⊢
  rw [show w.heap.size + 2 = w1.heap.size from hzz.out.symm]
  clear p1 p2 hw1
  have hba0 := Lib.hid (show Ba w1 w1.heap.size w1.heap.size (S : Int) (.slice M m d) (w1.alloc (.cells #[.slice none 0 0, .int .i64 (S : Int), .slice M m d, .slice none 0 0] 25)) (alK tl 0) (.slice none 0 0) [] (.slice none 0 0) from
    ⟨(Below.refl _ _).alloc (Nat.le_refl _) _, Row.new w1 [.slice none 0 0, .int .i64 (S : Int), .slice M m d, .slice none 0 0] 25, World.ownsRow_nil _ _ _ _, World.ownsRow_nil _ _ _ _, Nat.le_refl _⟩)
  go_loopw [6] (fun i wr => ∃ (t : Nat) (va : Value), t ≤ 32 ∧ i = .int .i64 t ∧ Hid (Ba w1 w1.heap.size w1.heap.size (S : Int) (.slice M m d) wr (alK tl t) va [] (.slice none 0 0))) (fun i _ => 32 - (intOf i).toNat)
  case atStart => exact ⟨0, _, Nat.zero_le _, rfl, hba0⟩
  case round =>
    clear hba0
    obtain ⟨t, va, ht32, rfl, hba⟩ := hrel
    have hsz := hba.out.h2
    have hal := alK_len tl t
    by_cases hlt : t < 32
    · have z1 : (t : Int) < 32 := by omega
      obtain ⟨r, hr⟩ : ∃ r, r = decide ((t : Int) ∈ tl) := ⟨_, rfl⟩
      have HRr := Lib.hid hr
      have HM := Lib.hid (rHas_any T l lc B tl (t : Int) wr (HT.out.below (HB1.out.trans (hba.out.bel.mono HB1.out.size)) HBw.out) HL.out (by omega))
      rw [← hr] at HM
      clear hr
      go_wp2_with fail
      with_reducible refine HM.out.mono ?_
      rintro e w' ⟨rfl, rfl⟩
      cases r
      · have hno := Lib.hid (alK_no (tl := tl) (t := t) (by have := HRr.out; simpa using this.symm))
        go_wp2_with fail
        go_roundw
        case rel => exact ⟨t + 1, _, by omega, by go_num, by rw [hno.out]; exact hba⟩
        case measure => simp [intOf]; omega
      · have hyes := Lib.hid (alK_yes (tl := tl) (t := t) (by have := HRr.out; simpa using this.symm))
        obtain ⟨K0, hK0⟩ : ∃ K0, K0 = alK tl t := ⟨_, rfl⟩
        obtain ⟨l0, hl0⟩ : ∃ l0, l0 = K0.length := ⟨_, rfl⟩
        rw [← hK0] at hba hyes hal
        rw [← hl0] at hal
        have HL0 := Lib.hid hl0
        have a0 := hba.out.cb.cell 0 rfl
        have f0 := hba.out.cb.frozen 0
        have hao := Lib.hid (show wr.ownsRow w1.heap.size 3 1 va l0 (K0.map (Value.int .i64)) by have := hba.out.ao; unfold Own at this; rwa [← hl0] at this)
        clear hK0 hl0
        go_wp2_with (at_builtin; refine wpList_append_own _ rfl _ _ 22 rfl w1.heap.size 3 iI (.int .i64 0) 1 8 Try.underlying22 iI0 iI1 iI2 iI3 rfl (by decide) _ _ _ rfl (hao.out.alloc _) ⟨wr.heap.size, 0, none⟩ 1 1 [.int .i64 (t : Int)] rfl rfl (news_one (by simp)) (by intro u hu; simp at hu; subst hu; rfl) (by unfold maxLen; omega) (by omega) (by simp; omega) ?_)
        intro v5 w5 hown5 hgrow5 _
        obtain ⟨A5, c5, rfl, ho5⟩ := int_app HL0.out hown5
        have hb5 := hba.out.alloc (.cells #[.int .i64 (t : Int)] 3)
        have hcb5 := Lib.hid (hb5.cb.grown hgrow5 (fun e => hb5.neA e.symm))
        have hba5 := Lib.hid (Ba.event hb5 hgrow5 ho5)
        rw [← hyes.out] at hba5
        have a0 := hcb5.out.cell 0 rfl
        have f0 := hcb5.out.frozen 0
        clear hown5 hgrow5 ho5 hb5
        go_wp2_with fail
        go_roundw
        case rel => exact ⟨t + 1, _, by omega, by go_num, hba5⟩
        case measure => simp [intOf]; omega
    · obtain rfl : t = 32 := by omega
      rw [alK_all HRG.out HD.out] at hba
      obtain ⟨A2, c2, rfl, hA1, hA2, hA3⟩ := own_rdc hba.out.ao
      rw [hsl.out] at hA2 hba
      have hba1 := Lib.hid (show Ba w1 w1.heap.size w1.heap.size (S : Int) (.slice M m d) wr (srtI tl) (.slice A2 n c2) (relS a tl 0) (.slice none 0 0) from hba.out)
      clear hba hA1
      go_wp2_with fail
      go_loopw [7] (fun i wr => ∃ (j : Nat) (ve : Value), j ≤ S ∧ i = .int .i64 j ∧ Hid (Ba w1 w1.heap.size w1.heap.size (S : Int) (.slice M m d) wr (srtI tl) (.slice A2 n c2) (relS a tl j) ve)) (fun i _ => S - (intOf i).toNat)
      case atStart => exact ⟨0, _, Nat.zero_le _, rfl, hba1⟩
      case round =>
        clear hba1
        obtain ⟨j, ve, hjS, rfl, hba⟩ := hrel
        have CB := Lib.hid (fun W (hW : Below w1.heap.size w1 W) => box_row A n c (S : Int) M m d E k g (hA.out.below hW hA.out.lt))
        have hlA := hA.out.lt
        obtain ⟨p0, p1, p2, p3⟩ := CB.out _ hba.out.bel
        by_cases hjl : j < S
        · have y1 : (j : Int) < (S : Int) := by omega
          have y2 : (0 : Int) ≤ (j : Int) := by omega
          go_wp2_with fail
          go_loopw [8] (fun i wr => ∃ (t : Nat) (ve : Value), t ≤ n ∧ i = .int .i64 t ∧ Hid (Ba w1 w1.heap.size w1.heap.size (S : Int) (.slice M m d) wr (srtI tl) (.slice A2 n c2) (relS a tl j ++ relT a tl (j : Int) t) ve)) (fun i _ => n - (intOf i).toNat)
          case atStart => exact ⟨0, ve, Nat.zero_le _, rfl, by rw [relT_zero, List.append_nil]; exact hba⟩
          case round =>
            clear hba p0 p1 p2 p3
            obtain ⟨t, ve, htn, rfl, hba⟩ := hrel
            obtain ⟨p0, p1, p2, p3⟩ := CB.out _ hba.out.bel
            have o0 := hba.out.cb.cell 0 rfl
            have hbs := hba.out.bel.size
            have hb2 := hba.out.h2
            by_cases htl : t < n
            · have hts : t < (srtI tl).length := by rw [hsl.out]; exact htl
              obtain ⟨ev, hev⟩ : ∃ ev, ev = (srtI tl).getD t 0 := ⟨_, rfl⟩
              have hem : ev ∈ tl := by rw [hev]; exact (srtI_perm tl).mem_iff.1 (getD_mem hts)
              obtain ⟨b2, o2, rfl, hb2l, hc2⟩ : ∃ b off, A2 = some ⟨b, off, none⟩ ∧ b < wr.heap.size ∧ wr.cell? ⟨b, off + t, none⟩ = some (.int .i64 ev) := by
                obtain ⟨A', c', e, hrd, _, _⟩ := own_rdc hba.out.ao
                injection e with e1 e2 e3
                subst e1
                obtain ⟨b, o, e, hb, hc⟩ := hrd (by omega)
                exact ⟨b, o, e, hb, by rw [hev]; exact hc t hts⟩
              obtain ⟨ix, hix⟩ : ∃ ix, ix = tl.idxOf ev := ⟨_, rfl⟩
              have hixl : ix < n := by rw [hix, ← HLN.out, ← HL.out]; exact List.idxOf_lt_length_iff.2 hem
              obtain ⟨bA, oA, rfl, hbA, hcA⟩ := HR.out.al (by rw [HR.out.hn]; omega)
              have hba2 : bA < w1.heap.size := by have := HB1.out.size; have := HBw.out; omega
              obtain ⟨ov, hov⟩ : ∃ ov, ov = oldE a.al tl ev := ⟨_, rfl⟩
              have ca0 : w1.cell? ⟨bA, oA + ix, none⟩ = some (.int .i64 ov) := by
                rw [HB1.out.cell (p := ⟨bA, oA + ix, none⟩) (Nat.lt_of_lt_of_le hbA HBw.out), hcA ix (by rw [HR.out.hn]; exact hixl), hov, oldE, ← hix]
              have ca := (hba.out.bel.cell (p := ⟨bA, oA + ix, none⟩) hba2).trans ca0
              have HI := Lib.hid (fun W (hW : RdI W B T tl) => by
                have := rIndex_any T l lc B tl ev W hW HL.out (by omega)
                rw [idxI_in hem, ← hix] at this; exact this)
              have hTr := Lib.hid (show RdI wr B T tl from HT.out.below (HB1.out.trans (hba.out.bel.mono HB1.out.size)) HBw.out)
              have hTd := Lib.hid (show RdI wr.drew B T tl from hTr.out)
              have HOV := Lib.hid hov
              have HEV := Lib.hid hev
              have y3 : (t : Int) < (n : Int) := by omega
              have y4 : (0 : Int) ≤ (t : Int) := by omega
              have y5 : (ix : Int) < (n : Int) := by omega
              have y6 : (0 : Int) ≤ (ix : Int) := by omega
              clear hem hix hcA ca0 hov hev
              go_wp2_with fail
              go_region_held3 (fun w' => w'.cell? ⟨w.heap.size, 0, none⟩ = some (.slice (some ⟨bA, oA, none⟩) n c) ∧ w'.cell? ⟨w1.heap.size, 0, none⟩ = some (.slice (some ⟨b2, o2, none⟩) n c2) ∧ w'.cell? ⟨b2, o2 + t, none⟩ = some (.int .i64 ev) ∧ w'.cell? ⟨bA, oA + ix, none⟩ = some (.int .i64 ov)) (first | with_reducible exact ⟨p0, o0, hc2, ca⟩ | go_keep)
                (first | (go_simp; go_at_call 67; (first | with_reducible refine (HI.out _ hTr.out).mono ?_ | with_reducible refine (HI.out _ hTd.out).mono ?_); rintro e w4 ⟨rfl, rfl⟩))
              all_goals
                obtain ⟨es, hes⟩ : ∃ es, es = relS a tl j ++ relT a tl (j : Int) t := ⟨_, rfl⟩
                have hel : es.length ≤ 100 * 32 + 32 := by
                  rw [hes, List.length_append]
                  have h1 := relS_len a tl j
                  have h2 := relT_len a tl (j : Int) t
                  have h3 : j * tl.length ≤ 100 * 32 := Nat.mul_le_mul (by omega) (by rw [HL.out, HLN.out]; exact hn32)
                  omega
                rw [← hes] at hba
                have HES := Lib.hid hes
                obtain ⟨tt, htt⟩ : ∃ tt, tt = stepI a (j : Int) ov := ⟨_, rfl⟩
                have HTT := Lib.hid htt
                have HS := Lib.hid (fun W (hG : Ba w1 w1.heap.size w1.heap.size (S : Int) (.slice M m d) W (srtI tl) (.slice (some ⟨b2, o2, none⟩) n c2) es ve) => (rStep_any (some ⟨bA, oA, none⟩) n c (S : Int) M m d E k g a (j : Int) ov B W (HR.out.below (HB1.out.trans (hG.bel.mono HB1.out.size)) HBw.out) (Nat.le_trans HBw.out (HB1.out.trans (hG.bel.mono HB1.out.size)).size)).mono (R' := fun e w' => e = .returned (.int .i64 tt) ∧ Ba w1 w1.heap.size w1.heap.size (S : Int) (.slice M m d) w' (srtI tl) (.slice (some ⟨b2, o2, none⟩) n c2) es ve) fun e w' hh => ⟨by rw [hh.1, htt], hG.call hh.2⟩)
                have CC := Lib.hid (fun W (hG : Ba w1 w1.heap.size w1.heap.size (S : Int) (.slice M m d) W (srtI tl) (.slice (some ⟨b2, o2, none⟩) n c2) es ve) => (by
                  obtain ⟨A', c', e, hrd, _, _⟩ := own_rdc hG.ao
                  injection e with e1 e2 e3
                  subst e1
                  obtain ⟨b, o, e, hb, hc⟩ := hrd (by rw [hsl.out]; omega)
                  injection e with e; injection e with e3 e4; subst e3 e4
                  rw [HEV.out]; exact ⟨hb, hc t hts⟩ : b2 < W.heap.size ∧ W.cell? ⟨b2, o2 + t, none⟩ = some (.int .i64 ev)))
                clear hes htt p0 p1 p2 p3
                have hbaq := Lib.hid hba.out.drew
                clear hba o0 hc2 ca hTr hTd HI hbs hb2 hb2l
                generalize wr.drew = wq at *
                obtain ⟨p0, p1, p2, p3⟩ := CB.out _ hbaq.out.bel
                go_wp2_with fail
                refine (HS.out _ hbaq.out).mono ?_
                rintro e w4 ⟨rfl, hG⟩
                have HG := Lib.hid hG
                clear p0 p1 p2 p3 hG hbaq
                cases hso : stepO a (j : Int) ov with
                | none =>
                  have hto := stepI_neg hso
                  rw [← HTT.out] at hto
                  subst hto
                  have hnx := Lib.hid (show relS a tl j ++ relT a tl (j : Int) (t + 1) = es by rw [relT_none hts (by rw [← HEV.out, ← HOV.out]; exact hso), HES.out])
                  clear hso
                  go_wp2_with fail
                  go_roundw
                  case rel => first | exact ⟨t + 1, _, by omega, by go_num, by rw [hnx.out]; exact HG⟩ | ((repeat apply Exists.intro); exact ⟨⟨t + 1, _, by omega, by go_num, by rw [hnx.out]; exact HG⟩, rfl⟩)
                  case measure => simp [intOf]; omega
                | some tq =>
                  have hto := stepI_pos hso
                  have hq0 := (step_range HRI.out hso).1
                  rw [← HTT.out] at hto
                  rw [← hto] at hq0
                  have hnx := Lib.hid (show relS a tl j ++ relT a tl (j : Int) (t + 1) = es ++ [⟨(j : Int), ev, tt⟩] by rw [relT_some hts (by rw [← HEV.out, ← HOV.out]; exact hso), HES.out, List.append_assoc, ← HEV.out, hto])
                  clear hso hto
                  obtain ⟨hb2l, hc2⟩ := CC.out _ HG.out
                  have o0 := HG.out.cb.cell 0 rfl
                  have c3 := HG.out.cb.cell 3 rfl
                  have f3 := HG.out.cb.frozen 3
                  have heo := Lib.hid HG.out.eo
                  have hneV := HG.out.neE
                  have hsq := HG.out.h2
                  have hbs := HG.out.bel.size
                  have v0 := fun cs : Array Value => (World.cell?_alloc_lt w4 (.cells cs 67) ⟨w1.heap.size, 0, none⟩ hsq).trans o0
                  have v2 := fun cs : Array Value => (World.cell?_alloc_lt w4 (.cells cs 67) ⟨b2, o2 + t, none⟩ hb2l).trans hc2
                  have v3 := fun cs : Array Value => (World.cell?_alloc_lt w4 (.cells cs 67) ⟨w1.heap.size, 3, none⟩ hsq).trans c3
                  have v5 := fun cs : Array Value => (frozen?_alloc_cells w4 cs 67 ⟨w1.heap.size, 3, none⟩).trans f3
                  go_wp2_with fail
                  go_region_law (refine step_append_lies _ (by rfl) (.tmp 60) (.tmp 69) _ (by rfl) w1.heap.size 67 iE (.agg #[.int .i64 0, .int .i64 0, .int .i64 0]) 3 24 Try.underlying23 iE0 iE1 iE2 iE3 rfl (by omega) ve es.length (encE es) (by rfl) (by first | exact (heo.out.alloc _).drew | exact (heo.out.alloc _)) ⟨w4.heap.size, 0, none⟩ 1 1 [.int .i64 (j : Int), .int .i64 ev, .int .i64 tt] (by rfl) (by rfl) (World.news_of_block (cs := #[.int .i64 (j : Int), .int .i64 ev, .int .i64 tt]) (t := 67) (fr := (0, 0)) (heap_alloc_new w4 _)) (by simp [Value.oneCell']) (by omega) (by unfold maxLen; omega) (by omega) (by simp; omega) (w4.heap.size + 1) (by simp) ?_; intro gg cap w6 hown6 hgrow hat hlt1; have c6 := far12 hgrow hsq hneV c3; have f6 := far12f hgrow hsq hneV f3)
                  all_goals
                    have hown7 : OwnE w6 w1.heap.size (.slice (some ⟨gg, 0, none⟩) (es.length + 1) cap) (es ++ [⟨(j : Int), ev, tt⟩]) := by
                      unfold OwnE; rw [encE_app, List.length_append]; exact hown6
                    have hbd7 := Lib.hid (show Ba w1 w1.heap.size w1.heap.size (S : Int) (.slice M m d) (w6.setCell ⟨w1.heap.size, 3, none⟩ (.slice (some ⟨gg, 0, none⟩) (es.length + 1) cap)) (srtI tl) (.slice (some ⟨b2, o2, none⟩) n c2) (es ++ [⟨(j : Int), ev, tt⟩]) (.slice (some ⟨gg, 0, none⟩) (es.length + 1) cap) from by
                      first
                      | exact Ba.edge (HG.out.alloc _) hgrow hown7
                      | exact Ba.edge ((HG.out.alloc _).drew) hgrow hown7
                      | exact Ba.edge (HG.out.drew.alloc _) hgrow hown7)
                    clear hown7 hown6 hgrow hat
                    go_wp2_with fail
                    go_roundw
                    case measure => simp [intOf]; omega
                    case rel => first | exact ⟨t + 1, _, by omega, by go_num, by rw [hnx.out]; first | exact hbd7 | exact Lib.hid hbd7.out.drew⟩ | ((repeat apply Exists.intro); exact ⟨⟨t + 1, _, by omega, by go_num, by rw [hnx.out]; first | exact hbd7 | exact Lib.hid hbd7.out.drew⟩, rfl⟩)
            · obtain rfl : t = n := by omega
              rw [relT_all hsl.out, ← relS_succ] at hba
              go_wp2_with fail
              go_roundw
              case rel => exact ⟨j + 1, _, by omega, by go_num, hba⟩
              case measure => simp [intOf]; omega
        · obtain rfl : j = S := by omega
          obtain ⟨E3, g3, rfl, hE1, hE2, hE3⟩ := ownE_rd hba.out.eo
          have hel := relS_len a tl j
          have hel2 : (relS a tl j).length ≤ 100 * 32 := Nat.le_trans hel (Nat.mul_le_mul (by omega) (by rw [HL.out, HLN.out]; exact hn32))
          have s0 := hba.out.cb.cell 0 rfl
          have s1 := hba.out.cb.cell 1 rfl
          have s2 := hba.out.cb.cell 2 rfl
          have s3 := hba.out.cb.cell 3 rfl
          have hbs := hba.out.bel.size
          have hst1 : a.st.toNat = j := by rw [HST.out]; simp
          have HED := Lib.hid (show (relA a tl).ed = relS a tl j by rw [← relS_all HRI.out HTL.out HRG.out HD.out, hst1])
          have HAL2 := Lib.hid (show RdI wr wr.heap.size A2 (srtI tl) by
            obtain ⟨_, _, he, hrd, _, _⟩ := own_rdc hba.out.ao
            injection he with he1 he2 he3
            subst he1; exact hrd)
          have HAu := Lib.hid (show AuR wr wr.heap.size A2 n c2 (j : Int) M m d E3 (relS a tl j).length g3 (relA a tl) from
            { al := HAL2.out, mr := (HR.out.mr.below (HB1.out.trans (hba.out.bel.mono HB1.out.size)) HBw.out).more (Nat.le_trans HBw.out (HB1.out.trans (hba.out.bel.mono HB1.out.size)).size), ed := by rw [HED.out]; exact hE1, hn := hsl.out, hm := HR.out.hm, hk := by rw [HED.out], st := HST.out, cn := ⟨hA2, hA3⟩, cm := HR.out.cm, ck := ⟨hE2, hE3⟩, bn := HR.out.bn, bm := HR.out.bm, bk := by omega })
          have HCn := Lib.hid (rCanonical_any A2 n c2 (j : Int) M m d E3 (relS a tl j).length g3 (relA a tl) wr.heap.size wr HAu.out (Nat.le_refl _) (rel_right HRI.out HTL.out HRG.out HD.out) (by omega))
          have hR2 := Lib.hid (hRes.out.below hba.out.bel hRes.out.lt)
          have hB2 := Lib.hid (HB1.out.trans (hba.out.bel.mono HB1.out.size))
          have hzw : w.heap.size + 2 ≤ w1.heap.size := Nat.le_of_eq hzz.out.symm
          clear hE1 hba hel hst1
          go_wp2_with fail
          refine HCn.out.mono ?_
          rintro e w9 ⟨v9, rfl, hau9, hb9⟩
          obtain ⟨A9, n9, c9, s9, M9, m9, d9, E9, k9, g9, rfl, hr9, hf9⟩ := hau9
          have hAu9 := Lib.hid (show AuF _ _ w9 wr.heap.size from ⟨A9, n9, c9, s9, M9, m9, d9, E9, k9, g9, rfl, hr9, hf9⟩)
          have hR9 := Lib.hid (hR2.out.below hb9 hR2.out.lt)
          have hB9 := Lib.hid (hB2.out.trans (hb9.mono hB2.out.size))
          have r0 := hR9.out.cell 0 rfl
          have r1 := hR9.out.cell 1 rfl
          have r2 := hR9.out.cell 2 rfl
          have r3 := hR9.out.cell 3 rfl
          have x0 := hR9.out.frozen 0
          have x1 := hR9.out.frozen 1
          have x2 := hR9.out.frozen 2
          have x3 := hR9.out.frozen 3
          clear hb9 hr9 hf9
          go_wp2_with fail
          (try simp only [Exit.inBlock, Exit.then])
          refine bodyPost_ret (v := .agg #[.slice A9 n9 c9, .int .i64 s9, .slice M9 m9 d9, .slice E9 k9 g9]) ?_ rfl ⟨_, rfl, ?_, ?_⟩
          · rw [results_cell1 rfl]
            go_simp
          · exact (hAu9.out.set4 (by omega) _ _ _ _).more (by omega)
          · exact below_set4 hB9.out (by omega) _ _ _ _
end Go.Proofs.Ytcciiikaejjooaa
