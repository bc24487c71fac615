/- Layer 3: Complete of the program. -/
import Derived.Test.YtcciiikaejjooaaaClo
namespace Go.Proofs.Ytcciiikaejjooaa
open Go.RowKit Go.Sort

/-- Where an event leads when the further state is there. -/
def toC (a : Au) (q ev : Int) : Int := (stepO a q ev).getD a.st
def rowC (a : Au) (q : Int) : List Ed := a.al.map fun ev => ⟨q, ev, toC a q ev⟩
def compE (a : Au) (n : Nat) : List Ed := (List.range n).flatMap fun (q : Nat) => rowC a (q : Int)
/-- An automaton with a further state to which all events lead that aren't possible. -/
def compA (a : Au) : Au := ⟨a.al, a.st + 1, a.mr, compE a (a.st.toNat + 1)⟩
def cmpR (a : Au) : Au × Int := if chkE a ≠ 0 then (zeroA, chkE a) else (canA (compA a), 0)
theorem compE_succ (a : Au) (n : Nat) : compE a (n + 1) = compE a n ++ rowC a (n : Int) := by simp [compE, List.range_succ]
theorem rowC_len (a : Au) (q : Int) : (rowC a q).length = a.al.length := by simp [rowC]
theorem compE_len (a : Au) : ∀ n, (compE a n).length = n * a.al.length
  | 0 => by simp [compE]
  | n + 1 => by rw [compE_succ, List.length_append, compE_len a n, rowC_len, Nat.add_mul, Nat.one_mul]
theorem rowC_take {a : Au} {q : Int} {t : Nat} (h : t < a.al.length) : (rowC a q).take (t + 1) = (rowC a q).take t ++ [⟨q, a.al.getD t 0, toC a q (a.al.getD t 0)⟩] := by
  unfold rowC
  rw [← List.map_take, ← List.map_take, take_getD h, List.map_append]; rfl
theorem rowC_all {a : Au} {q : Int} {n : Nat} (h : a.al.length = n) : (rowC a q).take n = rowC a q := List.take_of_length_le (by rw [rowC_len]; omega)
theorem mem_compE {a : Au} {n : Nat} {y : Ed} : y ∈ compE a n ↔ ∃ q : Nat, q < n ∧ ∃ ev ∈ a.al, y = ⟨(q : Int), ev, toC a q ev⟩ := by
  unfold compE rowC
  simp only [List.mem_flatMap, List.mem_range, List.mem_map]
  constructor
  · rintro ⟨i, hi, x, hx, e⟩; exact ⟨i, hi, x, hx, e.symm⟩
  · rintro ⟨i, hi, x, hx, e⟩; exact ⟨i, hi, x, hx, e.symm⟩
theorem toC_range {a : Au} (h : RightW a) (q ev : Int) : 0 ≤ toC a q ev ∧ toC a q ev < a.st + 1 := by
  unfold toC
  cases hs : stepO a q ev with
  | none => have := h.st0; simp; omega
  | some t => have := step_range h hs; simp; omega
theorem compE_sorted {a : Au} (h : RightW a) : ∀ n, (compE a n).Pairwise ltE
  | 0 => by simp [compE]
  | n + 1 => by
    rw [compE_succ, List.pairwise_append]
    refine ⟨compE_sorted h n, ?_, fun x hx y hy => ?_⟩
    · unfold rowC
      rw [List.pairwise_map]
      exact h.alo.imp fun hlt => by unfold ltE; simp; exact hlt
    · obtain ⟨i, hi, z, _, rfl⟩ := mem_compE.1 hx
      unfold rowC at hy
      obtain ⟨z2, _, rfl⟩ := List.mem_map.1 hy
      unfold ltE; simp; omega
theorem comp_right {a : Au} (h : RightW a) : RightW (compA a) where
  alr := h.alr
  alo := h.alo
  st0 := by have := h.st0; simp [compA]; omega
  mrr x hx := by have := h.mrr x hx; simp only [compA]; omega
  mro := h.mro
  edr y hy := by
    obtain ⟨q, hq, ev, hev, rfl⟩ := mem_compE.1 hy
    have := toC_range h q ev
    have := h.st0
    exact ⟨by simp only [compA]; omega, by simp only [compA]; omega, hev⟩
  edo := compE_sorted h _
theorem al_len {a : Au} (h : RightW a) : a.al.length ≤ 32 := nodup_len (lt_nodup h.alo) fun x hx => by have := h.alr x hx; omega
theorem news_three {W : World} {x y z : Value} {T : TypeId} {b : Nat} (hb : W.heap.size = b) : ∀ j u, [x, y, z][j]? = some u → (W.alloc (.cells #[x, y, z] T)).cell? ((⟨b, 0, none⟩ : Addr).add j) = some u := by
  subst hb
  intro j u hj
  rw [show ((⟨W.heap.size, 0, none⟩ : Addr).add j) = ⟨W.heap.size, j, none⟩ by (simp [Addr.add]; try exact fun h => h.symm)]
  exact (Row.new W [x, y, z] T).cell j hj

set_option maxHeartbeats 8000000 in
set_option maxRecDepth 100000 in
theorem mComplete_any (A : Option Addr) (n c : Nat) (s : Int) (M : Option Addr) (m d : Nat) (E : Option Addr) (k g : Nat) (a : Au) (w : World) (h : AuR w w.heap.size A n c s M m d E k g a) (hsm : chkE a = 0 → a.st ≤ 4000) :
    Calls Try.prog 25 #[.agg #[.slice A n c, .int .i64 s, .slice M m d, .slice E k g]] w fun e w' => GivesA w (cmpR a) e w' := by
  have hb1 := ((Below.refl w.heap.size w).alloc (Nat.le_refl _) (.cells #[.slice A n c, .int .i64 s, .slice M m d, .slice E k g] 25)).alloc (by simp) (.cells #[.slice none 0 0, .int .i64 0, .slice none 0 0, .slice none 0 0] 25)
  have HB1 := Lib.hid hb1
  have hR1 := h.below hb1 (Nat.le_refl _)
  have HC := Lib.hid (mCheck_any A n c s M m d E k g a _ (hR1.more (by simp; omega)))
  have HA := Lib.hid ((Row.new w [.slice A n c, .int .i64 s, .slice M m d, .slice E k g] 25).alloc (.cells #[.slice none 0 0, .int .i64 0, .slice none 0 0, .slice none 0 0] 25))
  have HRes := Lib.hid (show Row ((w.alloc (.cells #[.slice A n c, .int .i64 s, .slice M m d, .slice E k g] 25)).alloc (.cells #[.slice none 0 0, .int .i64 0, .slice none 0 0, .slice none 0 0] 25)) (w.heap.size + 1) 25 [.slice none 0 0, .int .i64 0, .slice none 0 0, .slice none 0 0] by
    have := Row.new (w.alloc (.cells #[.slice A n c, .int .i64 s, .slice M m d, .slice E k g] 25)) [.slice none 0 0, .int .i64 0, .slice none 0 0, .slice none 0 0] 25
    simpa using this)
  have HR := Lib.hid h
  obtain ⟨iE, iE0, iE1, iE2, iE3⟩ := info_parts info_edge
  obtain ⟨u, hu⟩ : ∃ u, u = chkE a := ⟨_, rfl⟩
  rw [← hu] at HC hsm
  have HU := Lib.hid hu
  clear h hR1 hu hb1
  by_cases h0 : u = 0
  · have hb0 : (u != 0) = false := by simp [h0]
    have hri := Lib.hid (right_of (a := a) (by rw [← HU.out, h0]))
    have hr := Lib.hid (show cmpR a = (canA (compA a), 0) by rw [cmpR, if_neg (by rw [← HU.out, h0]; simp)])
    have hs0 := hri.out.st0
    have hs1 := hsm h0
    rw [HR.out.st] at hs0 hs1
    obtain ⟨S, rfl⟩ : ∃ S : Nat, s = (S : Int) := ⟨s.toNat, by omega⟩
    have hS1 : S ≤ 4000 := by omega
    have HST := Lib.hid HR.out.st
    have hn32 := al_len hri.out.toRightW
    rw [HR.out.hn] at hn32
    rw [hr.out]
    clear h0 hsm hs0 hs1
    go_enter Try.func25, Try.ntmps25
    go_wp2_with fail
    refine HC.out.mono ?_
    rintro e w1 ⟨rfl, hbw⟩
    have hA1 := Lib.hid (HA.out.below hbw (by simp; omega))
    have hR1 := Lib.hid (HRes.out.below hbw (by simp))
    have hB1 := Lib.hid (HB1.out.trans (hbw.mono (by simp; omega)))
    have hz := hbw.size
    simp only [World.size_alloc] at hz
    have hwS : IntKind.i64.wrap ((S : Int) + 1) = (S : Int) + 1 := IntWalk.i64_in _ (by omega)
    have hbd0 := Lib.hid (show Bd w1 w1.heap.size w1.heap.size false true (.slice A n c) ((S : Int) + 1) (w1.alloc (.cells #[.slice A n c, .int .i64 ((S : Int) + 1), .slice M m d, .slice none 0 0] 25)) a.mr (.slice M m d) (compE a 0) (.slice none 0 0) from
      ⟨(Below.refl _ _).alloc (Nat.le_refl _) _, Row.new w1 [.slice A n c, .int .i64 ((S : Int) + 1), .slice M m d, .slice none 0 0] 25, fun h => (by cases h), fun _ => World.ownsRow_nil _ _ _ _, Nat.le_refl _⟩)
    clear hbw
    have p0 := hA1.out.cell 0 rfl
    have p1 := hA1.out.cell 1 rfl
    have p2 := hA1.out.cell 2 rfl
    have p3 := hA1.out.cell 3 rfl
    go_wp2_with fail
    go_loopw [31] (fun i wr => ∃ (j : Nat) (ve : Value), j ≤ S + 1 ∧ i = .int .i64 j ∧ Hid (Bd w1 w1.heap.size w1.heap.size false true (.slice A n c) ((S : Int) + 1) wr a.mr (.slice M m d) (compE a j) ve)) (fun i _ => S + 1 - (intOf i).toNat)
    case atStart => exact ⟨0, _, Nat.zero_le _, rfl, hbd0⟩
    case round =>
      clear hbd0 p0 p1 p2 p3
      obtain ⟨j, ve, hjS, rfl, hbd⟩ := hrel
      have hAr := Lib.hid (hA1.out.below hbd.out.bel (by omega))
      have p0 := hAr.out.cell 0 rfl
      have p1 := hAr.out.cell 1 rfl
      have p2 := hAr.out.cell 2 rfl
      have p3 := hAr.out.cell 3 rfl
      by_cases hjl : j < S + 1
      · have hj1 : (j : Int) < (S : Int) + 1 := by omega
        have HBD := Lib.hid hbd.out
        clear hbd
        go_wp2_with fail
        go_loopw [37] (fun i wx => ∃ (t : Nat) (ve : Value), t ≤ n ∧ i = .int .i64 t ∧ Hid (Bd w1 w1.heap.size w1.heap.size false true (.slice A n c) ((S : Int) + 1) wx a.mr (.slice M m d) (compE a j ++ (rowC a j).take t) ve)) (fun i _ => n - (intOf i).toNat)
        case atStart => exact ⟨0, _, Nat.zero_le _, rfl, by rw [List.take_zero, List.append_nil]; exact HBD⟩
        case round =>
          clear HBD p0 p1 p2 p3
          obtain ⟨t, ve, htn, rfl, hbd⟩ := hrel
          have hAr := Lib.hid (hA1.out.below hbd.out.bel (by omega))
          have p0 := hAr.out.cell 0 rfl
          have p1 := hAr.out.cell 1 rfl
          have p2 := hAr.out.cell 2 rfl
          have p3 := hAr.out.cell 3 rfl
          have hbn := HR.out.bn
          by_cases htl : t < n
          · obtain ⟨bA, oA, rfl, hbA, hcA⟩ := HR.out.al (by rw [HR.out.hn]; omega)
            have hz' : t < a.al.length := by rw [HR.out.hn]; exact htl
            have hbw2 := Lib.hid (hB1.out.trans (hbd.out.bel.mono hB1.out.size))
            have ca : wr.cell? ⟨bA, oA + t, none⟩ = some (.int .i64 (a.al.getD t 0)) := (hbw2.out.cell (p := ⟨bA, oA + t, none⟩) hbA).trans (hcA t hz')
            obtain ⟨ev, hev⟩ : ∃ ev, ev = a.al.getD t 0 := ⟨_, rfl⟩
            rw [← hev] at ca
            obtain ⟨es, hes⟩ : ∃ es, es = compE a j ++ (rowC a j).take t := ⟨_, rfl⟩
            have hel : es.length ≤ 200000 := by
              rw [hes, List.length_append, compE_len, List.length_take, HR.out.hn]
              have : j * n ≤ 4000 * 32 := Nat.mul_le_mul (by omega) hn32
              omega
            have hes2 : compE a j ++ (rowC a j).take (t + 1) = es ++ [⟨(j : Int), ev, toC a j ev⟩] := by rw [rowC_take hz', ← hev, hes, List.append_assoc]
            have HES := Lib.hid hes2
            rw [← hes] at hbd
            obtain ⟨sv, hsv⟩ : ∃ sv, sv = (stepO a j ev).getD 0 := ⟨_, rfl⟩
            obtain ⟨sb, hsb⟩ : ∃ sb, sb = (stepO a j ev).isSome := ⟨_, rfl⟩
            have HS := Lib.hid (by
              have := step_any (some ⟨bA, oA, none⟩) n c (S : Int) M m d E k g a j ev w.heap.size wr (HR.out.below hbw2.out (Nat.le_refl _)) hbw2.out.size hri.out.edo
              rw [← hsv, ← hsb] at this; exact this)
            obtain ⟨tt, htt⟩ : ∃ tt, tt = toC a j ev := ⟨_, rfl⟩
            rw [← htt] at HES
            have hcase : (sb = true ∧ tt = sv) ∨ (sb = false ∧ tt = (S : Int)) := by
              rw [hsb, hsv, htt, toC]
              cases stepO a j ev with
              | none => right; exact ⟨rfl, HST.out⟩
              | some y => left; exact ⟨rfl, rfl⟩
            clear hes hes2 hsv hsb htt hcA hev
            rcases hcase with ⟨rfl, rfl⟩ | ⟨rfl, rfl⟩
            all_goals
              go_wp2_with fail
              refine HS.out.mono ?_
              rintro e w4 ⟨rfl, hb4⟩
              have hbd4 := Lib.hid (hbd.out.call hb4)
              have e3 := hbd4.out.cb.cell 3 rfl
              have e3' := hbd4.out.cb.frozen 3
              have heo := Lib.hid (hbd4.out.eo rfl)
              have hs4 := hbd4.out.h2
              clear hb4
            · go_wp2_with (at_builtin; refine wpList_append_own _ rfl _ _ 23 rfl w1.heap.size 67 iE (.agg #[.int .i64 0, .int .i64 0, .int .i64 0]) 3 24 Try.underlying23 iE0 iE1 iE2 iE3 rfl (by decide) _ _ _ rfl (heo.out.alloc _) ⟨w4.heap.size, 0, none⟩ 1 1 [.int .i64 (j : Int), .int .i64 ev, .int .i64 tt] rfl rfl (news_three (by simp)) (by intro u hu; simp at hu; rcases hu with rfl | rfl | rfl <;> rfl) (by unfold maxLen; omega) (by omega) (by simp; omega) ?_)
              intro v5 w5 hown5 hgrow5 _
              have hown6 : OwnE w5 w1.heap.size v5 (es ++ [⟨(j : Int), ev, tt⟩]) := by unfold OwnE; rw [encE_app, List.length_append]; exact hown5
              obtain ⟨A5, c5, hv5, _, _, _⟩ := ownE_rd hown6
              rw [show (es ++ [(⟨(j : Int), ev, tt⟩ : Ed)]).length = es.length + 1 by simp] at hv5
              subst hv5
              have hba := hbd4.out.alloc (.cells #[.int .i64 (j : Int), .int .i64 ev, .int .i64 tt] 67)
              have hcb := Lib.hid (hba.cb.grown hgrow5 (fun e => hba.neE e.symm))
              have hbd6 := Lib.hid (Bd.edge hba hgrow5 hown6)
              rw [← HES.out] at hbd6
              have e3 := hcb.out.cell 3 rfl
              have e3' := hcb.out.frozen 3
              clear hown5 hown6 hgrow5 hba
              go_wp2_with fail
              go_roundw
              case rel => exact ⟨t + 1, _, by omega, by go_num, hbd6⟩
              case measure => simp [intOf]; omega
            · go_wp2_with (at_builtin; refine wpList_append_own _ rfl _ _ 23 rfl w1.heap.size 67 iE (.agg #[.int .i64 0, .int .i64 0, .int .i64 0]) 3 24 Try.underlying23 iE0 iE1 iE2 iE3 rfl (by decide) _ _ _ rfl (heo.out.alloc _) ⟨w4.heap.size, 0, none⟩ 1 1 [.int .i64 (j : Int), .int .i64 ev, .int .i64 (S : Int)] rfl rfl (news_three (by simp)) (by intro u hu; simp at hu; rcases hu with rfl | rfl | rfl <;> rfl) (by unfold maxLen; omega) (by omega) (by simp; omega) ?_)
              intro v5 w5 hown5 hgrow5 _
              have hown6 : OwnE w5 w1.heap.size v5 (es ++ [⟨(j : Int), ev, (S : Int)⟩]) := by unfold OwnE; rw [encE_app, List.length_append]; exact hown5
              obtain ⟨A5, c5, hv5, _, _, _⟩ := ownE_rd hown6
              rw [show (es ++ [(⟨(j : Int), ev, (S : Int)⟩ : Ed)]).length = es.length + 1 by simp] at hv5
              subst hv5
              have hba := hbd4.out.alloc (.cells #[.int .i64 (j : Int), .int .i64 ev, .int .i64 (S : Int)] 67)
              have hcb := Lib.hid (hba.cb.grown hgrow5 (fun e => hba.neE e.symm))
              have hbd6 := Lib.hid (Bd.edge hba hgrow5 hown6)
              rw [← HES.out] at hbd6
              have e3 := hcb.out.cell 3 rfl
              have e3' := hcb.out.frozen 3
              clear hown5 hown6 hgrow5 hba
              go_wp2_with fail
              go_roundw
              case rel => exact ⟨t + 1, _, by omega, by go_num, hbd6⟩
              case measure => simp [intOf]; omega
          · obtain rfl : t = n := by omega
            rw [rowC_all HR.out.hn, ← compE_succ] at hbd
            go_wp2_with fail
            go_roundw
            case rel => exact ⟨j + 1, _, by omega, by go_num, hbd⟩
            case measure => simp [intOf]; omega
      · obtain rfl : j = S + 1 := by omega
        obtain ⟨es, hes⟩ : ∃ es, es = compE a (S + 1) := ⟨_, rfl⟩
        have hel : es.length ≤ 200000 := by
          rw [hes, compE_len, HR.out.hn]
          have : (S + 1) * n ≤ 4001 * 32 := Nat.mul_le_mul (by omega) hn32
          omega
        rw [← hes] at hbd
        have hcr := Lib.hid (comp_right hri.out.toRightW)
        have hca := Lib.hid (show compA a = ⟨a.al, (S : Int) + 1, a.mr, es⟩ by rw [compA, HST.out, hes, Int.toNat_natCast])
        have hbw2 := Lib.hid (hB1.out.trans (hbd.out.bel.mono hB1.out.size))
        obtain ⟨E2, g2, rfl, hE1, hE2, hE3⟩ := ownE_rd (hbd.out.eo rfl)
        have hau := Lib.hid (show AuR wr wr.heap.size A n c ((S : Int) + 1) M m d E2 es.length g2 (compA a) from by
          rw [hca.out]
          exact { al := (HR.out.al.below hbw2.out (Nat.le_refl _)).more hbw2.out.size, mr := (HR.out.mr.below hbw2.out (Nat.le_refl _)).more hbw2.out.size, ed := hE1, hn := HR.out.hn, hm := HR.out.hm, hk := rfl, st := rfl, cn := HR.out.cn, cm := HR.out.cm, ck := ⟨hE2, hE3⟩, bn := HR.out.bn, bm := HR.out.bm, bk := by omega })
        have hCan := Lib.hid (canon_all A n c ((S : Int) + 1) M m d E2 es.length g2 (compA a) wr.heap.size wr hau.out (Nat.le_refl _) hcr.out (by rw [hca.out]; simp only; omega))
        have q0 := hbd.out.cb.cell 0 rfl
        have q1 := hbd.out.cb.cell 1 rfl
        have q2 := hbd.out.cb.cell 2 rfl
        have q3 := hbd.out.cb.cell 3 rfl
        have hszr := hbd.out.h2
        clear hE1 hes
        go_wp2_with fail
        refine hCan.out.mono ?_
        rintro e w3 ⟨v, rfl, ⟨A3, n3, c3, s3, M3, m3, d3, E3, k3, g3, rfl, hau3, ha1, ha2, ha3⟩, hb3⟩
        have hs3 : s3 ≤ 4096 := by
          have h1 := hau3.st
          have h2 := fnd_len hcr.out
          have h3 : (compA a).st = (S : Int) + 1 := by rw [hca.out]
          simp only [canA] at h1
          rw [h3] at h2
          omega
        have hau4 := Lib.hid (show AuF (canA (compA a)) (.agg #[.slice A3 n3 c3, .int .i64 s3, .slice M3 m3 d3, .slice E3 k3 g3]) w3 wr.heap.size from ⟨A3, n3, c3, s3, M3, m3, d3, E3, k3, g3, rfl, hau3, ha1, ha2, ha3⟩)
        have hB3 := Lib.hid (hbw2.out.trans (hb3.mono hbw2.out.size))
        have hRr := Lib.hid ((hR1.out.below hbd.out.bel (by omega)).below hb3 (by omega))
        have hs4 := hb3.size
        have hau5 := Lib.hid (hau4.out.below ((Below.refl w3.heap.size w3).alloc (Nat.le_refl _) (.cells #[.slice A3 n3 c3, .int .i64 s3, .slice M3 m3 d3, .slice E3 k3 g3] 25)))
        have hB5 := Lib.hid (hB3.out.alloc (by omega) (.cells #[.slice A3 n3 c3, .int .i64 s3, .slice M3 m3 d3, .slice E3 k3 g3] 25))
        have hRs := Lib.hid (hRr.out.alloc (.cells #[.slice A3 n3 c3, .int .i64 s3, .slice M3 m3 d3, .slice E3 k3 g3] 25))
        have r0 := hRs.out.cell 0 rfl
        have r1 := hRs.out.cell 1 rfl
        have r2 := hRs.out.cell 2 rfl
        have r3 := hRs.out.cell 3 rfl
        have z0 := hRs.out.frozen 0
        have z1 := hRs.out.frozen 1
        have z2 := hRs.out.frozen 2
        have z3 := hRs.out.frozen 3
        clear hb3 hau3 ha1 ha2 ha3 q0 q1 q2 q3
        go_wp2_with fail
        (try simp only [Exit.inBlock, Exit.then])
        refine bodyPost_ret (v := .tuple #[.agg #[.slice A3 n3 c3, .int .i64 s3, .slice M3 m3 d3, .slice E3 k3 g3], .int .i64 0]) ?_ rfl ⟨_, rfl, ?_, ?_⟩
        · rw [results_cell_tmp1 rfl]
          go_simp
        · exact (hau5.out.set4 (by omega) _ _ _ _).more (by omega)
        · exact below_set4 hB5.out (by omega) _ _ _ _
  · have hb0 : (u != 0) = true := by simp [h0]
    have hr := Lib.hid (show cmpR a = (zeroA, u) by rw [cmpR, if_pos (by rw [← HU.out]; exact h0), HU.out])
    rw [hr.out]
    clear h0
    go_enter Try.func25, Try.ntmps25
    go_wp2_with fail
    refine HC.out.mono ?_
    rintro e w1 ⟨rfl, hbw⟩
    have hR1 := Lib.hid (HRes.out.below hbw (by simp))
    have hB1 := Lib.hid (HB1.out.trans (hbw.mono (by simp; omega)))
    have hz := hbw.size
    simp only [World.size_alloc] at hz
    clear hbw
    have r0 := hR1.out.cell 0 rfl
    have r1 := hR1.out.cell 1 rfl
    have r2 := hR1.out.cell 2 rfl
    have r3 := hR1.out.cell 3 rfl
    have s0 := hR1.out.frozen 0
    have s1 := hR1.out.frozen 1
    have s2 := hR1.out.frozen 2
    have s3 := hR1.out.frozen 3
    go_wp2_with fail
    (try simp only [Exit.inBlock, Exit.then])
    refine bodyPost_ret (v := .tuple #[.agg #[.slice none 0 0, .int .i64 0, .slice none 0 0, .slice none 0 0], .int .i64 u]) ?_ rfl ⟨_, rfl, ?_, ?_⟩
    · rw [results_cell_tmp1 rfl]
      go_simp
    · exact AuF.zero _ _
    · exact below_set4 hB1.out (by omega) _ _ _ _
end Go.Proofs.Ytcciiikaejjooaa
