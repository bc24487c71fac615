/- Texts merged: what follows were texts of their own. -/
import Derived.Test.YtaadhpkpekmfoaaGreatZa7
import Derived.Test.YtaadhpkpekmfoaaGreatZa3
import Derived.Maps.OwnOps
import Derived.Great.FillDense
import Derived.Maps.AppendAt
import Derived.Deep.MidRow
import Derived.Laws.Tables
import Derived.Laws.CopyOwn
import Derived.Test.YtaadhpkpekmfoaaGreatZa5
import Derived.Test.YtaadhpkpekmfoaaGreatZa4
set_option linter.unusedVariables false
set_option linter.unusedSimpArgs false
set_option linter.unusedSectionVars false
/- Layer 3: Words of the program. -/
namespace Go.Proofs.YtaadhpkpekmfoaaGreat
open Go.RowKit Go.Sort

theorem genO_zero {a : Au} {most : Int} (h : a.st = 0) : genO a most = some [] := by rw [genO, if_pos h]
set_option maxHeartbeats 400000 in
theorem generated_zero (A : Option Addr) (n c : Nat) (s : Int) (M : Option Addr) (m d : Nat) (E : Option Addr) (k g : Nat) (a : Au) (most : Int) (w : World) (h : AuR w w.heap.size A n c s M m d E k g a) (hS : s = 0) :
    Calls Tryz.prog 74 #[.agg #[.slice A n c, .int .i64 s, .slice M m d, .slice E k g], .int .i64 most] w fun e w' => GenR w (genO a most) e w' ∧ Below w.heap.size w w' := by
  have hst := h.st
  subst hS
  have hg := Lib.hid (genO_zero (most := most) hst)
  clear h hst
  go_enter Tryz.func74, Tryz.ntmps74
  go_wp2_with fail
  go_ret3
  exact ⟨.inr ⟨_, _, [], [], [], hg.out, rfl, ⟨World.ownsRow_nil _ _ _ _, by simp, World.ownsRow_nil _ _ _ _, by simp⟩, rfl, rfl, by simp, by simp⟩, (Below.refl _ _).alloc (Nat.le_refl _) _⟩
theorem generated_all (A : Option Addr) (n c : Nat) (s : Int) (M : Option Addr) (m d : Nat) (E : Option Addr) (k g : Nat) (a : Au) (most : Int) (w : World) (h : AuR w w.heap.size A n c s M m d E k g a) (hr : Right a) (hm0 : 0 ≤ most) (hm1 : most ≤ 4096) :
    Calls Tryz.prog 74 #[.agg #[.slice A n c, .int .i64 s, .slice M m d, .slice E k g], .int .i64 most] w fun e w' => GenR w (genO a most) e w' ∧ Below w.heap.size w w' := by
  have h0 := hr.st0
  have h1 := hr.st1
  have hs := h.st
  by_cases hz : a.st = 0
  · exact generated_zero A n c s M m d E k g a most w h (by omega)
  · exact generated_any A n c s M m d E k g a a.st.toNat most w h hr.toRightW (by omega) (by omega) (by omega) hm0 hm1

/-- A slice's address leads, below block B, to slices that hold these words (asked only where there are any). -/
def RdL (w : World) (B : Nat) (A : Option Addr) (hs : List Hd) : Prop :=
  0 < hs.length → ∃ b off, A = some ⟨b, off, none⟩ ∧ b < B ∧ ∀ j x, hs[j]? = some x → w.cell? ⟨b, off + j, none⟩ = some x.enc ∧ RdI w B x.A x.z ∧ x.z.length ≤ x.c ∧ x.c ≤ 9223372036854775807
theorem RdL.nil (w : World) (B : Nat) (A : Option Addr) : RdL w B A [] := fun h => absurd h (by simp)
theorem RdL.below {w w' : World} {B B' : Nat} {A : Option Addr} {hs : List Hd} (h : RdL w B A hs) (hb : Below B' w w') (hB : B ≤ B') : RdL w' B A hs := fun h0 => by
  obtain ⟨b, o, e, hlt, hc⟩ := h h0
  exact ⟨b, o, e, hlt, fun j x hx => ⟨(hb.cell (p := ⟨b, o + j, none⟩) (Nat.lt_of_lt_of_le hlt hB)).trans (hc j x hx).1, (hc j x hx).2.1.below hb hB, (hc j x hx).2.2⟩⟩
theorem RdL.more {w : World} {B B' : Nat} {A : Option Addr} {hs : List Hd} (h : RdL w B A hs) (hB : B ≤ B') : RdL w B' A hs := fun h0 => by
  obtain ⟨b, o, e, hlt, hc⟩ := h h0
  exact ⟨b, o, e, by omega, fun j x hx => ⟨(hc j x hx).1, (hc j x hx).2.1.more hB, (hc j x hx).2.2⟩⟩
/-- The words that are kept. -/
def selW (mr : List Int) (mk : Bool) (ps : List (Hd × Int)) : List Hd := (ps.filter fun p => !mk || decide (p.2 ∈ mr)).map Prod.fst
def selL (mr : List Int) (mk : Bool) (L : List (List Int × Int)) : List (List Int) := (L.filter fun p => !mk || decide (p.2 ∈ mr)).map Prod.fst
theorem selW_step {mr : List Int} {mk : Bool} {ps : List (Hd × Int)} {t : Nat} {x : Hd} {q : Int} (h : ps[t]? = some (x, q)) : selW mr mk (ps.take (t + 1)) = selW mr mk (ps.take t) ++ (if (!mk || decide (q ∈ mr)) = true then [x] else []) := by
  have hl := (List.getElem?_eq_some_iff.1 h).1
  have he := (List.getElem?_eq_some_iff.1 h).2
  unfold selW
  rw [List.take_succ_eq_append_getElem hl, he, List.filter_append, List.map_append]
  congr 1
  by_cases hc : (!mk || decide (q ∈ mr)) = true
  · rw [List.filter_cons_of_pos (by exact hc), if_pos hc]; rfl
  · rw [List.filter_cons_of_neg (by exact hc), if_neg hc]; rfl
theorem zip_words {hs : List Hd} {es : List Int} {L : List (List Int × Int)} (h1 : hs.map Hd.z = L.map Prod.fst) (h2 : es = L.map Prod.snd) : (hs.zip es).map (fun p => (p.1.z, p.2)) = L := by
  have : (hs.zip es).map (fun p => (p.1.z, p.2)) = (hs.map Hd.z).zip es := by
    rw [List.zip_map_left]; rfl
  rw [this, h1, h2]
  apply List.ext_getElem
  · simp
  · intro i h1 h2; simp
theorem selW_words {mr : List Int} {mk : Bool} {hs : List Hd} {es : List Int} {L : List (List Int × Int)} (h1 : hs.map Hd.z = L.map Prod.fst) (h2 : es = L.map Prod.snd) : (selW mr mk (hs.zip es)).map Hd.z = selL mr mk L := by
  rw [selL, ← zip_words h1 h2, selW, List.filter_map, List.map_map, List.map_map]; rfl
theorem selW_mem {mr : List Int} {mk : Bool} {hs : List Hd} {es : List Int} {x : Hd} {t : Nat} (h : x ∈ selW mr mk ((hs.zip es).take t)) : x ∈ hs := by
  obtain ⟨p, hp, rfl⟩ := List.mem_map.1 h
  exact (List.of_mem_zip (List.mem_of_mem_take (List.mem_filter.1 hp).1)).1
theorem selW_len (mr : List Int) (mk : Bool) (ps : List (Hd × Int)) (t : Nat) : (selW mr mk (ps.take t)).length ≤ t := by
  unfold selW; rw [List.length_map]
  exact Nat.le_trans (List.length_filter_le _ _) (List.length_take_le _ _)

theorem ownL_rd {w : World} {base B : Nat} {v : Value} {hs : List Hd} (h : w.ownsRow base 27 1 v hs.length (hs.map Hd.enc)) (ho : ∀ x ∈ hs, Own w B x.enc x.z) : ∃ A c, v = .slice A hs.length c ∧ RdL w w.heap.size A hs ∧ hs.length ≤ c ∧ c ≤ 9223372036854775807 := by
  rcases h.2 with ⟨rfl, h0⟩ | ⟨g, cap, cur, rfl, hg, hh, hn, hcap, hsz, htake⟩
  · have : hs = [] := List.eq_nil_of_length_eq_zero h0
    subst this
    exact ⟨none, 0, rfl, RdL.nil _ _ _, Nat.le_refl _, by omega⟩
  · refine ⟨some ⟨g, 0, none⟩, cap, rfl, fun _ => ⟨g, 0, rfl, (h.lt g rfl).2, fun j x hj => ?_⟩, hn, by unfold maxLen at hcap; omega⟩
    have hl := (List.getElem?_eq_some_iff.1 hj).1
    refine ⟨by rw [Nat.zero_add, World.ownsRow.cellAt (cap := cap) h j (by omega), List.getElem?_map, hj]; rfl, ?_⟩
    obtain ⟨A', c', e, hrd, h1, h2⟩ := own_rdc (ho x (List.mem_of_getElem? hj))
    unfold Hd.enc at e
    injection e with e1 e2 e3
    subst e1; subst e3
    exact ⟨hrd, h1, h2⟩
/-- What Words hands back. -/
def wordsR (a : Au) (most : Int) (mk : Bool) : List (List Int) × Int :=
  if chkE a ≠ 0 then ([], chkE a) else if most < 0 ∨ 4096 < most then ([], 2) else match genO a most with | none => ([], 3) | some L => (selL a.mr mk L, 0)
def WdsR (r : List (List Int) × Int) (e : Ending) (w' : World) : Prop := ∃ A c hs, e = .returned (.tuple #[.slice A hs.length c, .int .i64 r.2]) ∧ hs.map Hd.z = r.1 ∧ RdL w' w'.heap.size A hs ∧ hs.length ≤ c ∧ c ≤ 9223372036854775807 ∧ hs.length ≤ 1024
theorem WdsR.nil {r : List (List Int) × Int} {x : Int} (w' : World) (h : r = ([], x)) : WdsR r (.returned (.tuple #[.slice none 0 0, .int .i64 x])) w' := by
  subst h; exact ⟨none, 0, [], rfl, rfl, RdL.nil _ _ _, Nat.le_refl _, by omega, by simp⟩

set_option maxHeartbeats 2000000 in
theorem mWords_any (A : Option Addr) (n c : Nat) (s : Int) (M : Option Addr) (m d : Nat) (E : Option Addr) (k g : Nat) (a : Au) (most : Int) (mk : Bool) (w : World) (h : AuR w w.heap.size A n c s M m d E k g a) :
    Calls Tryz.prog 33 #[.agg #[.slice A n c, .int .i64 s, .slice M m d, .slice E k g], .int .i64 most, .bool mk] w fun e w' => WdsR (wordsR a most mk) e w' ∧ Below w.heap.size w w' := by
  have hb1 := (Below.refl w.heap.size w).alloc (Nat.le_refl _) (.cells #[.slice A n c, .int .i64 s, .slice M m d, .slice E k g] 33)
  have HB1 := Lib.hid hb1
  have hR1 := h.below hb1 (Nat.le_refl _)
  have HC := Lib.hid (mCheck_any A n c s M m d E k g a _ (hR1.more (by simp)))
  have HX := Lib.hid (BoxA.made w A n c s M m d E k g 33)
  have HR := Lib.hid h
  obtain ⟨u, hu⟩ : ∃ u, u = chkE a := ⟨_, rfl⟩
  rw [← hu] at HC
  have HU := Lib.hid hu
  clear h hR1 hu hb1
  by_cases h0 : u = 0
  · have hb0 : (u != 0) = false := by simp [h0]
    have hri := right_of (a := a) (by rw [← HU.out, h0])
    have HRI := Lib.hid hri
    by_cases hm : most < 0 ∨ 4096 < most
    · have hr := Lib.hid (show wordsR a most mk = ([], 2) by rw [wordsR, if_neg (by rw [← HU.out, h0]; simp), if_pos hm])
      clear h0 hri
      rcases hm with hm | hm
      · go_enter Tryz.func33, Tryz.ntmps33
        go_wp2_with fail
        refine HC.out.mono ?_
        rintro e w1 ⟨rfl, hbw⟩
        go_wp2_with fail
        go_ret2
        exact ⟨WdsR.nil _ hr.out, HB1.out.trans (hbw.mono (by simp))⟩
      · have hm2 : ¬ most < 0 := by omega
        go_enter Tryz.func33, Tryz.ntmps33
        go_wp2_with fail
        refine HC.out.mono ?_
        rintro e w1 ⟨rfl, hbw⟩
        go_wp2_with fail
        go_ret2
        exact ⟨WdsR.nil _ hr.out, HB1.out.trans (hbw.mono (by simp))⟩
    · have hm2 : ¬ most < 0 := by omega
      have hm3 : ¬ 4096 < most := by omega
      have hS := Lib.hid (fun W (hW : Below w.heap.size w W) => generated_all A n c s M m d E k g a most W ((HR.out.below hW (Nat.le_refl _)).more hW.size) HRI.out (by omega) (by omega))
      have hr := Lib.hid (show wordsR a most mk = match genO a most with | none => ([], 3) | some L => (selL a.mr mk L, 0) by rw [wordsR, if_neg (by rw [← HU.out, h0]; simp), if_neg hm])
      clear h0 hri hm
      go_enter Tryz.func33, Tryz.ntmps33
      go_wp2_with fail
      refine HC.out.mono ?_
      rintro e w1 ⟨rfl, hbw⟩
      have hX1 := Lib.hid (HX.out.below hbw (by simp))
      obtain ⟨p0, p1, p2, p3⟩ := hX1.out
      have hz := hbw.size
      simp only [World.size_alloc] at hz
      have hB := Lib.hid (HB1.out.trans (hbw.mono (by simp)))
      clear hbw
      go_wp2_with fail
      refine (hS.out _ hB.out).mono ?_
      rintro e w3 ⟨hG, hbw⟩
      have hX3 := Lib.hid (hX1.out.below hbw (by omega))
      have hB3 := Lib.hid (hB.out.trans (hbw.mono hB.out.size))
      have hz3 := hbw.size
      clear p0 p1 p2 p3 hbw
      rcases hG with ⟨hN, rfl⟩ | ⟨vw, ve, hs, es, L, hL, rfl, hgl, hmw, hme, hl, hwl⟩
      · have hr2 := Lib.hid (show wordsR a most mk = ([], 3) by rw [hr.out, hN])
        clear hN
        go_wp2_with fail
        go_ret2
        exact ⟨WdsR.nil _ hr2.out, hB3.out⟩
      · have hr2 := Lib.hid (show wordsR a most mk = (selL a.mr mk L, 0) by rw [hr.out, hL])
        have HGL := Lib.hid hgl
        have HSW := Lib.hid (selW_words (mr := a.mr) (mk := mk) hmw hme)
        obtain ⟨N1, hN1⟩ : ∃ N1, N1 = L.length := ⟨_, rfl⟩
        have hhs := Lib.hid (show hs.length = N1 by have := congrArg List.length hmw; rw [List.length_map, List.length_map, ← hN1] at this; exact this)
        have hes := Lib.hid (show es.length = N1 by rw [hme, List.length_map, hN1])
        have hN2 : N1 ≤ 1024 := by rw [hN1]; exact hl
        obtain ⟨Aw, cw, hvw, hAw⟩ : ∃ Aw cw, vw = .slice Aw N1 cw ∧ ∀ j x, hs[j]? = some x → ∃ g, Aw = some ⟨g, 0, none⟩ ∧ g < w3.heap.size ∧ w3.cell? ⟨g, j, none⟩ = some x.enc := by
          rcases Nat.eq_zero_or_pos N1 with h0 | h0
          · rcases hgl.row.2 with ⟨rfl, _⟩ | ⟨g, cap, cur, rfl, _⟩
            · exact ⟨none, 0, by rw [h0], fun j x hx => by have := (List.getElem?_eq_some_iff.1 hx).1; rw [hhs.out] at this; omega⟩
            · exact ⟨some ⟨g, 0, none⟩, cap, by rw [hhs.out], fun j x hx => by have := (List.getElem?_eq_some_iff.1 hx).1; rw [hhs.out] at this; omega⟩
          · obtain ⟨g, cap, e, _, _, hc⟩ := hgl.len hhs.out h0
            exact ⟨some ⟨g, 0, none⟩, cap, e, fun j x hx => ⟨g, rfl, (hgl.row.lt g (by rw [e]; rfl)).2, hc j x hx⟩⟩
        obtain ⟨Ae, ce, hve, hAe⟩ : ∃ Ae ce, ve = .slice Ae N1 ce ∧ RdI w3 w3.heap.size Ae es := by
          obtain ⟨A', c', e, hrd⟩ := own_rd hgl.ends
          exact ⟨A', c', by rw [e, hes.out], hrd⟩
        subst hvw
        subst hve
        have HAW := Lib.hid hAw
        have HAE := Lib.hid hAe
        obtain ⟨iL, iL0, iL1, iL2, iL3⟩ := info_parts info_ints
        clear hL hgl hmw hme hl hwl hN1 hAw hAe
        go_wp2_with fail
        go_loopw [12, 38] (fun vl i wr => ∃ (t : Nat) (ks : List Hd), i = .int .i64 t ∧ t ≤ N1 ∧ Hid (Below w3.heap.size w3 wr) ∧ Hid (wr.ownsRow w3.heap.size 27 1 vl ks.length (ks.map Hd.enc)) ∧ Hid (ks = selW a.mr mk ((hs.zip es).take t))) (fun _ i _ => N1 - (intOf i).toNat)
        case atStart => exact ⟨0, [], rfl, Nat.zero_le _, Below.refl _ _, World.ownsRow_nil _ _ _ _, rfl⟩
        case round =>
          obtain ⟨t, ks, rfl, htN, hbel, hrow, hks⟩ := hrel
          have hksl := selW_len a.mr mk (hs.zip es) t
          rw [← hks.out] at hksl
          have hsz := hbel.out.size
          by_cases htl : t < N1
          · obtain ⟨x, hx⟩ : ∃ x, hs[t]? = some x := ⟨_, List.getElem?_eq_getElem (by rw [hhs.out]; exact htl)⟩
            obtain ⟨gW, rfl, hgW, hcx⟩ := HAW.out t x hx
            obtain ⟨bE, oE, rfl, hbE, hcE⟩ := HAE.out (by rw [hes.out]; omega)
            have h1 := hcE t (by rw [hes.out]; exact htl)
            obtain ⟨q, hq⟩ : ∃ q, q = es.getD t 0 := ⟨_, rfl⟩
            rw [← hq] at h1
            have hzp : (hs.zip es)[t]? = some (x, q) := by
              rw [List.getElem?_zip_eq_some]
              exact ⟨hx, by rw [hq, List.getElem?_eq_getElem (show t < es.length by rw [hes.out]; exact htl)]; simp [List.getD, List.getElem?_eq_getElem (show t < es.length by rw [hes.out]; exact htl)]⟩
            have hst := Lib.hid (selW_step (mr := a.mr) (mk := mk) hzp)
            have k1 : wr.cell? ⟨gW, t, none⟩ = some x.enc := (hbel.out.cell (p := ⟨gW, t, none⟩) hgW).trans hcx
            have k2 : wr.cell? ⟨bE, oE + t, none⟩ = some (.int .i64 q) := (hbel.out.cell (p := ⟨bE, oE + t, none⟩) hbE).trans h1
            obtain ⟨y0, y1, y2, y3⟩ := hX3.out.below hbel.out (by omega)
            have hM := Lib.hid (fun W (hW : Below w.heap.size w W) => mContains_any M m d w.heap.size a.mr q W (HR.out.mr.below hW (Nat.le_refl _)) HR.out.hm (by have := HR.out.bm; omega) (up_of HRI.out.mro))
            have hBr := Lib.hid (hB3.out.trans (hbel.out.mono hB3.out.size))
            obtain ⟨Ax, cx, zx⟩ := x
            simp only [Hd.enc] at k1
            obtain ⟨lx, hlx⟩ : ∃ lx, lx = zx.length := ⟨_, rfl⟩
            rw [← hlx] at k1
            have HLX := Lib.hid hlx
            clear hx hcx hcE h1 hq hzp hlx
            obtain ⟨yes, hyes⟩ : ∃ yes, yes = (!mk || decide (q ∈ a.mr)) := ⟨_, rfl⟩
            rw [← hyes] at hst
            have HY := Lib.hid hyes
            clear hyes
            go_wp2_with fail
            go_upto_region 13 with fail
            go_cut [38, 53] from 38 to 58 (fun i c wx => i = .int .i64 (t : Int) ∧ c = .bool yes ∧ ∃ q', wx = wr.drewN q')
            case first =>
              cases mk
              · have hy : yes = true := by rw [HY.out]; rfl
                subst hy
                go_quiet (fail)
                go_wp2_with fail
                go_meet
                case rel => exact ⟨rfl, rfl, _, rfl⟩
              · have hy : decide (q ∈ a.mr) = yes := by rw [HY.out]; rfl
                have hM1 := Lib.hid (fun q' => (hM.out (wr.drewN q') (below_drewN hBr.out q')).mono (R' := fun e w' => e = .returned (.bool yes) ∧ w' = wr.drewN q') fun e w' h => ⟨by rw [h.1, hy], h.2.symm⟩)
                clear hM
                go_quiet ((go_at_call 75; exact Calls.quiet_of_same (hM1.out _)))
                go_wp2_with fail
                go_meet
                case rel => exact ⟨rfl, rfl, _, rfl⟩
            case rest =>
              obtain ⟨rfl, rfl, q', rfl⟩ := hcut
              have hbel2 := Lib.hid (below_drewN hbel.out q')
              have hrow2 := Lib.hid (own_dr hrow.out q')
              have hsz2 : w3.heap.size ≤ (wr.drewN q').heap.size := hsz
              clear hbel hrow k1 k2 y0 y1 y2 y3 hM hBr hsz
              generalize wr.drewN q' = wr at *
              cases yes
              · rw [if_neg (by simp), List.append_nil] at hst
                have hks2 := Lib.hid (show ks = selW a.mr mk ((hs.zip es).take (t + 1)) by rw [hst.out, hks.out])
                go_wp2_with fail
                go_roundw
                case measure => simp [intOf]; omega
                case rel => exact ⟨t + 1, ks, by go_num, by omega, hbel2, hrow2, hks2⟩
              · rw [if_pos rfl] at hst
                have hks2 := Lib.hid (show ks ++ [⟨Ax, cx, zx⟩] = selW a.mr mk ((hs.zip es).take (t + 1)) by rw [hst.out, hks.out])
                have hrow3 := Lib.hid (hrow2.out.alloc (.cells #[.slice Ax lx cx] 27))
                obtain ⟨K1, hK1⟩ : ∃ K1, K1 = ks.length := ⟨_, rfl⟩
                rw [← hK1] at hrow3 hksl
                have HK1 := Lib.hid hK1
                clear hK1
                go_wp2_with (at_builtin; refine wpList_append_lies _ rfl (.tmp 54) (.tmp 56) 36 rfl w3.heap.size 27 iL (.slice none 0 0) 1 24 Tryz.underlying36 iL0 iL1 iL2 iL3 rfl (by omega) u12 K1 (ks.map Hd.enc) rfl hrow3.out ⟨wr.heap.size, 0, none⟩ 1 1 [.slice Ax lx cx] rfl rfl (news_one rfl) (by simp [Value.oneCell']) (by omega) (by unfold maxLen; omega) (by omega) (by simp; omega) (wr.heap.size + 1) (by simp) ?_; intro gN capN w9 hown9 hgrow9 hat9 hlt9)
                have hrow9 := Lib.hid (show w9.ownsRow w3.heap.size 27 1 (.slice (some ⟨gN, 0, none⟩) (K1 + 1) capN) (ks ++ [(⟨Ax, cx, zx⟩ : Hd)]).length ((ks ++ [(⟨Ax, cx, zx⟩ : Hd)]).map Hd.enc) by
                  rw [List.length_append, ← HK1.out, List.map_append]; simp only [List.map_cons, List.map_nil, Hd.enc, ← HLX.out]; exact hown9)
                have hb9 := Lib.hid (show Below w3.heap.size w3 w9 from (hbel2.out.alloc hsz2 (.cells #[.slice Ax lx cx] 27)).grown hgrow9 (by simp; omega) (fun k hk => (hrow3.out.lt k hk).1))
                clear hown9 hgrow9 hat9 hlt9
                go_wp2_with fail
                go_roundw
                case measure => simp [intOf]; omega
                case rel => exact ⟨t + 1, _, by go_num, by omega, hb9, hrow9, hks2⟩
          · obtain rfl : t = N1 := by omega
            have hks2 := Lib.hid (show ks = selW a.mr mk (hs.zip es) by rw [hks.out, List.take_of_length_le]; rw [List.length_zip, hhs.out, hes.out]; simp)
            obtain ⟨A2, c2, rfl, hrd⟩ := ownL_rd hrow.out (fun x hx => (HGL.out.below hbel.out).own x (by rw [hks2.out] at hx; exact selW_mem (t := (hs.zip es).length) (by rwa [List.take_of_length_le (Nat.le_refl _)])))
            have HRD := Lib.hid hrd
            clear hrd
            go_wp2_with fail
            go_ret2
            exact ⟨⟨A2, c2, ks, by rw [hr2.out]; rfl, by rw [hr2.out, hks2.out]; exact HSW.out, HRD.out.1, HRD.out.2.1, HRD.out.2.2, by omega⟩, hB3.out.trans (hbel.out.mono hB3.out.size)⟩
  · have hb0 : (u != 0) = true := by simp [h0]
    have hr := Lib.hid (show wordsR a most mk = ([], u) by rw [wordsR, ← HU.out, if_pos h0])
    clear h0
    go_enter Tryz.func33, Tryz.ntmps33
    go_wp2_with fail
    refine HC.out.mono ?_
    rintro e w1 ⟨rfl, hbw⟩
    go_wp2_with fail
    go_ret2
    exact ⟨WdsR.nil _ hr.out, HB1.out.trans (hbw.mono (by simp))⟩
end Go.Proofs.YtaadhpkpekmfoaaGreat

/- Layer 7: the estimates that have been found: their list and their numbers; number. -/
namespace Go.Proofs.YtaadhpkpekmfoaaGreat
open Go.RowKit Go.Sort Go.Maps Go.WideMaps

theorem zeroIntJ (w : World) : (zeroValue 3).run Tryz.prog w = .ok (.int .i64 0) w := by kernel_rfl
theorem wf_smallJ {x : Int} (h0 : -9223372036854775808 ≤ x) (h : x ≤ 9223372036854775807) : (Lit.int .i64 x).wf = true := by
  show (decide (IntKind.min .i64 ≤ x) && decide (x ≤ IntKind.max .i64)) = true
  rw [show IntKind.min .i64 = -9223372036854775808 from rfl, show IntKind.max .i64 = 9223372036854775807 from rfl]
  simp [h0, h]
/-- The found estimates: F the box of their list, B the box of their map, M the map. -/
structure FS (w : World) (F B M base : Nat) (v : Value) (hs : List Hd) : Prop where
  nu : Row w B 128 [.map (some M)]
  fo : Row w F 36 [v]
  mp : w.ownsMap Tryz.prog 9 (plainElem Tryz.prog 3) M hs.length (mpS (hs.map Hd.z))
  ow : w.ownsRow base 27 1 v hs.length (hs.map Hd.enc)
  rw : ∀ x ∈ hs, Own w base x.enc x.z
  ok : ∀ x ∈ hs, SKey x.z
  nd : (hs.map Hd.z).Nodup
  hb : base ≤ w.heap.size
/-- What is kept when an estimate is numbered. -/
structure KpS (w w' : World) (F M : Nat) (v : Value) : Prop where
  os : w'.os = w.os
  tape : w'.tape = w.tape
  output : w'.output = w.output
  size : w.heap.size ≤ w'.heap.size
  block : ∀ k, k < w.heap.size → k ≠ F → k ≠ M → v.ownBlock ≠ some k → w'.heap[k]? = w.heap[k]?
def addS (hs : List Hd) (x : Hd) : List Hd := if x.z ∈ hs.map Hd.z then hs else hs ++ [x]
theorem ownsMap_ne_rowS {H : Type} {w : World} {P : Program} {k : TypeId} {R : Value → Option (DataW H × List MemPlace)} {M n : Nat} {D : DataW H} {g : Nat} {e : TypeId} {cs : List Value} (h : w.ownsMap P k R M n D) (hr : Row w g e cs) : M ≠ g := by
  rintro rfl
  obtain ⟨es, clock, hb, _⟩ := h
  rw [hr] at hb; cases hb
theorem ownsMap_ne_ownS {H : Type} {w : World} {P : Program} {k : TypeId} {R : Value → Option (DataW H × List MemPlace)} {M n : Nat} {D : DataW H} {base sz m : Nat} {e : TypeId} {v : Value} {xs : List Value} (h : w.ownsMap P k R M n D) (hr : w.ownsRow base e sz v m xs) : v.ownBlock ≠ some M := by
  rcases hr.2 with ⟨rfl, _⟩ | ⟨g2, _, _, rfl, _, hg2, _⟩
  · simp [Value.ownBlock]
  · intro h'
    obtain ⟨es, clock, hb, _⟩ := h
    simp only [Value.ownBlock, Option.some.injEq] at h'
    rw [h'] at hg2
    rw [hg2] at hb; cases hb
theorem row_ne_rowS {w : World} {g1 g2 : Nat} {e1 e2 : TypeId} {c1 c2 : List Value} (h1 : Row w g1 e1 c1) (h2 : Row w g2 e2 c2) (he : e1 ≠ e2) : g1 ≠ g2 := by
  rintro rfl
  have h := h1.symm.trans h2
  simp only [Option.some.injEq, Obj.cells.injEq] at h
  exact he h.2.1
theorem gr_of_belowS {w w' : World} (hb : Below w.heap.size w w') : w.grownBy w' none := ⟨hb.os, hb.tape, hb.output, hb.size, fun i hi _ => hb.block i hi⟩
theorem FS.below {w w' : World} {F B M base : Nat} {v : Value} {hs : List Hd} (h : FS w F B M base v hs) (hb : Below w.heap.size w w') : FS w' F B M base v hs :=
  ⟨h.nu.below hb h.nu.lt, h.fo.below hb h.fo.lt, h.mp.kept (gr_of_belowS hb) (by simp), own_below h.ow hb, fun x hx => own_below (h.rw x hx) hb, h.ok, h.nd, Nat.le_trans h.hb hb.size⟩
theorem FS.push {w w2 w4 : World} {F B M base : Nat} {v v' : Value} {hs : List Hd} {x : Hd} {o2 : Obj} (h : FS w F B M base v hs) (hx : Own w base x.enc x.z) (hk : SKey x.z) (hn : x.z ∉ hs.map Hd.z)
    (hm : w2.ownsMap Tryz.prog 9 (plainElem Tryz.prog 3) M (hs.length + 1) ((mpS (hs.map Hd.z)).put (KS x.z) (.lit (.int .i64 (hs.length : Int)))))
    (hg : w.grownBy w2 (some M)) (ho : w4.ownsRow base 27 1 v' (hs.length + 1) (hs.map Hd.enc ++ [x.enc])) (hg4 : (w2.alloc o2).grownBy w4 v.ownBlock) :
    FS (w4.setCell ⟨F, 0, none⟩ v') F B M base v' (hs ++ [x]) ∧ KpS w (w4.setCell ⟨F, 0, none⟩ v') F M v := by
  have hMF := ownsMap_ne_rowS h.mp h.fo
  have hMB := ownsMap_ne_rowS h.mp h.nu
  have hBF := row_ne_rowS h.nu h.fo (by decide)
  have hMv := ownsMap_ne_ownS h.mp h.ow
  have hBv := row_ne_own h.nu h.ow (by decide)
  have hFv := row_ne_own h.fo h.ow (by decide)
  have s1 := hg.size
  have s2 := hg4.size
  have hn2 : Row w2 B 128 [.map (some M)] := h.nu.grown hg (by simp; exact fun e => hMB e)
  have hf2 : Row w2 F 36 [v] := h.fo.grown hg (by simp; exact fun e => hMF e)
  have hn4 : Row w4 B 128 [.map (some M)] := (hn2.alloc o2).grown hg4 hBv
  have hf4 : Row w4 F 36 [v] := (hf2.alloc o2).grown hg4 hFv
  have hm4 := (hm.alloc o2).kept hg4 (fun e => hMv e.symm)
  have hFv4 := row_ne_own hf4 ho (by decide)
  have hr4 : ∀ y ∈ hs ++ [x], Own w4 base y.enc y.z := fun y hy => by
    have h0 : Own w base y.enc y.z := by
      rcases List.mem_append.1 hy with hy | hy
      · exact h.rw y hy
      · rw [List.mem_singleton.1 hy]; exact hx
    have h1 : Own w2 base y.enc y.z := World.ownsRow.kept h0 hg (.inr (ownsMap_ne_ownS h.mp h0))
    exact World.ownsRow.kept (h1.alloc o2) hg4 (owns_ne h0 h.ow (by decide))
  have hsz : ∀ (W : World) (o : Obj), (W.alloc o).heap.size = W.heap.size + 1 := fun W o => by simp
  rw [hsz] at s2
  refine ⟨⟨hn4.setOther (p := ⟨F, 0, none⟩) hBF _, hf4.set 0 v', ?_, ?_, ?_, ?_, ?_, ?_⟩, ⟨?_, ?_, ?_, ?_, ?_⟩⟩
  · rw [List.map_append, List.map_singleton, mpS_snoc, List.length_append, List.length_map]; exact hm4.setCell hMF _
  · rw [List.length_append, List.map_append]; exact ownsRow_setCell_other ho hFv4 _
  · exact fun y hy => ownsRow_setCell_other (hr4 y hy) (row_ne_own hf4 (hr4 y hy) (by decide)) _
  · intro y hy
    rcases List.mem_append.1 hy with hy | hy
    · exact h.ok y hy
    · rw [List.mem_singleton.1 hy]; exact hk
  · rw [List.map_append, List.nodup_append]
    exact ⟨h.nd, by simp, fun a ha b hb e => hn (by simp at hb; rw [hb] at e; rw [← e]; exact ha)⟩
  · have := h.hb; simp [World.setCell]; omega
  · exact Eq.trans (b := w2.os) hg4.os hg.os
  · exact Eq.trans (b := w2.tape) hg4.tape hg.tape
  · exact Eq.trans (b := w2.output) hg4.output hg.output
  · simp [World.setCell]; omega
  · intro k hk hF hM hv
    rw [Below.heap_setCell _ _ _ _ (show k ≠ (⟨F, 0, none⟩ : Addr).block from hF), hg4.block k (by rw [hsz]; omega) (fun e => hv e.symm), Below.heap_alloc _ _ _ (show k < w2.heap.size by omega), hg.block k (by omega) (by simpa using hM)]
theorem info_intsE : ∃ iS, Tryz.prog.info? 27 = some iS ∧ iS.zero = some (.slice none 0 0) ∧ iS.size = 1 ∧ iS.bytes = 24 := by
  obtain ⟨i0, hi, hz0, hz1, hz2⟩ := info_parts info_ints
  exact ⟨i0, hi, hz0, hz1, hz2⟩
set_option maxHeartbeats 4000000 in
set_option maxRecDepth 100000 in
theorem jNumber_any (F B M base : Nat) (v : Value) (hs : List Hd) (x : Hd) (w : World) (h : FS w F B M base v hs) (hx : Own w base x.enc x.z) (hk : SKey x.z) (hl : hs.length ≤ 1000000) :
    Calls Tryz.prog 88 #[.slice x.A x.z.length x.c, .pointer (some ⟨B, 0, none⟩), .pointer (some ⟨F, 0, none⟩)] w fun e w' => e = .returned (.int .i64 ((((addS hs x).map Hd.z).idxOf x.z : Nat) : Int)) ∧ ∃ v', FS w' F B M base v' (addS hs x) ∧ KpS w w' F M v := by
  have HT := Lib.hid (jText_any x.A x.z.length x.c x.z w (by obtain ⟨A, c, e, hr, _⟩ := own_rdc hx; injection e with e1 _ _; rw [e1]; exact hr) rfl hk.2 hk.1)
  have H := Lib.hid h
  have HX := Lib.hid hx
  have HK := Lib.hid hk
  obtain ⟨n, hn⟩ : ∃ n, n = hs.length := ⟨_, rfl⟩
  have HN := Lib.hid hn
  have hl' : n ≤ 1000000 := by omega
  have hkey := Lib.hid (key_set hk.2)
  have hrd := Lib.hid (mpS_reads (hs.map Hd.z) (fun t ht => by obtain ⟨y, hy, rfl⟩ := List.mem_map.1 ht; exact h.ok y hy) h.nd x.z hk)
  obtain ⟨xl, hxl⟩ : ∃ l, l = x.z.length := ⟨_, rfl⟩
  obtain ⟨A, c, hv⟩ := own_shapeS h.ow
  rw [← hn] at hv
  subst hv
  rw [← hxl] at HT ⊢
  clear h hx hk
  by_cases hin : x.z ∈ hs.map Hd.z
  · have hh : has (mpS (hs.map Hd.z)) (KS x.z) = true := by rw [hrd.out.1]; exact decide_eq_true hin
    have hat0 := Lib.hid hrd.out.2
    rw [if_pos hin] at hat0
    have hadd : addS hs x = hs := by unfold addS; rw [if_pos hin]
    rw [hadd]
    clear hrd hadd hn hxl
    go_enter Tryz.func88, Tryz.ntmps88
    go_wp2_with fail
    refine HT.out.mono ?_
    rintro e w2 ⟨rfl, hb2⟩
    have H2 := Lib.hid (H.out.below hb2)
    have HB2 := Lib.hid hb2
    have hB := H2.out.nu.cell 0 rfl
    have hF := H2.out.fo.cell 0 rfl
    have HMP := Lib.hid H2.out.mp
    clear hb2
    go_wp2_with (first
      | (at_lookup; refine wpList_lookup_own_ok_int _ rfl _ _ 128 rfl 9 3 .i64 lawStr Tryz.underlying128 Tryz.underlying3 (zeroIntJ _) M hs.length (mpS (hs.map Hd.z)) rfl HMP.out _ _ rfl hkey.out ?_; intro c0 hat hwc; have hat := Lib.hid hat; rw [hh]))
    go_ret
    have hc : c0 = ((hs.map Hd.z).idxOf x.z : Int) := by
      have := hat.out.symm.trans hat0.out
      simpa using this
    exact ⟨congrArg (fun k : Int => Ending.returned (.int .i64 k)) hc, _, H2.out, ⟨HB2.out.os, HB2.out.tape, HB2.out.output, HB2.out.size, fun k hk _ _ _ => HB2.out.block k hk⟩⟩
  · have hh : has (mpS (hs.map Hd.z)) (KS x.z) = false := by rw [hrd.out.1]; exact decide_eq_false hin
    have hadd : addS hs x = hs ++ [x] := by unfold addS; rw [if_neg hin]
    have HIN := Lib.hid hin
    have hidx : ((hs ++ [x]).map Hd.z).idxOf x.z = n := by rw [hn]; simp [List.idxOf_append, hin]
    rw [hadd, hidx]
    have hval := Lib.hid (plainElem_int (H := Unit) (P := Tryz.prog) (a := (n : Int)) Tryz.underlying3 (wf_smallJ (by omega) (by omega)))
    have hlm : hs.length < maxLen := by unfold maxLen; omega
    have hlm1 : hs.length + 1 ≤ maxLen := by unfold maxLen; omega
    have hlm2 : (hs.length + 1) * 24 ≤ 140737488355328 := by omega
    obtain ⟨iS, iS0, iS1, iS2, iS3⟩ := info_intsE
    have hxe : Hd.enc x = .slice x.A xl x.c := by rw [hxl]; rfl
    have HXE := Lib.hid hxe
    clear hrd hadd hidx hin hn hxl hxe
    go_enter Tryz.func88, Tryz.ntmps88
    go_wp2_with fail
    refine HT.out.mono ?_
    rintro e w2 ⟨rfl, hb2⟩
    have H2 := Lib.hid (H.out.below hb2)
    have HX2 := Lib.hid (own_below HX.out hb2)
    have HB2 := Lib.hid hb2
    have hB := H2.out.nu.cell 0 rfl
    have hF := H2.out.fo.cell 0 rfl
    have HMP := Lib.hid H2.out.mp
    clear hb2
    go_wp2_with (first
      | (at_lookup; refine wpList_lookup_own_ok_int _ rfl _ _ 128 rfl 9 3 .i64 lawStr Tryz.underlying128 Tryz.underlying3 (zeroIntJ _) M hs.length (mpS (hs.map Hd.z)) rfl HMP.out _ _ rfl hkey.out ?_; intro c0 hat hwc; rw [hh]; clear hat hwc)
      | (at_mapUpdate; refine wpList_mapUpdate_own _ rfl _ _ _ 128 rfl 9 3 lawStr Tryz.underlying128 (plainElem Tryz.prog 3) M hs.length (mpS (hs.map Hd.z)) rfl HMP.out hlm _ _ _ rfl rfl hkey.out _ [] hval.out ?_; intro w3 hown3 hgr3
         have HM3 := Lib.hid hown3; have HG3 := Lib.hid hgr3; clear hown3 hgr3
         have hF := (H2.out.fo.grown HG3.out (fun e => ownsMap_ne_rowS H2.out.mp H2.out.fo (by injection e with e))).cell 0 rfl
         have HO3 := Lib.hid (World.ownsRow.kept H2.out.ow HG3.out (.inr (ownsMap_ne_ownS H2.out.mp H2.out.ow)))
         have hz3 := HG3.out.size)
      | (at_builtin; refine wpList_append_own_at _ rfl (.tmp 23) (.tmp 25) 36 rfl base 27 iS _ 1 24 Tryz.underlying36 iS0 iS1 iS2 iS3 rfl (by decide) _ hs.length (hs.map Hd.enc) rfl (HO3.out.alloc (.cells #[.slice x.A xl x.c] 27)) ⟨w3.heap.size, 0, none⟩ 1 1 [.slice x.A xl x.c] rfl rfl (World.news_of_block (cs := #[.slice x.A xl x.c]) (t := 27) (fr := (0, 0)) (heap_alloc_new w3 _)) (by simp [Value.oneCell']) hlm1 hlm2 (by have := H2.out.hb; simp; omega) ?_
         intro v4 w4 ho4 hg4 _ hbl; obtain ⟨A4, c4, hv4⟩ := own_shapeS ho4; subst hv4
         have HO4 := Lib.hid ho4; have HG4 := Lib.hid hg4; clear ho4 hg4 hbl
         have hF4 := ((H2.out.fo.grown HG3.out (fun e => ownsMap_ne_rowS H2.out.mp H2.out.fo (by injection e with e))).alloc (.cells #[.slice x.A xl x.c] 27)).grown HG4.out (row_ne_own H2.out.fo H2.out.ow (by decide))
         have hF := hF4.cell 0 rfl
         have hFf := hF4.frozen 0
         clear hF4))
    go_ret
    rw [HN.out] at HM3
    have hp := H2.out.push (x := x) HX2.out HK.out HIN.out HM3.out HG3.out (by rw [HXE.out]; exact HO4.out) HG4.out
    refine ⟨rfl, ⟨_, hp.1, ?_⟩⟩
    have hk := hp.2
    have hb := HB2.out
    exact ⟨hk.os.trans hb.os, hk.tape.trans hb.tape, hk.output.trans hb.output, Nat.le_trans hb.size hk.size, fun k hk0 hk1 hk2 hk3 => (hk.block k (Nat.lt_of_lt_of_le hk0 hb.size) hk1 hk2 hk3).trans (hb.block k hk0)⟩
end Go.Proofs.YtaadhpkpekmfoaaGreat

/- Layer 7: flagsOf; Reach. -/
namespace Go.Proofs.YtaadhpkpekmfoaaGreat
open Go.RowKit Go.Sort

theorem fl_len (ev : List Int) : (flR ev).length = 32 := by simp [flR]
theorem fl_set {ev : List Int} {e : Nat} : (flR ev).set e (.bool true) = flR (ev ++ [(e : Int)]) := by
  unfold flR
  apply List.ext_getElem
  · simp
  · intro i h1 h2
    rw [List.getElem_set]
    simp only [List.getElem_map, List.getElem_range]
    by_cases h : e = i
    · subst h; simp
    · rw [if_neg h]
      congr 1
      have : ¬ (i : Int) = (e : Int) := by omega
      simp [this]
theorem fl_nil : flR [] = [.bool false, .bool false, .bool false, .bool false, .bool false, .bool false, .bool false, .bool false, .bool false, .bool false, .bool false, .bool false, .bool false, .bool false, .bool false, .bool false, .bool false, .bool false, .bool false, .bool false, .bool false, .bool false, .bool false, .bool false, .bool false, .bool false, .bool false, .bool false, .bool false, .bool false, .bool false, .bool false] := rfl
theorem flags_size : (Tryz.prog.info? 86).map (·.size) = some 32 := by kernel_rfl
theorem fl_one (ev : List Int) : ((flR ev).toArray).all (·.oneCell') = true := by
  rw [List.all_toArray, List.all_eq_true]
  intro x hx
  obtain ⟨e, _, rfl⟩ := List.mem_map.1 hx
  rfl
theorem fl_range {w : World} {b : Nat} {ev : List Int} (h : Row w b 86 (flR ev)) : w.rangeAt b 0 (flR ev) := fun i v hi => by rw [Nat.zero_add]; exact h.cell i hi
set_option maxHeartbeats 4000000 in
set_option maxRecDepth 100000 in
theorem jFlags_any (A : Option Addr) (n c : Nat) (zs : List Int) (w : World) (hx : RdI w w.heap.size A zs) (hn : zs.length = n) (hnb : n ≤ 100000) (hf : ∀ x ∈ zs, 0 ≤ x ∧ x < 32) :
    Calls Tryz.prog 57 #[.slice A n c] w fun e w' => e = .returned (.agg (flR zs).toArray) ∧ Below w.heap.size w w' := by
  have HX := Lib.hid hx
  have HN := Lib.hid hn
  have HF := Lib.hid hf
  clear hx hn hf
  have HB0 := Lib.hid (((Below.refl w.heap.size w).alloc (Nat.le_refl _) (.cells #[.bool false, .bool false, .bool false, .bool false, .bool false, .bool false, .bool false, .bool false, .bool false, .bool false, .bool false, .bool false, .bool false, .bool false, .bool false, .bool false, .bool false, .bool false, .bool false, .bool false, .bool false, .bool false, .bool false, .bool false, .bool false, .bool false, .bool false, .bool false, .bool false, .bool false, .bool false, .bool false] 86)).alloc (by simp) (.cells #[.bool false, .bool false, .bool false, .bool false, .bool false, .bool false, .bool false, .bool false, .bool false, .bool false, .bool false, .bool false, .bool false, .bool false, .bool false, .bool false, .bool false, .bool false, .bool false, .bool false, .bool false, .bool false, .bool false, .bool false, .bool false, .bool false, .bool false, .bool false, .bool false, .bool false, .bool false, .bool false] 86))
  have HR0 := Lib.hid (show Row ((w.alloc (.cells #[.bool false, .bool false, .bool false, .bool false, .bool false, .bool false, .bool false, .bool false, .bool false, .bool false, .bool false, .bool false, .bool false, .bool false, .bool false, .bool false, .bool false, .bool false, .bool false, .bool false, .bool false, .bool false, .bool false, .bool false, .bool false, .bool false, .bool false, .bool false, .bool false, .bool false, .bool false, .bool false] 86)).alloc (.cells #[.bool false, .bool false, .bool false, .bool false, .bool false, .bool false, .bool false, .bool false, .bool false, .bool false, .bool false, .bool false, .bool false, .bool false, .bool false, .bool false, .bool false, .bool false, .bool false, .bool false, .bool false, .bool false, .bool false, .bool false, .bool false, .bool false, .bool false, .bool false, .bool false, .bool false, .bool false, .bool false] 86)) w.heap.size 86 (flR []) from (Row.new w (flR []) 86).alloc _)
  have HR1 := Lib.hid (show Row ((w.alloc (.cells #[.bool false, .bool false, .bool false, .bool false, .bool false, .bool false, .bool false, .bool false, .bool false, .bool false, .bool false, .bool false, .bool false, .bool false, .bool false, .bool false, .bool false, .bool false, .bool false, .bool false, .bool false, .bool false, .bool false, .bool false, .bool false, .bool false, .bool false, .bool false, .bool false, .bool false, .bool false, .bool false] 86)).alloc (.cells #[.bool false, .bool false, .bool false, .bool false, .bool false, .bool false, .bool false, .bool false, .bool false, .bool false, .bool false, .bool false, .bool false, .bool false, .bool false, .bool false, .bool false, .bool false, .bool false, .bool false, .bool false, .bool false, .bool false, .bool false, .bool false, .bool false, .bool false, .bool false, .bool false, .bool false, .bool false, .bool false] 86)) (w.heap.size + 1) 86 (flR ([] : List Int)) by
    have := Row.new (w.alloc (.cells #[.bool false, .bool false, .bool false, .bool false, .bool false, .bool false, .bool false, .bool false, .bool false, .bool false, .bool false, .bool false, .bool false, .bool false, .bool false, .bool false, .bool false, .bool false, .bool false, .bool false, .bool false, .bool false, .bool false, .bool false, .bool false, .bool false, .bool false, .bool false, .bool false, .bool false, .bool false, .bool false] 86)) (flR []) 86
    rw [World.size_alloc] at this
    exact this)
  go_enter Tryz.func57, Tryz.ntmps57
  go_wp2_with fail
  go_loopw [5, 8] (fun _ iv wr => ∃ k : Nat, k ≤ n ∧ iv = .int .i64 k ∧ Hid (Row wr (w.heap.size + 1) 86 (flR (zs.take k))) ∧ Hid (Row wr w.heap.size 86 (flR [])) ∧ Hid (Below w.heap.size w wr)) (fun _ i _ => n - (intOf i).toNat)
  case atStart => exact ⟨0, Nat.zero_le _, rfl, HR1, HR0, HB0⟩
  case round =>
    clear HR0 HR1 HB0
    obtain ⟨k, hk, rfl, hr1, hr0, hbel⟩ := hrel
    by_cases hlt : k < n
    · obtain ⟨b, o, rfl, hb, hc⟩ := HX.out (by rw [HN.out]; omega)
      have hz : k < zs.length := by rw [HN.out]; exact hlt
      have hc1 := (hbel.out.cell (p := ⟨b, o + k, none⟩) hb).trans (hc k hz)
      have hf := HF.out _ (getD_mem hz)
      obtain ⟨e, he⟩ : ∃ e : Nat, zs.getD k 0 = (e : Int) := ⟨(zs.getD k 0).toNat, by omega⟩
      rw [he] at hc1 hf
      have he32 : e < 32 := by omega
      have hs := hr1.out.set e (.bool true)
      rw [fl_set, ← he, ← take_getD hz] at hs
      have HS := Lib.hid hs
      have c1 := hr1.out.cell e (flR_at _ he32)
      have f1 := hr1.out.frozen e
      have hs0 := Lib.hid (hr0.out.setOther (p := ⟨w.heap.size + 1, e, none⟩) (by show w.heap.size ≠ w.heap.size + 1; omega) (.bool true))
      have hb1 := Lib.hid (hbel.out.setCell (p := ⟨w.heap.size + 1, e, none⟩) (by simp) (.bool true))
      have z0 : (k : Int) < (n : Int) := by omega
      have z1 : (0 : Int) ≤ (k : Int) := by omega
      have z2 : (0 : Int) ≤ (e : Int) := by omega
      have z3 : (e : Int) < 32 := by omega
      clear hc hz he hf hs
      go_wp2_with fail
      go_roundw
      case rel => exact ⟨k + 1, by omega, by go_num, HS, hs0, hb1⟩
      case measure => simp [intOf]; omega
    · have hF0 : zs.take k = zs := List.take_of_length_le (by rw [HN.out]; omega)
      rw [hF0] at hr1
      have z0 : (n : Int) ≤ (k : Int) := by omega
      have hrg := Lib.hid (fl_range hr1.out)
      have hsz := Lib.hid (show (Tryz.prog.info? 86).map (·.size) = some (flR zs).length by rw [flags_size, fl_len])
      have hone := Lib.hid (fl_one zs)
      clear hF0
      go_wp2_with (first
        | refine wpList_load_mid rfl 86 (.tmp 3) rfl (w.heap.size + 1) 0 rfl (flR zs) _ hrg.out Tryz.underlying86 rfl hsz.out ?_
        | refine wpList_store_row rfl 86 (.tmp 2) (.tmp 15) rfl w.heap.size (flR zs).toArray rfl rfl 86 (flR []).toArray hr0.out (by simpa using hsz.out) (by simp [fl_len]) hone.out ?_)
      have hrow2 := setRow_heap wr w.heap.size _ (flR zs).toArray _ _ hr0.out
      refine bodyPost_ret (v := .agg (flR zs).toArray) ?_ rfl ⟨rfl, below_setRow hbel.out (Nat.le_refl _) _⟩
      rw [results_cell1 rfl]
      have hld := run_loadVar_mid (P := Tryz.prog) (wr.setRow w.heap.size (flR zs).toArray) w.heap.size 0 86 (flR zs) _ (fl_range (show Row _ _ _ _ from hrow2)) Tryz.underlying86 rfl hsz.out
      show ((asAddr (Value.pointer (some ⟨w.heap.size, 0, none⟩))).run Tryz.prog (wr.setRow w.heap.size (flR zs).toArray)).andThen (fun a w₁ => (loadVar 86 a).run Tryz.prog w₁) = _
      simp [asAddr, hld, Result.andThen]
end Go.Proofs.YtaadhpkpekmfoaaGreat

/- Layer 3: Empty of the reference. -/
namespace Go.Proofs.YtaadhpkpekmfoaaGreat
open Go.RowKit Go.Sort

theorem own_off4 {X base N : Nat} {v v0 v1 v2 v3 : Value} {w3 : World} {e : TypeId} {sz : Nat} {xs : List Value} (h : w3.ownsRow base e sz v N xs) (hr : v.ownBlock ≠ some X) :
    ((((w3.setCell ⟨X, 0, none⟩ v0).setCell ⟨X, 1, none⟩ v1).setCell ⟨X, 2, none⟩ v2).setCell ⟨X, 3, none⟩ v3).ownsRow base e sz v N xs :=
  ownsRow_setCell_other (a := ⟨X, 3, none⟩) (ownsRow_setCell_other (a := ⟨X, 2, none⟩) (ownsRow_setCell_other (a := ⟨X, 1, none⟩) (ownsRow_setCell_other (a := ⟨X, 0, none⟩) h hr v0) hr v1) hr v2) hr v3

set_option maxHeartbeats 2000000 in
set_option maxRecDepth 100000 in
theorem rEmpty_any (A : Option Addr) (n c B : Nat) (zs : List Int) (w : World) (hx : RdI w B A zs) (hB : B ≤ w.heap.size) (hn : zs.length = n) (hb : n ≤ 100000) :
    Calls Tryz.prog 40 #[.slice A n c] w fun e w' => ∃ A' c', e = .returned (.agg #[.slice A' n c', .int .i64 0, .slice none 0 0, .slice none 0 0]) ∧ Own w' w.heap.size (.slice A' n c') zs ∧ Below w.heap.size w w' ∧ n ≤ c' ∧ c' ≤ 9223372036854775807 := by
  have HN := Lib.hid hn
  have hRes := Lib.hid ((Row.new w [.slice none 0 0, .int .i64 0, .slice none 0 0, .slice none 0 0] 33).alloc (.cells #[] 3))
  have HB2 := Lib.hid (((Below.refl w.heap.size w).alloc (Nat.le_refl _) (.cells #[.slice none 0 0, .int .i64 0, .slice none 0 0, .slice none 0 0] 33)).alloc (by simp) (.cells #[] 3))
  have HX := Lib.hid (hx.below HB2.out hB)
  have HO := Lib.hid (show ((w.alloc (.cells #[.slice none 0 0, .int .i64 0, .slice none 0 0, .slice none 0 0] 33)).alloc (.cells #[] 3)).ownsRow (w.heap.size + 1) 3 1 (.slice (some ⟨w.heap.size + 1, 0, none⟩) 0 0) 0 (([] : List Int).map (Value.int .i64)) by
    have := World.ownsRow_lit (base := w.heap.size + 1) (size := 1) (e := 3) (w.alloc (.cells #[.slice none 0 0, .int .i64 0, .slice none 0 0, .slice none 0 0] 33)) #[] 0 (by simp) (by unfold maxLen; omega) rfl
    simpa using this)
  clear hx hn
  go_enter Tryz.func40, Tryz.ntmps40
  go_wp2_with (at_builtin; refine wpList_app_rd rfl (.tmp 3) (.tmp 4) rfl (w.heap.size + 1) _ 0 [] rfl HO.out B A n c zs rfl HX.out HN.out (by unfold maxLen; omega) (by omega) (by simp) ?_)
  intro v1 w1 hown hgrow
  have hown1 : Own w1 (w.heap.size + 1) v1 zs := by unfold Own; rw [HN.out]; simpa using hown
  obtain ⟨A', c', hv, _, hc1, hc2⟩ := own_rdc hown1
  rw [HN.out] at hv hc1
  subst hv
  have hr1 := Lib.hid (hRes.out.grown hgrow (by simp [Value.ownBlock]))
  have hb1 := Lib.hid (HB2.out.grown hgrow (by simp; omega) (fun k hk => by simp [Value.ownBlock] at hk; omega))
  have HO1 := Lib.hid hown1
  have r0 := hr1.out.cell 0 rfl
  have r1 := hr1.out.cell 1 rfl
  have r2 := hr1.out.cell 2 rfl
  have r3 := hr1.out.cell 3 rfl
  have z0 := hr1.out.frozen 0
  have z1 := hr1.out.frozen 1
  have z2 := hr1.out.frozen 2
  have z3 := hr1.out.frozen 3
  clear hown hown1 hgrow
  go_wp2_with fail
  (try simp only [Exit.inBlock, Exit.then])
  refine bodyPost_ret (v := .agg #[.slice A' n c', .int .i64 0, .slice none 0 0, .slice none 0 0]) ?_ rfl ⟨A', c', rfl, ?_, ?_, hc1, hc2⟩
  · rw [results_cell1 rfl]
    go_simp
  · exact own_more (own_off4 (X := w.heap.size) HO1.out (fun e => by have := (HO1.out.lt _ e).1; omega)) (by omega)
  · exact below_set4 hb1.out (Nat.le_refl _) _ _ _ _
end Go.Proofs.YtaadhpkpekmfoaaGreat

/- Layer 3: Canonical of the reference. -/
namespace Go.Proofs.YtaadhpkpekmfoaaGreat
open Go.RowKit Go.Sort

/-- The marked states among the first ones found. -/
def canMn (a : Au) (j : Nat) : List Int := ((List.range j).filter fun i => decide ((fnd a).getD i 0 ∈ a.mr)).map fun (i : Nat) => (i : Int)
theorem canMn_yes {a : Au} {j : Nat} (h : (fnd a).getD j 0 ∈ a.mr) : canMn a (j + 1) = canMn a j ++ [(j : Int)] := by
  unfold canMn; rw [List.range_succ, List.filter_append]
  rw [List.filter_cons_of_pos (by simpa using h)]; simp
theorem canMn_no {a : Au} {j : Nat} (h : (fnd a).getD j 0 ∉ a.mr) : canMn a (j + 1) = canMn a j := by
  unfold canMn; rw [List.range_succ, List.filter_append]
  rw [List.filter_cons_of_neg (by simpa using h)]; simp
theorem canMn_len (a : Au) (j : Nat) : (canMn a j).length ≤ j := by
  unfold canMn; rw [List.length_map]; exact Nat.le_trans (List.length_filter_le _ _) (by simp)
/-- The edges of a found state by the first events. -/
def outK (a : Au) (j t : Nat) : List Ed := (succK a ((fnd a).getD j 0) t).map fun x => ⟨(j : Int), x.e, ((fnd a).idxOf x.t : Int)⟩
theorem outK_zero (a : Au) (j : Nat) : outK a j 0 = [] := by simp [outK, succK_zero]
theorem outK_some {a : Au} {j t : Nat} {x : Ed} (hk : t < a.al.length) (h : edgeO a.ed ((fnd a).getD j 0) (a.al.getD t 0) = some x) : outK a j (t + 1) = outK a j t ++ [⟨(j : Int), x.e, ((fnd a).idxOf x.t : Int)⟩] := by
  unfold outK; rw [succK_some hk h, List.map_append]; rfl
theorem outK_none {a : Au} {j t : Nat} (hk : t < a.al.length) (h : edgeO a.ed ((fnd a).getD j 0) (a.al.getD t 0) = none) : outK a j (t + 1) = outK a j t := by
  unfold outK; rw [succK_none hk h]
theorem outK_all {a : Au} (h : RightW a) {j n : Nat} (hn : a.al.length = n) : canEn a j ++ outK a j n = canEn a (j + 1) := by
  rw [canEn_succ]; unfold outK outE; rw [succK_all h hn]
theorem outK_len {a : Au} (h : RightW a) {j t : Nat} (hj : j < (fnd a).length) : (canEn a j ++ outK a j t).length ≤ a.ed.length := by
  have h1 := canEn_len a (show j + 1 ≤ (fnd a).length by omega)
  rw [canEn_succ, List.length_append] at h1
  have h2 := (succK_pre h ((fnd a).getD j 0) t).length_le
  rw [List.length_append]
  unfold outK outE at *
  rw [List.length_map] at h1 ⊢
  omega
theorem idxI_in {l : List Int} {x : Int} (h : x ∈ l) : idxI l x = (l.idxOf x : Int) := by rw [idxI, if_pos h]

set_option maxHeartbeats 16000000 in
set_option maxRecDepth 100000 in
theorem rCanonical_any (A : Option Addr) (n c : Nat) (s : Int) (M : Option Addr) (m d : Nat) (E : Option Addr) (k g : Nat) (a : Au) (B : Nat) (w : World) (h : AuR w B A n c s M m d E k g a) (hB : B ≤ w.heap.size) (hr : RightW a) (hS : s ≤ 5000) :
    Calls Tryz.prog 41 #[.agg #[.slice A n c, .int .i64 s, .slice M m d, .slice E k g]] w fun e w' => ∃ v, e = .returned v ∧ AuF (canA a) v w' w.heap.size ∧ Below w.heap.size w w' := by
  have hb1 := ((Below.refl w.heap.size w).alloc (Nat.le_refl _) (.cells #[.slice A n c, .int .i64 s, .slice M m d, .slice E k g] 33)).alloc (by simp) (.cells #[.slice none 0 0, .int .i64 0, .slice none 0 0, .slice none 0 0] 33)
  have HB1 := Lib.hid hb1
  have HBw := Lib.hid hB
  have HFn := Lib.hid (rFound_any A n c s M m d E k g a B _ (h.below hb1 hB) (Nat.le_trans hB hb1.size) hr hS)
  have HA := Lib.hid ((Row.new w [.slice A n c, .int .i64 s, .slice M m d, .slice E k g] 33).alloc (.cells #[.slice none 0 0, .int .i64 0, .slice none 0 0, .slice none 0 0] 33))
  have HRes := Lib.hid (show Row ((w.alloc (.cells #[.slice A n c, .int .i64 s, .slice M m d, .slice E k g] 33)).alloc (.cells #[.slice none 0 0, .int .i64 0, .slice none 0 0, .slice none 0 0] 33)) (w.heap.size + 1) 33 [.slice none 0 0, .int .i64 0, .slice none 0 0, .slice none 0 0] by
    have := Row.new (w.alloc (.cells #[.slice A n c, .int .i64 s, .slice M m d, .slice E k g] 33)) [.slice none 0 0, .int .i64 0, .slice none 0 0, .slice none 0 0] 33
    simpa using this)
  have HR := Lib.hid h
  have HRI := Lib.hid hr
  have HST := Lib.hid h.st
  have hbn := h.bn
  have hbk := h.bk
  have hnc := h.cn.1
  obtain ⟨iI, iI0, iI1, iI2, iI3⟩ := info_parts info_int
  obtain ⟨iE, iE0, iE1, iE2, iE3⟩ := info_parts info_edge
  obtain ⟨fl, hfl⟩ : ∃ fl, fl = fnd a := ⟨_, rfl⟩
  obtain ⟨L, hL⟩ : ∃ L, L = fl.length := ⟨_, rfl⟩
  have HFL := Lib.hid hfl
  have HLn := Lib.hid hL
  have hL5 : L ≤ 5000 := by have h1 := fnd_len hr; have h2 := hr.st0; rw [h.st] at h1 h2; rw [hL, hfl]; omega
  rw [← hfl] at HFn
  clear h hr hb1 hfl hL hB
  go_enter Tryz.func41, Tryz.ntmps41
  go_wp2_with fail
  refine HFn.out.mono ?_
  rintro e w1 ⟨Af, cF, rfl, hrf, hbw, hcf, _⟩
  rw [← HLn.out] at hcf ⊢
  have hA1 := Lib.hid (HA.out.below hbw (by simp; omega))
  have hR1 := Lib.hid (HRes.out.below hbw (by simp))
  have hB1 := Lib.hid (HB1.out.trans (hbw.mono (by simp; omega)))
  have HRF := Lib.hid hrf
  have HE := Lib.hid (rEmpty_any A n c B a.al w1 (HR.out.al.below hB1.out HBw.out) (Nat.le_trans HBw.out hB1.out.size) HR.out.hn hbn)
  have hz := hbw.size
  simp only [World.size_alloc] at hz
  clear hbw hrf
  have p0 := hA1.out.cell 0 rfl
  go_wp2_with fail
  refine HE.out.mono ?_
  rintro e w2 ⟨Ac, cc, rfl, hoc, hbw, hc1, hc2⟩
  have hA2 := Lib.hid (hA1.out.below hbw (by omega))
  have hR2 := Lib.hid (hR1.out.below hbw (by omega))
  have hB2 := Lib.hid (hB1.out.trans (hbw.mono hB1.out.size))
  have HRF2 := Lib.hid ((HRF.out.below hbw (Nat.le_refl _)).more hbw.size)
  have HCL := Lib.hid (show RdI w2 w2.heap.size Ac a.al by
    obtain ⟨A', c', e, hrd, _, _⟩ := own_rdc hoc
    injection e with e1 e2 e3
    subst e1; exact hrd)
  have HAC := Lib.hid (own_from hoc)
  have hz2 := hbw.size
  have hbd0 := Lib.hid (show Bd w2 w2.heap.size w2.heap.size true true (.slice Ac n cc) (L : Int) (w2.alloc (.cells #[.slice Ac n cc, .int .i64 (L : Int), .slice none 0 0, .slice none 0 0] 33)) (canMn a 0) (.slice none 0 0) (canEn a 0) (.slice none 0 0) from
      ⟨(Below.refl _ _).alloc (Nat.le_refl _) _, Row.new w2 [.slice Ac n cc, .int .i64 (L : Int), .slice none 0 0, .slice none 0 0] 33, fun _ => World.ownsRow_nil _ _ _ _, fun _ => World.ownsRow_nil _ _ _ _, Nat.le_refl _⟩)
  clear hbw hoc p0
  go_wp2_with fail
  go_loopw [5] (fun i wr => ∃ (j : Nat) (vm ve : Value), j ≤ L ∧ i = .int .i64 j ∧ Hid (Bd w2 w2.heap.size w2.heap.size true true (.slice Ac n cc) (L : Int) wr (canMn a j) vm (canEn a j) ve)) (fun i _ => L - (intOf i).toNat)
  case atStart => exact ⟨0, _, _, Nat.zero_le _, rfl, hbd0⟩
  case round =>
    clear hbd0
    obtain ⟨j, vm, ve, hjL, rfl, hbd⟩ := hrel
    by_cases hjl : j < L
    · obtain ⟨q, hq⟩ : ∃ q, q = fl.getD j 0 := ⟨_, rfl⟩
      have HQ := Lib.hid hq
      obtain ⟨bF, oF, rfl, hbF, hcF⟩ := HRF2.out (by rw [← HLn.out]; omega)
      have cF0 : w2.cell? ⟨bF, oF + j, none⟩ = some (.int .i64 q) := by rw [hq]; exact hcF j (by rw [← HLn.out]; exact hjl)
      have CF := Lib.hid (fun W (hW : Below w2.heap.size w2 W) => (hW.cell (p := ⟨bF, oF + j, none⟩) hbF).trans cF0)
      have CB := Lib.hid (fun W (hW : Below w2.heap.size w2 W) => box_row A n c s M m d E k g (hA2.out.below hW (by omega)))
      have hjz : (0 : Int) ≤ (j : Int) := by omega
      have hjL2 : (j : Int) < (L : Int) := by omega
      obtain ⟨r, hr⟩ : ∃ r, r = decide (q ∈ a.mr) := ⟨_, rfl⟩
      have HM := Lib.hid (fun W (hG : Bd w2 w2.heap.size w2.heap.size true true (.slice Ac n cc) (L : Int) W (canMn a j) vm (canEn a j) ve) => (rHas_any M m d B a.mr q W (HR.out.mr.below (hB2.out.trans (hG.bel.mono hB2.out.size)) HBw.out) HR.out.hm (by have := HR.out.bm; omega)).mono (R' := fun e w' => e = .returned (.bool r) ∧ Bd w2 w2.heap.size w2.heap.size true true (.slice Ac n cc) (L : Int) w' (canMn a j) vm (canEn a j) ve) fun e w' hh => ⟨by rw [hh.1, hr], hh.2 ▸ hG⟩)
      have HRr := Lib.hid hr
      have hbdd := Lib.hid hbd.out.drew
      obtain ⟨p0, p1, p2, p3⟩ := CB.out wr hbd.out.bel
      have cf := CF.out wr hbd.out.bel
      have hml := canMn_len a j
      clear hq hcF cF0 hr
      go_wp2_with fail
      go_region_held3 (fun w' => w'.cell? ⟨w.heap.size, 2, none⟩ = some (.slice M m d) ∧ w'.cell? ⟨bF, oF + j, none⟩ = some (.int .i64 q)) (first | with_reducible exact ⟨p2, cf⟩ | go_keep)
        (first
        | (go_simp; go_at_call 86; (first | with_reducible refine (HM.out _ hbd.out).mono ?_ | with_reducible refine (HM.out _ hbdd.out).mono ?_); rintro e w4 ⟨rfl, hG⟩
           have HG := Lib.hid hG
           have HGd := Lib.hid hG.drew
           have p2 := (CB.out _ hG.bel).c2
           have cf := CF.out _ hG.bel
           clear hG))
      all_goals
        go_upto_if 28 with fail
        go_cut [5] from 16 to 69 (fun i wx => i = .int .i64 (j : Int) ∧ ∃ vm, Hid (Bd w2 w2.heap.size w2.heap.size true true (.slice Ac n cc) (L : Int) wx (canMn a (j + 1)) vm (canEn a j) ve))
        case first =>
          cases r
          · have hno := Lib.hid (show canMn a (j + 1) = canMn a j from canMn_no (by have := HRr.out; rw [HQ.out, HFL.out] at this; simpa using this.symm))
            go_wp2_with fail
            go_meet
            case rel => exact ⟨rfl, vm, by rw [hno.out]; first | exact HG | exact HGd⟩
          · obtain ⟨K0, hK0⟩ : ∃ K0, K0 = canMn a j := ⟨_, rfl⟩
            obtain ⟨l0, hl0⟩ : ∃ l0, l0 = K0.length := ⟨_, rfl⟩
            have hyes := Lib.hid (show canMn a (j + 1) = K0 ++ [(j : Int)] by rw [hK0]; exact canMn_yes (by have := HRr.out; rw [HQ.out, HFL.out] at this; simpa using this.symm))
            have HL0 := Lib.hid hl0
            rw [← hK0] at HG hml
            rw [← hl0] at hml
            have hmo := Lib.hid (HG.out.mo rfl)
            have c2' := HG.out.cb.cell 2 rfl
            have f2' := HG.out.cb.frozen 2
            have hs4 := HG.out.h2
            have hmo2 := Lib.hid (show w4.ownsRow w2.heap.size 3 1 vm l0 (K0.map (Value.int .i64)) by rw [HL0.out]; exact hmo.out)
            clear hK0 hl0
            go_wp2_with (at_builtin; refine wpList_append_own _ rfl _ _ 27 rfl w2.heap.size 3 iI (.int .i64 0) 1 8 Tryz.underlying27 iI0 iI1 iI2 iI3 rfl (by decide) _ _ _ rfl (hmo2.out.alloc _) ⟨w4.heap.size, 0, none⟩ 1 1 [.int .i64 (j : Int)] rfl rfl (news_one (by simp)) (by intro u hu; simp at hu; subst hu; rfl) (by unfold maxLen; omega) (by omega) (by simp; omega) ?_)
            intro v5 w5 hown5 hgrow5 _
            have hown6 : Own w5 w2.heap.size v5 (K0 ++ [(j : Int)]) := by unfold Own; rw [List.length_append, ← HL0.out]; simpa using hown5
            obtain ⟨A5, c5, hv5, _, _, _⟩ := own_rdc hown6
            rw [show (K0 ++ [(j : Int)]).length = l0 + 1 by simp [HL0.out]] at hv5
            subst hv5
            have hba := HG.out.alloc (.cells #[.int .i64 (j : Int)] 3)
            have hcb := Lib.hid (hba.cb.grown hgrow5 (fun e => hba.neM e.symm))
            have hbd6 := Lib.hid (Bd.mark hba hgrow5 hown6)
            rw [← hyes.out] at hbd6
            have c2' := hcb.out.cell 2 rfl
            have f2' := hcb.out.frozen 2
            clear hown5 hown6 hgrow5 hba
            go_wp2_with fail
            go_meet
            case rel => exact ⟨rfl, _, hbd6⟩
        case rest =>
          clear hbd hbdd p0 p1 p2 p3 cf hml HM
          obtain ⟨rfl, vm, hbd⟩ := hcut
          go_wp2_with fail
          go_loopw [6] (fun i wx => ∃ (t : Nat) (ve : Value), t ≤ n ∧ i = .int .i64 t ∧ Hid (Bd w2 w2.heap.size w2.heap.size true true (.slice Ac n cc) (L : Int) wx (canMn a (j + 1)) vm (canEn a j ++ outK a j t) ve)) (fun i _ => n - (intOf i).toNat)
          case atStart => exact ⟨0, ve, Nat.zero_le _, rfl, by rw [outK_zero, List.append_nil]; exact hbd⟩
          case round =>
            clear hbd
            obtain ⟨t, ve, htn, rfl, hbd⟩ := hrel
            obtain ⟨p0, p1, p2, p3⟩ := CB.out wr hbd.out.bel
            have cf := CF.out wr hbd.out.bel
            by_cases htl : t < n
            · obtain ⟨bA, oA, rfl, hbA, hcA⟩ := HR.out.al (by rw [HR.out.hn]; omega)
              have hz' : t < a.al.length := by rw [HR.out.hn]; exact htl
              obtain ⟨ev, hev⟩ : ∃ ev, ev = a.al.getD t 0 := ⟨_, rfl⟩
              have CA := Lib.hid (fun W (hW : Below w2.heap.size w2 W) => by
                have := ((hB2.out.trans (hW.mono hB2.out.size)).cell (p := ⟨bA, oA + t, none⟩) (Nat.lt_of_lt_of_le hbA HBw.out)).trans (hcA t hz')
                rw [← hev] at this; exact this)
              have ca := CA.out wr hbd.out.bel
              obtain ⟨es, hes⟩ : ∃ es, es = canEn a j ++ outK a j t := ⟨_, rfl⟩
              have hel : es.length ≤ k := by rw [hes, ← HR.out.hk]; exact outK_len HRI.out (by rw [← HFL.out, ← HLn.out]; exact hjl)
              rw [← hes] at hbd
              have HES := Lib.hid hes
              have HEV := Lib.hid hev
              obtain ⟨tt, htt⟩ : ∃ tt, tt = stepI a q ev := ⟨_, rfl⟩
              have HTT := Lib.hid htt
              have HS := Lib.hid (fun W (hG : Bd w2 w2.heap.size w2.heap.size true true (.slice Ac n cc) (L : Int) W (canMn a (j + 1)) vm es ve) => (rStep_any (some ⟨bA, oA, none⟩) n c s M m d E k g a q ev B W (HR.out.below (hB2.out.trans (hG.bel.mono hB2.out.size)) HBw.out) (Nat.le_trans HBw.out (hB2.out.trans (hG.bel.mono hB2.out.size)).size)).mono (R' := fun e w' => e = .returned (.int .i64 tt) ∧ Bd w2 w2.heap.size w2.heap.size true true (.slice Ac n cc) (L : Int) w' (canMn a (j + 1)) vm es ve) fun e w' hh => ⟨by rw [hh.1, htt], hG.call hh.2⟩)
              have hbdd := Lib.hid hbd.out.drew
              have htz : (0 : Int) ≤ (t : Int) := by omega
              have htn2 : (t : Int) < (n : Int) := by omega
              have hqf : q = (fnd a).getD j 0 := by rw [HQ.out, HFL.out]
              have HQF := Lib.hid hqf
              clear hes hev htt hcA hqf
              go_wp2_with fail
              go_region_held3 (fun w' => w'.cell? ⟨w.heap.size, 0, none⟩ = some (.slice (some ⟨bA, oA, none⟩) n c) ∧ w'.cell? ⟨w.heap.size, 1, none⟩ = some (.int .i64 s) ∧ w'.cell? ⟨w.heap.size, 2, none⟩ = some (.slice M m d) ∧ w'.cell? ⟨w.heap.size, 3, none⟩ = some (.slice E k g) ∧ w'.cell? ⟨bF, oF + j, none⟩ = some (.int .i64 q) ∧ w'.cell? ⟨bA, oA + t, none⟩ = some (.int .i64 ev)) (first | with_reducible exact ⟨p0, p1, p2, p3, cf, ca⟩ | go_keep)
                (first
                | (go_simp; go_at_call 71; (first | with_reducible refine (HS.out _ hbd.out).mono ?_ | with_reducible refine (HS.out _ hbdd.out).mono ?_); rintro e w4 ⟨rfl, hG⟩
                   have HG := Lib.hid hG
                   have HGd := Lib.hid hG.drew
                   obtain ⟨p0, p1, p2, p3⟩ := CB.out _ hG.bel
                   have cf := CF.out _ hG.bel
                   have ca := CA.out _ hG.bel
                   clear hG))
              all_goals
                cases he : edgeO a.ed q ev with
                | none =>
                  have hto := stepI_no he
                  rw [← HTT.out] at hto
                  subst hto
                  have hnx := Lib.hid (show canEn a j ++ outK a j (t + 1) = es by rw [outK_none hz' (by rw [← HEV.out, ← HQF.out]; exact he), HES.out])
                  clear he
                  go_wp2_with fail
                  go_roundw
                  case rel => exact ⟨t + 1, _, by omega, by go_num, by rw [hnx.out]; first | exact HG | exact HGd⟩
                  case measure => simp [intOf]; omega
                | some x =>
                  have hto := stepI_of he
                  rw [← HTT.out] at hto
                  obtain ⟨hxm, hxf, hxe⟩ := (edgeO_some HRI.out.edo).1 he
                  have hxr := (HRI.out.edr x hxm).2.1
                  rw [← hto] at hxr
                  have hin : tt ∈ fl := by
                    rw [hto, HFL.out]
                    refine fnd_closed HRI.out (i := j) (by rw [← HFL.out, ← HLn.out]; exact hjl) (mem_succ.2 ⟨hxm, ?_⟩)
                    rw [hxf, HQF.out]
                  obtain ⟨ix, hix⟩ : ∃ ix, ix = fl.idxOf tt := ⟨_, rfl⟩
                  have hnx := Lib.hid (show canEn a j ++ outK a j (t + 1) = es ++ [⟨(j : Int), ev, (ix : Int)⟩] by rw [outK_some hz' (by rw [← HEV.out, ← HQF.out]; exact he), hxe, ← hto, ← HFL.out, ← hix, HES.out, List.append_assoc])
                  have hto0 : 0 ≤ tt := hxr.1
                  have HI := Lib.hid (fun W (hW : RdI W w2.heap.size (some ⟨bF, oF, none⟩) fl) => by
                    have := rIndex_any (some ⟨bF, oF, none⟩) L cF w2.heap.size fl tt W hW HLn.out.symm (by omega)
                    rw [idxI_in hin, ← hix] at this; exact this)
                  have HRF4 := Lib.hid (HRF2.out.below HG.out.bel (Nat.le_refl _))
                  have HRF4d := Lib.hid (show RdI w4.drew w2.heap.size (some ⟨bF, oF, none⟩) fl from RdI.keep HRF4.out fun b o _ => rfl)
                  have u0 := HG.out.cb.cell 3 rfl
                  have u3 := HG.out.cb.frozen 3
                  have hbl : w2.heap.size < w4.heap.size := HG.out.h2
                  have v0 := fun cs : Array Value => (World.cell?_alloc_lt w4 (.cells cs 79) ⟨w2.heap.size, 3, none⟩ hbl).trans u0
                  have v1 := fun cs : Array Value => (frozen?_alloc_cells w4 cs 79 ⟨w2.heap.size, 3, none⟩).trans u3
                  have hneV := HG.out.neE
                  have heo := Lib.hid (HG.out.eo rfl)
                  clear he hto hxm hxf hxe hxr hin hix
                  go_wp2_with fail
                  go_region_law (first
                    | (go_simp; go_at_call 87; (first | refine (HI.out w4.drew HRF4d.out).mono ?_ | refine (HI.out w4 HRF4.out).mono ?_); rintro e w7 ⟨rfl, rfl⟩)
                    | (refine step_append_lies _ (by rfl) (.tmp 56) (.tmp 67) _ (by rfl) w2.heap.size 79 iE (.agg #[.int .i64 0, .int .i64 0, .int .i64 0]) 3 24 Tryz.underlying31 iE0 iE1 iE2 iE3 rfl (by omega) ve es.length (encE es) (by rfl) (by first | exact (heo.out.alloc _).drew | exact (heo.out.alloc _)) ⟨w4.heap.size, 0, none⟩ 1 1 [.int .i64 (j : Int), .int .i64 ev, .int .i64 (ix : Int)] (by rfl) (by rfl) (World.news_of_block (cs := #[.int .i64 (j : Int), .int .i64 ev, .int .i64 (ix : Int)]) (t := 79) (fr := (0, 0)) (heap_alloc_new w4 _)) (by simp [Value.oneCell']) (by omega) (by unfold maxLen; omega) (by omega) (by simp; omega) (w4.heap.size + 1) (by simp) ?_; intro gG capG w6 hown6 hgrow6 hat6 hlt6; have hc6 := (hgrow6.cell_far ⟨w2.heap.size, 3, none⟩ (by simp; omega) hneV).trans (v0 _); have hf6 := (hgrow6.frozen_far ⟨w2.heap.size, 3, none⟩ (by simp; omega) hneV).trans (v1 _)))
                  all_goals
                    have hown7 : OwnE w6 w2.heap.size (.slice (some ⟨gG, 0, none⟩) (es.length + 1) capG) (es ++ [⟨(j : Int), ev, (ix : Int)⟩]) := by
                      unfold OwnE; rw [encE_app, List.length_append]; exact hown6
                    have hbd7 := Lib.hid (show Bd w2 w2.heap.size w2.heap.size true true (.slice Ac n cc) (L : Int) (w6.setCell ⟨w2.heap.size, 3, none⟩ (.slice (some ⟨gG, 0, none⟩) (es.length + 1) capG)) (canMn a (j + 1)) vm (es ++ [⟨(j : Int), ev, (ix : Int)⟩]) (.slice (some ⟨gG, 0, none⟩) (es.length + 1) capG) from by
                      first
                      | exact Bd.edge (HG.out.alloc _) hgrow6 hown7
                      | exact Bd.edge ((HG.out.alloc _).drew) hgrow6 hown7
                      | exact Bd.edge (HG.out.drew.alloc _) hgrow6 hown7)
                    rw [← hnx.out] at hbd7
                    clear hown7 hown6 hgrow6 hat6 hc6 hf6 hlt6
                    go_wp2_with fail
                    go_roundw
                    case measure => simp [intOf]; omega
                    case rel => exact ⟨t + 1, _, by omega, by go_num, by first | exact hbd7 | exact Lib.hid hbd7.out.drew⟩
            · obtain rfl : t = n := by omega
              rw [outK_all HRI.out HR.out.hn] at hbd
              go_wp2_with fail
              go_roundw
              case rel => exact ⟨j + 1, _, _, by omega, by go_num, hbd⟩
              case measure => simp [intOf]; omega
    · obtain rfl : j = L := by omega
      obtain ⟨M3, d3, rfl, hM1, hM2, hM3⟩ := own_rdc (hbd.out.mo rfl)
      obtain ⟨E3, g3, rfl, hE1, hE2, hE3⟩ := ownE_rd (hbd.out.eo rfl)
      have hMo := Lib.hid (own_from (hbd.out.mo rfl))
      have hEo := Lib.hid (own_from (hbd.out.eo rfl))
      have hRr := Lib.hid (hR2.out.below hbd.out.bel (by omega))
      have hjl2 := Lib.hid (show (fnd a).length = j by rw [HLn.out, HFL.out])
      have hml := canMn_len a j
      have hel := canEn_len a (n := j) (by rw [hjl2.out]; exact Nat.le_refl _)
      rw [HR.out.hk] at hel
      have hfin := Lib.hid (show AuF (canA a) (.agg #[.slice Ac n cc, .int .i64 (j : Int), .slice M3 (canMn a j).length d3, .slice E3 (canEn a j).length g3]) wr w1.heap.size from by
        have hca : canA a = ⟨a.al, (j : Int), canMn a j, canEn a j⟩ := by unfold canA canM; rw [hjl2.out]; rfl
        rw [hca]
        exact ⟨Ac, n, cc, (j : Int), M3, _, d3, E3, _, g3, rfl,
          { al := (HCL.out.below hbd.out.bel (Nat.le_refl _)).more hbd.out.bel.size, mr := hM1, ed := hE1, hn := HR.out.hn, hm := rfl, hk := rfl, st := rfl, cn := ⟨hc1, hc2⟩, cm := ⟨hM2, hM3⟩, ck := ⟨hE2, hE3⟩, bn := HR.out.bn, bm := by omega, bk := by omega },
          HAC.out, fun b o f e => by have := hMo.out b o f e; omega, fun b o f e => by have := hEo.out b o f e; omega⟩)
      have d0 := hbd.out.cb.cell 0 rfl
      have d1 := hbd.out.cb.cell 1 rfl
      have d2' := hbd.out.cb.cell 2 rfl
      have d3' := hbd.out.cb.cell 3 rfl
      have r0 := hRr.out.cell 0 rfl
      have r1 := hRr.out.cell 1 rfl
      have r2 := hRr.out.cell 2 rfl
      have r3 := hRr.out.cell 3 rfl
      have z0 := hRr.out.frozen 0
      have z1 := hRr.out.frozen 1
      have z2 := hRr.out.frozen 2
      have z3 := hRr.out.frozen 3
      clear hM1 hE1
      go_wp2_with fail
      (try simp only [Exit.inBlock, Exit.then])
      refine bodyPost_ret (v := .agg #[.slice Ac n cc, .int .i64 (j : Int), .slice M3 (canMn a j).length d3, .slice E3 (canEn a j).length g3]) ?_ rfl ⟨_, rfl, ?_, ?_⟩
      · rw [results_cell1 rfl]
        go_simp
      · exact (hfin.out.set4 (by omega) _ _ _ _).more (by omega)
      · exact below_set4 (hB2.out.trans (hbd.out.bel.mono hB2.out.size)) (by omega) _ _ _ _
end Go.Proofs.YtaadhpkpekmfoaaGreat
