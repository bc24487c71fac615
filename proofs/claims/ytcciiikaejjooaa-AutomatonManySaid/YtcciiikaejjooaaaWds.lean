/- Layer 3: Words of the program. -/
import Derived.Test.YtcciiikaejjooaaaGen
namespace Go.Proofs.Ytcciiikaejjooaa
open Go.RowKit Go.Sort

theorem genO_zero {a : Au} {most : Int} (h : a.st = 0) : genO a most = some [] := by rw [genO, if_pos h]
set_option maxHeartbeats 400000 in
theorem generated_zero (A : Option Addr) (n c : Nat) (s : Int) (M : Option Addr) (m d : Nat) (E : Option Addr) (k g : Nat) (a : Au) (most : Int) (w : World) (h : AuR w w.heap.size A n c s M m d E k g a) (hS : s = 0) :
    Calls Try.prog 58 #[.agg #[.slice A n c, .int .i64 s, .slice M m d, .slice E k g], .int .i64 most] w fun e w' => GenR w (genO a most) e w' ∧ Below w.heap.size w w' := by
  have hst := h.st
  subst hS
  have hg := Lib.hid (genO_zero (most := most) hst)
  clear h hst
  go_enter Try.func58, Try.ntmps58
  go_wp2_with fail
  go_ret3
  exact ⟨.inr ⟨_, _, [], [], [], hg.out, rfl, ⟨World.ownsRow_nil _ _ _ _, by simp, World.ownsRow_nil _ _ _ _, by simp⟩, rfl, rfl, by simp, by simp⟩, (Below.refl _ _).alloc (Nat.le_refl _) _⟩
theorem generated_all (A : Option Addr) (n c : Nat) (s : Int) (M : Option Addr) (m d : Nat) (E : Option Addr) (k g : Nat) (a : Au) (most : Int) (w : World) (h : AuR w w.heap.size A n c s M m d E k g a) (hr : Right a) (hm0 : 0 ≤ most) (hm1 : most ≤ 4096) :
    Calls Try.prog 58 #[.agg #[.slice A n c, .int .i64 s, .slice M m d, .slice E k g], .int .i64 most] w fun e w' => GenR w (genO a most) e w' ∧ Below w.heap.size w w' := by
  have h0 := hr.st0
  have h1 := hr.st1
  have hs := h.st
  by_cases hz : a.st = 0
  · exact generated_zero A n c s M m d E k g a most w h (by omega)
  · exact generated_any A n c s M m d E k g a a.st.toNat most w h hr.toRightW (by omega) (by omega) (by omega) hm0 hm1

/-- A slice's address leads, below block B, to slices that hold these words (asked only where there are any). -/
def RdL (w : World) (B : Nat) (A : Option Addr) (hs : List Hd) : Prop :=
  0 < hs.length → ∃ b off, A = some ⟨b, off, none⟩ ∧ b < B ∧ ∀ j x, hs[j]? = some x → w.cell? ⟨b, off + j, none⟩ = some x.enc ∧ RdI w B x.A x.z ∧ x.z.length ≤ x.c ∧ x.c ≤ 9223372036854775807
theorem RdL.nil (w : World) (B : Nat) (A : Option Addr) : RdL w B A [] := fun h => absurd h (by simp)
theorem RdL.below {w w' : World} {B B' : Nat} {A : Option Addr} {hs : List Hd} (h : RdL w B A hs) (hb : Below B' w w') (hB : B ≤ B') : RdL w' B A hs := fun h0 => by
  obtain ⟨b, o, e, hlt, hc⟩ := h h0
  exact ⟨b, o, e, hlt, fun j x hx => ⟨(hb.cell (p := ⟨b, o + j, none⟩) (Nat.lt_of_lt_of_le hlt hB)).trans (hc j x hx).1, (hc j x hx).2.1.below hb hB, (hc j x hx).2.2⟩⟩
theorem RdL.more {w : World} {B B' : Nat} {A : Option Addr} {hs : List Hd} (h : RdL w B A hs) (hB : B ≤ B') : RdL w B' A hs := fun h0 => by
  obtain ⟨b, o, e, hlt, hc⟩ := h h0
  exact ⟨b, o, e, by omega, fun j x hx => ⟨(hc j x hx).1, (hc j x hx).2.1.more hB, (hc j x hx).2.2⟩⟩
/-- The words that are kept. -/
def selW (mr : List Int) (mk : Bool) (ps : List (Hd × Int)) : List Hd := (ps.filter fun p => !mk || decide (p.2 ∈ mr)).map Prod.fst
def selL (mr : List Int) (mk : Bool) (L : List (List Int × Int)) : List (List Int) := (L.filter fun p => !mk || decide (p.2 ∈ mr)).map Prod.fst
theorem selW_step {mr : List Int} {mk : Bool} {ps : List (Hd × Int)} {t : Nat} {x : Hd} {q : Int} (h : ps[t]? = some (x, q)) : selW mr mk (ps.take (t + 1)) = selW mr mk (ps.take t) ++ (if (!mk || decide (q ∈ mr)) = true then [x] else []) := by
  have hl := (List.getElem?_eq_some_iff.1 h).1
  have he := (List.getElem?_eq_some_iff.1 h).2
  unfold selW
  rw [List.take_succ_eq_append_getElem hl, he, List.filter_append, List.map_append]
  congr 1
  by_cases hc : (!mk || decide (q ∈ mr)) = true
  · rw [List.filter_cons_of_pos (by exact hc), if_pos hc]; rfl
  · rw [List.filter_cons_of_neg (by exact hc), if_neg hc]; rfl
theorem zip_words {hs : List Hd} {es : List Int} {L : List (List Int × Int)} (h1 : hs.map Hd.z = L.map Prod.fst) (h2 : es = L.map Prod.snd) : (hs.zip es).map (fun p => (p.1.z, p.2)) = L := by
  have : (hs.zip es).map (fun p => (p.1.z, p.2)) = (hs.map Hd.z).zip es := by
    rw [List.zip_map_left]; rfl
  rw [this, h1, h2]
  apply List.ext_getElem
  · simp
  · intro i h1 h2; simp
theorem selW_words {mr : List Int} {mk : Bool} {hs : List Hd} {es : List Int} {L : List (List Int × Int)} (h1 : hs.map Hd.z = L.map Prod.fst) (h2 : es = L.map Prod.snd) : (selW mr mk (hs.zip es)).map Hd.z = selL mr mk L := by
  rw [selL, ← zip_words h1 h2, selW, List.filter_map, List.map_map, List.map_map]; rfl
theorem selW_mem {mr : List Int} {mk : Bool} {hs : List Hd} {es : List Int} {x : Hd} {t : Nat} (h : x ∈ selW mr mk ((hs.zip es).take t)) : x ∈ hs := by
  obtain ⟨p, hp, rfl⟩ := List.mem_map.1 h
  exact (List.of_mem_zip (List.mem_of_mem_take (List.mem_filter.1 hp).1)).1
theorem selW_len (mr : List Int) (mk : Bool) (ps : List (Hd × Int)) (t : Nat) : (selW mr mk (ps.take t)).length ≤ t := by
  unfold selW; rw [List.length_map]
  exact Nat.le_trans (List.length_filter_le _ _) (List.length_take_le _ _)

theorem ownL_rd {w : World} {base B : Nat} {v : Value} {hs : List Hd} (h : w.ownsRow base 22 1 v hs.length (hs.map Hd.enc)) (ho : ∀ x ∈ hs, Own w B x.enc x.z) : ∃ A c, v = .slice A hs.length c ∧ RdL w w.heap.size A hs ∧ hs.length ≤ c ∧ c ≤ 9223372036854775807 := by
  rcases h.2 with ⟨rfl, h0⟩ | ⟨g, cap, cur, rfl, hg, hh, hn, hcap, hsz, htake⟩
  · have : hs = [] := List.eq_nil_of_length_eq_zero h0
    subst this
    exact ⟨none, 0, rfl, RdL.nil _ _ _, Nat.le_refl _, by omega⟩
  · refine ⟨some ⟨g, 0, none⟩, cap, rfl, fun _ => ⟨g, 0, rfl, (h.lt g rfl).2, fun j x hj => ?_⟩, hn, by unfold maxLen at hcap; omega⟩
    have hl := (List.getElem?_eq_some_iff.1 hj).1
    refine ⟨by rw [Nat.zero_add, World.ownsRow.cellAt (cap := cap) h j (by omega), List.getElem?_map, hj]; rfl, ?_⟩
    obtain ⟨A', c', e, hrd, h1, h2⟩ := own_rdc (ho x (List.mem_of_getElem? hj))
    unfold Hd.enc at e
    injection e with e1 e2 e3
    subst e1; subst e3
    exact ⟨hrd, h1, h2⟩
/-- What Words hands back. -/
def wordsR (a : Au) (most : Int) (mk : Bool) : List (List Int) × Int :=
  if chkE a ≠ 0 then ([], chkE a) else if most < 0 ∨ 4096 < most then ([], 2) else match genO a most with | none => ([], 3) | some L => (selL a.mr mk L, 0)
def WdsR (r : List (List Int) × Int) (e : Ending) (w' : World) : Prop := ∃ A c hs, e = .returned (.tuple #[.slice A hs.length c, .int .i64 r.2]) ∧ hs.map Hd.z = r.1 ∧ RdL w' w'.heap.size A hs ∧ hs.length ≤ c ∧ c ≤ 9223372036854775807 ∧ hs.length ≤ 1024
theorem WdsR.nil {r : List (List Int) × Int} {x : Int} (w' : World) (h : r = ([], x)) : WdsR r (.returned (.tuple #[.slice none 0 0, .int .i64 x])) w' := by
  subst h; exact ⟨none, 0, [], rfl, rfl, RdL.nil _ _ _, Nat.le_refl _, by omega, by simp⟩

set_option maxHeartbeats 2000000 in
theorem mWords_any (A : Option Addr) (n c : Nat) (s : Int) (M : Option Addr) (m d : Nat) (E : Option Addr) (k g : Nat) (a : Au) (most : Int) (mk : Bool) (w : World) (h : AuR w w.heap.size A n c s M m d E k g a) :
    Calls Try.prog 23 #[.agg #[.slice A n c, .int .i64 s, .slice M m d, .slice E k g], .int .i64 most, .bool mk] w fun e w' => WdsR (wordsR a most mk) e w' ∧ Below w.heap.size w w' := by
  have hb1 := (Below.refl w.heap.size w).alloc (Nat.le_refl _) (.cells #[.slice A n c, .int .i64 s, .slice M m d, .slice E k g] 25)
  have HB1 := Lib.hid hb1
  have hR1 := h.below hb1 (Nat.le_refl _)
  have HC := Lib.hid (mCheck_any A n c s M m d E k g a _ (hR1.more (by simp)))
  have HX := Lib.hid (BoxA.made w A n c s M m d E k g 25)
  have HR := Lib.hid h
  obtain ⟨u, hu⟩ : ∃ u, u = chkE a := ⟨_, rfl⟩
  rw [← hu] at HC
  have HU := Lib.hid hu
  clear h hR1 hu hb1
  by_cases h0 : u = 0
  · have hb0 : (u != 0) = false := by simp [h0]
    have hri := right_of (a := a) (by rw [← HU.out, h0])
    have HRI := Lib.hid hri
    by_cases hm : most < 0 ∨ 4096 < most
    · have hr := Lib.hid (show wordsR a most mk = ([], 2) by rw [wordsR, if_neg (by rw [← HU.out, h0]; simp), if_pos hm])
      clear h0 hri
      rcases hm with hm | hm
      · go_enter Try.func23, Try.ntmps23
        go_wp2_with fail
        refine HC.out.mono ?_
        rintro e w1 ⟨rfl, hbw⟩
        go_wp2_with fail
        go_ret2
        exact ⟨WdsR.nil _ hr.out, HB1.out.trans (hbw.mono (by simp))⟩
      · have hm2 : ¬ most < 0 := by omega
        go_enter Try.func23, Try.ntmps23
        go_wp2_with fail
        refine HC.out.mono ?_
        rintro e w1 ⟨rfl, hbw⟩
        go_wp2_with fail
        go_ret2
        exact ⟨WdsR.nil _ hr.out, HB1.out.trans (hbw.mono (by simp))⟩
    · have hm2 : ¬ most < 0 := by omega
      have hm3 : ¬ 4096 < most := by omega
      have hS := Lib.hid (fun W (hW : Below w.heap.size w W) => generated_all A n c s M m d E k g a most W ((HR.out.below hW (Nat.le_refl _)).more hW.size) HRI.out (by omega) (by omega))
      have hr := Lib.hid (show wordsR a most mk = match genO a most with | none => ([], 3) | some L => (selL a.mr mk L, 0) by rw [wordsR, if_neg (by rw [← HU.out, h0]; simp), if_neg hm])
      clear h0 hri hm
      go_enter Try.func23, Try.ntmps23
      go_wp2_with fail
      refine HC.out.mono ?_
      rintro e w1 ⟨rfl, hbw⟩
      have hX1 := Lib.hid (HX.out.below hbw (by simp))
      obtain ⟨p0, p1, p2, p3⟩ := hX1.out
      have hz := hbw.size
      simp only [World.size_alloc] at hz
      have hB := Lib.hid (HB1.out.trans (hbw.mono (by simp)))
      clear hbw
      go_wp2_with fail
      refine (hS.out _ hB.out).mono ?_
      rintro e w3 ⟨hG, hbw⟩
      have hX3 := Lib.hid (hX1.out.below hbw (by omega))
      have hB3 := Lib.hid (hB.out.trans (hbw.mono hB.out.size))
      have hz3 := hbw.size
      clear p0 p1 p2 p3 hbw
      rcases hG with ⟨hN, rfl⟩ | ⟨vw, ve, hs, es, L, hL, rfl, hgl, hmw, hme, hl, hwl⟩
      · have hr2 := Lib.hid (show wordsR a most mk = ([], 3) by rw [hr.out, hN])
        clear hN
        go_wp2_with fail
        go_ret2
        exact ⟨WdsR.nil _ hr2.out, hB3.out⟩
      · have hr2 := Lib.hid (show wordsR a most mk = (selL a.mr mk L, 0) by rw [hr.out, hL])
        have HGL := Lib.hid hgl
        have HSW := Lib.hid (selW_words (mr := a.mr) (mk := mk) hmw hme)
        obtain ⟨N1, hN1⟩ : ∃ N1, N1 = L.length := ⟨_, rfl⟩
        have hhs := Lib.hid (show hs.length = N1 by have := congrArg List.length hmw; rw [List.length_map, List.length_map, ← hN1] at this; exact this)
        have hes := Lib.hid (show es.length = N1 by rw [hme, List.length_map, hN1])
        have hN2 : N1 ≤ 1024 := by rw [hN1]; exact hl
        obtain ⟨Aw, cw, hvw, hAw⟩ : ∃ Aw cw, vw = .slice Aw N1 cw ∧ ∀ j x, hs[j]? = some x → ∃ g, Aw = some ⟨g, 0, none⟩ ∧ g < w3.heap.size ∧ w3.cell? ⟨g, j, none⟩ = some x.enc := by
          rcases Nat.eq_zero_or_pos N1 with h0 | h0
          · rcases hgl.row.2 with ⟨rfl, _⟩ | ⟨g, cap, cur, rfl, _⟩
            · exact ⟨none, 0, by rw [h0], fun j x hx => by have := (List.getElem?_eq_some_iff.1 hx).1; rw [hhs.out] at this; omega⟩
            · exact ⟨some ⟨g, 0, none⟩, cap, by rw [hhs.out], fun j x hx => by have := (List.getElem?_eq_some_iff.1 hx).1; rw [hhs.out] at this; omega⟩
          · obtain ⟨g, cap, e, _, _, hc⟩ := hgl.len hhs.out h0
            exact ⟨some ⟨g, 0, none⟩, cap, e, fun j x hx => ⟨g, rfl, (hgl.row.lt g (by rw [e]; rfl)).2, hc j x hx⟩⟩
        obtain ⟨Ae, ce, hve, hAe⟩ : ∃ Ae ce, ve = .slice Ae N1 ce ∧ RdI w3 w3.heap.size Ae es := by
          obtain ⟨A', c', e, hrd⟩ := own_rd hgl.ends
          exact ⟨A', c', by rw [e, hes.out], hrd⟩
        subst hvw
        subst hve
        have HAW := Lib.hid hAw
        have HAE := Lib.hid hAe
        obtain ⟨iL, iL0, iL1, iL2, iL3⟩ := info_parts info_ints
        clear hL hgl hmw hme hl hwl hN1 hAw hAe
        go_wp2_with fail
        go_loopw [12, 38] (fun vl i wr => ∃ (t : Nat) (ks : List Hd), i = .int .i64 t ∧ t ≤ N1 ∧ Hid (Below w3.heap.size w3 wr) ∧ Hid (wr.ownsRow w3.heap.size 22 1 vl ks.length (ks.map Hd.enc)) ∧ Hid (ks = selW a.mr mk ((hs.zip es).take t))) (fun _ i _ => N1 - (intOf i).toNat)
        case atStart => exact ⟨0, [], rfl, Nat.zero_le _, Below.refl _ _, World.ownsRow_nil _ _ _ _, rfl⟩
        case round =>
          obtain ⟨t, ks, rfl, htN, hbel, hrow, hks⟩ := hrel
          have hksl := selW_len a.mr mk (hs.zip es) t
          rw [← hks.out] at hksl
          have hsz := hbel.out.size
          by_cases htl : t < N1
          · obtain ⟨x, hx⟩ : ∃ x, hs[t]? = some x := ⟨_, List.getElem?_eq_getElem (by rw [hhs.out]; exact htl)⟩
            obtain ⟨gW, rfl, hgW, hcx⟩ := HAW.out t x hx
            obtain ⟨bE, oE, rfl, hbE, hcE⟩ := HAE.out (by rw [hes.out]; omega)
            have h1 := hcE t (by rw [hes.out]; exact htl)
            obtain ⟨q, hq⟩ : ∃ q, q = es.getD t 0 := ⟨_, rfl⟩
            rw [← hq] at h1
            have hzp : (hs.zip es)[t]? = some (x, q) := by
              rw [List.getElem?_zip_eq_some]
              exact ⟨hx, by rw [hq, List.getElem?_eq_getElem (show t < es.length by rw [hes.out]; exact htl)]; simp [List.getD, List.getElem?_eq_getElem (show t < es.length by rw [hes.out]; exact htl)]⟩
            have hst := Lib.hid (selW_step (mr := a.mr) (mk := mk) hzp)
            have k1 : wr.cell? ⟨gW, t, none⟩ = some x.enc := (hbel.out.cell (p := ⟨gW, t, none⟩) hgW).trans hcx
            have k2 : wr.cell? ⟨bE, oE + t, none⟩ = some (.int .i64 q) := (hbel.out.cell (p := ⟨bE, oE + t, none⟩) hbE).trans h1
            obtain ⟨y0, y1, y2, y3⟩ := hX3.out.below hbel.out (by omega)
            have hM := Lib.hid (fun W (hW : Below w.heap.size w W) => mContains_any M m d w.heap.size a.mr q W (HR.out.mr.below hW (Nat.le_refl _)) HR.out.hm (by have := HR.out.bm; omega) (up_of HRI.out.mro))
            have hBr := Lib.hid (hB3.out.trans (hbel.out.mono hB3.out.size))
            obtain ⟨Ax, cx, zx⟩ := x
            simp only [Hd.enc] at k1
            obtain ⟨lx, hlx⟩ : ∃ lx, lx = zx.length := ⟨_, rfl⟩
            rw [← hlx] at k1
            have HLX := Lib.hid hlx
            clear hx hcx hcE h1 hq hzp hlx
            obtain ⟨yes, hyes⟩ : ∃ yes, yes = (!mk || decide (q ∈ a.mr)) := ⟨_, rfl⟩
            rw [← hyes] at hst
            have HY := Lib.hid hyes
            clear hyes
            go_wp2_with fail
            go_upto_region 13 with fail
            go_cut [38, 53] from 38 to 58 (fun i c wx => i = .int .i64 (t : Int) ∧ c = .bool yes ∧ ∃ q', wx = wr.drewN q')
            case first =>
              cases mk
              · have hy : yes = true := by rw [HY.out]; rfl
                subst hy
                go_quiet (fail)
                go_wp2_with fail
                go_meet
                case rel => exact ⟨rfl, rfl, _, rfl⟩
              · have hy : decide (q ∈ a.mr) = yes := by rw [HY.out]; rfl
                have hM1 := Lib.hid (fun q' => (hM.out (wr.drewN q') (below_drewN hBr.out q')).mono (R' := fun e w' => e = .returned (.bool yes) ∧ w' = wr.drewN q') fun e w' h => ⟨by rw [h.1, hy], h.2.symm⟩)
                clear hM
                go_quiet ((go_at_call 57; exact Calls.quiet_of_same (hM1.out _)))
                go_wp2_with fail
                go_meet
                case rel => exact ⟨rfl, rfl, _, rfl⟩
            case rest =>
              obtain ⟨rfl, rfl, q', rfl⟩ := hcut
              have hbel2 := Lib.hid (below_drewN hbel.out q')
              have hrow2 := Lib.hid (own_dr hrow.out q')
              have hsz2 : w3.heap.size ≤ (wr.drewN q').heap.size := hsz
              clear hbel hrow k1 k2 y0 y1 y2 y3 hM hBr hsz
              generalize wr.drewN q' = wr at *
              cases yes
              · rw [if_neg (by simp), List.append_nil] at hst
                have hks2 := Lib.hid (show ks = selW a.mr mk ((hs.zip es).take (t + 1)) by rw [hst.out, hks.out])
                go_wp2_with fail
                go_roundw
                case measure => simp [intOf]; omega
                case rel => exact ⟨t + 1, ks, by go_num, by omega, hbel2, hrow2, hks2⟩
              · rw [if_pos rfl] at hst
                have hks2 := Lib.hid (show ks ++ [⟨Ax, cx, zx⟩] = selW a.mr mk ((hs.zip es).take (t + 1)) by rw [hst.out, hks.out])
                have hrow3 := Lib.hid (hrow2.out.alloc (.cells #[.slice Ax lx cx] 22))
                obtain ⟨K1, hK1⟩ : ∃ K1, K1 = ks.length := ⟨_, rfl⟩
                rw [← hK1] at hrow3 hksl
                have HK1 := Lib.hid hK1
                clear hK1
                go_wp2_with (at_builtin; refine wpList_append_lies _ rfl (.tmp 54) (.tmp 56) 40 rfl w3.heap.size 22 iL (.slice none 0 0) 1 24 Try.underlying40 iL0 iL1 iL2 iL3 rfl (by omega) u12 K1 (ks.map Hd.enc) rfl hrow3.out ⟨wr.heap.size, 0, none⟩ 1 1 [.slice Ax lx cx] rfl rfl (news_one rfl) (by simp [Value.oneCell']) (by omega) (by unfold maxLen; omega) (by omega) (by simp; omega) (wr.heap.size + 1) (by simp) ?_; intro gN capN w9 hown9 hgrow9 hat9 hlt9)
                have hrow9 := Lib.hid (show w9.ownsRow w3.heap.size 22 1 (.slice (some ⟨gN, 0, none⟩) (K1 + 1) capN) (ks ++ [(⟨Ax, cx, zx⟩ : Hd)]).length ((ks ++ [(⟨Ax, cx, zx⟩ : Hd)]).map Hd.enc) by
                  rw [List.length_append, ← HK1.out, List.map_append]; simp only [List.map_cons, List.map_nil, Hd.enc, ← HLX.out]; exact hown9)
                have hb9 := Lib.hid (show Below w3.heap.size w3 w9 from (hbel2.out.alloc hsz2 (.cells #[.slice Ax lx cx] 22)).grown hgrow9 (by simp; omega) (fun k hk => (hrow3.out.lt k hk).1))
                clear hown9 hgrow9 hat9 hlt9
                go_wp2_with fail
                go_roundw
                case measure => simp [intOf]; omega
                case rel => exact ⟨t + 1, _, by go_num, by omega, hb9, hrow9, hks2⟩
          · obtain rfl : t = N1 := by omega
            have hks2 := Lib.hid (show ks = selW a.mr mk (hs.zip es) by rw [hks.out, List.take_of_length_le]; rw [List.length_zip, hhs.out, hes.out]; simp)
            obtain ⟨A2, c2, rfl, hrd⟩ := ownL_rd hrow.out (fun x hx => (HGL.out.below hbel.out).own x (by rw [hks2.out] at hx; exact selW_mem (t := (hs.zip es).length) (by rwa [List.take_of_length_le (Nat.le_refl _)])))
            have HRD := Lib.hid hrd
            clear hrd
            go_wp2_with fail
            go_ret2
            exact ⟨⟨A2, c2, ks, by rw [hr2.out]; rfl, by rw [hr2.out, hks2.out]; exact HSW.out, HRD.out.1, HRD.out.2.1, HRD.out.2.2, by omega⟩, hB3.out.trans (hbel.out.mono hB3.out.size)⟩
  · have hb0 : (u != 0) = true := by simp [h0]
    have hr := Lib.hid (show wordsR a most mk = ([], u) by rw [wordsR, ← HU.out, if_pos h0])
    clear h0
    go_enter Try.func23, Try.ntmps23
    go_wp2_with fail
    refine HC.out.mono ?_
    rintro e w1 ⟨rfl, hbw⟩
    go_wp2_with fail
    go_ret2
    exact ⟨WdsR.nil _ hr.out, HB1.out.trans (hbw.mono (by simp))⟩
end Go.Proofs.Ytcciiikaejjooaa
