/- Layer 3: generated of the program makes the words in their order. -/
import Derived.Test.YtcciiikaejjooaaaWl
namespace Go.Proofs.Ytcciiikaejjooaa
open Go.RowKit Go.Sort

/-- What generated hands back. -/
def GenR (w : World) (R : Option (List (List Int × Int))) (e : Ending) (w' : World) : Prop :=
  (R = none ∧ e = .returned (.tuple #[.slice none 0 0, .slice none 0 0, .int .i64 3])) ∨
  (∃ vw ve hs es L, R = some L ∧ e = .returned (.tuple #[vw, ve, .int .i64 0]) ∧ GL w' w.heap.size vw hs ve es ∧ hs.map Hd.z = L.map Prod.fst ∧ es = L.map Prod.snd ∧ L.length ≤ 1024 ∧ (∀ x ∈ hs, x.z.length ≤ 4096))
theorem wordmap_at {hs : List Hd} {L : List (List Int × Int)} (h : hs.map Hd.z = L.map Prod.fst) {j : Nat} {x : Hd} (hx : hs[j]? = some x) : x.z = (L.getD j ([], 0)).1 := by
  have h1 : (hs.map Hd.z)[j]? = some x.z := by rw [List.getElem?_map, hx]; rfl
  rw [h, List.getElem?_map] at h1
  cases hL : L[j]? with
  | none => rw [hL] at h1; simp at h1
  | some p => rw [hL] at h1; simp at h1; simp [List.getD, hL, h1]
theorem endmap_at {es : List Int} {L : List (List Int × Int)} (h : es = L.map Prod.snd) (j : Nat) (hj : j < L.length) : es.getD j 0 = (L.getD j ([], 0)).2 := by
  subst h
  simp [List.getD, List.getElem?_eq_getElem hj]
theorem getD_memP {L : List (List Int × Int)} {j : Nat} (h : j < L.length) : L.getD j ([], 0) ∈ L := by
  simp [List.getD, List.getElem?_eq_getElem h]
theorem ext_take {a : Au} {p : List Int × Int} {t : Nat} {x : Ed} (h : (succ a.ed p.2)[t]? = some x) : (extW a p).take (t + 1) = (extW a p).take t ++ [(p.1 ++ [x.e], x.t)] := by
  unfold extW
  rw [← List.map_take, ← List.map_take, take_succ_ed h, List.map_append]; rfl

set_option maxHeartbeats 4000000 in
set_option maxRecDepth 100000 in
theorem generated_any (A : Option Addr) (n c : Nat) (s : Int) (M : Option Addr) (m d : Nat) (E : Option Addr) (k g : Nat) (a : Au) (S : Nat) (most : Int) (w : World) (h : AuR w w.heap.size A n c s M m d E k g a) (hr : RightW a) (hS : s = (S : Int)) (hS0 : 0 < S) (hSb : S ≤ 5000) (hm0 : 0 ≤ most) (hm1 : most ≤ 4096) :
    Calls Try.prog 58 #[.agg #[.slice A n c, .int .i64 s, .slice M m d, .slice E k g], .int .i64 most] w fun e w' => GenR w (genO a most) e w' ∧ Below w.heap.size w w' := by
  have hst := h.st
  subst hS
  have HR := Lib.hid h
  have HRI := Lib.hid hr
  have HST := Lib.hid hst
  have HA := Lib.hid (Row.new w [.slice A n c, .int .i64 (S : Int), .slice M m d, .slice E k g] 25)
  have HB1 := Lib.hid ((Below.refl w.heap.size w).alloc (Nat.le_refl _) (.cells #[.slice A n c, .int .i64 (S : Int), .slice M m d, .slice E k g] 25))
  obtain ⟨iI, iI0, iI1, iI2, iI3⟩ := info_parts info_int
  obtain ⟨iL, iL0, iL1, iL2, iL3⟩ := info_parts info_ints
  have hbk := h.bk
  have hhk := h.hk
  have hdS : ((S : Int) == 0) = false := by simp; omega
  have HES := Lib.hid (fun W (hw : Below w.heap.size w W) => edgeStarts_any A n c (S : Int) M m d E k g a S w.heap.size W (h.below hw (Nat.le_refl _)) hw.size rfl hSb (fun x hx => (hr.edr x hx).1))
  obtain ⟨R, hRdef⟩ : ∃ R, R = genO a most := ⟨_, rfl⟩
  rw [← hRdef]
  have HG0 := Lib.hid (show genF a most 1026 0 [([], 0)] = R by rw [hRdef, genO, if_neg (by omega)])
  clear h hst hr hRdef
  go_enter Try.func58, Try.ntmps58
  go_wp2_with fail
  refine (HES.out _ HB1.out).mono ?_
  rintro e w2 ⟨gS, rfl, hgS, hrS, hbw⟩
  have hB2 := Lib.hid (HB1.out.trans (hbw.mono (by simp)))
  have hA2 := Lib.hid (HA.out.below hbw (by simp))
  have hS2 := Lib.hid hrS
  have hz := hbw.size
  simp only [World.size_alloc] at hz hgS
  have hgS2 := hrS.lt
  clear hrS hbw HES
  have hGL := Lib.hid (show GL (((w2.alloc (.cells #[] 3)).alloc (.cells #[.slice (some ⟨w2.heap.size, 0, none⟩) 0 0] 22)).alloc (.cells #[.int .i64 0] 3)) w2.heap.size (.slice (some ⟨w2.heap.size + 1, 0, none⟩) 1 1) [⟨some ⟨w2.heap.size, 0, none⟩, 0, []⟩] (.slice (some ⟨w2.heap.size + 1 + 1, 0, none⟩) 1 1) [0] from by
    refine ⟨?_, fun y hy => ?_, ?_, fun y hy => ?_⟩
    · have := (World.ownsRow_lit (base := w2.heap.size) (size := 1) (e := 22) (w2.alloc (.cells #[] 3)) #[.slice (some ⟨w2.heap.size, 0, none⟩) 0 0] 1 (by simp) (by unfold maxLen; omega) rfl).alloc (.cells #[.int .i64 0] 3)
      simpa [Hd.enc] using this
    · rw [List.mem_singleton] at hy; subst hy
      have := ((World.ownsRow_lit (base := w2.heap.size) (size := 1) (e := 3) w2 #[] 0 (Nat.le_refl _) (by unfold maxLen; omega) rfl).alloc (.cells #[.slice (some ⟨w2.heap.size, 0, none⟩) 0 0] 22)).alloc (.cells #[.int .i64 0] 3)
      simpa [Own, Hd.enc] using this
    · have := World.ownsRow_lit (base := w2.heap.size) (size := 1) (e := 3) ((w2.alloc (.cells #[] 3)).alloc (.cells #[.slice (some ⟨w2.heap.size, 0, none⟩) 0 0] 22)) #[.int .i64 0] 1 (by simp; omega) (by unfold maxLen; omega) rfl
      simpa [Own] using this
    · rw [List.mem_singleton] at hy; subst hy
      exact .inr (by simp [Hd.enc, Value.ownBlock]; omega))
  have hB3 := Lib.hid ((((Below.refl w2.heap.size w2).alloc (Nat.le_refl _) (.cells #[] 3)).alloc (by simp) (.cells #[.slice (some ⟨w2.heap.size, 0, none⟩) 0 0] 22)).alloc (by simp; omega) (.cells #[.int .i64 0] 3))
  go_wp2_with fail
  go_loopw [4, 5, 8] (fun vw ve i wr => ∃ (n0 : Nat) (hs : List Hd) (es : List Int) (L : List (List Int × Int)), i = .int .i64 n0 ∧ n0 ≤ 1024 ∧ Hid (Below w2.heap.size w2 wr) ∧ Hid (GL wr w2.heap.size vw hs ve es) ∧ Hid (hs.map Hd.z = L.map Prod.fst) ∧ Hid (es = L.map Prod.snd) ∧ Hid (1 ≤ L.length ∧ L.length ≤ 1024 ∧ n0 ≤ L.length) ∧ Hid (∀ p ∈ L, 0 ≤ p.2 ∧ p.2 < a.st) ∧ Hid (∀ p ∈ L, p.1.length ≤ 4096) ∧ Hid (genF a most (1026 - n0) n0 L = R)) (fun _ _ i _ => 1025 - (intOf i).toNat)
  case atStart =>
    refine ⟨0, _, _, [([], 0)], rfl, Nat.zero_le _, hB3, hGL, rfl, rfl, ⟨by simp, by simp, by simp⟩, ?_, ?_, HG0⟩
    · intro p hp; rw [List.mem_singleton] at hp; subst hp; rw [HST.out]; omega
    · intro p hp; rw [List.mem_singleton] at hp; subst hp; simp
  case round =>
    clear hGL hB3 HG0
    obtain ⟨n0, hs, es, L, rfl, hn0, hbel, hgl, hmw, hme, hlen, hrg, hwl, hgf⟩ := hrel
    obtain ⟨N1, hN1⟩ : ∃ N1, N1 = L.length := ⟨_, rfl⟩
    have HN1 := Lib.hid hN1
    have hl1 := hlen.out
    rw [← hN1] at hl1
    have hhs : hs.length = N1 := by have := congrArg List.length hmw.out; simpa [← hN1] using this
    have hes : es.length = N1 := by rw [hme.out, List.length_map, hN1]
    obtain ⟨gW, cW, rfl, hcW1, hcW2, hcW3⟩ := hgl.out.len hhs (by omega)
    obtain ⟨gE, cE, rfl, hgE, hcE, hcap, hcap2⟩ := own_shape hgl.out.ends hes.symm (by omega)
    have HcE := Lib.hid hcE
    have HcW3 := Lib.hid hcW3
    have hgl' := hgl
    have hfin := Lib.hid (show GL wr w.heap.size _ hs _ es from hgl.out.base hB2.out.size)
    have hwl2 := Lib.hid (show ∀ x ∈ hs, x.z.length ≤ 4096 from fun x hx => by
      obtain ⟨j, hj⟩ := List.mem_iff_getElem?.1 hx
      have hj2 : j < L.length := by have := (List.getElem?_eq_some_iff.1 hj).1; rw [hhs, HN1.out] at this; exact this
      rw [wordmap_at hmw.out hj]
      exact hwl.out _ (getD_memP hj2))
    clear hN1 hcE hcW3 hgl
    by_cases hlt : n0 < N1
    · obtain ⟨x, hx⟩ : ∃ x, hs[n0]? = some x := ⟨_, List.getElem?_eq_getElem (by omega)⟩
      have hcx := HcW3.out n0 x hx
      have hxz := wordmap_at hmw.out hx
      have hp := getD_memP (L := L) (j := n0) (by rw [← HN1.out]; exact hlt)
      obtain ⟨p, hpp⟩ : ∃ p, p = L.getD n0 ([], 0) := ⟨_, rfl⟩
      rw [← hpp] at hxz hp
      have hpl := hwl.out p hp
      have hpr := hrg.out p hp
      have HPP := Lib.hid hpp
      obtain ⟨hxr, hxc1, hxc2⟩ := hgl'.out.word_rd hx
      have HX := Lib.hid hx
      have HXR := Lib.hid hxr
      obtain ⟨Ax, cx, zx⟩ := x
      simp only [Hd.enc] at hcx hxz hxc1 hxc2
      obtain ⟨lx, hlx⟩ : ∃ lx, lx = zx.length := ⟨_, rfl⟩
      have HLX := Lib.hid hlx
      rw [← hlx] at hcx hxc1
      have hlx2 : lx ≤ 4096 := by rw [hlx, hxz]; exact hpl
      have HXZ := Lib.hid hxz
      clear hlx hx hxr hxz hpp
      by_cases hml : (lx : Int) < most
      · obtain ⟨Q, hQ⟩ : ∃ Q : Nat, p.2 = (Q : Int) := ⟨p.2.toNat, by omega⟩
        have hQS : Q < S := by rw [HST.out] at hpr; omega
        have c1 := HcE.out n0 hlt
        rw [endmap_at hme.out n0 (by rw [← HN1.out]; exact hlt), ← HPP.out, hQ] at c1
        have HQ := Lib.hid hQ
        obtain ⟨Q1, hQ1⟩ : ∃ Q1, Q1 = Q + 1 := ⟨_, rfl⟩
        have hQ1j : Q1 < S + 1 := by omega
        have hSr := hS2.out.below hbel.out hgS2
        have hAr := hA2.out.below hbel.out (by omega)
        have c2 := hSr.int (j := Q) (by rw [startL_len]; omega)
        rw [startL_at (by omega)] at c2
        have c3 := hSr.int (j := Q1) (by rw [startL_len]; omega)
        rw [startL_at (by omega)] at c3
        have c4 := hAr.cell 3 rfl
        have hsl := succ_len HRI.out.edo Q
        rw [← hQ1] at hsl
        have hmo := startN_mono a.ed Q
        rw [← hQ1] at hmo
        have hle := startN_le a.ed Q1
        rw [HR.out.hk] at hle
        have hat := Lib.hid (succ_at HRI.out.edo Q)
        rw [← hQ1] at hat
        obtain ⟨lo, hlo⟩ : ∃ lo, lo = startN a.ed Q := ⟨_, rfl⟩
        obtain ⟨hi, hhi⟩ : ∃ hi, hi = startN a.ed Q1 := ⟨_, rfl⟩
        rw [← hlo] at c2 hsl hmo hat
        rw [← hhi] at c3 hsl hmo hat hle
        have hwr : IntKind.i64.wrap ((Q : Int) + 1) = (Q1 : Int) := by rw [IntWalk.i64_in _ (by omega)]; omega
        have hkg := HR.out.ck.1
        have hkg2 := HR.out.ck.2
        have j0 : (0 : Int) ≤ (Q1 : Int) := by omega
        have j1 : (Q1 : Int) < (S : Int) + 1 := by omega
        have j2 : (Q : Int) < (S : Int) + 1 := by omega
        have j3 : (lo : Int) ≤ (hi : Int) := by omega
        have j4 : (hi : Int) ≤ (g : Int) := by omega
        obtain ⟨N, hN⟩ : ∃ N, N = hi - lo := ⟨_, rfl⟩
        have hNi : (hi : Int) - (lo : Int) = (N : Int) := by omega
        rw [← hN] at hsl hat
        have hNb : N ≤ 1000000 := by omega
        have HNN := Lib.hid hN
        have HNI := Lib.hid hNi
        have HSL := Lib.hid hsl
        have HED := Lib.hid HR.out.ed
        clear hQ hQ1 hlo hhi hsl hN hNi hSr hAr
        go_wp2_with fail
        go_upto_region 8 with fail
        go_cut [51, 52, 53] from 19 to 77 (fun v1 v2 v3 wx => ∃ (E1 : Option Addr) (c1 : Nat), v1 = .slice E1 N c1 ∧ v2 = .int .i64 (N : Int) ∧ v3 = .int .i64 0 ∧ Hid (RdG w w.heap.size E1 (succ a.ed (Q : Int))) ∧ Hid (Below w2.heap.size w2 wx) ∧ Hid (GL wx w2.heap.size (.slice (some ⟨gW, 0, none⟩) N1 cW) hs (.slice (some ⟨gE, 0, none⟩) N1 cE) es))
        case first =>
          by_cases hne : lo < hi
          · obtain ⟨bE, oE, rfl, hbE, hcE⟩ := HED.out (by omega)
            have hgl : ¬ g = lo := by omega
            have hrd := Lib.hid (show RdG w w.heap.size (some ⟨bE, oE + lo * 3, none⟩) (succ a.ed (Q : Int)) from fun _ => ⟨bE, oE + lo * 3, rfl, hbE, fun t x hx => by
              have htN : t < N := by have := (List.getElem?_eq_some_iff.1 hx).1; rw [HSL.out] at this; exact this
              rw [hat.out t htN] at hx
              have := hcE (lo + t) x hx
              rwa [show oE + (lo + t) * 3 = oE + lo * 3 + t * 3 by omega] at this⟩)
            clear hcE
            go_wp2_with fail
            go_quiet (fail)
            go_wp2_with fail
            go_meet
            case rel => exact ⟨_, _, by rw [HNN.out], by first | rfl | exact congrArg (Value.int .i64) (by have := HNI.out; omega), rfl, hrd, Lib.hid (below_drewN hbel.out nq), Lib.hid (hgl'.out.drewN nq)⟩
          · have hN0 : N = 0 := by rw [HNN.out]; omega
            have hrd := Lib.hid (show ∀ E1, RdG w w.heap.size E1 (succ a.ed (Q : Int)) from fun E1 h => by rw [HSL.out] at h; omega)
            obtain rfl : hi = lo := by omega
            rcases E with _ | ⟨bE, oE, fE⟩
            · go_wp2_with fail
              go_quiet (fail)
              go_wp2_with fail
              go_meet
              case rel => exact ⟨_, _, by rw [hN0], by first | rfl | exact congrArg (Value.int .i64) (by omega), rfl, hrd.out _, Lib.hid (below_drewN hbel.out nq), Lib.hid (hgl'.out.drewN nq)⟩
            · by_cases hgl : g = hi
              all_goals
                go_wp2_with fail
                go_quiet (fail)
                go_wp2_with fail
                go_meet
                case rel => exact ⟨_, _, by rw [hN0], by first | rfl | exact congrArg (Value.int .i64) (by omega), rfl, hrd.out _, Lib.hid (below_drewN hbel.out nq), Lib.hid (hgl'.out.drewN nq)⟩
        case rest =>
          clear hbel hgl'
          obtain ⟨E1, c1, rfl, rfl, rfl, hrd, hbel, hgl'⟩ := hcut
          have hlim := Lib.hid (fun (h : 1024 < N1 + N) => genF_limit hgf.out (by omega) (by rw [← HPP.out, ← HXZ.out, ← HLX.out, ← HN1.out]; exact ⟨hlt, hml⟩) (by rw [← HPP.out, ← HN1.out]; unfold extW; rw [List.length_map, HQ.out, HSL.out]; exact h))
          have hgo := Lib.hid (fun (h : N1 + N ≤ 1024) => genF_go hgf.out (by omega) (by rw [← HPP.out, ← HXZ.out, ← HLX.out, ← HN1.out]; exact ⟨hlt, hml⟩) (by rw [← HPP.out, ← HN1.out]; unfold extW; rw [List.length_map, HQ.out, HSL.out]; exact h))
          rw [← HPP.out] at hgo
          have hlx3 : lx + 1 ≤ 4096 := by omega
          clear c2 c3 c4 hwr hat j0 j1 j2 j3 j4 HED hcx hxc1 hxc2 HXR HcE HcW3 hcap hcap2 hcW1 hcW2 hgE hfin hwl2 hgf hml
          go_wp2_with fail
          go_loopw [4, 5, 53] (fun vw ve i wr => ∃ (t : Nat) (hs : List Hd) (es : List Int), i = .int .i64 t ∧ t ≤ N ∧ N1 + t ≤ 1024 ∧ Hid (Below w2.heap.size w2 wr) ∧ Hid (GL wr w2.heap.size vw hs ve es) ∧ Hid (hs.map Hd.z = (L ++ (extW a p).take t).map Prod.fst) ∧ Hid (es = (L ++ (extW a p).take t).map Prod.snd) ∧ Hid (hs[n0]? = some ⟨Ax, cx, zx⟩)) (fun _ _ i _ => N - (intOf i).toNat)
          case atStart => exact ⟨0, hs, es, rfl, Nat.zero_le _, hl1.2.1, hbel, hgl', by rw [List.take_zero, List.append_nil]; exact hmw, by rw [List.take_zero, List.append_nil]; exact hme, HX⟩
          case round =>
            clear hbel hgl' hmw hme HX hhs hes
            obtain ⟨t, hs, es, rfl, htN, ht1, hbel, hgl, hmw, hme, hX⟩ := hrel
            have hLx : (L ++ (extW a p).take t).length = N1 + t := by
              rw [List.length_append, List.length_take, ← HN1.out]; unfold extW; rw [List.length_map, HQ.out, HSL.out]; omega
            obtain ⟨M1, hM1⟩ : ∃ M1, M1 = N1 + t := ⟨_, rfl⟩
            rw [← hM1] at hLx
            have hhs : hs.length = M1 := by have := congrArg List.length hmw.out; rw [List.length_map, List.length_map, hLx] at this; exact this
            have hes : es.length = M1 := by rw [hme.out, List.length_map, hLx]
            obtain ⟨gW, cW, rfl, hcW1, hcW2, hcW3⟩ := hgl.out.len hhs (by omega)
            obtain ⟨gE, cE, rfl, hgE, hcE, hcap, hcap2⟩ := own_shape hgl.out.ends hes.symm (by omega)
            have hcx := hcW3 n0 _ hX.out
            obtain ⟨hxr, hxc1, hxc2⟩ := hgl.out.word_rd hX.out
            simp only [Hd.enc] at hcx
            rw [← HLX.out] at hcx
            have hM0 : n0 < M1 := by omega
            have HHS := Lib.hid hhs
            have HES := Lib.hid hes
            have HM1 := Lib.hid hM1
            have hM2 : M1 ≤ 1024 := by omega
            clear hcE hcW3 hLx hM1 hhs hes hxc1 hxc2
            by_cases htl : t < N
            · obtain ⟨bE, oE, rfl, hbE, hcE⟩ := hrd.out (by rw [HSL.out]; omega)
              obtain ⟨x, hx⟩ : ∃ x, (succ a.ed (Q : Int))[t]? = some x := ⟨_, List.getElem?_eq_getElem (by rw [HSL.out]; omega)⟩
              have hxr2 : EdAt wr bE (oE + t * 3) x := (hcE t x hx).keep fun o => (hB2.out.trans (hbel.out.mono hB2.out.size)).cell (p := ⟨bE, o, none⟩) hbE
              have hex := Lib.hid (ext_take (a := a) (p := p) (t := t) (x := x) (by rw [HQ.out]; exact hx))
              obtain ⟨xf, xe, xt⟩ := x
              obtain ⟨z0, z1, z2⟩ := hxr2
              have hHX := Lib.hid hxr
              clear hcE hx hxr
              by_cases hM3 : M1 = 1024
              · have hRv := Lib.hid (hlim.out (by have := HM1.out; omega))
                have hbm : ((M1 : Int) == 1024) = true := by simp [hM3]
                go_wp2_with fail
                go_ret3
                exact ⟨.inl ⟨hRv.out, rfl⟩, hB2.out.trans ((hbel.out.alloc hbel.out.size _).mono hB2.out.size)⟩
              · have hbm : ((M1 : Int) == 1024) = false := by simp; omega
                go_upto_region 13 with fail
                have hgl5 := Lib.hid (hgl.out.below ((Below.refl wr.heap.size wr).alloc (Nat.le_refl _) (.cells #[.int .i64 xf, .int .i64 xe, .int .i64 xt] 67)))
                have hB5 := Lib.hid (hbel.out.alloc hbel.out.size (.cells #[.int .i64 xf, .int .i64 xe, .int .i64 xt] 67))
                have hX5 := Lib.hid (EdAt.made wr xf xe xt 67)
                have hR5 := Lib.hid ((hHX.out.below ((Below.refl wr.heap.size wr).alloc (Nat.le_refl _) (.cells #[.int .i64 xf, .int .i64 xe, .int .i64 xt] 67)) (Nat.le_refl _)).more (by simp) : RdI (wr.alloc (.cells #[.int .i64 xf, .int .i64 xe, .int .i64 xt] 67)) (wr.alloc (.cells #[.int .i64 xf, .int .i64 xe, .int .i64 xt] 67)).heap.size Ax zx)
                have hc5 : (wr.alloc (.cells #[.int .i64 xf, .int .i64 xe, .int .i64 xt] 67)).cell? ⟨gW, n0, none⟩ = some (.slice Ax lx cx) := (World.cell?_alloc_lt wr _ ⟨gW, n0, none⟩ (hgl.out.row.lt gW rfl).2).trans hcx
                have hs5 : wr.heap.size < (wr.alloc (.cells #[.int .i64 xf, .int .i64 xe, .int .i64 xt] 67)).heap.size := by simp
                have hgWr : gW < wr.heap.size := (hgl.out.row.lt gW rfl).2
                clear hcx z0 z1 z2 hHX hgE
                generalize wr.alloc (.cells #[.int .i64 xf, .int .i64 xe, .int .i64 xt] 67) = w5 at *
                have hrow5 := Lib.hid (show w5.ownsRow w2.heap.size 22 1 (.slice (some ⟨gW, 0, none⟩) M1 cW) M1 (hs.map Hd.enc) by have := hgl5.out.row; rwa [HHS.out] at this)
                have hbs5 := hB5.out.size
                clear hgl hbel
                go_cut [4, 53] from 53 to 77 (fun v i wx => i = .int .i64 (t : Int) ∧ ∃ (A3 : Option Addr) (c3 : Nat), Hid (Below w2.heap.size w2 wx) ∧ Hid (GL wx w2.heap.size v (hs ++ [⟨A3, c3, zx ++ [xe]⟩]) (.slice (some ⟨gE, 0, none⟩) M1 cE) es) ∧ Hid (EdAt wx wr.heap.size 0 ⟨xf, xe, xt⟩) ∧ wr.heap.size < wx.heap.size)
                case first =>
                  obtain ⟨z0, z1, z2⟩ := hX5.out.shift0
                  have v0 := fun cs : Array Value => (World.cell?_alloc_lt w5 (.cells cs 3) ⟨gW, n0, none⟩ (by show gW < w5.heap.size; omega)).trans hc5
                  go_region_law (first
                    | (go_simp; go_at_call 75; refine (concat_any (w5.heap.size + 1) 0 2 Ax lx cx (some ⟨w5.heap.size, 0, none⟩) 1 1 zx [xe] _ (by first | exact two_made w5 hR5.out HLX.out.symm | exact two_made w5.drew hR5.out HLX.out.symm) (by omega) (by omega)).mono ?_; rintro e w8 ⟨A3, c3, rfl, ho8, hb8⟩
                       have HO8 := Lib.hid (show Own w8 w5.heap.size (.slice A3 (lx + 1) c3) (zx ++ [xe]) from own_more ho8 (by simp; omega))
                       have HB8 := Lib.hid (show Below w5.heap.size w5 w8 from Below.trans (by repeat (first | exact Below.refl _ _ | refine Below.drew ?_ | refine Below.alloc ?_ (by simp; try omega) _)) (hb8.mono (by simp; try omega)))
                       have HR8 := Lib.hid (own_below hrow5.out HB8.out)
                       have hsz8 := HB8.out.size
                       clear ho8 hb8)
                    | (refine step_append_lies _ (by rfl) (.tmp 60) (.tmp 70) _ (by rfl) w2.heap.size 22 iL (.slice none 0 0) 1 24 Try.underlying40 iL0 iL1 iL2 iL3 rfl (by omega) (.slice (some ⟨gW, 0, none⟩) M1 cW) M1 (hs.map Hd.enc) (by rfl) (by first | exact (HR8.out.alloc _).drew | exact (HR8.out.alloc _)) ⟨w8.heap.size, 0, none⟩ 1 1 [.slice A3 (lx + 1) c3] (by rfl) (by rfl) (World.news_of_block (cs := #[.slice A3 (lx + 1) c3]) (t := 22) (fr := (0, 0)) (heap_alloc_new w8 _)) (by simp [Value.oneCell']) (by omega) (by unfold maxLen; omega) (by omega) (by simp; omega) (w8.heap.size + 1) (by simp) ?_; intro gG capG w9 hown9 hgrow9 hat9 hlt9))
                  all_goals
                    have hlen9 : (zx ++ [xe]).length = lx + 1 := by rw [List.length_append, ← HLX.out]; rfl
                    have hB9 : Below w5.heap.size w5 (w8.alloc (.cells #[.slice A3 (lx + 1) c3] 22)) := HB8.out.alloc HB8.out.size _
                    have hO9 : Own (w8.alloc (.cells #[.slice A3 (lx + 1) c3] 22)) w5.heap.size (Hd.enc ⟨A3, c3, zx ++ [xe]⟩) (zx ++ [xe]) := by
                      have := HO8.out.alloc (.cells #[.slice A3 (lx + 1) c3] 22)
                      unfold Hd.enc; simp only [hlen9]; exact this
                    have hgl9 := Lib.hid (show GL w9 w2.heap.size (.slice (some ⟨gG, 0, none⟩) (M1 + 1) capG) (hs ++ [⟨A3, c3, zx ++ [xe]⟩]) (.slice (some ⟨gE, 0, none⟩) M1 cE) es from by
                      refine GL.word (n := M1 + 1) hgl5.out hB9 hO9 hbs5 ?_ (by rw [HHS.out]) (by exact hgrow9)
                      unfold Hd.enc at hown9 ⊢; simp only [hlen9]; exact hown9)
                    have hb9 := Lib.hid (show Below w2.heap.size w2 w9 from ((hB5.out.trans (hB9.mono hbs5)).grown (show (w8.alloc (.cells #[.slice A3 (lx + 1) c3] 22)).grownBy w9 _ from hgrow9) (by have := hB9.size; simp at this ⊢; omega) (fun k hk => (HR8.out.lt k hk).1)))
                    have hX9 := Lib.hid (show EdAt w9 wr.heap.size 0 ⟨xf, xe, xt⟩ from ((hX5.out.keep fun o => hB9.cell (p := ⟨wr.heap.size, o, none⟩) hs5).grown (show (w8.alloc (.cells #[.slice A3 (lx + 1) c3] 22)).grownBy w9 _ from hgrow9) (by have := hB9.size; simp at this ⊢; omega) (fun e => by simp [Value.ownBlock] at e; omega)))
                    have hs9 : wr.heap.size < w9.heap.size := by have := hgrow9.size; simp at this; omega
                    clear hown9 hgrow9 hat9
                    go_wp2_with fail
                    go_meet
                    case rel => exact ⟨rfl, A3, c3, by first | exact hb9 | exact Lib.hid hb9.out.drew, by first | exact hgl9 | exact Lib.hid hgl9.out.drew, hX9, hs9⟩
                case rest =>
                  clear hgl5 hB5 hX5 hR5 hc5 hs5 hrow5 hbs5
                  obtain ⟨rfl, A3, c3, hbel, hgl, hX5, hs5⟩ := hcut
                  have hbo := Below.alloc (Below.refl wc.heap.size wc) (Nat.le_refl _) (.cells #[.int .i64 xt] 3)
                  have hgl6 := Lib.hid (hgl.out.below hbo)
                  have hown6 := Lib.hid (show (wc.alloc (.cells #[.int .i64 xt] 3)).ownsRow w2.heap.size 3 1 (.slice (some ⟨gE, 0, none⟩) M1 cE) M1 (es.map (Value.int .i64)) by
                    have := hgl6.out.ends; unfold Own at this; rwa [HES.out] at this)
                  have hbs6 := hbel.out.size
                  obtain ⟨z0, z1, z2⟩ := hX5.out.shift0
                  have hmw2 := Lib.hid (show (hs ++ [(⟨A3, c3, zx ++ [xe]⟩ : Hd)]).map Hd.z = (L ++ (extW a p).take (t + 1)).map Prod.fst by
                    rw [hex.out, ← List.append_assoc, List.map_append, List.map_append (l₂ := [(p.1 ++ [xe], xt)]), hmw.out, HXZ.out]; rfl)
                  have hme2 := Lib.hid (show es ++ [xt] = (L ++ (extW a p).take (t + 1)).map Prod.snd by
                    rw [hex.out, ← List.append_assoc, List.map_append (l₂ := [(p.1 ++ [xe], xt)]), hme.out]; rfl)
                  have hX2 := Lib.hid (show (hs ++ [(⟨A3, c3, zx ++ [xe]⟩ : Hd)])[n0]? = some ⟨Ax, cx, zx⟩ by
                    rw [List.getElem?_append_left (by rw [HHS.out]; exact hM0)]; exact hX.out)
                  clear hbo
                  go_wp2_with (at_builtin; refine wpList_append_lies _ rfl (.tmp 72) (.tmp 75) 22 rfl w2.heap.size 3 iI (.int .i64 0) 1 8 Try.underlying22 iI0 iI1 iI2 iI3 rfl (by omega) (.slice (some ⟨gE, 0, none⟩) M1 cE) M1 (es.map (Value.int .i64)) rfl hown6.out ⟨wc.heap.size, 0, none⟩ 1 1 [.int .i64 xt] rfl rfl (news_one rfl) (by simp [Value.oneCell']) (by omega) (by unfold maxLen; omega) (by omega) (by simp; omega) (wc.heap.size + 1) (by simp) ?_; intro gN capN w9 hown9 hgrow9 hat9 hlt9)
                  have hgl9 := Lib.hid (GL.end_ (t := xt) hgl6.out (show Own w9 w2.heap.size (.slice (some ⟨gN, 0, none⟩) (M1 + 1) capN) (es ++ [xt]) by unfold Own; rw [List.length_append, HES.out, List.map_append]; exact hown9) hgrow9 (fun j hj => by
                    simp [Value.ownBlock] at hj; subst hj
                    rcases hat9 with h | h
                    · exact .inl h
                    · right; simp; omega))
                  have hb9 := Lib.hid (show Below w2.heap.size w2 w9 from (hbel.out.alloc hbel.out.size (.cells #[.int .i64 xt] 3)).grown hgrow9 (by simp; omega) (fun k hk => (hown6.out.lt k hk).1))
                  clear hown9 hgrow9 hat9 hgl hbel hgl6 hown6 z0 z1 z2 hX5
                  go_wp2_with fail
                  go_roundw
                  case measure => simp [intOf]; omega
                  case rel => exact ⟨t + 1, _, _, by go_num, by omega, by have := HM1.out; omega, hb9, hgl9, hmw2, hme2, hX2⟩
            · obtain rfl : t = N := by omega
              rw [List.take_of_length_le (by unfold extW; rw [List.length_map, HQ.out, HSL.out]; exact Nat.le_refl _)] at hmw hme
              have hgf2 := Lib.hid (show genF a most (1026 - (n0 + 1)) (n0 + 1) (L ++ extW a p) = R from by have := hgo.out ht1; rwa [show 1026 - n0 - 1 = 1026 - (n0 + 1) by omega] at this)
              have hlen2 := Lib.hid (show 1 ≤ (L ++ extW a p).length ∧ (L ++ extW a p).length ≤ 1024 ∧ n0 + 1 ≤ (L ++ extW a p).length by
                rw [List.length_append, ← HN1.out]; unfold extW; rw [List.length_map, HQ.out, HSL.out]; omega)
              have hrg2 := Lib.hid (show ∀ q ∈ L ++ extW a p, 0 ≤ q.2 ∧ q.2 < a.st from fun q hq => by
                rcases List.mem_append.1 hq with hq | hq
                · exact hrg.out q hq
                · exact extW_range HRI.out p q hq)
              have hwl2 := Lib.hid (show ∀ q ∈ L ++ extW a p, q.1.length ≤ 4096 from fun q hq => by
                rcases List.mem_append.1 hq with hq | hq
                · exact hwl.out q hq
                · obtain ⟨y, _, rfl⟩ := List.mem_map.1 hq
                  rw [List.length_append, ← HXZ.out, ← HLX.out]; exact hlx3)
              go_wp2_with fail
              go_roundw
              case measure => simp [intOf]; omega
              case rel => exact ⟨n0 + 1, hs, es, L ++ extW a p, by go_num, by omega, hbel, hgl, hmw, hme, hlen2, hrg2, hwl2, hgf2⟩
      · have hRv := Lib.hid (genF_stop hgf.out (by omega) (by rw [← HPP.out, ← HXZ.out, ← HLX.out]; omega))
        go_wp2_with fail
        go_ret3
        exact ⟨.inr ⟨_, _, hs, es, L, hRv.out, rfl, hfin.out, hmw.out, hme.out, hlen.out.2.1, hwl2.out⟩, hB2.out.trans (hbel.out.mono hB2.out.size)⟩
    · have hRv := Lib.hid (genF_stop hgf.out (by omega) (by rw [← HN1.out]; omega))
      go_wp2_with fail
      go_ret3
      exact ⟨.inr ⟨_, _, hs, es, L, hRv.out, rfl, hfin.out, hmw.out, hme.out, hlen.out.2.1, hwl2.out⟩, hB2.out.trans (hbel.out.mono hB2.out.size)⟩
end Go.Proofs.Ytcciiikaejjooaa
