/- Texts merged: what follows were texts of their own. -/
import Derived.Test.YtcciiikaejjooaaZa5
import Derived.Test.YtcciiikaejjooaaZa6
import Derived.Test.YtcciiikaejjooaaZa2
import Derived.Test.YtcciiikaejjooaaZa3
/- Layer 3: generated of the program makes the words in their order. -/
namespace Go.Proofs.Ytcciiikaejjooaa
open Go.RowKit Go.Sort

/-- What generated hands back. -/
def GenR (w : World) (R : Option (List (List Int × Int))) (e : Ending) (w' : World) : Prop :=
  (R = none ∧ e = .returned (.tuple #[.slice none 0 0, .slice none 0 0, .int .i64 3])) ∨
  (∃ vw ve hs es L, R = some L ∧ e = .returned (.tuple #[vw, ve, .int .i64 0]) ∧ GL w' w.heap.size vw hs ve es ∧ hs.map Hd.z = L.map Prod.fst ∧ es = L.map Prod.snd ∧ L.length ≤ 1024 ∧ (∀ x ∈ hs, x.z.length ≤ 4096))
theorem wordmap_at {hs : List Hd} {L : List (List Int × Int)} (h : hs.map Hd.z = L.map Prod.fst) {j : Nat} {x : Hd} (hx : hs[j]? = some x) : x.z = (L.getD j ([], 0)).1 := by
  have h1 : (hs.map Hd.z)[j]? = some x.z := by rw [List.getElem?_map, hx]; rfl
  rw [h, List.getElem?_map] at h1
  cases hL : L[j]? with
  | none => rw [hL] at h1; simp at h1
  | some p => rw [hL] at h1; simp at h1; simp [List.getD, hL, h1]
theorem endmap_at {es : List Int} {L : List (List Int × Int)} (h : es = L.map Prod.snd) (j : Nat) (hj : j < L.length) : es.getD j 0 = (L.getD j ([], 0)).2 := by
  subst h
  simp [List.getD, List.getElem?_eq_getElem hj]
theorem getD_memP {L : List (List Int × Int)} {j : Nat} (h : j < L.length) : L.getD j ([], 0) ∈ L := by
  simp [List.getD, List.getElem?_eq_getElem h]
theorem ext_take {a : Au} {p : List Int × Int} {t : Nat} {x : Ed} (h : (succ a.ed p.2)[t]? = some x) : (extW a p).take (t + 1) = (extW a p).take t ++ [(p.1 ++ [x.e], x.t)] := by
  unfold extW
  rw [← List.map_take, ← List.map_take, take_succ_ed h, List.map_append]; rfl

set_option maxHeartbeats 4000000 in
set_option maxRecDepth 100000 in
theorem generated_any (A : Option Addr) (n c : Nat) (s : Int) (M : Option Addr) (m d : Nat) (E : Option Addr) (k g : Nat) (a : Au) (S : Nat) (most : Int) (w : World) (h : AuR w w.heap.size A n c s M m d E k g a) (hr : RightW a) (hS : s = (S : Int)) (hS0 : 0 < S) (hSb : S ≤ 5000) (hm0 : 0 ≤ most) (hm1 : most ≤ 4096) :
    Calls Try.prog 58 #[.agg #[.slice A n c, .int .i64 s, .slice M m d, .slice E k g], .int .i64 most] w fun e w' => GenR w (genO a most) e w' ∧ Below w.heap.size w w' := by
  have hst := h.st
  subst hS
  have HR := Lib.hid h
  have HRI := Lib.hid hr
  have HST := Lib.hid hst
  have HA := Lib.hid (Row.new w [.slice A n c, .int .i64 (S : Int), .slice M m d, .slice E k g] 25)
  have HB1 := Lib.hid ((Below.refl w.heap.size w).alloc (Nat.le_refl _) (.cells #[.slice A n c, .int .i64 (S : Int), .slice M m d, .slice E k g] 25))
  obtain ⟨iI, iI0, iI1, iI2, iI3⟩ := info_parts info_int
  obtain ⟨iL, iL0, iL1, iL2, iL3⟩ := info_parts info_ints
  have hbk := h.bk
  have hhk := h.hk
  have hdS : ((S : Int) == 0) = false := by simp; omega
  have HES := Lib.hid (fun W (hw : Below w.heap.size w W) => edgeStarts_any A n c (S : Int) M m d E k g a S w.heap.size W (h.below hw (Nat.le_refl _)) hw.size rfl hSb (fun x hx => (hr.edr x hx).1))
  obtain ⟨R, hRdef⟩ : ∃ R, R = genO a most := ⟨_, rfl⟩
  rw [← hRdef]
  have HG0 := Lib.hid (show genF a most 1026 0 [([], 0)] = R by rw [hRdef, genO, if_neg (by omega)])
  clear h hst hr hRdef
  go_enter Try.func58, Try.ntmps58
  go_wp2_with fail
  refine (HES.out _ HB1.out).mono ?_
  rintro e w2 ⟨gS, rfl, hgS, hrS, hbw⟩
  have hB2 := Lib.hid (HB1.out.trans (hbw.mono (by simp)))
  have hA2 := Lib.hid (HA.out.below hbw (by simp))
  have hS2 := Lib.hid hrS
  have hz := hbw.size
  simp only [World.size_alloc] at hz hgS
  have hgS2 := hrS.lt
  clear hrS hbw HES
  have hGL := Lib.hid (show GL (((w2.alloc (.cells #[] 3)).alloc (.cells #[.slice (some ⟨w2.heap.size, 0, none⟩) 0 0] 22)).alloc (.cells #[.int .i64 0] 3)) w2.heap.size (.slice (some ⟨w2.heap.size + 1, 0, none⟩) 1 1) [⟨some ⟨w2.heap.size, 0, none⟩, 0, []⟩] (.slice (some ⟨w2.heap.size + 1 + 1, 0, none⟩) 1 1) [0] from by
    refine ⟨?_, fun y hy => ?_, ?_, fun y hy => ?_⟩
    · have := (World.ownsRow_lit (base := w2.heap.size) (size := 1) (e := 22) (w2.alloc (.cells #[] 3)) #[.slice (some ⟨w2.heap.size, 0, none⟩) 0 0] 1 (by simp) (by unfold maxLen; omega) rfl).alloc (.cells #[.int .i64 0] 3)
      simpa [Hd.enc] using this
    · rw [List.mem_singleton] at hy; subst hy
      have := ((World.ownsRow_lit (base := w2.heap.size) (size := 1) (e := 3) w2 #[] 0 (Nat.le_refl _) (by unfold maxLen; omega) rfl).alloc (.cells #[.slice (some ⟨w2.heap.size, 0, none⟩) 0 0] 22)).alloc (.cells #[.int .i64 0] 3)
      simpa [Own, Hd.enc] using this
    · have := World.ownsRow_lit (base := w2.heap.size) (size := 1) (e := 3) ((w2.alloc (.cells #[] 3)).alloc (.cells #[.slice (some ⟨w2.heap.size, 0, none⟩) 0 0] 22)) #[.int .i64 0] 1 (by simp; omega) (by unfold maxLen; omega) rfl
      simpa [Own] using this
    · rw [List.mem_singleton] at hy; subst hy
      exact .inr (by simp [Hd.enc, Value.ownBlock]; omega))
  have hB3 := Lib.hid ((((Below.refl w2.heap.size w2).alloc (Nat.le_refl _) (.cells #[] 3)).alloc (by simp) (.cells #[.slice (some ⟨w2.heap.size, 0, none⟩) 0 0] 22)).alloc (by simp; omega) (.cells #[.int .i64 0] 3))
  go_wp2_with fail
  go_loopw [4, 5, 8] (fun vw ve i wr => ∃ (n0 : Nat) (hs : List Hd) (es : List Int) (L : List (List Int × Int)), i = .int .i64 n0 ∧ n0 ≤ 1024 ∧ Hid (Below w2.heap.size w2 wr) ∧ Hid (GL wr w2.heap.size vw hs ve es) ∧ Hid (hs.map Hd.z = L.map Prod.fst) ∧ Hid (es = L.map Prod.snd) ∧ Hid (1 ≤ L.length ∧ L.length ≤ 1024 ∧ n0 ≤ L.length) ∧ Hid (∀ p ∈ L, 0 ≤ p.2 ∧ p.2 < a.st) ∧ Hid (∀ p ∈ L, p.1.length ≤ 4096) ∧ Hid (genF a most (1026 - n0) n0 L = R)) (fun _ _ i _ => 1025 - (intOf i).toNat)
  case atStart =>
    refine ⟨0, _, _, [([], 0)], rfl, Nat.zero_le _, hB3, hGL, rfl, rfl, ⟨by simp, by simp, by simp⟩, ?_, ?_, HG0⟩
    · intro p hp; rw [List.mem_singleton] at hp; subst hp; rw [HST.out]; omega
    · intro p hp; rw [List.mem_singleton] at hp; subst hp; simp
  case round =>
    clear hGL hB3 HG0
    obtain ⟨n0, hs, es, L, rfl, hn0, hbel, hgl, hmw, hme, hlen, hrg, hwl, hgf⟩ := hrel
    obtain ⟨N1, hN1⟩ : ∃ N1, N1 = L.length := ⟨_, rfl⟩
    have HN1 := Lib.hid hN1
    have hl1 := hlen.out
    rw [← hN1] at hl1
    have hhs : hs.length = N1 := by have := congrArg List.length hmw.out; simpa [← hN1] using this
    have hes : es.length = N1 := by rw [hme.out, List.length_map, hN1]
    obtain ⟨gW, cW, rfl, hcW1, hcW2, hcW3⟩ := hgl.out.len hhs (by omega)
    obtain ⟨gE, cE, rfl, hgE, hcE, hcap, hcap2⟩ := own_shape hgl.out.ends hes.symm (by omega)
    have HcE := Lib.hid hcE
    have HcW3 := Lib.hid hcW3
    have hgl' := hgl
    have hfin := Lib.hid (show GL wr w.heap.size _ hs _ es from hgl.out.base hB2.out.size)
    have hwl2 := Lib.hid (show ∀ x ∈ hs, x.z.length ≤ 4096 from fun x hx => by
      obtain ⟨j, hj⟩ := List.mem_iff_getElem?.1 hx
      have hj2 : j < L.length := by have := (List.getElem?_eq_some_iff.1 hj).1; rw [hhs, HN1.out] at this; exact this
      rw [wordmap_at hmw.out hj]
      exact hwl.out _ (getD_memP hj2))
    clear hN1 hcE hcW3 hgl
    by_cases hlt : n0 < N1
    · obtain ⟨x, hx⟩ : ∃ x, hs[n0]? = some x := ⟨_, List.getElem?_eq_getElem (by omega)⟩
      have hcx := HcW3.out n0 x hx
      have hxz := wordmap_at hmw.out hx
      have hp := getD_memP (L := L) (j := n0) (by rw [← HN1.out]; exact hlt)
      obtain ⟨p, hpp⟩ : ∃ p, p = L.getD n0 ([], 0) := ⟨_, rfl⟩
      rw [← hpp] at hxz hp
      have hpl := hwl.out p hp
      have hpr := hrg.out p hp
      have HPP := Lib.hid hpp
      obtain ⟨hxr, hxc1, hxc2⟩ := hgl'.out.word_rd hx
      have HX := Lib.hid hx
      have HXR := Lib.hid hxr
      obtain ⟨Ax, cx, zx⟩ := x
      simp only [Hd.enc] at hcx hxz hxc1 hxc2
      obtain ⟨lx, hlx⟩ : ∃ lx, lx = zx.length := ⟨_, rfl⟩
      have HLX := Lib.hid hlx
      rw [← hlx] at hcx hxc1
      have hlx2 : lx ≤ 4096 := by rw [hlx, hxz]; exact hpl
      have HXZ := Lib.hid hxz
      clear hlx hx hxr hxz hpp
      by_cases hml : (lx : Int) < most
      · obtain ⟨Q, hQ⟩ : ∃ Q : Nat, p.2 = (Q : Int) := ⟨p.2.toNat, by omega⟩
        have hQS : Q < S := by rw [HST.out] at hpr; omega
        have c1 := HcE.out n0 hlt
        rw [endmap_at hme.out n0 (by rw [← HN1.out]; exact hlt), ← HPP.out, hQ] at c1
        have HQ := Lib.hid hQ
        obtain ⟨Q1, hQ1⟩ : ∃ Q1, Q1 = Q + 1 := ⟨_, rfl⟩
        have hQ1j : Q1 < S + 1 := by omega
        have hSr := hS2.out.below hbel.out hgS2
        have hAr := hA2.out.below hbel.out (by omega)
        have c2 := hSr.int (j := Q) (by rw [startL_len]; omega)
        rw [startL_at (by omega)] at c2
        have c3 := hSr.int (j := Q1) (by rw [startL_len]; omega)
        rw [startL_at (by omega)] at c3
        have c4 := hAr.cell 3 rfl
        have hsl := succ_len HRI.out.edo Q
        rw [← hQ1] at hsl
        have hmo := startN_mono a.ed Q
        rw [← hQ1] at hmo
        have hle := startN_le a.ed Q1
        rw [HR.out.hk] at hle
        have hat := Lib.hid (succ_at HRI.out.edo Q)
        rw [← hQ1] at hat
        obtain ⟨lo, hlo⟩ : ∃ lo, lo = startN a.ed Q := ⟨_, rfl⟩
        obtain ⟨hi, hhi⟩ : ∃ hi, hi = startN a.ed Q1 := ⟨_, rfl⟩
        rw [← hlo] at c2 hsl hmo hat
        rw [← hhi] at c3 hsl hmo hat hle
        have hwr : IntKind.i64.wrap ((Q : Int) + 1) = (Q1 : Int) := by rw [IntWalk.i64_in _ (by omega)]; omega
        have hkg := HR.out.ck.1
        have hkg2 := HR.out.ck.2
        have j0 : (0 : Int) ≤ (Q1 : Int) := by omega
        have j1 : (Q1 : Int) < (S : Int) + 1 := by omega
        have j2 : (Q : Int) < (S : Int) + 1 := by omega
        have j3 : (lo : Int) ≤ (hi : Int) := by omega
        have j4 : (hi : Int) ≤ (g : Int) := by omega
        obtain ⟨N, hN⟩ : ∃ N, N = hi - lo := ⟨_, rfl⟩
        have hNi : (hi : Int) - (lo : Int) = (N : Int) := by omega
        rw [← hN] at hsl hat
        have hNb : N ≤ 1000000 := by omega
        have HNN := Lib.hid hN
        have HNI := Lib.hid hNi
        have HSL := Lib.hid hsl
        have HED := Lib.hid HR.out.ed
        clear hQ hQ1 hlo hhi hsl hN hNi hSr hAr
        go_wp2_with fail
        go_upto_region 8 with fail
        go_cut [51, 52, 53] from 19 to 77 (fun v1 v2 v3 wx => ∃ (E1 : Option Addr) (c1 : Nat), v1 = .slice E1 N c1 ∧ v2 = .int .i64 (N : Int) ∧ v3 = .int .i64 0 ∧ Hid (RdG w w.heap.size E1 (succ a.ed (Q : Int))) ∧ Hid (Below w2.heap.size w2 wx) ∧ Hid (GL wx w2.heap.size (.slice (some ⟨gW, 0, none⟩) N1 cW) hs (.slice (some ⟨gE, 0, none⟩) N1 cE) es))
        case first =>
          by_cases hne : lo < hi
          · obtain ⟨bE, oE, rfl, hbE, hcE⟩ := HED.out (by omega)
            have hgl : ¬ g = lo := by omega
            have hrd := Lib.hid (show RdG w w.heap.size (some ⟨bE, oE + lo * 3, none⟩) (succ a.ed (Q : Int)) from fun _ => ⟨bE, oE + lo * 3, rfl, hbE, fun t x hx => by
              have htN : t < N := by have := (List.getElem?_eq_some_iff.1 hx).1; rw [HSL.out] at this; exact this
              rw [hat.out t htN] at hx
              have := hcE (lo + t) x hx
              rwa [show oE + (lo + t) * 3 = oE + lo * 3 + t * 3 by omega] at this⟩)
            clear hcE
            go_wp2_with fail
            go_quiet (fail)
            go_wp2_with fail
            go_meet
            case rel => exact ⟨_, _, by rw [HNN.out], by first | rfl | exact congrArg (Value.int .i64) (by have := HNI.out; omega), rfl, hrd, Lib.hid (below_drewN hbel.out nq), Lib.hid (hgl'.out.drewN nq)⟩
          · have hN0 : N = 0 := by rw [HNN.out]; omega
            have hrd := Lib.hid (show ∀ E1, RdG w w.heap.size E1 (succ a.ed (Q : Int)) from fun E1 h => by rw [HSL.out] at h; omega)
            obtain rfl : hi = lo := by omega
            rcases E with _ | ⟨bE, oE, fE⟩
            · go_wp2_with fail
              go_quiet (fail)
              go_wp2_with fail
              go_meet
              case rel => exact ⟨_, _, by rw [hN0], by first | rfl | exact congrArg (Value.int .i64) (by omega), rfl, hrd.out _, Lib.hid (below_drewN hbel.out nq), Lib.hid (hgl'.out.drewN nq)⟩
            · by_cases hgl : g = hi
              all_goals
                go_wp2_with fail
                go_quiet (fail)
                go_wp2_with fail
                go_meet
                case rel => exact ⟨_, _, by rw [hN0], by first | rfl | exact congrArg (Value.int .i64) (by omega), rfl, hrd.out _, Lib.hid (below_drewN hbel.out nq), Lib.hid (hgl'.out.drewN nq)⟩
        case rest =>
          clear hbel hgl'
          obtain ⟨E1, c1, rfl, rfl, rfl, hrd, hbel, hgl'⟩ := hcut
          have hlim := Lib.hid (fun (h : 1024 < N1 + N) => genF_limit hgf.out (by omega) (by rw [← HPP.out, ← HXZ.out, ← HLX.out, ← HN1.out]; exact ⟨hlt, hml⟩) (by rw [← HPP.out, ← HN1.out]; unfold extW; rw [List.length_map, HQ.out, HSL.out]; exact h))
          have hgo := Lib.hid (fun (h : N1 + N ≤ 1024) => genF_go hgf.out (by omega) (by rw [← HPP.out, ← HXZ.out, ← HLX.out, ← HN1.out]; exact ⟨hlt, hml⟩) (by rw [← HPP.out, ← HN1.out]; unfold extW; rw [List.length_map, HQ.out, HSL.out]; exact h))
          rw [← HPP.out] at hgo
          have hlx3 : lx + 1 ≤ 4096 := by omega
          clear c2 c3 c4 hwr hat j0 j1 j2 j3 j4 HED hcx hxc1 hxc2 HXR HcE HcW3 hcap hcap2 hcW1 hcW2 hgE hfin hwl2 hgf hml
          go_wp2_with fail
          go_loopw [4, 5, 53] (fun vw ve i wr => ∃ (t : Nat) (hs : List Hd) (es : List Int), i = .int .i64 t ∧ t ≤ N ∧ N1 + t ≤ 1024 ∧ Hid (Below w2.heap.size w2 wr) ∧ Hid (GL wr w2.heap.size vw hs ve es) ∧ Hid (hs.map Hd.z = (L ++ (extW a p).take t).map Prod.fst) ∧ Hid (es = (L ++ (extW a p).take t).map Prod.snd) ∧ Hid (hs[n0]? = some ⟨Ax, cx, zx⟩)) (fun _ _ i _ => N - (intOf i).toNat)
          case atStart => exact ⟨0, hs, es, rfl, Nat.zero_le _, hl1.2.1, hbel, hgl', by rw [List.take_zero, List.append_nil]; exact hmw, by rw [List.take_zero, List.append_nil]; exact hme, HX⟩
          case round =>
            clear hbel hgl' hmw hme HX hhs hes
            obtain ⟨t, hs, es, rfl, htN, ht1, hbel, hgl, hmw, hme, hX⟩ := hrel
            have hLx : (L ++ (extW a p).take t).length = N1 + t := by
              rw [List.length_append, List.length_take, ← HN1.out]; unfold extW; rw [List.length_map, HQ.out, HSL.out]; omega
            obtain ⟨M1, hM1⟩ : ∃ M1, M1 = N1 + t := ⟨_, rfl⟩
            rw [← hM1] at hLx
            have hhs : hs.length = M1 := by have := congrArg List.length hmw.out; rw [List.length_map, List.length_map, hLx] at this; exact this
            have hes : es.length = M1 := by rw [hme.out, List.length_map, hLx]
            obtain ⟨gW, cW, rfl, hcW1, hcW2, hcW3⟩ := hgl.out.len hhs (by omega)
            obtain ⟨gE, cE, rfl, hgE, hcE, hcap, hcap2⟩ := own_shape hgl.out.ends hes.symm (by omega)
            have hcx := hcW3 n0 _ hX.out
            obtain ⟨hxr, hxc1, hxc2⟩ := hgl.out.word_rd hX.out
            simp only [Hd.enc] at hcx
            rw [← HLX.out] at hcx
            have hM0 : n0 < M1 := by omega
            have HHS := Lib.hid hhs
            have HES := Lib.hid hes
            have HM1 := Lib.hid hM1
            have hM2 : M1 ≤ 1024 := by omega
            clear hcE hcW3 hLx hM1 hhs hes hxc1 hxc2
            by_cases htl : t < N
            · obtain ⟨bE, oE, rfl, hbE, hcE⟩ := hrd.out (by rw [HSL.out]; omega)
              obtain ⟨x, hx⟩ : ∃ x, (succ a.ed (Q : Int))[t]? = some x := ⟨_, List.getElem?_eq_getElem (by rw [HSL.out]; omega)⟩
              have hxr2 : EdAt wr bE (oE + t * 3) x := (hcE t x hx).keep fun o => (hB2.out.trans (hbel.out.mono hB2.out.size)).cell (p := ⟨bE, o, none⟩) hbE
              have hex := Lib.hid (ext_take (a := a) (p := p) (t := t) (x := x) (by rw [HQ.out]; exact hx))
              obtain ⟨xf, xe, xt⟩ := x
              obtain ⟨z0, z1, z2⟩ := hxr2
              have hHX := Lib.hid hxr
              clear hcE hx hxr
              by_cases hM3 : M1 = 1024
              · have hRv := Lib.hid (hlim.out (by have := HM1.out; omega))
                have hbm : ((M1 : Int) == 1024) = true := by simp [hM3]
                go_wp2_with fail
                go_ret3
                exact ⟨.inl ⟨hRv.out, rfl⟩, hB2.out.trans ((hbel.out.alloc hbel.out.size _).mono hB2.out.size)⟩
              · have hbm : ((M1 : Int) == 1024) = false := by simp; omega
                go_upto_region 13 with fail
                have hgl5 := Lib.hid (hgl.out.below ((Below.refl wr.heap.size wr).alloc (Nat.le_refl _) (.cells #[.int .i64 xf, .int .i64 xe, .int .i64 xt] 67)))
                have hB5 := Lib.hid (hbel.out.alloc hbel.out.size (.cells #[.int .i64 xf, .int .i64 xe, .int .i64 xt] 67))
                have hX5 := Lib.hid (EdAt.made wr xf xe xt 67)
                have hR5 := Lib.hid ((hHX.out.below ((Below.refl wr.heap.size wr).alloc (Nat.le_refl _) (.cells #[.int .i64 xf, .int .i64 xe, .int .i64 xt] 67)) (Nat.le_refl _)).more (by simp) : RdI (wr.alloc (.cells #[.int .i64 xf, .int .i64 xe, .int .i64 xt] 67)) (wr.alloc (.cells #[.int .i64 xf, .int .i64 xe, .int .i64 xt] 67)).heap.size Ax zx)
                have hc5 : (wr.alloc (.cells #[.int .i64 xf, .int .i64 xe, .int .i64 xt] 67)).cell? ⟨gW, n0, none⟩ = some (.slice Ax lx cx) := (World.cell?_alloc_lt wr _ ⟨gW, n0, none⟩ (hgl.out.row.lt gW rfl).2).trans hcx
                have hs5 : wr.heap.size < (wr.alloc (.cells #[.int .i64 xf, .int .i64 xe, .int .i64 xt] 67)).heap.size := by simp
                have hgWr : gW < wr.heap.size := (hgl.out.row.lt gW rfl).2
                clear hcx z0 z1 z2 hHX hgE
                generalize wr.alloc (.cells #[.int .i64 xf, .int .i64 xe, .int .i64 xt] 67) = w5 at *
                have hrow5 := Lib.hid (show w5.ownsRow w2.heap.size 22 1 (.slice (some ⟨gW, 0, none⟩) M1 cW) M1 (hs.map Hd.enc) by have := hgl5.out.row; rwa [HHS.out] at this)
                have hbs5 := hB5.out.size
                clear hgl hbel
                go_cut [4, 53] from 53 to 77 (fun v i wx => i = .int .i64 (t : Int) ∧ ∃ (A3 : Option Addr) (c3 : Nat), Hid (Below w2.heap.size w2 wx) ∧ Hid (GL wx w2.heap.size v (hs ++ [⟨A3, c3, zx ++ [xe]⟩]) (.slice (some ⟨gE, 0, none⟩) M1 cE) es) ∧ Hid (EdAt wx wr.heap.size 0 ⟨xf, xe, xt⟩) ∧ wr.heap.size < wx.heap.size)
                case first =>
                  obtain ⟨z0, z1, z2⟩ := hX5.out.shift0
                  have v0 := fun cs : Array Value => (World.cell?_alloc_lt w5 (.cells cs 3) ⟨gW, n0, none⟩ (by show gW < w5.heap.size; omega)).trans hc5
                  go_region_law (first
                    | (go_simp; go_at_call 75; refine (concat_any (w5.heap.size + 1) 0 2 Ax lx cx (some ⟨w5.heap.size, 0, none⟩) 1 1 zx [xe] _ (by first | exact two_made w5 hR5.out HLX.out.symm | exact two_made w5.drew hR5.out HLX.out.symm) (by omega) (by omega)).mono ?_; rintro e w8 ⟨A3, c3, rfl, ho8, hb8⟩
                       have HO8 := Lib.hid (show Own w8 w5.heap.size (.slice A3 (lx + 1) c3) (zx ++ [xe]) from own_more ho8 (by simp; omega))
                       have HB8 := Lib.hid (show Below w5.heap.size w5 w8 from Below.trans (by repeat (first | exact Below.refl _ _ | refine Below.drew ?_ | refine Below.alloc ?_ (by simp; try omega) _)) (hb8.mono (by simp; try omega)))
                       have HR8 := Lib.hid (own_below hrow5.out HB8.out)
                       have hsz8 := HB8.out.size
                       clear ho8 hb8)
                    | (refine step_append_lies _ (by rfl) (.tmp 60) (.tmp 70) _ (by rfl) w2.heap.size 22 iL (.slice none 0 0) 1 24 Try.underlying40 iL0 iL1 iL2 iL3 rfl (by omega) (.slice (some ⟨gW, 0, none⟩) M1 cW) M1 (hs.map Hd.enc) (by rfl) (by first | exact (HR8.out.alloc _).drew | exact (HR8.out.alloc _)) ⟨w8.heap.size, 0, none⟩ 1 1 [.slice A3 (lx + 1) c3] (by rfl) (by rfl) (World.news_of_block (cs := #[.slice A3 (lx + 1) c3]) (t := 22) (fr := (0, 0)) (heap_alloc_new w8 _)) (by simp [Value.oneCell']) (by omega) (by unfold maxLen; omega) (by omega) (by simp; omega) (w8.heap.size + 1) (by simp) ?_; intro gG capG w9 hown9 hgrow9 hat9 hlt9))
                  all_goals
                    have hlen9 : (zx ++ [xe]).length = lx + 1 := by rw [List.length_append, ← HLX.out]; rfl
                    have hB9 : Below w5.heap.size w5 (w8.alloc (.cells #[.slice A3 (lx + 1) c3] 22)) := HB8.out.alloc HB8.out.size _
                    have hO9 : Own (w8.alloc (.cells #[.slice A3 (lx + 1) c3] 22)) w5.heap.size (Hd.enc ⟨A3, c3, zx ++ [xe]⟩) (zx ++ [xe]) := by
                      have := HO8.out.alloc (.cells #[.slice A3 (lx + 1) c3] 22)
                      unfold Hd.enc; simp only [hlen9]; exact this
                    have hgl9 := Lib.hid (show GL w9 w2.heap.size (.slice (some ⟨gG, 0, none⟩) (M1 + 1) capG) (hs ++ [⟨A3, c3, zx ++ [xe]⟩]) (.slice (some ⟨gE, 0, none⟩) M1 cE) es from by
                      refine GL.word (n := M1 + 1) hgl5.out hB9 hO9 hbs5 ?_ (by rw [HHS.out]) (by exact hgrow9)
                      unfold Hd.enc at hown9 ⊢; simp only [hlen9]; exact hown9)
                    have hb9 := Lib.hid (show Below w2.heap.size w2 w9 from ((hB5.out.trans (hB9.mono hbs5)).grown (show (w8.alloc (.cells #[.slice A3 (lx + 1) c3] 22)).grownBy w9 _ from hgrow9) (by have := hB9.size; simp at this ⊢; omega) (fun k hk => (HR8.out.lt k hk).1)))
                    have hX9 := Lib.hid (show EdAt w9 wr.heap.size 0 ⟨xf, xe, xt⟩ from ((hX5.out.keep fun o => hB9.cell (p := ⟨wr.heap.size, o, none⟩) hs5).grown (show (w8.alloc (.cells #[.slice A3 (lx + 1) c3] 22)).grownBy w9 _ from hgrow9) (by have := hB9.size; simp at this ⊢; omega) (fun e => by simp [Value.ownBlock] at e; omega)))
                    have hs9 : wr.heap.size < w9.heap.size := by have := hgrow9.size; simp at this; omega
                    clear hown9 hgrow9 hat9
                    go_wp2_with fail
                    go_meet
                    case rel => exact ⟨rfl, A3, c3, by first | exact hb9 | exact Lib.hid hb9.out.drew, by first | exact hgl9 | exact Lib.hid hgl9.out.drew, hX9, hs9⟩
                case rest =>
                  clear hgl5 hB5 hX5 hR5 hc5 hs5 hrow5 hbs5
                  obtain ⟨rfl, A3, c3, hbel, hgl, hX5, hs5⟩ := hcut
                  have hbo := Below.alloc (Below.refl wc.heap.size wc) (Nat.le_refl _) (.cells #[.int .i64 xt] 3)
                  have hgl6 := Lib.hid (hgl.out.below hbo)
                  have hown6 := Lib.hid (show (wc.alloc (.cells #[.int .i64 xt] 3)).ownsRow w2.heap.size 3 1 (.slice (some ⟨gE, 0, none⟩) M1 cE) M1 (es.map (Value.int .i64)) by
                    have := hgl6.out.ends; unfold Own at this; rwa [HES.out] at this)
                  have hbs6 := hbel.out.size
                  obtain ⟨z0, z1, z2⟩ := hX5.out.shift0
                  have hmw2 := Lib.hid (show (hs ++ [(⟨A3, c3, zx ++ [xe]⟩ : Hd)]).map Hd.z = (L ++ (extW a p).take (t + 1)).map Prod.fst by
                    rw [hex.out, ← List.append_assoc, List.map_append, List.map_append (l₂ := [(p.1 ++ [xe], xt)]), hmw.out, HXZ.out]; rfl)
                  have hme2 := Lib.hid (show es ++ [xt] = (L ++ (extW a p).take (t + 1)).map Prod.snd by
                    rw [hex.out, ← List.append_assoc, List.map_append (l₂ := [(p.1 ++ [xe], xt)]), hme.out]; rfl)
                  have hX2 := Lib.hid (show (hs ++ [(⟨A3, c3, zx ++ [xe]⟩ : Hd)])[n0]? = some ⟨Ax, cx, zx⟩ by
                    rw [List.getElem?_append_left (by rw [HHS.out]; exact hM0)]; exact hX.out)
                  clear hbo
                  go_wp2_with (at_builtin; refine wpList_append_lies _ rfl (.tmp 72) (.tmp 75) 22 rfl w2.heap.size 3 iI (.int .i64 0) 1 8 Try.underlying22 iI0 iI1 iI2 iI3 rfl (by omega) (.slice (some ⟨gE, 0, none⟩) M1 cE) M1 (es.map (Value.int .i64)) rfl hown6.out ⟨wc.heap.size, 0, none⟩ 1 1 [.int .i64 xt] rfl rfl (news_one rfl) (by simp [Value.oneCell']) (by omega) (by unfold maxLen; omega) (by omega) (by simp; omega) (wc.heap.size + 1) (by simp) ?_; intro gN capN w9 hown9 hgrow9 hat9 hlt9)
                  have hgl9 := Lib.hid (GL.end_ (t := xt) hgl6.out (show Own w9 w2.heap.size (.slice (some ⟨gN, 0, none⟩) (M1 + 1) capN) (es ++ [xt]) by unfold Own; rw [List.length_append, HES.out, List.map_append]; exact hown9) hgrow9 (fun j hj => by
                    simp [Value.ownBlock] at hj; subst hj
                    rcases hat9 with h | h
                    · exact .inl h
                    · right; simp; omega))
                  have hb9 := Lib.hid (show Below w2.heap.size w2 w9 from (hbel.out.alloc hbel.out.size (.cells #[.int .i64 xt] 3)).grown hgrow9 (by simp; omega) (fun k hk => (hown6.out.lt k hk).1))
                  clear hown9 hgrow9 hat9 hgl hbel hgl6 hown6 z0 z1 z2 hX5
                  go_wp2_with fail
                  go_roundw
                  case measure => simp [intOf]; omega
                  case rel => exact ⟨t + 1, _, _, by go_num, by omega, by have := HM1.out; omega, hb9, hgl9, hmw2, hme2, hX2⟩
            · obtain rfl : t = N := by omega
              rw [List.take_of_length_le (by unfold extW; rw [List.length_map, HQ.out, HSL.out]; exact Nat.le_refl _)] at hmw hme
              have hgf2 := Lib.hid (show genF a most (1026 - (n0 + 1)) (n0 + 1) (L ++ extW a p) = R from by have := hgo.out ht1; rwa [show 1026 - n0 - 1 = 1026 - (n0 + 1) by omega] at this)
              have hlen2 := Lib.hid (show 1 ≤ (L ++ extW a p).length ∧ (L ++ extW a p).length ≤ 1024 ∧ n0 + 1 ≤ (L ++ extW a p).length by
                rw [List.length_append, ← HN1.out]; unfold extW; rw [List.length_map, HQ.out, HSL.out]; omega)
              have hrg2 := Lib.hid (show ∀ q ∈ L ++ extW a p, 0 ≤ q.2 ∧ q.2 < a.st from fun q hq => by
                rcases List.mem_append.1 hq with hq | hq
                · exact hrg.out q hq
                · exact extW_range HRI.out p q hq)
              have hwl2 := Lib.hid (show ∀ q ∈ L ++ extW a p, q.1.length ≤ 4096 from fun q hq => by
                rcases List.mem_append.1 hq with hq | hq
                · exact hwl.out q hq
                · obtain ⟨y, _, rfl⟩ := List.mem_map.1 hq
                  rw [List.length_append, ← HXZ.out, ← HLX.out]; exact hlx3)
              go_wp2_with fail
              go_roundw
              case measure => simp [intOf]; omega
              case rel => exact ⟨n0 + 1, hs, es, L ++ extW a p, by go_num, by omega, hbel, hgl, hmw, hme, hlen2, hrg2, hwl2, hgf2⟩
      · have hRv := Lib.hid (genF_stop hgf.out (by omega) (by rw [← HPP.out, ← HXZ.out, ← HLX.out]; omega))
        go_wp2_with fail
        go_ret3
        exact ⟨.inr ⟨_, _, hs, es, L, hRv.out, rfl, hfin.out, hmw.out, hme.out, hlen.out.2.1, hwl2.out⟩, hB2.out.trans (hbel.out.mono hB2.out.size)⟩
    · have hRv := Lib.hid (genF_stop hgf.out (by omega) (by rw [← HN1.out]; omega))
      go_wp2_with fail
      go_ret3
      exact ⟨.inr ⟨_, _, hs, es, L, hRv.out, rfl, hfin.out, hmw.out, hme.out, hlen.out.2.1, hwl2.out⟩, hB2.out.trans (hbel.out.mono hB2.out.size)⟩
end Go.Proofs.Ytcciiikaejjooaa

/- Layer 3: Words of the program. -/
namespace Go.Proofs.Ytcciiikaejjooaa
open Go.RowKit Go.Sort

theorem genO_zero {a : Au} {most : Int} (h : a.st = 0) : genO a most = some [] := by rw [genO, if_pos h]
set_option maxHeartbeats 400000 in
theorem generated_zero (A : Option Addr) (n c : Nat) (s : Int) (M : Option Addr) (m d : Nat) (E : Option Addr) (k g : Nat) (a : Au) (most : Int) (w : World) (h : AuR w w.heap.size A n c s M m d E k g a) (hS : s = 0) :
    Calls Try.prog 58 #[.agg #[.slice A n c, .int .i64 s, .slice M m d, .slice E k g], .int .i64 most] w fun e w' => GenR w (genO a most) e w' ∧ Below w.heap.size w w' := by
  have hst := h.st
  subst hS
  have hg := Lib.hid (genO_zero (most := most) hst)
  clear h hst
  go_enter Try.func58, Try.ntmps58
  go_wp2_with fail
  go_ret3
  exact ⟨.inr ⟨_, _, [], [], [], hg.out, rfl, ⟨World.ownsRow_nil _ _ _ _, by simp, World.ownsRow_nil _ _ _ _, by simp⟩, rfl, rfl, by simp, by simp⟩, (Below.refl _ _).alloc (Nat.le_refl _) _⟩
theorem generated_all (A : Option Addr) (n c : Nat) (s : Int) (M : Option Addr) (m d : Nat) (E : Option Addr) (k g : Nat) (a : Au) (most : Int) (w : World) (h : AuR w w.heap.size A n c s M m d E k g a) (hr : Right a) (hm0 : 0 ≤ most) (hm1 : most ≤ 4096) :
    Calls Try.prog 58 #[.agg #[.slice A n c, .int .i64 s, .slice M m d, .slice E k g], .int .i64 most] w fun e w' => GenR w (genO a most) e w' ∧ Below w.heap.size w w' := by
  have h0 := hr.st0
  have h1 := hr.st1
  have hs := h.st
  by_cases hz : a.st = 0
  · exact generated_zero A n c s M m d E k g a most w h (by omega)
  · exact generated_any A n c s M m d E k g a a.st.toNat most w h hr.toRightW (by omega) (by omega) (by omega) hm0 hm1

/-- A slice's address leads, below block B, to slices that hold these words (asked only where there are any). -/
def RdL (w : World) (B : Nat) (A : Option Addr) (hs : List Hd) : Prop :=
  0 < hs.length → ∃ b off, A = some ⟨b, off, none⟩ ∧ b < B ∧ ∀ j x, hs[j]? = some x → w.cell? ⟨b, off + j, none⟩ = some x.enc ∧ RdI w B x.A x.z ∧ x.z.length ≤ x.c ∧ x.c ≤ 9223372036854775807
theorem RdL.nil (w : World) (B : Nat) (A : Option Addr) : RdL w B A [] := fun h => absurd h (by simp)
theorem RdL.below {w w' : World} {B B' : Nat} {A : Option Addr} {hs : List Hd} (h : RdL w B A hs) (hb : Below B' w w') (hB : B ≤ B') : RdL w' B A hs := fun h0 => by
  obtain ⟨b, o, e, hlt, hc⟩ := h h0
  exact ⟨b, o, e, hlt, fun j x hx => ⟨(hb.cell (p := ⟨b, o + j, none⟩) (Nat.lt_of_lt_of_le hlt hB)).trans (hc j x hx).1, (hc j x hx).2.1.below hb hB, (hc j x hx).2.2⟩⟩
theorem RdL.more {w : World} {B B' : Nat} {A : Option Addr} {hs : List Hd} (h : RdL w B A hs) (hB : B ≤ B') : RdL w B' A hs := fun h0 => by
  obtain ⟨b, o, e, hlt, hc⟩ := h h0
  exact ⟨b, o, e, by omega, fun j x hx => ⟨(hc j x hx).1, (hc j x hx).2.1.more hB, (hc j x hx).2.2⟩⟩
/-- The words that are kept. -/
def selW (mr : List Int) (mk : Bool) (ps : List (Hd × Int)) : List Hd := (ps.filter fun p => !mk || decide (p.2 ∈ mr)).map Prod.fst
def selL (mr : List Int) (mk : Bool) (L : List (List Int × Int)) : List (List Int) := (L.filter fun p => !mk || decide (p.2 ∈ mr)).map Prod.fst
theorem selW_step {mr : List Int} {mk : Bool} {ps : List (Hd × Int)} {t : Nat} {x : Hd} {q : Int} (h : ps[t]? = some (x, q)) : selW mr mk (ps.take (t + 1)) = selW mr mk (ps.take t) ++ (if (!mk || decide (q ∈ mr)) = true then [x] else []) := by
  have hl := (List.getElem?_eq_some_iff.1 h).1
  have he := (List.getElem?_eq_some_iff.1 h).2
  unfold selW
  rw [List.take_succ_eq_append_getElem hl, he, List.filter_append, List.map_append]
  congr 1
  by_cases hc : (!mk || decide (q ∈ mr)) = true
  · rw [List.filter_cons_of_pos (by exact hc), if_pos hc]; rfl
  · rw [List.filter_cons_of_neg (by exact hc), if_neg hc]; rfl
theorem zip_words {hs : List Hd} {es : List Int} {L : List (List Int × Int)} (h1 : hs.map Hd.z = L.map Prod.fst) (h2 : es = L.map Prod.snd) : (hs.zip es).map (fun p => (p.1.z, p.2)) = L := by
  have : (hs.zip es).map (fun p => (p.1.z, p.2)) = (hs.map Hd.z).zip es := by
    rw [List.zip_map_left]; rfl
  rw [this, h1, h2]
  apply List.ext_getElem
  · simp
  · intro i h1 h2; simp
theorem selW_words {mr : List Int} {mk : Bool} {hs : List Hd} {es : List Int} {L : List (List Int × Int)} (h1 : hs.map Hd.z = L.map Prod.fst) (h2 : es = L.map Prod.snd) : (selW mr mk (hs.zip es)).map Hd.z = selL mr mk L := by
  rw [selL, ← zip_words h1 h2, selW, List.filter_map, List.map_map, List.map_map]; rfl
theorem selW_mem {mr : List Int} {mk : Bool} {hs : List Hd} {es : List Int} {x : Hd} {t : Nat} (h : x ∈ selW mr mk ((hs.zip es).take t)) : x ∈ hs := by
  obtain ⟨p, hp, rfl⟩ := List.mem_map.1 h
  exact (List.of_mem_zip (List.mem_of_mem_take (List.mem_filter.1 hp).1)).1
theorem selW_len (mr : List Int) (mk : Bool) (ps : List (Hd × Int)) (t : Nat) : (selW mr mk (ps.take t)).length ≤ t := by
  unfold selW; rw [List.length_map]
  exact Nat.le_trans (List.length_filter_le _ _) (List.length_take_le _ _)

theorem ownL_rd {w : World} {base B : Nat} {v : Value} {hs : List Hd} (h : w.ownsRow base 22 1 v hs.length (hs.map Hd.enc)) (ho : ∀ x ∈ hs, Own w B x.enc x.z) : ∃ A c, v = .slice A hs.length c ∧ RdL w w.heap.size A hs ∧ hs.length ≤ c ∧ c ≤ 9223372036854775807 := by
  rcases h.2 with ⟨rfl, h0⟩ | ⟨g, cap, cur, rfl, hg, hh, hn, hcap, hsz, htake⟩
  · have : hs = [] := List.eq_nil_of_length_eq_zero h0
    subst this
    exact ⟨none, 0, rfl, RdL.nil _ _ _, Nat.le_refl _, by omega⟩
  · refine ⟨some ⟨g, 0, none⟩, cap, rfl, fun _ => ⟨g, 0, rfl, (h.lt g rfl).2, fun j x hj => ?_⟩, hn, by unfold maxLen at hcap; omega⟩
    have hl := (List.getElem?_eq_some_iff.1 hj).1
    refine ⟨by rw [Nat.zero_add, World.ownsRow.cellAt (cap := cap) h j (by omega), List.getElem?_map, hj]; rfl, ?_⟩
    obtain ⟨A', c', e, hrd, h1, h2⟩ := own_rdc (ho x (List.mem_of_getElem? hj))
    unfold Hd.enc at e
    injection e with e1 e2 e3
    subst e1; subst e3
    exact ⟨hrd, h1, h2⟩
/-- What Words hands back. -/
def wordsR (a : Au) (most : Int) (mk : Bool) : List (List Int) × Int :=
  if chkE a ≠ 0 then ([], chkE a) else if most < 0 ∨ 4096 < most then ([], 2) else match genO a most with | none => ([], 3) | some L => (selL a.mr mk L, 0)
def WdsR (r : List (List Int) × Int) (e : Ending) (w' : World) : Prop := ∃ A c hs, e = .returned (.tuple #[.slice A hs.length c, .int .i64 r.2]) ∧ hs.map Hd.z = r.1 ∧ RdL w' w'.heap.size A hs ∧ hs.length ≤ c ∧ c ≤ 9223372036854775807 ∧ hs.length ≤ 1024
theorem WdsR.nil {r : List (List Int) × Int} {x : Int} (w' : World) (h : r = ([], x)) : WdsR r (.returned (.tuple #[.slice none 0 0, .int .i64 x])) w' := by
  subst h; exact ⟨none, 0, [], rfl, rfl, RdL.nil _ _ _, Nat.le_refl _, by omega, by simp⟩

set_option maxHeartbeats 2000000 in
theorem mWords_any (A : Option Addr) (n c : Nat) (s : Int) (M : Option Addr) (m d : Nat) (E : Option Addr) (k g : Nat) (a : Au) (most : Int) (mk : Bool) (w : World) (h : AuR w w.heap.size A n c s M m d E k g a) :
    Calls Try.prog 23 #[.agg #[.slice A n c, .int .i64 s, .slice M m d, .slice E k g], .int .i64 most, .bool mk] w fun e w' => WdsR (wordsR a most mk) e w' ∧ Below w.heap.size w w' := by
  have hb1 := (Below.refl w.heap.size w).alloc (Nat.le_refl _) (.cells #[.slice A n c, .int .i64 s, .slice M m d, .slice E k g] 25)
  have HB1 := Lib.hid hb1
  have hR1 := h.below hb1 (Nat.le_refl _)
  have HC := Lib.hid (mCheck_any A n c s M m d E k g a _ (hR1.more (by simp)))
  have HX := Lib.hid (BoxA.made w A n c s M m d E k g 25)
  have HR := Lib.hid h
  obtain ⟨u, hu⟩ : ∃ u, u = chkE a := ⟨_, rfl⟩
  rw [← hu] at HC
  have HU := Lib.hid hu
  clear h hR1 hu hb1
  by_cases h0 : u = 0
  · have hb0 : (u != 0) = false := by simp [h0]
    have hri := right_of (a := a) (by rw [← HU.out, h0])
    have HRI := Lib.hid hri
    by_cases hm : most < 0 ∨ 4096 < most
    · have hr := Lib.hid (show wordsR a most mk = ([], 2) by rw [wordsR, if_neg (by rw [← HU.out, h0]; simp), if_pos hm])
      clear h0 hri
      rcases hm with hm | hm
      · go_enter Try.func23, Try.ntmps23
        go_wp2_with fail
        refine HC.out.mono ?_
        rintro e w1 ⟨rfl, hbw⟩
        go_wp2_with fail
        go_ret2
        exact ⟨WdsR.nil _ hr.out, HB1.out.trans (hbw.mono (by simp))⟩
      · have hm2 : ¬ most < 0 := by omega
        go_enter Try.func23, Try.ntmps23
        go_wp2_with fail
        refine HC.out.mono ?_
        rintro e w1 ⟨rfl, hbw⟩
        go_wp2_with fail
        go_ret2
        exact ⟨WdsR.nil _ hr.out, HB1.out.trans (hbw.mono (by simp))⟩
    · have hm2 : ¬ most < 0 := by omega
      have hm3 : ¬ 4096 < most := by omega
      have hS := Lib.hid (fun W (hW : Below w.heap.size w W) => generated_all A n c s M m d E k g a most W ((HR.out.below hW (Nat.le_refl _)).more hW.size) HRI.out (by omega) (by omega))
      have hr := Lib.hid (show wordsR a most mk = match genO a most with | none => ([], 3) | some L => (selL a.mr mk L, 0) by rw [wordsR, if_neg (by rw [← HU.out, h0]; simp), if_neg hm])
      clear h0 hri hm
      go_enter Try.func23, Try.ntmps23
      go_wp2_with fail
      refine HC.out.mono ?_
      rintro e w1 ⟨rfl, hbw⟩
      have hX1 := Lib.hid (HX.out.below hbw (by simp))
      obtain ⟨p0, p1, p2, p3⟩ := hX1.out
      have hz := hbw.size
      simp only [World.size_alloc] at hz
      have hB := Lib.hid (HB1.out.trans (hbw.mono (by simp)))
      clear hbw
      go_wp2_with fail
      refine (hS.out _ hB.out).mono ?_
      rintro e w3 ⟨hG, hbw⟩
      have hX3 := Lib.hid (hX1.out.below hbw (by omega))
      have hB3 := Lib.hid (hB.out.trans (hbw.mono hB.out.size))
      have hz3 := hbw.size
      clear p0 p1 p2 p3 hbw
      rcases hG with ⟨hN, rfl⟩ | ⟨vw, ve, hs, es, L, hL, rfl, hgl, hmw, hme, hl, hwl⟩
      · have hr2 := Lib.hid (show wordsR a most mk = ([], 3) by rw [hr.out, hN])
        clear hN
        go_wp2_with fail
        go_ret2
        exact ⟨WdsR.nil _ hr2.out, hB3.out⟩
      · have hr2 := Lib.hid (show wordsR a most mk = (selL a.mr mk L, 0) by rw [hr.out, hL])
        have HGL := Lib.hid hgl
        have HSW := Lib.hid (selW_words (mr := a.mr) (mk := mk) hmw hme)
        obtain ⟨N1, hN1⟩ : ∃ N1, N1 = L.length := ⟨_, rfl⟩
        have hhs := Lib.hid (show hs.length = N1 by have := congrArg List.length hmw; rw [List.length_map, List.length_map, ← hN1] at this; exact this)
        have hes := Lib.hid (show es.length = N1 by rw [hme, List.length_map, hN1])
        have hN2 : N1 ≤ 1024 := by rw [hN1]; exact hl
        obtain ⟨Aw, cw, hvw, hAw⟩ : ∃ Aw cw, vw = .slice Aw N1 cw ∧ ∀ j x, hs[j]? = some x → ∃ g, Aw = some ⟨g, 0, none⟩ ∧ g < w3.heap.size ∧ w3.cell? ⟨g, j, none⟩ = some x.enc := by
          rcases Nat.eq_zero_or_pos N1 with h0 | h0
          · rcases hgl.row.2 with ⟨rfl, _⟩ | ⟨g, cap, cur, rfl, _⟩
            · exact ⟨none, 0, by rw [h0], fun j x hx => by have := (List.getElem?_eq_some_iff.1 hx).1; rw [hhs.out] at this; omega⟩
            · exact ⟨some ⟨g, 0, none⟩, cap, by rw [hhs.out], fun j x hx => by have := (List.getElem?_eq_some_iff.1 hx).1; rw [hhs.out] at this; omega⟩
          · obtain ⟨g, cap, e, _, _, hc⟩ := hgl.len hhs.out h0
            exact ⟨some ⟨g, 0, none⟩, cap, e, fun j x hx => ⟨g, rfl, (hgl.row.lt g (by rw [e]; rfl)).2, hc j x hx⟩⟩
        obtain ⟨Ae, ce, hve, hAe⟩ : ∃ Ae ce, ve = .slice Ae N1 ce ∧ RdI w3 w3.heap.size Ae es := by
          obtain ⟨A', c', e, hrd⟩ := own_rd hgl.ends
          exact ⟨A', c', by rw [e, hes.out], hrd⟩
        subst hvw
        subst hve
        have HAW := Lib.hid hAw
        have HAE := Lib.hid hAe
        obtain ⟨iL, iL0, iL1, iL2, iL3⟩ := info_parts info_ints
        clear hL hgl hmw hme hl hwl hN1 hAw hAe
        go_wp2_with fail
        go_loopw [12, 38] (fun vl i wr => ∃ (t : Nat) (ks : List Hd), i = .int .i64 t ∧ t ≤ N1 ∧ Hid (Below w3.heap.size w3 wr) ∧ Hid (wr.ownsRow w3.heap.size 22 1 vl ks.length (ks.map Hd.enc)) ∧ Hid (ks = selW a.mr mk ((hs.zip es).take t))) (fun _ i _ => N1 - (intOf i).toNat)
        case atStart => exact ⟨0, [], rfl, Nat.zero_le _, Below.refl _ _, World.ownsRow_nil _ _ _ _, rfl⟩
        case round =>
          obtain ⟨t, ks, rfl, htN, hbel, hrow, hks⟩ := hrel
          have hksl := selW_len a.mr mk (hs.zip es) t
          rw [← hks.out] at hksl
          have hsz := hbel.out.size
          by_cases htl : t < N1
          · obtain ⟨x, hx⟩ : ∃ x, hs[t]? = some x := ⟨_, List.getElem?_eq_getElem (by rw [hhs.out]; exact htl)⟩
            obtain ⟨gW, rfl, hgW, hcx⟩ := HAW.out t x hx
            obtain ⟨bE, oE, rfl, hbE, hcE⟩ := HAE.out (by rw [hes.out]; omega)
            have h1 := hcE t (by rw [hes.out]; exact htl)
            obtain ⟨q, hq⟩ : ∃ q, q = es.getD t 0 := ⟨_, rfl⟩
            rw [← hq] at h1
            have hzp : (hs.zip es)[t]? = some (x, q) := by
              rw [List.getElem?_zip_eq_some]
              exact ⟨hx, by rw [hq, List.getElem?_eq_getElem (show t < es.length by rw [hes.out]; exact htl)]; simp [List.getD, List.getElem?_eq_getElem (show t < es.length by rw [hes.out]; exact htl)]⟩
            have hst := Lib.hid (selW_step (mr := a.mr) (mk := mk) hzp)
            have k1 : wr.cell? ⟨gW, t, none⟩ = some x.enc := (hbel.out.cell (p := ⟨gW, t, none⟩) hgW).trans hcx
            have k2 : wr.cell? ⟨bE, oE + t, none⟩ = some (.int .i64 q) := (hbel.out.cell (p := ⟨bE, oE + t, none⟩) hbE).trans h1
            obtain ⟨y0, y1, y2, y3⟩ := hX3.out.below hbel.out (by omega)
            have hM := Lib.hid (fun W (hW : Below w.heap.size w W) => mContains_any M m d w.heap.size a.mr q W (HR.out.mr.below hW (Nat.le_refl _)) HR.out.hm (by have := HR.out.bm; omega) (up_of HRI.out.mro))
            have hBr := Lib.hid (hB3.out.trans (hbel.out.mono hB3.out.size))
            obtain ⟨Ax, cx, zx⟩ := x
            simp only [Hd.enc] at k1
            obtain ⟨lx, hlx⟩ : ∃ lx, lx = zx.length := ⟨_, rfl⟩
            rw [← hlx] at k1
            have HLX := Lib.hid hlx
            clear hx hcx hcE h1 hq hzp hlx
            obtain ⟨yes, hyes⟩ : ∃ yes, yes = (!mk || decide (q ∈ a.mr)) := ⟨_, rfl⟩
            rw [← hyes] at hst
            have HY := Lib.hid hyes
            clear hyes
            go_wp2_with fail
            go_upto_region 13 with fail
            go_cut [38, 53] from 38 to 58 (fun i c wx => i = .int .i64 (t : Int) ∧ c = .bool yes ∧ ∃ q', wx = wr.drewN q')
            case first =>
              cases mk
              · have hy : yes = true := by rw [HY.out]; rfl
                subst hy
                go_quiet (fail)
                go_wp2_with fail
                go_meet
                case rel => exact ⟨rfl, rfl, _, rfl⟩
              · have hy : decide (q ∈ a.mr) = yes := by rw [HY.out]; rfl
                have hM1 := Lib.hid (fun q' => (hM.out (wr.drewN q') (below_drewN hBr.out q')).mono (R' := fun e w' => e = .returned (.bool yes) ∧ w' = wr.drewN q') fun e w' h => ⟨by rw [h.1, hy], h.2.symm⟩)
                clear hM
                go_quiet ((go_at_call 57; exact Calls.quiet_of_same (hM1.out _)))
                go_wp2_with fail
                go_meet
                case rel => exact ⟨rfl, rfl, _, rfl⟩
            case rest =>
              obtain ⟨rfl, rfl, q', rfl⟩ := hcut
              have hbel2 := Lib.hid (below_drewN hbel.out q')
              have hrow2 := Lib.hid (own_dr hrow.out q')
              have hsz2 : w3.heap.size ≤ (wr.drewN q').heap.size := hsz
              clear hbel hrow k1 k2 y0 y1 y2 y3 hM hBr hsz
              generalize wr.drewN q' = wr at *
              cases yes
              · rw [if_neg (by simp), List.append_nil] at hst
                have hks2 := Lib.hid (show ks = selW a.mr mk ((hs.zip es).take (t + 1)) by rw [hst.out, hks.out])
                go_wp2_with fail
                go_roundw
                case measure => simp [intOf]; omega
                case rel => exact ⟨t + 1, ks, by go_num, by omega, hbel2, hrow2, hks2⟩
              · rw [if_pos rfl] at hst
                have hks2 := Lib.hid (show ks ++ [⟨Ax, cx, zx⟩] = selW a.mr mk ((hs.zip es).take (t + 1)) by rw [hst.out, hks.out])
                have hrow3 := Lib.hid (hrow2.out.alloc (.cells #[.slice Ax lx cx] 22))
                obtain ⟨K1, hK1⟩ : ∃ K1, K1 = ks.length := ⟨_, rfl⟩
                rw [← hK1] at hrow3 hksl
                have HK1 := Lib.hid hK1
                clear hK1
                go_wp2_with (at_builtin; refine wpList_append_lies _ rfl (.tmp 54) (.tmp 56) 40 rfl w3.heap.size 22 iL (.slice none 0 0) 1 24 Try.underlying40 iL0 iL1 iL2 iL3 rfl (by omega) u12 K1 (ks.map Hd.enc) rfl hrow3.out ⟨wr.heap.size, 0, none⟩ 1 1 [.slice Ax lx cx] rfl rfl (news_one rfl) (by simp [Value.oneCell']) (by omega) (by unfold maxLen; omega) (by omega) (by simp; omega) (wr.heap.size + 1) (by simp) ?_; intro gN capN w9 hown9 hgrow9 hat9 hlt9)
                have hrow9 := Lib.hid (show w9.ownsRow w3.heap.size 22 1 (.slice (some ⟨gN, 0, none⟩) (K1 + 1) capN) (ks ++ [(⟨Ax, cx, zx⟩ : Hd)]).length ((ks ++ [(⟨Ax, cx, zx⟩ : Hd)]).map Hd.enc) by
                  rw [List.length_append, ← HK1.out, List.map_append]; simp only [List.map_cons, List.map_nil, Hd.enc, ← HLX.out]; exact hown9)
                have hb9 := Lib.hid (show Below w3.heap.size w3 w9 from (hbel2.out.alloc hsz2 (.cells #[.slice Ax lx cx] 22)).grown hgrow9 (by simp; omega) (fun k hk => (hrow3.out.lt k hk).1))
                clear hown9 hgrow9 hat9 hlt9
                go_wp2_with fail
                go_roundw
                case measure => simp [intOf]; omega
                case rel => exact ⟨t + 1, _, by go_num, by omega, hb9, hrow9, hks2⟩
          · obtain rfl : t = N1 := by omega
            have hks2 := Lib.hid (show ks = selW a.mr mk (hs.zip es) by rw [hks.out, List.take_of_length_le]; rw [List.length_zip, hhs.out, hes.out]; simp)
            obtain ⟨A2, c2, rfl, hrd⟩ := ownL_rd hrow.out (fun x hx => (HGL.out.below hbel.out).own x (by rw [hks2.out] at hx; exact selW_mem (t := (hs.zip es).length) (by rwa [List.take_of_length_le (Nat.le_refl _)])))
            have HRD := Lib.hid hrd
            clear hrd
            go_wp2_with fail
            go_ret2
            exact ⟨⟨A2, c2, ks, by rw [hr2.out]; rfl, by rw [hr2.out, hks2.out]; exact HSW.out, HRD.out.1, HRD.out.2.1, HRD.out.2.2, by omega⟩, hB3.out.trans (hbel.out.mono hB3.out.size)⟩
  · have hb0 : (u != 0) = true := by simp [h0]
    have hr := Lib.hid (show wordsR a most mk = ([], u) by rw [wordsR, ← HU.out, if_pos h0])
    clear h0
    go_enter Try.func23, Try.ntmps23
    go_wp2_with fail
    refine HC.out.mono ?_
    rintro e w1 ⟨rfl, hbw⟩
    go_wp2_with fail
    go_ret2
    exact ⟨WdsR.nil _ hr.out, HB1.out.trans (hbw.mono (by simp))⟩
end Go.Proofs.Ytcciiikaejjooaa

/- Layer 3: the chapter's examples, as mathematics. -/
namespace Go.Proofs.Ytcciiikaejjooaa
open Go.RowKit Go.Sort

def exA : Au := ⟨[0, 2], 3, [2], [⟨0, 0, 2⟩, ⟨0, 2, 0⟩, ⟨2, 2, 0⟩]⟩
def cnA : Au := ⟨[0, 2], 2, [1], [⟨0, 0, 1⟩, ⟨0, 2, 0⟩, ⟨1, 2, 0⟩]⟩
def rlA : Au := ⟨[1, 3], 2, [1], [⟨0, 1, 0⟩, ⟨0, 3, 1⟩, ⟨1, 1, 0⟩]⟩
theorem ex_chk : chkE exA = 0 := by decide
theorem ex_can : canR exA = (cnA, 0) := by decide
theorem cn_chk : chkE cnA = 0 := by decide
theorem cn_run : runR cnA 0 [0, 0] = (1, 1, 0) := by decide
theorem cn_gen : genO cnA 2 = some [([], 0), ([0], 1), ([2], 0), ([0, 2], 0), ([2, 0], 1), ([2, 2], 0)] := by decide
theorem cn_words : wordsR cnA 2 true = ([[0], [2, 0]], 0) := by
  unfold wordsR
  rw [cn_chk, cn_gen]
  decide
theorem srt_31 : srtI [3, 1] = [1, 3] := by
  refine lt_ext (srtI_lt (by decide)) (by decide) fun x => ?_
  rw [(srtI_perm _).mem_iff]
  simp
  omega
theorem cn_map : cnA.ed.map (relE cnA.al [3, 1]) = [⟨0, 3, 1⟩, ⟨0, 1, 0⟩, ⟨1, 1, 0⟩] := by decide
theorem srt_ed : srtE [⟨0, 3, 1⟩, ⟨0, 1, 0⟩, ⟨1, 1, 0⟩] = [⟨0, 1, 0⟩, ⟨0, 3, 1⟩, ⟨1, 1, 0⟩] :=
  (srtE_eq (l := [⟨0, 3, 1⟩, ⟨0, 1, 0⟩, ⟨1, 1, 0⟩]) (r := [⟨0, 1, 0⟩, ⟨0, 3, 1⟩, ⟨1, 1, 0⟩]) (by unfold KeyD; decide) (List.Perm.swap _ _ _) (by decide)).symm
theorem cn_rel : relR cnA [3, 1] = (rlA, 0) := by
  have h1 : relA cnA [3, 1] = rlA := by
    unfold relA
    rw [srt_31, cn_map, srt_ed]; rfl
  have h2 : canA rlA = rlA := by decide
  unfold relR
  rw [cn_chk, if_neg (by decide), if_neg (by decide), if_neg (by decide), h1, h2]
end Go.Proofs.Ytcciiikaejjooaa

/- Layer 3: Relabel of the program. -/
namespace Go.Proofs.Ytcciiikaejjooaa
open Go.RowKit Go.Sort

theorem cell_set4 {w : World} {X b i : Nat} {v0 v1 v2 v3 : Value} (h : b ≠ X) : ((((w.setCell ⟨X, 0, none⟩ v0).setCell ⟨X, 1, none⟩ v1).setCell ⟨X, 2, none⟩ v2).setCell ⟨X, 3, none⟩ v3).cell? ⟨b, i, none⟩ = w.cell? ⟨b, i, none⟩ := by
  have e : ∀ (W : World) j v, (W.setCell ⟨X, j, none⟩ v).cell? ⟨b, i, none⟩ = W.cell? ⟨b, i, none⟩ := fun W j v => World.cell?_of_block (a := ⟨b, i, none⟩) (Below.heap_setCell W ⟨X, j, none⟩ v b h)
  rw [e, e, e, e]

set_option maxHeartbeats 4000000 in
set_option maxRecDepth 100000 in
theorem mRelabel_any (A : Option Addr) (n c : Nat) (s : Int) (M : Option Addr) (m d : Nat) (E : Option Addr) (k g : Nat) (a : Au) (T : Option Addr) (l lc : Nat) (tl : List Int) (w : World) (h : AuR w w.heap.size A n c s M m d E k g a) (ht : RdI w w.heap.size T tl) (hl : tl.length = l) (hlc : l ≤ lc) (hlb : l ≤ 100000) :
    Calls Try.prog 24 #[.agg #[.slice A n c, .int .i64 s, .slice M m d, .slice E k g], .slice T l lc] w fun e w' => GivesA w (relR a tl) e w' := by
  have hb1 := ((Below.refl w.heap.size w).alloc (Nat.le_refl _) (.cells #[.slice A n c, .int .i64 s, .slice M m d, .slice E k g] 25)).alloc (by simp) (.cells #[.slice none 0 0, .int .i64 0, .slice none 0 0, .slice none 0 0] 25)
  have HB1 := Lib.hid hb1
  have hR1 := h.below hb1 (Nat.le_refl _)
  have HC := Lib.hid (mCheck_any A n c s M m d E k g a _ (hR1.more (by simp; omega)))
  have HA := Lib.hid ((Row.new w [.slice A n c, .int .i64 s, .slice M m d, .slice E k g] 25).alloc (.cells #[.slice none 0 0, .int .i64 0, .slice none 0 0, .slice none 0 0] 25))
  have HRes := Lib.hid (Row.new (w.alloc (.cells #[.slice A n c, .int .i64 s, .slice M m d, .slice E k g] 25)) [.slice none 0 0, .int .i64 0, .slice none 0 0, .slice none 0 0] 25)
  have HR := Lib.hid h
  have HT := Lib.hid ht
  have HL := Lib.hid hl
  obtain ⟨iE, iE0, iE1, iE2, iE3⟩ := info_parts info_edge
  obtain ⟨u, hu⟩ : ∃ u, u = chkE a := ⟨_, rfl⟩
  rw [← hu] at HC
  have HU := Lib.hid hu
  clear h hR1 hu hb1 ht hl
  by_cases h0 : u = 0
  · have hb0 : (u != 0) = false := by simp [h0]
    have HRI := Lib.hid (right_of (a := a) (by rw [← HU.out, h0]))
    have hc0 : chkE a = 0 := by rw [← HU.out, h0]
    by_cases hln : l = n
    · have hbl : ((l : Int) != (n : Int)) = false := by simp [hln]
      have hln2 := Lib.hid (show tl.length = a.al.length by rw [HL.out, HR.out.hn, hln])
      obtain ⟨v, hv⟩ : ∃ v, v = neE tl := ⟨_, rfl⟩
      have HV := Lib.hid hv
      have HNE := Lib.hid (fun W (hW : Below w.heap.size w W) => by have := checkNew_any T l lc tl W ((HT.out.below hW (Nat.le_refl _)).more hW.size) HL.out hlc hlb; rwa [← hv] at this)
      clear hv hln
      by_cases hv0 : v = 0
      · have hbv : (v != 0) = false := by simp [hv0]
        have hr := Lib.hid (show relR a tl = (canA (relA a tl), 0) by rw [relR, if_neg (by simp [hc0]), if_neg (by simp [hln2.out]), if_neg (by rw [← HV.out]; simp [hv0])])
        have hne := neE_ok (show neE tl = 0 by rw [← HV.out, hv0])
        have HRR := Lib.hid (rel_right HRI.out.toRightW hln2.out hne.1 hne.2)
        have HKD := Lib.hid (rel_keys HRI.out.toRightW hln2.out hne.2)
        clear h0 hv0 hne hc0
        go_enter Try.func24, Try.ntmps24
        go_wp2_with fail
        refine HC.out.mono ?_
        rintro e w1 ⟨rfl, hbw⟩
        have hA1 := Lib.hid (HA.out.below hbw (by simp; omega))
        have hR1 := Lib.hid (show Row w1 (w.heap.size + 1) 25 [.slice none 0 0, .int .i64 0, .slice none 0 0, .slice none 0 0] by have := HRes.out.below hbw (by simp); simpa using this)
        have hB1 := Lib.hid (HB1.out.trans (hbw.mono (by simp; omega)))
        have hz := hbw.size
        simp only [World.size_alloc] at hz
        clear hbw
        have p0 := hA1.out.cell 0 rfl
        go_wp2_with fail
        refine (HNE.out w1 hB1.out).mono ?_
        rintro e w' ⟨rfl, rfl⟩
        have HSO := Lib.hid (fun (Bs : Nat) (W : World) (hW : Below w1.heap.size w1 W) (hBs : Bs < W.heap.size) (hc : W.cell? ⟨Bs, 0, none⟩ = some (.slice T l lc)) => sorted_any Bs T l lc tl HL.out hlb W hBs hc ((HT.out.below (hB1.out.trans (hW.mono hB1.out.size)) (Nat.le_refl _)).more (Nat.le_trans hB1.out.size hW.size)))
        have HSC := Lib.hid (HSO.out w1.heap.size ((w1.alloc (.cells #[.slice T l lc] 22)).drew) (Below.drew (Below.alloc (Below.refl _ _) (Nat.le_refl _) _)) (by simp) ((Row.new w1 [.slice T l lc] 22).cell 0 rfl))
        have HSB := Lib.hid ((HSO.out w1.heap.size (((w1.alloc (.cells #[.slice T l lc] 22)).alloc (.cells #[.slice none 0 0, .int .i64 0, .slice none 0 0, .slice none 0 0] 25)).drew) (Below.drew (Below.alloc (Below.alloc (Below.refl _ _) (Nat.le_refl _) _) (by simp) _)) (by simp; omega) (((Row.new w1 [.slice T l lc] 22).alloc (.cells #[.slice none 0 0, .int .i64 0, .slice none 0 0, .slice none 0 0] 25)).cell 0 rfl)).mono (R' := fun e w3 => (∃ As cs, e = .returned (.slice As l cs) ∧ Own w3 (((w1.alloc (.cells #[.slice T l lc] 22)).alloc (.cells #[.slice none 0 0, .int .i64 0, .slice none 0 0, .slice none 0 0] 25)).drew).heap.size (.slice As l cs) (srtI tl) ∧ Below (((w1.alloc (.cells #[.slice T l lc] 22)).alloc (.cells #[.slice none 0 0, .int .i64 0, .slice none 0 0, .slice none 0 0] 25)).drew).heap.size (((w1.alloc (.cells #[.slice T l lc] 22)).alloc (.cells #[.slice none 0 0, .int .i64 0, .slice none 0 0, .slice none 0 0] 25)).drew) w3) ∧ Row w3 (w1.heap.size + 1) 25 [.slice none 0 0, .int .i64 0, .slice none 0 0, .slice none 0 0]) fun e w3 h => ⟨h, by
          obtain ⟨As, cs, _, _, hb⟩ := h
          have := Row.new (w1.alloc (.cells #[.slice T l lc] 22)) [.slice none 0 0, .int .i64 0, .slice none 0 0, .slice none 0 0] 25
          simp only [World.size_alloc] at this
          exact Row.below (w := ((w1.alloc (.cells #[.slice T l lc] 22)).alloc (.cells #[.slice none 0 0, .int .i64 0, .slice none 0 0, .slice none 0 0] 25)).drew) this hb (by simp)⟩)
        have HSA := Lib.hid ((HSO.out (w1.heap.size + 1) (((w1.alloc (.cells #[.slice none 0 0, .int .i64 0, .slice none 0 0, .slice none 0 0] 25)).alloc (.cells #[.slice T l lc] 22)).drew) (Below.drew (Below.alloc (Below.alloc (Below.refl _ _) (Nat.le_refl _) _) (by simp) _)) (by simp) (by
          have := (Row.new (w1.alloc (.cells #[.slice none 0 0, .int .i64 0, .slice none 0 0, .slice none 0 0] 25)) [.slice T l lc] 22).cell 0 rfl
          simp only [World.size_alloc] at this; exact this)).mono (R' := fun e w3 => (∃ As cs, e = .returned (.slice As l cs) ∧ Own w3 (((w1.alloc (.cells #[.slice none 0 0, .int .i64 0, .slice none 0 0, .slice none 0 0] 25)).alloc (.cells #[.slice T l lc] 22)).drew).heap.size (.slice As l cs) (srtI tl) ∧ Below (((w1.alloc (.cells #[.slice none 0 0, .int .i64 0, .slice none 0 0, .slice none 0 0] 25)).alloc (.cells #[.slice T l lc] 22)).drew).heap.size (((w1.alloc (.cells #[.slice none 0 0, .int .i64 0, .slice none 0 0, .slice none 0 0] 25)).alloc (.cells #[.slice T l lc] 22)).drew) w3) ∧ Row w3 w1.heap.size 25 [.slice none 0 0, .int .i64 0, .slice none 0 0, .slice none 0 0]) fun e w3 h => ⟨h, by
          obtain ⟨As, cs, _, _, hb⟩ := h
          exact Row.below (w := ((w1.alloc (.cells #[.slice none 0 0, .int .i64 0, .slice none 0 0, .slice none 0 0] 25)).alloc (.cells #[.slice T l lc] 22)).drew) ((Row.new w1 [.slice none 0 0, .int .i64 0, .slice none 0 0, .slice none 0 0] 25).alloc (.cells #[.slice T l lc] 22)) hb (by simp; omega)⟩)
        clear HNE
        have p1 := hA1.out.cell 1 rfl
        have p2 := hA1.out.cell 2 rfl
        have a1 := fun cs : Array Value => fun ty => (World.cell?_alloc_lt w1 (.cells cs ty) ⟨w.heap.size, 1, none⟩ (by show w.heap.size < w1.heap.size; omega)).trans p1
        have a2 := fun cs : Array Value => fun ty => (World.cell?_alloc_lt w1 (.cells cs ty) ⟨w.heap.size, 2, none⟩ (by show w.heap.size < w1.heap.size; omega)).trans p2
        go_wp2_with fail
        go_upto_region 9 with fail
        go_cut [8] from 32 to 39 (fun v8 wx => ∃ (bb : Nat) (As : Option Addr) (cs : Nat), v8 = .pointer (some ⟨bb, 0, none⟩) ∧ Hid (RB w1 bb As l cs s M m d (srtI tl) wx [] (.slice none 0 0)) ∧ l ≤ cs ∧ cs ≤ 9223372036854775807)
        case first =>
          go_region_held3 (fun w' => w'.cell? ⟨w.heap.size, 1, none⟩ = some (.int .i64 s) ∧ w'.cell? ⟨w.heap.size, 2, none⟩ = some (.slice M m d)) (first | with_reducible exact ⟨p1, p2⟩ | with_reducible exact ⟨q1, q2⟩ | with_reducible exact ⟨q3 _ _, q4 _ _⟩ | with_reducible exact ⟨a1 _ _, a2 _ _⟩ | with_reducible exact ⟨(cell_set4 (by omega)).trans q1, (cell_set4 (by omega)).trans q2⟩ | go_keep)
            (first
            | (go_simp; go_at_call 61; refine (values_any T l lc _).mono ?_; rintro e w2 ⟨rfl, rfl⟩)
            | (go_simp; go_at_call 60; with_reducible refine HSC.out.mono ?_; rintro e w3 ⟨As, cs, rfl, ho3, hb3⟩
               have hB3 := Lib.hid (show Below w1.heap.size w1 w3 from Below.trans (by repeat (first | exact Below.refl _ _ | refine Below.drew ?_ | refine Below.alloc ?_ (by simp; try omega) _)) (hb3.mono (by simp; try omega)))
               have hO3 := Lib.hid (show Own w3 w1.heap.size (.slice As l cs) (srtI tl) from own_more ho3 (by simp; try omega))
               have hcs3 : l ≤ cs ∧ cs ≤ 9223372036854775807 := by
                 obtain ⟨A', c', e, _, c1, c2⟩ := own_rdc hO3.out
                 injection e with e1 e2 e3
                 subst e3; exact ⟨by rw [srtI_len, HL.out] at c1; exact c1, c2⟩
               have q1 := (hA1.out.below hB3.out (by omega)).cell 1 rfl
               have q2 := (hA1.out.below hB3.out (by omega)).cell 2 rfl
               have hz3 := hB3.out.size
               have q3 := fun cs : Array Value => fun ty => (World.cell?_alloc_lt w3 (.cells cs ty) ⟨w.heap.size, 1, none⟩ (by show w.heap.size < w3.heap.size; omega)).trans q1
               have q4 := fun cs : Array Value => fun ty => (World.cell?_alloc_lt w3 (.cells cs ty) ⟨w.heap.size, 2, none⟩ (by show w.heap.size < w3.heap.size; omega)).trans q2
               clear ho3 hb3)
            | (go_simp; go_at_call 60; with_reducible refine HSB.out.mono ?_; rintro e w3 ⟨⟨As, cs, rfl, ho3, hb3⟩, hrow⟩
               have hB3 := Lib.hid (show Below w1.heap.size w1 w3 from Below.trans (by repeat (first | exact Below.refl _ _ | refine Below.drew ?_ | refine Below.alloc ?_ (by simp; try omega) _)) (hb3.mono (by simp; try omega)))
               have hO3 := Lib.hid (show Own w3 w1.heap.size (.slice As l cs) (srtI tl) from own_more ho3 (by simp; try omega))
               have hcs3 : l ≤ cs ∧ cs ≤ 9223372036854775807 := by
                 obtain ⟨A', c', e, _, c1, c2⟩ := own_rdc hO3.out
                 injection e with e1 e2 e3
                 subst e3; exact ⟨by rw [srtI_len, HL.out] at c1; exact c1, c2⟩
               have q1 := (hA1.out.below hB3.out (by omega)).cell 1 rfl
               have q2 := (hA1.out.below hB3.out (by omega)).cell 2 rfl
               have hz3 := hB3.out.size
               have q3 := fun cs : Array Value => fun ty => (World.cell?_alloc_lt w3 (.cells cs ty) ⟨w.heap.size, 1, none⟩ (by show w.heap.size < w3.heap.size; omega)).trans q1
               have q4 := fun cs : Array Value => fun ty => (World.cell?_alloc_lt w3 (.cells cs ty) ⟨w.heap.size, 2, none⟩ (by show w.heap.size < w3.heap.size; omega)).trans q2
               have hRow := Lib.hid hrow
               have z0 := hrow.cell 0 rfl
               have z1 := hrow.cell 1 rfl
               have z2 := hrow.cell 2 rfl
               have z3 := hrow.cell 3 rfl
               have f0 := hrow.frozen 0
               have f1 := hrow.frozen 1
               have f2 := hrow.frozen 2
               have f3 := hrow.frozen 3
               have hRlt := hrow.lt
               clear ho3 hb3 hrow)
            | (go_simp; go_at_call 60; with_reducible refine HSA.out.mono ?_; rintro e w3 ⟨⟨As, cs, rfl, ho3, hb3⟩, hrow⟩
               have hB3 := Lib.hid (show Below w1.heap.size w1 w3 from Below.trans (by repeat (first | exact Below.refl _ _ | refine Below.drew ?_ | refine Below.alloc ?_ (by simp; try omega) _)) (hb3.mono (by simp; try omega)))
               have hO3 := Lib.hid (show Own w3 w1.heap.size (.slice As l cs) (srtI tl) from own_more ho3 (by simp; try omega))
               have hcs3 : l ≤ cs ∧ cs ≤ 9223372036854775807 := by
                 obtain ⟨A', c', e, _, c1, c2⟩ := own_rdc hO3.out
                 injection e with e1 e2 e3
                 subst e3; exact ⟨by rw [srtI_len, HL.out] at c1; exact c1, c2⟩
               have q1 := (hA1.out.below hB3.out (by omega)).cell 1 rfl
               have q2 := (hA1.out.below hB3.out (by omega)).cell 2 rfl
               have hz3 := hB3.out.size
               have q3 := fun cs : Array Value => fun ty => (World.cell?_alloc_lt w3 (.cells cs ty) ⟨w.heap.size, 1, none⟩ (by show w.heap.size < w3.heap.size; omega)).trans q1
               have q4 := fun cs : Array Value => fun ty => (World.cell?_alloc_lt w3 (.cells cs ty) ⟨w.heap.size, 2, none⟩ (by show w.heap.size < w3.heap.size; omega)).trans q2
               have hRow := Lib.hid hrow
               have z0 := hrow.cell 0 rfl
               have z1 := hrow.cell 1 rfl
               have z2 := hrow.cell 2 rfl
               have z3 := hrow.cell 3 rfl
               have f0 := hrow.frozen 0
               have f1 := hrow.frozen 1
               have f2 := hrow.frozen 2
               have f3 := hrow.frozen 3
               have hRlt := hrow.lt
               clear ho3 hb3 hrow))
          all_goals
            go_wp2_with fail
            go_meet
            case rel => exact ⟨_, _, _, rfl, by first | exact RB.start1 hB3.out hO3.out | exact RB.start2 hB3.out hO3.out hRow.out (by omega) | exact (RB.start1 hB3.out hO3.out).drew | exact (RB.start2 hB3.out hO3.out hRow.out (by omega)).drew, hcs3.1, hcs3.2⟩
        case rest =>
          obtain ⟨bb, As, cs, rfl, hrb, hcs1, hcs2⟩ := hcut
          clear p0 p1 p2 a1 a2 HSO HSA HSB HSC
          have p3 := (hA1.out.below hrb.out.bel (by omega)).cell 3 rfl
          have hbk := HR.out.bk
          go_wp2_with fail
          go_loopw [43] (fun i wr => ∃ (t : Nat) (es : List Ed) (ve : Value), i = .int .i64 t ∧ t ≤ k ∧ Hid (RB w1 bb As l cs s M m d (srtI tl) wr es ve) ∧ Hid (es = (a.ed.take t).map (relE a.al tl))) (fun i _ => k - (intOf i).toNat)
          case atStart => exact ⟨0, [], _, rfl, Nat.zero_le _, hrb, by rw [List.take_zero]; rfl⟩
          case round =>
            clear hrb p3
            obtain ⟨t, es, ve, rfl, htk, hrb, hes⟩ := hrel
            have hsz := hrb.out.bel.size
            have hBr := Lib.hid (hB1.out.trans (hrb.out.bel.mono hB1.out.size))
            by_cases htl : t < k
            · obtain ⟨bE, oE, rfl, hbE, hcE⟩ := HR.out.ed (by rw [HR.out.hk]; omega)
              obtain ⟨x, hx⟩ : ∃ x, a.ed[t]? = some x := ⟨_, List.getElem?_eq_getElem (by rw [HR.out.hk]; omega)⟩
              have hxm := HRI.out.edr x (List.mem_of_getElem? hx)
              have hxr : EdAt wr bE (oE + t * 3) x := (hcE t x hx).keep fun o => hBr.out.cell (p := ⟨bE, o, none⟩) hbE
              have hes2 := Lib.hid (show (a.ed.take (t + 1)).map (relE a.al tl) = es ++ [relE a.al tl x] by rw [take_succ_ed hx, List.map_append, hes.out]; rfl)
              have hesl : es.length ≤ 1000000 := by rw [hes.out, List.length_map, List.length_take]; omega
              obtain ⟨xf, xe, xt⟩ := x
              obtain ⟨z0, z1, z2⟩ := hxr
              have HXM := Lib.hid hxm.2.2
              have p0 := (hA1.out.below hrb.out.bel (by omega)).cell 0 rfl
              have p0a := fun cs : Array Value => fun ty => (World.cell?_alloc_lt wr (.cells cs ty) ⟨w.heap.size, 0, none⟩ (by show w.heap.size < wr.heap.size; omega)).trans p0
              have hB5 := Lib.hid (Below.alloc (Below.refl wr.heap.size wr) (Nat.le_refl _) (.cells #[.int .i64 xf, .int .i64 xe, .int .i64 xt] 67))
              have HSE := Lib.hid (search_any A n c w.heap.size a.al xe (wr.alloc (.cells #[.int .i64 xf, .int .i64 xe, .int .i64 xt] 67)) (HR.out.al.below (hBr.out.trans (hB5.out.mono hBr.out.size)) (Nat.le_refl _)) HR.out.hn (by have := HR.out.bn; omega) HRI.out.up)
              have hX5 := Lib.hid (EdAt.made wr xf xe xt 67)
              have hrb5 := Lib.hid (hrb.out.below hB5.out)
              have hs5 : wr.heap.size < (wr.alloc (.cells #[.int .i64 xf, .int .i64 xe, .int .i64 xt] 67)).heap.size := by simp
              clear hx hxm hcE
              go_wp2_with fail
              refine HSE.out.mono ?_
              rintro e w' ⟨⟨i, hat, rfl⟩, rfl⟩
              obtain ⟨hix, hin⟩ := at_idx HRI.out.up hat HXM.out
              have hil : i < l := by rw [← HL.out, hln2.out]; exact hin
              have HIX := Lib.hid hix
              obtain ⟨bT, oT, rfl, hbT, hcT⟩ := HT.out (by rw [HL.out]; omega)
              have hT0 := hcT i (by rw [HL.out]; exact hil)
              obtain ⟨y, hy⟩ : ∃ y, y = tl.getD i 0 := ⟨_, rfl⟩
              rw [← hy] at hT0
              have hT5 := Lib.hid ((hBr.out.trans (hB5.out.mono hBr.out.size)).cell (p := ⟨bT, oT + i, none⟩) hbT |>.trans hT0)
              have hey := Lib.hid (show relE a.al tl ⟨xf, xe, xt⟩ = ⟨xf, y, xt⟩ by rw [relE, hy, hix])
              have hes3 := Lib.hid (show (a.ed.take (t + 1)).map (relE a.al tl) = es ++ [⟨xf, y, xt⟩] by rw [hes2.out, hey.out])
              clear hcT hT0 hy hix hat hin z0 z1 z2 hes2 hey HSE hrb hB5 p0 p0a
              generalize wr.alloc (.cells #[.int .i64 xf, .int .i64 xe, .int .i64 xt] 67) = w5 at *
              have hT6 := hT5.out
              obtain ⟨z0, z1, z2⟩ := hX5.out.shift0
              have u0 := hrb5.out.row.cell 3 rfl
              have u3 := hrb5.out.row.frozen 3
              have hbl : bb < w5.heap.size := hrb5.out.row.lt
              have hb5 := hrb5.out.bel.size
              have v0 := fun cs : Array Value => (World.cell?_alloc_lt w5 (.cells cs 67) ⟨bb, 3, none⟩ hbl).trans u0
              have v1 := fun cs : Array Value => (frozen?_alloc_cells w5 cs 67 ⟨bb, 3, none⟩).trans u3
              have hneV : some bb ≠ ve.ownBlock := (row_ne_own hrb5.out.row hrb5.out.eo (by decide)).symm
              go_wp2_with fail
              go_region_law (first
                | (refine step_append_lies _ (by rfl) (.tmp 56) (.tmp 66) _ (by rfl) w1.heap.size 67 iE (.agg #[.int .i64 0, .int .i64 0, .int .i64 0]) 3 24 Try.underlying23 iE0 iE1 iE2 iE3 rfl (by omega) ve es.length (encE es) (by rfl) (by first | exact (hrb5.out.eo.alloc _).drew | exact (hrb5.out.eo.alloc _)) ⟨w5.heap.size, 0, none⟩ 1 1 [.int .i64 xf, .int .i64 y, .int .i64 xt] (by rfl) (by rfl) (World.news_of_block (cs := #[.int .i64 xf, .int .i64 y, .int .i64 xt]) (t := 67) (fr := (0, 0)) (heap_alloc_new w5 _)) (by simp [Value.oneCell']) (by omega) (by unfold maxLen; omega) (by omega) (by simp; omega) (w5.heap.size + 1) (by simp) ?_; intro gG capG w6 hown6 hgrow6 hat6 hlt6; have hc6 := (hgrow6.cell_far ⟨bb, 3, none⟩ (by simp; omega) hneV).trans (v0 _); have hf6 := (hgrow6.frozen_far ⟨bb, 3, none⟩ (by simp; omega) hneV).trans (v1 _)))
              all_goals
                have hown7 : OwnE w6 w1.heap.size (.slice (some ⟨gG, 0, none⟩) (es.length + 1) capG) (es ++ [⟨xf, y, xt⟩]) := by
                  unfold OwnE; rw [encE_app, List.length_append]; exact hown6
                have hrb7 := Lib.hid (show RB w1 bb As l cs s M m d (srtI tl) (w6.setCell ⟨bb, 3, none⟩ (.slice (some ⟨gG, 0, none⟩) (es.length + 1) capG)) (es ++ [⟨xf, y, xt⟩]) (.slice (some ⟨gG, 0, none⟩) (es.length + 1) capG) from by
                  first
                  | exact RB.edge (hrb5.out.alloc _) hgrow6 hown7
                  | exact RB.edge ((hrb5.out.alloc _).drew) hgrow6 hown7
                  | exact RB.edge (hrb5.out.drew.alloc _) hgrow6 hown7)
                clear hown7 hown6 hgrow6 hat6 hc6 hf6 hlt6
                go_wp2_with fail
                go_roundw
                case measure => simp [intOf]; omega
                case rel => exact ⟨t + 1, _, _, by go_num, by omega, by first | exact hrb7 | exact Lib.hid hrb7.out.drew, by rw [hes3.out]; rfl⟩
            · obtain rfl : t = k := by omega
              have hes2 : es = a.ed.map (relE a.al tl) := by rw [hes.out, List.take_of_length_le (by rw [HR.out.hk]; exact Nat.le_refl _)]
              have hsl : es.length = t := by rw [hes2, List.length_map, HR.out.hk]
              have hso := Lib.hid (sortEd_any wr hrb.out.eo (by omega))
              have HES2 := Lib.hid hes2
              have HSL2 := Lib.hid hsl
              have u0 := hrb.out.row.cell 3 rfl
              clear hes2 hsl
              go_wp2_with fail
              refine hso.out.mono ?_
              rintro e w6 ⟨rfl, A6, c6, l6, rfl, hp6, hs6, hr6, hg6, hc61, hc62⟩
              have hb6 := hrb.out.grown hg6
              have hel := srtE_eq HKD.out (HES2.out ▸ hp6) hs6
              have hll : l6.length ≤ 1000000 := by rw [hp6.length_eq, HSL2.out]; omega
              have hB6 := Lib.hid (hB1.out.trans (hb6.1.mono hB1.out.size))
              have HAUR := Lib.hid (show AuR w6 w6.heap.size As l cs s M m d A6 l6.length c6 (relA a tl) from
                { al := by
                    obtain ⟨A', c', e, hrd⟩ := own_rd hb6.2.2
                    injection e with e1 e2 e3
                    subst e1; exact hrd
                  mr := (HR.out.mr.below hB6.out (Nat.le_refl _)).more hB6.out.size
                  ed := by rw [hel] at hr6; exact hr6
                  hn := by show (srtI tl).length = l; rw [srtI_len, HL.out]
                  hm := HR.out.hm
                  hk := by rw [hel]; rfl
                  st := HR.out.st
                  cn := ⟨hcs1, hcs2⟩
                  cm := HR.out.cm
                  ck := ⟨hc61, hc62⟩
                  bn := hlb
                  bm := HR.out.bm
                  bk := hll })
              have HCAN := Lib.hid (canon_all As l cs s M m d A6 l6.length c6 (relA a tl) w6.heap.size w6 HAUR.out (Nat.le_refl _) HRR.out (by have := HRI.out.st1; show a.st ≤ 5000; omega))
              have hR6 := Lib.hid (hR1.out.below hb6.1 (by omega))
              have hz6 := hb6.1.size
              have d0 := hb6.2.1.cell 0 rfl
              have d1 := hb6.2.1.cell 1 rfl
              have d2 := hb6.2.1.cell 2 rfl
              have d3 := hb6.2.1.cell 3 rfl
              obtain ⟨K6, hK6⟩ : ∃ K6, K6 = l6.length := ⟨_, rfl⟩
              rw [← hK6] at d3 HCAN
              clear hb6 hel hll hp6 hs6 hr6 hg6 hrb hso u0 hK6
              go_wp2_with fail
              refine HCAN.out.mono ?_
              rintro e w7 ⟨v7, rfl, hau, hbw⟩
              have hR7 := hR6.out.below hbw (by omega)
              have hB7 := Lib.hid (hB6.out.trans (hbw.mono hB6.out.size))
              obtain ⟨A2, n2, c2, s2, M2, m2, d2', E2, k2, g2, rfl, hrest⟩ := hau
              have hau2 := Lib.hid (show AuF (canA (relA a tl)) (.agg #[.slice A2 n2 c2, .int .i64 s2, .slice M2 m2 d2', .slice E2 k2 g2]) w7 w6.heap.size from ⟨_, _, _, _, _, _, _, _, _, _, rfl, hrest⟩)
              have r0 := hR7.cell 0 rfl
              have r1 := hR7.cell 1 rfl
              have r2 := hR7.cell 2 rfl
              have r3 := hR7.cell 3 rfl
              have s0 := hR7.frozen 0
              have s1 := hR7.frozen 1
              have s2' := hR7.frozen 2
              have s3 := hR7.frozen 3
              clear d0 d1 d2 d3 hrest hR7 hbw
              go_wp2_with fail
              (try simp only [Exit.inBlock, Exit.then])
              refine bodyPost_ret (v := .tuple #[.agg #[.slice A2 n2 c2, .int .i64 s2, .slice M2 m2 d2', .slice E2 k2 g2], .int .i64 0]) ?_ rfl ⟨.agg #[.slice A2 n2 c2, .int .i64 s2, .slice M2 m2 d2', .slice E2 k2 g2], by rw [hr.out], ?_, ?_⟩
              · rw [results_cell_tmp1 rfl]
                go_simp
              · rw [hr.out]
                exact (hau2.out.set4 (by omega) _ _ _ _).more (by omega)
              · exact below_set4 hB7.out (by omega) _ _ _ _
      · have hbv : (v != 0) = true := by simp [hv0]
        have HRES := Lib.hid (show relR a tl = (zeroA, v) by rw [relR, if_neg (by simp [hc0]), if_neg (by simp [hln2.out]), if_pos (by rw [← HV.out]; exact hv0), HV.out])
        clear h0 hv0 hc0
        go_enter Try.func24, Try.ntmps24
        go_wp2_with fail
        refine HC.out.mono ?_
        rintro e w1 ⟨rfl, hbw⟩
        have hA1 := Lib.hid (HA.out.below hbw (by simp; omega))
        have hR1 := Lib.hid (show Row w1 (w.heap.size + 1) 25 [.slice none 0 0, .int .i64 0, .slice none 0 0, .slice none 0 0] by have := HRes.out.below hbw (by simp); simpa using this)
        have hB1 := Lib.hid (HB1.out.trans (hbw.mono (by simp; omega)))
        have p0 := hA1.out.cell 0 rfl
        have hz := hbw.size
        simp only [World.size_alloc] at hz
        clear hbw
        have r0 := hR1.out.cell 0 rfl
        have r1 := hR1.out.cell 1 rfl
        have r2 := hR1.out.cell 2 rfl
        have r3 := hR1.out.cell 3 rfl
        have s0 := hR1.out.frozen 0
        have s1 := hR1.out.frozen 1
        have s2 := hR1.out.frozen 2
        have s3 := hR1.out.frozen 3
        go_wp2_with fail
        refine (HNE.out w1 hB1.out).mono ?_
        rintro e w' ⟨rfl, rfl⟩
        go_wp2_with fail
        (try simp only [Exit.inBlock, Exit.then])
        refine bodyPost_ret (v := .tuple #[.agg #[.slice none 0 0, .int .i64 0, .slice none 0 0, .slice none 0 0], .int .i64 v]) ?_ rfl ⟨_, by rw [HRES.out], ?_, ?_⟩
        · rw [results_cell_tmp1 rfl]
          go_simp
        · rw [HRES.out]; exact AuF.zero _ _
        · exact below_set4 hB1.out (by omega) _ _ _ _
    · have hbl : ((l : Int) != (n : Int)) = true := by simp; omega
      have HRES := Lib.hid (show relR a tl = (zeroA, 4) by rw [relR, if_neg (by simp [hc0]), if_pos (by rw [HL.out, HR.out.hn]; exact hln)])
      clear h0 hln hc0
      go_enter Try.func24, Try.ntmps24
      go_wp2_with fail
      refine HC.out.mono ?_
      rintro e w1 ⟨rfl, hbw⟩
      have hA1 := Lib.hid (HA.out.below hbw (by simp; omega))
      have hR1 := Lib.hid (show Row w1 (w.heap.size + 1) 25 [.slice none 0 0, .int .i64 0, .slice none 0 0, .slice none 0 0] by have := HRes.out.below hbw (by simp); simpa using this)
      have hB1 := Lib.hid (HB1.out.trans (hbw.mono (by simp; omega)))
      have p0 := hA1.out.cell 0 rfl
      have hz := hbw.size
      simp only [World.size_alloc] at hz
      clear hbw
      have r0 := hR1.out.cell 0 rfl
      have r1 := hR1.out.cell 1 rfl
      have r2 := hR1.out.cell 2 rfl
      have r3 := hR1.out.cell 3 rfl
      have s0 := hR1.out.frozen 0
      have s1 := hR1.out.frozen 1
      have s2 := hR1.out.frozen 2
      have s3 := hR1.out.frozen 3
      go_wp2_with fail
      (try simp only [Exit.inBlock, Exit.then])
      refine bodyPost_ret (v := .tuple #[.agg #[.slice none 0 0, .int .i64 0, .slice none 0 0, .slice none 0 0], .int .i64 4]) ?_ rfl ⟨_, by rw [HRES.out], ?_, ?_⟩
      · rw [results_cell_tmp1 rfl]
        go_simp
      · rw [HRES.out]; exact AuF.zero _ _
      · exact below_set4 hB1.out (by omega) _ _ _ _
  · have hb0 : (u != 0) = true := by simp [h0]
    have HRES := Lib.hid (show relR a tl = (zeroA, u) by rw [relR, if_pos (by rw [← HU.out]; exact h0), ← HU.out])
    clear h0
    go_enter Try.func24, Try.ntmps24
    go_wp2_with fail
    refine HC.out.mono ?_
    rintro e w1 ⟨rfl, hbw⟩
    have hA1 := Lib.hid (HA.out.below hbw (by simp; omega))
    have hR1 := Lib.hid (show Row w1 (w.heap.size + 1) 25 [.slice none 0 0, .int .i64 0, .slice none 0 0, .slice none 0 0] by have := HRes.out.below hbw (by simp); simpa using this)
    have hB1 := Lib.hid (HB1.out.trans (hbw.mono (by simp; omega)))
    have p0 := hA1.out.cell 0 rfl
    have hz := hbw.size
    simp only [World.size_alloc] at hz
    clear hbw
    have r0 := hR1.out.cell 0 rfl
    have r1 := hR1.out.cell 1 rfl
    have r2 := hR1.out.cell 2 rfl
    have r3 := hR1.out.cell 3 rfl
    have s0 := hR1.out.frozen 0
    have s1 := hR1.out.frozen 1
    have s2 := hR1.out.frozen 2
    have s3 := hR1.out.frozen 3
    go_wp2_with fail
    (try simp only [Exit.inBlock, Exit.then])
    refine bodyPost_ret (v := .tuple #[.agg #[.slice none 0 0, .int .i64 0, .slice none 0 0, .slice none 0 0], .int .i64 u]) ?_ rfl ⟨_, by rw [HRES.out], ?_, ?_⟩
    · rw [results_cell_tmp1 rfl]
      go_simp
    · rw [HRES.out]; exact AuF.zero _ _
    · exact below_set4 hB1.out (by omega) _ _ _ _
end Go.Proofs.Ytcciiikaejjooaa

/- Layer 3: Same of the reference. -/
namespace Go.Proofs.Ytcciiikaejjooaa
open Go.RowKit Go.Sort

set_option maxHeartbeats 3200000 in
theorem rSame_any (A : Option Addr) (n c : Nat) (s : Int) (M : Option Addr) (m d : Nat) (E : Option Addr) (k g : Nat) (A2 : Option Addr) (n2 c2 : Nat) (s2 : Int) (M2 : Option Addr) (m2 d2 : Nat) (E2 : Option Addr) (k2 g2 : Nat) (a b : Au) (B : Nat) (w : World) (h : AuR w B A n c s M m d E k g a) (h2 : AuR w B A2 n2 c2 s2 M2 m2 d2 E2 k2 g2 b) (hB : B ≤ w.heap.size) :
    Calls Try.prog 30 #[.agg #[.slice A n c, .int .i64 s, .slice M m d, .slice E k g], .agg #[.slice A2 n2 c2, .int .i64 s2, .slice M2 m2 d2, .slice E2 k2 g2]] w fun e w' => e = .returned (.bool (decide (a = b))) ∧ Below w.heap.size w w' := by
  have hb1 := ((Below.refl w.heap.size w).alloc (Nat.le_refl _) (.cells #[.slice A n c, .int .i64 s, .slice M m d, .slice E k g] 25)).alloc (by simp) (.cells #[.slice A2 n2 c2, .int .i64 s2, .slice M2 m2 d2, .slice E2 k2 g2] 25)
  have HB1 := Lib.hid hb1
  have HX := Lib.hid (box_row A n c s M m d E k g ((Row.new w [.slice A n c, .int .i64 s, .slice M m d, .slice E k g] 25).alloc (.cells #[.slice A2 n2 c2, .int .i64 s2, .slice M2 m2 d2, .slice E2 k2 g2] 25)))
  have HX2 := Lib.hid (show BoxA ((w.alloc (.cells #[.slice A n c, .int .i64 s, .slice M m d, .slice E k g] 25)).alloc (.cells #[.slice A2 n2 c2, .int .i64 s2, .slice M2 m2 d2, .slice E2 k2 g2] 25)) (w.heap.size + 1) A2 n2 c2 s2 M2 m2 d2 E2 k2 g2 by
    have := box_row A2 n2 c2 s2 M2 m2 d2 E2 k2 g2 (Row.new (w.alloc (.cells #[.slice A n c, .int .i64 s, .slice M m d, .slice E k g] 25)) [.slice A2 n2 c2, .int .i64 s2, .slice M2 m2 d2, .slice E2 k2 g2] 25)
    simpa using this)
  have HC1 := Lib.hid (sameInts_b A A2 n n2 c c2 B a.al b.al _ (h.al.below hb1 hB) (h2.al.below hb1 hB) h.hn h2.hn h.bn h2.bn)
  have HC2 := Lib.hid (fun W (hW : Below w.heap.size w W) => sameInts_b M M2 m m2 d d2 B a.mr b.mr W (h.mr.below hW hB) (h2.mr.below hW hB) h.hm h2.hm h.bm h2.bm)
  have HST := Lib.hid h.st
  have hB0 := Lib.hid hB
  have HR := Lib.hid h
  have HR2 := Lib.hid h2
  have HST2 := Lib.hid h2.st
  obtain ⟨r1, hr1⟩ : ∃ r, r = decide (a.al = b.al) := ⟨_, rfl⟩
  obtain ⟨r2, hr2⟩ : ∃ r, r = decide (a.mr = b.mr) := ⟨_, rfl⟩
  rw [← hr1] at HC1
  rw [← hr2] at HC2
  obtain ⟨v, hv⟩ : ∃ v, v = decide (a = b) := ⟨_, rfl⟩
  have HV := Lib.hid (show v = (r1 && (decide (s = s2) && (r2 && decide (a.ed = b.ed)))) by rw [hv, au_eq, ← hr1, ← hr2, HST.out, HST2.out])
  rw [← hv]
  clear h h2 hb1 hr1 hr2 hv
  cases r1
  · have hf := Lib.hid (show v = false by rw [HV.out]; rfl)
    go_enter Try.func30, Try.ntmps30
    go_wp2_with fail
    refine HC1.out.mono ?_
    rintro e w1 ⟨rfl, hbw⟩
    have hB := Lib.hid (HB1.out.trans (hbw.mono (by simp; omega)))
    have hX1 := Lib.hid (HX.out.below hbw (by simp; omega))
    have hX2 := Lib.hid (HX2.out.below hbw (by simp))
    have hz := hbw.size
    simp only [World.size_alloc] at hz
    obtain ⟨p0, p1, p2, p3⟩ := hX1.out
    obtain ⟨q0, q1, q2, q3⟩ := hX2.out
    clear hbw
    go_wp2_with fail
    go_ret
    exact ⟨ret_bool hf.out.symm, hB.out⟩
  · by_cases hs : s = s2
    · have hd : decide (s = s2) = true := by simp [hs]
      subst hs
      cases r2
      · have hf := Lib.hid (show v = false by rw [HV.out, hd]; rfl)
        have hd2 : (s != s) = false := by simp
        go_enter Try.func30, Try.ntmps30
        go_wp2_with fail
        refine HC1.out.mono ?_
        rintro e w1 ⟨rfl, hbw⟩
        have hB := Lib.hid (HB1.out.trans (hbw.mono (by simp; omega)))
        have hX1 := Lib.hid (HX.out.below hbw (by simp; omega))
        have hX2 := Lib.hid (HX2.out.below hbw (by simp))
        have hz := hbw.size
        simp only [World.size_alloc] at hz
        obtain ⟨p0, p1, p2, p3⟩ := hX1.out
        obtain ⟨q0, q1, q2, q3⟩ := hX2.out
        clear hbw
        go_wp2_with fail
        refine (HC2.out w1 hB.out).mono ?_
        rintro e w2 ⟨rfl, hbw⟩
        have hB2 := Lib.hid (hB.out.trans (hbw.mono hB.out.size))
        clear p0 p1 p2 p3 q0 q1 q2 q3
        have hX3 := Lib.hid (hX1.out.below hbw (by omega))
        have hX4 := Lib.hid (hX2.out.below hbw (by omega))
        have hz2 := hbw.size
        obtain ⟨p0, p1, p2, p3⟩ := hX3.out
        obtain ⟨q0, q1, q2, q3⟩ := hX4.out
        clear hbw
        go_wp2_with fail
        go_ret
        exact ⟨ret_bool hf.out.symm, hB2.out⟩
      · have hf := Lib.hid (show v = decide (a.ed = b.ed) by rw [HV.out, hd]; rfl)
        have hd2 : (s != s) = false := by simp
        by_cases hk : k = k2
        · subst hk
          have hk2 : ((k : Int) != (k : Int)) = false := by simp
          have HK := Lib.hid HR.out.hk
          have HK2 := Lib.hid HR2.out.hk
          go_enter Try.func30, Try.ntmps30
          go_wp2_with fail
          refine HC1.out.mono ?_
          rintro e w1 ⟨rfl, hbw⟩
          have hB := Lib.hid (HB1.out.trans (hbw.mono (by simp; omega)))
          have hX1 := Lib.hid (HX.out.below hbw (by simp; omega))
          have hX2 := Lib.hid (HX2.out.below hbw (by simp))
          have hz := hbw.size
          simp only [World.size_alloc] at hz
          obtain ⟨p0, p1, p2, p3⟩ := hX1.out
          obtain ⟨q0, q1, q2, q3⟩ := hX2.out
          clear hbw
          go_wp2_with fail
          refine (HC2.out w1 hB.out).mono ?_
          rintro e w2 ⟨rfl, hbw⟩
          have hB2 := Lib.hid (hB.out.trans (hbw.mono hB.out.size))
          clear p0 p1 p2 p3 q0 q1 q2 q3
          have hX3 := Lib.hid (hX1.out.below hbw (by omega))
          have hX4 := Lib.hid (hX2.out.below hbw (by omega))
          have hz2 := hbw.size
          obtain ⟨p0, p1, p2, p3⟩ := hX3.out
          obtain ⟨q0, q1, q2, q3⟩ := hX4.out
          clear hbw
          go_wp2_with fail
          go_loopw [5] (fun i wr => ∃ t : Nat, t ≤ k ∧ i = .int .i64 t ∧ Hid (a.ed.take t = b.ed.take t) ∧ Hid (Below w2.heap.size w2 wr)) (fun i _ => k - (intOf i).toNat)
          case atStart => exact ⟨0, Nat.zero_le _, rfl, rfl, Below.refl _ _⟩
          case round =>
            clear p0 p1 p2 p3 q0 q1 q2 q3
            obtain ⟨t, htk, rfl, ht, hbel⟩ := hrel
            obtain ⟨p0, p1, p2, p3⟩ := hX3.out.below hbel.out (by omega)
            obtain ⟨q0, q1, q2, q3⟩ := hX4.out.below hbel.out (by omega)
            have hBr := Lib.hid (hB2.out.trans (hbel.out.mono hB2.out.size))
            have hbk := HR.out.bk
            by_cases htl : t < k
            · obtain ⟨b1, o1, rfl, hb1, hc1⟩ := HR.out.ed (by rw [HK.out]; omega)
              obtain ⟨b2, o2, rfl, hb2, hc2⟩ := HR2.out.ed (by rw [HK2.out]; omega)
              obtain ⟨x, hx1⟩ := edAt (l := a.ed) (k := t) (by rw [HK.out]; exact htl)
              obtain ⟨y, hy1⟩ := edAt (l := b.ed) (k := t) (by rw [HK2.out]; exact htl)
              obtain ⟨u0, u1, u2⟩ : EdAt wr b1 (o1 + t * 3) x := (hc1 t x hx1).keep fun o => hBr.out.cell (p := ⟨b1, o, none⟩) (Nat.lt_of_lt_of_le hb1 hB0.out)
              obtain ⟨v0, v1, v2⟩ : EdAt wr b2 (o2 + t * 3) y := (hc2 t y hy1).keep fun o => hBr.out.cell (p := ⟨b2, o, none⟩) (Nat.lt_of_lt_of_le hb2 hB0.out)
              clear hc1 hc2
              by_cases hxy : x = y
              · subst hxy
                have hs := Lib.hid (eqE_step hx1 hy1 ht.out)
                obtain ⟨xf, xe, xt⟩ := x
                clear hx1 hy1 ht
                go_wp2_with fail
                go_quiet (fail)
                go_wp2_with fail
                go_roundw
                case measure => simp [intOf]; omega
                case rel => exact ⟨t + 1, by omega, by go_num, hs, Lib.hid (below_drewN hbel.out _)⟩
              · have hff := Lib.hid (show v = false by rw [hf.out, neE_of hx1 hy1 hxy])
                have hne := ed_ne hxy
                obtain ⟨xf, xe, xt⟩ := x
                obtain ⟨yf, ye, yt⟩ := y
                simp only at hne u0 u1 u2 v0 v1 v2
                clear hx1 hy1 ht hxy
                by_cases h1 : xf = yf
                · by_cases h2 : xe = ye
                  · have h3 : ¬ xt = yt := fun h3 => hne ⟨h1, h2, h3⟩
                    subst h1; subst h2
                    clear hne
                    go_wp2_with fail
                    go_quiet (fail)
                    go_wp2_with fail
                    go_ret
                    exact ⟨ret_bool hff.out.symm, below_drewN hBr.out _⟩
                  · subst h1
                    clear hne
                    go_wp2_with fail
                    go_quiet (fail)
                    go_wp2_with fail
                    go_ret
                    exact ⟨ret_bool hff.out.symm, below_drewN hBr.out _⟩
                · clear hne
                  go_wp2_with fail
                  go_quiet (fail)
                  go_wp2_with fail
                  go_ret
                  exact ⟨ret_bool hff.out.symm, below_drewN hBr.out _⟩
            · have hkn : t = k := by omega
              have hff := Lib.hid (show v = true by rw [hf.out]; exact eqE_all (by rw [HK.out, HK2.out]) (by rw [HK.out, ← hkn]; exact ht.out))
              clear hkn ht
              go_wp2_with fail
              go_ret
              exact ⟨ret_bool hff.out.symm, hBr.out⟩
        · have hk2 : ((k : Int) != (k2 : Int)) = true := by simp; omega
          have hff := Lib.hid (show v = false by
            rw [hf.out]; simp only [decide_eq_false_iff_not]; intro e
            have := congrArg List.length e; rw [HR.out.hk, HR2.out.hk] at this; exact hk this)
          go_enter Try.func30, Try.ntmps30
          go_wp2_with fail
          refine HC1.out.mono ?_
          rintro e w1 ⟨rfl, hbw⟩
          have hB := Lib.hid (HB1.out.trans (hbw.mono (by simp; omega)))
          have hX1 := Lib.hid (HX.out.below hbw (by simp; omega))
          have hX2 := Lib.hid (HX2.out.below hbw (by simp))
          have hz := hbw.size
          simp only [World.size_alloc] at hz
          obtain ⟨p0, p1, p2, p3⟩ := hX1.out
          obtain ⟨q0, q1, q2, q3⟩ := hX2.out
          clear hbw
          go_wp2_with fail
          refine (HC2.out w1 hB.out).mono ?_
          rintro e w2 ⟨rfl, hbw⟩
          have hB2 := Lib.hid (hB.out.trans (hbw.mono hB.out.size))
          clear p0 p1 p2 p3 q0 q1 q2 q3
          have hX3 := Lib.hid (hX1.out.below hbw (by omega))
          have hX4 := Lib.hid (hX2.out.below hbw (by omega))
          have hz2 := hbw.size
          obtain ⟨p0, p1, p2, p3⟩ := hX3.out
          obtain ⟨q0, q1, q2, q3⟩ := hX4.out
          clear hbw
          go_wp2_with fail
          go_ret
          exact ⟨ret_bool hff.out.symm, hB2.out⟩
    · have hd : decide (s = s2) = false := by simp [hs]
      have hf := Lib.hid (show v = false by rw [HV.out, hd]; rfl)
      have hd2 : (s != s2) = true := by simp [hs]
      go_enter Try.func30, Try.ntmps30
      go_wp2_with fail
      refine HC1.out.mono ?_
      rintro e w1 ⟨rfl, hbw⟩
      have hB := Lib.hid (HB1.out.trans (hbw.mono (by simp; omega)))
      have hX1 := Lib.hid (HX.out.below hbw (by simp; omega))
      have hX2 := Lib.hid (HX2.out.below hbw (by simp))
      have hz := hbw.size
      simp only [World.size_alloc] at hz
      obtain ⟨p0, p1, p2, p3⟩ := hX1.out
      obtain ⟨q0, q1, q2, q3⟩ := hX2.out
      clear hbw
      go_wp2_with fail
      go_ret
      exact ⟨ret_bool hf.out.symm, hB.out⟩
end Go.Proofs.Ytcciiikaejjooaa
