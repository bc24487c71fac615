/- Texts merged: what follows were texts of their own. -/
import Derived.Test.YtaadhpkpekmfoaaGreatZa5
import Derived.Test.YtaadhpkpekmfoaaGreatZa8
import Derived.Test.YtaadhpkpekmfoaaGreatZa6
import Derived.Test.YtaadhpkpekmfoaaGreatZa7
import Derived.Great.BuildSlice
import Derived.Deep.RegionHeld3
set_option linter.unusedVariables false
set_option linter.unusedSimpArgs false
set_option linter.unusedSectionVars false
/- Layer 3: Events of the law's sets; Make of the law's package. -/
namespace Go.Proofs.YtaadhpkpekmfoaaGreat

section
open Go.RowKit Go.Sort
/-- Some events below n, in increasing order. -/
structure Ev5 (n : Int) (zs : List Int) : Prop where
  r : ∀ x ∈ zs, 0 ≤ x ∧ x < n
  o : zs.Pairwise (· < ·)
theorem Ev5.nil (n : Int) : Ev5 n [] := ⟨by simp, List.Pairwise.nil⟩
theorem Ev5.more {n : Int} {zs : List Int} (h : Ev5 n zs) : Ev5 (n + 1) zs := ⟨fun x hx => by have := h.r x hx; omega, h.o⟩
theorem Ev5.snoc {n : Int} {zs : List Int} (h : Ev5 n zs) (h0 : 0 ≤ n) : Ev5 (n + 1) (zs ++ [n]) :=
  ⟨fun x hx => by
    rcases List.mem_append.1 hx with hx | hx
    · have := h.r x hx; omega
    · simp at hx; subst hx; omega,
   List.pairwise_append.2 ⟨h.o, by simp, fun x hx y hy => by simp at hy; subst hy; exact (h.r x hx).2⟩⟩
theorem Ev5.len {n : Nat} {zs : List Int} (h : Ev5 (n : Int) zs) : zs.length ≤ n := nodup_len (lt_nodup h.o) h.r

set_option maxHeartbeats 2000000 in
set_option maxRecDepth 100000 in
theorem events_any (x : Int) (w : World) (hx : (Lit.int .u8 x).wf = true) :
    Calls Tryz.prog 13 #[.int .u8 x] w fun e w' => ∃ zs, Ev5 5 zs ∧ GivesC w zs e w' := by
  obtain ⟨i0, hi, hz0, hz1, hz2⟩ := info_parts info_int
  go_enter Tryz.func13, Tryz.ntmps13
  go_wp2_with fail
  go_loopw [3, 4] (fun v i wr => ∃ (t : Nat) (zs : List Int), t ≤ 5 ∧ i = .int .i64 t ∧ Hid (Ev5 (t : Int) zs) ∧ Hid (FP w v zs wr)) (fun _ i _ => 5 - (intOf i).toNat)
  case atStart => exact ⟨0, [], Nat.zero_le _, rfl, Ev5.nil _, ⟨Below.refl _ _, World.ownsRow_nil _ _ _ _⟩⟩
  case round =>
    obtain ⟨t, zs, ht5, rfl, hev, hfp⟩ := hrel
    by_cases hlt : t < 5
    · have hl := hev.out.len
      have z0 : (0 : Int) ≤ (t : Int) := by omega
      have hsz := hfp.out.bel.size
      have hm := Lib.hid (hev.out.more)
      have hs := Lib.hid (hev.out.snoc (by omega))
      go_upto_if 13 with fail
      generalize (bits BinOp.and IntKind.u8 (x / 2 ^ t) 1 == 1) = cb
      cases cb
      · go_wp2_with fail
        go_roundw
        case rel => exact ⟨t + 1, zs, by omega, by go_num, by simpa using hm, hfp⟩
        case measure => simp [intOf]; omega
      · go_wp2_with (at_builtin; refine wpList_append_own _ rfl _ _ 27 rfl w.heap.size 3 i0 (.int .i64 0) 1 8 Tryz.underlying27 hi hz0 hz1 hz2 rfl (by decide) _ _ _ rfl (hfp.out.ow.alloc _) ⟨wr.heap.size, 0, none⟩ 1 1 [.int .i64 (t : Int)] rfl rfl (news_one (by simp)) (by intro u hu; simp at hu; subst hu; rfl) (by unfold maxLen; omega) (by omega) (by simp; omega) ?_)
        intro v5 w5 hown5 hgrow5 _
        have hO5 := own_app (K' := zs ++ [(t : Int)]) rfl hfp.out.bel hfp.out.ow hown5 hgrow5 (Nat.le_refl _)
        have hF6 := Lib.hid (show FP w v5 (zs ++ [(t : Int)]) w5 from ⟨hO5.2, hO5.1⟩)
        clear hown5 hgrow5 hO5
        go_wp2_with fail
        go_roundw
        case rel => exact ⟨t + 1, zs ++ [(t : Int)], by omega, by go_num, by simpa using hs, hF6⟩
        case measure => simp [intOf]; omega
    · obtain rfl : t = 5 := by omega
      obtain ⟨A', c', rfl, hrd, hc1, hc2⟩ := own_rdc hfp.out.ow
      have HRD := Lib.hid hrd
      have HF := Lib.hid hfp.out
      clear hfp hrd
      go_wp2_with fail
      go_ret
      exact ⟨zs, hev.out, A', c', rfl, HRD.out, HF.out.bel, hc1, hc2⟩
end

section
open Go.RowKit Go.Sort
/-- The cells of a graph. -/
structure GrC (cs : Array Value) : Prop where
  sz : cs.size = 27
  ce : ∀ i : Nat, i < 27 → ∃ x : Int, cs[i]? = some (.int .u8 x) ∧ 0 ≤ x ∧ x < 256
/-- What the law's automata are. -/
structure OkM (al : List Int) (a : Au) : Prop where
  r : Right a
  c : canA a = a
  al : a.al = al
  st : a.st ≤ 5
/-- The edges that are made: those of the states before t, and those of t by the first k events. -/
structure EdI (S : Nat) (al : List Int) (t k : Nat) (es : List Ed) : Prop where
  r : ∀ x ∈ es, 0 ≤ x.f ∧ (x.f < (t : Int) ∨ x.f = (t : Int) ∧ x.e ∈ al.take k) ∧ 0 ≤ x.t ∧ x.t < (S : Int) ∧ x.e ∈ al
  o : es.Pairwise ltE
  l : es.length ≤ t * 5 + k
theorem EdI.nil (S : Nat) (al : List Int) : EdI S al 0 0 [] := ⟨by simp, List.Pairwise.nil, by simp⟩
theorem EdI.more {S : Nat} {al : List Int} {t k : Nat} {es : List Ed} (h : EdI S al t k es) (hk : k < al.length) : EdI S al t (k + 1) es :=
  ⟨fun x hx => by
    obtain ⟨h1, h2, h3⟩ := h.r x hx
    refine ⟨h1, h2.imp id fun h => ⟨h.1, (mem_snoc_take hk).2 (.inl h.2)⟩, h3⟩, h.o, by have := h.l; omega⟩
theorem EdI.snoc {S : Nat} {al : List Int} {t k : Nat} {es : List Ed} (h : EdI S al t k es) (hk : k < al.length) (ho : al.Pairwise (· < ·)) {u : Int} (h0 : 0 ≤ u) (h1 : u < (S : Int)) : EdI S al t (k + 1) (es ++ [⟨(t : Int), al.getD k 0, u⟩]) :=
  ⟨fun x hx => by
    rcases List.mem_append.1 hx with hx | hx
    · exact (h.more hk).r x hx
    · rw [List.mem_singleton] at hx; subst hx
      exact ⟨by simp, .inr ⟨rfl, (mem_snoc_take hk).2 (.inr rfl)⟩, h0, h1, getD_mem hk⟩,
   List.pairwise_append.2 ⟨h.o, by simp, fun x hx y hy => by
    rw [List.mem_singleton] at hy; subst hy
    rcases (h.r x hx).2.1 with h2 | ⟨h2, h3⟩
    · exact .inl h2
    · refine .inr ⟨h2, ?_⟩
      obtain ⟨i, hi, he⟩ := mem_getD h3
      rw [List.length_take] at hi
      have h4 := up_of ho i k (by omega) hk
      have h5 : (al.take k).getD i 0 = al.getD i 0 := by simp [List.getD, show i < k by omega]
      show x.e < al.getD k 0
      rw [← he, h5]; exact h4⟩, by have := h.l; rw [List.length_append]; simp; omega⟩
theorem EdI.next {S : Nat} {al : List Int} {t k : Nat} {es : List Ed} (h : EdI S al t k es) (hk : k ≤ 5) : EdI S al (t + 1) 0 es :=
  ⟨fun x hx => by
    obtain ⟨h1, h2, h3⟩ := h.r x hx
    exact ⟨h1, .inl (by rcases h2 with h2 | h2 <;> omega), h3⟩, h.o, by have := h.l; omega⟩
theorem far1 {w w6 : World} {cs : Array Value} {T : TypeId} {row : Option Nat} {b o : Nat} {v : Value} (h : (w.alloc (.cells cs T)).grownBy w6 row) (hlt : b < w.heap.size) (hne : some b ≠ row) (hc : w.cell? ⟨b, o, none⟩ = some v) : w6.cell? ⟨b, o, none⟩ = some v :=
  (h.cell_far ⟨b, o, none⟩ (by simp; omega) hne).trans ((World.cell?_alloc_lt w _ ⟨b, o, none⟩ hlt).trans hc)
theorem far2 {w w6 : World} {cs : Array Value} {T : TypeId} {row : Option Nat} {b o : Nat} {v : Value} (h : (w.alloc (.cells cs T)).drew.grownBy w6 row) (hlt : b < w.heap.size) (hne : some b ≠ row) (hc : w.cell? ⟨b, o, none⟩ = some v) : w6.cell? ⟨b, o, none⟩ = some v :=
  (h.cell_far ⟨b, o, none⟩ (by simp; omega) hne).trans ((World.cell?_alloc_lt w _ ⟨b, o, none⟩ hlt).trans hc)
theorem far1f {w w6 : World} {cs : Array Value} {T : TypeId} {row : Option Nat} {b o : Nat} (h : (w.alloc (.cells cs T)).grownBy w6 row) (hlt : b < w.heap.size) (hne : some b ≠ row) (hc : w.frozen? ⟨b, o, none⟩ = false) : w6.frozen? ⟨b, o, none⟩ = false :=
  (h.frozen_far ⟨b, o, none⟩ (by simp; omega) hne).trans ((frozen?_alloc_cells w cs T ⟨b, o, none⟩).trans hc)
theorem far2f {w w6 : World} {cs : Array Value} {T : TypeId} {row : Option Nat} {b o : Nat} (h : (w.alloc (.cells cs T)).drew.grownBy w6 row) (hlt : b < w.heap.size) (hne : some b ≠ row) (hc : w.frozen? ⟨b, o, none⟩ = false) : w6.frozen? ⟨b, o, none⟩ = false :=
  (h.frozen_far ⟨b, o, none⟩ (by simp; omega) hne).trans ((frozen?_alloc_cells w cs T ⟨b, o, none⟩).trans hc)
theorem far12 {w w5 w6 : World} {cs : Array Value} {T : TypeId} {row : Option Nat} {b o : Nat} {v : Value} (h : w5.grownBy w6 row) (hlt : b < w.heap.size) (hne : some b ≠ row) (hc : w.cell? ⟨b, o, none⟩ = some v) (h5 : w5 = w.alloc (.cells cs T) ∨ w5 = (w.alloc (.cells cs T)).drew := by first | exact .inl rfl | exact .inr rfl) : w6.cell? ⟨b, o, none⟩ = some v := by
  rcases h5 with rfl | rfl
  · exact far1 h hlt hne hc
  · exact far2 h hlt hne hc
theorem far12f {w w5 w6 : World} {cs : Array Value} {T : TypeId} {row : Option Nat} {b o : Nat} (h : w5.grownBy w6 row) (hlt : b < w.heap.size) (hne : some b ≠ row) (hc : w.frozen? ⟨b, o, none⟩ = false) (h5 : w5 = w.alloc (.cells cs T) ∨ w5 = (w.alloc (.cells cs T)).drew := by first | exact .inl rfl | exact .inr rfl) : w6.frozen? ⟨b, o, none⟩ = false := by
  rcases h5 with rfl | rfl
  · exact far1f h hlt hne hc
  · exact far2f h hlt hne hc
/-- What Make hands back. -/
def MkG (w : World) (al : List Int) (e : Ending) (w' : World) : Prop := ∃ a v, OkM al a ∧ e = .returned v ∧ AuF a v w' w.heap.size ∧ Below w.heap.size w w'

set_option maxHeartbeats 8000000 in
set_option maxRecDepth 100000 in
theorem make_any (A : Option Addr) (n c B : Nat) (al : List Int) (cs : Array Value) (w : World) (hx : RdI w B A al) (hB : B ≤ w.heap.size) (hn : al.length = n) (hnc : n ≤ c) (hev : Ev5 5 al) (hg : GrC cs) :
    Calls Tryz.prog 12 #[.slice A n c, .agg cs] w fun e w' => MkG w al e w' := by
  have hsz := hg.sz
  obtain ⟨st, hst, hst0, hst1⟩ := hg.ce 0 (by omega)
  have hn5 : n ≤ 5 := by have := Ev5.len (n := 5) hev; omega
  have hb1 := ((Below.refl w.heap.size w).alloc (Nat.le_refl _) (.cells cs 26)).alloc (by simp) (.cells #[.slice none 0 0, .int .i64 0, .slice none 0 0, .slice none 0 0] 33)
  have HB1 := Lib.hid hb1
  have hG := Lib.hid (show Row ((w.alloc (.cells cs 26)).alloc (.cells #[.slice none 0 0, .int .i64 0, .slice none 0 0, .slice none 0 0] 33)) w.heap.size 26 cs.toList from (Row.new w cs.toList 26).alloc _)
  have hRes := Lib.hid (show Row ((w.alloc (.cells cs 26)).alloc (.cells #[.slice none 0 0, .int .i64 0, .slice none 0 0, .slice none 0 0] 33)) (w.heap.size + 1) 33 [.slice none 0 0, .int .i64 0, .slice none 0 0, .slice none 0 0] by
    have := Row.new (w.alloc (.cells cs 26)) [.slice none 0 0, .int .i64 0, .slice none 0 0, .slice none 0 0] 33
    simpa using this)
  have HE := Lib.hid (rEmpty_any A n c B al _ (hx.below hb1 hB) (Nat.le_trans hB hb1.size) hn (by omega))
  have g0 := hG.out.cell 0 (by simpa using hst)
  have HX := Lib.hid hx
  have HBw := Lib.hid hB
  have HN := Lib.hid hn
  have HEV := Lib.hid hev
  have HG0 := Lib.hid hg
  have HST := Lib.hid (show cs.toList[0]? = some (.int .u8 st) by simpa using hst)
  clear hst hb1 hx hB hn hev hg hsz
  by_cases h250 : 250 ≤ st
  · go_enter Tryz.func12, Tryz.ntmps12
    go_wp2_with fail
    refine HE.out.mono ?_
    rintro e w1 ⟨A', c', rfl, ho, hbw, hc1, hc2⟩
    have hR1 := Lib.hid (hRes.out.below hbw (by simp))
    have hB1 := Lib.hid (HB1.out.trans (hbw.mono HB1.out.size))
    have r0 := hR1.out.cell 0 rfl
    have r1 := hR1.out.cell 1 rfl
    have r2 := hR1.out.cell 2 rfl
    have r3 := hR1.out.cell 3 rfl
    have z0 := hR1.out.frozen 0
    have z1 := hR1.out.frozen 1
    have z2 := hR1.out.frozen 2
    have z3 := hR1.out.frozen 3
    obtain ⟨_, _, he, hrd, _, _⟩ := own_rdc ho
    injection he with he1 he2 he3
    subst he1 he3
    have hAu := Lib.hid (show AuF ⟨al, 0, [], []⟩ (.agg #[.slice A' n c', .int .i64 0, .slice none 0 0, .slice none 0 0]) w1 (w.heap.size + 2) from
      ⟨A', n, c', 0, none, 0, 0, none, 0, 0, rfl, { al := hrd, mr := RdI.nil _ _ _, ed := RdG.nil _ _ _, hn := HN.out, hm := rfl, hk := rfl, st := rfl, cn := ⟨hc1, hc2⟩, cm := by omega, ck := by omega, bn := by omega, bm := by omega, bk := by omega },
        own_from (by simpa using ho), fun b o f e => (by cases e), fun b o f e => (by cases e)⟩)
    clear hbw ho hrd he2
    go_wp2_with fail
    (try simp only [Exit.inBlock, Exit.then])
    refine bodyPost_ret (v := .agg #[.slice A' n c', .int .i64 0, .slice none 0 0, .slice none 0 0]) ?_ rfl ⟨⟨al, 0, [], []⟩, _, ?_, rfl, ?_, ?_⟩
    · rw [results_cell1 rfl]
      go_simp
    · refine ⟨⟨⟨fun x hx => ?_, HEV.out.o, by simp, by simp, by simp, by simp, by simp⟩, by simp⟩, can_zero rfl, rfl, by simp⟩
      have := HEV.out.r x hx
      omega
    · exact (hAu.out.set4 (by omega) _ _ _ _).more (by omega)
    · exact below_set4 hB1.out (by omega) _ _ _ _
  · go_enter Tryz.func12, Tryz.ntmps12
    go_wp2_with fail
    refine HE.out.mono ?_
    rintro e w1 ⟨A', c', rfl, ho, hbw, hc1, hc2⟩
    have hR1 := Lib.hid (hRes.out.below hbw (by simp))
    have hG1 := Lib.hid (hG.out.below hbw (by simp; omega))
    have hB1 := Lib.hid (HB1.out.trans (hbw.mono HB1.out.size))
    have g0 := hG1.out.cell 0 HST.out
    have hw1 : w.heap.size < w1.heap.size := hG1.out.lt
    have g1 := fun (cs : Array Value) ty => (World.cell?_alloc_lt w1 (.cells cs ty) ⟨w.heap.size, 0, none⟩ hw1).trans g0
    obtain ⟨iI, iI0, iI1, iI2, iI3⟩ := info_parts info_int
    obtain ⟨iE, iE0, iE1, iE2, iE3⟩ := info_parts info_edge
    obtain ⟨S, hS⟩ : ∃ S : Nat, 1 + st % 5 = (S : Int) := ⟨(1 + st % 5).toNat, by omega⟩
    have hS5 : S ≤ 5 := by omega
    have hS1 : 1 ≤ S := by omega
    have hm5 := Lib.hid (show IntKind.u8.wrap (st % 5) = st % 5 by simp [IntKind.wrap, IntKind.signed, IntKind.bits]; omega)
    have hbd0 := Lib.hid (show Bd w1 w1.heap.size w1.heap.size true true (.slice A' n c') (S : Int) (w1.alloc (.cells #[.slice A' n c', .int .i64 (S : Int), .slice none 0 0, .slice none 0 0] 33)) [] (.slice none 0 0) [] (.slice none 0 0) from
      ⟨(Below.refl _ _).alloc (Nat.le_refl _) _, Row.new w1 [.slice A' n c', .int .i64 (S : Int), .slice none 0 0, .slice none 0 0] 33, fun _ => World.ownsRow_nil _ _ _ _, fun _ => World.ownsRow_nil _ _ _ _, Nat.le_refl _⟩)
    have CG := Lib.hid (fun W (hW : Below w1.heap.size w1 W) (j : Nat) (x : Int) (h : cs[j]? = some (.int .u8 x)) => (hG1.out.below hW hw1).cell j (v := .int .u8 x) (by simpa using h))
    have CA := Lib.hid (fun W (hW : Below w1.heap.size w1 W) => HX.out.below (hB1.out.trans (hW.mono hB1.out.size)) HBw.out)
    have HRd := Lib.hid (show RdI w1 w1.heap.size A' al by
      obtain ⟨_, _, he, hrd, _, _⟩ := own_rdc ho
      injection he with he1 he2 he3
      subst he1; exact hrd)
    have HFr := Lib.hid (own_from ho)
    clear ho hbw
    go_wp2_with fail
    go_loopw [6] (fun i wr => ∃ (t : Nat) (vm ve : Value) (ms : List Int) (es : List Ed), t ≤ S ∧ i = .int .i64 t ∧ Hid (Bd w1 w1.heap.size w1.heap.size true true (.slice A' n c') (S : Int) wr ms vm es ve) ∧ Hid (Ev5 (t : Int) ms) ∧ Hid (EdI S al t 0 es)) (fun i _ => S - (intOf i).toNat)
    case atStart => exact ⟨0, _, _, _, _, Nat.zero_le _, rfl, hbd0, Ev5.nil _, EdI.nil _ _⟩
    case round =>
      clear hbd0 g0 g1
      obtain ⟨t, vm, ve, ms, es, htS, rfl, hbd, hev, hei⟩ := hrel
      by_cases htl : t < S
      · obtain ⟨mk, hmk, hmk0, hmk1⟩ := HG0.out.ce 1 (by omega)
        have gm := CG.out wr hbd.out.bel 1 mk hmk
        have s1 := hbd.out.cb.cell 1 rfl
        have z0 : (0 : Int) ≤ (t : Int) := by omega
        have z1 : (t : Int) < (S : Int) := by omega
        have hml := hev.out.len
        have HMO := Lib.hid hev.out.more
        have HSN := Lib.hid (hev.out.snoc (by omega))
        clear hmk
        go_upto_if 33 with fail
        generalize (bits BinOp.and IntKind.u8 (mk / 2 ^ t) 1 == 1) = cb
        go_cut [6] from 22 to 76 (fun i wx => i = .int .i64 (t : Int) ∧ ∃ vm ms', Hid (Bd w1 w1.heap.size w1.heap.size true true (.slice A' n c') (S : Int) wx ms' vm es ve) ∧ Hid (Ev5 ((t + 1 : Nat) : Int) ms'))
        case first =>
          cases cb
          · go_wp2_with fail
            go_meet
            case rel => exact ⟨rfl, vm, ms, hbd, by simpa using HMO⟩
          · have hmo := Lib.hid (hbd.out.mo rfl)
            have c2' := hbd.out.cb.cell 2 rfl
            have f2' := hbd.out.cb.frozen 2
            have hs4 := hbd.out.h2
            go_wp2_with (at_builtin; refine wpList_append_own _ rfl _ _ 27 rfl w1.heap.size 3 iI (.int .i64 0) 1 8 Tryz.underlying27 iI0 iI1 iI2 iI3 rfl (by decide) _ _ _ rfl (hmo.out.alloc _) ⟨wr.heap.size, 0, none⟩ 1 1 [.int .i64 (t : Int)] rfl rfl (news_one (by simp)) (by intro u hu; simp at hu; subst hu; rfl) (by unfold maxLen; omega) (by omega) (by simp; omega) ?_)
            intro v5 w5 hown5 hgrow5 _
            have hown6 : Own w5 w1.heap.size v5 (ms ++ [(t : Int)]) := by unfold Own; rw [List.length_append]; simpa using hown5
            obtain ⟨A5, c5, hv5, _, _, _⟩ := own_rdc hown6
            rw [show (ms ++ [(t : Int)]).length = ms.length + 1 by simp] at hv5
            subst hv5
            have hba := hbd.out.alloc (.cells #[.int .i64 (t : Int)] 3)
            have hcb := Lib.hid (hba.cb.grown hgrow5 (fun e => hba.neM e.symm))
            have hbd6 := Lib.hid (Bd.mark hba hgrow5 hown6)
            have c2' := hcb.out.cell 2 rfl
            have f2' := hcb.out.frozen 2
            clear hown5 hown6 hgrow5 hba
            go_wp2_with fail
            go_meet
            case rel => exact ⟨rfl, _, _, hbd6, by simpa using HSN⟩
        case rest =>
          clear hbd hev s1 gm hml HMO HSN
          obtain ⟨rfl, vm, ms', hbd, hev⟩ := hcut
          go_wp2_with fail
          go_loopw [7] (fun i wr => ∃ (k : Nat) (ve : Value) (es : List Ed), k ≤ n ∧ i = .int .i64 k ∧ Hid (Bd w1 w1.heap.size w1.heap.size true true (.slice A' n c') (S : Int) wr ms' vm es ve) ∧ Hid (EdI S al t k es)) (fun i _ => n - (intOf i).toNat)
          case atStart => exact ⟨0, _, _, Nat.zero_le _, rfl, hbd, hei⟩
          case round =>
            clear hbd hei
            obtain ⟨k, ve, es, hkn, rfl, hbd, hei⟩ := hrel
            have s1 := hbd.out.cb.cell 1 rfl
            by_cases hkl : k < n
            · obtain ⟨x, hx, hx0, hx1⟩ := HG0.out.ce (2 + t * 5 + k) (by omega)
              have gx := CG.out wr hbd.out.bel _ x hx
              have e0 := Int.emod_nonneg x (show (S : Int) + 2 ≠ 0 by omega)
              have z2 : (0 : Int) ≤ (k : Int) := by omega
              have z3 : (k : Int) < (n : Int) := by omega
              have z4 : (k : Int) < 5 := by omega
              have z5 : (t : Int) < 5 := by omega
              clear hx
              go_wp2_with fail
              go_quiet (fail)
              have hbdq := Lib.hid (hbd.out.drewN nq)
              have s1q := hbdq.out.cb.cell 1 rfl
              clear hbd s1 gx
              generalize wr.drewN nq = wq at *
              have hbd := Lib.hid hbdq.out
              have hsq := hbdq.out.h2
              clear hbdq
              by_cases z6 : x % ((S : Int) + 2) < (S : Int)
              · obtain ⟨bA, oA, rfl, hbA, hcA⟩ := HX.out (by rw [HN.out]; omega)
                obtain ⟨ev, hevv⟩ : ∃ ev, ev = al.getD k 0 := ⟨_, rfl⟩
                have ca : wq.cell? ⟨bA, oA + k, none⟩ = some (.int .i64 ev) := by
                  obtain ⟨b2, o2, e2, hb2, hc2⟩ := CA.out wq hbd.out.bel (by rw [HN.out]; omega)
                  injection e2 with e2; injection e2 with e3 e4; subst e3 e4
                  rw [hevv]; exact hc2 k (by rw [HN.out]; omega)
                have hsn := Lib.hid (hei.out.snoc (u := x % ((S : Int) + 2)) (by rw [HN.out]; exact hkl) HEV.out.o (by omega) z6)
                rw [← hevv] at hsn
                have hel := hei.out.l
                have heo := Lib.hid (hbd.out.eo rfl)
                have c3 := hbd.out.cb.cell 3 rfl
                have f3 := hbd.out.cb.frozen 3
                clear hcA hevv
                have hbs := hbd.out.bel.size
                have hneV := hbd.out.neE
                have hneA : some bA ≠ ve.ownBlock := fun e => by have h1 := (heo.out.lt bA e.symm).1; have h2 := hB1.out.size; have h3 := HBw.out; omega
                have hbAq : bA < wq.heap.size := by have h2 := hB1.out.size; have h3 := HBw.out; omega
                have v3 := fun cs : Array Value => (World.cell?_alloc_lt wq (.cells cs 79) ⟨w1.heap.size, 3, none⟩ hsq).trans c3
                have v4 := fun cs : Array Value => (World.cell?_alloc_lt wq (.cells cs 79) ⟨bA, oA + k, none⟩ hbAq).trans ca
                have v5 := fun cs : Array Value => (frozen?_alloc_cells wq cs 79 ⟨w1.heap.size, 3, none⟩).trans f3
                go_wp2_with fail
                go_region_law (refine step_append_lies _ (by rfl) (.tmp 66) (.tmp 74) _ (by rfl) w1.heap.size 79 iE (.agg #[.int .i64 0, .int .i64 0, .int .i64 0]) 3 24 Tryz.underlying31 iE0 iE1 iE2 iE3 rfl (by omega) ve es.length (encE es) (by rfl) (by first | exact (heo.out.alloc _).drew | exact (heo.out.alloc _)) ⟨wq.heap.size, 0, none⟩ 1 1 [.int .i64 (t : Int), .int .i64 ev, .int .i64 (x % ((S : Int) + 2))] (by rfl) (by rfl) (World.news_of_block (cs := #[.int .i64 (t : Int), .int .i64 ev, .int .i64 (x % ((S : Int) + 2))]) (t := 79) (fr := (0, 0)) (heap_alloc_new wq _)) (by simp [Value.oneCell']) (by omega) (by unfold maxLen; omega) (by omega) (by simp; omega) (wq.heap.size + 1) (by simp) ?_; intro gg cap w6 hown6 hgrow hat hlt1; have c6 := far12 hgrow hsq hneV c3; have f6 := far12f hgrow hsq hneV f3)
                all_goals
                  have hown7 : OwnE w6 w1.heap.size (.slice (some ⟨gg, 0, none⟩) (es.length + 1) cap) (es ++ [⟨(t : Int), ev, x % ((S : Int) + 2)⟩]) := by
                    unfold OwnE; rw [encE_app, List.length_append]; exact hown6
                  have hbd7 := Lib.hid (show Bd w1 w1.heap.size w1.heap.size true true (.slice A' n c') (S : Int) (w6.setCell ⟨w1.heap.size, 3, none⟩ (.slice (some ⟨gg, 0, none⟩) (es.length + 1) cap)) ms' vm (es ++ [⟨(t : Int), ev, x % ((S : Int) + 2)⟩]) (.slice (some ⟨gg, 0, none⟩) (es.length + 1) cap) from by
                    first
                    | exact Bd.edge (hbd.out.alloc _) hgrow hown7
                    | exact Bd.edge ((hbd.out.alloc _).drew) hgrow hown7
                    | exact Bd.edge (hbd.out.drew.alloc _) hgrow hown7)
                  clear hown7 hown6 hgrow hat
                  go_wp2_with fail
                  go_roundw
                  case measure => simp [intOf]; omega
                  case rel => exact ⟨k + 1, _, _, by omega, by go_num, by first | exact hbd7 | exact Lib.hid hbd7.out.drew, hsn⟩
              · have z7 : (S : Int) ≤ x % ((S : Int) + 2) := by omega
                have hno := Lib.hid (hei.out.more (by rw [HN.out]; exact hkl))
                go_wp2_with fail
                go_roundw
                case rel => exact ⟨k + 1, _, _, by omega, by go_num, hbd, hno⟩
                case measure => simp [intOf]; omega
            · obtain rfl : k = n := by omega
              have hnx := Lib.hid (hei.out.next hn5)
              go_wp2_with fail
              go_roundw
              case rel => exact ⟨t + 1, _, _, _, _, by omega, by go_num, hbd, hev, hnx⟩
              case measure => simp [intOf]; omega
      · obtain rfl : t = S := by omega
        obtain ⟨M3, d3, rfl, hM1, hM2, hM3⟩ := own_rdc (hbd.out.mo rfl)
        obtain ⟨E3, g3, rfl, hE1, hE2, hE3⟩ := ownE_rd (hbd.out.eo rfl)
        have s0 := hbd.out.cb.cell 0 rfl
        have s1 := hbd.out.cb.cell 1 rfl
        have s2 := hbd.out.cb.cell 2 rfl
        have s3 := hbd.out.cb.cell 3 rfl
        have hml := hev.out.len
        have hel := hei.out.l
        have HRi := Lib.hid (show Right ⟨al, (t : Int), ms, es⟩ from { alr := fun x hx => by have := HEV.out.r x hx; omega, alo := HEV.out.o, st0 := by simp, mrr := hev.out.r, mro := hev.out.o, edr := (fun x hx => by
          obtain ⟨h1, h2, h3, h4, h5⟩ := hei.out.r x hx
          exact ⟨⟨h1, h2.resolve_right (fun h => by simpa using h.2)⟩, ⟨h3, h4⟩, h5⟩), edo := hei.out.o, st1 := by show (t : Int) ≤ 4096; omega })
        have HAu := Lib.hid (show AuR wr wr.heap.size A' n c' (t : Int) M3 ms.length d3 E3 es.length g3 ⟨al, (t : Int), ms, es⟩ from
          { al := (HRd.out.below hbd.out.bel (Nat.le_refl _)).more hbd.out.bel.size, mr := hM1, ed := hE1, hn := HN.out, hm := rfl, hk := rfl, st := rfl, cn := ⟨hc1, hc2⟩, cm := ⟨hM2, hM3⟩, ck := ⟨hE2, hE3⟩, bn := by omega, bm := by omega, bk := by omega })
        have HC := Lib.hid (rCanonical_any A' n c' (t : Int) M3 ms.length d3 E3 es.length g3 _ wr.heap.size wr HAu.out (Nat.le_refl _) HRi.out.toRightW (by omega))
        have hR2 := Lib.hid (hR1.out.below hbd.out.bel hR1.out.lt)
        have hB2 := Lib.hid (hB1.out.trans (hbd.out.bel.mono hB1.out.size))
        have hgt := hG1.out.lt
        have hbs := hbd.out.bel.size
        have hst5 := Lib.hid (fnd_len HRi.out.toRightW)
        clear hM1 hE1 hbd
        go_wp2_with fail
        refine HC.out.mono ?_
        rintro e w9 ⟨v9, rfl, hau9, hb9⟩
        obtain ⟨A9, n9, c9, s9, M9, m9, d9, E9, k9, g9, rfl, hr9, hf9⟩ := hau9
        have hAu9 := Lib.hid (show AuF _ _ w9 wr.heap.size from ⟨A9, n9, c9, s9, M9, m9, d9, E9, k9, g9, rfl, hr9, hf9⟩)
        have hR9 := Lib.hid (hR2.out.below hb9 hR2.out.lt)
        have hB9 := Lib.hid (hB2.out.trans (hb9.mono hB2.out.size))
        have hlt1 := hR1.out.lt
        have r0 := hR9.out.cell 0 rfl
        have r1 := hR9.out.cell 1 rfl
        have r2 := hR9.out.cell 2 rfl
        have r3 := hR9.out.cell 3 rfl
        have y0 := hR9.out.frozen 0
        have y1 := hR9.out.frozen 1
        have y2 := hR9.out.frozen 2
        have y3 := hR9.out.frozen 3
        clear hb9 hr9 hf9
        go_wp2_with fail
        (try simp only [Exit.inBlock, Exit.then])
        refine bodyPost_ret (v := .agg #[.slice A9 n9 c9, .int .i64 s9, .slice M9 m9 d9, .slice E9 k9 g9]) ?_ rfl ⟨canA ⟨al, (t : Int), ms, es⟩, _, ?_, rfl, ?_, ?_⟩
        · rw [results_cell1 rfl]
          go_simp
        · refine ⟨HRi.out.can, can_can HRi.out.toRightW, rfl, ?_⟩
          have := hst5.out
          show ((fnd _).length : Int) ≤ 5
          simp only [Int.toNat_natCast] at this
          omega
        · exact (hAu9.out.set4 (by omega) _ _ _ _).more (by omega)
        · exact below_set4 hB9.out (by omega) _ _ _ _
end
end Go.Proofs.YtaadhpkpekmfoaaGreat

/- Layer 7: targets: where the edges by each event lead from a list of states. -/
namespace Go.Proofs.YtaadhpkpekmfoaaGreat
open Go.RowKit Go.Sort

/-- The states to which an event leads, in the order of the states that it leads from. -/
def tgL (a : Au) (s : List Int) (e : Int) : List Int := s.flatMap fun q => ((succ a.ed q).filter fun x => decide (x.e = e)).map Ed.t
theorem mem_tgL {a : Au} {s : List Int} {e q : Int} : q ∈ tgL a s e ↔ q ∈ tgR a s e := by
  rw [mem_tgR]
  unfold tgL
  simp only [List.mem_flatMap, List.mem_map, List.mem_filter, mem_succ, decide_eq_true_eq]
  constructor
  · rintro ⟨p, hp, x, ⟨⟨h1, h2⟩, h3⟩, h4⟩
    exact ⟨x, h1, h3, by rw [h2]; exact hp, h4⟩
  · rintro ⟨x, h1, h2, h3, h4⟩
    exact ⟨x.f, h3, x, ⟨⟨h1, rfl⟩, h2⟩, h4⟩
theorem tgL_snoc (a : Au) (s : List Int) (q e : Int) : tgL a (s ++ [q]) e = tgL a s e ++ ((succ a.ed q).filter fun x => decide (x.e = e)).map Ed.t := by simp [tgL]
theorem tgL_nil {a : Au} {s : List Int} {e : Int} : tgL a s e = [] ↔ tgR a s e = [] := by
  rw [List.eq_nil_iff_forall_not_mem, List.eq_nil_iff_forall_not_mem]
  exact ⟨fun h q hq => h q (mem_tgL.2 hq), fun h q hq => h q (mem_tgL.1 hq)⟩
theorem nx_tgL {a : Au} (h : RightW a) {onto s : List Int} {e : Int} : reR a (erR a onto) (tgL a s e) = nxR a onto s e :=
  reR_same h (fun q hq => tgR_range h q (mem_tgL.1 hq)) fun _ => mem_tgL
/-- What targets keeps: the box of the lists, the lists in memory of the call's own. -/
structure TG (w0 wr : World) (vs : List Value) (Ls : Int → List Int) : Prop where
  bel : Below w0.heap.size w0 wr
  bx : Row wr (w0.heap.size + 1) 131 vs
  rs : Row wr w0.heap.size 131 [.slice none 0 0, .slice none 0 0, .slice none 0 0, .slice none 0 0, .slice none 0 0, .slice none 0 0, .slice none 0 0, .slice none 0 0, .slice none 0 0, .slice none 0 0, .slice none 0 0, .slice none 0 0, .slice none 0 0, .slice none 0 0, .slice none 0 0, .slice none 0 0, .slice none 0 0, .slice none 0 0, .slice none 0 0, .slice none 0 0, .slice none 0 0, .slice none 0 0, .slice none 0 0, .slice none 0 0, .slice none 0 0, .slice none 0 0, .slice none 0 0, .slice none 0 0, .slice none 0 0, .slice none 0 0, .slice none 0 0, .slice none 0 0]
  len : vs.length = 32
  ow : ∀ e : Nat, e < 32 → Own wr w0.heap.size (vs.getD e undef) (Ls (e : Int))
  dj : ∀ e f : Nat, e < 32 → f < 32 → e ≠ f → (vs.getD e undef).ownBlock = none ∨ (vs.getD e undef).ownBlock ≠ (vs.getD f undef).ownBlock
theorem TG.alloc {w0 wr : World} {vs : List Value} {Ls : Int → List Int} (h : TG w0 wr vs Ls) (o : Obj) : TG w0 (wr.alloc o) vs Ls :=
  ⟨h.bel.alloc h.bel.size o, h.bx.alloc o, h.rs.alloc o, h.len, fun e he => (h.ow e he).alloc o, h.dj⟩
theorem TG.drew {w0 wr : World} {vs : List Value} {Ls : Int → List Int} (h : TG w0 wr vs Ls) : TG w0 wr.drew vs Ls :=
  ⟨h.bel.drew, h.bx, h.rs, h.len, h.ow, h.dj⟩
theorem getD_set {vs : List Value} {e f : Nat} {v : Value} (he : e < vs.length) : (vs.set e v).getD f undef = if e = f then v else vs.getD f undef := by
  rw [List.getD, List.getD, List.getElem?_set]
  split
  · next h => subst h; simp [he]
  · rfl
theorem TG.push {w0 wr w6 : World} {vs : List Value} {Ls : Int → List Int} {e N : Nat} {x : Int} {v' : Value} (h : TG w0 wr vs Ls) (he : e < 32) (hg : wr.grownBy w6 (vs.getD e undef).ownBlock) (ho : Own w6 w0.heap.size v' (Ls (e : Int) ++ [x]))
    (hat : v'.ownBlock = (vs.getD e undef).ownBlock ∨ v'.ownBlock = some N) (hN : ∀ f : Nat, f < 32 → ∀ g, (vs.getD f undef).ownBlock = some g → g < N) : TG w0 (w6.setCell ⟨w0.heap.size + 1, e, none⟩ v') (vs.set e v') (fun f => if f = (e : Int) then Ls (e : Int) ++ [x] else Ls f) := by
  have hz := h.bel.size
  have hel : e < vs.length := by rw [h.len]; exact he
  have hb6 : Below w0.heap.size w0 w6 := h.bel.grown hg hz (fun k hk => ((h.ow e he).lt k hk).1)
  have hbx6 : Row w6 (w0.heap.size + 1) 131 vs := h.bx.grown hg (row_ne_own h.bx (h.ow e he) (by decide))
  have hrs6 : Row w6 w0.heap.size 131 _ := h.rs.grown hg (row_ne_own h.rs (h.ow e he) (by decide))
  refine ⟨hb6.setCell (p := ⟨w0.heap.size + 1, e, none⟩) (by simp) _, hbx6.set e v', hrs6.setOther (p := ⟨w0.heap.size + 1, e, none⟩) (by show w0.heap.size ≠ w0.heap.size + 1; omega) _, by rw [List.length_set]; exact h.len, fun f hf => ?_, fun f k hf hk hfk => ?_⟩
  · rw [getD_set hel]
    by_cases hef : e = f
    · subst hef
      rw [if_pos rfl, if_pos rfl]
      exact ownsRow_setCell_other ho (row_ne_own hbx6 ho (by decide)) _
    · rw [if_neg hef, if_neg (by omega)]
      have h1 : Own w6 w0.heap.size (vs.getD f undef) (Ls (f : Int)) := World.ownsRow.kept (h.ow f hf) hg (h.dj f e hf he (fun e' => hef e'.symm))
      exact ownsRow_setCell_other h1 (row_ne_own hbx6 h1 (by decide)) _
  · rw [getD_set hel, getD_set hel]
    by_cases h1 : e = f
    · subst h1
      rw [if_pos rfl, if_neg hfk]
      rcases hat with hat | hat
      · rw [hat]; exact h.dj e k he hk hfk
      · refine .inr fun e' => ?_
        rw [hat] at e'
        have := hN k hk N e'.symm
        omega
    · rw [if_neg h1]
      by_cases h2 : e = k
      · subst h2
        rw [if_pos rfl]
        rcases hat with hat | hat
        · rw [hat]; exact h.dj f e hf he hfk
        · refine .inr fun e' => ?_
          rw [hat] at e'
          have := hN f hf N e'
          omega
      · rw [if_neg h2]; exact h.dj f k hf hk hfk
theorem v32_eq : ([.slice none 0 0, .slice none 0 0, .slice none 0 0, .slice none 0 0, .slice none 0 0, .slice none 0 0, .slice none 0 0, .slice none 0 0, .slice none 0 0, .slice none 0 0, .slice none 0 0, .slice none 0 0, .slice none 0 0, .slice none 0 0, .slice none 0 0, .slice none 0 0, .slice none 0 0, .slice none 0 0, .slice none 0 0, .slice none 0 0, .slice none 0 0, .slice none 0 0, .slice none 0 0, .slice none 0 0, .slice none 0 0, .slice none 0 0, .slice none 0 0, .slice none 0 0, .slice none 0 0, .slice none 0 0, .slice none 0 0, .slice none 0 0] : List Value) = List.replicate 32 (.slice none 0 0) := rfl
theorem v32_at {e : Nat} (he : e < 32) : ([.slice none 0 0, .slice none 0 0, .slice none 0 0, .slice none 0 0, .slice none 0 0, .slice none 0 0, .slice none 0 0, .slice none 0 0, .slice none 0 0, .slice none 0 0, .slice none 0 0, .slice none 0 0, .slice none 0 0, .slice none 0 0, .slice none 0 0, .slice none 0 0, .slice none 0 0, .slice none 0 0, .slice none 0 0, .slice none 0 0, .slice none 0 0, .slice none 0 0, .slice none 0 0, .slice none 0 0, .slice none 0 0, .slice none 0 0, .slice none 0 0, .slice none 0 0, .slice none 0 0, .slice none 0 0, .slice none 0 0, .slice none 0 0] : List Value).getD e undef = .slice none 0 0 := by
  rw [v32_eq, List.getD, List.getElem?_replicate, if_pos he]; rfl
theorem succ_le (a : Au) (q : Int) : (succ a.ed q).length ≤ a.ed.length := List.length_filter_le _ _
theorem tgL_len (a : Au) (e : Int) : ∀ s : List Int, (tgL a s e).length ≤ s.length * a.ed.length
  | [] => by simp [tgL]
  | q :: s => by
    have ih := tgL_len a e s
    have h1 : ((succ a.ed q).filter fun x => decide (x.e = e)).length ≤ a.ed.length := Nat.le_trans (List.length_filter_le _ _) (succ_le a q)
    have e1 : tgL a (q :: s) e = ((succ a.ed q).filter fun x => decide (x.e = e)).map Ed.t ++ tgL a s e := rfl
    rw [e1, List.length_append, List.length_map, List.length_cons, Nat.add_mul, Nat.one_mul]; omega
theorem tg_start (w : World) : TG w ((w.alloc (.cells #[.slice none 0 0, .slice none 0 0, .slice none 0 0, .slice none 0 0, .slice none 0 0, .slice none 0 0, .slice none 0 0, .slice none 0 0, .slice none 0 0, .slice none 0 0, .slice none 0 0, .slice none 0 0, .slice none 0 0, .slice none 0 0, .slice none 0 0, .slice none 0 0, .slice none 0 0, .slice none 0 0, .slice none 0 0, .slice none 0 0, .slice none 0 0, .slice none 0 0, .slice none 0 0, .slice none 0 0, .slice none 0 0, .slice none 0 0, .slice none 0 0, .slice none 0 0, .slice none 0 0, .slice none 0 0, .slice none 0 0, .slice none 0 0] 131)).alloc (.cells #[.slice none 0 0, .slice none 0 0, .slice none 0 0, .slice none 0 0, .slice none 0 0, .slice none 0 0, .slice none 0 0, .slice none 0 0, .slice none 0 0, .slice none 0 0, .slice none 0 0, .slice none 0 0, .slice none 0 0, .slice none 0 0, .slice none 0 0, .slice none 0 0, .slice none 0 0, .slice none 0 0, .slice none 0 0, .slice none 0 0, .slice none 0 0, .slice none 0 0, .slice none 0 0, .slice none 0 0, .slice none 0 0, .slice none 0 0, .slice none 0 0, .slice none 0 0, .slice none 0 0, .slice none 0 0, .slice none 0 0, .slice none 0 0] 131)) [.slice none 0 0, .slice none 0 0, .slice none 0 0, .slice none 0 0, .slice none 0 0, .slice none 0 0, .slice none 0 0, .slice none 0 0, .slice none 0 0, .slice none 0 0, .slice none 0 0, .slice none 0 0, .slice none 0 0, .slice none 0 0, .slice none 0 0, .slice none 0 0, .slice none 0 0, .slice none 0 0, .slice none 0 0, .slice none 0 0, .slice none 0 0, .slice none 0 0, .slice none 0 0, .slice none 0 0, .slice none 0 0, .slice none 0 0, .slice none 0 0, .slice none 0 0, .slice none 0 0, .slice none 0 0, .slice none 0 0, .slice none 0 0] (fun _ => []) where
  bel := ((Below.refl _ w).alloc (Nat.le_refl _) _).alloc (by simp) _
  bx := by
    have := Row.new (w.alloc (.cells #[.slice none 0 0, .slice none 0 0, .slice none 0 0, .slice none 0 0, .slice none 0 0, .slice none 0 0, .slice none 0 0, .slice none 0 0, .slice none 0 0, .slice none 0 0, .slice none 0 0, .slice none 0 0, .slice none 0 0, .slice none 0 0, .slice none 0 0, .slice none 0 0, .slice none 0 0, .slice none 0 0, .slice none 0 0, .slice none 0 0, .slice none 0 0, .slice none 0 0, .slice none 0 0, .slice none 0 0, .slice none 0 0, .slice none 0 0, .slice none 0 0, .slice none 0 0, .slice none 0 0, .slice none 0 0, .slice none 0 0, .slice none 0 0] 131)) [.slice none 0 0, .slice none 0 0, .slice none 0 0, .slice none 0 0, .slice none 0 0, .slice none 0 0, .slice none 0 0, .slice none 0 0, .slice none 0 0, .slice none 0 0, .slice none 0 0, .slice none 0 0, .slice none 0 0, .slice none 0 0, .slice none 0 0, .slice none 0 0, .slice none 0 0, .slice none 0 0, .slice none 0 0, .slice none 0 0, .slice none 0 0, .slice none 0 0, .slice none 0 0, .slice none 0 0, .slice none 0 0, .slice none 0 0, .slice none 0 0, .slice none 0 0, .slice none 0 0, .slice none 0 0, .slice none 0 0, .slice none 0 0] 131
    rw [World.size_alloc] at this
    exact this
  rs := (Row.new w [.slice none 0 0, .slice none 0 0, .slice none 0 0, .slice none 0 0, .slice none 0 0, .slice none 0 0, .slice none 0 0, .slice none 0 0, .slice none 0 0, .slice none 0 0, .slice none 0 0, .slice none 0 0, .slice none 0 0, .slice none 0 0, .slice none 0 0, .slice none 0 0, .slice none 0 0, .slice none 0 0, .slice none 0 0, .slice none 0 0, .slice none 0 0, .slice none 0 0, .slice none 0 0, .slice none 0 0, .slice none 0 0, .slice none 0 0, .slice none 0 0, .slice none 0 0, .slice none 0 0, .slice none 0 0, .slice none 0 0, .slice none 0 0] 131).alloc _
  len := rfl
  ow e he := by rw [v32_at he]; exact World.ownsRow_nil _ _ _ _
  dj e f he hf hef := by rw [v32_at he]; exact .inl rfl
theorem arr32_size : (Tryz.prog.info? 131).map (·.size) = some 32 := by kernel_rfl
/-- What targets hands back. -/
structure TgV (w' : World) (base : Nat) (vs : List Value) (Ls : Int → List Int) : Prop where
  len : vs.length = 32
  ow : ∀ e : Nat, e < 32 → Own w' base (vs.getD e undef) (Ls (e : Int))
theorem own_one' {w : World} {base : Nat} {v : Value} {zs : List Int} (h : Own w base v zs) : v.oneCell' = true := by
  obtain ⟨A, c, rfl, _⟩ := own_rdc h; rfl
theorem cell_setT {w : World} {b o c p : Nat} {u : Value} (h : b ≠ c) : (w.setCell ⟨c, p, none⟩ u).cell? ⟨b, o, none⟩ = w.cell? ⟨b, o, none⟩ :=
  World.cell?_of_block (Below.heap_setCell w ⟨c, p, none⟩ u b h)
theorem ownsRow_same' {w w' : World} {base sz n : Nat} {e : TypeId} {v : Value} {xs : List Value} (h : w.ownsRow base e sz v n xs) (hk : ∀ g, v.ownBlock = some g → w'.heap[g]? = w.heap[g]?) : w'.ownsRow base e sz v n xs := by
  refine ⟨h.1, ?_⟩
  rcases h.2 with hn | ⟨g, cap, cur, rfl, hb, hg, r⟩
  · exact .inl hn
  · exact .inr ⟨g, cap, cur, rfl, hb, (hk g rfl).trans hg, r⟩
set_option maxHeartbeats 8000000 in
set_option maxRecDepth 100000 in
theorem jTargets_any (bg S : Nat) (a : Au) (A2 : Option Addr) (n2 c2 : Nat) (fr : List Int) (w : World) (hg : RdGr w w.heap.size bg a) (hr : RightW a) (hS : a.st = (S : Int)) (hSb : S ≤ 4096) (hx : RdI w w.heap.size A2 fr) (hn : fr.length = n2) (hnb : n2 ≤ 4096) (hf : ∀ q ∈ fr, 0 ≤ q ∧ q < (S : Int)) (hel : a.ed.length ≤ 1000000) :
    Calls Tryz.prog 90 #[.slice (some ⟨bg, 0, none⟩) S S, .slice A2 n2 c2] w fun e w' => ∃ vs, e = .returned (.agg vs.toArray) ∧ TgV w' w.heap.size vs (tgL a fr) ∧ Below w.heap.size w w' := by
  have HG := Lib.hid hg
  have HW := Lib.hid hr
  have HX := Lib.hid hx
  have HN := Lib.hid hn
  have HF := Lib.hid hf
  have HS := Lib.hid hS
  have HT0 := Lib.hid (tg_start w)
  have HEL := Lib.hid hel
  clear hg hr hx hn hf hS hel
  go_enter Tryz.func90, Tryz.ntmps90
  go_wp2_with fail
  go_loopw [12] (fun iv wr => ∃ (k : Nat) (vs : List Value), k ≤ n2 ∧ iv = .int .i64 k ∧ Hid (TG w wr vs (tgL a (fr.take k)))) (fun i _ => n2 - (intOf i).toNat)
  case atStart => exact ⟨0, _, Nat.zero_le _, rfl, HT0⟩
  case round =>
    clear HT0
    obtain ⟨k, vs, hk, rfl, htg⟩ := hrel
    by_cases hlt : k < n2
    · obtain ⟨b, o, rfl, hb, hc⟩ := HX.out (by rw [HN.out]; omega)
      have hz : k < fr.length := by rw [HN.out]; exact hlt
      have hc1 := (htg.out.bel.cell (p := ⟨b, o + k, none⟩) hb).trans (hc k hz)
      have hqr := HF.out _ (getD_mem hz)
      obtain ⟨q, hq⟩ : ∃ q : Nat, fr.getD k 0 = (q : Int) := ⟨(fr.getD k 0).toNat, by omega⟩
      rw [hq] at hc1 hqr
      have hqS : q < S := by omega
      obtain ⟨vE, hv1, AE, cE, rfl, hrE, hlE, hmE⟩ := HG.out.2 q (by rw [HS.out]; simpa using hqS)
      have cg := (htg.out.bel.cell (p := ⟨bg, q, none⟩) HG.out.1).trans hv1
      obtain ⟨D, hD⟩ : ∃ D, D = (succ a.ed (q : Int)).length := ⟨_, rfl⟩
      rw [← hD] at cg hlE
      have HD := Lib.hid hD
      have HRE := Lib.hid hrE
      have HTK := Lib.hid (show fr.take (k + 1) = fr.take k ++ [(q : Int)] by rw [take_getD hz, hq])
      have z0 : (k : Int) < (n2 : Int) := by omega
      have z1 : (0 : Int) ≤ (k : Int) := by omega
      have z2 : (0 : Int) ≤ (q : Int) := by omega
      have z3 : (q : Int) < (S : Int) := by omega
      clear hc hq hv1 hrE hD hqr hz
      go_wp2_with fail
      go_loopw [21] (fun jv wx => ∃ (t : Nat) (vs : List Value), t ≤ D ∧ jv = .int .i64 t ∧ Hid (TG w wx vs (fun e => tgL a (fr.take k) e ++ (((succ a.ed (q : Int)).take t).filter fun x => decide (x.e = e)).map Ed.t))) (fun jv _ => D - (intOf jv).toNat)
      case atStart => exact ⟨0, vs, Nat.zero_le _, rfl, by simpa [Hid] using htg⟩
      case round =>
        clear htg hc1 cg
        obtain ⟨t, vs, htD, rfl, htg⟩ := hrel
        by_cases h1 : t < D
        · obtain ⟨b2, o2, rfl, hb2, hc2⟩ := HRE.out (by rw [← HD.out]; omega)
          obtain ⟨x, hx⟩ : ∃ x, (succ a.ed (q : Int))[t]? = some x := ⟨_, List.getElem?_eq_getElem (by rw [← HD.out]; exact h1)⟩
          obtain ⟨g1, g2, g3⟩ := hc2 t x hx
          have d1 := (htg.out.bel.cell (p := ⟨b2, o2 + t * 3, none⟩) hb2).trans g1
          have d2 := (htg.out.bel.cell (p := ⟨b2, o2 + t * 3 + 1, none⟩) hb2).trans g2
          have d3 := (htg.out.bel.cell (p := ⟨b2, o2 + t * 3 + 2, none⟩) hb2).trans g3
          have hed := HW.out.edr x (mem_succ.1 (List.mem_of_getElem? hx)).1
          have hev := HW.out.alr _ hed.2.2
          rw [HS.out] at hed
          obtain ⟨e, he⟩ : ∃ e : Nat, x.e = (e : Int) := ⟨x.e.toNat, by omega⟩
          obtain ⟨p, hp⟩ : ∃ p : Int, p = x.t := ⟨_, rfl⟩
          obtain ⟨f, hfv⟩ : ∃ f, f = x.f := ⟨_, rfl⟩
          have he32 : e < 32 := by omega
          rw [← hfv] at d1
          rw [he] at d2
          rw [← hp] at d3
          have HNX := Lib.hid (show (fun e' : Int => if e' = (e : Int) then (tgL a (fr.take k) (e : Int) ++ (((succ a.ed (q : Int)).take t).filter fun x => decide (x.e = (e : Int))).map Ed.t) ++ [p] else tgL a (fr.take k) e' ++ (((succ a.ed (q : Int)).take t).filter fun x => decide (x.e = e')).map Ed.t) = fun e' => tgL a (fr.take k) e' ++ (((succ a.ed (q : Int)).take (t + 1)).filter fun x => decide (x.e = e')).map Ed.t by
            funext e'
            obtain ⟨hl, ex⟩ := List.getElem?_eq_some_iff.1 hx
            rw [List.take_succ_eq_append_getElem hl, ex, List.filter_append, List.map_append]
            by_cases h2 : e' = (e : Int)
            · subst h2; simp [he, hp]
            · rw [if_neg h2]
              have : ¬ x.e = e' := by rw [he]; exact fun h => h2 h.symm
              simp [this])
          have HTG := Lib.hid (htg.out.alloc (.cells #[.int .i64 f, .int .i64 (e : Int), .int .i64 p] 79))
          obtain ⟨ve, hve⟩ : ∃ ve, ve = vs.getD e undef := ⟨_, rfl⟩
          have hvl : e < vs.length := by rw [htg.out.len]; exact he32
          have hown := htg.out.ow e he32
          rw [← hve] at hown
          obtain ⟨Le, hLe⟩ : ∃ L, L = tgL a (fr.take k) (e : Int) ++ (((succ a.ed (q : Int)).take t).filter fun x => decide (x.e = (e : Int))).map Ed.t := ⟨_, rfl⟩
          rw [← hLe] at hown
          have HLE := Lib.hid hLe
          have hLlen : Le.length ≤ 4096 * 1000000 + 1000000 := by
            rw [hLe, List.length_append, List.length_map]
            have l1 := tgL_len a (e : Int) (fr.take k)
            have l2 : (fr.take k).length * a.ed.length ≤ 4096 * 1000000 := Nat.mul_le_mul (by rw [List.length_take]; omega) HEL.out
            have l3 : (((succ a.ed (q : Int)).take t).filter fun x => decide (x.e = (e : Int))).length ≤ 1000000 := Nat.le_trans (List.length_filter_le _ _) (Nat.le_trans (List.length_take_le' _ _) (Nat.le_trans (succ_le a q) HEL.out))
            omega
          have HVE := Lib.hid hve
          have c3 := HTG.out.bx.cell e (v := ve) (by rw [hve, List.getD, List.getElem?_eq_getElem hvl]; rfl)
          have f3 := HTG.out.bx.frozen e
          have HB := Lib.hid (Row.new wr [.int .i64 f, .int .i64 (e : Int), .int .i64 p] 79)
          have p1 := HB.out.cell 1 rfl
          have p2 := HB.out.cell 2 rfl
          have HOW := Lib.hid (show Own _ w.heap.size ve Le from hown.alloc (.cells #[.int .i64 f, .int .i64 (e : Int), .int .i64 p] 79))
          have z4 : (t : Int) < (D : Int) := by omega
          have z5 : (0 : Int) ≤ (t : Int) := by omega
          have z6 : (0 : Int) ≤ (e : Int) := by omega
          have z7 : (e : Int) < 32 := by omega
          clear hx g1 g2 g3 hed hev he hp hfv hc2 hve hown hLe
          obtain ⟨iI, iI0, iI1, iI2, iI3⟩ := info_parts info_int
          have hzz := htg.out.bel.size
          obtain ⟨W1, hW1⟩ : ∃ W, W = wr.alloc (.cells #[.int .i64 f, .int .i64 (e : Int), .int .i64 p] 79) := ⟨_, rfl⟩
          obtain ⟨E, hE⟩ : ∃ E, E = wr.heap.size := ⟨_, rfl⟩
          rw [← hE] at HB p1 p2
          have hEW : E < W1.heap.size := by rw [hW1, hE]; simp
          have hTE : w.heap.size + 1 < E := by rw [hE]; exact htg.out.bx.lt
          have HBD := Lib.hid (show ∀ f : Nat, f < 32 → ∀ g, (vs.getD f undef).ownBlock = some g → g < W1.heap.size from fun f hf g hg => by rw [hW1]; exact ((HTG.out.ow f hf).lt g hg).2)
          rw [← hW1] at HTG c3 f3 HB p1 p2 HOW
          go_wp2_with fail
          rw [← hW1, ← hE]
          clear hW1 hE
          have hneT : some (w.heap.size + 1) ≠ ve.ownBlock := fun e' => row_ne_own HTG.out.bx HOW.out (by decide) e'.symm
          have hneE : some E ≠ ve.ownBlock := fun e' => row_ne_own HB.out HOW.out (by decide) e'.symm
          have hTW : w.heap.size + 1 < W1.heap.size := by omega
          have v3 := fun cs : Array Value => (World.cell?_alloc_lt W1 (.cells cs 3) ⟨w.heap.size + 1, e, none⟩ hTW).trans c3
          have v4 := fun cs : Array Value => (World.cell?_alloc_lt W1 (.cells cs 3) ⟨E, 1, none⟩ hEW).trans p1
          have v5 := fun cs : Array Value => (World.cell?_alloc_lt W1 (.cells cs 3) ⟨E, 2, none⟩ hEW).trans p2
          go_region_law (refine step_append_lies _ (by rfl) (.tmp 30) (.tmp 33) _ (by rfl) w.heap.size 3 iI (.int .i64 0) 1 8 Tryz.underlying27 iI0 iI1 iI2 iI3 rfl (by omega) ve Le.length (Le.map (Value.int .i64)) (by rfl) (by first | exact (HOW.out.alloc _).drew | exact (HOW.out.alloc _)) ⟨W1.heap.size, 0, none⟩ 1 1 [.int .i64 p] (by rfl) (by rfl) (World.news_of_block (cs := #[.int .i64 p]) (t := 3) (fr := (0, 0)) (heap_alloc_new W1 _)) (by simp [Value.oneCell']) (by omega) (by unfold maxLen; omega) (by omega) (by simp; omega) (W1.heap.size + 1) (by simp) ?_; intro gg cap w6 hown6 hgrow hat hlt1; have c6 := far12 hgrow hTW hneT c3; have f6 := far12f hgrow hTW hneT f3; have p6 := far12 hgrow hEW hneE p1; have p7 := far12 hgrow hEW hneE p2)
          all_goals
            have HTG7 := Lib.hid (show TG w (w6.setCell ⟨w.heap.size + 1, e, none⟩ (.slice (some ⟨gg, 0, none⟩) (Le.length + 1) cap)) (vs.set e (.slice (some ⟨gg, 0, none⟩) (Le.length + 1) cap)) (fun e' => tgL a (fr.take k) e' ++ (((succ a.ed (q : Int)).take (t + 1)).filter fun x => decide (x.e = e')).map Ed.t) from by
              rw [← HNX.out, ← HLE.out]
              have h7 : Own w6 w.heap.size (.slice (some ⟨gg, 0, none⟩) (Le.length + 1) cap) (Le ++ [p]) := by simpa [Own] using hown6
              have hgrow' : (W1.alloc (.cells #[.int .i64 p] 3)).grownBy w6 (vs.getD e undef).ownBlock := by
                rw [← HVE.out]
                first | exact hgrow | exact ⟨hgrow.os, hgrow.tape, hgrow.output, hgrow.size, hgrow.block⟩
              have := (HTG.out.alloc (.cells #[.int .i64 p] 3)).push (e := e) (N := W1.heap.size + 1) (x := p) (v' := .slice (some ⟨gg, 0, none⟩) (Le.length + 1) cap) he32 hgrow' (by show Own w6 w.heap.size _ ((tgL a (fr.take k) (e : Int) ++ (((succ a.ed (q : Int)).take t).filter fun x => decide (x.e = (e : Int))).map Ed.t) ++ [p]); rw [← HLE.out]; exact h7) (by
                rw [← HVE.out]
                rcases hat with hat | hat
                · exact .inl (by rw [hat]; rfl)
                · exact .inr (by rw [hat]; rfl)) (fun f hf g hg => Nat.lt_succ_of_lt (HBD.out f hf g hg))
              rw [← HLE.out] at this
              exact this)
            clear hown6 hgrow hat c6 f6 p6 p7
            go_wp2_with fail
            go_roundw
            case rel => exact ⟨t + 1, _, by omega, by go_num, by first | exact HTG7 | exact Lib.hid HTG7.out.drew⟩
            case measure => simp [intOf]; omega
        · obtain rfl : t = D := by omega
          have htg2 := Lib.hid (show TG w wr vs (tgL a (fr.take (k + 1))) from by
            have h1 := htg.out
            rw [HD.out, List.take_length] at h1
            have e1 : tgL a (fr.take (k + 1)) = fun e => tgL a (fr.take k) e ++ ((succ a.ed (q : Int)).filter fun x => decide (x.e = e)).map Ed.t := by
              funext e; rw [HTK.out, tgL_snoc]
            rw [e1]; exact h1)
          clear htg
          go_wp2_with fail
          go_roundw
          case rel => exact ⟨k + 1, vs, by omega, by go_num, htg2⟩
          case measure => simp [intOf]; omega
    · have hF0 : fr.take k = fr := List.take_of_length_le (by rw [HN.out]; omega)
      rw [hF0] at htg
      have hone := Lib.hid (show vs.toArray.all (·.oneCell') = true by
        rw [List.all_toArray, List.all_eq_true]
        intro v hv
        obtain ⟨e, he, rfl⟩ := List.getElem_of_mem hv
        have := own_one' (htg.out.ow e (by rw [← htg.out.len]; exact he))
        rwa [List.getD, List.getElem?_eq_getElem he] at this)
      have hsz := Lib.hid (show (Tryz.prog.info? 131).map (·.size) = some vs.length by rw [arr32_size, htg.out.len])
      have hlen := htg.out.len
      have hrg := Lib.hid (show wr.rangeAt (w.heap.size + 1) 0 vs from fun i v hi => by rw [Nat.zero_add]; exact htg.out.bx.cell i hi)
      have hrs := Lib.hid htg.out.rs
      have hlW := htg.out.rs.lt
      clear hF0
      go_wp2_with (first
        | refine wpList_load_mid rfl 131 (.tmp 5) rfl (w.heap.size + 1) 0 rfl vs _ hrg.out Tryz.underlying131 rfl hsz.out ?_
        | refine wpList_store_row rfl 131 (.tmp 4) (.tmp 38) rfl w.heap.size vs.toArray rfl rfl 131 _ hrs.out (by simpa using hsz.out) (by simp [hlen]) hone.out ?_)
      have hrow2 := setRow_heap wr w.heap.size _ vs.toArray _ _ hrs.out
      have hbel2 := below_setRow htg.out.bel (Nat.le_refl _) vs.toArray
      have how2 : ∀ e : Nat, e < 32 → Own (wr.setRow w.heap.size vs.toArray) w.heap.size (vs.getD e undef) (tgL a fr (e : Int)) := fun e he =>
        ownsRow_same' (htg.out.ow e he) fun g hg => setRow_other wr w.heap.size g _ (fun e' => row_ne_own hrs.out (htg.out.ow e he) (by decide) (by rw [hg, e']))
      refine bodyPost_ret (v := .agg vs.toArray) ?_ rfl ⟨vs, rfl, ⟨hlen, how2⟩, hbel2⟩
      rw [results_cell1 rfl]
      have hld := run_loadVar_mid (P := Tryz.prog) (wr.setRow w.heap.size vs.toArray) w.heap.size 0 131 vs _ (fun i v hi => by rw [Nat.zero_add]; exact Row.cell (show Row _ _ _ _ from hrow2) i hi) Tryz.underlying131 rfl hsz.out
      show ((asAddr (Value.pointer (some ⟨w.heap.size, 0, none⟩))).run Tryz.prog (wr.setRow w.heap.size vs.toArray)).andThen (fun a w₁ => (loadVar 131 a).run Tryz.prog w₁) = _
      simp [asAddr, hld, Result.andThen]
end Go.Proofs.YtaadhpkpekmfoaaGreat

/- Layer 7: contains. -/
namespace Go.Proofs.YtaadhpkpekmfoaaGreat
open Go.RowKit Go.Sort

set_option maxHeartbeats 400000 in
theorem jContains_any (A : Option Addr) (n c Bx : Nat) (zs : List Int) (x : Int) (w : World) (hx : RdI w Bx A zs) (hn : zs.length = n) (hb : n ≤ 140737488355328) (hup : Up zs) :
    Calls Tryz.prog 46 #[.slice A n c, .int .i64 x] w fun e w' => e = .returned (.bool (decide (x ∈ zs))) ∧ w = w' := by
  have H := Lib.hid (fun W (h : RdI W Bx A zs) => search_any A n c Bx zs x W h hn hb hup)
  obtain ⟨v, hv⟩ : ∃ v, v = decide (x ∈ zs) := ⟨_, rfl⟩
  clear hn hup
  go_enter Tryz.func46, Tryz.ntmps46
  go_wp2_with (go_at_call 91; refine (H.out _ hx).mono ?_; rintro e w' ⟨⟨i, _, rfl⟩, rfl⟩)
  go_ret
  exact ⟨rfl, rfl⟩
end Go.Proofs.YtaadhpkpekmfoaaGreat

/- Layer 7: observerOf: an automaton of which some events are seen. -/
namespace Go.Proofs.YtaadhpkpekmfoaaGreat
open Go.RowKit Go.Sort

/-- The cells of an observer. -/
def obL (g k : Value) (ev : List Int) : List Value := g :: k :: flR ev
theorem ob_len (g k : Value) (ev : List Int) : (obL g k ev).length = 34 := by simp [obL, fl_len]
theorem ob_nil : obL (.slice none 0 0) (.slice none 0 0) [] = [.slice none 0 0, .slice none 0 0, .bool false, .bool false, .bool false, .bool false, .bool false, .bool false, .bool false, .bool false, .bool false, .bool false, .bool false, .bool false, .bool false, .bool false, .bool false, .bool false, .bool false, .bool false, .bool false, .bool false, .bool false, .bool false, .bool false, .bool false, .bool false, .bool false, .bool false, .bool false, .bool false, .bool false, .bool false, .bool false] := rfl
theorem obs_size : (Tryz.prog.info? 88).map (·.size) = some 34 := by kernel_rfl
theorem ob_one {g k : Value} {ev : List Int} (hg : g.oneCell' = true) (hk : k.oneCell' = true) : ((obL g k ev).toArray).all (·.oneCell') = true := by
  have := fl_one ev
  rw [List.all_toArray, List.all_eq_true] at this ⊢
  intro x hx
  rcases List.mem_cons.1 hx with rfl | hx
  · exact hg
  · rcases List.mem_cons.1 hx with rfl | hx
    · exact hk
    · exact this x hx
theorem ob_set1 (g k k' : Value) (ev : List Int) : (obL g k ev).set 1 k' = obL g k' ev := rfl
theorem ob_set2 (g k : Value) (ev : List Int) (e : Nat) : (obL g k ev).set (2 + e) (.bool true) = obL g k (ev ++ [(e : Int)]) := by
  rw [Nat.add_comm]
  show g :: k :: ((flR ev).set e (.bool true)) = _
  rw [fl_set]; rfl
theorem ob_at2 (g k : Value) (ev : List Int) {e : Nat} (h : e < 32) : (obL g k ev)[2 + e]? = some (.bool (decide ((e : Int) ∈ ev))) := by
  rw [Nat.add_comm]; exact flR_at ev h
/-- Rows of edges do not lie in a block that holds no number. -/
theorem SlGr.avoid {w w' : World} {B : Nat} {v : Value} {l : List Ed} {g : Nat} {e : TypeId} {cs : List Value} (h : SlGr w B v l) (hr : Row w g e cs) (hn : ∀ u ∈ cs, ∀ x, u ≠ .int .i64 x) (hk : ∀ b, b < B → b ≠ g → w'.heap[b]? = w.heap[b]?) : SlGr w' B v l := by
  obtain ⟨A, c, rfl, h1, h2, h3⟩ := h
  refine ⟨A, c, rfl, fun h0 => ?_, h2, h3⟩
  obtain ⟨b, o, rfl, hb, hc⟩ := h1 h0
  refine ⟨b, o, rfl, hb, fun j x hx => ?_⟩
  have hbg : b ≠ g := by
    rintro rfl
    have h5 := (hc j x hx).1
    have h6 : w.cell? ⟨b, o + j * 3, none⟩ = cs[o + j * 3]? := by
      rw [cell_of_row w b (o + j * 3) cs.toArray e (0, 0) hr]; simp
    rw [h6] at h5
    exact hn _ (List.mem_of_getElem? h5) _ rfl
  have key : ∀ i, w'.cell? ⟨b, i, none⟩ = w.cell? ⟨b, i, none⟩ := fun i => World.cell?_of_block (hk b hb hbg)
  obtain ⟨g1, g2, g3⟩ := hc j x hx
  exact ⟨(key _).trans g1, (key _).trans g2, (key _).trans g3⟩
/-- What observerOf keeps. -/
structure OB (w7 wr : World) (g : Value) (vk : Value) (kp er : List Int) : Prop where
  bel : Below w7.heap.size w7 wr
  ro : Row wr w7.heap.size 88 (obL g vk er)
  kp : Own wr w7.heap.size vk kp
set_option maxHeartbeats 8000000 in
set_option maxRecDepth 100000 in
theorem jObserver_any (A : Option Addr) (n c : Nat) (s : Int) (M : Option Addr) (m d : Nat) (E : Option Addr) (k g : Nat) (A3 : Option Addr) (n3 c3 : Nat) (a : Au) (S : Nat) (onto : List Int) (w : World) (h : AuR w w.heap.size A n c s M m d E k g a) (hr : RightW a) (hS : s = (S : Int)) (hSb : S ≤ 4096) (ho : RdI w w.heap.size A3 onto) (hn : onto.length = n3) (hb3 : n3 ≤ 100000) (hup : Up onto) :
    Calls Tryz.prog 43 #[.agg #[.slice A n c, .int .i64 s, .slice M m d, .slice E k g], .slice A3 n3 c3] w fun e w' => ∃ bg vk, e = .returned (.agg (obL (.slice (some ⟨bg, 0, none⟩) S S) vk (erR a onto)).toArray) ∧ Own w' w.heap.size vk (kpR a onto) ∧ RdGr w' w'.heap.size bg a ∧ Below w.heap.size w w' := by
  subst hS
  have hb1 := ((Below.refl w.heap.size w).alloc (Nat.le_refl _) (.cells #[.slice A n c, .int .i64 (S : Int), .slice M m d, .slice E k g] 33)).alloc (by simp) (.cells #[.slice none 0 0, .slice none 0 0, .bool false, .bool false, .bool false, .bool false, .bool false, .bool false, .bool false, .bool false, .bool false, .bool false, .bool false, .bool false, .bool false, .bool false, .bool false, .bool false, .bool false, .bool false, .bool false, .bool false, .bool false, .bool false, .bool false, .bool false, .bool false, .bool false, .bool false, .bool false, .bool false, .bool false, .bool false, .bool false] 88)
  have HB1 := Lib.hid hb1
  obtain ⟨W1, hW1⟩ : ∃ W, W = (w.alloc (.cells #[.slice A n c, .int .i64 (S : Int), .slice M m d, .slice E k g] 33)).alloc (.cells #[.slice none 0 0, .slice none 0 0, .bool false, .bool false, .bool false, .bool false, .bool false, .bool false, .bool false, .bool false, .bool false, .bool false, .bool false, .bool false, .bool false, .bool false, .bool false, .bool false, .bool false, .bool false, .bool false, .bool false, .bool false, .bool false, .bool false, .bool false, .bool false, .bool false, .bool false, .bool false, .bool false, .bool false, .bool false, .bool false] 88) := ⟨_, rfl⟩
  have HA := Lib.hid (show Row W1 w.heap.size 33 [.slice A n c, .int .i64 (S : Int), .slice M m d, .slice E k g] from by rw [hW1]; exact (Row.new w _ _).alloc _)
  have HR1 := Lib.hid (show Row W1 (w.heap.size + 1) 88 [.slice none 0 0, .slice none 0 0, .bool false, .bool false, .bool false, .bool false, .bool false, .bool false, .bool false, .bool false, .bool false, .bool false, .bool false, .bool false, .bool false, .bool false, .bool false, .bool false, .bool false, .bool false, .bool false, .bool false, .bool false, .bool false, .bool false, .bool false, .bool false, .bool false, .bool false, .bool false, .bool false, .bool false, .bool false, .bool false] from by
    rw [hW1]
    have := Row.new (w.alloc (.cells #[.slice A n c, .int .i64 (S : Int), .slice M m d, .slice E k g] 33)) [.slice none 0 0, .slice none 0 0, .bool false, .bool false, .bool false, .bool false, .bool false, .bool false, .bool false, .bool false, .bool false, .bool false, .bool false, .bool false, .bool false, .bool false, .bool false, .bool false, .bool false, .bool false, .bool false, .bool false, .bool false, .bool false, .bool false, .bool false, .bool false, .bool false, .bool false, .bool false, .bool false, .bool false, .bool false, .bool false] 88
    rw [World.size_alloc] at this; exact this)
  rw [← hW1] at HB1
  have HG := Lib.hid (graphOf_o A n c (S : Int) M m d E k g a S W1 ((h.below HB1.out (Nat.le_refl _)).more HB1.out.size) hr rfl hSb)
  have HH := Lib.hid h
  have HW := Lib.hid hr
  have HO := Lib.hid ho
  have HN := Lib.hid hn
  have HUP := Lib.hid hup
  have q0 := HA.out.cell 0 rfl
  have q1 := HA.out.cell 1 rfl
  have q2 := HA.out.cell 2 rfl
  have q3 := HA.out.cell 3 rfl
  clear h hr ho hn hup hb1
  go_enter Tryz.func43, Tryz.ntmps43
  go_wp2_with fail
  rw [← hW1]
  clear hW1
  go_wp2_with fail
  refine HG.out.mono ?_
  rintro e w7 ⟨bg, rfl, hbg, hgr, hb7, hgo⟩
  have HGO := Lib.hid hgo
  clear hgo
  have HGR := Lib.hid hgr
  have HB7 := Lib.hid (HB1.out.trans (hb7.mono HB1.out.size))
  have HA7 := Lib.hid (HA.out.below hb7 HA.out.lt)
  have HR7 := Lib.hid (HR1.out.below hb7 HR1.out.lt)
  have HLW := Lib.hid HR1.out
  have HBW1 := Lib.hid hb7
  clear hgr hb7 HG HA HR1 q0 q1 q2 q3
  have q0 := HA7.out.cell 0 rfl
  have q1 := HA7.out.cell 1 rfl
  have q2 := HA7.out.cell 2 rfl
  have q3 := HA7.out.cell 3 rfl
  obtain ⟨gv, hgv⟩ : ∃ gv, gv = Value.slice (some ⟨bg, 0, none⟩) S S := ⟨_, rfl⟩
  have hg1 : gv.oneCell' = true := by rw [hgv]; rfl
  have hold := Row.new w7 [.slice none 0 0, .slice none 0 0, .bool false, .bool false, .bool false, .bool false, .bool false, .bool false, .bool false, .bool false, .bool false, .bool false, .bool false, .bool false, .bool false, .bool false, .bool false, .bool false, .bool false, .bool false, .bool false, .bool false, .bool false, .bool false, .bool false, .bool false, .bool false, .bool false, .bool false, .bool false, .bool false, .bool false, .bool false, .bool false] 88
  have hsz := Lib.hid (show (Tryz.prog.info? 88).map (·.size) = some (obL gv (.slice none 0 0) []).toArray.size by rw [obs_size, List.size_toArray, ob_len])
  have hone := Lib.hid (ob_one (g := gv) (k := .slice none 0 0) (ev := []) hg1 rfl)
  have hz34 : (([.slice none 0 0, .slice none 0 0, .bool false, .bool false, .bool false, .bool false, .bool false, .bool false, .bool false, .bool false, .bool false, .bool false, .bool false, .bool false, .bool false, .bool false, .bool false, .bool false, .bool false, .bool false, .bool false, .bool false, .bool false, .bool false, .bool false, .bool false, .bool false, .bool false, .bool false, .bool false, .bool false, .bool false, .bool false, .bool false] : List Value).toArray).size = (obL gv (.slice none 0 0) []).toArray.size := rfl
  obtain ⟨W8, hW8⟩ : ∃ W, W = (w7.alloc (.cells #[.slice none 0 0, .slice none 0 0, .bool false, .bool false, .bool false, .bool false, .bool false, .bool false, .bool false, .bool false, .bool false, .bool false, .bool false, .bool false, .bool false, .bool false, .bool false, .bool false, .bool false, .bool false, .bool false, .bool false, .bool false, .bool false, .bool false, .bool false, .bool false, .bool false, .bool false, .bool false, .bool false, .bool false, .bool false, .bool false] 88)).setRow w7.heap.size (obL gv (.slice none 0 0) []).toArray := ⟨_, rfl⟩
  have hb78 : Below w7.heap.size w7 W8 := by rw [hW8]; exact below_setRow ((Below.refl _ w7).alloc (Nat.le_refl _) _) (Nat.le_refl _) _
  have HOB := Lib.hid (show OB w7 W8 gv (.slice none 0 0) ((a.al.take 0).filter fun x => decide (x ∈ onto)) ((a.al.take 0).filter fun x => !decide (x ∈ onto)) from
    ⟨hb78, by rw [hW8]; exact setRow_heap _ _ _ _ _ _ hold, World.ownsRow_nil _ _ _ _⟩)
  have c0 := (hb78.cell (p := ⟨w.heap.size, 0, none⟩) HA7.out.lt).trans q0
  have HOLD := Lib.hid hold
  rw [hgv] at hsz hone hz34 hW8
  have HGV := Lib.hid hgv
  have HW8 := Lib.hid hW8
  clear hold hb78 hW8 hgv
  go_wp2_with (first | (refine wpList_store_row rfl 88 (.tmp 5) (.tmp 10) rfl w7.heap.size (obL (.slice (some ⟨bg, 0, none⟩) S S) (.slice none 0 0) []).toArray rfl rfl 88 _ HOLD.out hsz.out hz34 hone.out ?_; rw [← HW8.out]))
  have HC0 := Lib.hid c0
  clear HW8 HOLD hsz hone hz34 q0 q1 q2 q3
  go_loopw [14] (fun iv wr => ∃ (t : Nat) (vk : Value), iv = .int .i64 t ∧ t ≤ n ∧ Hid (OB w7 wr gv vk ((a.al.take t).filter fun x => decide (x ∈ onto)) ((a.al.take t).filter fun x => !decide (x ∈ onto)))) (fun i _ => n - (intOf i).toNat)
  case atStart => exact ⟨0, _, rfl, Nat.zero_le _, HOB⟩
  case round =>
    clear HOB c0 HC0
    obtain ⟨t, vk, rfl, htn, hob⟩ := hrel
    have hbn := HH.out.bn
    by_cases hlt : t < n
    · obtain ⟨b, o, rfl, hb, hc⟩ := HH.out.al (by rw [HH.out.hn]; omega)
      have hz : t < a.al.length := by rw [HH.out.hn]; exact hlt
      have hc1 := ((HB7.out.trans (hob.out.bel.mono HB7.out.size)).cell (p := ⟨b, o + t, none⟩) hb).trans (hc t hz)
      have hxr := HW.out.alr _ (getD_mem hz)
      obtain ⟨e, he⟩ : ∃ e : Nat, a.al.getD t 0 = (e : Int) := ⟨(a.al.getD t 0).toNat, by omega⟩
      rw [he] at hc1 hxr
      have he32 : e < 32 := by omega
      have HTK := Lib.hid (show a.al.take (t + 1) = a.al.take t ++ [(e : Int)] by rw [take_getD hz, he])
      have z0 : (t : Int) < (n : Int) := by omega
      have z1 : (0 : Int) ≤ (t : Int) := by omega
      have HCN := Lib.hid (jContains_any A3 n3 c3 w.heap.size onto (e : Int) wr (HO.out.below (HB7.out.trans (hob.out.bel.mono HB7.out.size)) (Nat.le_refl _)) HN.out (by omega) HUP.out)
      clear hc hz he hxr
      go_wp2_with fail
      refine HCN.out.mono ?_
      rintro e1 w9 ⟨rfl, hw9⟩
      subst hw9
      obtain ⟨r, hr⟩ : ∃ r, decide ((e : Int) ∈ onto) = r := ⟨_, rfl⟩
      rw [hr]
      have hz7 := hob.out.bel.size
      cases r
      · have c2 := hob.out.ro.cell (2 + e) (ob_at2 gv vk _ he32)
        have f2 := hob.out.ro.frozen (2 + e)
        have HOB2 := Lib.hid (show OB w7 (wr.setCell ⟨w7.heap.size, 2 + e, none⟩ (.bool true)) gv vk ((a.al.take (t + 1)).filter fun x => decide (x ∈ onto)) ((a.al.take (t + 1)).filter fun x => !decide (x ∈ onto)) from by
          refine ⟨hob.out.bel.setCell (p := ⟨w7.heap.size, 2 + e, none⟩) (Nat.le_refl _) _, ?_, ?_⟩
          · have := hob.out.ro.set (2 + e) (.bool true)
            rw [ob_set2] at this
            rw [HTK.out, List.filter_append]
            simpa [hr] using this
          · rw [HTK.out, List.filter_append]
            have h1 := ownsRow_setCell_other (a := ⟨w7.heap.size, 2 + e, none⟩) hob.out.kp (row_ne_own hob.out.ro hob.out.kp (by decide)) (.bool true)
            simpa [hr, Own] using h1)
        have z2 : (0 : Int) ≤ (e : Int) := by omega
        have z3 : (e : Int) < 32 := by omega
        clear hr HCN
        go_wp2_with fail
        go_roundw
        case rel => exact ⟨t + 1, vk, by go_num, by omega, HOB2⟩
        case measure => simp [intOf]; omega
      · have c1 := hob.out.ro.cell 1 (show (obL gv vk ((a.al.take t).filter fun x => !decide (x ∈ onto)))[1]? = some vk from rfl)
        obtain ⟨iI, iI0, iI1, iI2, iI3⟩ := info_parts info_int
        obtain ⟨kp, hkp⟩ : ∃ kp, kp = (a.al.take t).filter fun x => decide (x ∈ onto) := ⟨_, rfl⟩
        obtain ⟨er, her⟩ : ∃ er, er = (a.al.take t).filter fun x => !decide (x ∈ onto) := ⟨_, rfl⟩
        rw [← hkp, ← her] at hob
        have HKP := Lib.hid (show (a.al.take (t + 1)).filter (fun x => decide (x ∈ onto)) = kp ++ [(e : Int)] ∧ (a.al.take (t + 1)).filter (fun x => !decide (x ∈ onto)) = er by
          rw [HTK.out, List.filter_append, List.filter_append, ← hkp, ← her]; simp [hr])
        have hkl : kp.length ≤ t := by rw [hkp]; exact Nat.le_trans (List.length_filter_le _ _) (by rw [List.length_take]; omega)
        have hne : some w7.heap.size ≠ vk.ownBlock := fun e' => row_ne_own hob.out.ro hob.out.kp (by decide) e'.symm
        clear hkp her hr HCN
        go_wp2_with (at_builtin; refine wpList_append_own _ rfl (.tmp 22) (.tmp 24) 27 rfl w7.heap.size 3 iI (.int .i64 0) 1 8 Tryz.underlying27 iI0 iI1 iI2 iI3 rfl (by omega) vk kp.length (kp.map (Value.int .i64)) rfl (hob.out.kp.alloc _) ⟨wr.heap.size, 0, none⟩ 1 1 [.int .i64 (e : Int)] rfl rfl (World.news_of_block (cs := #[.int .i64 (e : Int)]) (t := 3) (fr := (0, 0)) (heap_alloc_new wr _)) (by simp [Value.oneCell']) (by unfold maxLen; omega) (by omega) (by simp; omega) ?_; intro v4 w4 ho4 hg4 _
                     obtain ⟨A4, c4', hv4⟩ := own_shapeS ho4; subst hv4
                     have hro4 := (hob.out.ro.alloc (.cells #[.int .i64 (e : Int)] 3)).grown hg4 (fun e' => hne e'.symm)
                     have c4 := hro4.cell 1 (show (obL gv vk er)[1]? = some vk from rfl)
                     have f4 := hro4.frozen 1
                     have HO4 := Lib.hid ho4; have HG4 := Lib.hid hg4; have HR4 := Lib.hid hro4
                     clear ho4 hg4 hro4)
        go_roundw
        case rel =>
          refine ⟨t + 1, .slice A4 (kp.length + 1) c4', by go_num, by omega, ?_⟩
          rw [HKP.out.1, HKP.out.2]
          have h5 : Own w4 w7.heap.size (.slice A4 (kp.length + 1) c4') (kp ++ [(e : Int)]) := by simpa [Own] using HO4.out
          refine Lib.hid ⟨?_, ?_, ?_⟩
          · exact ((hob.out.bel.alloc hz7 _).grown HG4.out (by simp; omega) (fun j hj => (hob.out.kp.lt j hj).1)).setCell (p := ⟨w7.heap.size, 1, none⟩) (Nat.le_refl _) _
          · have := HR4.out.set 1 (.slice A4 (kp.length + 1) c4')
            rwa [ob_set1] at this
          · exact ownsRow_setCell_other (a := ⟨w7.heap.size, 1, none⟩) h5 (row_ne_own HR4.out h5 (by decide)) _
        case measure => simp [intOf]; omega
    · obtain rfl : t = n := by omega
      have hF0 : a.al.take t = a.al := List.take_of_length_le (by rw [HH.out.hn]; exact Nat.le_refl _)
      rw [hF0] at hob
      have hko := Lib.hid (show Own wr w7.heap.size vk (kpR a onto) from hob.out.kp)
      have hro := Lib.hid (show Row wr w7.heap.size 88 (obL gv vk (erR a onto)) from hob.out.ro)
      have HBW := Lib.hid hob.out.bel
      have hR2 := Lib.hid (HR7.out.below HBW.out HR7.out.lt)
      have hrg := Lib.hid (show wr.rangeAt w7.heap.size 0 (obL gv vk (erR a onto)) from fun i v hi => by rw [Nat.zero_add]; exact hro.out.cell i hi)
      have hsz := Lib.hid (show (Tryz.prog.info? 88).map (·.size) = some (obL gv vk (erR a onto)).length by rw [obs_size, ob_len])
      have hone := Lib.hid (ob_one (g := gv) (k := vk) (ev := erR a onto) hg1 (own_one' hko.out))
      have hz34 : (([.slice none 0 0, .slice none 0 0, .bool false, .bool false, .bool false, .bool false, .bool false, .bool false, .bool false, .bool false, .bool false, .bool false, .bool false, .bool false, .bool false, .bool false, .bool false, .bool false, .bool false, .bool false, .bool false, .bool false, .bool false, .bool false, .bool false, .bool false, .bool false, .bool false, .bool false, .bool false, .bool false, .bool false, .bool false, .bool false] : List Value).toArray).size = (obL gv vk (erR a onto)).toArray.size := by rw [List.size_toArray, List.size_toArray, ob_len]; rfl
      clear hF0 hob
      go_wp2_with (first
        | refine wpList_load_mid rfl 88 (.tmp 5) rfl w7.heap.size 0 rfl (obL gv vk (erR a onto)) _ hrg.out Tryz.underlying88 rfl hsz.out ?_
        | refine wpList_store_row rfl 88 (.tmp 4) (.tmp 31) rfl (w.heap.size + 1) (obL gv vk (erR a onto)).toArray rfl rfl 88 _ hR2.out (by simpa using hsz.out) hz34 hone.out ?_)
      have hgv := HGV.out
      clear HGV
      subst hgv
      have hrow2 := setRow_heap wr (w.heap.size + 1) _ (obL (.slice (some ⟨bg, 0, none⟩) S S) vk (erR a onto)).toArray _ _ hR2.out
      have hz1 := HB7.out.size
      have hbel2 : Below w.heap.size w (wr.setRow (w.heap.size + 1) (obL (.slice (some ⟨bg, 0, none⟩) S S) vk (erR a onto)).toArray) := below_setRow (HB7.out.trans (HBW.out.mono hz1)) (by omega) _
      have hlt1 := HR7.out.lt
      refine bodyPost_ret (v := .agg (obL (.slice (some ⟨bg, 0, none⟩) S S) vk (erR a onto)).toArray) ?_ rfl ⟨bg, vk, rfl, ?_, ?_, hbel2⟩
      · rw [results_cell1 rfl]
        have hld := run_loadVar_mid (P := Tryz.prog) (wr.setRow (w.heap.size + 1) (obL (.slice (some ⟨bg, 0, none⟩) S S) vk (erR a onto)).toArray) (w.heap.size + 1) 0 88 (obL (.slice (some ⟨bg, 0, none⟩) S S) vk (erR a onto)) _ (fun i v hi => by rw [Nat.zero_add]; exact Row.cell (show Row _ _ _ _ from hrow2) i hi) Tryz.underlying88 rfl hsz.out
        show ((asAddr (Value.pointer (some ⟨w.heap.size + 1, 0, none⟩))).run Tryz.prog (wr.setRow (w.heap.size + 1) (obL (.slice (some ⟨bg, 0, none⟩) S S) vk (erR a onto)).toArray)).andThen (fun a w₁ => (loadVar 88 a).run Tryz.prog w₁) = _
        simp [asAddr, hld, Result.andThen]
      · exact own_more (ownsRow_same' hko.out fun g hg => setRow_other wr (w.heap.size + 1) g _ (fun e' => row_ne_own hR2.out hko.out (by decide) (by rw [hg, e']))) hz1
      · have hb8 := HBW.out
        have hz2 := hb8.size
        have hz3 := HBW1.out.size
        have hz4 := HLW.out.lt
        have hbl := HGR.out.1
        have hall : ∀ q, q < w7.heap.size → q ≠ w.heap.size + 1 → (wr.setRow (w.heap.size + 1) (obL (.slice (some ⟨bg, 0, none⟩) S S) vk (erR a onto)).toArray).heap[q]? = w7.heap[q]? := fun q hq hq2 => (setRow_other wr (w.heap.size + 1) q _ hq2).trans (hb8.block q hq)
        refine ⟨by simp; omega, fun q hq => ?_⟩
        obtain ⟨v, k1, k2⟩ := HGO.out q hq
        have k3 := k2.avoid HLW.out (w' := wr.setRow (w.heap.size + 1) (obL (.slice (some ⟨bg, 0, none⟩) S S) vk (erR a onto)).toArray) (by
          intro u hu x
          simp only [List.mem_cons, List.not_mem_nil, or_false] at hu
          rcases hu with rfl | hu
          · simp
          · rcases hu with rfl | hu
            · simp
            · have : u = .bool false := by simpa using hu
              rw [this]; simp) (fun b hb hb2 => (hall b (by omega) hb2).trans (HBW1.out.block b hb))
        obtain ⟨A5, c5, rfl, k4, k5, k6⟩ := k3
        exact ⟨_, (World.cell?_of_block (hall bg (by omega) (by omega))).trans k1, A5, c5, rfl, k4.more (by simp; omega), k5, k6⟩
end Go.Proofs.YtaadhpkpekmfoaaGreat

/- Layer 7: first, next: the estimates. -/
namespace Go.Proofs.YtaadhpkpekmfoaaGreat
open Go.RowKit Go.Sort

theorem sub_len {n : Nat} {s : List Int} (h : SubOk n s) : s.length ≤ n := nodup_len (h.1.imp fun h => by omega) h.2
/-- The box of an observer. -/
theorem ob_box (w : World) (gv vk : Value) (er : List Int) : Row (w.alloc (.cells (obL gv vk er).toArray 88)) w.heap.size 88 (obL gv vk er) := Row.new w _ _
theorem ob_flags {w : World} {b : Nat} {gv vk : Value} {er : List Int} (h : Row w b 88 (obL gv vk er)) : w.rangeAt b 2 (flR er) := fun i v hi => by
  refine h.cell (2 + i) ?_
  rw [Nat.add_comm]; exact hi
theorem reR_zero {a : Au} {ev : List Int} (h : ∀ q ∈ ([0] : List Int), 0 ≤ q ∧ q < a.st) : fsR a ev = reR a (erR a ev) [0] := by
  unfold fsR; rw [if_neg]; have := h 0 (by simp); omega
set_option maxHeartbeats 8000000 in
set_option maxRecDepth 100000 in
theorem jFirst_any (bg S : Nat) (a : Au) (onto : List Int) (vk : Value) (w : World) (hg : RdGr w w.heap.size bg a) (hr : RightW a) (hS : a.st = (S : Int)) (hSb : S ≤ 4096) :
    Calls Tryz.prog 62 #[.agg (obL (.slice (some ⟨bg, 0, none⟩) S S) vk (erR a onto)).toArray] w fun e w' => ∃ v, e = .returned v ∧ Own w' w.heap.size v (fsR a onto) ∧ Below w.heap.size w w' := by
  have HG := Lib.hid hg
  have HW := Lib.hid hr
  have HS := Lib.hid hS
  have hbox := ob_box w (.slice (some ⟨bg, 0, none⟩) S S) vk (erR a onto)
  have HB := Lib.hid hbox
  have c0 := hbox.cell 0 (show (obL (.slice (some ⟨bg, 0, none⟩) S S) vk (erR a onto))[0]? = some (.slice (some ⟨bg, 0, none⟩) S S) from rfl)
  have hB1 := (Below.refl w.heap.size w).alloc (Nat.le_refl _) (.cells (obL (.slice (some ⟨bg, 0, none⟩) S S) vk (erR a onto)).toArray 88)
  have HB1 := Lib.hid hB1
  obtain ⟨er, her⟩ : ∃ er, er = erR a onto := ⟨_, rfl⟩
  by_cases h0 : S = 0
  · subst h0
    have hfs : fsR a onto = [] := by unfold fsR; rw [if_pos (by rw [hS]; rfl)]
    have HFS := Lib.hid hfs
    clear hg hr hS hbox hB1 hfs her
    go_enter Tryz.func62, Tryz.ntmps62
    go_wp2_with fail
    go_ret
    exact ⟨_, rfl, by rw [HFS.out]; exact World.ownsRow_nil _ _ _ _, HB1.out⟩
  · have hz : ((S : Int) == 0) = false := by simp; omega
    have hfr : ∀ q ∈ ([0] : List Int), 0 ≤ q ∧ q < (S : Int) := fun q hq => by rw [List.mem_singleton.1 hq]; omega
    have HFS := Lib.hid (reR_zero (ev := onto) (show ∀ q ∈ ([0] : List Int), 0 ≤ q ∧ q < a.st by rw [hS]; exact hfr))
    have hrg := Lib.hid (ob_flags hbox)
    have hsz := Lib.hid (show (Tryz.prog.info? 86).map (·.size) = some (flR (erR a onto)).length by rw [flags_size, fl_len])
    have hrg2 := Lib.hid (fun (cs : Array Value) (ty : TypeId) => ob_flags (hbox.alloc (.cells cs ty)))
    have HFR := Lib.hid hfr
    have hlt := hbox.lt
    have c02 := fun (cs : Array Value) (ty : TypeId) => (hbox.alloc (.cells cs ty)).cell 0 (show (obL (.slice (some ⟨bg, 0, none⟩) S S) vk (erR a onto))[0]? = some (.slice (some ⟨bg, 0, none⟩) S S) from rfl)
    have hB2 : Below w.heap.size w ((w.alloc (.cells (obL (.slice (some ⟨bg, 0, none⟩) S S) vk (erR a onto)).toArray 88)).alloc (.cells #[.int .i64 0] 3)) := HB1.out.alloc HB1.out.size _
    have HSP := Lib.hid (jSpread_any bg S a (some ⟨w.heap.size + 1, 0, none⟩) 1 1 [0] (erR a onto) ((w.alloc (.cells (obL (.slice (some ⟨bg, 0, none⟩) S S) vk (erR a onto)).toArray 88)).alloc (.cells #[.int .i64 0] 3)) ⟨Nat.lt_of_lt_of_le hg.1 hB2.size, fun q hq => by
        obtain ⟨v, k1, A5, c5, e5, k2, k3, k4⟩ := hg.2 q hq
        exact ⟨v, (hB2.cell (p := ⟨bg, q, none⟩) hg.1).trans k1, A5, c5, e5, (k2.below hB2 (Nat.le_refl _)).more hB2.size, k3, k4⟩⟩ hr hS hSb (by have := Row.rd (zs := [0]) (Row.new (w.alloc (.cells (obL (.slice (some ⟨bg, 0, none⟩) S S) vk (erR a onto)).toArray 88)) [.int .i64 0] 3); simpa only [World.size_alloc] using this) rfl (by omega) hfr)
    have HB2 := Lib.hid hB2
    clear hg hr hS hbox hB1 hfr hB2 her
    go_enter Tryz.func62, Tryz.ntmps62
    go_wp2_with (first | refine wpList_load_mid rfl 86 (.tmp 10) rfl w.heap.size 2 rfl (flR (erR a onto)) _ (hrg2.out _ _) Tryz.underlying86 rfl hsz.out ?_)
    refine HSP.out.mono ?_
    rintro e w2 ⟨v, rfl, ho, hb2⟩
    have HO2 := Lib.hid (own_more ho HB2.out.size)
    have HB3 := Lib.hid (HB2.out.trans (hb2.mono HB2.out.size))
    clear ho hb2
    go_wp2_with fail
    go_ret
    exact ⟨v, rfl, by rw [HFS.out]; exact HO2.out, HB3.out⟩
theorem rangeAt_below {w w' : World} {b o : Nat} {cs : List Value} (h : w.rangeAt b o cs) (hb : Below w.heap.size w w') (hl : b < w.heap.size) : w'.rangeAt b o cs := fun i v hi => (hb.cell (p := ⟨b, o + i, none⟩) hl).trans (h i v hi)
set_option maxRecDepth 100000 in
theorem index32 {vs : List Value} (hl : vs.length = 32) {e : Nat} (he : e < 32) {A : Option Addr} {n c : Nat} (hv : vs[e]? = some (.slice A n c)) (W : World) : (Instr.index 131 (.agg vs.toArray) (.int .i64 (e : Int))).run Tryz.prog W = .ok (.slice A n c) W := by
  obtain ⟨i0, hi, hz0, hz1, hz2⟩ := info_parts info_ints
  simp [Instr.index, asIntOf, run_underlying Tryz.underlying131, sizeOf, typeInfo, hi, hz1, he, part, hv]
/-- What an observer's graph is behind further memory. -/
theorem RdGr.keep {w w' : World} {bg : Nat} {a : Au} (h : RdGr w w.heap.size bg a) (hb : Below w.heap.size w w') : RdGr w' w'.heap.size bg a :=
  ⟨Nat.lt_of_lt_of_le h.1 hb.size, fun q hq => by
    obtain ⟨v, k1, A5, c5, e5, k2, k3, k4⟩ := h.2 q hq
    exact ⟨v, (hb.cell (p := ⟨bg, q, none⟩) h.1).trans k1, A5, c5, e5, (k2.below hb (Nat.le_refl _)).more hb.size, k3, k4⟩⟩
set_option maxHeartbeats 8000000 in
set_option maxRecDepth 100000 in
theorem jNext_any (bg S : Nat) (a : Au) (onto : List Int) (vk : Value) (A2 : Option Addr) (n2 c2 : Nat) (fr : List Int) (e : Nat) (w : World) (hg : RdGr w w.heap.size bg a) (hr : RightW a) (hS : a.st = (S : Int)) (hSb : S ≤ 4096) (hel : a.ed.length ≤ 1000000) (hx : RdI w w.heap.size A2 fr) (hn : fr.length = n2) (hnb : n2 ≤ 4096) (hf : ∀ q ∈ fr, 0 ≤ q ∧ q < (S : Int)) (he : e < 32) (hbs : (tgL a fr (e : Int)).length ≤ 1000000) :
    Calls Tryz.prog 60 #[.agg (obL (.slice (some ⟨bg, 0, none⟩) S S) vk (erR a onto)).toArray, .slice A2 n2 c2, .int .i64 (e : Int)] w fun r w' => ∃ v, r = .returned v ∧ Own w' w.heap.size v (nxR a onto fr (e : Int)) ∧ Below w.heap.size w w' := by
  have HG := Lib.hid hg
  have HW := Lib.hid hr
  have HS := Lib.hid hS
  have HF := Lib.hid hf
  have HBS := Lib.hid hbs
  have hbox := ob_box w (.slice (some ⟨bg, 0, none⟩) S S) vk (erR a onto)
  have HB := Lib.hid hbox
  have hB1 := (Below.refl w.heap.size w).alloc (Nat.le_refl _) (.cells (obL (.slice (some ⟨bg, 0, none⟩) S S) vk (erR a onto)).toArray 88)
  have HB1 := Lib.hid hB1
  have HTG := Lib.hid (fun W (hW : Below w.heap.size w W) => jTargets_any bg S a A2 n2 c2 fr W (hg.keep hW) hr hS hSb ((hx.below hW (Nat.le_refl _)).more hW.size) hn hnb hf hel)
  have HGK := Lib.hid (fun W (hW : Below w.heap.size w W) => hg.keep hW)
  have hrg := ob_flags hbox
  have hul := Tryz.underlying86
  have hsz : (Tryz.prog.info? 86).map (·.size) = some (flR (erR a onto)).length := by rw [flags_size, fl_len]
  have c0 := hbox.cell 0 (show (obL (.slice (some ⟨bg, 0, none⟩) S S) vk (erR a onto))[0]? = some (.slice (some ⟨bg, 0, none⟩) S S) from rfl)
  have hlt := hbox.lt
  clear hg hr hS hf hbs hbox hB1 hx hn
  have z0 : (0 : Int) ≤ (e : Int) := by omega
  have z1 : (e : Int) < 32 := by omega
  go_enter Tryz.func60, Tryz.ntmps60
  go_wp2_with fail
  go_region_held3 (fun w' => w'.cell? ⟨w.heap.size, 0, none⟩ = some (.slice (some ⟨bg, 0, none⟩) S S) ∧ w'.rangeAt w.heap.size 2 (flR (erR a onto))) (first | exact ⟨c0, hrg⟩ | exact ⟨d0, drg⟩ | exact ⟨(hb3.cell (p := ⟨w.heap.size, 0, none⟩) hltw2).trans d0, rangeAt_below drg hb3 hltw2⟩)
    (first
    | (go_simp; go_at_call 90; refine (HTG.out _ (by first | exact HB1.out | exact HB1.out.drew)).mono ?_; rintro r w2 ⟨vs, rfl, htv, hb2⟩
       have HTV := Lib.hid htv
       have HB2 := Lib.hid (show Below w.heap.size w w2 from by first | exact HB1.out.trans (hb2.mono HB1.out.size) | exact HB1.out.drew.trans (hb2.mono HB1.out.drew.size))
       have hb2' : Row w2 w.heap.size 88 (obL (.slice (some ⟨bg, 0, none⟩) S S) vk (erR a onto)) := by first | exact HB.out.below hb2 hlt | exact (show Row _ _ _ _ from HB.out.drewN 1).below hb2 hlt
       have d0 := hb2'.cell 0 (show (obL (.slice (some ⟨bg, 0, none⟩) S S) vk (erR a onto))[0]? = some (.slice (some ⟨bg, 0, none⟩) S S) from rfl)
       have drg := ob_flags hb2'
       have hltw2 := hb2'.lt
       obtain ⟨A5, c5, hv5, hr5, hc5, hm5⟩ := own_rdc (htv.ow e he)
       have hvs : vs[e]? = some (.slice A5 (tgL a fr (e : Int)).length c5) := by
         rw [← hv5, List.getD, List.getElem?_eq_getElem (by rw [htv.len]; exact he)]; rfl
       have HR5 := Lib.hid hr5
       have hvl := htv.len
       have hix := fun W => index32 hvl he hvs W
       have HSP := Lib.hid (fun (q : Nat) => jSpread_any bg S a A5 (tgL a fr (e : Int)).length c5 (tgL a fr (e : Int)) (erR a onto) (w2.drewN q) (HGK.out _ (below_drewN HB2.out q)) HW.out HS.out hSb (hr5.dr q) rfl HBS.out (fun x hx => by have := tgR_range HW.out x (mem_tgL.1 hx); rw [HS.out] at this; exact this))
       clear htv hb2 hb2' hr5 hv5)
    | (go_simp; go_at_call 56; first | refine (HSP.out 0).mono ?_ | refine (HSP.out 1).mono ?_
       all_goals (rintro r w3 ⟨v, rfl, ho, hb3⟩)))
  have HO3 := Lib.hid (own_more ho HB2.out.size)
  have HB3 := Lib.hid (HB2.out.trans (hb3.mono HB2.out.size))
  clear ho hb3
  go_wp2_with fail
  go_ret
  exact ⟨v, rfl, by rw [← nx_tgL HW.out]; exact HO3.out, HB3.out⟩
end Go.Proofs.YtaadhpkpekmfoaaGreat
