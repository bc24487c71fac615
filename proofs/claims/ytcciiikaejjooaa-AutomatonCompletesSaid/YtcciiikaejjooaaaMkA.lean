/- Layer 3: Events of the law's sets; Make of the law's package. -/
import Derived.Test.YtcciiikaejjooaaaEn
import Derived.Test.YtcciiikaejjooaaaRCan
import Derived.Test.YtcciiikaejjooaaaIso
namespace Go.Proofs.Ytcciiikaejjooaa

section
open Go.RowKit Go.Sort
/-- Some events below n, in increasing order. -/
structure Ev5 (n : Int) (zs : List Int) : Prop where
  r : ∀ x ∈ zs, 0 ≤ x ∧ x < n
  o : zs.Pairwise (· < ·)
theorem Ev5.nil (n : Int) : Ev5 n [] := ⟨by simp, List.Pairwise.nil⟩
theorem Ev5.more {n : Int} {zs : List Int} (h : Ev5 n zs) : Ev5 (n + 1) zs := ⟨fun x hx => by have := h.r x hx; omega, h.o⟩
theorem Ev5.snoc {n : Int} {zs : List Int} (h : Ev5 n zs) (h0 : 0 ≤ n) : Ev5 (n + 1) (zs ++ [n]) :=
  ⟨fun x hx => by
    rcases List.mem_append.1 hx with hx | hx
    · have := h.r x hx; omega
    · simp at hx; subst hx; omega,
   List.pairwise_append.2 ⟨h.o, by simp, fun x hx y hy => by simp at hy; subst hy; exact (h.r x hx).2⟩⟩
theorem Ev5.len {n : Nat} {zs : List Int} (h : Ev5 (n : Int) zs) : zs.length ≤ n := nodup_len (lt_nodup h.o) h.r

set_option maxHeartbeats 2000000 in
set_option maxRecDepth 100000 in
theorem events_any (x : Int) (w : World) (hx : (Lit.int .u8 x).wf = true) :
    Calls Try.prog 33 #[.int .u8 x] w fun e w' => ∃ zs, Ev5 5 zs ∧ GivesC w zs e w' := by
  obtain ⟨i0, hi, hz0, hz1, hz2⟩ := info_parts info_int
  go_enter Try.func33, Try.ntmps33
  go_wp2_with fail
  go_loopw [3, 4] (fun v i wr => ∃ (t : Nat) (zs : List Int), t ≤ 5 ∧ i = .int .i64 t ∧ Hid (Ev5 (t : Int) zs) ∧ Hid (FP w v zs wr)) (fun _ i _ => 5 - (intOf i).toNat)
  case atStart => exact ⟨0, [], Nat.zero_le _, rfl, Ev5.nil _, ⟨Below.refl _ _, World.ownsRow_nil _ _ _ _⟩⟩
  case round =>
    obtain ⟨t, zs, ht5, rfl, hev, hfp⟩ := hrel
    by_cases hlt : t < 5
    · have hl := hev.out.len
      have z0 : (0 : Int) ≤ (t : Int) := by omega
      have hsz := hfp.out.bel.size
      have hm := Lib.hid (hev.out.more)
      have hs := Lib.hid (hev.out.snoc (by omega))
      go_upto_if 13 with fail
      generalize (bits BinOp.and IntKind.u8 (x / 2 ^ t) 1 == 1) = cb
      cases cb
      · go_wp2_with fail
        go_roundw
        case rel => exact ⟨t + 1, zs, by omega, by go_num, by simpa using hm, hfp⟩
        case measure => simp [intOf]; omega
      · go_wp2_with (at_builtin; refine wpList_append_own _ rfl _ _ 22 rfl w.heap.size 3 i0 (.int .i64 0) 1 8 Try.underlying22 hi hz0 hz1 hz2 rfl (by decide) _ _ _ rfl (hfp.out.ow.alloc _) ⟨wr.heap.size, 0, none⟩ 1 1 [.int .i64 (t : Int)] rfl rfl (news_one (by simp)) (by intro u hu; simp at hu; subst hu; rfl) (by unfold maxLen; omega) (by omega) (by simp; omega) ?_)
        intro v5 w5 hown5 hgrow5 _
        have hO5 := own_app (K' := zs ++ [(t : Int)]) rfl hfp.out.bel hfp.out.ow hown5 hgrow5 (Nat.le_refl _)
        have hF6 := Lib.hid (show FP w v5 (zs ++ [(t : Int)]) w5 from ⟨hO5.2, hO5.1⟩)
        clear hown5 hgrow5 hO5
        go_wp2_with fail
        go_roundw
        case rel => exact ⟨t + 1, zs ++ [(t : Int)], by omega, by go_num, by simpa using hs, hF6⟩
        case measure => simp [intOf]; omega
    · obtain rfl : t = 5 := by omega
      obtain ⟨A', c', rfl, hrd, hc1, hc2⟩ := own_rdc hfp.out.ow
      have HRD := Lib.hid hrd
      have HF := Lib.hid hfp.out
      clear hfp hrd
      go_wp2_with fail
      go_ret
      exact ⟨zs, hev.out, A', c', rfl, HRD.out, HF.out.bel, hc1, hc2⟩
end

section
open Go.RowKit Go.Sort
/-- The cells of a graph. -/
structure GrC (cs : Array Value) : Prop where
  sz : cs.size = 27
  ce : ∀ i : Nat, i < 27 → ∃ x : Int, cs[i]? = some (.int .u8 x) ∧ 0 ≤ x ∧ x < 256
/-- What the law's automata are. -/
structure OkM (al : List Int) (a : Au) : Prop where
  r : Right a
  c : canA a = a
  al : a.al = al
  st : a.st ≤ 5
/-- The edges that are made: those of the states before t, and those of t by the first k events. -/
structure EdI (S : Nat) (al : List Int) (t k : Nat) (es : List Ed) : Prop where
  r : ∀ x ∈ es, 0 ≤ x.f ∧ (x.f < (t : Int) ∨ x.f = (t : Int) ∧ x.e ∈ al.take k) ∧ 0 ≤ x.t ∧ x.t < (S : Int) ∧ x.e ∈ al
  o : es.Pairwise ltE
  l : es.length ≤ t * 5 + k
theorem EdI.nil (S : Nat) (al : List Int) : EdI S al 0 0 [] := ⟨by simp, List.Pairwise.nil, by simp⟩
theorem EdI.more {S : Nat} {al : List Int} {t k : Nat} {es : List Ed} (h : EdI S al t k es) (hk : k < al.length) : EdI S al t (k + 1) es :=
  ⟨fun x hx => by
    obtain ⟨h1, h2, h3⟩ := h.r x hx
    refine ⟨h1, h2.imp id fun h => ⟨h.1, (mem_snoc_take hk).2 (.inl h.2)⟩, h3⟩, h.o, by have := h.l; omega⟩
theorem EdI.snoc {S : Nat} {al : List Int} {t k : Nat} {es : List Ed} (h : EdI S al t k es) (hk : k < al.length) (ho : al.Pairwise (· < ·)) {u : Int} (h0 : 0 ≤ u) (h1 : u < (S : Int)) : EdI S al t (k + 1) (es ++ [⟨(t : Int), al.getD k 0, u⟩]) :=
  ⟨fun x hx => by
    rcases List.mem_append.1 hx with hx | hx
    · exact (h.more hk).r x hx
    · rw [List.mem_singleton] at hx; subst hx
      exact ⟨by simp, .inr ⟨rfl, (mem_snoc_take hk).2 (.inr rfl)⟩, h0, h1, getD_mem hk⟩,
   List.pairwise_append.2 ⟨h.o, by simp, fun x hx y hy => by
    rw [List.mem_singleton] at hy; subst hy
    rcases (h.r x hx).2.1 with h2 | ⟨h2, h3⟩
    · exact .inl h2
    · refine .inr ⟨h2, ?_⟩
      obtain ⟨i, hi, he⟩ := mem_getD h3
      rw [List.length_take] at hi
      have h4 := up_of ho i k (by omega) hk
      have h5 : (al.take k).getD i 0 = al.getD i 0 := by simp [List.getD, show i < k by omega]
      show x.e < al.getD k 0
      rw [← he, h5]; exact h4⟩, by have := h.l; rw [List.length_append]; simp; omega⟩
theorem EdI.next {S : Nat} {al : List Int} {t k : Nat} {es : List Ed} (h : EdI S al t k es) (hk : k ≤ 5) : EdI S al (t + 1) 0 es :=
  ⟨fun x hx => by
    obtain ⟨h1, h2, h3⟩ := h.r x hx
    exact ⟨h1, .inl (by rcases h2 with h2 | h2 <;> omega), h3⟩, h.o, by have := h.l; omega⟩
theorem far1 {w w6 : World} {cs : Array Value} {T : TypeId} {row : Option Nat} {b o : Nat} {v : Value} (h : (w.alloc (.cells cs T)).grownBy w6 row) (hlt : b < w.heap.size) (hne : some b ≠ row) (hc : w.cell? ⟨b, o, none⟩ = some v) : w6.cell? ⟨b, o, none⟩ = some v :=
  (h.cell_far ⟨b, o, none⟩ (by simp; omega) hne).trans ((World.cell?_alloc_lt w _ ⟨b, o, none⟩ hlt).trans hc)
theorem far2 {w w6 : World} {cs : Array Value} {T : TypeId} {row : Option Nat} {b o : Nat} {v : Value} (h : (w.alloc (.cells cs T)).drew.grownBy w6 row) (hlt : b < w.heap.size) (hne : some b ≠ row) (hc : w.cell? ⟨b, o, none⟩ = some v) : w6.cell? ⟨b, o, none⟩ = some v :=
  (h.cell_far ⟨b, o, none⟩ (by simp; omega) hne).trans ((World.cell?_alloc_lt w _ ⟨b, o, none⟩ hlt).trans hc)
theorem far1f {w w6 : World} {cs : Array Value} {T : TypeId} {row : Option Nat} {b o : Nat} (h : (w.alloc (.cells cs T)).grownBy w6 row) (hlt : b < w.heap.size) (hne : some b ≠ row) (hc : w.frozen? ⟨b, o, none⟩ = false) : w6.frozen? ⟨b, o, none⟩ = false :=
  (h.frozen_far ⟨b, o, none⟩ (by simp; omega) hne).trans ((frozen?_alloc_cells w cs T ⟨b, o, none⟩).trans hc)
theorem far2f {w w6 : World} {cs : Array Value} {T : TypeId} {row : Option Nat} {b o : Nat} (h : (w.alloc (.cells cs T)).drew.grownBy w6 row) (hlt : b < w.heap.size) (hne : some b ≠ row) (hc : w.frozen? ⟨b, o, none⟩ = false) : w6.frozen? ⟨b, o, none⟩ = false :=
  (h.frozen_far ⟨b, o, none⟩ (by simp; omega) hne).trans ((frozen?_alloc_cells w cs T ⟨b, o, none⟩).trans hc)
theorem far12 {w w5 w6 : World} {cs : Array Value} {T : TypeId} {row : Option Nat} {b o : Nat} {v : Value} (h : w5.grownBy w6 row) (hlt : b < w.heap.size) (hne : some b ≠ row) (hc : w.cell? ⟨b, o, none⟩ = some v) (h5 : w5 = w.alloc (.cells cs T) ∨ w5 = (w.alloc (.cells cs T)).drew := by first | exact .inl rfl | exact .inr rfl) : w6.cell? ⟨b, o, none⟩ = some v := by
  rcases h5 with rfl | rfl
  · exact far1 h hlt hne hc
  · exact far2 h hlt hne hc
theorem far12f {w w5 w6 : World} {cs : Array Value} {T : TypeId} {row : Option Nat} {b o : Nat} (h : w5.grownBy w6 row) (hlt : b < w.heap.size) (hne : some b ≠ row) (hc : w.frozen? ⟨b, o, none⟩ = false) (h5 : w5 = w.alloc (.cells cs T) ∨ w5 = (w.alloc (.cells cs T)).drew := by first | exact .inl rfl | exact .inr rfl) : w6.frozen? ⟨b, o, none⟩ = false := by
  rcases h5 with rfl | rfl
  · exact far1f h hlt hne hc
  · exact far2f h hlt hne hc
/-- What Make hands back. -/
def MkG (w : World) (al : List Int) (e : Ending) (w' : World) : Prop := ∃ a v, OkM al a ∧ e = .returned v ∧ AuF a v w' w.heap.size ∧ Below w.heap.size w w'

set_option maxHeartbeats 8000000 in
set_option maxRecDepth 100000 in
theorem make_any (A : Option Addr) (n c B : Nat) (al : List Int) (cs : Array Value) (w : World) (hx : RdI w B A al) (hB : B ≤ w.heap.size) (hn : al.length = n) (hnc : n ≤ c) (hev : Ev5 5 al) (hg : GrC cs) :
    Calls Try.prog 32 #[.slice A n c, .agg cs] w fun e w' => MkG w al e w' := by
  have hsz := hg.sz
  obtain ⟨st, hst, hst0, hst1⟩ := hg.ce 0 (by omega)
  have hn5 : n ≤ 5 := by have := Ev5.len (n := 5) hev; omega
  have hb1 := ((Below.refl w.heap.size w).alloc (Nat.le_refl _) (.cells cs 50)).alloc (by simp) (.cells #[.slice none 0 0, .int .i64 0, .slice none 0 0, .slice none 0 0] 25)
  have HB1 := Lib.hid hb1
  have hG := Lib.hid (show Row ((w.alloc (.cells cs 50)).alloc (.cells #[.slice none 0 0, .int .i64 0, .slice none 0 0, .slice none 0 0] 25)) w.heap.size 50 cs.toList from (Row.new w cs.toList 50).alloc _)
  have hRes := Lib.hid (show Row ((w.alloc (.cells cs 50)).alloc (.cells #[.slice none 0 0, .int .i64 0, .slice none 0 0, .slice none 0 0] 25)) (w.heap.size + 1) 25 [.slice none 0 0, .int .i64 0, .slice none 0 0, .slice none 0 0] by
    have := Row.new (w.alloc (.cells cs 50)) [.slice none 0 0, .int .i64 0, .slice none 0 0, .slice none 0 0] 25
    simpa using this)
  have HE := Lib.hid (rEmpty_any A n c B al _ (hx.below hb1 hB) (Nat.le_trans hB hb1.size) hn (by omega))
  have g0 := hG.out.cell 0 (by simpa using hst)
  have HX := Lib.hid hx
  have HBw := Lib.hid hB
  have HN := Lib.hid hn
  have HEV := Lib.hid hev
  have HG0 := Lib.hid hg
  have HST := Lib.hid (show cs.toList[0]? = some (.int .u8 st) by simpa using hst)
  clear hst hb1 hx hB hn hev hg hsz
  by_cases h250 : 250 ≤ st
  · go_enter Try.func32, Try.ntmps32
    go_wp2_with fail
    refine HE.out.mono ?_
    rintro e w1 ⟨A', c', rfl, ho, hbw, hc1, hc2⟩
    have hR1 := Lib.hid (hRes.out.below hbw (by simp))
    have hB1 := Lib.hid (HB1.out.trans (hbw.mono HB1.out.size))
    have r0 := hR1.out.cell 0 rfl
    have r1 := hR1.out.cell 1 rfl
    have r2 := hR1.out.cell 2 rfl
    have r3 := hR1.out.cell 3 rfl
    have z0 := hR1.out.frozen 0
    have z1 := hR1.out.frozen 1
    have z2 := hR1.out.frozen 2
    have z3 := hR1.out.frozen 3
    obtain ⟨_, _, he, hrd, _, _⟩ := own_rdc ho
    injection he with he1 he2 he3
    subst he1 he3
    have hAu := Lib.hid (show AuF ⟨al, 0, [], []⟩ (.agg #[.slice A' n c', .int .i64 0, .slice none 0 0, .slice none 0 0]) w1 (w.heap.size + 2) from
      ⟨A', n, c', 0, none, 0, 0, none, 0, 0, rfl, { al := hrd, mr := RdI.nil _ _ _, ed := RdG.nil _ _ _, hn := HN.out, hm := rfl, hk := rfl, st := rfl, cn := ⟨hc1, hc2⟩, cm := by omega, ck := by omega, bn := by omega, bm := by omega, bk := by omega },
        own_from (by simpa using ho), fun b o f e => (by cases e), fun b o f e => (by cases e)⟩)
    clear hbw ho hrd he2
    go_wp2_with fail
    (try simp only [Exit.inBlock, Exit.then])
    refine bodyPost_ret (v := .agg #[.slice A' n c', .int .i64 0, .slice none 0 0, .slice none 0 0]) ?_ rfl ⟨⟨al, 0, [], []⟩, _, ?_, rfl, ?_, ?_⟩
    · rw [results_cell1 rfl]
      go_simp
    · refine ⟨⟨⟨fun x hx => ?_, HEV.out.o, by simp, by simp, by simp, by simp, by simp⟩, by simp⟩, can_zero rfl, rfl, by simp⟩
      have := HEV.out.r x hx
      omega
    · exact (hAu.out.set4 (by omega) _ _ _ _).more (by omega)
    · exact below_set4 hB1.out (by omega) _ _ _ _
  · go_enter Try.func32, Try.ntmps32
    go_wp2_with fail
    refine HE.out.mono ?_
    rintro e w1 ⟨A', c', rfl, ho, hbw, hc1, hc2⟩
    have hR1 := Lib.hid (hRes.out.below hbw (by simp))
    have hG1 := Lib.hid (hG.out.below hbw (by simp; omega))
    have hB1 := Lib.hid (HB1.out.trans (hbw.mono HB1.out.size))
    have g0 := hG1.out.cell 0 HST.out
    have hw1 : w.heap.size < w1.heap.size := hG1.out.lt
    have g1 := fun (cs : Array Value) ty => (World.cell?_alloc_lt w1 (.cells cs ty) ⟨w.heap.size, 0, none⟩ hw1).trans g0
    obtain ⟨iI, iI0, iI1, iI2, iI3⟩ := info_parts info_int
    obtain ⟨iE, iE0, iE1, iE2, iE3⟩ := info_parts info_edge
    obtain ⟨S, hS⟩ : ∃ S : Nat, 1 + st % 5 = (S : Int) := ⟨(1 + st % 5).toNat, by omega⟩
    have hS5 : S ≤ 5 := by omega
    have hS1 : 1 ≤ S := by omega
    have hm5 := Lib.hid (show IntKind.u8.wrap (st % 5) = st % 5 by simp [IntKind.wrap, IntKind.signed, IntKind.bits]; omega)
    have hbd0 := Lib.hid (show Bd w1 w1.heap.size w1.heap.size true true (.slice A' n c') (S : Int) (w1.alloc (.cells #[.slice A' n c', .int .i64 (S : Int), .slice none 0 0, .slice none 0 0] 25)) [] (.slice none 0 0) [] (.slice none 0 0) from
      ⟨(Below.refl _ _).alloc (Nat.le_refl _) _, Row.new w1 [.slice A' n c', .int .i64 (S : Int), .slice none 0 0, .slice none 0 0] 25, fun _ => World.ownsRow_nil _ _ _ _, fun _ => World.ownsRow_nil _ _ _ _, Nat.le_refl _⟩)
    have CG := Lib.hid (fun W (hW : Below w1.heap.size w1 W) (j : Nat) (x : Int) (h : cs[j]? = some (.int .u8 x)) => (hG1.out.below hW hw1).cell j (v := .int .u8 x) (by simpa using h))
    have CA := Lib.hid (fun W (hW : Below w1.heap.size w1 W) => HX.out.below (hB1.out.trans (hW.mono hB1.out.size)) HBw.out)
    have HRd := Lib.hid (show RdI w1 w1.heap.size A' al by
      obtain ⟨_, _, he, hrd, _, _⟩ := own_rdc ho
      injection he with he1 he2 he3
      subst he1; exact hrd)
    have HFr := Lib.hid (own_from ho)
    clear ho hbw
    go_wp2_with fail
    go_loopw [6] (fun i wr => ∃ (t : Nat) (vm ve : Value) (ms : List Int) (es : List Ed), t ≤ S ∧ i = .int .i64 t ∧ Hid (Bd w1 w1.heap.size w1.heap.size true true (.slice A' n c') (S : Int) wr ms vm es ve) ∧ Hid (Ev5 (t : Int) ms) ∧ Hid (EdI S al t 0 es)) (fun i _ => S - (intOf i).toNat)
    case atStart => exact ⟨0, _, _, _, _, Nat.zero_le _, rfl, hbd0, Ev5.nil _, EdI.nil _ _⟩
    case round =>
      clear hbd0 g0 g1
      obtain ⟨t, vm, ve, ms, es, htS, rfl, hbd, hev, hei⟩ := hrel
      by_cases htl : t < S
      · obtain ⟨mk, hmk, hmk0, hmk1⟩ := HG0.out.ce 1 (by omega)
        have gm := CG.out wr hbd.out.bel 1 mk hmk
        have s1 := hbd.out.cb.cell 1 rfl
        have z0 : (0 : Int) ≤ (t : Int) := by omega
        have z1 : (t : Int) < (S : Int) := by omega
        have hml := hev.out.len
        have HMO := Lib.hid hev.out.more
        have HSN := Lib.hid (hev.out.snoc (by omega))
        clear hmk
        go_upto_if 33 with fail
        generalize (bits BinOp.and IntKind.u8 (mk / 2 ^ t) 1 == 1) = cb
        go_cut [6] from 22 to 76 (fun i wx => i = .int .i64 (t : Int) ∧ ∃ vm ms', Hid (Bd w1 w1.heap.size w1.heap.size true true (.slice A' n c') (S : Int) wx ms' vm es ve) ∧ Hid (Ev5 ((t + 1 : Nat) : Int) ms'))
        case first =>
          cases cb
          · go_wp2_with fail
            go_meet
            case rel => exact ⟨rfl, vm, ms, hbd, by simpa using HMO⟩
          · have hmo := Lib.hid (hbd.out.mo rfl)
            have c2' := hbd.out.cb.cell 2 rfl
            have f2' := hbd.out.cb.frozen 2
            have hs4 := hbd.out.h2
            go_wp2_with (at_builtin; refine wpList_append_own _ rfl _ _ 22 rfl w1.heap.size 3 iI (.int .i64 0) 1 8 Try.underlying22 iI0 iI1 iI2 iI3 rfl (by decide) _ _ _ rfl (hmo.out.alloc _) ⟨wr.heap.size, 0, none⟩ 1 1 [.int .i64 (t : Int)] rfl rfl (news_one (by simp)) (by intro u hu; simp at hu; subst hu; rfl) (by unfold maxLen; omega) (by omega) (by simp; omega) ?_)
            intro v5 w5 hown5 hgrow5 _
            have hown6 : Own w5 w1.heap.size v5 (ms ++ [(t : Int)]) := by unfold Own; rw [List.length_append]; simpa using hown5
            obtain ⟨A5, c5, hv5, _, _, _⟩ := own_rdc hown6
            rw [show (ms ++ [(t : Int)]).length = ms.length + 1 by simp] at hv5
            subst hv5
            have hba := hbd.out.alloc (.cells #[.int .i64 (t : Int)] 3)
            have hcb := Lib.hid (hba.cb.grown hgrow5 (fun e => hba.neM e.symm))
            have hbd6 := Lib.hid (Bd.mark hba hgrow5 hown6)
            have c2' := hcb.out.cell 2 rfl
            have f2' := hcb.out.frozen 2
            clear hown5 hown6 hgrow5 hba
            go_wp2_with fail
            go_meet
            case rel => exact ⟨rfl, _, _, hbd6, by simpa using HSN⟩
        case rest =>
          clear hbd hev s1 gm hml HMO HSN
          obtain ⟨rfl, vm, ms', hbd, hev⟩ := hcut
          go_wp2_with fail
          go_loopw [7] (fun i wr => ∃ (k : Nat) (ve : Value) (es : List Ed), k ≤ n ∧ i = .int .i64 k ∧ Hid (Bd w1 w1.heap.size w1.heap.size true true (.slice A' n c') (S : Int) wr ms' vm es ve) ∧ Hid (EdI S al t k es)) (fun i _ => n - (intOf i).toNat)
          case atStart => exact ⟨0, _, _, Nat.zero_le _, rfl, hbd, hei⟩
          case round =>
            clear hbd hei
            obtain ⟨k, ve, es, hkn, rfl, hbd, hei⟩ := hrel
            have s1 := hbd.out.cb.cell 1 rfl
            by_cases hkl : k < n
            · obtain ⟨x, hx, hx0, hx1⟩ := HG0.out.ce (2 + t * 5 + k) (by omega)
              have gx := CG.out wr hbd.out.bel _ x hx
              have e0 := Int.emod_nonneg x (show (S : Int) + 2 ≠ 0 by omega)
              have z2 : (0 : Int) ≤ (k : Int) := by omega
              have z3 : (k : Int) < (n : Int) := by omega
              have z4 : (k : Int) < 5 := by omega
              have z5 : (t : Int) < 5 := by omega
              clear hx
              go_wp2_with fail
              go_quiet (fail)
              have hbdq := Lib.hid (hbd.out.drewN nq)
              have s1q := hbdq.out.cb.cell 1 rfl
              clear hbd s1 gx
              generalize wr.drewN nq = wq at *
              have hbd := Lib.hid hbdq.out
              have hsq := hbdq.out.h2
              clear hbdq
              by_cases z6 : x % ((S : Int) + 2) < (S : Int)
              · obtain ⟨bA, oA, rfl, hbA, hcA⟩ := HX.out (by rw [HN.out]; omega)
                obtain ⟨ev, hevv⟩ : ∃ ev, ev = al.getD k 0 := ⟨_, rfl⟩
                have ca : wq.cell? ⟨bA, oA + k, none⟩ = some (.int .i64 ev) := by
                  obtain ⟨b2, o2, e2, hb2, hc2⟩ := CA.out wq hbd.out.bel (by rw [HN.out]; omega)
                  injection e2 with e2; injection e2 with e3 e4; subst e3 e4
                  rw [hevv]; exact hc2 k (by rw [HN.out]; omega)
                have hsn := Lib.hid (hei.out.snoc (u := x % ((S : Int) + 2)) (by rw [HN.out]; exact hkl) HEV.out.o (by omega) z6)
                rw [← hevv] at hsn
                have hel := hei.out.l
                have heo := Lib.hid (hbd.out.eo rfl)
                have c3 := hbd.out.cb.cell 3 rfl
                have f3 := hbd.out.cb.frozen 3
                clear hcA hevv
                have hbs := hbd.out.bel.size
                have hneV := hbd.out.neE
                have hneA : some bA ≠ ve.ownBlock := fun e => by have h1 := (heo.out.lt bA e.symm).1; have h2 := hB1.out.size; have h3 := HBw.out; omega
                have hbAq : bA < wq.heap.size := by have h2 := hB1.out.size; have h3 := HBw.out; omega
                have v3 := fun cs : Array Value => (World.cell?_alloc_lt wq (.cells cs 67) ⟨w1.heap.size, 3, none⟩ hsq).trans c3
                have v4 := fun cs : Array Value => (World.cell?_alloc_lt wq (.cells cs 67) ⟨bA, oA + k, none⟩ hbAq).trans ca
                have v5 := fun cs : Array Value => (frozen?_alloc_cells wq cs 67 ⟨w1.heap.size, 3, none⟩).trans f3
                go_wp2_with fail
                go_region_law (refine step_append_lies _ (by rfl) (.tmp 66) (.tmp 74) _ (by rfl) w1.heap.size 67 iE (.agg #[.int .i64 0, .int .i64 0, .int .i64 0]) 3 24 Try.underlying23 iE0 iE1 iE2 iE3 rfl (by omega) ve es.length (encE es) (by rfl) (by first | exact (heo.out.alloc _).drew | exact (heo.out.alloc _)) ⟨wq.heap.size, 0, none⟩ 1 1 [.int .i64 (t : Int), .int .i64 ev, .int .i64 (x % ((S : Int) + 2))] (by rfl) (by rfl) (World.news_of_block (cs := #[.int .i64 (t : Int), .int .i64 ev, .int .i64 (x % ((S : Int) + 2))]) (t := 67) (fr := (0, 0)) (heap_alloc_new wq _)) (by simp [Value.oneCell']) (by omega) (by unfold maxLen; omega) (by omega) (by simp; omega) (wq.heap.size + 1) (by simp) ?_; intro gg cap w6 hown6 hgrow hat hlt1; have c6 := far12 hgrow hsq hneV c3; have f6 := far12f hgrow hsq hneV f3)
                all_goals
                  have hown7 : OwnE w6 w1.heap.size (.slice (some ⟨gg, 0, none⟩) (es.length + 1) cap) (es ++ [⟨(t : Int), ev, x % ((S : Int) + 2)⟩]) := by
                    unfold OwnE; rw [encE_app, List.length_append]; exact hown6
                  have hbd7 := Lib.hid (show Bd w1 w1.heap.size w1.heap.size true true (.slice A' n c') (S : Int) (w6.setCell ⟨w1.heap.size, 3, none⟩ (.slice (some ⟨gg, 0, none⟩) (es.length + 1) cap)) ms' vm (es ++ [⟨(t : Int), ev, x % ((S : Int) + 2)⟩]) (.slice (some ⟨gg, 0, none⟩) (es.length + 1) cap) from by
                    first
                    | exact Bd.edge (hbd.out.alloc _) hgrow hown7
                    | exact Bd.edge ((hbd.out.alloc _).drew) hgrow hown7
                    | exact Bd.edge (hbd.out.drew.alloc _) hgrow hown7)
                  clear hown7 hown6 hgrow hat
                  go_wp2_with fail
                  go_roundw
                  case measure => simp [intOf]; omega
                  case rel => exact ⟨k + 1, _, _, by omega, by go_num, by first | exact hbd7 | exact Lib.hid hbd7.out.drew, hsn⟩
              · have z7 : (S : Int) ≤ x % ((S : Int) + 2) := by omega
                have hno := Lib.hid (hei.out.more (by rw [HN.out]; exact hkl))
                go_wp2_with fail
                go_roundw
                case rel => exact ⟨k + 1, _, _, by omega, by go_num, hbd, hno⟩
                case measure => simp [intOf]; omega
            · obtain rfl : k = n := by omega
              have hnx := Lib.hid (hei.out.next hn5)
              go_wp2_with fail
              go_roundw
              case rel => exact ⟨t + 1, _, _, _, _, by omega, by go_num, hbd, hev, hnx⟩
              case measure => simp [intOf]; omega
      · obtain rfl : t = S := by omega
        obtain ⟨M3, d3, rfl, hM1, hM2, hM3⟩ := own_rdc (hbd.out.mo rfl)
        obtain ⟨E3, g3, rfl, hE1, hE2, hE3⟩ := ownE_rd (hbd.out.eo rfl)
        have s0 := hbd.out.cb.cell 0 rfl
        have s1 := hbd.out.cb.cell 1 rfl
        have s2 := hbd.out.cb.cell 2 rfl
        have s3 := hbd.out.cb.cell 3 rfl
        have hml := hev.out.len
        have hel := hei.out.l
        have HRi := Lib.hid (show Right ⟨al, (t : Int), ms, es⟩ from { alr := fun x hx => by have := HEV.out.r x hx; omega, alo := HEV.out.o, st0 := by simp, mrr := hev.out.r, mro := hev.out.o, edr := (fun x hx => by
          obtain ⟨h1, h2, h3, h4, h5⟩ := hei.out.r x hx
          exact ⟨⟨h1, h2.resolve_right (fun h => by simpa using h.2)⟩, ⟨h3, h4⟩, h5⟩), edo := hei.out.o, st1 := by show (t : Int) ≤ 4096; omega })
        have HAu := Lib.hid (show AuR wr wr.heap.size A' n c' (t : Int) M3 ms.length d3 E3 es.length g3 ⟨al, (t : Int), ms, es⟩ from
          { al := (HRd.out.below hbd.out.bel (Nat.le_refl _)).more hbd.out.bel.size, mr := hM1, ed := hE1, hn := HN.out, hm := rfl, hk := rfl, st := rfl, cn := ⟨hc1, hc2⟩, cm := ⟨hM2, hM3⟩, ck := ⟨hE2, hE3⟩, bn := by omega, bm := by omega, bk := by omega })
        have HC := Lib.hid (rCanonical_any A' n c' (t : Int) M3 ms.length d3 E3 es.length g3 _ wr.heap.size wr HAu.out (Nat.le_refl _) HRi.out.toRightW (by omega))
        have hR2 := Lib.hid (hR1.out.below hbd.out.bel hR1.out.lt)
        have hB2 := Lib.hid (hB1.out.trans (hbd.out.bel.mono hB1.out.size))
        have hgt := hG1.out.lt
        have hbs := hbd.out.bel.size
        have hst5 := Lib.hid (fnd_len HRi.out.toRightW)
        clear hM1 hE1 hbd
        go_wp2_with fail
        refine HC.out.mono ?_
        rintro e w9 ⟨v9, rfl, hau9, hb9⟩
        obtain ⟨A9, n9, c9, s9, M9, m9, d9, E9, k9, g9, rfl, hr9, hf9⟩ := hau9
        have hAu9 := Lib.hid (show AuF _ _ w9 wr.heap.size from ⟨A9, n9, c9, s9, M9, m9, d9, E9, k9, g9, rfl, hr9, hf9⟩)
        have hR9 := Lib.hid (hR2.out.below hb9 hR2.out.lt)
        have hB9 := Lib.hid (hB2.out.trans (hb9.mono hB2.out.size))
        have hlt1 := hR1.out.lt
        have r0 := hR9.out.cell 0 rfl
        have r1 := hR9.out.cell 1 rfl
        have r2 := hR9.out.cell 2 rfl
        have r3 := hR9.out.cell 3 rfl
        have y0 := hR9.out.frozen 0
        have y1 := hR9.out.frozen 1
        have y2 := hR9.out.frozen 2
        have y3 := hR9.out.frozen 3
        clear hb9 hr9 hf9
        go_wp2_with fail
        (try simp only [Exit.inBlock, Exit.then])
        refine bodyPost_ret (v := .agg #[.slice A9 n9 c9, .int .i64 s9, .slice M9 m9 d9, .slice E9 k9 g9]) ?_ rfl ⟨canA ⟨al, (t : Int), ms, es⟩, _, ?_, rfl, ?_, ?_⟩
        · rw [results_cell1 rfl]
          go_simp
        · refine ⟨HRi.out.can, can_can HRi.out.toRightW, rfl, ?_⟩
          have := hst5.out
          show ((fnd _).length : Int) ≤ 5
          simp only [Int.toNat_natCast] at this
          omega
        · exact (hAu9.out.set4 (by omega) _ _ _ _).more (by omega)
        · exact below_set4 hB9.out (by omega) _ _ _ _
end
end Go.Proofs.Ytcciiikaejjooaa
