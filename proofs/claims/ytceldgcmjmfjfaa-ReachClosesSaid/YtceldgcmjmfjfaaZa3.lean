/- Texts merged: what follows were texts of their own. -/
import Derived.Test.YtceldgcmjmfjfaaZa2
set_option linter.unusedVariables false
set_option linter.unusedSimpArgs false
set_option linter.unusedSectionVars false
/- Layer 3, the mathematics of the canonical form's marked states. -/
namespace Go.Proofs.Ytceldgcmjmfjfaa
open Go.RowKit Go.Sort

/-- The numbers of those of these states that are found. -/
def mkL (fl ms : List Int) : List Int := (ms.filter fun q => decide (q ∈ fl)).map fun q => (fl.idxOf q : Int)
theorem mkL_nil (fl : List Int) : mkL fl [] = [] := rfl
theorem mkL_yes {fl ms : List Int} {k : Nat} (h : k < ms.length) (hp : ms.getD k 0 ∈ fl) : mkL fl (ms.take (k + 1)) = mkL fl (ms.take k) ++ [(fl.idxOf (ms.getD k 0) : Int)] := by
  unfold mkL
  rw [filter_take_yes h (by simpa using hp), List.map_append]; rfl
theorem mkL_no {fl ms : List Int} {k : Nat} (h : k < ms.length) (hp : ms.getD k 0 ∉ fl) : mkL fl (ms.take (k + 1)) = mkL fl (ms.take k) := by
  unfold mkL
  rw [filter_take_no h (by simpa using hp)]
theorem mkL_len (fl ms : List Int) (k : Nat) : (mkL fl (ms.take k)).length ≤ k := by
  unfold mkL; rw [List.length_map]; exact filter_take_le _ _ _
theorem getD_idxOf {l : List Int} {q : Int} (h : q ∈ l) : l.getD (l.idxOf q) 0 = q := by
  have := List.idxOf_lt_length_iff.2 h
  simp [List.getD, List.getElem?_eq_getElem this, List.getElem_idxOf]
theorem idxOf_getD : ∀ {l : List Int} {i : Nat}, l.Nodup → i < l.length → l.idxOf (l.getD i 0) = i
  | [], i, _, hi => by simp at hi
  | x :: l, 0, _, _ => by simp
  | x :: l, i + 1, hd, hi => by
    rw [List.nodup_cons] at hd
    have h1 : i < l.length := by simpa using hi
    have hm : l.getD i 0 ∈ l := getD_mem h1
    have hne : ¬ x = l.getD i 0 := fun e => hd.1 (e ▸ hm)
    rw [List.getD_cons_succ, List.idxOf_cons]
    have : (x == l.getD i 0) = false := by simpa using hne
    rw [this, cond_false, idxOf_getD hd.2 h1]
theorem idx_inj {l : List Int} {x y : Int} (hx : x ∈ l) (hy : y ∈ l) (h : l.idxOf x = l.idxOf y) : x = y := by
  rw [← getD_idxOf hx, h, getD_idxOf hy]
theorem mkL_nodup {fl ms : List Int} (h : ms.Nodup) : (mkL fl ms).Nodup := by
  unfold mkL
  have h1 : (ms.filter fun q => decide (q ∈ fl)).Nodup := h.sublist List.filter_sublist
  rw [List.nodup_iff_pairwise_ne, List.pairwise_map]
  refine (List.nodup_iff_pairwise_ne.1 h1).imp_of_mem fun hx hy hne e => hne ?_
  rw [List.mem_filter] at hx hy
  exact idx_inj (by simpa using hx.2) (by simpa using hy.2) (by omega)
theorem srtI_perm (zs : List Int) : (srtI zs).Perm zs := List.mergeSort_perm zs _
theorem srtI_sorted (zs : List Int) : (srtI zs).Pairwise (· ≤ ·) := by
  have := List.pairwise_mergeSort (le := fun x y : Int => decide (x ≤ y)) (fun x y z h1 h2 => by simp at *; omega) (fun x y => by simp; omega) zs
  exact this.imp fun h => by simpa using h
theorem nodup_lt {l : List Int} (h : l.Pairwise (· ≤ ·)) (hd : l.Nodup) : l.Pairwise (· < ·) := by
  have := h.and (List.nodup_iff_pairwise_ne.1 hd)
  exact this.imp fun h => by omega
theorem lt_nodup {l : List Int} (h : l.Pairwise (· < ·)) : l.Nodup := List.nodup_iff_pairwise_ne.2 (h.imp fun h => by omega)
theorem srtI_lt {zs : List Int} (h : zs.Nodup) : (srtI zs).Pairwise (· < ·) := nodup_lt (srtI_sorted zs) ((srtI_perm zs).nodup_iff.2 h)
theorem lt_ext {l r : List Int} (hl : l.Pairwise (· < ·)) (hr : r.Pairwise (· < ·)) (h : ∀ x, x ∈ l ↔ x ∈ r) : l = r :=
  sorted_ext (r := fun x y : Int => x < y) (fun x => by omega) (fun x y z h1 h2 => by omega) l r hl hr h
theorem mem_canM {a : Au} {x : Int} : x ∈ canM a ↔ ∃ i : Nat, i < (fnd a).length ∧ (fnd a).getD i 0 ∈ a.mr ∧ (i : Int) = x := by
  unfold canM
  rw [List.mem_map]
  constructor
  · rintro ⟨i, h, e⟩
    rw [List.mem_filter, List.mem_range] at h
    exact ⟨i, h.1, by simpa using h.2, e⟩
  · rintro ⟨i, h1, h2, e⟩
    exact ⟨i, by rw [List.mem_filter, List.mem_range]; exact ⟨h1, by simpa using h2⟩, e⟩
theorem canM_lt (a : Au) : (canM a).Pairwise (· < ·) := by
  unfold canM
  rw [List.pairwise_map]
  have h1 : ((List.range (fnd a).length).filter fun i => decide ((fnd a).getD i 0 ∈ a.mr)).Pairwise (· < ·) := List.pairwise_lt_range.sublist List.filter_sublist
  exact h1.imp fun h => by omega
theorem canM_len (a : Au) : (canM a).length ≤ (fnd a).length := by
  unfold canM
  rw [List.length_map]
  exact Nat.le_trans (List.length_filter_le _ _) (by simp)
theorem srt_mk {a : Au} (h : RightW a) : srtI (mkL (fnd a) a.mr) = canM a := by
  refine lt_ext (srtI_lt (mkL_nodup (lt_nodup h.mro))) (canM_lt a) fun x => ?_
  rw [(srtI_perm _).mem_iff, mem_canM]
  unfold mkL
  rw [List.mem_map]
  constructor
  · rintro ⟨q, hq, e⟩
    rw [List.mem_filter] at hq
    have hf : q ∈ fnd a := by simpa using hq.2
    exact ⟨(fnd a).idxOf q, List.idxOf_lt_length_iff.2 hf, by rw [getD_idxOf hf]; exact hq.1, e⟩
  · rintro ⟨i, h1, h2, e⟩
    refine ⟨(fnd a).getD i 0, ?_, by rw [idxOf_getD (fnd_nodup a) h1]; exact e⟩
    rw [List.mem_filter]
    exact ⟨h2, by simpa using getD_mem h1⟩
/-- What canonical has made, while it is stored into its result. -/
structure CR (w : World) (H bc : Nat) (Ac : Option Addr) (al ms : List Int) (es : List Ed) (vm ve : Value) (wr : World) : Prop where
  bel : Below H w wr
  cl : RdI wr bc Ac al
  mo : Own wr (bc + 2) vm ms
  eo : OwnE wr (bc + 2) ve es
  h1 : H + 1 < bc
  h2 : bc ≤ wr.heap.size
theorem CR.set {w : World} {H bc : Nat} {Ac : Option Addr} {al ms : List Int} {es : List Ed} {vm ve : Value} {wr : World} (h : CR w H bc Ac al ms es vm ve wr) (hAc : ∀ b o f, Ac = some ⟨b, o, f⟩ → H + 1 < b) (i : Nat) (v : Value) : CR w H bc Ac al ms es vm ve (wr.setCell ⟨H + 1, i, none⟩ v) := by
  have g1 := h.h1
  refine ⟨h.bel.setCell (p := ⟨H + 1, i, none⟩) (by simp) v, fun h0 => ?_, ownsRow_setCell_below h.mo (a := ⟨H + 1, i, none⟩) (by simp; omega) v, ownsRow_setCell_below h.eo (a := ⟨H + 1, i, none⟩) (by simp; omega) v, g1, by rw [World.size_setCell]; exact h.h2⟩
  obtain ⟨b, o, e, hb, hc⟩ := h.cl h0
  have hb2 := hAc b o none e
  exact ⟨b, o, e, hb, fun j hj => (World.cell?_of_block (a := ⟨b, o + j, none⟩) (Below.heap_setCell wr ⟨H + 1, i, none⟩ v b (by simp; omega))).trans (hc j hj)⟩
theorem CR.alloc {w : World} {H bc : Nat} {Ac : Option Addr} {al ms : List Int} {es : List Ed} {vm ve : Value} {wr : World} (h : CR w H bc Ac al ms es vm ve wr) (o : Obj) : CR w H bc Ac al ms es vm ve (wr.alloc o) :=
  ⟨h.bel.alloc (by have := h.h1; have := h.h2; omega) o, h.cl.below ((Below.refl bc wr).alloc h.h2 o) (Nat.le_refl _), h.mo.alloc o, h.eo.alloc o, h.h1, by have := h.h2; simp; omega⟩
/-- What a function hands back that makes an automaton in new memory, from block base on. -/
def AuF (a : Au) (v : Value) (w : World) (base : Nat) : Prop := ∃ A n c s M m d E k g, v = .agg #[.slice A n c, .int .i64 s, .slice M m d, .slice E k g] ∧ AuR w w.heap.size A n c s M m d E k g a ∧ (∀ b o f, A = some ⟨b, o, f⟩ → base ≤ b) ∧ (∀ b o f, M = some ⟨b, o, f⟩ → base ≤ b) ∧ (∀ b o f, E = some ⟨b, o, f⟩ → base ≤ b)
theorem AuF.below {a : Au} {v : Value} {w w' : World} {base : Nat} (h : AuF a v w base) (hb : Below w.heap.size w w') : AuF a v w' base := by
  obtain ⟨A, n, c, s, M, m, d, E, k, g, e, hr, h1, h2, h3⟩ := h
  exact ⟨A, n, c, s, M, m, d, E, k, g, e, (hr.below hb (Nat.le_refl _)).more hb.size, h1, h2, h3⟩
theorem AuF.more {a : Au} {v : Value} {w : World} {base B : Nat} (h : AuF a v w base) (hB : B ≤ base) : AuF a v w B := by
  obtain ⟨A, n, c, s, M, m, d, E, k, g, e, hr, h1, h2, h3⟩ := h
  exact ⟨A, n, c, s, M, m, d, E, k, g, e, hr, fun b o f e => Nat.le_trans hB (h1 b o f e), fun b o f e => Nat.le_trans hB (h2 b o f e), fun b o f e => Nat.le_trans hB (h3 b o f e)⟩
theorem RdI.off {w : World} {B base X i : Nat} {A : Option Addr} {zs : List Int} (h : RdI w B A zs) (hA : ∀ b o f, A = some ⟨b, o, f⟩ → base ≤ b) (hX : X < base) (v : Value) : RdI (w.setCell ⟨X, i, none⟩ v) B A zs := fun h0 => by
  obtain ⟨b, o, e, hb, hc⟩ := h h0
  have := hA b o none e
  exact ⟨b, o, e, hb, fun j hj => (World.cell?_of_block (a := ⟨b, o + j, none⟩) (Below.heap_setCell w ⟨X, i, none⟩ v b (by simp; omega))).trans (hc j hj)⟩
theorem RdG.off {w : World} {B base X i : Nat} {A : Option Addr} {zs : List Ed} (h : RdG w B A zs) (hA : ∀ b o f, A = some ⟨b, o, f⟩ → base ≤ b) (hX : X < base) (v : Value) : RdG (w.setCell ⟨X, i, none⟩ v) B A zs := fun h0 => by
  obtain ⟨b, o, e, hb, hc⟩ := h h0
  have := hA b o none e
  exact ⟨b, o, e, hb, fun j x hj => (hc j x hj).setFar (p := ⟨X, i, none⟩) (by simp; omega) v⟩
theorem AuF.set {a : Au} {v : Value} {w : World} {base X : Nat} (h : AuF a v w base) (hX : X < base) (i : Nat) (u : Value) : AuF a v (w.setCell ⟨X, i, none⟩ u) base := by
  obtain ⟨A, n, c, s, M, m, d, E, k, g, e, hr, h1, h2, h3⟩ := h
  exact ⟨A, n, c, s, M, m, d, E, k, g, e, { hr with al := by rw [World.size_setCell]; exact hr.al.off h1 hX u, mr := by rw [World.size_setCell]; exact hr.mr.off h2 hX u, ed := by rw [World.size_setCell]; exact hr.ed.off h3 hX u }, h1, h2, h3⟩
theorem AuF.zero (w : World) (base : Nat) : AuF ⟨[], 0, [], []⟩ (.agg #[.slice none 0 0, .int .i64 0, .slice none 0 0, .slice none 0 0]) w base :=
  ⟨none, 0, 0, 0, none, 0, 0, none, 0, 0, rfl, { al := RdI.nil _ _ _, mr := RdI.nil _ _ _, ed := RdG.nil _ _ _, hn := rfl, hm := rfl, hk := rfl, st := rfl, cn := by omega, cm := by omega, ck := by omega, bn := by omega, bm := by omega, bk := by omega }, fun b o f e => (by cases e), fun b o f e => (by cases e), fun b o f e => (by cases e)⟩
theorem own_from {w : World} {base n c : Nat} {A : Option Addr} {e : TypeId} {sz : Nat} {m : Nat} {xs : List Value} (h : w.ownsRow base e sz (.slice A n c) m xs) : ∀ b o f, A = some ⟨b, o, f⟩ → base ≤ b := fun b o f e => by
  subst e; exact (h.lt b rfl).1
theorem CR.gives {w : World} {H bc : Nat} {Ac : Option Addr} {a : Au} {vm ve : Value} {wr : World} {n cc : Nat} (h : CR w H bc Ac a.al (canM a) (canEn a (fnd a).length) vm ve wr) (hAc : ∀ b o f, Ac = some ⟨b, o, f⟩ → H + 1 < b) (hn : a.al.length = n) (hc : n ≤ cc ∧ cc ≤ 9223372036854775807) (hbn : n ≤ 100000) (hm : (canM a).length ≤ 100000) (he : (canEn a (fnd a).length).length ≤ 1000000) :
    AuF (canA a) (.agg #[.slice Ac n cc, .int .i64 ((fnd a).length : Int), vm, ve]) wr H ∧ Below H w wr := by
  have g1 := h.h1
  obtain ⟨M', d', rfl, hm1, hm2, hm3⟩ := own_rdc h.mo
  obtain ⟨E', g', rfl, he1, he2, he3⟩ := ownE_rd h.eo
  exact ⟨⟨Ac, n, cc, ((fnd a).length : Int), M', _, d', E', _, g', rfl,
    { al := h.cl.more (by have := h.h2; omega), mr := hm1, ed := he1, hn := hn, hm := rfl, hk := rfl, st := rfl, cn := hc, cm := ⟨hm2, hm3⟩, ck := ⟨he2, he3⟩, bn := hbn, bm := hm, bk := he },
    fun b o f e => by have := hAc b o f e; omega, fun b o f e => by have := own_from h.mo b o f e; omega, fun b o f e => by have := own_from h.eo b o f e; omega⟩, h.bel⟩
theorem CR.gives' {w : World} {H bc : Nat} {Ac : Option Addr} {a : Au} {vm ve : Value} {wr : World} {n cc n0 : Nat} (h : CR w H bc Ac a.al (canM a) (canEn a n0) vm ve wr) (hAc : ∀ b o f, Ac = some ⟨b, o, f⟩ → H + 1 < b) (h0 : n0 = (fnd a).length) (hn : a.al.length = n) (hc : n ≤ cc ∧ cc ≤ 9223372036854775807) (hbn : n ≤ 100000) (hm : (canM a).length ≤ 100000) (he : (canEn a n0).length ≤ 1000000) :
    AuF (canA a) (.agg #[.slice Ac n cc, .int .i64 (n0 : Int), vm, ve]) wr H ∧ Below H w wr := by
  subst h0; exact h.gives hAc hn hc hbn hm he
end Go.Proofs.Ytceldgcmjmfjfaa

/- Layer 3: canonical of the program makes the canonical form. -/
namespace Go.Proofs.Ytceldgcmjmfjfaa
open Go.RowKit Go.Sort

set_option maxHeartbeats 4000000 in
set_option maxRecDepth 100000 in
theorem canonical_any (A : Option Addr) (n c : Nat) (s : Int) (M : Option Addr) (m d : Nat) (E : Option Addr) (k g : Nat) (a : Au) (S : Nat) (B : Nat) (w : World) (h : AuR w B A n c s M m d E k g a) (hB : B ≤ w.heap.size) (hr : RightW a) (hS : s = (S : Int)) (hS0 : 0 < S) (hSb : S ≤ 5000) :
    Calls Try.prog 60 #[.agg #[.slice A n c, .int .i64 s, .slice M m d, .slice E k g]] w fun e w' => ∃ v, e = .returned v ∧ AuF (canA a) v w' w.heap.size ∧ Below w.heap.size w w' := by
  have hst := h.st
  subst hS
  have HR := Lib.hid h
  have HRI := Lib.hid hr
  have HST := Lib.hid hst
  have HA := Lib.hid (Row.new w [.slice A n c, .int .i64 (S : Int), .slice M m d, .slice E k g] 30)
  have HA2 := Lib.hid (HA.out.alloc (.cells #[.slice none 0 0, .int .i64 0, .slice none 0 0, .slice none 0 0] 30))
  have HRes := Lib.hid (Row.new (w.alloc (.cells #[.slice A n c, .int .i64 (S : Int), .slice M m d, .slice E k g] 30)) [.slice none 0 0, .int .i64 0, .slice none 0 0, .slice none 0 0] 30)
  have HB1 := Lib.hid (((Below.refl w.heap.size w).alloc (Nat.le_refl _) (.cells #[.slice A n c, .int .i64 (S : Int), .slice M m d, .slice E k g] 30)).alloc (by simp) (.cells #[.slice none 0 0, .int .i64 0, .slice none 0 0, .slice none 0 0] 30))
  have HCL := Lib.hid (clone_sl A n c a.al _ (((h.al.more hB).below HB1.out (Nat.le_refl _)).more HB1.out.size) h.hn (by have := h.bn; omega))
  obtain ⟨iI, iI0, iI1, iI2, iI3⟩ := info_parts info_int
  obtain ⟨iE, iE0, iE1, iE2, iE3⟩ := info_parts info_edge
  have hmk := make_ints S (by omega)
  have hbk := h.bk
  have hdS : ((S : Int) == 0) = false := by simp; omega
  have HES := Lib.hid (fun W (hw : Below w.heap.size w W) => edgeStarts_any A n c (S : Int) M m d E k g a S B W (h.below hw hB) (Nat.le_trans hB hw.size) rfl hSb (fun x hx => (hr.edr x hx).1))
  clear h hst hr
  go_enter Try.func60, Try.ntmps60
  go_wp2_with fail
  refine HCL.out.mono ?_
  rintro e w1 ⟨Ac, cc, rfl, hoc, hbw⟩
  rw [HR.out.hn] at *
  have hz := hbw.size
  simp only [World.size_alloc] at hz
  have hB1 := Lib.hid (HB1.out.trans (hbw.mono (by simp; omega)))
  have hA1 := Lib.hid (HA2.out.below hbw (by simp; omega))
  have hR1 := Lib.hid (show Row w1 (w.heap.size + 1) 30 [.slice none 0 0, .int .i64 0, .slice none 0 0, .slice none 0 0] by have := HRes.out.below hbw (by simp); simpa using this)
  have hC1 := Lib.hid hoc
  have HCC := Lib.hid (show n ≤ cc ∧ cc ≤ 9223372036854775807 from by
    obtain ⟨A', c', e, _, q1, q2⟩ := own_rdc hoc
    injection e with e1 e2 e3
    rw [HR.out.hn] at q1; subst e3; exact ⟨q1, q2⟩)
  have HAC := Lib.hid (show ∀ b o f, Ac = some ⟨b, o, f⟩ → w.heap.size + 1 < b from fun b o f e => by
    subst e
    have := (hoc.lt b rfl).1
    simp at this; omega)
  clear hoc hbw
  have y1 := hA1.out.cell 1 rfl
  have y1a := fun cs : Array Value => (World.cell?_alloc_lt w1 (.cells cs 30) ⟨w.heap.size, 1, none⟩ (by simp; omega)).trans y1
  go_wp2_with fail
  have hCB := Lib.hid (show CB w w.heap.size w1.heap.size A n c (S : Int) M m d E k g Ac cc a (w1.alloc (.cells #[.slice Ac n cc, .int .i64 0, .slice none 0 0, .slice none 0 0] 30)) (.slice none 0 0) (.slice none 0 0) 0 from
    { bel := hB1.out.alloc (by omega) _
      bx := hA1.out.alloc _
      res := hR1.out.alloc _
      cb := Row.new w1 [.slice Ac n cc, .int .i64 0, .slice none 0 0, .slice none 0 0] 30
      cl := by
        obtain ⟨A', c', e, hrd⟩ := own_rd hC1.out
        injection e with e1 e2 e3
        subst e1
        exact hrd.below ((Below.refl w1.heap.size w1).alloc (Nat.le_refl _) _) (Nat.le_refl _)
      h1 := by omega
      h2 := by simp })
  have hN0 := Lib.hid (show Row ((w1.alloc (.cells #[.slice Ac n cc, .int .i64 0, .slice none 0 0, .slice none 0 0] 30)).alloc (.cells (List.replicate S (Value.int .i64 0)).toArray 3)) (w1.heap.size + 1) 3 ((List.replicate 0 (-1 : Int) ++ List.replicate (S - 0) 0).map (Value.int .i64)) by
    have := Row.new (w1.alloc (.cells #[.slice Ac n cc, .int .i64 0, .slice none 0 0, .slice none 0 0] 30)) (List.replicate S (Value.int .i64 0)) 3
    simpa using this)
  clear y1 y1a
  go_loopw [26] (fun i wr => ∃ j : Nat, j ≤ S ∧ i = .int .i64 j ∧ Hid (CB w w.heap.size w1.heap.size A n c (S : Int) M m d E k g Ac cc a wr (.slice none 0 0) (.slice none 0 0) 0) ∧ Hid (Row wr (w1.heap.size + 1) 3 ((List.replicate j (-1 : Int) ++ List.replicate (S - j) 0).map (Value.int .i64))) ∧ wr.heap.size = w1.heap.size + 2) (fun i _ => S - (intOf i).toNat)
  case atStart => exact ⟨0, Nat.zero_le _, rfl, Lib.hid (hCB.out.alloc _), hN0, by simp⟩
  case round =>
    obtain ⟨j, hj, rfl, hcb, hno, hsz⟩ := hrel
    have HSZ := Lib.hid hsz
    clear hsz
    by_cases hlt : j < S
    · have hx := hno.out.cell j (v := .int .i64 0) (by
        rw [List.getElem?_map, List.getElem?_append_right (by simp), List.getElem?_replicate, if_pos (by simp; omega)]; rfl)
      have hf := hno.out.frozen j
      go_wp2_with fail
      go_roundw
      case rel => exact ⟨j + 1, by omega, by go_num, Lib.hid (hcb.out.far ((Below.refl _ _).setCell (p := ⟨w1.heap.size + 1, j, none⟩) (Nat.le_refl _) _)), Lib.hid (by
        have := hno.out.set j (.int .i64 (-1)); rwa [map_set_int, fill_step hlt] at this), by simp [World.setCell, HSZ.out]⟩
      case measure => simp [intOf]; omega
    · obtain rfl : j = S := by omega
      have hx := hno.out.cell 0 (v := .int .i64 (-1)) (by
        rw [Nat.sub_self, List.replicate_zero, List.append_nil, List.getElem?_map, List.getElem?_replicate, if_pos (by omega)]; rfl)
      have hf := hno.out.frozen 0
      have i0 : (0 : Int) < (j : Int) := by omega
      have hcb2 := Lib.hid ((hcb.out.far ((Below.refl _ _).setCell (p := ⟨w1.heap.size + 1, 0, none⟩) (Nat.le_refl _) (.int .i64 0))).alloc (.cells #[.int .i64 0] 3))
      have hnu2 := Lib.hid (show Row ((wr.setCell ⟨w1.heap.size + 1, 0, none⟩ (.int .i64 0)).alloc (.cells #[.int .i64 0] 3)) (w1.heap.size + 1) 3 ((numL [0] j).map (Value.int .i64)) by
        have := (hno.out.set 0 (.int .i64 0)).alloc (.cells #[.int .i64 0] 3)
        rw [map_set_int, Nat.sub_self, List.replicate_zero, List.append_nil] at this
        rwa [numL_zero hS0])
      have hfo2 := Lib.hid (show ((wr.setCell ⟨w1.heap.size + 1, 0, none⟩ (.int .i64 0)).alloc (.cells #[.int .i64 0] 3)).ownsRow (w1.heap.size + 2) 3 1 (.slice (some ⟨wr.heap.size, 0, none⟩) 1 1) 1 [.int .i64 0] by
        have := World.ownsRow_lit (base := w1.heap.size + 2) (size := 1) (e := 3) (wr.setCell ⟨w1.heap.size + 1, 0, none⟩ (.int .i64 0)) #[.int .i64 0] 1 (by rw [← HSZ.out]; simp [World.setCell]) (by unfold maxLen; omega) rfl
        simpa [World.setCell] using this)
      have e0 := hcb2.out.bx.cell 0 rfl
      have e1 := hcb2.out.bx.cell 1 rfl
      have e2 := hcb2.out.bx.cell 2 rfl
      have e3 := hcb2.out.bx.cell 3 rfl
      go_wp2_with fail
      refine (HES.out _ hcb2.out.bel).mono ?_
      rintro e w2 ⟨gS, rfl, hgS, hrS, hbw⟩
      have hz2 := hbw.size
      simp only [World.size_alloc, World.size_setCell] at hz2 hgS
      go_wp2_with fail
      have hcs := Lib.hid (show CS w w.heap.size w1.heap.size gS A n c (j : Int) M m d E k g j Ac cc a w2 (Fd a 0) (.slice (some ⟨wr.heap.size, 0, none⟩) 1 1) (canEn a 0) (.slice none 0 0) from
        { bel := hcb2.out.bel.trans (hbw.mono hcb2.out.bel.size)
          bx := hcb2.out.bx.below hbw hcb2.out.bx.lt
          res := hcb2.out.res.below hbw hcb2.out.res.lt
          cb := hcb2.out.cb.below hbw hcb2.out.cb.lt
          cl := hcb2.out.cl.below hbw (by have := HSZ.out; simp; omega)
          nu := hnu2.out.below hbw hnu2.out.lt
          st := hrS
          fo := by
            have := own_below hfo2.out hbw
            simpa [Own, Fd] using this
          eo := World.ownsRow_nil _ _ _ _
          fs := by simp [Value.ownBlock]; omega
          h1 := hcb2.out.h1
          h2 := by have := HSZ.out; omega
          h3 := hrS.lt })
      clear hcb hno hx hf hcb2 hnu2 hfo2 e0 e1 e2 e3 hrS hbw hgS hz2 hCB hN0 hmk HCL HES HA HA2 HRes HB1 hB1 hA1 hR1 hC1
      go_loopw [6, 8] (fun v i wr => ∃ (n0 : Nat) (ve : Value), i = .int .i64 n0 ∧ n0 ≤ j ∧ Hid (n0 ≤ (Fd a n0).length) ∧ Hid (CS w w.heap.size w1.heap.size gS A n c (j : Int) M m d E k g j Ac cc a wr (Fd a n0) v (canEn a n0) ve)) (fun _ i _ => j - (intOf i).toNat)
      case atStart => exact ⟨0, _, rfl, Nat.zero_le _, Nat.zero_le _, hcs⟩
      case round =>
        clear hcs
        obtain ⟨n0, ve, rfl, hnj, hnl, hcs⟩ := hrel
        have hst0 : 0 < a.st := by rw [HST.out]; omega
        have hrange := Fd_range HRI.out hst0 n0
        have hlen := Fd_len HRI.out hst0 n0
        rw [HST.out] at hrange hlen
        rw [Int.toNat_natCast] at hlen
        have HRG := Lib.hid hrange
        have HPR := Lib.hid (Fd_fnd HRI.out hst0 n0)
        obtain ⟨L, hL⟩ : ∃ L, L = (Fd a n0).length := ⟨_, rfl⟩
        have HL := Lib.hid hL
        have hL1 : 1 ≤ L := by have := (Fd_mono a 0 n0).length_le; rw [Nat.zero_add, ← hL] at this; simpa [Fd] using this
        obtain ⟨gF, cF, rfl, hgF, hcF, hcap, hcap2⟩ := own_shape hcs.out.fo hL hL1
        rw [← hL] at hlen
        clear hrange hst0
        by_cases hlt : n0 < L
        · have hq := HRG.out ((Fd a n0).getD n0 0) (getD_mem (by rw [← HL.out]; exact hlt))
          obtain ⟨Q, hQ⟩ : ∃ Q : Nat, (Fd a n0).getD n0 0 = (Q : Int) := ⟨((Fd a n0).getD n0 0).toNat, by omega⟩
          have hQj : Q < j := by rw [hQ] at hq; omega
          have c1 := hcF n0 hlt
          rw [hQ] at c1
          have HQ := Lib.hid hQ
          obtain ⟨Q1, hQ1⟩ : ∃ Q1, Q1 = Q + 1 := ⟨_, rfl⟩
          have HQ1 := Lib.hid hQ1
          have hQ1j : Q1 < j + 1 := by omega
          have c2 := hcs.out.st.int (j := Q) (by rw [startL_len]; omega)
          rw [startL_at (by omega)] at c2
          have c3 := hcs.out.st.int (j := Q1) (by rw [startL_len]; omega)
          rw [startL_at (by omega)] at c3
          have c4 := hcs.out.bx.cell 3 rfl
          have hsl := succ_len HRI.out.edo Q
          rw [← hQ1] at hsl
          have hmo := startN_mono a.ed Q
          rw [← hQ1] at hmo
          have hle := startN_le a.ed Q1
          rw [HR.out.hk] at hle
          have hat := Lib.hid (succ_at HRI.out.edo Q)
          rw [← hQ1] at hat
          obtain ⟨lo, hlo⟩ : ∃ lo, lo = startN a.ed Q := ⟨_, rfl⟩
          obtain ⟨hi, hhi⟩ : ∃ hi, hi = startN a.ed Q1 := ⟨_, rfl⟩
          rw [← hlo] at c2 hsl hmo hat
          rw [← hhi] at c3 hsl hmo hat hle
          have HSL := Lib.hid hsl
          have hwr : IntKind.i64.wrap ((Q : Int) + 1) = (Q1 : Int) := by rw [IntWalk.i64_in _ (by omega)]; omega
          have hkg := HR.out.ck.1
          have hkg2 := HR.out.ck.2
          have j0 : (0 : Int) ≤ (Q1 : Int) := by omega
          have j1 : (Q1 : Int) < (j : Int) + 1 := by omega
          have j2 : (Q : Int) < (j : Int) + 1 := by omega
          have j3 : (lo : Int) ≤ (hi : Int) := by omega
          have j4 : (hi : Int) ≤ (g : Int) := by omega
          have HcF := Lib.hid hcF
          obtain ⟨N, hN⟩ : ∃ N, N = hi - lo := ⟨_, rfl⟩
          have hNi : (hi : Int) - (lo : Int) = (N : Int) := by omega
          rw [← hN] at hsl hat
          have hNb : N ≤ 1000000 := by have := HR.out.bk; omega
          have HNN := Lib.hid hN
          have HNI := Lib.hid hNi
          have HSL := Lib.hid hsl
          have HqF := Lib.hid (show (Q : Int) = (fnd a).getD n0 0 by rw [getD_pre HPR.out (by rw [← HL.out]; exact hlt), HQ.out])
          have hhk := HR.out.hk
          have HED := Lib.hid HR.out.ed
          clear hq hcF hQ hQ1 hlo hhi hsl hL hN hNi
          go_upto_region 16 with fail
          go_cut [61, 62, 63] from 38 to 98 (fun v1 v2 v3 wx => ∃ (E1 : Option Addr) (c1 : Nat), v1 = .slice E1 N c1 ∧ v2 = .int .i64 (N : Int) ∧ v3 = .int .i64 0 ∧ Hid (RdG w B E1 (succ a.ed (Q : Int))) ∧ Hid (CS w w.heap.size w1.heap.size gS A n c (j : Int) M m d E k g j Ac cc a wx (Fd a n0) (.slice (some ⟨gF, 0, none⟩) L cF) (canEn a n0) ve))
          case first =>
            by_cases hne : lo < hi
            · obtain ⟨bE, oE, rfl, hbE, hcE⟩ := HED.out (by omega)
              have hgl : ¬ g = lo := by omega
              have hrd := Lib.hid (show RdG w B (some ⟨bE, oE + lo * 3, none⟩) (succ a.ed (Q : Int)) from fun _ => ⟨bE, oE + lo * 3, rfl, hbE, fun t x hx => by
                have htN : t < N := by have := (List.getElem?_eq_some_iff.1 hx).1; rw [HSL.out] at this; exact this
                rw [hat.out t htN] at hx
                have := hcE (lo + t) x hx
                rwa [show oE + (lo + t) * 3 = oE + lo * 3 + t * 3 by omega] at this⟩)
              clear hcE
              go_wp2_with fail
              go_quiet (fail)
              go_wp2_with fail
              go_meet
              case rel => exact ⟨_, _, by rw [HNN.out], by first | rfl | exact congrArg (Value.int .i64) (by have := HNI.out; omega), rfl, hrd, Lib.hid (hcs.out.drewN nq)⟩
            · have hN0 : N = 0 := by rw [HNN.out]; omega
              have hrd := Lib.hid (show ∀ E1, RdG w B E1 (succ a.ed (Q : Int)) from fun E1 h => by rw [HSL.out] at h; omega)
              obtain rfl : hi = lo := by omega
              rcases E with _ | ⟨bE, oE, fE⟩
              · go_wp2_with fail
                go_quiet (fail)
                go_wp2_with fail
                go_meet
                case rel => exact ⟨_, _, by rw [hN0], by first | rfl | exact congrArg (Value.int .i64) (by omega), rfl, hrd.out _, Lib.hid (hcs.out.drewN nq)⟩
              · by_cases hgl : g = hi
                all_goals
                  go_wp2_with fail
                  go_quiet (fail)
                  go_wp2_with fail
                  go_meet
                  case rel => exact ⟨_, _, by rw [hN0], by first | rfl | exact congrArg (Value.int .i64) (by omega), rfl, hrd.out _, Lib.hid (hcs.out.drewN nq)⟩
          case rest =>
            obtain ⟨E1, c1, rfl, rfl, rfl, hrd, hcs0⟩ := hcut
            clear hcs c2 c3 c4 hwr hat j0 j1 j2 j3 j4 HED
            go_wp2_with fail
            go_loopw [6, 63] (fun v i wx => ∃ (t : Nat) (ve : Value), i = .int .i64 t ∧ t ≤ N ∧ Hid (CS w w.heap.size w1.heap.size gS A n c (j : Int) M m d E k g j Ac cc a wx (visitL (Fd a n0) ((succ a.ed (Q : Int)).take t)) v (canEn a n0 ++ (outE a (fnd a) n0).take t) ve)) (fun _ i _ => N - (intOf i).toNat)
            case atStart => exact ⟨0, _, rfl, Nat.zero_le _, by rw [List.take_zero, List.take_zero, visitL_nil, List.append_nil]; exact hcs0⟩
            case round =>
              clear hcs0
              obtain ⟨t, ve, rfl, hth, hcs⟩ := hrel
              by_cases htl : t < N
              · obtain ⟨bE, oE, rfl, hbE, hcE⟩ := hrd.out (by rw [HSL.out]; omega)
                obtain ⟨x, hx⟩ : ∃ x, (succ a.ed (Q : Int))[t]? = some x := ⟨_, List.getElem?_eq_getElem (by rw [HSL.out]; omega)⟩
                have hxm := HRI.out.edr x (mem_succ.1 (List.mem_of_getElem? hx)).1
                rw [HST.out] at hxm
                have hxr : EdAt wr bE (oE + t * 3) x := (hcE t x hx).keep fun o => hcs.out.bel.cell (p := ⟨bE, o, none⟩) (Nat.lt_of_lt_of_le hbE hB)
                obtain ⟨xf, xe, xt⟩ := x
                simp only at hxm
                obtain ⟨T, rfl⟩ : ∃ T : Nat, xt = (T : Int) := ⟨xt.toNat, by omega⟩
                have hTj : T < j := by omega
                obtain ⟨fl, hfl⟩ : ∃ fl, fl = visitL (Fd a n0) ((succ a.ed (Q : Int)).take t) := ⟨_, rfl⟩
                have hfl2 := Lib.hid (show visitL (Fd a n0) ((succ a.ed (Q : Int)).take (t + 1)) = visit fl (T : Int) by rw [visitL_take hx, hfl])
                have hpre2 := visit_fnd (t := t + 1) HRI.out (by rw [HST.out]; omega) (by rw [← HL.out]; exact hlt) _ (by rw [HQ.out] : succ a.ed (Q : Int) = _)
                rw [hfl2.out] at hpre2
                have hes2 := outE_take HqF.out hx
                rw [idx_pre hpre2 (mem_visit.2 (Or.inr rfl))] at hes2
                obtain ⟨es, hes⟩ : ∃ es, es = canEn a n0 ++ (outE a (fnd a) n0).take t := ⟨_, rfl⟩
                have HE2 := Lib.hid (show canEn a n0 ++ (outE a (fnd a) n0).take (t + 1) = es ++ [⟨(n0 : Int), xe, ((visit fl (T : Int)).idxOf (T : Int) : Int)⟩] by rw [hes2, hes, List.append_assoc])
                have hess : es.length ≤ 1000000 := by
                  have h1 : n0 + 1 ≤ (fnd a).length := by have := HPR.out.length_le; rw [← HL.out] at this; omega
                  have h2 := canEn_len a h1
                  rw [canEn_succ, List.length_append, hhk] at h2
                  rw [hes, List.length_append, List.length_take]
                  have := HR.out.bk
                  omega
                rw [← hfl, ← hes] at hcs
                have hflj : fl.length ≤ j := nodup_len (by rw [hfl]; exact visitL_nodup _ (Fd_nodup a n0)) (fun x hx => by
                  have := fnd_range HRI.out x (hpre2.subset (mem_visit.2 (Or.inl hx))); rwa [HST.out] at this)
                obtain ⟨L2, hL2⟩ : ∃ L2, L2 = fl.length := ⟨_, rfl⟩
                have HL2 := Lib.hid hL2
                rw [← hL2] at hflj
                have hfp : Fd a n0 <+: fl := by rw [hfl]; exact visitL_pre _ _
                have hL21 : 1 ≤ L2 := by have := hfp.length_le; rw [← hL2, ← HL.out] at this; omega
                obtain ⟨gF2, cF2, rfl, hgF2, hcF2, hcap3, hcap4⟩ := own_shape hcs.out.fo hL2 hL21
                have n1 := hcs.out.nu.int (j := T) (by rw [numL_len]; omega)
                rw [numL_at hTj] at n1
                obtain ⟨nx, hnx⟩ : ∃ nx : Int, nx = if (T : Int) ∈ fl then (fl.idxOf (T : Int) : Int) else -1 := ⟨_, rfl⟩
                rw [← hnx] at n1
                have HNX := Lib.hid hnx
                clear hnx
                have f1 := hcs.out.nu.frozen T
                obtain ⟨z0, z1, z2⟩ := hxr
                have HCB := hcs.out.h3
                have k1 : w1.heap.size + 1 < wr.heap.size := by have := hcs.out.h2; omega
                clear hx hxm hfl hes hfp hL2 hcE hpre2 hes2
                go_upto_if 72 with fail
                go_cut [6, 63] from 63 to 98 (fun v i wx => i = .int .i64 (t : Int) ∧ Hid (CS w w.heap.size w1.heap.size gS A n c (j : Int) M m d E k g j Ac cc a wx (visit fl (T : Int)) v es ve) ∧ Hid (EdAt wx wr.heap.size 0 ⟨xf, xe, (T : Int)⟩) ∧ wr.heap.size < wx.heap.size)
                case first =>
                  by_cases hin : (T : Int) ∈ fl
                  · have hneg : ¬ nx < 0 := by rw [HNX.out, if_pos hin]; omega
                    have HIN := Lib.hid hin
                    clear hin
                    go_wp2_with fail
                    go_meet
                    case rel => exact ⟨rfl, by rw [visit_in HIN.out]; exact hcs.out.alloc _, EdAt.made' xf xe (T : Int) 70 rfl, by simp⟩
                  · have hneg : nx < 0 := by rw [HNX.out, if_neg hin]; omega
                    have HIN := Lib.hid hin
                    have hown4 := Lib.hid (show (((wr.setCell ⟨w1.heap.size + 1, T, none⟩ (.int .i64 (L2 : Int))).alloc (.cells #[.int .i64 xf, .int .i64 xe, .int .i64 (T : Int)] 70)).alloc (.cells #[.int .i64 (T : Int)] 3)).ownsRow (w1.heap.size + 2) 3 1 (.slice (some ⟨gF2, 0, none⟩) L2 cF2) L2 (fl.map (Value.int .i64)) by
                      have := ((ownsRow_setCell_below hcs.out.fo (a := ⟨w1.heap.size + 1, T, none⟩) (by simp) (.int .i64 (L2 : Int))).alloc (.cells #[.int .i64 xf, .int .i64 xe, .int .i64 (T : Int)] 70)).alloc (.cells #[.int .i64 (T : Int)] 3)
                      rwa [← HL2.out] at this)
                    have hX4 := Lib.hid (((EdAt.made' (w := wr.setCell ⟨w1.heap.size + 1, T, none⟩ (.int .i64 (L2 : Int))) xf xe (T : Int) 70 (World.size_setCell ..)).alloc (by simp) (.cells #[.int .i64 (T : Int)] 3)))
                    clear hin
                    go_wp2_with (at_builtin; refine wpList_append_lies _ rfl (.tmp 79) (.tmp 82) 27 rfl (w1.heap.size + 2) 3 iI (.int .i64 0) 1 8 Try.underlying27 iI0 iI1 iI2 iI3 rfl (by omega) (.slice (some ⟨gF2, 0, none⟩) L2 cF2) L2 (fl.map (Value.int .i64)) rfl hown4.out ⟨wr.heap.size + 1, 0, none⟩ 1 1 [.int .i64 (T : Int)] rfl rfl (news_one (by simp)) (by simp [Value.oneCell']) (by omega) (by unfold maxLen; omega) (by omega) (by simp; omega) (wr.heap.size + 2) (by simp) ?_; intro gN capN w5 hown5 hgrow5 hat5 hlt5)
                    have hrow5 : (wr.setCell ⟨w1.heap.size + 1, T, none⟩ (.int .i64 (L2 : Int))).grownBy w5 (some gF2) := grown_trans (grown_trans (World.grownBy_alloc _ _ _) (World.grownBy_alloc _ _ _)) hgrow5
                    have hcs5 := Lib.hid (CS.found hcs.out HIN.out hTj (by rw [← HL2.out]; exact hrow5) (by unfold Own; rw [List.length_append, ← HL2.out]; simpa using hown5) (by
                      rcases hat5 with h | h
                      · have := hcs.out.fs; rwa [h] at this
                      · simp [Value.ownBlock]; omega))
                    have hX5 := Lib.hid (hX4.out.grown hgrow5 (by simp; omega) (by simp [Value.ownBlock]; omega))
                    have hs5 : wr.heap.size < w5.heap.size := by have := hrow5.size; have := hgrow5.size; simp at this; omega
                    clear hrow5 hown5 hgrow5 hat5 hX4 hown4
                    go_wp2_with fail
                    go_meet
                    case rel => exact ⟨rfl, by rw [visit_new HIN.out]; exact hcs5, hX5, hs5⟩
                case rest =>
                  clear hcs n1 f1 z0 z1 z2 hcF2 HCB
                  obtain ⟨rfl, hcs5, hX5, hs5⟩ := hcut
                  obtain ⟨fl2, hf2⟩ : ∃ fl2, fl2 = visit fl (T : Int) := ⟨_, rfl⟩
                  rw [← hf2] at hcs5 HE2 hfl2
                  have n2 := hcs5.out.nu.int (j := T) (by rw [numL_len]; omega)
                  rw [numL_at hTj, if_pos (by rw [hf2]; exact mem_visit.2 (Or.inr rfl))] at n2
                  obtain ⟨ix, hix⟩ : ∃ ix, ix = fl2.idxOf (T : Int) := ⟨_, rfl⟩
                  rw [← hix] at n2 HE2
                  clear hf2 hix
                  have u0 := hcs5.out.cb.cell 3 rfl
                  have u3 := hcs5.out.cb.frozen 3
                  obtain ⟨q0, u1, u2⟩ := hX5.out.shift0
                  clear q0
                  have hbl : w1.heap.size < wc.heap.size := by omega
                  have v0 := fun cs : Array Value => (World.cell?_alloc_lt wc (.cells cs 70) ⟨w1.heap.size, 3, none⟩ hbl).trans u0
                  have v1 := fun cs : Array Value => (frozen?_alloc_cells wc cs 70 ⟨w1.heap.size, 3, none⟩).trans u3
                  have hneV : some w1.heap.size ≠ ve.ownBlock := fun h => by have := (hcs5.out.eo.lt _ h.symm).1; omega
                  go_wp2_with fail
                  go_region_law (first
                    | (refine step_append_lies _ (by rfl) (.tmp 85) (.tmp 95) _ (by rfl) (w1.heap.size + 2) 70 iE (.agg #[.int .i64 0, .int .i64 0, .int .i64 0]) 3 24 Try.underlying28 iE0 iE1 iE2 iE3 rfl (by omega) ve es.length (encE es) (by rfl) (by first | exact (hcs5.out.eo.alloc _).drew | exact (hcs5.out.eo.alloc _)) ⟨wc.heap.size, 0, none⟩ 1 1 [.int .i64 (n0 : Int), .int .i64 xe, .int .i64 (ix : Int)] (by rfl) (by rfl) (World.news_of_block (cs := #[.int .i64 (n0 : Int), .int .i64 xe, .int .i64 (ix : Int)]) (t := 70) (fr := (0, 0)) (heap_alloc_new wc _)) (by simp [Value.oneCell']) (by omega) (by unfold maxLen; omega) (by omega) (by simp; omega) (wc.heap.size + 1) (by simp) ?_; intro gG capG w6 hown6 hgrow6 hat6 hlt6; have hc6 := (hgrow6.cell_far ⟨w1.heap.size, 3, none⟩ (by simp; omega) hneV).trans (v0 _); have hf6 := (hgrow6.frozen_far ⟨w1.heap.size, 3, none⟩ (by simp; omega) hneV).trans (v1 _)))
                  all_goals
                    have hown7 : OwnE w6 (w1.heap.size + 2) (.slice (some ⟨gG, 0, none⟩) (es.length + 1) capG) (es ++ [⟨(n0 : Int), xe, (ix : Int)⟩]) := by
                      unfold OwnE; rw [encE_app, List.length_append]; exact hown6
                    have hcs7 := Lib.hid (show CS w w.heap.size w1.heap.size gS A n c (j : Int) M m d E k g j Ac cc a (w6.setCell ⟨w1.heap.size, 3, none⟩ (.slice (some ⟨gG, 0, none⟩) (es.length + 1) capG)) fl2 _ (es ++ [⟨(n0 : Int), xe, (ix : Int)⟩]) (.slice (some ⟨gG, 0, none⟩) (es.length + 1) capG) from by
                      first
                      | exact CS.edge (hcs5.out.alloc _) hgrow6 hown7
                      | exact CS.edge ((hcs5.out.alloc _).drew) hgrow6 hown7
                      | exact CS.edge (hcs5.out.drew.alloc _) hgrow6 hown7)
                    rw [← HE2.out, ← hfl2.out] at hcs7
                    clear hown7 hown6 hgrow6 hat6 hc6 hf6 hlt6
                    go_wp2_with fail
                    go_roundw
                    case measure => simp [intOf]; omega
                    case rel => exact ⟨t + 1, _, by go_num, by omega, by first | exact hcs7 | exact Lib.hid hcs7.out.drew⟩
              · obtain rfl : t = N := by omega
                have hFs : visitL (Fd a n0) ((succ a.ed (Q : Int)).take t) = Fd a (n0 + 1) := by
                  rw [List.take_of_length_le (by rw [HSL.out]; exact Nat.le_refl _), Fd_go (by rw [← HL.out]; exact hlt), HQ.out]
                have hEs : canEn a n0 ++ (outE a (fnd a) n0).take t = canEn a (n0 + 1) := by
                  rw [canEn_succ, List.take_of_length_le]
                  unfold outE
                  rw [List.length_map, ← HqF.out, HSL.out]; exact Nat.le_refl _
                rw [hFs, hEs] at hcs
                have hln := Lib.hid (show n0 + 1 ≤ (Fd a (n0 + 1)).length by have := (Fd_pre a n0).length_le; rw [← HL.out] at this; omega)
                clear hFs hEs
                go_wp2_with fail
                go_roundw
                case measure => simp [intOf]; omega
                case rel => exact ⟨n0 + 1, _, by go_num, by omega, hln, hcs⟩
        · obtain rfl : n0 = L := by have := hnl.out; rw [← HL.out] at this; omega
          have hfn : fnd a = Fd a n0 := fnd_at HRI.out (by rw [HST.out]; omega) (by rw [← HL.out]; exact Nat.le_refl _) (by rw [HST.out]; simp; omega)
          rw [← hfn] at hcs HL
          have hcm := Lib.hid (hcs.out.marked (ns := (n0 : Int)))
          have f1 := hcs.out.cb.frozen 1
          have e1 := hcs.out.cb.cell 1 rfl
          have e2 := hcm.out.bx.cell 2 rfl
          have hbm := HR.out.bm
          clear hcs hfn HRG HPR hcF hcap hcap2 hgF hL
          go_wp2_with fail
          go_loopw [105] (fun i wx => ∃ (t : Nat) (vm : Value), i = .int .i64 t ∧ t ≤ m ∧ Hid (CM w w.heap.size w1.heap.size A n c (j : Int) M m d E k g j Ac cc a (fnd a) (n0 : Int) (canEn a n0) ve wx (mkL (fnd a) (a.mr.take t)) vm)) (fun i _ => m - (intOf i).toNat)
          case atStart => exact ⟨0, _, rfl, Nat.zero_le _, hcm⟩
          case round =>
            clear hcm e1 e2 f1
            obtain ⟨t, vm, rfl, htm, hcm⟩ := hrel
            by_cases htl : t < m
            · obtain ⟨bM, oM, rfl, hbM, hcM⟩ := HR.out.mr (by rw [HR.out.hm]; omega)
              have hz : t < a.mr.length := by rw [HR.out.hm]; exact htl
              have h1 := hcM t hz
              obtain ⟨x, hx⟩ : ∃ x, x = a.mr.getD t 0 := ⟨_, rfl⟩
              rw [← hx] at h1
              have hxr := HRI.out.mrr x (by rw [hx]; exact getD_mem hz)
              rw [HST.out] at hxr
              obtain ⟨X, rfl⟩ : ∃ X : Nat, x = (X : Int) := ⟨x.toNat, by omega⟩
              have hXj : X < j := by omega
              have h2 : wr.cell? ⟨bM, oM + t, none⟩ = some (.int .i64 (X : Int)) := (hcm.out.bel.cell (p := ⟨bM, oM + t, none⟩) (Nat.lt_of_lt_of_le hbM hB)).trans h1
              have n1 := hcm.out.nu.int (j := X) (by rw [numL_len]; exact hXj)
              rw [numL_at hXj] at n1
              obtain ⟨nx, hnx⟩ : ∃ nx : Int, nx = if (X : Int) ∈ fnd a then ((fnd a).idxOf (X : Int) : Int) else -1 := ⟨_, rfl⟩
              rw [← hnx] at n1
              have c2 := hcm.out.cb.cell 2 rfl
              have f2 := hcm.out.cb.frozen 2
              have hsz1 := hcm.out.h2
              obtain ⟨ms, hms⟩ : ∃ ms, ms = mkL (fnd a) (a.mr.take t) := ⟨_, rfl⟩
              have hmsl := mkL_len (fnd a) a.mr t
              have HMS := Lib.hid hms
              rw [← hms] at hcm hmsl
              by_cases hin : (X : Int) ∈ fnd a
              · have hge : 0 ≤ nx := by rw [hnx, if_pos hin]; omega
                have hms2 := Lib.hid (show mkL (fnd a) (a.mr.take (t + 1)) = ms ++ [nx] by rw [mkL_yes hz (by rw [← hx]; exact hin), ← hx, hms, hnx, if_pos hin])
                have v0 := fun cs : Array Value => (World.cell?_alloc_lt wr (.cells cs 3) ⟨w1.heap.size, 2, none⟩ (by simp; omega)).trans c2
                have v1 := fun cs : Array Value => (frozen?_alloc_cells wr cs 3 ⟨w1.heap.size, 2, none⟩).trans f2
                have hneV : some w1.heap.size ≠ vm.ownBlock := fun h => by have := (hcm.out.mo.lt _ h.symm).1; omega
                clear hin hnx hx h1 hcM hms hz
                go_wp2_with fail
                go_region_law (first
                    | (refine step_append_lies _ (by rfl) (.tmp 115) (.tmp 120) _ (by rfl) (w1.heap.size + 2) 3 iI (.int .i64 0) 1 8 Try.underlying27 iI0 iI1 iI2 iI3 rfl (by omega) vm ms.length (ms.map (Value.int .i64)) (by rfl) (by first | exact (hcm.out.mo.alloc _).drew | exact (hcm.out.mo.alloc _)) ⟨wr.heap.size, 0, none⟩ 1 1 [.int .i64 nx] (by rfl) (by rfl) (World.news_of_block (cs := #[.int .i64 nx]) (t := 3) (fr := (0, 0)) (heap_alloc_new wr _)) (by simp [Value.oneCell']) (by omega) (by unfold maxLen; omega) (by omega) (by simp; omega) (wr.heap.size + 1) (by simp) ?_; intro gG capG w6 hown6 hgrow6 hat6 hlt6; have hc6 := (hgrow6.cell_far ⟨w1.heap.size, 2, none⟩ (by simp; omega) hneV).trans (v0 _); have hf6 := (hgrow6.frozen_far ⟨w1.heap.size, 2, none⟩ (by simp; omega) hneV).trans (v1 _)))
                all_goals
                  have hown7 : Own w6 (w1.heap.size + 2) (.slice (some ⟨gG, 0, none⟩) (ms.length + 1) capG) (ms ++ [nx]) := by
                    unfold Own; rw [List.map_append, List.length_append]; exact hown6
                  have hcm7 := Lib.hid (show CM w w.heap.size w1.heap.size A n c (j : Int) (some ⟨bM, oM, none⟩) m d E k g j Ac cc a (fnd a) (n0 : Int) (canEn a n0) ve (w6.setCell ⟨w1.heap.size, 2, none⟩ (.slice (some ⟨gG, 0, none⟩) (ms.length + 1) capG)) (ms ++ [nx]) (.slice (some ⟨gG, 0, none⟩) (ms.length + 1) capG) from by
                    first
                    | exact CM.mark (hcm.out.alloc _) hgrow6 hown7
                    | exact CM.mark ((hcm.out.alloc _).drew) hgrow6 hown7
                    | exact CM.mark (hcm.out.drew.alloc _) hgrow6 hown7)
                  rw [← hms2.out] at hcm7
                  clear hown7 hown6 hgrow6 hat6 hc6 hf6 hlt6
                  go_wp2_with fail
                  go_roundw
                  case measure => simp [intOf]; omega
                  case rel => exact ⟨t + 1, _, by go_num, by omega, by first | exact hcm7 | exact Lib.hid hcm7.out.drew⟩
              · have hge : ¬ 0 ≤ nx := by rw [hnx, if_neg hin]; omega
                have hms2 := Lib.hid (show mkL (fnd a) (a.mr.take (t + 1)) = ms by rw [mkL_no hz (by rw [← hx]; exact hin), hms])
                clear hin hnx hx h1 hcM hms hz
                rw [← hms2.out] at hcm
                go_wp2_with fail
                go_roundw
                case measure => simp [intOf]; omega
                case rel => exact ⟨t + 1, _, by go_num, by omega, hcm⟩
            · obtain rfl : t = m := by omega
              rw [List.take_of_length_le (by rw [HR.out.hm]; exact Nat.le_refl _)] at hcm
              have c2 := hcm.out.cb.cell 2 rfl
              have hml := mkL_len (fnd a) a.mr t
              rw [List.take_of_length_le (by rw [HR.out.hm]; exact Nat.le_refl _)] at hml
              have hso := Lib.hid (sort_own wr hcm.out.mo (by omega))
              clear hml
              go_wp2_with fail
              refine hso.out.mono ?_
              rintro e w6 ⟨rfl, ho6, hg6⟩
              have hcm6 := hcm.out.sorted hg6 ho6
              rw [srt_mk HRI.out] at hcm6
              obtain ⟨M2, c2m, rfl, hM1, hM2, hM3⟩ := own_rdc hcm6.mo
              obtain ⟨E2, g2, rfl, hE1, hE2, hE3⟩ := ownE_rd hcm6.eo
              have HM1 := Lib.hid hM1
              have HE1 := Lib.hid hE1
              have d0 := hcm6.cb.cell 0 rfl
              have d1 := hcm6.cb.cell 1 rfl
              have d2 := hcm6.cb.cell 2 rfl
              have d3 := hcm6.cb.cell 3 rfl
              have r0 := hcm6.res.cell 0 rfl
              have r1 := hcm6.res.cell 1 rfl
              have r2 := hcm6.res.cell 2 rfl
              have r3 := hcm6.res.cell 3 rfl
              have s0 := hcm6.res.frozen 0
              have s1 := hcm6.res.frozen 1
              have s2 := hcm6.res.frozen 2
              have s3 := hcm6.res.frozen 3
              have HCM := Lib.hid hcm6
              clear hcm hso ho6 hg6 hcm6 hM1 hE1
              go_wp2_with fail
              (try simp only [Exit.inBlock, Exit.then])
              have hfin := (((CR.mk HCM.out.bel HCM.out.cl HCM.out.mo HCM.out.eo HCM.out.h1 (by have := HCM.out.h2; omega)).set HAC.out 0 (.slice Ac n cc) |>.set HAC.out 1 (.int .i64 (n0 : Int)) |>.set HAC.out 2 (.slice M2 (canM a).length c2m) |>.set HAC.out 3 (.slice E2 (canEn a n0).length g2))).gives' HAC.out HL.out HR.out.hn HCC.out HR.out.bn (by have := canM_len a; rw [← HL.out] at this; omega) (by have := canEn_len a (n := n0) (by rw [← HL.out]; exact Nat.le_refl _); rw [HR.out.hk] at this; omega)
              refine bodyPost_ret (v := .agg #[.slice Ac n cc, .int .i64 (n0 : Int), .slice M2 (canM a).length c2m, .slice E2 (canEn a n0).length g2]) ?_ rfl ⟨_, rfl, hfin.1, hfin.2⟩
              rw [results_cell1 rfl]
              go_simp
end Go.Proofs.Ytceldgcmjmfjfaa

/- Layer 3: canonical and Canonical of the program, every automaton. -/
namespace Go.Proofs.Ytceldgcmjmfjfaa
open Go.RowKit Go.Sort

theorem canA_zero {a : Au} (h : a.st = 0) : canA a = ⟨a.al, 0, [], []⟩ := by
  have : fnd a = [] := by rw [fnd, if_pos (by omega)]
  simp [canA, this, canM, canEn]
theorem fnd_zero {a : Au} (h : a.st = 0) : fnd a = [] := by rw [fnd, if_pos (by omega)]

set_option maxHeartbeats 1000000 in
theorem canonical_zero (A : Option Addr) (n c : Nat) (s : Int) (M : Option Addr) (m d : Nat) (E : Option Addr) (k g : Nat) (a : Au) (B : Nat) (w : World) (h : AuR w B A n c s M m d E k g a) (hB : B ≤ w.heap.size) (hS : s = 0) :
    Calls Try.prog 60 #[.agg #[.slice A n c, .int .i64 s, .slice M m d, .slice E k g]] w fun e w' => ∃ v, e = .returned v ∧ AuF (canA a) v w' w.heap.size ∧ Below w.heap.size w w' := by
  have hst := h.st
  subst hS
  have hca := Lib.hid (canA_zero hst)
  have HR := Lib.hid h
  have HA := Lib.hid (Row.new w [.slice A n c, .int .i64 0, .slice M m d, .slice E k g] 30)
  have HA2 := Lib.hid (HA.out.alloc (.cells #[.slice none 0 0, .int .i64 0, .slice none 0 0, .slice none 0 0] 30))
  have HRes := Lib.hid (Row.new (w.alloc (.cells #[.slice A n c, .int .i64 0, .slice M m d, .slice E k g] 30)) [.slice none 0 0, .int .i64 0, .slice none 0 0, .slice none 0 0] 30)
  have HB1 := Lib.hid (((Below.refl w.heap.size w).alloc (Nat.le_refl _) (.cells #[.slice A n c, .int .i64 0, .slice M m d, .slice E k g] 30)).alloc (by simp) (.cells #[.slice none 0 0, .int .i64 0, .slice none 0 0, .slice none 0 0] 30))
  have HCL := Lib.hid (clone_sl A n c a.al _ (((h.al.more hB).below HB1.out (Nat.le_refl _)).more HB1.out.size) h.hn (by have := h.bn; omega))
  clear h hst
  go_enter Try.func60, Try.ntmps60
  go_wp2_with fail
  refine HCL.out.mono ?_
  rintro e w1 ⟨Ac, cc, rfl, hoc, hbw⟩
  rw [HR.out.hn] at *
  have hz := hbw.size
  simp only [World.size_alloc] at hz
  have hB1 := Lib.hid (HB1.out.trans (hbw.mono (by simp; omega)))
  have hA1 := Lib.hid (HA2.out.below hbw (by simp; omega))
  have hR1 := Lib.hid (show Row w1 (w.heap.size + 1) 30 [.slice none 0 0, .int .i64 0, .slice none 0 0, .slice none 0 0] by have := HRes.out.below hbw (by simp); simpa using this)
  have hC1 := Lib.hid hoc
  have HCC := Lib.hid (show n ≤ cc ∧ cc ≤ 9223372036854775807 from by
    obtain ⟨A', c', e, _, q1, q2⟩ := own_rdc hoc
    injection e with e1 e2 e3
    rw [HR.out.hn] at q1; subst e3; exact ⟨q1, q2⟩)
  have HAC := Lib.hid (show ∀ b o f, Ac = some ⟨b, o, f⟩ → w.heap.size + 1 < b from fun b o f e => by
    subst e
    have := (hoc.lt b rfl).1
    simp at this; omega)
  have hrd := Lib.hid (show RdI w1 w1.heap.size Ac a.al by
    obtain ⟨A', c', e, hrd⟩ := own_rd hoc
    injection e with e1 e2 e3
    subst e1
    exact hrd)
  clear hoc hbw
  have hbl : w.heap.size + 1 < w1.heap.size := by omega
  have y1 := (hA1.out.alloc (.cells #[.slice Ac n cc, .int .i64 0, .slice none 0 0, .slice none 0 0] 30)).cell 1 rfl
  have hR2 := Lib.hid (hR1.out.alloc (.cells #[.slice Ac n cc, .int .i64 0, .slice none 0 0, .slice none 0 0] 30))
  have r0 := hR2.out.cell 0 rfl
  have r1 := hR2.out.cell 1 rfl
  have r2 := hR2.out.cell 2 rfl
  have r3 := hR2.out.cell 3 rfl
  have s0 := hR2.out.frozen 0
  have s1 := hR2.out.frozen 1
  have s2 := hR2.out.frozen 2
  have s3 := hR2.out.frozen 3
  have r0' := hR1.out.cell 0 rfl
  have r1' := hR1.out.cell 1 rfl
  have r2' := hR1.out.cell 2 rfl
  have r3' := hR1.out.cell 3 rfl
  have s0' := hR1.out.frozen 0
  have s1' := hR1.out.frozen 1
  have s2' := hR1.out.frozen 2
  have s3' := hR1.out.frozen 3
  have y1' := hA1.out.cell 1 rfl
  go_wp2_with fail
  (try simp only [Exit.inBlock, Exit.then])
  have hcr : CR w w.heap.size w1.heap.size Ac a.al (canM a) (canEn a 0) (.slice none 0 0) (.slice none 0 0) w1 :=
    { bel := hB1.out
      cl := hrd.out
      mo := by
        have : canM a = [] := by rw [canM, fnd_zero HR.out.st]; rfl
        rw [this]; exact World.ownsRow_nil _ _ _ _
      eo := World.ownsRow_nil _ _ _ _
      h1 := hbl
      h2 := Nat.le_refl _ }
  have hfin := ((hcr.set HAC.out 0 (.slice Ac n cc) |>.set HAC.out 1 (.int .i64 0) |>.set HAC.out 2 (.slice none 0 0) |>.set HAC.out 3 (.slice none 0 0)).alloc (.cells #[.slice Ac n cc, .int .i64 0, .slice none 0 0, .slice none 0 0] 30)).gives' (n0 := 0) HAC.out (by rw [fnd_zero HR.out.st]; rfl) HR.out.hn HCC.out HR.out.bn (by have := canM_len a; rw [fnd_zero HR.out.st] at this; simp at this; rw [this]; simp) (by simp [canEn])
  refine bodyPost_ret (v := .agg #[.slice Ac n cc, .int .i64 0, .slice none 0 0, .slice none 0 0]) ?_ rfl ⟨_, rfl, hfin.1, hfin.2⟩
  rw [results_cell1 rfl]
  go_simp

/-- canonical, every right automaton. -/
theorem canon_all (A : Option Addr) (n c : Nat) (s : Int) (M : Option Addr) (m d : Nat) (E : Option Addr) (k g : Nat) (a : Au) (B : Nat) (w : World) (h : AuR w B A n c s M m d E k g a) (hB : B ≤ w.heap.size) (hr : RightW a) (hb : a.st ≤ 5000) :
    Calls Try.prog 60 #[.agg #[.slice A n c, .int .i64 s, .slice M m d, .slice E k g]] w fun e w' => ∃ v, e = .returned v ∧ AuF (canA a) v w' w.heap.size ∧ Below w.heap.size w w' := by
  have h0 := hr.st0
  have hs := h.st
  by_cases hz : a.st = 0
  · exact canonical_zero A n c s M m d E k g a B w h hB (by omega)
  · exact canonical_any A n c s M m d E k g a a.st.toNat B w h hB hr (by omega) (by omega) (by omega)

end Go.Proofs.Ytceldgcmjmfjfaa

/- Layer 3: Canonical of the program. -/
namespace Go.Proofs.Ytceldgcmjmfjfaa
open Go.RowKit Go.Sort

def zeroA : Au := ⟨[], 0, [], []⟩
/-- What Canonical hands back. -/
def canR (a : Au) : Au × Int := if chkE a ≠ 0 then (zeroA, chkE a) else (canA a, 0)
/-- An automaton in new memory and an error. -/
def GivesA (w : World) (r : Au × Int) (e : Ending) (w' : World) : Prop := ∃ v, e = .returned (.tuple #[v, .int .i64 r.2]) ∧ AuF r.1 v w' w.heap.size ∧ Below w.heap.size w w'
theorem AuF.set4 {a : Au} {v : Value} {w : World} {base X : Nat} (h : AuF a v w base) (hX : X < base) (v0 v1 v2 v3 : Value) : AuF a v ((((w.setCell ⟨X, 0, none⟩ v0).setCell ⟨X, 1, none⟩ v1).setCell ⟨X, 2, none⟩ v2).setCell ⟨X, 3, none⟩ v3) base :=
  (((h.set hX 0 v0).set hX 1 v1).set hX 2 v2).set hX 3 v3
theorem below_set4 {w w' : World} {B X : Nat} (h : Below B w w') (hX : B ≤ X) (v0 v1 v2 v3 : Value) : Below B w ((((w'.setCell ⟨X, 0, none⟩ v0).setCell ⟨X, 1, none⟩ v1).setCell ⟨X, 2, none⟩ v2).setCell ⟨X, 3, none⟩ v3) :=
  (((h.setCell (p := ⟨X, 0, none⟩) hX v0).setCell (p := ⟨X, 1, none⟩) hX v1).setCell (p := ⟨X, 2, none⟩) hX v2).setCell (p := ⟨X, 3, none⟩) hX v3

set_option maxHeartbeats 1000000 in
theorem mCanonical_any (A : Option Addr) (n c : Nat) (s : Int) (M : Option Addr) (m d : Nat) (E : Option Addr) (k g : Nat) (a : Au) (w : World) (h : AuR w w.heap.size A n c s M m d E k g a) :
    Calls Try.prog 57 #[.agg #[.slice A n c, .int .i64 s, .slice M m d, .slice E k g]] w fun e w' => GivesA w (canR a) e w' := by
  have hb1 := ((Below.refl w.heap.size w).alloc (Nat.le_refl _) (.cells #[.slice A n c, .int .i64 s, .slice M m d, .slice E k g] 30)).alloc (by simp) (.cells #[.slice none 0 0, .int .i64 0, .slice none 0 0, .slice none 0 0] 30)
  have HB1 := Lib.hid hb1
  have hR1 := h.below hb1 (Nat.le_refl _)
  have HC := Lib.hid (mCheck_any A n c s M m d E k g a _ (hR1.more (by simp; omega)))
  have HA := Lib.hid ((Row.new w [.slice A n c, .int .i64 s, .slice M m d, .slice E k g] 30).alloc (.cells #[.slice none 0 0, .int .i64 0, .slice none 0 0, .slice none 0 0] 30))
  have HRes := Lib.hid (Row.new (w.alloc (.cells #[.slice A n c, .int .i64 s, .slice M m d, .slice E k g] 30)) [.slice none 0 0, .int .i64 0, .slice none 0 0, .slice none 0 0] 30)
  have HR := Lib.hid h
  obtain ⟨u, hu⟩ : ∃ u, u = chkE a := ⟨_, rfl⟩
  rw [← hu] at HC
  have HU := Lib.hid hu
  clear h hR1 hu hb1
  by_cases h0 : u = 0
  · have hb0 : (u != 0) = false := by simp [h0]
    have hri := right_of (a := a) (by rw [← HU.out, h0])
    have hS := Lib.hid (fun W (hW : Below w.heap.size w W) => canon_all A n c s M m d E k g a w.heap.size W (HR.out.below hW (Nat.le_refl _)) hW.size hri.toRightW (by have := hri.st1; omega))
    have hr := Lib.hid (show canR a = (canA a, 0) by rw [canR, if_neg (by rw [← HU.out, h0]; simp)])
    clear h0 hri
    go_enter Try.func57, Try.ntmps57
    go_wp2_with fail
    refine HC.out.mono ?_
    rintro e w1 ⟨rfl, hbw⟩
    have hA1 := Lib.hid (HA.out.below hbw (by simp; omega))
    have hR1 := Lib.hid (show Row w1 (w.heap.size + 1) 30 [.slice none 0 0, .int .i64 0, .slice none 0 0, .slice none 0 0] by have := HRes.out.below hbw (by simp); simpa using this)
    have hB1 := Lib.hid (HB1.out.trans (hbw.mono (by simp; omega)))
    have hz := hbw.size
    simp only [World.size_alloc] at hz
    clear hbw
    have p0 := hA1.out.cell 0 rfl
    have p1 := hA1.out.cell 1 rfl
    have p2 := hA1.out.cell 2 rfl
    have p3 := hA1.out.cell 3 rfl
    go_wp2_with fail
    refine (hS.out _ hB1.out).mono ?_
    rintro e w2 ⟨v, rfl, hau, hbw⟩
    have hR2 := hR1.out.below hbw (by omega)
    have hB2 := Lib.hid (hB1.out.trans (hbw.mono hB1.out.size))
    obtain ⟨A2, n2, c2, s2, M2, m2, d2, E2, k2, g2, rfl, hrest⟩ := hau
    have hau2 := Lib.hid (show AuF (canA a) (.agg #[.slice A2 n2 c2, .int .i64 s2, .slice M2 m2 d2, .slice E2 k2 g2]) w2 w1.heap.size from ⟨_, _, _, _, _, _, _, _, _, _, rfl, hrest⟩)
    have r0 := hR2.cell 0 rfl
    have r1 := hR2.cell 1 rfl
    have r2 := hR2.cell 2 rfl
    have r3 := hR2.cell 3 rfl
    have s0 := hR2.frozen 0
    have s1 := hR2.frozen 1
    have s2' := hR2.frozen 2
    have s3 := hR2.frozen 3
    clear p0 p1 p2 p3 hrest hR2 hbw
    go_wp2_with fail
    (try simp only [Exit.inBlock, Exit.then])
    refine bodyPost_ret (v := .tuple #[.agg #[.slice A2 n2 c2, .int .i64 s2, .slice M2 m2 d2, .slice E2 k2 g2], .int .i64 0]) ?_ rfl ⟨.agg #[.slice A2 n2 c2, .int .i64 s2, .slice M2 m2 d2, .slice E2 k2 g2], by rw [hr.out], ?_, ?_⟩
    · rw [results_cell_tmp1 rfl]
      go_simp
    · rw [hr.out]
      exact (hau2.out.set4 (by omega) _ _ _ _).more (by omega)
    · exact below_set4 hB2.out (by omega) _ _ _ _
  · have hb0 : (u != 0) = true := by simp [h0]
    have hr := Lib.hid (show canR a = (zeroA, u) by rw [canR, ← HU.out, if_pos h0])
    clear h0
    go_enter Try.func57, Try.ntmps57
    go_wp2_with fail
    refine HC.out.mono ?_
    rintro e w1 ⟨rfl, hbw⟩
    have hR1 := Lib.hid (show Row w1 (w.heap.size + 1) 30 [.slice none 0 0, .int .i64 0, .slice none 0 0, .slice none 0 0] by have := HRes.out.below hbw (by simp); simpa using this)
    have hB1 := Lib.hid (HB1.out.trans (hbw.mono (by simp; omega)))
    clear hbw
    have r0 := hR1.out.cell 0 rfl
    have r1 := hR1.out.cell 1 rfl
    have r2 := hR1.out.cell 2 rfl
    have r3 := hR1.out.cell 3 rfl
    have s0 := hR1.out.frozen 0
    have s1 := hR1.out.frozen 1
    have s2 := hR1.out.frozen 2
    have s3 := hR1.out.frozen 3
    go_wp2_with fail
    (try simp only [Exit.inBlock, Exit.then])
    refine bodyPost_ret (v := .tuple #[.agg #[.slice none 0 0, .int .i64 0, .slice none 0 0, .slice none 0 0], .int .i64 u]) ?_ rfl ⟨_, by rw [hr.out], ?_, ?_⟩
    · rw [results_cell_tmp1 rfl]
      go_simp
    · rw [hr.out]; exact AuF.zero _ _
    · exact below_set4 hB1.out (by omega) _ _ _ _
end Go.Proofs.Ytceldgcmjmfjfaa

/- Layer 3, the mathematics of the canonical form: it is right, it is its own canonical form, it has the same languages. -/
namespace Go.Proofs.Ytceldgcmjmfjfaa
open Go.RowKit Go.Sort

theorem fnd_closed {a : Au} (h : RightW a) {i : Nat} (hi : i < (fnd a).length) {x : Ed} (hx : x ∈ succ a.ed ((fnd a).getD i 0)) : x.t ∈ fnd a := by
  by_cases h0 : 0 < a.st
  · have hl := fnd_len h
    have hlt : i < (Fd a i).length := by
      by_cases hh : i < (Fd a i).length
      · exact hh
      · rw [fnd_at h h0 (n := i) (by omega) (by omega)] at hi; exact hi
    have hp := Fd_fnd h h0 i
    rw [getD_pre hp hlt] at hx
    have h1 : x.t ∈ Fd a (i + 1) := by rw [Fd_go hlt, mem_visitL]; exact .inr ⟨x, hx, rfl⟩
    exact (Fd_fnd h h0 (i + 1)).subset h1
  · rw [fnd, if_pos (by omega)] at hi; simp at hi
theorem mem_canEn {a : Au} {n : Nat} {y : Ed} : y ∈ canEn a n ↔ ∃ i : Nat, i < n ∧ ∃ x ∈ succ a.ed ((fnd a).getD i 0), y = ⟨(i : Int), x.e, ((fnd a).idxOf x.t : Int)⟩ := by
  unfold canEn outE
  simp only [List.mem_flatMap, List.mem_range, List.mem_map]
  constructor
  · rintro ⟨i, hi, x, hx, e⟩; exact ⟨i, hi, x, hx, e.symm⟩
  · rintro ⟨i, hi, x, hx, e⟩; exact ⟨i, hi, x, hx, e.symm⟩
theorem outE_sorted {a : Au} (h : RightW a) (n : Nat) : (outE a (fnd a) n).Pairwise ltE := by
  unfold outE
  rw [List.pairwise_map]
  exact (succ_sorted h.edo _).imp fun hlt => by unfold ltE; simp; exact hlt
theorem canEn_sorted {a : Au} (h : RightW a) : ∀ n, (canEn a n).Pairwise ltE
  | 0 => by simp [canEn]
  | n + 1 => by
    rw [canEn_succ, List.pairwise_append]
    refine ⟨canEn_sorted h n, outE_sorted h n, fun x hx y hy => ?_⟩
    obtain ⟨i, hi, z, _, rfl⟩ := mem_canEn.1 hx
    unfold outE at hy
    obtain ⟨z2, _, rfl⟩ := List.mem_map.1 hy
    unfold ltE; simp; omega
theorem can_right {a : Au} (h : RightW a) : RightW (canA a) where
  alr := h.alr
  alo := h.alo
  st0 := by simp [canA]
  mrr x hx := by
    obtain ⟨i, h1, _, rfl⟩ := mem_canM.1 hx
    simp [canA]; omega
  mro := canM_lt a
  edr y hy := by
    obtain ⟨i, hi, x, hx, rfl⟩ := mem_canEn.1 hy
    have ht := List.idxOf_lt_length_iff.2 (fnd_closed h hi hx)
    refine ⟨by simp [canA]; omega, by simp [canA]; omega, (h.edr x (mem_succ.1 hx).1).2.2⟩
  edo := canEn_sorted h _
theorem Right.can {a : Au} (h : Right a) : Right (canA a) :=
  { can_right h.toRightW with st1 := by have := fnd_len h.toRightW; have := h.st1; have := h.st0; simp [canA]; omega }
theorem chk_can {a : Au} (h : chkE a = 0) : chkE (canA a) = 0 := (right_of h).can.chk

/-- The edges of a state of the canonical form. -/
theorem succ_canEn {a : Au} (i : Nat) : ∀ n, succ (canEn a n) (i : Int) = if i < n then outE a (fnd a) i else []
  | 0 => by simp [canEn, succ]
  | n + 1 => by
    rw [canEn_succ, succ, List.filter_append]
    have h1 := succ_canEn (a := a) i n
    unfold succ at h1
    rw [h1]
    have h2 : (outE a (fnd a) n).filter (fun x => decide (x.f = (i : Int))) = if i = n then outE a (fnd a) n else [] := by
      by_cases e : i = n
      · rw [if_pos e, List.filter_eq_self]
        intro x hx; unfold outE at hx; obtain ⟨z, _, rfl⟩ := List.mem_map.1 hx; simp [e]
      · rw [if_neg e, List.filter_eq_nil_iff]
        intro x hx; unfold outE at hx; obtain ⟨z, _, rfl⟩ := List.mem_map.1 hx; simp; omega
    rw [h2]
    by_cases e : i = n
    · subst e; rw [if_neg (by omega), if_pos rfl, if_pos (by omega), List.nil_append]
    · by_cases e2 : i < n
      · rw [if_pos e2, if_neg e, if_pos (by omega), List.append_nil]
      · rw [if_neg e2, if_neg e, if_neg (by omega), List.append_nil]
theorem succ_can {a : Au} {i : Nat} (hi : i < (fnd a).length) : succ (canA a).ed (i : Int) = outE a (fnd a) i := by
  show succ (canEn a (fnd a).length) (i : Int) = _
  rw [succ_canEn, if_pos hi]
/-- A step of the canonical form. -/
theorem step_can {a : Au} (h : RightW a) {i : Nat} (hi : i < (fnd a).length) (ev : Int) : stepO (canA a) (i : Int) ev = (stepO a ((fnd a).getD i 0) ev).map fun t => ((fnd a).idxOf t : Int) := by
  have hc := can_right h
  unfold stepO
  cases he : edgeO a.ed ((fnd a).getD i 0) ev with
  | none =>
    have : edgeO (canA a).ed (i : Int) ev = none := by
      rw [edgeO_none] at he ⊢
      rintro y hy ⟨h1, h2⟩
      have hy2 : y ∈ succ (canA a).ed (i : Int) := mem_succ.2 ⟨hy, h1⟩
      rw [succ_can hi] at hy2
      unfold outE at hy2
      obtain ⟨x, hx, rfl⟩ := List.mem_map.1 hy2
      exact he x (mem_succ.1 hx).1 ⟨(mem_succ.1 hx).2, h2⟩
    rw [this]; rfl
  | some x =>
    obtain ⟨h1, h2, h3⟩ := (edgeO_some h.edo).1 he
    have : edgeO (canA a).ed (i : Int) ev = some ⟨(i : Int), x.e, ((fnd a).idxOf x.t : Int)⟩ := by
      rw [edgeO_some hc.edo]
      refine ⟨?_, rfl, h3⟩
      exact mem_canEn.2 ⟨i, hi, x, mem_succ.2 ⟨h1, h2⟩, rfl⟩
    rw [this]; rfl
theorem step_in {a : Au} (h : RightW a) {q ev t : Int} (hq : q ∈ fnd a) (hs : stepO a q ev = some t) : t ∈ fnd a := by
  unfold stepO at hs
  cases he : edgeO a.ed q ev with
  | none => rw [he] at hs; simp at hs
  | some x =>
    rw [he] at hs; simp at hs; subst hs
    obtain ⟨h1, h2, h3⟩ := (edgeO_some h.edo).1 he
    refine fnd_closed h (i := (fnd a).idxOf q) (List.idxOf_lt_length_iff.2 hq) ?_
    rw [getD_idxOf hq]; exact mem_succ.2 ⟨h1, h2⟩
theorem run_can {a : Au} (h : RightW a) : ∀ (ws : List Int) (q : Int), q ∈ fnd a → (runE a q ws).1 ∈ fnd a ∧ runE (canA a) ((fnd a).idxOf q : Int) ws = (((fnd a).idxOf (runE a q ws).1 : Int), (runE a q ws).2)
  | [], q, hq => by rw [runE_nil, runE_nil]; exact ⟨hq, rfl⟩
  | x :: ws, q, hq => by
    have hs := step_can h (List.idxOf_lt_length_iff.2 hq) x
    rw [getD_idxOf hq] at hs
    cases e : stepO a q x with
    | none => rw [runE_stop e, runE_stop (by rw [hs, e]; rfl)]; exact ⟨hq, rfl⟩
    | some t =>
      have ht := step_in h hq e
      obtain ⟨h1, h2⟩ := run_can h ws t ht
      rw [runE_go e, runE_go (t := ((fnd a).idxOf t : Int)) (by rw [hs, e]; rfl), h2]
      exact ⟨h1, rfl⟩
theorem zero_fnd {a : Au} (h : RightW a) (h0 : 0 < a.st) : (0 : Int) ∈ fnd a ∧ (fnd a).idxOf 0 = 0 := by
  have hp : [(0 : Int)] <+: fnd a := Fd_fnd h h0 0
  refine ⟨hp.subset (by simp), ?_⟩
  rw [idx_pre hp (by simp)]; simp
theorem gen_can {a : Au} (h : RightW a) (ws : List Int) : genB (canA a) ws = genB a ws := by
  have h0 := h.st0
  by_cases hz : a.st = 0
  · have : (canA a).st = 0 := by simp [canA, fnd, hz]
    simp [genB, hz, this]
  · obtain ⟨hm, hi⟩ := zero_fnd h (by omega)
    have hr := (run_can h ws 0 hm).2
    rw [hi] at hr
    have hl := List.length_pos_of_mem hm
    have hs : ¬ (canA a).st = 0 := by simp [canA]; intro e; rw [e] at hl; simp at hl
    have hr2 : (runE (canA a) 0 ws).2 = (runE a 0 ws).2 := by have := congrArg Prod.snd hr; simpa using this
    simp [genB, hz, hs, hr2]
theorem acc_can {a : Au} (h : RightW a) (ws : List Int) : accB (canA a) ws = accB a ws := by
  unfold accB
  rw [gen_can h]
  cases hg : genB a ws with
  | false => rfl
  | true =>
    have hz : a.st ≠ 0 := by unfold genB at hg; simp at hg; exact hg.1
    have h0 := h.st0
    obtain ⟨hm, hi⟩ := zero_fnd h (by omega)
    obtain ⟨hq, hr⟩ := run_can h ws 0 hm
    rw [hi] at hr
    have hr1 : (runE (canA a) 0 ws).1 = ((fnd a).idxOf (runE a 0 ws).1 : Int) := by have := congrArg Prod.fst hr; simpa using this
    rw [hr1, Bool.true_and, Bool.true_and, decide_eq_decide]
    show ((fnd a).idxOf (runE a 0 ws).1 : Int) ∈ canM a ↔ _
    rw [mem_canM]
    constructor
    · rintro ⟨i, h1, h2, h3⟩
      have : i = (fnd a).idxOf (runE a 0 ws).1 := by omega
      rw [this, getD_idxOf hq] at h2; exact h2
    · intro h1
      exact ⟨_, List.idxOf_lt_length_iff.2 hq, by rw [getD_idxOf hq]; exact h1, rfl⟩
theorem run_take (a : Au) : ∀ (ws : List Int) (q : Int) (k : Nat), (runE a q ws).2 = ws.length → (runE a q (ws.take k)).2 = (ws.take k).length
  | [], q, k, _ => by simp [runE_nil]
  | x :: ws, q, 0, _ => by simp [runE_nil]
  | x :: ws, q, k + 1, hh => by
    rw [List.take_succ_cons]
    cases e : stepO a q x with
    | none => rw [runE_stop e] at hh; simp at hh
    | some t =>
      rw [runE_go e] at hh ⊢
      have := run_take a ws t k (by simpa using hh)
      simp [this]
theorem gen_take {a : Au} {ws : List Int} (h : genB a ws = true) (k : Nat) : genB a (ws.take k) = true := by
  unfold genB at h ⊢
  simp only [Bool.and_eq_true, decide_eq_true_eq] at h ⊢
  exact ⟨h.1, run_take a ws 0 k h.2⟩

/-- What is found, numbered. -/
theorem visitL_map {fl : List Int} {f : Int → Int} {g : Ed → Ed} (hinj : ∀ x y, x ∈ fl → y ∈ fl → f x = f y → x = y) : ∀ (l : List Ed) (r : List Int), r ⊆ fl → (∀ x ∈ l, x.t ∈ fl ∧ (g x).t = f x.t) → visitL (r.map f) (l.map g) = (visitL r l).map f
  | [], r, _, _ => rfl
  | x :: l, r, hr, hl => by
    obtain ⟨h1, h2⟩ := hl x (by simp)
    rw [List.map_cons, visitL_cons, visitL_cons, h2]
    have e : visit (r.map f) (f x.t) = (visit r x.t).map f := by
      by_cases hm : x.t ∈ r
      · rw [visit_in hm, visit_in (List.mem_map.2 ⟨_, hm, rfl⟩)]
      · rw [visit_new hm, visit_new, List.map_append]; · rfl
        rintro hm2
        obtain ⟨y, hy, e⟩ := List.mem_map.1 hm2
        exact hm (hinj y x.t (hr hy) h1 e ▸ hy)
    rw [e]
    refine visitL_map hinj l _ (fun y hy => ?_) fun y hy => hl y (by simp [hy])
    rcases mem_visit.1 hy with h | h
    · exact hr h
    · rw [h]; exact h1
def rng (n : Nat) : List Int := (List.range n).map fun i : Nat => (i : Int)
theorem rng_len (n : Nat) : (rng n).length = n := by simp [rng]
theorem rng_at {n i : Nat} (h : i < n) : (rng n).getD i 0 = (i : Int) := by simp [rng, List.getD, h]
theorem map_idx {fl r : List Int} (hp : r <+: fl) (hd : fl.Nodup) : r.map (fun t => (fl.idxOf t : Int)) = rng r.length := by
  apply List.ext_getElem
  · simp [rng]
  · intro i h1 h2
    have hi : i < r.length := by simpa using h1
    simp only [rng, List.getElem_map, List.getElem_range]
    have e : r[i] = fl.getD i 0 := by rw [getD_pre hp hi]; simp [List.getD, List.getElem?_eq_getElem hi]
    rw [e, idxOf_getD hd (Nat.lt_of_lt_of_le hi hp.length_le)]
theorem Fd_can {a : Au} (h : RightW a) (h0 : 0 < a.st) : ∀ n, Fd (canA a) n = (Fd a n).map fun t => ((fnd a).idxOf t : Int)
  | 0 => by simp [Fd, (zero_fnd h h0).2]
  | n + 1 => by
    have ih := Fd_can h h0 n
    have hp := Fd_fnd h h0 n
    by_cases hn : n < (Fd a n).length
    · rw [Fd_go hn, Fd_go (by rw [ih, List.length_map]; exact hn), ih]
      have hnl : n < (fnd a).length := Nat.lt_of_lt_of_le hn hp.length_le
      have e1 : ((Fd a n).map fun t => ((fnd a).idxOf t : Int)).getD n 0 = (n : Int) := by
        rw [map_idx hp (fnd_nodup a), rng_at hn]
      rw [e1, succ_can hnl]
      unfold outE
      rw [getD_pre hp hn]
      refine visitL_map (fl := fnd a) (fun x y hx hy e => idx_inj hx hy (by omega)) _ _ hp.subset fun x hx => ⟨?_, rfl⟩
      rw [← getD_pre hp hn] at hx
      exact fnd_closed h hnl hx
    · rw [Fd_stop hn, Fd_stop (by rw [ih, List.length_map]; exact hn), ih]
theorem fnd_can {a : Au} (h : RightW a) : fnd (canA a) = rng (fnd a).length := by
  by_cases h0 : 0 < a.st
  · have hl := List.length_pos_of_mem (zero_fnd h h0).1
    have hs : (0 : Int) < (canA a).st := by simp [canA]; omega
    have hst : (canA a).st.toNat = (fnd a).length := by simp [canA]
    have h1 : fnd (canA a) = Fd (canA a) a.st.toNat := by
      refine fnd_at (can_right h) hs (n := (canA a).st.toNat) ?_ (Nat.le_refl _) |>.trans ?_
      · exact Fd_len (can_right h) hs _
      · have := Fd_still (a := canA a) (n := (canA a).st.toNat) (Fd_len (can_right h) hs _) (a.st.toNat - (canA a).st.toNat)
        have hle := fnd_len h
        rw [show (canA a).st.toNat + (a.st.toNat - (canA a).st.toNat) = a.st.toNat by omega] at this
        exact this.symm
    rw [h1, Fd_can h h0, ← fnd_pos h0, map_idx List.prefix_rfl (fnd_nodup a)]
  · have hf : fnd a = [] := by rw [fnd, if_pos (by omega)]
    rw [fnd, if_pos (by simp [canA, hf]), hf]; rfl
theorem rng_idx {n i : Nat} (h : i < n) : (rng n).idxOf (i : Int) = i := by
  have := idxOf_getD (l := rng n) (i := i) (by
    unfold rng
    rw [List.nodup_iff_pairwise_ne, List.pairwise_map]
    exact List.pairwise_lt_range.imp fun h => by omega) (by rw [rng_len]; exact h)
  rwa [rng_at h] at this
/-- The canonical form is its own canonical form. -/
theorem can_can {a : Au} (h : RightW a) : canA (canA a) = canA a := by
  have hf := fnd_can h
  have hl : (fnd (canA a)).length = (fnd a).length := by rw [hf, rng_len]
  have h1 : canM (canA a) = canM a := by
    refine lt_ext (canM_lt _) (canM_lt a) fun x => ?_
    rw [mem_canM, hl, hf]
    constructor
    · rintro ⟨i, hi, h2, rfl⟩; rw [rng_at hi] at h2; exact h2
    · intro hx
      obtain ⟨i, hi, _, rfl⟩ := mem_canM.1 hx
      exact ⟨i, hi, by rw [rng_at hi]; exact hx, rfl⟩
  have h2 : canEn (canA a) (fnd a).length = canEn a (fnd a).length := by
    unfold canEn
    have h3 : ∀ i ∈ List.range (fnd a).length, outE (canA a) (fnd (canA a)) i = outE a (fnd a) i := fun i hi => by
      rw [List.mem_range] at hi
      rw [hf]
      conv => lhs; unfold outE
      rw [rng_at hi, succ_can hi]
      conv => rhs; rw [← List.map_id (outE a (fnd a) i)]
      refine List.map_congr_left fun y hy => ?_
      unfold outE at hy
      obtain ⟨x, hx, rfl⟩ := List.mem_map.1 hy
      have := List.idxOf_lt_length_iff.2 (fnd_closed h hi hx)
      simp only [id]
      rw [rng_idx this]
    rw [List.flatMap_def, List.flatMap_def, List.map_congr_left h3]
  unfold canA at *
  simp only at *
  rw [hl, h1, h2]
end Go.Proofs.Ytceldgcmjmfjfaa

/- Layer 3: the state to which a whole word leads. -/
namespace Go.Proofs.Ytceldgcmjmfjfaa
open Go.RowKit Go.Sort

/-- The state to which a whole word leads. -/
def rO (a : Au) : Int → List Int → Option Int
  | q, [] => some q
  | q, x :: r => match stepO a q x with | none => none | some t => rO a t r
theorem rO_run (a : Au) : ∀ (ws : List Int) (q : Int), (∃ t, rO a q ws = some t ∧ runE a q ws = (t, ws.length)) ∨ (rO a q ws = none ∧ (runE a q ws).2 ≠ ws.length)
  | [], q => .inl ⟨q, rfl, runE_nil a q⟩
  | x :: r, q => by
    rw [rO]
    cases h : stepO a q x with
    | none => exact .inr ⟨rfl, by rw [runE_stop h]; simp⟩
    | some t =>
      rw [runE_go h]
      rcases rO_run a r t with ⟨u, h1, h2⟩ | ⟨h1, h2⟩
      · exact .inl ⟨u, h1, by rw [h2]; rfl⟩
      · exact .inr ⟨h1, by simp; exact h2⟩
theorem gen_rO {a : Au} {ws : List Int} (h : a.st ≠ 0) : genB a ws = (rO a 0 ws).isSome := by
  unfold genB
  rw [decide_eq_true h, Bool.true_and]
  rcases rO_run a ws 0 with ⟨t, h1, h2⟩ | ⟨h1, h2⟩
  · rw [h1, h2]; simp
  · rw [h1, decide_eq_false h2]; rfl
/-- A whole word leads to a marked state. -/
def mO (a : Au) (o : Option Int) : Bool := match o with | some t => decide (t ∈ a.mr) | none => false
theorem acc_rO {a : Au} {ws : List Int} (h : a.st ≠ 0) : accB a ws = mO a (rO a 0 ws) := by
  unfold accB
  rw [gen_rO h]
  rcases rO_run a ws 0 with ⟨t, h1, h2⟩ | ⟨h1, h2⟩
  · rw [h1, h2]; simp [mO]
  · rw [h1]; rfl
end Go.Proofs.Ytceldgcmjmfjfaa

/- The words of a breadth-first search: each found state has the least of all words that lead to it (shorter first, then by the events). -/
namespace Go.Proofs.Ytceldgcmjmfjfaa

/-- Words of one length are compared by their first unlike event. -/
def lexL : List Int → List Int → Prop
  | x :: v, y :: w => x < y ∨ (x = y ∧ lexL v w)
  | _, _ => False
def slx (v w : List Int) : Prop := v.length < w.length ∨ (v.length = w.length ∧ lexL v w)
theorem lexL_irrefl : ∀ v : List Int, ¬ lexL v v
  | [] => id
  | x :: v => fun h => h.elim (fun h => by omega) fun h => lexL_irrefl v h.2
theorem lexL_trans : ∀ {u v w : List Int}, lexL u v → lexL v w → lexL u w
  | _ :: _, _ :: _, _ :: _, h1, h2 => by
    rcases h1 with h1 | ⟨h1, h3⟩
    · rcases h2 with h2 | ⟨h2, _⟩
      · exact .inl (by omega)
      · exact .inl (by omega)
    · rcases h2 with h2 | ⟨h2, h4⟩
      · exact .inl (by omega)
      · exact .inr ⟨by omega, lexL_trans h3 h4⟩
theorem lexL_app : ∀ {u v : List Int} (a b : List Int), u.length = v.length → lexL u v → lexL (u ++ a) (v ++ b)
  | _ :: _, _ :: _, a, b, hl, h => by
    rcases h with h | ⟨h1, h2⟩
    · exact .inl h
    · exact .inr ⟨h1, lexL_app a b (by simpa using hl) h2⟩
theorem lexL_snoc : ∀ (u : List Int) {e f : Int}, e < f → lexL (u ++ [e]) (u ++ [f])
  | [], _, _, h => .inl h
  | _ :: u, _, _, h => .inr ⟨rfl, lexL_snoc u h⟩
theorem slx_irrefl (v : List Int) : ¬ slx v v := fun h => h.elim (fun h => by omega) fun h => lexL_irrefl v h.2
theorem slx_trans {u v w : List Int} (h1 : slx u v) (h2 : slx v w) : slx u w := by
  rcases h1 with h1 | ⟨h1, h3⟩
  · rcases h2 with h2 | ⟨h2, _⟩ <;> exact .inl (by omega)
  · rcases h2 with h2 | ⟨h2, h4⟩
    · exact .inl (by omega)
    · exact .inr ⟨by omega, lexL_trans h3 h4⟩
theorem slx_app {u v : List Int} (e f : Int) (h : slx u v) : slx (u ++ [e]) (v ++ [f]) := by
  rcases h with h | ⟨h1, h2⟩
  · exact .inl (by simp; omega)
  · exact .inr ⟨by simp; omega, lexL_app _ _ h1 h2⟩
theorem slx_snoc (u : List Int) {e f : Int} (h : e < f) : slx (u ++ [e]) (u ++ [f]) := .inr ⟨by simp, lexL_snoc u h⟩
theorem slx_nil (u : List Int) (e : Int) : slx [] (u ++ [e]) := .inl (by simp)
/-- A state that is found, with its word. -/
def visP (w : List Int) (T : List (Int × List Int)) (x : Ed) : List (Int × List Int) := if x.t ∈ T.map Prod.fst then T else T ++ [(x.t, w ++ [x.e])]
def Tr (a : Au) : Nat → List (Int × List Int)
  | 0 => [(0, [])]
  | n + 1 => match (Tr a n)[n]? with | none => Tr a n | some p => (succ a.ed p.1).foldl (visP p.2) (Tr a n)
theorem visP_fst (w : List Int) (T : List (Int × List Int)) (x : Ed) : (visP w T x).map Prod.fst = visit (T.map Prod.fst) x.t := by
  unfold visP visit
  split
  · rfl
  · simp
theorem visPL_fst (w : List Int) : ∀ (l : List Ed) (T : List (Int × List Int)), (l.foldl (visP w) T).map Prod.fst = visitL (T.map Prod.fst) l
  | [], _ => rfl
  | x :: l, T => by rw [List.foldl_cons, visPL_fst w l, visP_fst, visitL_cons]
/-- The states are found in the order of the canonical form. -/
theorem tr_fst (a : Au) : ∀ n, (Tr a n).map Prod.fst = Fd a n
  | 0 => rfl
  | n + 1 => by
    have ih := tr_fst a n
    rw [Tr]
    cases h : (Tr a n)[n]? with
    | none =>
      have : ¬ n < (Fd a n).length := by rw [← ih, List.length_map]; have := List.getElem?_eq_none_iff.1 h; omega
      rw [Fd_stop this]; exact ih
    | some p =>
      obtain ⟨hl, hp⟩ := List.getElem?_eq_some_iff.1 h
      have hlt : n < (Fd a n).length := by rw [← ih, List.length_map]; exact hl
      have hq : (Fd a n).getD n 0 = p.1 := by rw [← ih, List.getD, List.getElem?_map, h]; rfl
      show ((succ a.ed p.1).foldl (visP p.2) (Tr a n)).map Prod.fst = _
      rw [Fd_go hlt, visPL_fst, ih, hq]
theorem visP_mem {w : List Int} {T : List (Int × List Int)} {x : Ed} {p : Int × List Int} : p ∈ visP w T x ↔ p ∈ T ∨ (x.t ∉ T.map Prod.fst ∧ p = (x.t, w ++ [x.e])) := by
  unfold visP
  split
  · next h => exact ⟨.inl, fun h' => h'.elim id fun h' => absurd h h'.1⟩
  · next h => rw [List.mem_append, List.mem_singleton]; exact ⟨fun h' => h'.imp id fun e => ⟨h, e⟩, fun h' => h'.imp id fun e => e.2⟩
theorem visP_pre (w : List Int) (T : List (Int × List Int)) (x : Ed) : T <+: visP w T x := by
  unfold visP; split
  · exact List.prefix_rfl
  · exact List.prefix_append _ _
theorem visPL_pre (w : List Int) : ∀ (l : List Ed) (T : List (Int × List Int)), T <+: l.foldl (visP w) T
  | [], _ => List.prefix_rfl
  | x :: l, T => (visP_pre w T x).trans (visPL_pre w l _)
theorem tr_pre (a : Au) (n : Nat) : Tr a n <+: Tr a (n + 1) := by
  rw [Tr]
  cases (Tr a n)[n]? with
  | none => exact List.prefix_rfl
  | some p => exact visPL_pre _ _ _
theorem tr_mono {a : Au} {n m : Nat} (h : n ≤ m) : Tr a n <+: Tr a m := by
  obtain ⟨d, rfl⟩ : ∃ d, m = n + d := ⟨m - n, by omega⟩
  clear h
  induction d with
  | zero => exact List.prefix_rfl
  | succ d ih => exact ih.trans (tr_pre a (n + d))
theorem rO_snoc' (a : Au) : ∀ (ws : List Int) (q x : Int), rO a q (ws ++ [x]) = (match rO a q ws with | none => none | some u => stepO a u x)
  | [], q, x => by
    show rO a q [x] = stepO a q x
    rw [rO]
    cases stepO a q x <;> rfl
  | y :: r, q, x => by
    rw [List.cons_append, rO, rO]
    cases stepO a q y with
    | none => rfl
    | some t => exact rO_snoc' a r t x
/-- What the search keeps: words lead to their states, rise, and lie below what is found next. -/
structure TrI (a : Au) (n : Nat) (T : List (Int × List Int)) : Prop where
  run : ∀ p ∈ T, rO a 0 p.2 = some p.1
  up : (T.map Prod.snd).Pairwise slx
  bef : ∀ p ∈ T, p.2 = [] ∨ ∃ (j : Nat) (r : Int × List Int) (e : Int), j < n ∧ T[j]? = some r ∧ p.2 = r.2 ++ [e]
theorem pre_at {α : Type} {l r : List α} (h : l <+: r) {j : Nat} {x : α} (hx : l[j]? = some x) : r[j]? = some x := by
  obtain ⟨t, rfl⟩ := h
  rw [List.getElem?_append_left (List.getElem?_eq_some_iff.1 hx).1]; exact hx
/-- The edges of one state are passed over. -/
theorem tr_edges {a : Au} (h : RightW a) {n : Nat} {p : Int × List Int} (hr : rO a 0 p.2 = some p.1) : ∀ (l : List Ed) (T : List (Int × List Int)), (∀ x ∈ l, x ∈ a.ed ∧ x.f = p.1) → (l.Pairwise fun x y => x.e < y.e) → T[n]? = some p → TrI a (n + 1) T → (∀ x ∈ l, ∀ q ∈ T, slx q.2 (p.2 ++ [x.e])) →
    TrI a (n + 1) (l.foldl (visP p.2) T) ∧ ∀ x ∈ l, ∃ w, (x.t, w) ∈ l.foldl (visP p.2) T ∧ (w = p.2 ++ [x.e] ∨ slx w (p.2 ++ [x.e]))
  | [], T, _, _, _, hI, _ => ⟨hI, fun x hx => by cases hx⟩
  | x :: l, T, hl, ho, hn, hI, hb => by
    rw [List.pairwise_cons] at ho
    have hx := hl x (List.mem_cons_self ..)
    have hbx := hb x (List.mem_cons_self ..)
    have hst : rO a 0 (p.2 ++ [x.e]) = some x.t := by
      rw [rO_snoc', hr]
      show stepO a p.1 x.e = _
      rw [stepO, (edgeO_some h.edo).2 ⟨hx.1, hx.2, rfl⟩]; rfl
    have hI' : TrI a (n + 1) (visP p.2 T x) := by
      by_cases hm : x.t ∈ T.map Prod.fst
      · have : visP p.2 T x = T := by unfold visP; rw [if_pos hm]
        rw [this]; exact hI
      · have hv : visP p.2 T x = T ++ [(x.t, p.2 ++ [x.e])] := by unfold visP; rw [if_neg hm]
        rw [hv]
        refine ⟨fun q hq => ?_, ?_, fun q hq => ?_⟩
        · rcases List.mem_append.1 hq with hq | hq
          · exact hI.run q hq
          · rw [List.mem_singleton] at hq; subst hq; exact hst
        · rw [List.map_append, List.pairwise_append]
          refine ⟨hI.up, by simp, fun u hu v hv => ?_⟩
          obtain ⟨q, hq, rfl⟩ := List.mem_map.1 hu
          simp at hv
          subst hv
          exact hbx q hq
        · rcases List.mem_append.1 hq with hq | hq
          · rcases hI.bef q hq with h1 | ⟨j, r, e, h1, h2, h3⟩
            · exact .inl h1
            · exact .inr ⟨j, r, e, h1, pre_at (List.prefix_append _ _) h2, h3⟩
          · rw [List.mem_singleton] at hq
            subst hq
            exact .inr ⟨n, p, x.e, Nat.lt_succ_self n, pre_at (List.prefix_append _ _) hn, rfl⟩
    have hn' := pre_at (visP_pre p.2 T x) hn
    have hb' : ∀ y ∈ l, ∀ q ∈ visP p.2 T x, slx q.2 (p.2 ++ [y.e]) := fun y hy q hq => by
      rcases visP_mem.1 hq with hq | ⟨_, rfl⟩
      · exact hb y (List.mem_cons_of_mem _ hy) q hq
      · exact slx_snoc _ (ho.1 y hy)
    obtain ⟨k1, k2⟩ := tr_edges h hr l (visP p.2 T x) (fun y hy => hl y (List.mem_cons_of_mem _ hy)) ho.2 hn' hI' hb'
    refine ⟨k1, fun y hy => ?_⟩
    rcases List.mem_cons.1 hy with rfl | hy
    · have hpre := visPL_pre p.2 l (visP p.2 T y)
      by_cases hm : y.t ∈ T.map Prod.fst
      · obtain ⟨q, hq, e⟩ := List.mem_map.1 hm
        refine ⟨q.2, hpre.subset ((visP_pre p.2 T y).subset ?_), .inr (hbx q hq)⟩
        rw [← e]; exact hq
      · exact ⟨p.2 ++ [y.e], hpre.subset (visP_mem.2 (.inr ⟨hm, rfl⟩)), .inl rfl⟩
    · exact k2 y hy
theorem tr_inv {a : Au} (h : RightW a) : ∀ n, TrI a n (Tr a n) ∧ ∀ (i : Nat) (p : Int × List Int), i < n → (Tr a n)[i]? = some p → ∀ x ∈ succ a.ed p.1, ∃ w, (x.t, w) ∈ Tr a n ∧ (w = p.2 ++ [x.e] ∨ slx w (p.2 ++ [x.e]))
  | 0 => ⟨⟨fun p hp => by simp [Tr] at hp; subst hp; rfl, by simp [Tr], fun p hp => by simp [Tr] at hp; subst hp; exact .inl rfl⟩, fun i p hi => by omega⟩
  | n + 1 => by
    obtain ⟨hI, hd⟩ := tr_inv h n
    have hI1 : TrI a (n + 1) (Tr a n) := ⟨hI.run, hI.up, fun q hq => (hI.bef q hq).imp id fun ⟨j, r, e, h1, h2⟩ => ⟨j, r, e, Nat.lt_succ_of_lt h1, h2⟩⟩
    cases hn : (Tr a n)[n]? with
    | none =>
      have ht : Tr a (n + 1) = Tr a n := by rw [Tr, hn]
      rw [ht]
      refine ⟨hI1, fun i p hi hp => hd i p ?_ hp⟩
      have := (List.getElem?_eq_some_iff.1 hp).1
      have := List.getElem?_eq_none_iff.1 hn
      omega
    | some p =>
      have ht : Tr a (n + 1) = (succ a.ed p.1).foldl (visP p.2) (Tr a n) := by rw [Tr, hn]
      have hpm := List.mem_of_getElem? hn
      have hb : ∀ x ∈ succ a.ed p.1, ∀ q ∈ Tr a n, slx q.2 (p.2 ++ [x.e]) := fun x _ q hq => by
        rcases hI.bef q hq with h1 | ⟨j, r, e, h1, h2, h3⟩
        · rw [h1]; exact slx_nil _ _
        · rw [h3]
          refine slx_app _ _ ?_
          obtain ⟨hj, ej⟩ := List.getElem?_eq_some_iff.1 h2
          obtain ⟨hk, ek⟩ := List.getElem?_eq_some_iff.1 hn
          have := List.pairwise_iff_getElem.1 hI.up j n (by simpa using hj) (by simpa using hk) h1
          simpa [ej, ek] using this
      obtain ⟨k1, k2⟩ := tr_edges h (hI.run p hpm) (succ a.ed p.1) (Tr a n) (fun x hx => mem_succ.1 hx) (succ_sorted h.edo _) hn hI1 hb
      rw [ht]
      refine ⟨k1, fun i q hi hq x hx => ?_⟩
      have hpre := visPL_pre p.2 (succ a.ed p.1) (Tr a n)
      by_cases hin : i = n
      · subst hin
        have := pre_at hpre hn
        rw [hq] at this
        injection this with this
        subst this
        exact k2 x hx
      · have hil : i < (Tr a n).length := by have := (List.getElem?_eq_some_iff.1 hn).1; omega
        have hq' : (Tr a n)[i]? = some q := by
          rw [List.getElem?_eq_getElem hil]
          have := pre_at hpre (List.getElem?_eq_getElem hil)
          rw [hq] at this; exact this.symm
        obtain ⟨w, h1, h2⟩ := hd i q (by omega) hq' x hx
        exact ⟨w, hpre.subset h1, h2⟩
/-- All found states with their words. -/
def trA (a : Au) : List (Int × List Int) := Tr a a.st.toNat
theorem trA_fst {a : Au} (h0 : 0 < a.st) : (trA a).map Prod.fst = fnd a := by rw [trA, tr_fst, fnd_pos h0]
theorem trA_run {a : Au} (h : RightW a) : ∀ p ∈ trA a, rO a 0 p.2 = some p.1 := (tr_inv h _).1.run
theorem trA_up {a : Au} (h : RightW a) : ((trA a).map Prod.snd).Pairwise slx := (tr_inv h _).1.up
/-- No word that leads to a found state is less than its word. -/
theorem trA_least {a : Au} (h : RightW a) (h0 : 0 < a.st) (v : List Int) : ∀ q, rO a 0 v = some q → ∃ w, (q, w) ∈ trA a ∧ (w = v ∨ slx w v) := by
  have key : ∀ (k : Nat) (v : List Int), v.length = k → ∀ q, rO a 0 v = some q → ∃ w, (q, w) ∈ trA a ∧ (w = v ∨ slx w v) := by
    intro k
    induction k with
    | zero =>
      intro v hv q hq
      have : v = [] := List.eq_nil_of_length_eq_zero hv
      subst this
      simp [rO] at hq
      subst hq
      exact ⟨[], (tr_mono (Nat.zero_le _)).subset (by simp [Tr]), .inl rfl⟩
    | succ k ih =>
      intro v hv q hq
      obtain ⟨u, e, rfl⟩ : ∃ u e, v = u ++ [e] := ⟨v.dropLast, v.getLast (fun hh => by rw [hh] at hv; simp at hv), (List.dropLast_concat_getLast _).symm⟩
      rw [rO_snoc'] at hq
      cases hu : rO a 0 u with
      | none => rw [hu] at hq; cases hq
      | some p =>
        rw [hu] at hq
        have hq : stepO a p e = some q := hq
        obtain ⟨wp, hm, hle⟩ := ih u (by simp at hv; exact hv) p hu
        obtain ⟨i, hi⟩ := List.getElem?_of_mem hm
        have hil := (List.getElem?_eq_some_iff.1 hi).1
        have hlen : (trA a).length ≤ a.st.toNat := by
          have := Fd_len h h0 a.st.toNat
          rw [← tr_fst, List.length_map] at this; exact this
        cases hy : edgeO a.ed p e with
        | none => rw [stepO, hy] at hq; cases hq
        | some y =>
          rw [stepO, hy] at hq
          injection hq with hq
          obtain ⟨k1, k2, k3⟩ := (edgeO_some h.edo).1 hy
          obtain ⟨w, g1, g2⟩ := (tr_inv h a.st.toNat).2 i (p, wp) (by omega) hi y (mem_succ.2 ⟨k1, k2⟩)
          refine ⟨w, by rw [← hq]; exact g1, ?_⟩
          rw [k3] at g2
          rcases hle with rfl | hle
          · exact g2
          · rcases g2 with rfl | g2
            · exact .inr (slx_app _ _ hle)
            · exact .inr (slx_trans g2 (slx_app _ _ hle))
  exact key v.length v rfl
end Go.Proofs.Ytceldgcmjmfjfaa
