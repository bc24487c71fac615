/- Layer 3, the mathematics of the canonical form's marked states. -/
import Derived.Test.YtcciiikaejjooaaaCS
namespace Go.Proofs.Ytcciiikaejjooaa
open Go.RowKit Go.Sort

/-- The numbers of those of these states that are found. -/
def mkL (fl ms : List Int) : List Int := (ms.filter fun q => decide (q ∈ fl)).map fun q => (fl.idxOf q : Int)
theorem mkL_nil (fl : List Int) : mkL fl [] = [] := rfl
theorem mkL_yes {fl ms : List Int} {k : Nat} (h : k < ms.length) (hp : ms.getD k 0 ∈ fl) : mkL fl (ms.take (k + 1)) = mkL fl (ms.take k) ++ [(fl.idxOf (ms.getD k 0) : Int)] := by
  unfold mkL
  rw [filter_take_yes h (by simpa using hp), List.map_append]; rfl
theorem mkL_no {fl ms : List Int} {k : Nat} (h : k < ms.length) (hp : ms.getD k 0 ∉ fl) : mkL fl (ms.take (k + 1)) = mkL fl (ms.take k) := by
  unfold mkL
  rw [filter_take_no h (by simpa using hp)]
theorem mkL_len (fl ms : List Int) (k : Nat) : (mkL fl (ms.take k)).length ≤ k := by
  unfold mkL; rw [List.length_map]; exact filter_take_le _ _ _
theorem getD_idxOf {l : List Int} {q : Int} (h : q ∈ l) : l.getD (l.idxOf q) 0 = q := by
  have := List.idxOf_lt_length_iff.2 h
  simp [List.getD, List.getElem?_eq_getElem this, List.getElem_idxOf]
theorem idxOf_getD : ∀ {l : List Int} {i : Nat}, l.Nodup → i < l.length → l.idxOf (l.getD i 0) = i
  | [], i, _, hi => by simp at hi
  | x :: l, 0, _, _ => by simp
  | x :: l, i + 1, hd, hi => by
    rw [List.nodup_cons] at hd
    have h1 : i < l.length := by simpa using hi
    have hm : l.getD i 0 ∈ l := getD_mem h1
    have hne : ¬ x = l.getD i 0 := fun e => hd.1 (e ▸ hm)
    rw [List.getD_cons_succ, List.idxOf_cons]
    have : (x == l.getD i 0) = false := by simpa using hne
    rw [this, cond_false, idxOf_getD hd.2 h1]
theorem idx_inj {l : List Int} {x y : Int} (hx : x ∈ l) (hy : y ∈ l) (h : l.idxOf x = l.idxOf y) : x = y := by
  rw [← getD_idxOf hx, h, getD_idxOf hy]
theorem mkL_nodup {fl ms : List Int} (h : ms.Nodup) : (mkL fl ms).Nodup := by
  unfold mkL
  have h1 : (ms.filter fun q => decide (q ∈ fl)).Nodup := h.sublist List.filter_sublist
  rw [List.nodup_iff_pairwise_ne, List.pairwise_map]
  refine (List.nodup_iff_pairwise_ne.1 h1).imp_of_mem fun hx hy hne e => hne ?_
  rw [List.mem_filter] at hx hy
  exact idx_inj (by simpa using hx.2) (by simpa using hy.2) (by omega)
theorem srtI_perm (zs : List Int) : (srtI zs).Perm zs := List.mergeSort_perm zs _
theorem srtI_sorted (zs : List Int) : (srtI zs).Pairwise (· ≤ ·) := by
  have := List.pairwise_mergeSort (le := fun x y : Int => decide (x ≤ y)) (fun x y z h1 h2 => by simp at *; omega) (fun x y => by simp; omega) zs
  exact this.imp fun h => by simpa using h
theorem nodup_lt {l : List Int} (h : l.Pairwise (· ≤ ·)) (hd : l.Nodup) : l.Pairwise (· < ·) := by
  have := h.and (List.nodup_iff_pairwise_ne.1 hd)
  exact this.imp fun h => by omega
theorem lt_nodup {l : List Int} (h : l.Pairwise (· < ·)) : l.Nodup := List.nodup_iff_pairwise_ne.2 (h.imp fun h => by omega)
theorem srtI_lt {zs : List Int} (h : zs.Nodup) : (srtI zs).Pairwise (· < ·) := nodup_lt (srtI_sorted zs) ((srtI_perm zs).nodup_iff.2 h)
theorem lt_ext {l r : List Int} (hl : l.Pairwise (· < ·)) (hr : r.Pairwise (· < ·)) (h : ∀ x, x ∈ l ↔ x ∈ r) : l = r :=
  sorted_ext (r := fun x y : Int => x < y) (fun x => by omega) (fun x y z h1 h2 => by omega) l r hl hr h
theorem mem_canM {a : Au} {x : Int} : x ∈ canM a ↔ ∃ i : Nat, i < (fnd a).length ∧ (fnd a).getD i 0 ∈ a.mr ∧ (i : Int) = x := by
  unfold canM
  rw [List.mem_map]
  constructor
  · rintro ⟨i, h, e⟩
    rw [List.mem_filter, List.mem_range] at h
    exact ⟨i, h.1, by simpa using h.2, e⟩
  · rintro ⟨i, h1, h2, e⟩
    exact ⟨i, by rw [List.mem_filter, List.mem_range]; exact ⟨h1, by simpa using h2⟩, e⟩
theorem canM_lt (a : Au) : (canM a).Pairwise (· < ·) := by
  unfold canM
  rw [List.pairwise_map]
  have h1 : ((List.range (fnd a).length).filter fun i => decide ((fnd a).getD i 0 ∈ a.mr)).Pairwise (· < ·) := List.pairwise_lt_range.sublist List.filter_sublist
  exact h1.imp fun h => by omega
theorem canM_len (a : Au) : (canM a).length ≤ (fnd a).length := by
  unfold canM
  rw [List.length_map]
  exact Nat.le_trans (List.length_filter_le _ _) (by simp)
theorem srt_mk {a : Au} (h : RightW a) : srtI (mkL (fnd a) a.mr) = canM a := by
  refine lt_ext (srtI_lt (mkL_nodup (lt_nodup h.mro))) (canM_lt a) fun x => ?_
  rw [(srtI_perm _).mem_iff, mem_canM]
  unfold mkL
  rw [List.mem_map]
  constructor
  · rintro ⟨q, hq, e⟩
    rw [List.mem_filter] at hq
    have hf : q ∈ fnd a := by simpa using hq.2
    exact ⟨(fnd a).idxOf q, List.idxOf_lt_length_iff.2 hf, by rw [getD_idxOf hf]; exact hq.1, e⟩
  · rintro ⟨i, h1, h2, e⟩
    refine ⟨(fnd a).getD i 0, ?_, by rw [idxOf_getD (fnd_nodup a) h1]; exact e⟩
    rw [List.mem_filter]
    exact ⟨h2, by simpa using getD_mem h1⟩
/-- What canonical has made, while it is stored into its result. -/
structure CR (w : World) (H bc : Nat) (Ac : Option Addr) (al ms : List Int) (es : List Ed) (vm ve : Value) (wr : World) : Prop where
  bel : Below H w wr
  cl : RdI wr bc Ac al
  mo : Own wr (bc + 2) vm ms
  eo : OwnE wr (bc + 2) ve es
  h1 : H + 1 < bc
  h2 : bc ≤ wr.heap.size
theorem CR.set {w : World} {H bc : Nat} {Ac : Option Addr} {al ms : List Int} {es : List Ed} {vm ve : Value} {wr : World} (h : CR w H bc Ac al ms es vm ve wr) (hAc : ∀ b o f, Ac = some ⟨b, o, f⟩ → H + 1 < b) (i : Nat) (v : Value) : CR w H bc Ac al ms es vm ve (wr.setCell ⟨H + 1, i, none⟩ v) := by
  have g1 := h.h1
  refine ⟨h.bel.setCell (p := ⟨H + 1, i, none⟩) (by simp) v, fun h0 => ?_, ownsRow_setCell_below h.mo (a := ⟨H + 1, i, none⟩) (by simp; omega) v, ownsRow_setCell_below h.eo (a := ⟨H + 1, i, none⟩) (by simp; omega) v, g1, by rw [World.size_setCell]; exact h.h2⟩
  obtain ⟨b, o, e, hb, hc⟩ := h.cl h0
  have hb2 := hAc b o none e
  exact ⟨b, o, e, hb, fun j hj => (World.cell?_of_block (a := ⟨b, o + j, none⟩) (Below.heap_setCell wr ⟨H + 1, i, none⟩ v b (by simp; omega))).trans (hc j hj)⟩
theorem CR.alloc {w : World} {H bc : Nat} {Ac : Option Addr} {al ms : List Int} {es : List Ed} {vm ve : Value} {wr : World} (h : CR w H bc Ac al ms es vm ve wr) (o : Obj) : CR w H bc Ac al ms es vm ve (wr.alloc o) :=
  ⟨h.bel.alloc (by have := h.h1; have := h.h2; omega) o, h.cl.below ((Below.refl bc wr).alloc h.h2 o) (Nat.le_refl _), h.mo.alloc o, h.eo.alloc o, h.h1, by have := h.h2; simp; omega⟩
/-- What a function hands back that makes an automaton in new memory, from block base on. -/
def AuF (a : Au) (v : Value) (w : World) (base : Nat) : Prop := ∃ A n c s M m d E k g, v = .agg #[.slice A n c, .int .i64 s, .slice M m d, .slice E k g] ∧ AuR w w.heap.size A n c s M m d E k g a ∧ (∀ b o f, A = some ⟨b, o, f⟩ → base ≤ b) ∧ (∀ b o f, M = some ⟨b, o, f⟩ → base ≤ b) ∧ (∀ b o f, E = some ⟨b, o, f⟩ → base ≤ b)
theorem AuF.below {a : Au} {v : Value} {w w' : World} {base : Nat} (h : AuF a v w base) (hb : Below w.heap.size w w') : AuF a v w' base := by
  obtain ⟨A, n, c, s, M, m, d, E, k, g, e, hr, h1, h2, h3⟩ := h
  exact ⟨A, n, c, s, M, m, d, E, k, g, e, (hr.below hb (Nat.le_refl _)).more hb.size, h1, h2, h3⟩
theorem AuF.more {a : Au} {v : Value} {w : World} {base B : Nat} (h : AuF a v w base) (hB : B ≤ base) : AuF a v w B := by
  obtain ⟨A, n, c, s, M, m, d, E, k, g, e, hr, h1, h2, h3⟩ := h
  exact ⟨A, n, c, s, M, m, d, E, k, g, e, hr, fun b o f e => Nat.le_trans hB (h1 b o f e), fun b o f e => Nat.le_trans hB (h2 b o f e), fun b o f e => Nat.le_trans hB (h3 b o f e)⟩
theorem RdI.off {w : World} {B base X i : Nat} {A : Option Addr} {zs : List Int} (h : RdI w B A zs) (hA : ∀ b o f, A = some ⟨b, o, f⟩ → base ≤ b) (hX : X < base) (v : Value) : RdI (w.setCell ⟨X, i, none⟩ v) B A zs := fun h0 => by
  obtain ⟨b, o, e, hb, hc⟩ := h h0
  have := hA b o none e
  exact ⟨b, o, e, hb, fun j hj => (World.cell?_of_block (a := ⟨b, o + j, none⟩) (Below.heap_setCell w ⟨X, i, none⟩ v b (by simp; omega))).trans (hc j hj)⟩
theorem RdG.off {w : World} {B base X i : Nat} {A : Option Addr} {zs : List Ed} (h : RdG w B A zs) (hA : ∀ b o f, A = some ⟨b, o, f⟩ → base ≤ b) (hX : X < base) (v : Value) : RdG (w.setCell ⟨X, i, none⟩ v) B A zs := fun h0 => by
  obtain ⟨b, o, e, hb, hc⟩ := h h0
  have := hA b o none e
  exact ⟨b, o, e, hb, fun j x hj => (hc j x hj).setFar (p := ⟨X, i, none⟩) (by simp; omega) v⟩
theorem AuF.set {a : Au} {v : Value} {w : World} {base X : Nat} (h : AuF a v w base) (hX : X < base) (i : Nat) (u : Value) : AuF a v (w.setCell ⟨X, i, none⟩ u) base := by
  obtain ⟨A, n, c, s, M, m, d, E, k, g, e, hr, h1, h2, h3⟩ := h
  exact ⟨A, n, c, s, M, m, d, E, k, g, e, { hr with al := by rw [World.size_setCell]; exact hr.al.off h1 hX u, mr := by rw [World.size_setCell]; exact hr.mr.off h2 hX u, ed := by rw [World.size_setCell]; exact hr.ed.off h3 hX u }, h1, h2, h3⟩
theorem AuF.zero (w : World) (base : Nat) : AuF ⟨[], 0, [], []⟩ (.agg #[.slice none 0 0, .int .i64 0, .slice none 0 0, .slice none 0 0]) w base :=
  ⟨none, 0, 0, 0, none, 0, 0, none, 0, 0, rfl, { al := RdI.nil _ _ _, mr := RdI.nil _ _ _, ed := RdG.nil _ _ _, hn := rfl, hm := rfl, hk := rfl, st := rfl, cn := by omega, cm := by omega, ck := by omega, bn := by omega, bm := by omega, bk := by omega }, fun b o f e => (by cases e), fun b o f e => (by cases e), fun b o f e => (by cases e)⟩
theorem own_from {w : World} {base n c : Nat} {A : Option Addr} {e : TypeId} {sz : Nat} {m : Nat} {xs : List Value} (h : w.ownsRow base e sz (.slice A n c) m xs) : ∀ b o f, A = some ⟨b, o, f⟩ → base ≤ b := fun b o f e => by
  subst e; exact (h.lt b rfl).1
theorem CR.gives {w : World} {H bc : Nat} {Ac : Option Addr} {a : Au} {vm ve : Value} {wr : World} {n cc : Nat} (h : CR w H bc Ac a.al (canM a) (canEn a (fnd a).length) vm ve wr) (hAc : ∀ b o f, Ac = some ⟨b, o, f⟩ → H + 1 < b) (hn : a.al.length = n) (hc : n ≤ cc ∧ cc ≤ 9223372036854775807) (hbn : n ≤ 100000) (hm : (canM a).length ≤ 100000) (he : (canEn a (fnd a).length).length ≤ 1000000) :
    AuF (canA a) (.agg #[.slice Ac n cc, .int .i64 ((fnd a).length : Int), vm, ve]) wr H ∧ Below H w wr := by
  have g1 := h.h1
  obtain ⟨M', d', rfl, hm1, hm2, hm3⟩ := own_rdc h.mo
  obtain ⟨E', g', rfl, he1, he2, he3⟩ := ownE_rd h.eo
  exact ⟨⟨Ac, n, cc, ((fnd a).length : Int), M', _, d', E', _, g', rfl,
    { al := h.cl.more (by have := h.h2; omega), mr := hm1, ed := he1, hn := hn, hm := rfl, hk := rfl, st := rfl, cn := hc, cm := ⟨hm2, hm3⟩, ck := ⟨he2, he3⟩, bn := hbn, bm := hm, bk := he },
    fun b o f e => by have := hAc b o f e; omega, fun b o f e => by have := own_from h.mo b o f e; omega, fun b o f e => by have := own_from h.eo b o f e; omega⟩, h.bel⟩
theorem CR.gives' {w : World} {H bc : Nat} {Ac : Option Addr} {a : Au} {vm ve : Value} {wr : World} {n cc n0 : Nat} (h : CR w H bc Ac a.al (canM a) (canEn a n0) vm ve wr) (hAc : ∀ b o f, Ac = some ⟨b, o, f⟩ → H + 1 < b) (h0 : n0 = (fnd a).length) (hn : a.al.length = n) (hc : n ≤ cc ∧ cc ≤ 9223372036854775807) (hbn : n ≤ 100000) (hm : (canM a).length ≤ 100000) (he : (canEn a n0).length ≤ 1000000) :
    AuF (canA a) (.agg #[.slice Ac n cc, .int .i64 (n0 : Int), vm, ve]) wr H ∧ Below H w wr := by
  subst h0; exact h.gives hAc hn hc hbn hm he
end Go.Proofs.Ytcciiikaejjooaa
