/- Layer 3, the mathematics of relabelling. -/
import Derived.Test.YtcciiikaejjooaaaSrt
import Derived.Test.YtcciiikaejjooaaaWl
import Derived.Test.YtcciiikaejjooaaaCno
namespace Go.Proofs.Ytcciiikaejjooaa
open Go.RowKit Go.Sort

/-- An edge with its event replaced. -/
def relE (al tl : List Int) (x : Ed) : Ed := ⟨x.f, tl.getD (al.idxOf x.e) 0, x.t⟩
/-- Edges in increasing order. -/
def srtE (l : List Ed) : List Ed := l.mergeSort fun x y => !decide (ltE y x)
theorem srtE_perm (l : List Ed) : (srtE l).Perm l := List.mergeSort_perm l _
theorem srtE_sorted (l : List Ed) : (srtE l).Pairwise fun x y => ¬ ltE y x := by
  have := List.pairwise_mergeSort (le := fun x y : Ed => !decide (ltE y x)) (fun x y z h1 h2 => by simp at *; unfold ltE at *; omega) (fun x y => by simp; unfold ltE; omega) l
  exact this.imp fun h => by simpa using h
/-- No two edges have one state and one event. -/
def KeyD (l : List Ed) : Prop := l.Pairwise fun x y => ¬ (x.f = y.f ∧ x.e = y.e)
theorem keyD_perm {l r : List Ed} (h : KeyD l) (hp : r.Perm l) : KeyD r :=
  (hp.pairwise_iff (R := fun x y : Ed => ¬ (x.f = y.f ∧ x.e = y.e)) (fun {x y} h h' => h ⟨h'.1.symm, h'.2.symm⟩)).2 h
theorem strict_of {l : List Ed} (h : l.Pairwise fun x y => ¬ ltE y x) (hk : KeyD l) : l.Pairwise ltE := by
  refine (h.and hk).imp fun h => ?_
  obtain ⟨h1, h2⟩ := h
  unfold ltE at *; omega
theorem srtE_eq {l r : List Ed} (hk : KeyD l) (hp : r.Perm l) (hs : r.Pairwise fun x y => ¬ ltE y x) : r = srtE l :=
  sorted_ext (r := ltE) ltE_irrefl (fun x y z => ltE_trans) _ _ (strict_of hs (keyD_perm hk hp)) (strict_of (srtE_sorted l) (keyD_perm hk (srtE_perm l))) fun x => by rw [hp.mem_iff, (srtE_perm l).mem_iff]
/-- The automaton with other events, ahead of its canonical form. -/
def relA (a : Au) (tl : List Int) : Au := ⟨srtI tl, a.st, a.mr, srtE (a.ed.map (relE a.al tl))⟩
theorem neGo_ok : ∀ (zs seen : List Int), neGo seen zs = 0 → (∀ x ∈ zs, 0 ≤ x ∧ x < 32) ∧ zs.Nodup ∧ ∀ x ∈ zs, x ∉ seen
  | [], seen, _ => ⟨by simp, List.nodup_nil, by simp⟩
  | x :: r, seen, h => by
    rw [neGo] at h
    by_cases h1 : x < 0 ∨ 32 ≤ x
    · rw [if_pos h1] at h; omega
    · rw [if_neg h1] at h
      by_cases h2 : x ∈ seen
      · rw [if_pos h2] at h; omega
      · rw [if_neg h2] at h
        obtain ⟨a, b, c⟩ := neGo_ok r (seen ++ [x]) h
        refine ⟨fun y hy => ?_, ?_, fun y hy => ?_⟩
        · rcases List.mem_cons.1 hy with rfl | hy
          · omega
          · exact a y hy
        · rw [List.nodup_cons]
          exact ⟨fun hm => c x hm (by simp), b⟩
        · rcases List.mem_cons.1 hy with rfl | hy
          · exact h2
          · exact fun hm => c y hy (by simp [hm])
theorem neE_ok {zs : List Int} (h : neE zs = 0) : (∀ x ∈ zs, 0 ≤ x ∧ x < 32) ∧ zs.Nodup := ⟨(neGo_ok zs [] h).1, (neGo_ok zs [] h).2.1⟩
theorem getD_inj {zs : List Int} (hd : zs.Nodup) {i j : Nat} (hi : i < zs.length) (hj : j < zs.length) (h : zs.getD i 0 = zs.getD j 0) : i = j := by
  rw [← idxOf_getD hd hi, h, idxOf_getD hd hj]
theorem rel_keys {a : Au} (h : RightW a) {tl : List Int} (hl : tl.length = a.al.length) (hd : tl.Nodup) : KeyD (a.ed.map (relE a.al tl)) := by
  unfold KeyD
  rw [List.pairwise_map]
  refine h.edo.imp_of_mem fun {x y} hx hy hlt => ?_
  rintro ⟨h1, h2⟩
  simp only [relE] at h1 h2
  have mx := (h.edr x hx).2.2
  have my := (h.edr y hy).2.2
  have e1 := getD_inj hd (by rw [hl]; exact List.idxOf_lt_length_iff.2 mx) (by rw [hl]; exact List.idxOf_lt_length_iff.2 my) h2
  have e2 := idx_inj mx my e1
  unfold ltE at hlt; omega
theorem rel_right {a : Au} (h : RightW a) {tl : List Int} (hl : tl.length = a.al.length) (hr : ∀ x ∈ tl, 0 ≤ x ∧ x < 32) (hd : tl.Nodup) : RightW (relA a tl) where
  alr x hx := hr x ((srtI_perm tl).mem_iff.1 hx)
  alo := srtI_lt hd
  st0 := h.st0
  mrr := h.mrr
  mro := h.mro
  edr x hx := by
    obtain ⟨y, hy, rfl⟩ := List.mem_map.1 ((srtE_perm _).mem_iff.1 hx)
    have := h.edr y hy
    exact ⟨this.1, this.2.1, (srtI_perm tl).mem_iff.2 (getD_mem (by rw [hl]; exact List.idxOf_lt_length_iff.2 this.2.2))⟩
  edo := strict_of (srtE_sorted _) (keyD_perm (rel_keys h hl hd) (srtE_perm _))
/-- What Relabel hands back. -/
def relR (a : Au) (tl : List Int) : Au × Int :=
  if chkE a ≠ 0 then (zeroA, chkE a) else if tl.length ≠ a.al.length then (zeroA, 4) else if neE tl ≠ 0 then (zeroA, neE tl) else (canA (relA a tl), 0)
theorem at_idx {zs : List Int} (hup : Up zs) {x : Int} {i : Nat} (h : At zs x i) (hm : x ∈ zs) : i = zs.idxOf x ∧ i < zs.length := by
  have hlt := List.idxOf_lt_length_iff.2 hm
  have hx := getD_idxOf hm
  obtain ⟨h1, h2, h3⟩ := h
  rcases Nat.lt_trichotomy i (zs.idxOf x) with hi | hi | hi
  · have := hup i _ hi hlt
    have := h3 (by omega)
    omega
  · exact ⟨hi, by omega⟩
  · have := h2 _ hi; omega

theorem grown_set {w : World} {blk i : Nat} (u : Value) : w.grownBy (w.setCell ⟨blk, i, none⟩ u) (some blk) :=
  ⟨rfl, rfl, rfl, by simp [World.setCell], fun k _ hne => Below.heap_setCell _ _ _ _ (fun e => hne (by rw [e]))⟩
/-- Relabel's new automaton while its edges are made. -/
structure RB (w1 : World) (bb : Nat) (As : Option Addr) (n cs : Nat) (s : Int) (M : Option Addr) (m d : Nat) (al : List Int) (wr : World) (es : List Ed) (ve : Value) : Prop where
  bel : Below w1.heap.size w1 wr
  row : Row wr bb 25 [.slice As n cs, .int .i64 s, .slice M m d, ve]
  so : Own wr w1.heap.size (.slice As n cs) al
  eo : OwnE wr w1.heap.size ve es
  h1 : w1.heap.size ≤ bb
section
variable {w1 : World} {bb : Nat} {As : Option Addr} {n cs : Nat} {s : Int} {M : Option Addr} {m d : Nat} {al : List Int} {wr w2 w3 : World} {es : List Ed} {ve ve' : Value}
theorem RB.alloc (h : RB w1 bb As n cs s M m d al wr es ve) (o : Obj) : RB w1 bb As n cs s M m d al (wr.alloc o) es ve :=
  ⟨h.bel.alloc h.bel.size o, h.row.alloc o, h.so.alloc o, h.eo.alloc o, h.h1⟩
theorem RB.drew (h : RB w1 bb As n cs s M m d al wr es ve) : RB w1 bb As n cs s M m d al wr.drew es ve := ⟨h.bel.drew, h.row, h.so, h.eo, h.h1⟩
theorem RB.below (h : RB w1 bb As n cs s M m d al wr es ve) (hb : Below wr.heap.size wr w2) : RB w1 bb As n cs s M m d al w2 es ve :=
  ⟨h.bel.trans (hb.mono h.bel.size), h.row.below hb h.row.lt, own_below h.so hb, own_below h.eo hb, h.h1⟩
theorem RB.grown (h : RB w1 bb As n cs s M m d al wr es ve) (hg : wr.grownBy w2 ve.ownBlock) : Below w1.heap.size w1 w2 ∧ Row w2 bb 25 [.slice As n cs, .int .i64 s, .slice M m d, ve] ∧ Own w2 w1.heap.size (.slice As n cs) al :=
  ⟨h.bel.grown hg h.bel.size (fun k hk => (h.eo.lt k hk).1), h.row.grown hg (row_ne_own h.row h.eo (by decide)), own_row h.so hg (owns_ne h.so h.eo (by decide))⟩
theorem RB.edge {x : Ed} (h : RB w1 bb As n cs s M m d al wr es ve) (hg : wr.grownBy w2 ve.ownBlock) (ho : OwnE w2 w1.heap.size ve' (es ++ [x])) :
    RB w1 bb As n cs s M m d al (w2.setCell ⟨bb, 3, none⟩ ve') (es ++ [x]) ve' := by
  obtain ⟨b1, b2, b3⟩ := h.grown hg
  exact ⟨b1.setCell (p := ⟨bb, 3, none⟩) h.h1 _, b2.set 3 ve', own_row b3 (grown_set ve') (.inr (row_ne_own b2 b3 (by decide))), own_row ho (grown_set ve') (.inr (row_ne_own b2 ho (by decide))), h.h1⟩
theorem RB.start1 (hb : Below w1.heap.size w1 w3) (ho : Own w3 w1.heap.size (.slice As n cs) al) : RB w1 w3.heap.size As n cs s M m d al (w3.alloc (.cells #[.slice As n cs, .int .i64 s, .slice M m d, .slice none 0 0] 25)) [] (.slice none 0 0) :=
  ⟨hb.alloc hb.size _, Row.new w3 [.slice As n cs, .int .i64 s, .slice M m d, .slice none 0 0] 25, ho.alloc _, World.ownsRow_nil _ _ _ _, hb.size⟩
theorem own_set4 {X base N : Nat} {v v0 v1 v2 v3 : Value} {xs : List Value} (h : w3.ownsRow base 3 1 v N xs) (hr : v.ownBlock ≠ some X) :
    ((((w3.setCell ⟨X, 0, none⟩ v0).setCell ⟨X, 1, none⟩ v1).setCell ⟨X, 2, none⟩ v2).setCell ⟨X, 3, none⟩ v3).ownsRow base 3 1 v N xs :=
  own_row (own_row (own_row (own_row h (grown_set v0) (.inr hr)) (grown_set v1) (.inr hr)) (grown_set v2) (.inr hr)) (grown_set v3) (.inr hr)
theorem RB.start2 (hb : Below w1.heap.size w1 w3) (ho : Own w3 w1.heap.size (.slice As n cs) al) {X : Nat} (hr : Row w3 X 25 [.slice none 0 0, .int .i64 0, .slice none 0 0, .slice none 0 0]) (hX : w1.heap.size ≤ X) :
    RB w1 X As n cs s M m d al ((((w3.setCell ⟨X, 0, none⟩ (.slice As n cs)).setCell ⟨X, 1, none⟩ (.int .i64 s)).setCell ⟨X, 2, none⟩ (.slice M m d)).setCell ⟨X, 3, none⟩ (.slice none 0 0)) [] (.slice none 0 0) :=
  ⟨below_set4 hb hX _ _ _ _, (((hr.set 0 (.slice As n cs)).set 1 (.int .i64 s)).set 2 (.slice M m d)).set 3 (.slice none 0 0), own_set4 ho (row_ne_own hr ho (by decide)), World.ownsRow_nil _ _ _ _, hX⟩
end
end Go.Proofs.Ytcciiikaejjooaa
