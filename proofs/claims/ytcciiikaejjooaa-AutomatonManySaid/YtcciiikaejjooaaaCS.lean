/- Layer 3: the memory of canonical between its rounds. -/
import Derived.Test.YtcciiikaejjooaaaSort
namespace Go.Proofs.Ytcciiikaejjooaa
open Go.RowKit Go.Sort

theorem results_cell1 {fn : Func} {p : Tmp} {ty : TypeId} (h : fn.results = #[.cell p ty]) (tmps : Array Value) (P : Program) (w : World) :
    (results fn tmps).run P w = ((asAddr (tmps.getD p undef)).run P w).andThen fun a w₁ => (loadVar ty a).run P w₁ := by
  simp only [results, h]
  simp [Sem.run_bind, Result.andThen]
theorem results_cell_tmp1 {fn : Func} {p u : Tmp} {ty : TypeId} (h : fn.results = #[.cell p ty, .tmp u]) (tmps : Array Value) (P : Program) (w : World) :
    (results fn tmps).run P w = ((asAddr (tmps.getD p undef)).run P w).andThen fun a w₁ => ((loadVar ty a).run P w₁).andThen fun v w₂ => .ok (.tuple #[v, tmps.getD u undef]) w₂ := by
  simp only [results, h]
  simp [Sem.run_bind, Result.andThen]
/-- The numbers of the states that have been found, -1 for all others. -/
def numL (fl : List Int) (S : Nat) : List Int := (List.range S).map fun (q : Nat) => if (q : Int) ∈ fl then (fl.idxOf (q : Int) : Int) else -1
theorem numL_len (fl : List Int) (S : Nat) : (numL fl S).length = S := by simp [numL]
theorem numL_at {fl : List Int} {S q : Nat} (h : q < S) : (numL fl S).getD q 0 = if (q : Int) ∈ fl then (fl.idxOf (q : Int) : Int) else -1 := by simp [numL, List.getD, h]
theorem numL_add {fl : List Int} {S T : Nat} (hn : (T : Int) ∉ fl) : numL (fl ++ [(T : Int)]) S = (numL fl S).set T (fl.length : Int) := by
  apply List.ext_getElem
  · simp [numL]
  · intro i h1 h2
    rw [List.getElem_set]
    simp only [numL, List.getElem_map, List.getElem_range]
    by_cases e : T = i
    · subst e
      rw [if_pos rfl, if_pos (by simp), List.idxOf_append, if_neg hn]; simp
    · rw [if_neg e]
      by_cases hi : (i : Int) ∈ fl
      · rw [if_pos (by simp [hi]), if_pos hi, List.idxOf_append, if_pos hi]
      · rw [if_neg (by simp [hi]; omega), if_neg hi]
theorem numL_zero {S : Nat} (h : 0 < S) : numL [0] S = (List.replicate S (-1)).set 0 0 := by
  apply List.ext_getElem
  · simp [numL]
  · intro i h1 h2
    rw [List.getElem_set]
    simp only [numL, List.getElem_map, List.getElem_range]
    by_cases e : 0 = i
    · subst e; simp
    · rw [if_neg e, if_neg (by simp; omega)]; simp

/-- The blocks of canonical: H its argument, H + 1 its result, bc the form that is made, bc + 1 the numbers, gS the starts. -/
structure CS (w : World) (H bc gS : Nat) (A : Option Addr) (n c : Nat) (s : Int) (M : Option Addr) (m d : Nat) (E : Option Addr) (k g : Nat) (S : Nat) (Ac : Option Addr) (cc : Nat) (a : Au) (wr : World) (fl : List Int) (vf : Value) (es : List Ed) (ve : Value) : Prop where
  bel : Below H w wr
  bx : Row wr H 25 [.slice A n c, .int .i64 s, .slice M m d, .slice E k g]
  res : Row wr (H + 1) 25 [.slice none 0 0, .int .i64 0, .slice none 0 0, .slice none 0 0]
  cb : Row wr bc 25 [.slice Ac n cc, .int .i64 0, .slice none 0 0, ve]
  cl : RdI wr bc Ac a.al
  nu : Row wr (bc + 1) 3 ((numL fl S).map (Value.int .i64))
  st : Row wr gS 3 ((startL a.ed (S + 1)).map (Value.int .i64))
  fo : Own wr (bc + 2) vf fl
  eo : OwnE wr (bc + 2) ve es
  fs : vf.ownBlock ≠ some gS
  h1 : H + 1 < bc
  h2 : bc + 1 < gS
  h3 : gS < wr.heap.size
theorem own_row {w w' : World} {base n : Nat} {e : TypeId} {sz : Nat} {v : Value} {xs : List Value} {row : Option Nat} (h : w.ownsRow base e sz v n xs) (hg : w.grownBy w' row) (hne : v.ownBlock = none ∨ v.ownBlock ≠ row) : w'.ownsRow base e sz v n xs := h.kept hg hne
theorem Row.grown {w w' : World} {g : Nat} {e : TypeId} {cs : List Value} {row : Option Nat} (h : Row w g e cs) (hg : w.grownBy w' row) (hne : row ≠ some g) : Row w' g e cs := (hg.block g h.lt (fun e => hne e.symm)).trans h
theorem RdI.grown {w w' : World} {B : Nat} {A : Option Addr} {zs : List Int} {row : Option Nat} (h : RdI w B A zs) (hB : B ≤ w.heap.size) (hg : w.grownBy w' row) (hr : ∀ k, row = some k → B ≤ k) : RdI w' B A zs :=
  h.below ((Below.refl B w).grown hg hB hr) (Nat.le_refl _)

section
variable {w : World} {H bc gS : Nat} {A : Option Addr} {n c : Nat} {s : Int} {M : Option Addr} {m d : Nat} {E : Option Addr} {k g : Nat} {S : Nat} {Ac : Option Addr} {cc : Nat} {a : Au} {wr w1 : World} {fl : List Int} {vf vf' : Value} {es : List Ed} {ve ve' : Value}
theorem CS.alloc (h : CS w H bc gS A n c s M m d E k g S Ac cc a wr fl vf es ve) (o : Obj) : CS w H bc gS A n c s M m d E k g S Ac cc a (wr.alloc o) fl vf es ve :=
  { h with
    bel := h.bel.alloc (by have := h.h1; have := h.h2; have := h.h3; omega) o
    bx := h.bx.alloc o, res := h.res.alloc o, cb := h.cb.alloc o
    cl := h.cl.below ((Below.refl bc wr).alloc (by have := h.h2; have := h.h3; omega) o) (Nat.le_refl _)
    nu := h.nu.alloc o, st := h.st.alloc o, fo := h.fo.alloc o, eo := h.eo.alloc o
    h3 := by have := h.h3; simp; omega }
theorem CS.drew (h : CS w H bc gS A n c s M m d E k g S Ac cc a wr fl vf es ve) : CS w H bc gS A n c s M m d E k g S Ac cc a wr.drew fl vf es ve :=
  { h with bel := h.bel.drew, bx := h.bx, res := h.res, cb := h.cb, cl := h.cl, nu := h.nu, st := h.st, fo := h.fo, eo := h.eo }
theorem CS.drewN (h : CS w H bc gS A n c s M m d E k g S Ac cc a wr fl vf es ve) (q : Nat) : CS w H bc gS A n c s M m d E k g S Ac cc a (wr.drewN q) fl vf es ve :=
  { h with bel := below_drewN h.bel q, bx := h.bx, res := h.res, cb := h.cb, cl := h.cl, nu := h.nu, st := h.st, fo := h.fo, eo := h.eo }
/-- A state is found: its number is written, it is appended. -/
theorem CS.found {T : Nat} (h : CS w H bc gS A n c s M m d E k g S Ac cc a wr fl vf es ve) (hn : (T : Int) ∉ fl) (hT : T < S)
    (hg : (wr.setCell ⟨bc + 1, T, none⟩ (.int .i64 (fl.length : Int))).grownBy w1 vf.ownBlock) (ho : Own w1 (bc + 2) vf' (fl ++ [(T : Int)])) (hs : vf'.ownBlock ≠ some gS) :
    CS w H bc gS A n c s M m d E k g S Ac cc a w1 (fl ++ [(T : Int)]) vf' es ve := by
  have g1 := h.h1; have g2 := h.h2; have g3 := h.h3
  have hf1 : ∀ k, vf.ownBlock = some k → bc + 2 ≤ k := fun k hk => (h.fo.lt k hk).1
  have hne : ∀ j, j < bc + 2 → vf.ownBlock ≠ some j := fun j hj e => by have := hf1 j e; omega
  have hbs : ∀ B, B ≤ bc + 1 → Below B wr w1 := fun B hB => ((Below.refl B wr).setCell (p := ⟨bc + 1, T, none⟩) hB _).grown hg (by simp [World.setCell]; omega) (fun k hk => by have := hf1 k hk; omega)
  have hst : ∀ {j e cs}, Row wr j e cs → j ≠ bc + 1 → vf.ownBlock ≠ some j → Row w1 j e cs := fun hr h1 h2 => (hr.setOther (p := ⟨bc + 1, T, none⟩) h1 _).grown hg h2
  refine ⟨h.bel.trans (hbs H (by omega)), hst h.bx (by omega) (hne _ (by omega)), hst h.res (by omega) (hne _ (by omega)), hst h.cb (by omega) (hne _ (by omega)), h.cl.below (hbs bc (by omega)) (Nat.le_refl _), ?_, hst h.st (by omega) h.fs, ho, ?_, hs, h.h1, h.h2, by have := hg.size; simp [World.setCell] at this; omega⟩
  · have := (h.nu.set T (.int .i64 (fl.length : Int))).grown hg (hne _ (by omega))
    rwa [map_set_int, ← numL_add hn] at this
  · have h5 := ownsRow_setCell_below h.eo (a := ⟨bc + 1, T, none⟩) (by simp) (.int .i64 (fl.length : Int))
    have h6 := ownsRow_setCell_below h.fo (a := ⟨bc + 1, T, none⟩) (by simp) (.int .i64 (fl.length : Int))
    exact own_row h5 hg (owns_ne h5 h6 (by decide))
/-- An edge is appended to the form. -/
theorem CS.edge {x : Ed} (h : CS w H bc gS A n c s M m d E k g S Ac cc a wr fl vf es ve) (hg : wr.grownBy w1 ve.ownBlock) (ho : OwnE w1 (bc + 2) ve' (es ++ [x])) :
    CS w H bc gS A n c s M m d E k g S Ac cc a (w1.setCell ⟨bc, 3, none⟩ ve') fl vf (es ++ [x]) ve' := by
  have g1 := h.h1; have g2 := h.h2; have g3 := h.h3
  have hf1 : ∀ k, ve.ownBlock = some k → bc + 2 ≤ k := fun k hk => (h.eo.lt k hk).1
  have hne : ∀ j, j < bc + 2 → ve.ownBlock ≠ some j := fun j hj e => by have := hf1 j e; omega
  have hbs : ∀ B, B ≤ bc → Below B wr (w1.setCell ⟨bc, 3, none⟩ ve') := fun B hB => ((Below.refl B wr).grown hg (by omega) (fun k hk => by have := hf1 k hk; omega)).setCell (p := ⟨bc, 3, none⟩) hB _
  have hst : ∀ {j e cs}, Row wr j e cs → j ≠ bc → ve.ownBlock ≠ some j → Row (w1.setCell ⟨bc, 3, none⟩ ve') j e cs := fun hr h1 h2 => (hr.grown hg h2).setOther (p := ⟨bc, 3, none⟩) h1 _
  refine ⟨h.bel.trans (hbs H (by omega)), hst h.bx (by omega) (hne _ (by omega)), hst h.res (by omega) (hne _ (by omega)), ?_, h.cl.below (hbs bc (Nat.le_refl _)) (Nat.le_refl _), hst h.nu (by omega) (hne _ (by omega)), hst h.st (by omega) (row_ne_own h.st h.eo (by decide)), ?_, ?_, h.fs, h.h1, h.h2, by have := hg.size; simp [World.setCell]; omega⟩
  · exact (h.cb.grown hg (hne _ (by omega))).set 3 ve'
  · exact ownsRow_setCell_below (own_row h.fo hg (owns_ne h.fo h.eo (by decide))) (a := ⟨bc, 3, none⟩) (by simp) _
  · exact ownsRow_setCell_below ho (a := ⟨bc, 3, none⟩) (by simp) _
end
/-- canonical's memory while its marked states are gathered. -/
structure CM (w : World) (H bc : Nat) (A : Option Addr) (n c : Nat) (s : Int) (M : Option Addr) (m d : Nat) (E : Option Addr) (k g : Nat) (S : Nat) (Ac : Option Addr) (cc : Nat) (a : Au) (fl : List Int) (ns : Int) (es : List Ed) (ve : Value) (wr : World) (ms : List Int) (vm : Value) : Prop where
  bel : Below H w wr
  bx : Row wr H 25 [.slice A n c, .int .i64 s, .slice M m d, .slice E k g]
  res : Row wr (H + 1) 25 [.slice none 0 0, .int .i64 0, .slice none 0 0, .slice none 0 0]
  cb : Row wr bc 25 [.slice Ac n cc, .int .i64 ns, vm, ve]
  cl : RdI wr bc Ac a.al
  nu : Row wr (bc + 1) 3 ((numL fl S).map (Value.int .i64))
  mo : Own wr (bc + 2) vm ms
  eo : OwnE wr (bc + 2) ve es
  h1 : H + 1 < bc
  h2 : bc + 1 < wr.heap.size
section
variable {w : World} {H bc gS : Nat} {A : Option Addr} {n c : Nat} {s : Int} {M : Option Addr} {m d : Nat} {E : Option Addr} {k g : Nat} {S : Nat} {Ac : Option Addr} {cc : Nat} {a : Au} {wr w1 : World} {fl ms zs : List Int} {ns : Int} {vf vm vm' : Value} {es : List Ed} {ve : Value}
theorem CS.marked (h : CS w H bc gS A n c s M m d E k g S Ac cc a wr fl vf es ve) : CM w H bc A n c s M m d E k g S Ac cc a fl ns es ve (wr.setCell ⟨bc, 1, none⟩ (.int .i64 ns)) [] (.slice none 0 0) := by
  have g1 := h.h1; have g2 := h.h2; have g3 := h.h3
  have hb : ∀ B, B ≤ bc → Below B wr (wr.setCell ⟨bc, 1, none⟩ (.int .i64 ns)) := fun B hB => (Below.refl B wr).setCell (p := ⟨bc, 1, none⟩) hB _
  exact ⟨h.bel.trans (hb H (by omega)), h.bx.setOther (p := ⟨bc, 1, none⟩) (by simp; omega) _, h.res.setOther (p := ⟨bc, 1, none⟩) (by simp; omega) _, h.cb.set 1 _, h.cl.below (hb bc (Nat.le_refl _)) (Nat.le_refl _), h.nu.setOther (p := ⟨bc, 1, none⟩) (by simp) _, World.ownsRow_nil _ _ _ _, ownsRow_setCell_below h.eo (a := ⟨bc, 1, none⟩) (by simp) _, h.h1, by simp [World.setCell]; omega⟩
theorem CM.alloc (h : CM w H bc A n c s M m d E k g S Ac cc a fl ns es ve wr ms vm) (o : Obj) : CM w H bc A n c s M m d E k g S Ac cc a fl ns es ve (wr.alloc o) ms vm :=
  { h with
    bel := h.bel.alloc (by have := h.h1; have := h.h2; omega) o
    bx := h.bx.alloc o, res := h.res.alloc o, cb := h.cb.alloc o
    cl := h.cl.below ((Below.refl bc wr).alloc (by have := h.h2; omega) o) (Nat.le_refl _)
    nu := h.nu.alloc o, mo := h.mo.alloc o, eo := h.eo.alloc o
    h2 := by have := h.h2; simp; omega }
theorem CM.drew (h : CM w H bc A n c s M m d E k g S Ac cc a fl ns es ve wr ms vm) : CM w H bc A n c s M m d E k g S Ac cc a fl ns es ve wr.drew ms vm :=
  { h with bel := h.bel.drew, bx := h.bx, res := h.res, cb := h.cb, cl := h.cl, nu := h.nu, mo := h.mo, eo := h.eo }
theorem CM.drewN (h : CM w H bc A n c s M m d E k g S Ac cc a fl ns es ve wr ms vm) (q : Nat) : CM w H bc A n c s M m d E k g S Ac cc a fl ns es ve (wr.drewN q) ms vm :=
  { h with bel := below_drewN h.bel q, bx := h.bx, res := h.res, cb := h.cb, cl := h.cl, nu := h.nu, mo := h.mo, eo := h.eo }
theorem CM.sorted (h : CM w H bc A n c s M m d E k g S Ac cc a fl ns es ve wr ms vm) (hg : wr.grownBy w1 vm.ownBlock) (ho : Own w1 (bc + 2) vm zs) : CM w H bc A n c s M m d E k g S Ac cc a fl ns es ve w1 zs vm := by
  have g1 := h.h1; have g2 := h.h2
  have hf1 : ∀ k, vm.ownBlock = some k → bc + 2 ≤ k := fun k hk => (h.mo.lt k hk).1
  have hne : ∀ j, j < bc + 2 → vm.ownBlock ≠ some j := fun j hj e => by have := hf1 j e; omega
  have hbs : ∀ B, B ≤ bc → Below B wr w1 := fun B hB => (Below.refl B wr).grown hg (by omega) (fun k hk => by have := hf1 k hk; omega)
  exact ⟨h.bel.trans (hbs H (by omega)), h.bx.grown hg (hne _ (by omega)), h.res.grown hg (hne _ (by omega)), h.cb.grown hg (hne _ (by omega)), h.cl.below (hbs bc (Nat.le_refl _)) (Nat.le_refl _), h.nu.grown hg (hne _ (by omega)), ho, own_row h.eo hg (owns_ne h.eo h.mo (by decide)), h.h1, by have := hg.size; omega⟩
/-- A number is appended to the marked states. -/
theorem CM.mark {x : Int} (h : CM w H bc A n c s M m d E k g S Ac cc a fl ns es ve wr ms vm) (hg : wr.grownBy w1 vm.ownBlock) (ho : Own w1 (bc + 2) vm' (ms ++ [x])) :
    CM w H bc A n c s M m d E k g S Ac cc a fl ns es ve (w1.setCell ⟨bc, 2, none⟩ vm') (ms ++ [x]) vm' := by
  have g1 := h.h1; have g2 := h.h2
  have hf1 : ∀ k, vm.ownBlock = some k → bc + 2 ≤ k := fun k hk => (h.mo.lt k hk).1
  have hne : ∀ j, j < bc + 2 → vm.ownBlock ≠ some j := fun j hj e => by have := hf1 j e; omega
  have hbs : ∀ B, B ≤ bc → Below B wr (w1.setCell ⟨bc, 2, none⟩ vm') := fun B hB => ((Below.refl B wr).grown hg (by omega) (fun k hk => by have := hf1 k hk; omega)).setCell (p := ⟨bc, 2, none⟩) hB _
  have hst : ∀ {j e cs}, Row wr j e cs → j ≠ bc → vm.ownBlock ≠ some j → Row (w1.setCell ⟨bc, 2, none⟩ vm') j e cs := fun hr h1 h2 => (hr.grown hg h2).setOther (p := ⟨bc, 2, none⟩) h1 _
  refine ⟨h.bel.trans (hbs H (by omega)), hst h.bx (by omega) (hne _ (by omega)), hst h.res (by omega) (hne _ (by omega)), ?_, h.cl.below (hbs bc (Nat.le_refl _)) (Nat.le_refl _), hst h.nu (by omega) (hne _ (by omega)), ?_, ?_, h.h1, by have := hg.size; simp [World.setCell]; omega⟩
  · exact (h.cb.grown hg (hne _ (by omega))).set 2 vm'
  · exact ownsRow_setCell_below ho (a := ⟨bc, 2, none⟩) (by simp) _
  · exact ownsRow_setCell_below (own_row h.eo hg (owns_ne h.eo h.mo (by decide))) (a := ⟨bc, 2, none⟩) (by simp) _
/-- What canonical hands back. -/
theorem CM.gives (h : CM w H bc A n c s M m d E k g S Ac cc a (fnd a) ((fnd a).length : Int) (canEn a (fnd a).length) ve wr (canM a) vm) (hn : a.al.length = n) (hc : n ≤ cc ∧ cc ≤ 9223372036854775807) (hbn : n ≤ 100000) (hm : (canM a).length ≤ 100000) (he : (canEn a (fnd a).length).length ≤ 1000000) :
    AuV (canA a) (.agg #[.slice Ac n cc, .int .i64 ((fnd a).length : Int), vm, ve]) wr := by
  obtain ⟨M', d', rfl, hm1, hm2, hm3⟩ := own_rdc h.mo
  obtain ⟨E', g', rfl, he1, he2, he3⟩ := ownE_rd h.eo
  exact ⟨Ac, n, cc, ((fnd a).length : Int), M', _, d', E', _, g', rfl,
    { al := h.cl.more (by have := h.h2; omega), mr := hm1, ed := he1, hn := hn, hm := rfl, hk := rfl, st := rfl, cn := hc, cm := ⟨hm2, hm3⟩, ck := ⟨he2, he3⟩, bn := hbn, bm := hm, bk := he }⟩
end
/-- What of canonical's memory is there before its rounds. -/
structure CB (w : World) (H bc : Nat) (A : Option Addr) (n c : Nat) (s : Int) (M : Option Addr) (m d : Nat) (E : Option Addr) (k g : Nat) (Ac : Option Addr) (cc : Nat) (a : Au) (wr : World) (vm ve : Value) (ns : Int) : Prop where
  bel : Below H w wr
  bx : Row wr H 25 [.slice A n c, .int .i64 s, .slice M m d, .slice E k g]
  res : Row wr (H + 1) 25 [.slice none 0 0, .int .i64 0, .slice none 0 0, .slice none 0 0]
  cb : Row wr bc 25 [.slice Ac n cc, .int .i64 ns, vm, ve]
  cl : RdI wr bc Ac a.al
  h1 : H + 1 < bc
  h2 : bc < wr.heap.size
section
variable {w : World} {H bc : Nat} {A : Option Addr} {n c : Nat} {s : Int} {M : Option Addr} {m d : Nat} {E : Option Addr} {k g : Nat} {Ac : Option Addr} {cc : Nat} {a : Au} {wr w1 : World} {vm ve : Value} {ns : Int}
theorem CB.alloc (h : CB w H bc A n c s M m d E k g Ac cc a wr vm ve ns) (o : Obj) : CB w H bc A n c s M m d E k g Ac cc a (wr.alloc o) vm ve ns :=
  { h with
    bel := h.bel.alloc (by have := h.h1; have := h.h2; omega) o
    bx := h.bx.alloc o, res := h.res.alloc o, cb := h.cb.alloc o
    cl := h.cl.below ((Below.refl bc wr).alloc (by have := h.h2; omega) o) (Nat.le_refl _)
    h2 := by have := h.h2; simp; omega }
theorem CB.far (h : CB w H bc A n c s M m d E k g Ac cc a wr vm ve ns) (hb : Below (bc + 1) wr w1) : CB w H bc A n c s M m d E k g Ac cc a w1 vm ve ns :=
  { h with
    bel := h.bel.trans (hb.mono (by have := h.h1; omega))
    bx := h.bx.below hb (by have := h.h1; omega), res := h.res.below hb (by have := h.h1; omega), cb := h.cb.below hb (by omega)
    cl := h.cl.below hb (by omega)
    h2 := by have := h.h2; have := hb.size; omega }
end
theorem fill_step {S i : Nat} (h : i < S) : (List.replicate i (-1 : Int) ++ List.replicate (S - i) 0).set i (-1) = List.replicate (i + 1) (-1) ++ List.replicate (S - (i + 1)) 0 := by
  rw [List.set_append, if_neg (by simp)]
  simp only [List.length_replicate, Nat.sub_self]
  obtain ⟨t, ht⟩ : ∃ t, S - i = t + 1 := ⟨S - i - 1, by omega⟩
  rw [ht, List.replicate_succ, List.set_cons_zero, show S - (i + 1) = t by omega, List.replicate_succ' (n := i)]
  simp
theorem own_shape {w : World} {base L : Nat} {v : Value} {zs : List Int} (h : Own w base v zs) (hL : L = zs.length) (h0 : 0 < L) : ∃ g cap, v = .slice (some ⟨g, 0, none⟩) L cap ∧ g < w.heap.size ∧ (∀ j, j < L → w.cell? ⟨g, j, none⟩ = some (.int .i64 (zs.getD j 0))) ∧ L ≤ cap ∧ cap ≤ 9223372036854775807 := by
  subst hL
  rcases h.2 with ⟨rfl, h1⟩ | ⟨g, cap, cur, rfl, hg, hh, hn, hcap, hsz, htake⟩
  · omega
  · refine ⟨g, cap, rfl, (h.lt g rfl).2, fun j hj => ?_, hn, by unfold maxLen at hcap; omega⟩
    rw [World.ownsRow.cellAt (cap := cap) h j (by omega), List.getElem?_map, List.getElem?_eq_getElem hj]
    simp [List.getD, List.getElem?_eq_getElem hj]
theorem succ_len {l : List Ed} (h : l.Pairwise ltE) (q : Nat) : (succ l (q : Int)).length = startN l (q + 1) - startN l q := by
  rw [← slice_succ h q, List.length_take, List.length_drop]
  have := startN_le l (q + 1)
  omega
theorem startN_mono (l : List Ed) (q : Nat) : startN l q ≤ startN l (q + 1) := by rw [startN_succ]; omega
theorem succ_at {l : List Ed} (h : l.Pairwise ltE) (q j : Nat) (hj : j < startN l (q + 1) - startN l q) : (succ l (q : Int))[j]? = l[startN l q + j]? := by
  rw [← slice_succ h q, List.getElem?_take_of_lt hj, List.getElem?_drop]
theorem own_below {w w' : World} {B : Nat} {e : TypeId} {sz : Nat} {v : Value} {n : Nat} {xs : List Value} (h : w.ownsRow B e sz v n xs) (hb : Below w.heap.size w w') : w'.ownsRow B e sz v n xs :=
  World.ownsRow.kept (row := none) h ⟨hb.os, hb.tape, hb.output, hb.size, fun i hi _ => hb.block i hi⟩ (Classical.em _)
theorem grown_trans {a b c : World} {row : Option Nat} (h : a.grownBy b row) (k : b.grownBy c row) : a.grownBy c row :=
  ⟨k.os.trans h.os, k.tape.trans h.tape, k.output.trans h.output, Nat.le_trans h.size k.size, fun i hi hne => (k.block i (Nat.lt_of_lt_of_le hi h.size) hne).trans (h.block i hi hne)⟩
theorem EdAt.grown {w w' : World} {b o : Nat} {x : Ed} {row : Option Nat} (h : EdAt w b o x) (hg : w.grownBy w' row) (hb : b < w.heap.size) (hne : row ≠ some b) : EdAt w' b o x :=
  h.keep fun o => World.cell?_of_block (a := ⟨b, o, none⟩) (hg.block b hb (fun e => hne e.symm))
theorem EdAt.alloc {w : World} {b o : Nat} {x : Ed} (h : EdAt w b o x) (hb : b < w.heap.size) (ob : Obj) : EdAt (w.alloc ob) b o x :=
  h.keep fun o => World.cell?_of_block (a := ⟨b, o, none⟩) (Below.heap_alloc w ob b hb)
theorem EdAt.setFar {w : World} {b o : Nat} {x : Ed} (h : EdAt w b o x) {p : Addr} (hp : b ≠ p.block) (v : Value) : EdAt (w.setCell p v) b o x :=
  h.keep fun o => World.cell?_of_block (a := ⟨b, o, none⟩) (Below.heap_setCell w p v b hp)
theorem visitL_take {l : List Ed} {fl : List Int} {t : Nat} {x : Ed} (h : l[t]? = some x) : visitL fl (l.take (t + 1)) = visit (visitL fl (l.take t)) x.t := by rw [take_succ_ed h, visitL_snoc]
theorem visit_in {fl : List Int} {t : Int} (h : t ∈ fl) : visit fl t = fl := by rw [visit, if_pos h]
theorem visit_new {fl : List Int} {t : Int} (h : t ∉ fl) : visit fl t = fl ++ [t] := by rw [visit, if_neg h]
/-- What has been found in the midst of a state's edges is found in the end. -/
theorem visit_fnd {a : Au} (h : RightW a) (h0 : 0 < a.st) {n t : Nat} (hn : n < (Fd a n).length) (l : List Ed) (hl : l = succ a.ed ((Fd a n).getD n 0)) : visitL (Fd a n) (l.take t) <+: fnd a := by
  have e : visitL (Fd a n) l = Fd a (n + 1) := by rw [hl, Fd_go hn]
  have h1 : visitL (Fd a n) (l.take t) <+: Fd a (n + 1) := by
    rw [← e]
    conv => rhs; rw [← List.take_append_drop t l, visitL_app]
    exact visitL_pre _ _
  exact h1.trans (Fd_fnd h h0 (n + 1))
theorem outE_take {a : Au} {fl : List Int} {n t : Nat} {x : Ed} {q : Int} (hq : q = fl.getD n 0) (h : (succ a.ed q)[t]? = some x) : (outE a fl n).take (t + 1) = (outE a fl n).take t ++ [⟨(n : Int), x.e, (fl.idxOf x.t : Int)⟩] := by
  subst hq
  unfold outE
  rw [← List.map_take, ← List.map_take, take_succ_ed h, List.map_append]; rfl
theorem news_one {W : World} {x : Value} {T : TypeId} {b : Nat} (hb : W.heap.size = b) : ∀ j u, [x][j]? = some u → (W.alloc (.cells #[x] T)).cell? ((⟨b, 0, none⟩ : Addr).add j) = some u := by
  subst hb
  intro j u hj
  match j, hj with
  | 0, hj => simp at hj; subst hj; simp [Addr.add]
theorem EdAt.made' {w : World} {b : Nat} (f e t : Int) (T : TypeId) (hb : w.heap.size = b) : EdAt (w.alloc (.cells #[.int .i64 f, .int .i64 e, .int .i64 t] T)) b 0 ⟨f, e, t⟩ := by
  subst hb; exact EdAt.made w f e t T
theorem idx_new {fl : List Int} {T : Int} (h : T ∉ fl) : (fl ++ [T]).idxOf T = fl.length := by rw [List.idxOf_append, if_neg h]; simp
end Go.Proofs.Ytcciiikaejjooaa
