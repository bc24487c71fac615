/- Texts merged: what follows were texts of their own. -/
import Derived.Test.YtaadhpkpekmfoaaGreatZa2
set_option linter.unusedVariables false
set_option linter.unusedSimpArgs false
set_option linter.unusedSectionVars false
/- Layer 3: the memory of canonical between its rounds. -/
namespace Go.Proofs.YtaadhpkpekmfoaaGreat
open Go.RowKit Go.Sort

theorem results_cell1 {fn : Func} {p : Tmp} {ty : TypeId} (h : fn.results = #[.cell p ty]) (tmps : Array Value) (P : Program) (w : World) :
    (results fn tmps).run P w = ((asAddr (tmps.getD p undef)).run P w).andThen fun a w₁ => (loadVar ty a).run P w₁ := by
  simp only [results, h]
  simp [Sem.run_bind, Result.andThen]
theorem results_cell_tmp1 {fn : Func} {p u : Tmp} {ty : TypeId} (h : fn.results = #[.cell p ty, .tmp u]) (tmps : Array Value) (P : Program) (w : World) :
    (results fn tmps).run P w = ((asAddr (tmps.getD p undef)).run P w).andThen fun a w₁ => ((loadVar ty a).run P w₁).andThen fun v w₂ => .ok (.tuple #[v, tmps.getD u undef]) w₂ := by
  simp only [results, h]
  simp [Sem.run_bind, Result.andThen]
/-- The numbers of the states that have been found, -1 for all others. -/
def numL (fl : List Int) (S : Nat) : List Int := (List.range S).map fun (q : Nat) => if (q : Int) ∈ fl then (fl.idxOf (q : Int) : Int) else -1
theorem numL_len (fl : List Int) (S : Nat) : (numL fl S).length = S := by simp [numL]
theorem numL_at {fl : List Int} {S q : Nat} (h : q < S) : (numL fl S).getD q 0 = if (q : Int) ∈ fl then (fl.idxOf (q : Int) : Int) else -1 := by simp [numL, List.getD, h]
theorem numL_add {fl : List Int} {S T : Nat} (hn : (T : Int) ∉ fl) : numL (fl ++ [(T : Int)]) S = (numL fl S).set T (fl.length : Int) := by
  apply List.ext_getElem
  · simp [numL]
  · intro i h1 h2
    rw [List.getElem_set]
    simp only [numL, List.getElem_map, List.getElem_range]
    by_cases e : T = i
    · subst e
      rw [if_pos rfl, if_pos (by simp), List.idxOf_append, if_neg hn]; simp
    · rw [if_neg e]
      by_cases hi : (i : Int) ∈ fl
      · rw [if_pos (by simp [hi]), if_pos hi, List.idxOf_append, if_pos hi]
      · rw [if_neg (by simp [hi]; omega), if_neg hi]
theorem numL_zero {S : Nat} (h : 0 < S) : numL [0] S = (List.replicate S (-1)).set 0 0 := by
  apply List.ext_getElem
  · simp [numL]
  · intro i h1 h2
    rw [List.getElem_set]
    simp only [numL, List.getElem_map, List.getElem_range]
    by_cases e : 0 = i
    · subst e; simp
    · rw [if_neg e, if_neg (by simp; omega)]; simp

/-- The blocks of canonical: H its argument, H + 1 its result, bc the form that is made, bc + 1 the numbers, gS the starts. -/
structure CS (w : World) (H bc gS : Nat) (A : Option Addr) (n c : Nat) (s : Int) (M : Option Addr) (m d : Nat) (E : Option Addr) (k g : Nat) (S : Nat) (Ac : Option Addr) (cc : Nat) (a : Au) (wr : World) (fl : List Int) (vf : Value) (es : List Ed) (ve : Value) : Prop where
  bel : Below H w wr
  bx : Row wr H 33 [.slice A n c, .int .i64 s, .slice M m d, .slice E k g]
  res : Row wr (H + 1) 33 [.slice none 0 0, .int .i64 0, .slice none 0 0, .slice none 0 0]
  cb : Row wr bc 33 [.slice Ac n cc, .int .i64 0, .slice none 0 0, ve]
  cl : RdI wr bc Ac a.al
  nu : Row wr (bc + 1) 3 ((numL fl S).map (Value.int .i64))
  st : Row wr gS 3 ((startL a.ed (S + 1)).map (Value.int .i64))
  fo : Own wr (bc + 2) vf fl
  eo : OwnE wr (bc + 2) ve es
  fs : vf.ownBlock ≠ some gS
  h1 : H + 1 < bc
  h2 : bc + 1 < gS
  h3 : gS < wr.heap.size
theorem own_row {w w' : World} {base n : Nat} {e : TypeId} {sz : Nat} {v : Value} {xs : List Value} {row : Option Nat} (h : w.ownsRow base e sz v n xs) (hg : w.grownBy w' row) (hne : v.ownBlock = none ∨ v.ownBlock ≠ row) : w'.ownsRow base e sz v n xs := h.kept hg hne
theorem Row.grown {w w' : World} {g : Nat} {e : TypeId} {cs : List Value} {row : Option Nat} (h : Row w g e cs) (hg : w.grownBy w' row) (hne : row ≠ some g) : Row w' g e cs := (hg.block g h.lt (fun e => hne e.symm)).trans h
theorem RdI.grown {w w' : World} {B : Nat} {A : Option Addr} {zs : List Int} {row : Option Nat} (h : RdI w B A zs) (hB : B ≤ w.heap.size) (hg : w.grownBy w' row) (hr : ∀ k, row = some k → B ≤ k) : RdI w' B A zs :=
  h.below ((Below.refl B w).grown hg hB hr) (Nat.le_refl _)

section
variable {w : World} {H bc gS : Nat} {A : Option Addr} {n c : Nat} {s : Int} {M : Option Addr} {m d : Nat} {E : Option Addr} {k g : Nat} {S : Nat} {Ac : Option Addr} {cc : Nat} {a : Au} {wr w1 : World} {fl : List Int} {vf vf' : Value} {es : List Ed} {ve ve' : Value}
theorem CS.alloc (h : CS w H bc gS A n c s M m d E k g S Ac cc a wr fl vf es ve) (o : Obj) : CS w H bc gS A n c s M m d E k g S Ac cc a (wr.alloc o) fl vf es ve :=
  { h with
    bel := h.bel.alloc (by have := h.h1; have := h.h2; have := h.h3; omega) o
    bx := h.bx.alloc o, res := h.res.alloc o, cb := h.cb.alloc o
    cl := h.cl.below ((Below.refl bc wr).alloc (by have := h.h2; have := h.h3; omega) o) (Nat.le_refl _)
    nu := h.nu.alloc o, st := h.st.alloc o, fo := h.fo.alloc o, eo := h.eo.alloc o
    h3 := by have := h.h3; simp; omega }
theorem CS.drew (h : CS w H bc gS A n c s M m d E k g S Ac cc a wr fl vf es ve) : CS w H bc gS A n c s M m d E k g S Ac cc a wr.drew fl vf es ve :=
  { h with bel := h.bel.drew, bx := h.bx, res := h.res, cb := h.cb, cl := h.cl, nu := h.nu, st := h.st, fo := h.fo, eo := h.eo }
theorem CS.drewN (h : CS w H bc gS A n c s M m d E k g S Ac cc a wr fl vf es ve) (q : Nat) : CS w H bc gS A n c s M m d E k g S Ac cc a (wr.drewN q) fl vf es ve :=
  { h with bel := below_drewN h.bel q, bx := h.bx, res := h.res, cb := h.cb, cl := h.cl, nu := h.nu, st := h.st, fo := h.fo, eo := h.eo }
/-- A state is found: its number is written, it is appended. -/
theorem CS.found {T : Nat} (h : CS w H bc gS A n c s M m d E k g S Ac cc a wr fl vf es ve) (hn : (T : Int) ∉ fl) (hT : T < S)
    (hg : (wr.setCell ⟨bc + 1, T, none⟩ (.int .i64 (fl.length : Int))).grownBy w1 vf.ownBlock) (ho : Own w1 (bc + 2) vf' (fl ++ [(T : Int)])) (hs : vf'.ownBlock ≠ some gS) :
    CS w H bc gS A n c s M m d E k g S Ac cc a w1 (fl ++ [(T : Int)]) vf' es ve := by
  have g1 := h.h1; have g2 := h.h2; have g3 := h.h3
  have hf1 : ∀ k, vf.ownBlock = some k → bc + 2 ≤ k := fun k hk => (h.fo.lt k hk).1
  have hne : ∀ j, j < bc + 2 → vf.ownBlock ≠ some j := fun j hj e => by have := hf1 j e; omega
  have hbs : ∀ B, B ≤ bc + 1 → Below B wr w1 := fun B hB => ((Below.refl B wr).setCell (p := ⟨bc + 1, T, none⟩) hB _).grown hg (by simp [World.setCell]; omega) (fun k hk => by have := hf1 k hk; omega)
  have hst : ∀ {j e cs}, Row wr j e cs → j ≠ bc + 1 → vf.ownBlock ≠ some j → Row w1 j e cs := fun hr h1 h2 => (hr.setOther (p := ⟨bc + 1, T, none⟩) h1 _).grown hg h2
  refine ⟨h.bel.trans (hbs H (by omega)), hst h.bx (by omega) (hne _ (by omega)), hst h.res (by omega) (hne _ (by omega)), hst h.cb (by omega) (hne _ (by omega)), h.cl.below (hbs bc (by omega)) (Nat.le_refl _), ?_, hst h.st (by omega) h.fs, ho, ?_, hs, h.h1, h.h2, by have := hg.size; simp [World.setCell] at this; omega⟩
  · have := (h.nu.set T (.int .i64 (fl.length : Int))).grown hg (hne _ (by omega))
    rwa [map_set_int, ← numL_add hn] at this
  · have h5 := ownsRow_setCell_below h.eo (a := ⟨bc + 1, T, none⟩) (by simp) (.int .i64 (fl.length : Int))
    have h6 := ownsRow_setCell_below h.fo (a := ⟨bc + 1, T, none⟩) (by simp) (.int .i64 (fl.length : Int))
    exact own_row h5 hg (owns_ne h5 h6 (by decide))
/-- An edge is appended to the form. -/
theorem CS.edge {x : Ed} (h : CS w H bc gS A n c s M m d E k g S Ac cc a wr fl vf es ve) (hg : wr.grownBy w1 ve.ownBlock) (ho : OwnE w1 (bc + 2) ve' (es ++ [x])) :
    CS w H bc gS A n c s M m d E k g S Ac cc a (w1.setCell ⟨bc, 3, none⟩ ve') fl vf (es ++ [x]) ve' := by
  have g1 := h.h1; have g2 := h.h2; have g3 := h.h3
  have hf1 : ∀ k, ve.ownBlock = some k → bc + 2 ≤ k := fun k hk => (h.eo.lt k hk).1
  have hne : ∀ j, j < bc + 2 → ve.ownBlock ≠ some j := fun j hj e => by have := hf1 j e; omega
  have hbs : ∀ B, B ≤ bc → Below B wr (w1.setCell ⟨bc, 3, none⟩ ve') := fun B hB => ((Below.refl B wr).grown hg (by omega) (fun k hk => by have := hf1 k hk; omega)).setCell (p := ⟨bc, 3, none⟩) hB _
  have hst : ∀ {j e cs}, Row wr j e cs → j ≠ bc → ve.ownBlock ≠ some j → Row (w1.setCell ⟨bc, 3, none⟩ ve') j e cs := fun hr h1 h2 => (hr.grown hg h2).setOther (p := ⟨bc, 3, none⟩) h1 _
  refine ⟨h.bel.trans (hbs H (by omega)), hst h.bx (by omega) (hne _ (by omega)), hst h.res (by omega) (hne _ (by omega)), ?_, h.cl.below (hbs bc (Nat.le_refl _)) (Nat.le_refl _), hst h.nu (by omega) (hne _ (by omega)), hst h.st (by omega) (row_ne_own h.st h.eo (by decide)), ?_, ?_, h.fs, h.h1, h.h2, by have := hg.size; simp [World.setCell]; omega⟩
  · exact (h.cb.grown hg (hne _ (by omega))).set 3 ve'
  · exact ownsRow_setCell_below (own_row h.fo hg (owns_ne h.fo h.eo (by decide))) (a := ⟨bc, 3, none⟩) (by simp) _
  · exact ownsRow_setCell_below ho (a := ⟨bc, 3, none⟩) (by simp) _
end
/-- canonical's memory while its marked states are gathered. -/
structure CM (w : World) (H bc : Nat) (A : Option Addr) (n c : Nat) (s : Int) (M : Option Addr) (m d : Nat) (E : Option Addr) (k g : Nat) (S : Nat) (Ac : Option Addr) (cc : Nat) (a : Au) (fl : List Int) (ns : Int) (es : List Ed) (ve : Value) (wr : World) (ms : List Int) (vm : Value) : Prop where
  bel : Below H w wr
  bx : Row wr H 33 [.slice A n c, .int .i64 s, .slice M m d, .slice E k g]
  res : Row wr (H + 1) 33 [.slice none 0 0, .int .i64 0, .slice none 0 0, .slice none 0 0]
  cb : Row wr bc 33 [.slice Ac n cc, .int .i64 ns, vm, ve]
  cl : RdI wr bc Ac a.al
  nu : Row wr (bc + 1) 3 ((numL fl S).map (Value.int .i64))
  mo : Own wr (bc + 2) vm ms
  eo : OwnE wr (bc + 2) ve es
  h1 : H + 1 < bc
  h2 : bc + 1 < wr.heap.size
section
variable {w : World} {H bc gS : Nat} {A : Option Addr} {n c : Nat} {s : Int} {M : Option Addr} {m d : Nat} {E : Option Addr} {k g : Nat} {S : Nat} {Ac : Option Addr} {cc : Nat} {a : Au} {wr w1 : World} {fl ms zs : List Int} {ns : Int} {vf vm vm' : Value} {es : List Ed} {ve : Value}
theorem CS.marked (h : CS w H bc gS A n c s M m d E k g S Ac cc a wr fl vf es ve) : CM w H bc A n c s M m d E k g S Ac cc a fl ns es ve (wr.setCell ⟨bc, 1, none⟩ (.int .i64 ns)) [] (.slice none 0 0) := by
  have g1 := h.h1; have g2 := h.h2; have g3 := h.h3
  have hb : ∀ B, B ≤ bc → Below B wr (wr.setCell ⟨bc, 1, none⟩ (.int .i64 ns)) := fun B hB => (Below.refl B wr).setCell (p := ⟨bc, 1, none⟩) hB _
  exact ⟨h.bel.trans (hb H (by omega)), h.bx.setOther (p := ⟨bc, 1, none⟩) (by simp; omega) _, h.res.setOther (p := ⟨bc, 1, none⟩) (by simp; omega) _, h.cb.set 1 _, h.cl.below (hb bc (Nat.le_refl _)) (Nat.le_refl _), h.nu.setOther (p := ⟨bc, 1, none⟩) (by simp) _, World.ownsRow_nil _ _ _ _, ownsRow_setCell_below h.eo (a := ⟨bc, 1, none⟩) (by simp) _, h.h1, by simp [World.setCell]; omega⟩
theorem CM.alloc (h : CM w H bc A n c s M m d E k g S Ac cc a fl ns es ve wr ms vm) (o : Obj) : CM w H bc A n c s M m d E k g S Ac cc a fl ns es ve (wr.alloc o) ms vm :=
  { h with
    bel := h.bel.alloc (by have := h.h1; have := h.h2; omega) o
    bx := h.bx.alloc o, res := h.res.alloc o, cb := h.cb.alloc o
    cl := h.cl.below ((Below.refl bc wr).alloc (by have := h.h2; omega) o) (Nat.le_refl _)
    nu := h.nu.alloc o, mo := h.mo.alloc o, eo := h.eo.alloc o
    h2 := by have := h.h2; simp; omega }
theorem CM.drew (h : CM w H bc A n c s M m d E k g S Ac cc a fl ns es ve wr ms vm) : CM w H bc A n c s M m d E k g S Ac cc a fl ns es ve wr.drew ms vm :=
  { h with bel := h.bel.drew, bx := h.bx, res := h.res, cb := h.cb, cl := h.cl, nu := h.nu, mo := h.mo, eo := h.eo }
theorem CM.drewN (h : CM w H bc A n c s M m d E k g S Ac cc a fl ns es ve wr ms vm) (q : Nat) : CM w H bc A n c s M m d E k g S Ac cc a fl ns es ve (wr.drewN q) ms vm :=
  { h with bel := below_drewN h.bel q, bx := h.bx, res := h.res, cb := h.cb, cl := h.cl, nu := h.nu, mo := h.mo, eo := h.eo }
theorem CM.sorted (h : CM w H bc A n c s M m d E k g S Ac cc a fl ns es ve wr ms vm) (hg : wr.grownBy w1 vm.ownBlock) (ho : Own w1 (bc + 2) vm zs) : CM w H bc A n c s M m d E k g S Ac cc a fl ns es ve w1 zs vm := by
  have g1 := h.h1; have g2 := h.h2
  have hf1 : ∀ k, vm.ownBlock = some k → bc + 2 ≤ k := fun k hk => (h.mo.lt k hk).1
  have hne : ∀ j, j < bc + 2 → vm.ownBlock ≠ some j := fun j hj e => by have := hf1 j e; omega
  have hbs : ∀ B, B ≤ bc → Below B wr w1 := fun B hB => (Below.refl B wr).grown hg (by omega) (fun k hk => by have := hf1 k hk; omega)
  exact ⟨h.bel.trans (hbs H (by omega)), h.bx.grown hg (hne _ (by omega)), h.res.grown hg (hne _ (by omega)), h.cb.grown hg (hne _ (by omega)), h.cl.below (hbs bc (Nat.le_refl _)) (Nat.le_refl _), h.nu.grown hg (hne _ (by omega)), ho, own_row h.eo hg (owns_ne h.eo h.mo (by decide)), h.h1, by have := hg.size; omega⟩
/-- A number is appended to the marked states. -/
theorem CM.mark {x : Int} (h : CM w H bc A n c s M m d E k g S Ac cc a fl ns es ve wr ms vm) (hg : wr.grownBy w1 vm.ownBlock) (ho : Own w1 (bc + 2) vm' (ms ++ [x])) :
    CM w H bc A n c s M m d E k g S Ac cc a fl ns es ve (w1.setCell ⟨bc, 2, none⟩ vm') (ms ++ [x]) vm' := by
  have g1 := h.h1; have g2 := h.h2
  have hf1 : ∀ k, vm.ownBlock = some k → bc + 2 ≤ k := fun k hk => (h.mo.lt k hk).1
  have hne : ∀ j, j < bc + 2 → vm.ownBlock ≠ some j := fun j hj e => by have := hf1 j e; omega
  have hbs : ∀ B, B ≤ bc → Below B wr (w1.setCell ⟨bc, 2, none⟩ vm') := fun B hB => ((Below.refl B wr).grown hg (by omega) (fun k hk => by have := hf1 k hk; omega)).setCell (p := ⟨bc, 2, none⟩) hB _
  have hst : ∀ {j e cs}, Row wr j e cs → j ≠ bc → vm.ownBlock ≠ some j → Row (w1.setCell ⟨bc, 2, none⟩ vm') j e cs := fun hr h1 h2 => (hr.grown hg h2).setOther (p := ⟨bc, 2, none⟩) h1 _
  refine ⟨h.bel.trans (hbs H (by omega)), hst h.bx (by omega) (hne _ (by omega)), hst h.res (by omega) (hne _ (by omega)), ?_, h.cl.below (hbs bc (Nat.le_refl _)) (Nat.le_refl _), hst h.nu (by omega) (hne _ (by omega)), ?_, ?_, h.h1, by have := hg.size; simp [World.setCell]; omega⟩
  · exact (h.cb.grown hg (hne _ (by omega))).set 2 vm'
  · exact ownsRow_setCell_below ho (a := ⟨bc, 2, none⟩) (by simp) _
  · exact ownsRow_setCell_below (own_row h.eo hg (owns_ne h.eo h.mo (by decide))) (a := ⟨bc, 2, none⟩) (by simp) _
/-- What canonical hands back. -/
theorem CM.gives (h : CM w H bc A n c s M m d E k g S Ac cc a (fnd a) ((fnd a).length : Int) (canEn a (fnd a).length) ve wr (canM a) vm) (hn : a.al.length = n) (hc : n ≤ cc ∧ cc ≤ 9223372036854775807) (hbn : n ≤ 100000) (hm : (canM a).length ≤ 100000) (he : (canEn a (fnd a).length).length ≤ 1000000) :
    AuV (canA a) (.agg #[.slice Ac n cc, .int .i64 ((fnd a).length : Int), vm, ve]) wr := by
  obtain ⟨M', d', rfl, hm1, hm2, hm3⟩ := own_rdc h.mo
  obtain ⟨E', g', rfl, he1, he2, he3⟩ := ownE_rd h.eo
  exact ⟨Ac, n, cc, ((fnd a).length : Int), M', _, d', E', _, g', rfl,
    { al := h.cl.more (by have := h.h2; omega), mr := hm1, ed := he1, hn := hn, hm := rfl, hk := rfl, st := rfl, cn := hc, cm := ⟨hm2, hm3⟩, ck := ⟨he2, he3⟩, bn := hbn, bm := hm, bk := he }⟩
end
/-- What of canonical's memory is there before its rounds. -/
structure CB (w : World) (H bc : Nat) (A : Option Addr) (n c : Nat) (s : Int) (M : Option Addr) (m d : Nat) (E : Option Addr) (k g : Nat) (Ac : Option Addr) (cc : Nat) (a : Au) (wr : World) (vm ve : Value) (ns : Int) : Prop where
  bel : Below H w wr
  bx : Row wr H 33 [.slice A n c, .int .i64 s, .slice M m d, .slice E k g]
  res : Row wr (H + 1) 33 [.slice none 0 0, .int .i64 0, .slice none 0 0, .slice none 0 0]
  cb : Row wr bc 33 [.slice Ac n cc, .int .i64 ns, vm, ve]
  cl : RdI wr bc Ac a.al
  h1 : H + 1 < bc
  h2 : bc < wr.heap.size
section
variable {w : World} {H bc : Nat} {A : Option Addr} {n c : Nat} {s : Int} {M : Option Addr} {m d : Nat} {E : Option Addr} {k g : Nat} {Ac : Option Addr} {cc : Nat} {a : Au} {wr w1 : World} {vm ve : Value} {ns : Int}
theorem CB.alloc (h : CB w H bc A n c s M m d E k g Ac cc a wr vm ve ns) (o : Obj) : CB w H bc A n c s M m d E k g Ac cc a (wr.alloc o) vm ve ns :=
  { h with
    bel := h.bel.alloc (by have := h.h1; have := h.h2; omega) o
    bx := h.bx.alloc o, res := h.res.alloc o, cb := h.cb.alloc o
    cl := h.cl.below ((Below.refl bc wr).alloc (by have := h.h2; omega) o) (Nat.le_refl _)
    h2 := by have := h.h2; simp; omega }
theorem CB.far (h : CB w H bc A n c s M m d E k g Ac cc a wr vm ve ns) (hb : Below (bc + 1) wr w1) : CB w H bc A n c s M m d E k g Ac cc a w1 vm ve ns :=
  { h with
    bel := h.bel.trans (hb.mono (by have := h.h1; omega))
    bx := h.bx.below hb (by have := h.h1; omega), res := h.res.below hb (by have := h.h1; omega), cb := h.cb.below hb (by omega)
    cl := h.cl.below hb (by omega)
    h2 := by have := h.h2; have := hb.size; omega }
end
theorem fill_step {S i : Nat} (h : i < S) : (List.replicate i (-1 : Int) ++ List.replicate (S - i) 0).set i (-1) = List.replicate (i + 1) (-1) ++ List.replicate (S - (i + 1)) 0 := by
  rw [List.set_append, if_neg (by simp)]
  simp only [List.length_replicate, Nat.sub_self]
  obtain ⟨t, ht⟩ : ∃ t, S - i = t + 1 := ⟨S - i - 1, by omega⟩
  rw [ht, List.replicate_succ, List.set_cons_zero, show S - (i + 1) = t by omega, List.replicate_succ' (n := i)]
  simp
theorem own_shape {w : World} {base L : Nat} {v : Value} {zs : List Int} (h : Own w base v zs) (hL : L = zs.length) (h0 : 0 < L) : ∃ g cap, v = .slice (some ⟨g, 0, none⟩) L cap ∧ g < w.heap.size ∧ (∀ j, j < L → w.cell? ⟨g, j, none⟩ = some (.int .i64 (zs.getD j 0))) ∧ L ≤ cap ∧ cap ≤ 9223372036854775807 := by
  subst hL
  rcases h.2 with ⟨rfl, h1⟩ | ⟨g, cap, cur, rfl, hg, hh, hn, hcap, hsz, htake⟩
  · omega
  · refine ⟨g, cap, rfl, (h.lt g rfl).2, fun j hj => ?_, hn, by unfold maxLen at hcap; omega⟩
    rw [World.ownsRow.cellAt (cap := cap) h j (by omega), List.getElem?_map, List.getElem?_eq_getElem hj]
    simp [List.getD, List.getElem?_eq_getElem hj]
theorem succ_len {l : List Ed} (h : l.Pairwise ltE) (q : Nat) : (succ l (q : Int)).length = startN l (q + 1) - startN l q := by
  rw [← slice_succ h q, List.length_take, List.length_drop]
  have := startN_le l (q + 1)
  omega
theorem startN_mono (l : List Ed) (q : Nat) : startN l q ≤ startN l (q + 1) := by rw [startN_succ]; omega
theorem succ_at {l : List Ed} (h : l.Pairwise ltE) (q j : Nat) (hj : j < startN l (q + 1) - startN l q) : (succ l (q : Int))[j]? = l[startN l q + j]? := by
  rw [← slice_succ h q, List.getElem?_take_of_lt hj, List.getElem?_drop]
theorem own_below {w w' : World} {B : Nat} {e : TypeId} {sz : Nat} {v : Value} {n : Nat} {xs : List Value} (h : w.ownsRow B e sz v n xs) (hb : Below w.heap.size w w') : w'.ownsRow B e sz v n xs :=
  World.ownsRow.kept (row := none) h ⟨hb.os, hb.tape, hb.output, hb.size, fun i hi _ => hb.block i hi⟩ (Classical.em _)
theorem grown_trans {a b c : World} {row : Option Nat} (h : a.grownBy b row) (k : b.grownBy c row) : a.grownBy c row :=
  ⟨k.os.trans h.os, k.tape.trans h.tape, k.output.trans h.output, Nat.le_trans h.size k.size, fun i hi hne => (k.block i (Nat.lt_of_lt_of_le hi h.size) hne).trans (h.block i hi hne)⟩
theorem EdAt.grown {w w' : World} {b o : Nat} {x : Ed} {row : Option Nat} (h : EdAt w b o x) (hg : w.grownBy w' row) (hb : b < w.heap.size) (hne : row ≠ some b) : EdAt w' b o x :=
  h.keep fun o => World.cell?_of_block (a := ⟨b, o, none⟩) (hg.block b hb (fun e => hne e.symm))
theorem EdAt.alloc {w : World} {b o : Nat} {x : Ed} (h : EdAt w b o x) (hb : b < w.heap.size) (ob : Obj) : EdAt (w.alloc ob) b o x :=
  h.keep fun o => World.cell?_of_block (a := ⟨b, o, none⟩) (Below.heap_alloc w ob b hb)
theorem EdAt.setFar {w : World} {b o : Nat} {x : Ed} (h : EdAt w b o x) {p : Addr} (hp : b ≠ p.block) (v : Value) : EdAt (w.setCell p v) b o x :=
  h.keep fun o => World.cell?_of_block (a := ⟨b, o, none⟩) (Below.heap_setCell w p v b hp)
theorem visitL_take {l : List Ed} {fl : List Int} {t : Nat} {x : Ed} (h : l[t]? = some x) : visitL fl (l.take (t + 1)) = visit (visitL fl (l.take t)) x.t := by rw [take_succ_ed h, visitL_snoc]
theorem visit_in {fl : List Int} {t : Int} (h : t ∈ fl) : visit fl t = fl := by rw [visit, if_pos h]
theorem visit_new {fl : List Int} {t : Int} (h : t ∉ fl) : visit fl t = fl ++ [t] := by rw [visit, if_neg h]
/-- What has been found in the midst of a state's edges is found in the end. -/
theorem visit_fnd {a : Au} (h : RightW a) (h0 : 0 < a.st) {n t : Nat} (hn : n < (Fd a n).length) (l : List Ed) (hl : l = succ a.ed ((Fd a n).getD n 0)) : visitL (Fd a n) (l.take t) <+: fnd a := by
  have e : visitL (Fd a n) l = Fd a (n + 1) := by rw [hl, Fd_go hn]
  have h1 : visitL (Fd a n) (l.take t) <+: Fd a (n + 1) := by
    rw [← e]
    conv => rhs; rw [← List.take_append_drop t l, visitL_app]
    exact visitL_pre _ _
  exact h1.trans (Fd_fnd h h0 (n + 1))
theorem outE_take {a : Au} {fl : List Int} {n t : Nat} {x : Ed} {q : Int} (hq : q = fl.getD n 0) (h : (succ a.ed q)[t]? = some x) : (outE a fl n).take (t + 1) = (outE a fl n).take t ++ [⟨(n : Int), x.e, (fl.idxOf x.t : Int)⟩] := by
  subst hq
  unfold outE
  rw [← List.map_take, ← List.map_take, take_succ_ed h, List.map_append]; rfl
theorem news_one {W : World} {x : Value} {T : TypeId} {b : Nat} (hb : W.heap.size = b) : ∀ j u, [x][j]? = some u → (W.alloc (.cells #[x] T)).cell? ((⟨b, 0, none⟩ : Addr).add j) = some u := by
  subst hb
  intro j u hj
  match j, hj with
  | 0, hj => simp at hj; subst hj; simp [Addr.add]
theorem EdAt.made' {w : World} {b : Nat} (f e t : Int) (T : TypeId) (hb : w.heap.size = b) : EdAt (w.alloc (.cells #[.int .i64 f, .int .i64 e, .int .i64 t] T)) b 0 ⟨f, e, t⟩ := by
  subst hb; exact EdAt.made w f e t T
theorem idx_new {fl : List Int} {T : Int} (h : T ∉ fl) : (fl ++ [T]).idxOf T = fl.length := by rw [List.idxOf_append, if_neg h]; simp
end Go.Proofs.YtaadhpkpekmfoaaGreat

/- Layer 3, the mathematics of the canonical form's marked states. -/
namespace Go.Proofs.YtaadhpkpekmfoaaGreat
open Go.RowKit Go.Sort

/-- The numbers of those of these states that are found. -/
def mkL (fl ms : List Int) : List Int := (ms.filter fun q => decide (q ∈ fl)).map fun q => (fl.idxOf q : Int)
theorem mkL_nil (fl : List Int) : mkL fl [] = [] := rfl
theorem mkL_yes {fl ms : List Int} {k : Nat} (h : k < ms.length) (hp : ms.getD k 0 ∈ fl) : mkL fl (ms.take (k + 1)) = mkL fl (ms.take k) ++ [(fl.idxOf (ms.getD k 0) : Int)] := by
  unfold mkL
  rw [filter_take_yes h (by simpa using hp), List.map_append]; rfl
theorem mkL_no {fl ms : List Int} {k : Nat} (h : k < ms.length) (hp : ms.getD k 0 ∉ fl) : mkL fl (ms.take (k + 1)) = mkL fl (ms.take k) := by
  unfold mkL
  rw [filter_take_no h (by simpa using hp)]
theorem mkL_len (fl ms : List Int) (k : Nat) : (mkL fl (ms.take k)).length ≤ k := by
  unfold mkL; rw [List.length_map]; exact filter_take_le _ _ _
theorem getD_idxOf {l : List Int} {q : Int} (h : q ∈ l) : l.getD (l.idxOf q) 0 = q := by
  have := List.idxOf_lt_length_iff.2 h
  simp [List.getD, List.getElem?_eq_getElem this, List.getElem_idxOf]
theorem idxOf_getD : ∀ {l : List Int} {i : Nat}, l.Nodup → i < l.length → l.idxOf (l.getD i 0) = i
  | [], i, _, hi => by simp at hi
  | x :: l, 0, _, _ => by simp
  | x :: l, i + 1, hd, hi => by
    rw [List.nodup_cons] at hd
    have h1 : i < l.length := by simpa using hi
    have hm : l.getD i 0 ∈ l := getD_mem h1
    have hne : ¬ x = l.getD i 0 := fun e => hd.1 (e ▸ hm)
    rw [List.getD_cons_succ, List.idxOf_cons]
    have : (x == l.getD i 0) = false := by simpa using hne
    rw [this, cond_false, idxOf_getD hd.2 h1]
theorem idx_inj {l : List Int} {x y : Int} (hx : x ∈ l) (hy : y ∈ l) (h : l.idxOf x = l.idxOf y) : x = y := by
  rw [← getD_idxOf hx, h, getD_idxOf hy]
theorem mkL_nodup {fl ms : List Int} (h : ms.Nodup) : (mkL fl ms).Nodup := by
  unfold mkL
  have h1 : (ms.filter fun q => decide (q ∈ fl)).Nodup := h.sublist List.filter_sublist
  rw [List.nodup_iff_pairwise_ne, List.pairwise_map]
  refine (List.nodup_iff_pairwise_ne.1 h1).imp_of_mem fun hx hy hne e => hne ?_
  rw [List.mem_filter] at hx hy
  exact idx_inj (by simpa using hx.2) (by simpa using hy.2) (by omega)
theorem srtI_perm (zs : List Int) : (srtI zs).Perm zs := List.mergeSort_perm zs _
theorem srtI_sorted (zs : List Int) : (srtI zs).Pairwise (· ≤ ·) := by
  have := List.pairwise_mergeSort (le := fun x y : Int => decide (x ≤ y)) (fun x y z h1 h2 => by simp at *; omega) (fun x y => by simp; omega) zs
  exact this.imp fun h => by simpa using h
theorem nodup_lt {l : List Int} (h : l.Pairwise (· ≤ ·)) (hd : l.Nodup) : l.Pairwise (· < ·) := by
  have := h.and (List.nodup_iff_pairwise_ne.1 hd)
  exact this.imp fun h => by omega
theorem lt_nodup {l : List Int} (h : l.Pairwise (· < ·)) : l.Nodup := List.nodup_iff_pairwise_ne.2 (h.imp fun h => by omega)
theorem srtI_lt {zs : List Int} (h : zs.Nodup) : (srtI zs).Pairwise (· < ·) := nodup_lt (srtI_sorted zs) ((srtI_perm zs).nodup_iff.2 h)
theorem lt_ext {l r : List Int} (hl : l.Pairwise (· < ·)) (hr : r.Pairwise (· < ·)) (h : ∀ x, x ∈ l ↔ x ∈ r) : l = r :=
  sorted_ext (r := fun x y : Int => x < y) (fun x => by omega) (fun x y z h1 h2 => by omega) l r hl hr h
theorem mem_canM {a : Au} {x : Int} : x ∈ canM a ↔ ∃ i : Nat, i < (fnd a).length ∧ (fnd a).getD i 0 ∈ a.mr ∧ (i : Int) = x := by
  unfold canM
  rw [List.mem_map]
  constructor
  · rintro ⟨i, h, e⟩
    rw [List.mem_filter, List.mem_range] at h
    exact ⟨i, h.1, by simpa using h.2, e⟩
  · rintro ⟨i, h1, h2, e⟩
    exact ⟨i, by rw [List.mem_filter, List.mem_range]; exact ⟨h1, by simpa using h2⟩, e⟩
theorem canM_lt (a : Au) : (canM a).Pairwise (· < ·) := by
  unfold canM
  rw [List.pairwise_map]
  have h1 : ((List.range (fnd a).length).filter fun i => decide ((fnd a).getD i 0 ∈ a.mr)).Pairwise (· < ·) := List.pairwise_lt_range.sublist List.filter_sublist
  exact h1.imp fun h => by omega
theorem canM_len (a : Au) : (canM a).length ≤ (fnd a).length := by
  unfold canM
  rw [List.length_map]
  exact Nat.le_trans (List.length_filter_le _ _) (by simp)
theorem srt_mk {a : Au} (h : RightW a) : srtI (mkL (fnd a) a.mr) = canM a := by
  refine lt_ext (srtI_lt (mkL_nodup (lt_nodup h.mro))) (canM_lt a) fun x => ?_
  rw [(srtI_perm _).mem_iff, mem_canM]
  unfold mkL
  rw [List.mem_map]
  constructor
  · rintro ⟨q, hq, e⟩
    rw [List.mem_filter] at hq
    have hf : q ∈ fnd a := by simpa using hq.2
    exact ⟨(fnd a).idxOf q, List.idxOf_lt_length_iff.2 hf, by rw [getD_idxOf hf]; exact hq.1, e⟩
  · rintro ⟨i, h1, h2, e⟩
    refine ⟨(fnd a).getD i 0, ?_, by rw [idxOf_getD (fnd_nodup a) h1]; exact e⟩
    rw [List.mem_filter]
    exact ⟨h2, by simpa using getD_mem h1⟩
/-- What canonical has made, while it is stored into its result. -/
structure CR (w : World) (H bc : Nat) (Ac : Option Addr) (al ms : List Int) (es : List Ed) (vm ve : Value) (wr : World) : Prop where
  bel : Below H w wr
  cl : RdI wr bc Ac al
  mo : Own wr (bc + 2) vm ms
  eo : OwnE wr (bc + 2) ve es
  h1 : H + 1 < bc
  h2 : bc ≤ wr.heap.size
theorem CR.set {w : World} {H bc : Nat} {Ac : Option Addr} {al ms : List Int} {es : List Ed} {vm ve : Value} {wr : World} (h : CR w H bc Ac al ms es vm ve wr) (hAc : ∀ b o f, Ac = some ⟨b, o, f⟩ → H + 1 < b) (i : Nat) (v : Value) : CR w H bc Ac al ms es vm ve (wr.setCell ⟨H + 1, i, none⟩ v) := by
  have g1 := h.h1
  refine ⟨h.bel.setCell (p := ⟨H + 1, i, none⟩) (by simp) v, fun h0 => ?_, ownsRow_setCell_below h.mo (a := ⟨H + 1, i, none⟩) (by simp; omega) v, ownsRow_setCell_below h.eo (a := ⟨H + 1, i, none⟩) (by simp; omega) v, g1, by rw [World.size_setCell]; exact h.h2⟩
  obtain ⟨b, o, e, hb, hc⟩ := h.cl h0
  have hb2 := hAc b o none e
  exact ⟨b, o, e, hb, fun j hj => (World.cell?_of_block (a := ⟨b, o + j, none⟩) (Below.heap_setCell wr ⟨H + 1, i, none⟩ v b (by simp; omega))).trans (hc j hj)⟩
theorem CR.alloc {w : World} {H bc : Nat} {Ac : Option Addr} {al ms : List Int} {es : List Ed} {vm ve : Value} {wr : World} (h : CR w H bc Ac al ms es vm ve wr) (o : Obj) : CR w H bc Ac al ms es vm ve (wr.alloc o) :=
  ⟨h.bel.alloc (by have := h.h1; have := h.h2; omega) o, h.cl.below ((Below.refl bc wr).alloc h.h2 o) (Nat.le_refl _), h.mo.alloc o, h.eo.alloc o, h.h1, by have := h.h2; simp; omega⟩
/-- What a function hands back that makes an automaton in new memory, from block base on. -/
def AuF (a : Au) (v : Value) (w : World) (base : Nat) : Prop := ∃ A n c s M m d E k g, v = .agg #[.slice A n c, .int .i64 s, .slice M m d, .slice E k g] ∧ AuR w w.heap.size A n c s M m d E k g a ∧ (∀ b o f, A = some ⟨b, o, f⟩ → base ≤ b) ∧ (∀ b o f, M = some ⟨b, o, f⟩ → base ≤ b) ∧ (∀ b o f, E = some ⟨b, o, f⟩ → base ≤ b)
theorem AuF.below {a : Au} {v : Value} {w w' : World} {base : Nat} (h : AuF a v w base) (hb : Below w.heap.size w w') : AuF a v w' base := by
  obtain ⟨A, n, c, s, M, m, d, E, k, g, e, hr, h1, h2, h3⟩ := h
  exact ⟨A, n, c, s, M, m, d, E, k, g, e, (hr.below hb (Nat.le_refl _)).more hb.size, h1, h2, h3⟩
theorem AuF.more {a : Au} {v : Value} {w : World} {base B : Nat} (h : AuF a v w base) (hB : B ≤ base) : AuF a v w B := by
  obtain ⟨A, n, c, s, M, m, d, E, k, g, e, hr, h1, h2, h3⟩ := h
  exact ⟨A, n, c, s, M, m, d, E, k, g, e, hr, fun b o f e => Nat.le_trans hB (h1 b o f e), fun b o f e => Nat.le_trans hB (h2 b o f e), fun b o f e => Nat.le_trans hB (h3 b o f e)⟩
theorem RdI.off {w : World} {B base X i : Nat} {A : Option Addr} {zs : List Int} (h : RdI w B A zs) (hA : ∀ b o f, A = some ⟨b, o, f⟩ → base ≤ b) (hX : X < base) (v : Value) : RdI (w.setCell ⟨X, i, none⟩ v) B A zs := fun h0 => by
  obtain ⟨b, o, e, hb, hc⟩ := h h0
  have := hA b o none e
  exact ⟨b, o, e, hb, fun j hj => (World.cell?_of_block (a := ⟨b, o + j, none⟩) (Below.heap_setCell w ⟨X, i, none⟩ v b (by simp; omega))).trans (hc j hj)⟩
theorem RdG.off {w : World} {B base X i : Nat} {A : Option Addr} {zs : List Ed} (h : RdG w B A zs) (hA : ∀ b o f, A = some ⟨b, o, f⟩ → base ≤ b) (hX : X < base) (v : Value) : RdG (w.setCell ⟨X, i, none⟩ v) B A zs := fun h0 => by
  obtain ⟨b, o, e, hb, hc⟩ := h h0
  have := hA b o none e
  exact ⟨b, o, e, hb, fun j x hj => (hc j x hj).setFar (p := ⟨X, i, none⟩) (by simp; omega) v⟩
theorem AuF.set {a : Au} {v : Value} {w : World} {base X : Nat} (h : AuF a v w base) (hX : X < base) (i : Nat) (u : Value) : AuF a v (w.setCell ⟨X, i, none⟩ u) base := by
  obtain ⟨A, n, c, s, M, m, d, E, k, g, e, hr, h1, h2, h3⟩ := h
  exact ⟨A, n, c, s, M, m, d, E, k, g, e, { hr with al := by rw [World.size_setCell]; exact hr.al.off h1 hX u, mr := by rw [World.size_setCell]; exact hr.mr.off h2 hX u, ed := by rw [World.size_setCell]; exact hr.ed.off h3 hX u }, h1, h2, h3⟩
theorem AuF.zero (w : World) (base : Nat) : AuF ⟨[], 0, [], []⟩ (.agg #[.slice none 0 0, .int .i64 0, .slice none 0 0, .slice none 0 0]) w base :=
  ⟨none, 0, 0, 0, none, 0, 0, none, 0, 0, rfl, { al := RdI.nil _ _ _, mr := RdI.nil _ _ _, ed := RdG.nil _ _ _, hn := rfl, hm := rfl, hk := rfl, st := rfl, cn := by omega, cm := by omega, ck := by omega, bn := by omega, bm := by omega, bk := by omega }, fun b o f e => (by cases e), fun b o f e => (by cases e), fun b o f e => (by cases e)⟩
theorem own_from {w : World} {base n c : Nat} {A : Option Addr} {e : TypeId} {sz : Nat} {m : Nat} {xs : List Value} (h : w.ownsRow base e sz (.slice A n c) m xs) : ∀ b o f, A = some ⟨b, o, f⟩ → base ≤ b := fun b o f e => by
  subst e; exact (h.lt b rfl).1
theorem CR.gives {w : World} {H bc : Nat} {Ac : Option Addr} {a : Au} {vm ve : Value} {wr : World} {n cc : Nat} (h : CR w H bc Ac a.al (canM a) (canEn a (fnd a).length) vm ve wr) (hAc : ∀ b o f, Ac = some ⟨b, o, f⟩ → H + 1 < b) (hn : a.al.length = n) (hc : n ≤ cc ∧ cc ≤ 9223372036854775807) (hbn : n ≤ 100000) (hm : (canM a).length ≤ 100000) (he : (canEn a (fnd a).length).length ≤ 1000000) :
    AuF (canA a) (.agg #[.slice Ac n cc, .int .i64 ((fnd a).length : Int), vm, ve]) wr H ∧ Below H w wr := by
  have g1 := h.h1
  obtain ⟨M', d', rfl, hm1, hm2, hm3⟩ := own_rdc h.mo
  obtain ⟨E', g', rfl, he1, he2, he3⟩ := ownE_rd h.eo
  exact ⟨⟨Ac, n, cc, ((fnd a).length : Int), M', _, d', E', _, g', rfl,
    { al := h.cl.more (by have := h.h2; omega), mr := hm1, ed := he1, hn := hn, hm := rfl, hk := rfl, st := rfl, cn := hc, cm := ⟨hm2, hm3⟩, ck := ⟨he2, he3⟩, bn := hbn, bm := hm, bk := he },
    fun b o f e => by have := hAc b o f e; omega, fun b o f e => by have := own_from h.mo b o f e; omega, fun b o f e => by have := own_from h.eo b o f e; omega⟩, h.bel⟩
theorem CR.gives' {w : World} {H bc : Nat} {Ac : Option Addr} {a : Au} {vm ve : Value} {wr : World} {n cc n0 : Nat} (h : CR w H bc Ac a.al (canM a) (canEn a n0) vm ve wr) (hAc : ∀ b o f, Ac = some ⟨b, o, f⟩ → H + 1 < b) (h0 : n0 = (fnd a).length) (hn : a.al.length = n) (hc : n ≤ cc ∧ cc ≤ 9223372036854775807) (hbn : n ≤ 100000) (hm : (canM a).length ≤ 100000) (he : (canEn a n0).length ≤ 1000000) :
    AuF (canA a) (.agg #[.slice Ac n cc, .int .i64 (n0 : Int), vm, ve]) wr H ∧ Below H w wr := by
  subst h0; exact h.gives hAc hn hc hbn hm he
end Go.Proofs.YtaadhpkpekmfoaaGreat

/- Layer 3: canonical of the program makes the canonical form. -/
namespace Go.Proofs.YtaadhpkpekmfoaaGreat
open Go.RowKit Go.Sort

set_option maxHeartbeats 4000000 in
set_option maxRecDepth 100000 in
theorem canonical_any (A : Option Addr) (n c : Nat) (s : Int) (M : Option Addr) (m d : Nat) (E : Option Addr) (k g : Nat) (a : Au) (S : Nat) (B : Nat) (w : World) (h : AuR w B A n c s M m d E k g a) (hB : B ≤ w.heap.size) (hr : RightW a) (hS : s = (S : Int)) (hS0 : 0 < S) (hSb : S ≤ 5000) :
    Calls Tryz.prog 52 #[.agg #[.slice A n c, .int .i64 s, .slice M m d, .slice E k g]] w fun e w' => ∃ v, e = .returned v ∧ AuF (canA a) v w' w.heap.size ∧ Below w.heap.size w w' := by
  have hst := h.st
  subst hS
  have HR := Lib.hid h
  have HRI := Lib.hid hr
  have HST := Lib.hid hst
  have HA := Lib.hid (Row.new w [.slice A n c, .int .i64 (S : Int), .slice M m d, .slice E k g] 33)
  have HA2 := Lib.hid (HA.out.alloc (.cells #[.slice none 0 0, .int .i64 0, .slice none 0 0, .slice none 0 0] 33))
  have HRes := Lib.hid (Row.new (w.alloc (.cells #[.slice A n c, .int .i64 (S : Int), .slice M m d, .slice E k g] 33)) [.slice none 0 0, .int .i64 0, .slice none 0 0, .slice none 0 0] 33)
  have HB1 := Lib.hid (((Below.refl w.heap.size w).alloc (Nat.le_refl _) (.cells #[.slice A n c, .int .i64 (S : Int), .slice M m d, .slice E k g] 33)).alloc (by simp) (.cells #[.slice none 0 0, .int .i64 0, .slice none 0 0, .slice none 0 0] 33))
  have HCL := Lib.hid (clone_sl A n c a.al _ (((h.al.more hB).below HB1.out (Nat.le_refl _)).more HB1.out.size) h.hn (by have := h.bn; omega))
  obtain ⟨iI, iI0, iI1, iI2, iI3⟩ := info_parts info_int
  obtain ⟨iE, iE0, iE1, iE2, iE3⟩ := info_parts info_edge
  have hmk := make_ints S (by omega)
  have hbk := h.bk
  have hdS : ((S : Int) == 0) = false := by simp; omega
  have HES := Lib.hid (fun W (hw : Below w.heap.size w W) => edgeStarts_any A n c (S : Int) M m d E k g a S B W (h.below hw hB) (Nat.le_trans hB hw.size) rfl hSb (fun x hx => (hr.edr x hx).1))
  clear h hst hr
  go_enter Tryz.func52, Tryz.ntmps52
  go_wp2_with fail
  refine HCL.out.mono ?_
  rintro e w1 ⟨Ac, cc, rfl, hoc, hbw⟩
  rw [HR.out.hn] at *
  have hz := hbw.size
  simp only [World.size_alloc] at hz
  have hB1 := Lib.hid (HB1.out.trans (hbw.mono (by simp; omega)))
  have hA1 := Lib.hid (HA2.out.below hbw (by simp; omega))
  have hR1 := Lib.hid (show Row w1 (w.heap.size + 1) 33 [.slice none 0 0, .int .i64 0, .slice none 0 0, .slice none 0 0] by have := HRes.out.below hbw (by simp); simpa using this)
  have hC1 := Lib.hid hoc
  have HCC := Lib.hid (show n ≤ cc ∧ cc ≤ 9223372036854775807 from by
    obtain ⟨A', c', e, _, q1, q2⟩ := own_rdc hoc
    injection e with e1 e2 e3
    rw [HR.out.hn] at q1; subst e3; exact ⟨q1, q2⟩)
  have HAC := Lib.hid (show ∀ b o f, Ac = some ⟨b, o, f⟩ → w.heap.size + 1 < b from fun b o f e => by
    subst e
    have := (hoc.lt b rfl).1
    simp at this; omega)
  clear hoc hbw
  have y1 := hA1.out.cell 1 rfl
  have y1a := fun cs : Array Value => (World.cell?_alloc_lt w1 (.cells cs 33) ⟨w.heap.size, 1, none⟩ (by simp; omega)).trans y1
  go_wp2_with fail
  have hCB := Lib.hid (show CB w w.heap.size w1.heap.size A n c (S : Int) M m d E k g Ac cc a (w1.alloc (.cells #[.slice Ac n cc, .int .i64 0, .slice none 0 0, .slice none 0 0] 33)) (.slice none 0 0) (.slice none 0 0) 0 from
    { bel := hB1.out.alloc (by omega) _
      bx := hA1.out.alloc _
      res := hR1.out.alloc _
      cb := Row.new w1 [.slice Ac n cc, .int .i64 0, .slice none 0 0, .slice none 0 0] 33
      cl := by
        obtain ⟨A', c', e, hrd⟩ := own_rd hC1.out
        injection e with e1 e2 e3
        subst e1
        exact hrd.below ((Below.refl w1.heap.size w1).alloc (Nat.le_refl _) _) (Nat.le_refl _)
      h1 := by omega
      h2 := by simp })
  have hN0 := Lib.hid (show Row ((w1.alloc (.cells #[.slice Ac n cc, .int .i64 0, .slice none 0 0, .slice none 0 0] 33)).alloc (.cells (List.replicate S (Value.int .i64 0)).toArray 3)) (w1.heap.size + 1) 3 ((List.replicate 0 (-1 : Int) ++ List.replicate (S - 0) 0).map (Value.int .i64)) by
    have := Row.new (w1.alloc (.cells #[.slice Ac n cc, .int .i64 0, .slice none 0 0, .slice none 0 0] 33)) (List.replicate S (Value.int .i64 0)) 3
    simpa using this)
  clear y1 y1a
  go_loopw [26] (fun i wr => ∃ j : Nat, j ≤ S ∧ i = .int .i64 j ∧ Hid (CB w w.heap.size w1.heap.size A n c (S : Int) M m d E k g Ac cc a wr (.slice none 0 0) (.slice none 0 0) 0) ∧ Hid (Row wr (w1.heap.size + 1) 3 ((List.replicate j (-1 : Int) ++ List.replicate (S - j) 0).map (Value.int .i64))) ∧ wr.heap.size = w1.heap.size + 2) (fun i _ => S - (intOf i).toNat)
  case atStart => exact ⟨0, Nat.zero_le _, rfl, Lib.hid (hCB.out.alloc _), hN0, by simp⟩
  case round =>
    obtain ⟨j, hj, rfl, hcb, hno, hsz⟩ := hrel
    have HSZ := Lib.hid hsz
    clear hsz
    by_cases hlt : j < S
    · have hx := hno.out.cell j (v := .int .i64 0) (by
        rw [List.getElem?_map, List.getElem?_append_right (by simp), List.getElem?_replicate, if_pos (by simp; omega)]; rfl)
      have hf := hno.out.frozen j
      go_wp2_with fail
      go_roundw
      case rel => exact ⟨j + 1, by omega, by go_num, Lib.hid (hcb.out.far ((Below.refl _ _).setCell (p := ⟨w1.heap.size + 1, j, none⟩) (Nat.le_refl _) _)), Lib.hid (by
        have := hno.out.set j (.int .i64 (-1)); rwa [map_set_int, fill_step hlt] at this), by simp [World.setCell, HSZ.out]⟩
      case measure => simp [intOf]; omega
    · obtain rfl : j = S := by omega
      have hx := hno.out.cell 0 (v := .int .i64 (-1)) (by
        rw [Nat.sub_self, List.replicate_zero, List.append_nil, List.getElem?_map, List.getElem?_replicate, if_pos (by omega)]; rfl)
      have hf := hno.out.frozen 0
      have i0 : (0 : Int) < (j : Int) := by omega
      have hcb2 := Lib.hid ((hcb.out.far ((Below.refl _ _).setCell (p := ⟨w1.heap.size + 1, 0, none⟩) (Nat.le_refl _) (.int .i64 0))).alloc (.cells #[.int .i64 0] 3))
      have hnu2 := Lib.hid (show Row ((wr.setCell ⟨w1.heap.size + 1, 0, none⟩ (.int .i64 0)).alloc (.cells #[.int .i64 0] 3)) (w1.heap.size + 1) 3 ((numL [0] j).map (Value.int .i64)) by
        have := (hno.out.set 0 (.int .i64 0)).alloc (.cells #[.int .i64 0] 3)
        rw [map_set_int, Nat.sub_self, List.replicate_zero, List.append_nil] at this
        rwa [numL_zero hS0])
      have hfo2 := Lib.hid (show ((wr.setCell ⟨w1.heap.size + 1, 0, none⟩ (.int .i64 0)).alloc (.cells #[.int .i64 0] 3)).ownsRow (w1.heap.size + 2) 3 1 (.slice (some ⟨wr.heap.size, 0, none⟩) 1 1) 1 [.int .i64 0] by
        have := World.ownsRow_lit (base := w1.heap.size + 2) (size := 1) (e := 3) (wr.setCell ⟨w1.heap.size + 1, 0, none⟩ (.int .i64 0)) #[.int .i64 0] 1 (by rw [← HSZ.out]; simp [World.setCell]) (by unfold maxLen; omega) rfl
        simpa [World.setCell] using this)
      have e0 := hcb2.out.bx.cell 0 rfl
      have e1 := hcb2.out.bx.cell 1 rfl
      have e2 := hcb2.out.bx.cell 2 rfl
      have e3 := hcb2.out.bx.cell 3 rfl
      go_wp2_with fail
      refine (HES.out _ hcb2.out.bel).mono ?_
      rintro e w2 ⟨gS, rfl, hgS, hrS, hbw⟩
      have hz2 := hbw.size
      simp only [World.size_alloc, World.size_setCell] at hz2 hgS
      go_wp2_with fail
      have hcs := Lib.hid (show CS w w.heap.size w1.heap.size gS A n c (j : Int) M m d E k g j Ac cc a w2 (Fd a 0) (.slice (some ⟨wr.heap.size, 0, none⟩) 1 1) (canEn a 0) (.slice none 0 0) from
        { bel := hcb2.out.bel.trans (hbw.mono hcb2.out.bel.size)
          bx := hcb2.out.bx.below hbw hcb2.out.bx.lt
          res := hcb2.out.res.below hbw hcb2.out.res.lt
          cb := hcb2.out.cb.below hbw hcb2.out.cb.lt
          cl := hcb2.out.cl.below hbw (by have := HSZ.out; simp; omega)
          nu := hnu2.out.below hbw hnu2.out.lt
          st := hrS
          fo := by
            have := own_below hfo2.out hbw
            simpa [Own, Fd] using this
          eo := World.ownsRow_nil _ _ _ _
          fs := by simp [Value.ownBlock]; omega
          h1 := hcb2.out.h1
          h2 := by have := HSZ.out; omega
          h3 := hrS.lt })
      clear hcb hno hx hf hcb2 hnu2 hfo2 e0 e1 e2 e3 hrS hbw hgS hz2 hCB hN0 hmk HCL HES HA HA2 HRes HB1 hB1 hA1 hR1 hC1
      go_loopw [6, 8] (fun v i wr => ∃ (n0 : Nat) (ve : Value), i = .int .i64 n0 ∧ n0 ≤ j ∧ Hid (n0 ≤ (Fd a n0).length) ∧ Hid (CS w w.heap.size w1.heap.size gS A n c (j : Int) M m d E k g j Ac cc a wr (Fd a n0) v (canEn a n0) ve)) (fun _ i _ => j - (intOf i).toNat)
      case atStart => exact ⟨0, _, rfl, Nat.zero_le _, Nat.zero_le _, hcs⟩
      case round =>
        clear hcs
        obtain ⟨n0, ve, rfl, hnj, hnl, hcs⟩ := hrel
        have hst0 : 0 < a.st := by rw [HST.out]; omega
        have hrange := Fd_range HRI.out hst0 n0
        have hlen := Fd_len HRI.out hst0 n0
        rw [HST.out] at hrange hlen
        rw [Int.toNat_natCast] at hlen
        have HRG := Lib.hid hrange
        have HPR := Lib.hid (Fd_fnd HRI.out hst0 n0)
        obtain ⟨L, hL⟩ : ∃ L, L = (Fd a n0).length := ⟨_, rfl⟩
        have HL := Lib.hid hL
        have hL1 : 1 ≤ L := by have := (Fd_mono a 0 n0).length_le; rw [Nat.zero_add, ← hL] at this; simpa [Fd] using this
        obtain ⟨gF, cF, rfl, hgF, hcF, hcap, hcap2⟩ := own_shape hcs.out.fo hL hL1
        rw [← hL] at hlen
        clear hrange hst0
        by_cases hlt : n0 < L
        · have hq := HRG.out ((Fd a n0).getD n0 0) (getD_mem (by rw [← HL.out]; exact hlt))
          obtain ⟨Q, hQ⟩ : ∃ Q : Nat, (Fd a n0).getD n0 0 = (Q : Int) := ⟨((Fd a n0).getD n0 0).toNat, by omega⟩
          have hQj : Q < j := by rw [hQ] at hq; omega
          have c1 := hcF n0 hlt
          rw [hQ] at c1
          have HQ := Lib.hid hQ
          obtain ⟨Q1, hQ1⟩ : ∃ Q1, Q1 = Q + 1 := ⟨_, rfl⟩
          have HQ1 := Lib.hid hQ1
          have hQ1j : Q1 < j + 1 := by omega
          have c2 := hcs.out.st.int (j := Q) (by rw [startL_len]; omega)
          rw [startL_at (by omega)] at c2
          have c3 := hcs.out.st.int (j := Q1) (by rw [startL_len]; omega)
          rw [startL_at (by omega)] at c3
          have c4 := hcs.out.bx.cell 3 rfl
          have hsl := succ_len HRI.out.edo Q
          rw [← hQ1] at hsl
          have hmo := startN_mono a.ed Q
          rw [← hQ1] at hmo
          have hle := startN_le a.ed Q1
          rw [HR.out.hk] at hle
          have hat := Lib.hid (succ_at HRI.out.edo Q)
          rw [← hQ1] at hat
          obtain ⟨lo, hlo⟩ : ∃ lo, lo = startN a.ed Q := ⟨_, rfl⟩
          obtain ⟨hi, hhi⟩ : ∃ hi, hi = startN a.ed Q1 := ⟨_, rfl⟩
          rw [← hlo] at c2 hsl hmo hat
          rw [← hhi] at c3 hsl hmo hat hle
          have HSL := Lib.hid hsl
          have hwr : IntKind.i64.wrap ((Q : Int) + 1) = (Q1 : Int) := by rw [IntWalk.i64_in _ (by omega)]; omega
          have hkg := HR.out.ck.1
          have hkg2 := HR.out.ck.2
          have j0 : (0 : Int) ≤ (Q1 : Int) := by omega
          have j1 : (Q1 : Int) < (j : Int) + 1 := by omega
          have j2 : (Q : Int) < (j : Int) + 1 := by omega
          have j3 : (lo : Int) ≤ (hi : Int) := by omega
          have j4 : (hi : Int) ≤ (g : Int) := by omega
          have HcF := Lib.hid hcF
          obtain ⟨N, hN⟩ : ∃ N, N = hi - lo := ⟨_, rfl⟩
          have hNi : (hi : Int) - (lo : Int) = (N : Int) := by omega
          rw [← hN] at hsl hat
          have hNb : N ≤ 1000000 := by have := HR.out.bk; omega
          have HNN := Lib.hid hN
          have HNI := Lib.hid hNi
          have HSL := Lib.hid hsl
          have HqF := Lib.hid (show (Q : Int) = (fnd a).getD n0 0 by rw [getD_pre HPR.out (by rw [← HL.out]; exact hlt), HQ.out])
          have hhk := HR.out.hk
          have HED := Lib.hid HR.out.ed
          clear hq hcF hQ hQ1 hlo hhi hsl hL hN hNi
          go_upto_region 16 with fail
          go_cut [61, 62, 63] from 38 to 98 (fun v1 v2 v3 wx => ∃ (E1 : Option Addr) (c1 : Nat), v1 = .slice E1 N c1 ∧ v2 = .int .i64 (N : Int) ∧ v3 = .int .i64 0 ∧ Hid (RdG w B E1 (succ a.ed (Q : Int))) ∧ Hid (CS w w.heap.size w1.heap.size gS A n c (j : Int) M m d E k g j Ac cc a wx (Fd a n0) (.slice (some ⟨gF, 0, none⟩) L cF) (canEn a n0) ve))
          case first =>
            by_cases hne : lo < hi
            · obtain ⟨bE, oE, rfl, hbE, hcE⟩ := HED.out (by omega)
              have hgl : ¬ g = lo := by omega
              have hrd := Lib.hid (show RdG w B (some ⟨bE, oE + lo * 3, none⟩) (succ a.ed (Q : Int)) from fun _ => ⟨bE, oE + lo * 3, rfl, hbE, fun t x hx => by
                have htN : t < N := by have := (List.getElem?_eq_some_iff.1 hx).1; rw [HSL.out] at this; exact this
                rw [hat.out t htN] at hx
                have := hcE (lo + t) x hx
                rwa [show oE + (lo + t) * 3 = oE + lo * 3 + t * 3 by omega] at this⟩)
              clear hcE
              go_wp2_with fail
              go_quiet (fail)
              go_wp2_with fail
              go_meet
              case rel => exact ⟨_, _, by rw [HNN.out], by first | rfl | exact congrArg (Value.int .i64) (by have := HNI.out; omega), rfl, hrd, Lib.hid (hcs.out.drewN nq)⟩
            · have hN0 : N = 0 := by rw [HNN.out]; omega
              have hrd := Lib.hid (show ∀ E1, RdG w B E1 (succ a.ed (Q : Int)) from fun E1 h => by rw [HSL.out] at h; omega)
              obtain rfl : hi = lo := by omega
              rcases E with _ | ⟨bE, oE, fE⟩
              · go_wp2_with fail
                go_quiet (fail)
                go_wp2_with fail
                go_meet
                case rel => exact ⟨_, _, by rw [hN0], by first | rfl | exact congrArg (Value.int .i64) (by omega), rfl, hrd.out _, Lib.hid (hcs.out.drewN nq)⟩
              · by_cases hgl : g = hi
                all_goals
                  go_wp2_with fail
                  go_quiet (fail)
                  go_wp2_with fail
                  go_meet
                  case rel => exact ⟨_, _, by rw [hN0], by first | rfl | exact congrArg (Value.int .i64) (by omega), rfl, hrd.out _, Lib.hid (hcs.out.drewN nq)⟩
          case rest =>
            obtain ⟨E1, c1, rfl, rfl, rfl, hrd, hcs0⟩ := hcut
            clear hcs c2 c3 c4 hwr hat j0 j1 j2 j3 j4 HED
            go_wp2_with fail
            go_loopw [6, 63] (fun v i wx => ∃ (t : Nat) (ve : Value), i = .int .i64 t ∧ t ≤ N ∧ Hid (CS w w.heap.size w1.heap.size gS A n c (j : Int) M m d E k g j Ac cc a wx (visitL (Fd a n0) ((succ a.ed (Q : Int)).take t)) v (canEn a n0 ++ (outE a (fnd a) n0).take t) ve)) (fun _ i _ => N - (intOf i).toNat)
            case atStart => exact ⟨0, _, rfl, Nat.zero_le _, by rw [List.take_zero, List.take_zero, visitL_nil, List.append_nil]; exact hcs0⟩
            case round =>
              clear hcs0
              obtain ⟨t, ve, rfl, hth, hcs⟩ := hrel
              by_cases htl : t < N
              · obtain ⟨bE, oE, rfl, hbE, hcE⟩ := hrd.out (by rw [HSL.out]; omega)
                obtain ⟨x, hx⟩ : ∃ x, (succ a.ed (Q : Int))[t]? = some x := ⟨_, List.getElem?_eq_getElem (by rw [HSL.out]; omega)⟩
                have hxm := HRI.out.edr x (mem_succ.1 (List.mem_of_getElem? hx)).1
                rw [HST.out] at hxm
                have hxr : EdAt wr bE (oE + t * 3) x := (hcE t x hx).keep fun o => hcs.out.bel.cell (p := ⟨bE, o, none⟩) (Nat.lt_of_lt_of_le hbE hB)
                obtain ⟨xf, xe, xt⟩ := x
                simp only at hxm
                obtain ⟨T, rfl⟩ : ∃ T : Nat, xt = (T : Int) := ⟨xt.toNat, by omega⟩
                have hTj : T < j := by omega
                obtain ⟨fl, hfl⟩ : ∃ fl, fl = visitL (Fd a n0) ((succ a.ed (Q : Int)).take t) := ⟨_, rfl⟩
                have hfl2 := Lib.hid (show visitL (Fd a n0) ((succ a.ed (Q : Int)).take (t + 1)) = visit fl (T : Int) by rw [visitL_take hx, hfl])
                have hpre2 := visit_fnd (t := t + 1) HRI.out (by rw [HST.out]; omega) (by rw [← HL.out]; exact hlt) _ (by rw [HQ.out] : succ a.ed (Q : Int) = _)
                rw [hfl2.out] at hpre2
                have hes2 := outE_take HqF.out hx
                rw [idx_pre hpre2 (mem_visit.2 (Or.inr rfl))] at hes2
                obtain ⟨es, hes⟩ : ∃ es, es = canEn a n0 ++ (outE a (fnd a) n0).take t := ⟨_, rfl⟩
                have HE2 := Lib.hid (show canEn a n0 ++ (outE a (fnd a) n0).take (t + 1) = es ++ [⟨(n0 : Int), xe, ((visit fl (T : Int)).idxOf (T : Int) : Int)⟩] by rw [hes2, hes, List.append_assoc])
                have hess : es.length ≤ 1000000 := by
                  have h1 : n0 + 1 ≤ (fnd a).length := by have := HPR.out.length_le; rw [← HL.out] at this; omega
                  have h2 := canEn_len a h1
                  rw [canEn_succ, List.length_append, hhk] at h2
                  rw [hes, List.length_append, List.length_take]
                  have := HR.out.bk
                  omega
                rw [← hfl, ← hes] at hcs
                have hflj : fl.length ≤ j := nodup_len (by rw [hfl]; exact visitL_nodup _ (Fd_nodup a n0)) (fun x hx => by
                  have := fnd_range HRI.out x (hpre2.subset (mem_visit.2 (Or.inl hx))); rwa [HST.out] at this)
                obtain ⟨L2, hL2⟩ : ∃ L2, L2 = fl.length := ⟨_, rfl⟩
                have HL2 := Lib.hid hL2
                rw [← hL2] at hflj
                have hfp : Fd a n0 <+: fl := by rw [hfl]; exact visitL_pre _ _
                have hL21 : 1 ≤ L2 := by have := hfp.length_le; rw [← hL2, ← HL.out] at this; omega
                obtain ⟨gF2, cF2, rfl, hgF2, hcF2, hcap3, hcap4⟩ := own_shape hcs.out.fo hL2 hL21
                have n1 := hcs.out.nu.int (j := T) (by rw [numL_len]; omega)
                rw [numL_at hTj] at n1
                obtain ⟨nx, hnx⟩ : ∃ nx : Int, nx = if (T : Int) ∈ fl then (fl.idxOf (T : Int) : Int) else -1 := ⟨_, rfl⟩
                rw [← hnx] at n1
                have HNX := Lib.hid hnx
                clear hnx
                have f1 := hcs.out.nu.frozen T
                obtain ⟨z0, z1, z2⟩ := hxr
                have HCB := hcs.out.h3
                have k1 : w1.heap.size + 1 < wr.heap.size := by have := hcs.out.h2; omega
                clear hx hxm hfl hes hfp hL2 hcE hpre2 hes2
                go_upto_if 72 with fail
                go_cut [6, 63] from 63 to 98 (fun v i wx => i = .int .i64 (t : Int) ∧ Hid (CS w w.heap.size w1.heap.size gS A n c (j : Int) M m d E k g j Ac cc a wx (visit fl (T : Int)) v es ve) ∧ Hid (EdAt wx wr.heap.size 0 ⟨xf, xe, (T : Int)⟩) ∧ wr.heap.size < wx.heap.size)
                case first =>
                  by_cases hin : (T : Int) ∈ fl
                  · have hneg : ¬ nx < 0 := by rw [HNX.out, if_pos hin]; omega
                    have HIN := Lib.hid hin
                    clear hin
                    go_wp2_with fail
                    go_meet
                    case rel => exact ⟨rfl, by rw [visit_in HIN.out]; exact hcs.out.alloc _, EdAt.made' xf xe (T : Int) 79 rfl, by simp⟩
                  · have hneg : nx < 0 := by rw [HNX.out, if_neg hin]; omega
                    have HIN := Lib.hid hin
                    have hown4 := Lib.hid (show (((wr.setCell ⟨w1.heap.size + 1, T, none⟩ (.int .i64 (L2 : Int))).alloc (.cells #[.int .i64 xf, .int .i64 xe, .int .i64 (T : Int)] 79)).alloc (.cells #[.int .i64 (T : Int)] 3)).ownsRow (w1.heap.size + 2) 3 1 (.slice (some ⟨gF2, 0, none⟩) L2 cF2) L2 (fl.map (Value.int .i64)) by
                      have := ((ownsRow_setCell_below hcs.out.fo (a := ⟨w1.heap.size + 1, T, none⟩) (by simp) (.int .i64 (L2 : Int))).alloc (.cells #[.int .i64 xf, .int .i64 xe, .int .i64 (T : Int)] 79)).alloc (.cells #[.int .i64 (T : Int)] 3)
                      rwa [← HL2.out] at this)
                    have hX4 := Lib.hid (((EdAt.made' (w := wr.setCell ⟨w1.heap.size + 1, T, none⟩ (.int .i64 (L2 : Int))) xf xe (T : Int) 79 (World.size_setCell ..)).alloc (by simp) (.cells #[.int .i64 (T : Int)] 3)))
                    clear hin
                    go_wp2_with (at_builtin; refine wpList_append_lies _ rfl (.tmp 79) (.tmp 82) 27 rfl (w1.heap.size + 2) 3 iI (.int .i64 0) 1 8 Tryz.underlying27 iI0 iI1 iI2 iI3 rfl (by omega) (.slice (some ⟨gF2, 0, none⟩) L2 cF2) L2 (fl.map (Value.int .i64)) rfl hown4.out ⟨wr.heap.size + 1, 0, none⟩ 1 1 [.int .i64 (T : Int)] rfl rfl (news_one (by simp)) (by simp [Value.oneCell']) (by omega) (by unfold maxLen; omega) (by omega) (by simp; omega) (wr.heap.size + 2) (by simp) ?_; intro gN capN w5 hown5 hgrow5 hat5 hlt5)
                    have hrow5 : (wr.setCell ⟨w1.heap.size + 1, T, none⟩ (.int .i64 (L2 : Int))).grownBy w5 (some gF2) := grown_trans (grown_trans (World.grownBy_alloc _ _ _) (World.grownBy_alloc _ _ _)) hgrow5
                    have hcs5 := Lib.hid (CS.found hcs.out HIN.out hTj (by rw [← HL2.out]; exact hrow5) (by unfold Own; rw [List.length_append, ← HL2.out]; simpa using hown5) (by
                      rcases hat5 with h | h
                      · have := hcs.out.fs; rwa [h] at this
                      · simp [Value.ownBlock]; omega))
                    have hX5 := Lib.hid (hX4.out.grown hgrow5 (by simp; omega) (by simp [Value.ownBlock]; omega))
                    have hs5 : wr.heap.size < w5.heap.size := by have := hrow5.size; have := hgrow5.size; simp at this; omega
                    clear hrow5 hown5 hgrow5 hat5 hX4 hown4
                    go_wp2_with fail
                    go_meet
                    case rel => exact ⟨rfl, by rw [visit_new HIN.out]; exact hcs5, hX5, hs5⟩
                case rest =>
                  clear hcs n1 f1 z0 z1 z2 hcF2 HCB
                  obtain ⟨rfl, hcs5, hX5, hs5⟩ := hcut
                  obtain ⟨fl2, hf2⟩ : ∃ fl2, fl2 = visit fl (T : Int) := ⟨_, rfl⟩
                  rw [← hf2] at hcs5 HE2 hfl2
                  have n2 := hcs5.out.nu.int (j := T) (by rw [numL_len]; omega)
                  rw [numL_at hTj, if_pos (by rw [hf2]; exact mem_visit.2 (Or.inr rfl))] at n2
                  obtain ⟨ix, hix⟩ : ∃ ix, ix = fl2.idxOf (T : Int) := ⟨_, rfl⟩
                  rw [← hix] at n2 HE2
                  clear hf2 hix
                  have u0 := hcs5.out.cb.cell 3 rfl
                  have u3 := hcs5.out.cb.frozen 3
                  obtain ⟨q0, u1, u2⟩ := hX5.out.shift0
                  clear q0
                  have hbl : w1.heap.size < wc.heap.size := by omega
                  have v0 := fun cs : Array Value => (World.cell?_alloc_lt wc (.cells cs 79) ⟨w1.heap.size, 3, none⟩ hbl).trans u0
                  have v1 := fun cs : Array Value => (frozen?_alloc_cells wc cs 79 ⟨w1.heap.size, 3, none⟩).trans u3
                  have hneV : some w1.heap.size ≠ ve.ownBlock := fun h => by have := (hcs5.out.eo.lt _ h.symm).1; omega
                  go_wp2_with fail
                  go_region_law (first
                    | (refine step_append_lies _ (by rfl) (.tmp 85) (.tmp 95) _ (by rfl) (w1.heap.size + 2) 79 iE (.agg #[.int .i64 0, .int .i64 0, .int .i64 0]) 3 24 Tryz.underlying31 iE0 iE1 iE2 iE3 rfl (by omega) ve es.length (encE es) (by rfl) (by first | exact (hcs5.out.eo.alloc _).drew | exact (hcs5.out.eo.alloc _)) ⟨wc.heap.size, 0, none⟩ 1 1 [.int .i64 (n0 : Int), .int .i64 xe, .int .i64 (ix : Int)] (by rfl) (by rfl) (World.news_of_block (cs := #[.int .i64 (n0 : Int), .int .i64 xe, .int .i64 (ix : Int)]) (t := 79) (fr := (0, 0)) (heap_alloc_new wc _)) (by simp [Value.oneCell']) (by omega) (by unfold maxLen; omega) (by omega) (by simp; omega) (wc.heap.size + 1) (by simp) ?_; intro gG capG w6 hown6 hgrow6 hat6 hlt6; have hc6 := (hgrow6.cell_far ⟨w1.heap.size, 3, none⟩ (by simp; omega) hneV).trans (v0 _); have hf6 := (hgrow6.frozen_far ⟨w1.heap.size, 3, none⟩ (by simp; omega) hneV).trans (v1 _)))
                  all_goals
                    have hown7 : OwnE w6 (w1.heap.size + 2) (.slice (some ⟨gG, 0, none⟩) (es.length + 1) capG) (es ++ [⟨(n0 : Int), xe, (ix : Int)⟩]) := by
                      unfold OwnE; rw [encE_app, List.length_append]; exact hown6
                    have hcs7 := Lib.hid (show CS w w.heap.size w1.heap.size gS A n c (j : Int) M m d E k g j Ac cc a (w6.setCell ⟨w1.heap.size, 3, none⟩ (.slice (some ⟨gG, 0, none⟩) (es.length + 1) capG)) fl2 _ (es ++ [⟨(n0 : Int), xe, (ix : Int)⟩]) (.slice (some ⟨gG, 0, none⟩) (es.length + 1) capG) from by
                      first
                      | exact CS.edge (hcs5.out.alloc _) hgrow6 hown7
                      | exact CS.edge ((hcs5.out.alloc _).drew) hgrow6 hown7
                      | exact CS.edge (hcs5.out.drew.alloc _) hgrow6 hown7)
                    rw [← HE2.out, ← hfl2.out] at hcs7
                    clear hown7 hown6 hgrow6 hat6 hc6 hf6 hlt6
                    go_wp2_with fail
                    go_roundw
                    case measure => simp [intOf]; omega
                    case rel => exact ⟨t + 1, _, by go_num, by omega, by first | exact hcs7 | exact Lib.hid hcs7.out.drew⟩
              · obtain rfl : t = N := by omega
                have hFs : visitL (Fd a n0) ((succ a.ed (Q : Int)).take t) = Fd a (n0 + 1) := by
                  rw [List.take_of_length_le (by rw [HSL.out]; exact Nat.le_refl _), Fd_go (by rw [← HL.out]; exact hlt), HQ.out]
                have hEs : canEn a n0 ++ (outE a (fnd a) n0).take t = canEn a (n0 + 1) := by
                  rw [canEn_succ, List.take_of_length_le]
                  unfold outE
                  rw [List.length_map, ← HqF.out, HSL.out]; exact Nat.le_refl _
                rw [hFs, hEs] at hcs
                have hln := Lib.hid (show n0 + 1 ≤ (Fd a (n0 + 1)).length by have := (Fd_pre a n0).length_le; rw [← HL.out] at this; omega)
                clear hFs hEs
                go_wp2_with fail
                go_roundw
                case measure => simp [intOf]; omega
                case rel => exact ⟨n0 + 1, _, by go_num, by omega, hln, hcs⟩
        · obtain rfl : n0 = L := by have := hnl.out; rw [← HL.out] at this; omega
          have hfn : fnd a = Fd a n0 := fnd_at HRI.out (by rw [HST.out]; omega) (by rw [← HL.out]; exact Nat.le_refl _) (by rw [HST.out]; simp; omega)
          rw [← hfn] at hcs HL
          have hcm := Lib.hid (hcs.out.marked (ns := (n0 : Int)))
          have f1 := hcs.out.cb.frozen 1
          have e1 := hcs.out.cb.cell 1 rfl
          have e2 := hcm.out.bx.cell 2 rfl
          have hbm := HR.out.bm
          clear hcs hfn HRG HPR hcF hcap hcap2 hgF hL
          go_wp2_with fail
          go_loopw [105] (fun i wx => ∃ (t : Nat) (vm : Value), i = .int .i64 t ∧ t ≤ m ∧ Hid (CM w w.heap.size w1.heap.size A n c (j : Int) M m d E k g j Ac cc a (fnd a) (n0 : Int) (canEn a n0) ve wx (mkL (fnd a) (a.mr.take t)) vm)) (fun i _ => m - (intOf i).toNat)
          case atStart => exact ⟨0, _, rfl, Nat.zero_le _, hcm⟩
          case round =>
            clear hcm e1 e2 f1
            obtain ⟨t, vm, rfl, htm, hcm⟩ := hrel
            by_cases htl : t < m
            · obtain ⟨bM, oM, rfl, hbM, hcM⟩ := HR.out.mr (by rw [HR.out.hm]; omega)
              have hz : t < a.mr.length := by rw [HR.out.hm]; exact htl
              have h1 := hcM t hz
              obtain ⟨x, hx⟩ : ∃ x, x = a.mr.getD t 0 := ⟨_, rfl⟩
              rw [← hx] at h1
              have hxr := HRI.out.mrr x (by rw [hx]; exact getD_mem hz)
              rw [HST.out] at hxr
              obtain ⟨X, rfl⟩ : ∃ X : Nat, x = (X : Int) := ⟨x.toNat, by omega⟩
              have hXj : X < j := by omega
              have h2 : wr.cell? ⟨bM, oM + t, none⟩ = some (.int .i64 (X : Int)) := (hcm.out.bel.cell (p := ⟨bM, oM + t, none⟩) (Nat.lt_of_lt_of_le hbM hB)).trans h1
              have n1 := hcm.out.nu.int (j := X) (by rw [numL_len]; exact hXj)
              rw [numL_at hXj] at n1
              obtain ⟨nx, hnx⟩ : ∃ nx : Int, nx = if (X : Int) ∈ fnd a then ((fnd a).idxOf (X : Int) : Int) else -1 := ⟨_, rfl⟩
              rw [← hnx] at n1
              have c2 := hcm.out.cb.cell 2 rfl
              have f2 := hcm.out.cb.frozen 2
              have hsz1 := hcm.out.h2
              obtain ⟨ms, hms⟩ : ∃ ms, ms = mkL (fnd a) (a.mr.take t) := ⟨_, rfl⟩
              have hmsl := mkL_len (fnd a) a.mr t
              have HMS := Lib.hid hms
              rw [← hms] at hcm hmsl
              by_cases hin : (X : Int) ∈ fnd a
              · have hge : 0 ≤ nx := by rw [hnx, if_pos hin]; omega
                have hms2 := Lib.hid (show mkL (fnd a) (a.mr.take (t + 1)) = ms ++ [nx] by rw [mkL_yes hz (by rw [← hx]; exact hin), ← hx, hms, hnx, if_pos hin])
                have v0 := fun cs : Array Value => (World.cell?_alloc_lt wr (.cells cs 3) ⟨w1.heap.size, 2, none⟩ (by simp; omega)).trans c2
                have v1 := fun cs : Array Value => (frozen?_alloc_cells wr cs 3 ⟨w1.heap.size, 2, none⟩).trans f2
                have hneV : some w1.heap.size ≠ vm.ownBlock := fun h => by have := (hcm.out.mo.lt _ h.symm).1; omega
                clear hin hnx hx h1 hcM hms hz
                go_wp2_with fail
                go_region_law (first
                    | (refine step_append_lies _ (by rfl) (.tmp 115) (.tmp 120) _ (by rfl) (w1.heap.size + 2) 3 iI (.int .i64 0) 1 8 Tryz.underlying27 iI0 iI1 iI2 iI3 rfl (by omega) vm ms.length (ms.map (Value.int .i64)) (by rfl) (by first | exact (hcm.out.mo.alloc _).drew | exact (hcm.out.mo.alloc _)) ⟨wr.heap.size, 0, none⟩ 1 1 [.int .i64 nx] (by rfl) (by rfl) (World.news_of_block (cs := #[.int .i64 nx]) (t := 3) (fr := (0, 0)) (heap_alloc_new wr _)) (by simp [Value.oneCell']) (by omega) (by unfold maxLen; omega) (by omega) (by simp; omega) (wr.heap.size + 1) (by simp) ?_; intro gG capG w6 hown6 hgrow6 hat6 hlt6; have hc6 := (hgrow6.cell_far ⟨w1.heap.size, 2, none⟩ (by simp; omega) hneV).trans (v0 _); have hf6 := (hgrow6.frozen_far ⟨w1.heap.size, 2, none⟩ (by simp; omega) hneV).trans (v1 _)))
                all_goals
                  have hown7 : Own w6 (w1.heap.size + 2) (.slice (some ⟨gG, 0, none⟩) (ms.length + 1) capG) (ms ++ [nx]) := by
                    unfold Own; rw [List.map_append, List.length_append]; exact hown6
                  have hcm7 := Lib.hid (show CM w w.heap.size w1.heap.size A n c (j : Int) (some ⟨bM, oM, none⟩) m d E k g j Ac cc a (fnd a) (n0 : Int) (canEn a n0) ve (w6.setCell ⟨w1.heap.size, 2, none⟩ (.slice (some ⟨gG, 0, none⟩) (ms.length + 1) capG)) (ms ++ [nx]) (.slice (some ⟨gG, 0, none⟩) (ms.length + 1) capG) from by
                    first
                    | exact CM.mark (hcm.out.alloc _) hgrow6 hown7
                    | exact CM.mark ((hcm.out.alloc _).drew) hgrow6 hown7
                    | exact CM.mark (hcm.out.drew.alloc _) hgrow6 hown7)
                  rw [← hms2.out] at hcm7
                  clear hown7 hown6 hgrow6 hat6 hc6 hf6 hlt6
                  go_wp2_with fail
                  go_roundw
                  case measure => simp [intOf]; omega
                  case rel => exact ⟨t + 1, _, by go_num, by omega, by first | exact hcm7 | exact Lib.hid hcm7.out.drew⟩
              · have hge : ¬ 0 ≤ nx := by rw [hnx, if_neg hin]; omega
                have hms2 := Lib.hid (show mkL (fnd a) (a.mr.take (t + 1)) = ms by rw [mkL_no hz (by rw [← hx]; exact hin), hms])
                clear hin hnx hx h1 hcM hms hz
                rw [← hms2.out] at hcm
                go_wp2_with fail
                go_roundw
                case measure => simp [intOf]; omega
                case rel => exact ⟨t + 1, _, by go_num, by omega, hcm⟩
            · obtain rfl : t = m := by omega
              rw [List.take_of_length_le (by rw [HR.out.hm]; exact Nat.le_refl _)] at hcm
              have c2 := hcm.out.cb.cell 2 rfl
              have hml := mkL_len (fnd a) a.mr t
              rw [List.take_of_length_le (by rw [HR.out.hm]; exact Nat.le_refl _)] at hml
              have hso := Lib.hid (sort_own wr hcm.out.mo (by omega))
              clear hml
              go_wp2_with fail
              refine hso.out.mono ?_
              rintro e w6 ⟨rfl, ho6, hg6⟩
              have hcm6 := hcm.out.sorted hg6 ho6
              rw [srt_mk HRI.out] at hcm6
              obtain ⟨M2, c2m, rfl, hM1, hM2, hM3⟩ := own_rdc hcm6.mo
              obtain ⟨E2, g2, rfl, hE1, hE2, hE3⟩ := ownE_rd hcm6.eo
              have HM1 := Lib.hid hM1
              have HE1 := Lib.hid hE1
              have d0 := hcm6.cb.cell 0 rfl
              have d1 := hcm6.cb.cell 1 rfl
              have d2 := hcm6.cb.cell 2 rfl
              have d3 := hcm6.cb.cell 3 rfl
              have r0 := hcm6.res.cell 0 rfl
              have r1 := hcm6.res.cell 1 rfl
              have r2 := hcm6.res.cell 2 rfl
              have r3 := hcm6.res.cell 3 rfl
              have s0 := hcm6.res.frozen 0
              have s1 := hcm6.res.frozen 1
              have s2 := hcm6.res.frozen 2
              have s3 := hcm6.res.frozen 3
              have HCM := Lib.hid hcm6
              clear hcm hso ho6 hg6 hcm6 hM1 hE1
              go_wp2_with fail
              (try simp only [Exit.inBlock, Exit.then])
              have hfin := (((CR.mk HCM.out.bel HCM.out.cl HCM.out.mo HCM.out.eo HCM.out.h1 (by have := HCM.out.h2; omega)).set HAC.out 0 (.slice Ac n cc) |>.set HAC.out 1 (.int .i64 (n0 : Int)) |>.set HAC.out 2 (.slice M2 (canM a).length c2m) |>.set HAC.out 3 (.slice E2 (canEn a n0).length g2))).gives' HAC.out HL.out HR.out.hn HCC.out HR.out.bn (by have := canM_len a; rw [← HL.out] at this; omega) (by have := canEn_len a (n := n0) (by rw [← HL.out]; exact Nat.le_refl _); rw [HR.out.hk] at this; omega)
              refine bodyPost_ret (v := .agg #[.slice Ac n cc, .int .i64 (n0 : Int), .slice M2 (canM a).length c2m, .slice E2 (canEn a n0).length g2]) ?_ rfl ⟨_, rfl, hfin.1, hfin.2⟩
              rw [results_cell1 rfl]
              go_simp
end Go.Proofs.YtaadhpkpekmfoaaGreat

/- Layer 3: canonical and Canonical of the program, every automaton. -/
namespace Go.Proofs.YtaadhpkpekmfoaaGreat
open Go.RowKit Go.Sort

theorem canA_zero {a : Au} (h : a.st = 0) : canA a = ⟨a.al, 0, [], []⟩ := by
  have : fnd a = [] := by rw [fnd, if_pos (by omega)]
  simp [canA, this, canM, canEn]
theorem fnd_zero {a : Au} (h : a.st = 0) : fnd a = [] := by rw [fnd, if_pos (by omega)]

set_option maxHeartbeats 1000000 in
theorem canonical_zero (A : Option Addr) (n c : Nat) (s : Int) (M : Option Addr) (m d : Nat) (E : Option Addr) (k g : Nat) (a : Au) (B : Nat) (w : World) (h : AuR w B A n c s M m d E k g a) (hB : B ≤ w.heap.size) (hS : s = 0) :
    Calls Tryz.prog 52 #[.agg #[.slice A n c, .int .i64 s, .slice M m d, .slice E k g]] w fun e w' => ∃ v, e = .returned v ∧ AuF (canA a) v w' w.heap.size ∧ Below w.heap.size w w' := by
  have hst := h.st
  subst hS
  have hca := Lib.hid (canA_zero hst)
  have HR := Lib.hid h
  have HA := Lib.hid (Row.new w [.slice A n c, .int .i64 0, .slice M m d, .slice E k g] 33)
  have HA2 := Lib.hid (HA.out.alloc (.cells #[.slice none 0 0, .int .i64 0, .slice none 0 0, .slice none 0 0] 33))
  have HRes := Lib.hid (Row.new (w.alloc (.cells #[.slice A n c, .int .i64 0, .slice M m d, .slice E k g] 33)) [.slice none 0 0, .int .i64 0, .slice none 0 0, .slice none 0 0] 33)
  have HB1 := Lib.hid (((Below.refl w.heap.size w).alloc (Nat.le_refl _) (.cells #[.slice A n c, .int .i64 0, .slice M m d, .slice E k g] 33)).alloc (by simp) (.cells #[.slice none 0 0, .int .i64 0, .slice none 0 0, .slice none 0 0] 33))
  have HCL := Lib.hid (clone_sl A n c a.al _ (((h.al.more hB).below HB1.out (Nat.le_refl _)).more HB1.out.size) h.hn (by have := h.bn; omega))
  clear h hst
  go_enter Tryz.func52, Tryz.ntmps52
  go_wp2_with fail
  refine HCL.out.mono ?_
  rintro e w1 ⟨Ac, cc, rfl, hoc, hbw⟩
  rw [HR.out.hn] at *
  have hz := hbw.size
  simp only [World.size_alloc] at hz
  have hB1 := Lib.hid (HB1.out.trans (hbw.mono (by simp; omega)))
  have hA1 := Lib.hid (HA2.out.below hbw (by simp; omega))
  have hR1 := Lib.hid (show Row w1 (w.heap.size + 1) 33 [.slice none 0 0, .int .i64 0, .slice none 0 0, .slice none 0 0] by have := HRes.out.below hbw (by simp); simpa using this)
  have hC1 := Lib.hid hoc
  have HCC := Lib.hid (show n ≤ cc ∧ cc ≤ 9223372036854775807 from by
    obtain ⟨A', c', e, _, q1, q2⟩ := own_rdc hoc
    injection e with e1 e2 e3
    rw [HR.out.hn] at q1; subst e3; exact ⟨q1, q2⟩)
  have HAC := Lib.hid (show ∀ b o f, Ac = some ⟨b, o, f⟩ → w.heap.size + 1 < b from fun b o f e => by
    subst e
    have := (hoc.lt b rfl).1
    simp at this; omega)
  have hrd := Lib.hid (show RdI w1 w1.heap.size Ac a.al by
    obtain ⟨A', c', e, hrd⟩ := own_rd hoc
    injection e with e1 e2 e3
    subst e1
    exact hrd)
  clear hoc hbw
  have hbl : w.heap.size + 1 < w1.heap.size := by omega
  have y1 := (hA1.out.alloc (.cells #[.slice Ac n cc, .int .i64 0, .slice none 0 0, .slice none 0 0] 33)).cell 1 rfl
  have hR2 := Lib.hid (hR1.out.alloc (.cells #[.slice Ac n cc, .int .i64 0, .slice none 0 0, .slice none 0 0] 33))
  have r0 := hR2.out.cell 0 rfl
  have r1 := hR2.out.cell 1 rfl
  have r2 := hR2.out.cell 2 rfl
  have r3 := hR2.out.cell 3 rfl
  have s0 := hR2.out.frozen 0
  have s1 := hR2.out.frozen 1
  have s2 := hR2.out.frozen 2
  have s3 := hR2.out.frozen 3
  have r0' := hR1.out.cell 0 rfl
  have r1' := hR1.out.cell 1 rfl
  have r2' := hR1.out.cell 2 rfl
  have r3' := hR1.out.cell 3 rfl
  have s0' := hR1.out.frozen 0
  have s1' := hR1.out.frozen 1
  have s2' := hR1.out.frozen 2
  have s3' := hR1.out.frozen 3
  have y1' := hA1.out.cell 1 rfl
  go_wp2_with fail
  (try simp only [Exit.inBlock, Exit.then])
  have hcr : CR w w.heap.size w1.heap.size Ac a.al (canM a) (canEn a 0) (.slice none 0 0) (.slice none 0 0) w1 :=
    { bel := hB1.out
      cl := hrd.out
      mo := by
        have : canM a = [] := by rw [canM, fnd_zero HR.out.st]; rfl
        rw [this]; exact World.ownsRow_nil _ _ _ _
      eo := World.ownsRow_nil _ _ _ _
      h1 := hbl
      h2 := Nat.le_refl _ }
  have hfin := ((hcr.set HAC.out 0 (.slice Ac n cc) |>.set HAC.out 1 (.int .i64 0) |>.set HAC.out 2 (.slice none 0 0) |>.set HAC.out 3 (.slice none 0 0)).alloc (.cells #[.slice Ac n cc, .int .i64 0, .slice none 0 0, .slice none 0 0] 33)).gives' (n0 := 0) HAC.out (by rw [fnd_zero HR.out.st]; rfl) HR.out.hn HCC.out HR.out.bn (by have := canM_len a; rw [fnd_zero HR.out.st] at this; simp at this; rw [this]; simp) (by simp [canEn])
  refine bodyPost_ret (v := .agg #[.slice Ac n cc, .int .i64 0, .slice none 0 0, .slice none 0 0]) ?_ rfl ⟨_, rfl, hfin.1, hfin.2⟩
  rw [results_cell1 rfl]
  go_simp

/-- canonical, every right automaton. -/
theorem canon_all (A : Option Addr) (n c : Nat) (s : Int) (M : Option Addr) (m d : Nat) (E : Option Addr) (k g : Nat) (a : Au) (B : Nat) (w : World) (h : AuR w B A n c s M m d E k g a) (hB : B ≤ w.heap.size) (hr : RightW a) (hb : a.st ≤ 5000) :
    Calls Tryz.prog 52 #[.agg #[.slice A n c, .int .i64 s, .slice M m d, .slice E k g]] w fun e w' => ∃ v, e = .returned v ∧ AuF (canA a) v w' w.heap.size ∧ Below w.heap.size w w' := by
  have h0 := hr.st0
  have hs := h.st
  by_cases hz : a.st = 0
  · exact canonical_zero A n c s M m d E k g a B w h hB (by omega)
  · exact canonical_any A n c s M m d E k g a a.st.toNat B w h hB hr (by omega) (by omega) (by omega)

end Go.Proofs.YtaadhpkpekmfoaaGreat

/- Layer 3: Canonical of the program. -/
namespace Go.Proofs.YtaadhpkpekmfoaaGreat
open Go.RowKit Go.Sort

def zeroA : Au := ⟨[], 0, [], []⟩
/-- What Canonical hands back. -/
def canR (a : Au) : Au × Int := if chkE a ≠ 0 then (zeroA, chkE a) else (canA a, 0)
/-- An automaton in new memory and an error. -/
def GivesA (w : World) (r : Au × Int) (e : Ending) (w' : World) : Prop := ∃ v, e = .returned (.tuple #[v, .int .i64 r.2]) ∧ AuF r.1 v w' w.heap.size ∧ Below w.heap.size w w'
theorem AuF.set4 {a : Au} {v : Value} {w : World} {base X : Nat} (h : AuF a v w base) (hX : X < base) (v0 v1 v2 v3 : Value) : AuF a v ((((w.setCell ⟨X, 0, none⟩ v0).setCell ⟨X, 1, none⟩ v1).setCell ⟨X, 2, none⟩ v2).setCell ⟨X, 3, none⟩ v3) base :=
  (((h.set hX 0 v0).set hX 1 v1).set hX 2 v2).set hX 3 v3
theorem below_set4 {w w' : World} {B X : Nat} (h : Below B w w') (hX : B ≤ X) (v0 v1 v2 v3 : Value) : Below B w ((((w'.setCell ⟨X, 0, none⟩ v0).setCell ⟨X, 1, none⟩ v1).setCell ⟨X, 2, none⟩ v2).setCell ⟨X, 3, none⟩ v3) :=
  (((h.setCell (p := ⟨X, 0, none⟩) hX v0).setCell (p := ⟨X, 1, none⟩) hX v1).setCell (p := ⟨X, 2, none⟩) hX v2).setCell (p := ⟨X, 3, none⟩) hX v3

set_option maxHeartbeats 1000000 in
theorem mCanonical_any (A : Option Addr) (n c : Nat) (s : Int) (M : Option Addr) (m d : Nat) (E : Option Addr) (k g : Nat) (a : Au) (w : World) (h : AuR w w.heap.size A n c s M m d E k g a) :
    Calls Tryz.prog 70 #[.agg #[.slice A n c, .int .i64 s, .slice M m d, .slice E k g]] w fun e w' => GivesA w (canR a) e w' := by
  have hb1 := ((Below.refl w.heap.size w).alloc (Nat.le_refl _) (.cells #[.slice A n c, .int .i64 s, .slice M m d, .slice E k g] 33)).alloc (by simp) (.cells #[.slice none 0 0, .int .i64 0, .slice none 0 0, .slice none 0 0] 33)
  have HB1 := Lib.hid hb1
  have hR1 := h.below hb1 (Nat.le_refl _)
  have HC := Lib.hid (mCheck_any A n c s M m d E k g a _ (hR1.more (by simp; omega)))
  have HA := Lib.hid ((Row.new w [.slice A n c, .int .i64 s, .slice M m d, .slice E k g] 33).alloc (.cells #[.slice none 0 0, .int .i64 0, .slice none 0 0, .slice none 0 0] 33))
  have HRes := Lib.hid (Row.new (w.alloc (.cells #[.slice A n c, .int .i64 s, .slice M m d, .slice E k g] 33)) [.slice none 0 0, .int .i64 0, .slice none 0 0, .slice none 0 0] 33)
  have HR := Lib.hid h
  obtain ⟨u, hu⟩ : ∃ u, u = chkE a := ⟨_, rfl⟩
  rw [← hu] at HC
  have HU := Lib.hid hu
  clear h hR1 hu hb1
  by_cases h0 : u = 0
  · have hb0 : (u != 0) = false := by simp [h0]
    have hri := right_of (a := a) (by rw [← HU.out, h0])
    have hS := Lib.hid (fun W (hW : Below w.heap.size w W) => canon_all A n c s M m d E k g a w.heap.size W (HR.out.below hW (Nat.le_refl _)) hW.size hri.toRightW (by have := hri.st1; omega))
    have hr := Lib.hid (show canR a = (canA a, 0) by rw [canR, if_neg (by rw [← HU.out, h0]; simp)])
    clear h0 hri
    go_enter Tryz.func70, Tryz.ntmps70
    go_wp2_with fail
    refine HC.out.mono ?_
    rintro e w1 ⟨rfl, hbw⟩
    have hA1 := Lib.hid (HA.out.below hbw (by simp; omega))
    have hR1 := Lib.hid (show Row w1 (w.heap.size + 1) 33 [.slice none 0 0, .int .i64 0, .slice none 0 0, .slice none 0 0] by have := HRes.out.below hbw (by simp); simpa using this)
    have hB1 := Lib.hid (HB1.out.trans (hbw.mono (by simp; omega)))
    have hz := hbw.size
    simp only [World.size_alloc] at hz
    clear hbw
    have p0 := hA1.out.cell 0 rfl
    have p1 := hA1.out.cell 1 rfl
    have p2 := hA1.out.cell 2 rfl
    have p3 := hA1.out.cell 3 rfl
    go_wp2_with fail
    refine (hS.out _ hB1.out).mono ?_
    rintro e w2 ⟨v, rfl, hau, hbw⟩
    have hR2 := hR1.out.below hbw (by omega)
    have hB2 := Lib.hid (hB1.out.trans (hbw.mono hB1.out.size))
    obtain ⟨A2, n2, c2, s2, M2, m2, d2, E2, k2, g2, rfl, hrest⟩ := hau
    have hau2 := Lib.hid (show AuF (canA a) (.agg #[.slice A2 n2 c2, .int .i64 s2, .slice M2 m2 d2, .slice E2 k2 g2]) w2 w1.heap.size from ⟨_, _, _, _, _, _, _, _, _, _, rfl, hrest⟩)
    have r0 := hR2.cell 0 rfl
    have r1 := hR2.cell 1 rfl
    have r2 := hR2.cell 2 rfl
    have r3 := hR2.cell 3 rfl
    have s0 := hR2.frozen 0
    have s1 := hR2.frozen 1
    have s2' := hR2.frozen 2
    have s3 := hR2.frozen 3
    clear p0 p1 p2 p3 hrest hR2 hbw
    go_wp2_with fail
    (try simp only [Exit.inBlock, Exit.then])
    refine bodyPost_ret (v := .tuple #[.agg #[.slice A2 n2 c2, .int .i64 s2, .slice M2 m2 d2, .slice E2 k2 g2], .int .i64 0]) ?_ rfl ⟨.agg #[.slice A2 n2 c2, .int .i64 s2, .slice M2 m2 d2, .slice E2 k2 g2], by rw [hr.out], ?_, ?_⟩
    · rw [results_cell_tmp1 rfl]
      go_simp
    · rw [hr.out]
      exact (hau2.out.set4 (by omega) _ _ _ _).more (by omega)
    · exact below_set4 hB2.out (by omega) _ _ _ _
  · have hb0 : (u != 0) = true := by simp [h0]
    have hr := Lib.hid (show canR a = (zeroA, u) by rw [canR, ← HU.out, if_pos h0])
    clear h0
    go_enter Tryz.func70, Tryz.ntmps70
    go_wp2_with fail
    refine HC.out.mono ?_
    rintro e w1 ⟨rfl, hbw⟩
    have hR1 := Lib.hid (show Row w1 (w.heap.size + 1) 33 [.slice none 0 0, .int .i64 0, .slice none 0 0, .slice none 0 0] by have := HRes.out.below hbw (by simp); simpa using this)
    have hB1 := Lib.hid (HB1.out.trans (hbw.mono (by simp; omega)))
    clear hbw
    have r0 := hR1.out.cell 0 rfl
    have r1 := hR1.out.cell 1 rfl
    have r2 := hR1.out.cell 2 rfl
    have r3 := hR1.out.cell 3 rfl
    have s0 := hR1.out.frozen 0
    have s1 := hR1.out.frozen 1
    have s2 := hR1.out.frozen 2
    have s3 := hR1.out.frozen 3
    go_wp2_with fail
    (try simp only [Exit.inBlock, Exit.then])
    refine bodyPost_ret (v := .tuple #[.agg #[.slice none 0 0, .int .i64 0, .slice none 0 0, .slice none 0 0], .int .i64 u]) ?_ rfl ⟨_, by rw [hr.out], ?_, ?_⟩
    · rw [results_cell_tmp1 rfl]
      go_simp
    · rw [hr.out]; exact AuF.zero _ _
    · exact below_set4 hB1.out (by omega) _ _ _ _
end Go.Proofs.YtaadhpkpekmfoaaGreat
