/- Texts merged: what follows were texts of their own. -/
import Derived.Test.YtedleffmbddccaaDoorZa10
import Derived.Test.YtedleffmbddccaaDoorZa7
import Derived.Test.YtedleffmbddccaaDoorZa5
import Derived.Test.YtedleffmbddccaaDoorZa8
set_option linter.unusedVariables false
set_option linter.unusedSimpArgs false
set_option linter.unusedSectionVars false
/- Layer 6: what is told of the law's automata. -/
namespace Go.Proofs.YtedleffmbddccaaDoor
open Go.RowKit Go.Sort

theorem OkP.rw {a : Au} (h : OkP a) : RightW a := by obtain ⟨_, _, h⟩ := h; exact h.r.toRightW
theorem OkP.chk {a : Au} (h : OkP a) : chkE a = 0 := by obtain ⟨_, _, h⟩ := h; exact h.r.chk
theorem OkP.can {a : Au} (h : OkP a) : canA a = a := by obtain ⟨_, _, h⟩ := h; exact h.c
theorem OkP.st5 {a : Au} (h : OkP a) : a.st ≤ 5 := by obtain ⟨_, _, h⟩ := h; exact h.st
theorem OkP.al5 {a : Au} (h : OkP a) : a.al.length ≤ 5 := by obtain ⟨al, h1, h⟩ := h; rw [h.al]; exact Ev5.len (n := 5) h1
theorem prT_le : ∀ {ss : List Int}, (∀ s ∈ ss, 0 < s ∧ s ≤ 5) → prT ss ≤ 5 ^ ss.length
  | [], _ => by simp [prT]
  | s :: ss, h => by
    have ih := prT_le (ss := ss) fun x hx => h x (List.mem_cons_of_mem _ hx)
    obtain ⟨h1, h2⟩ := h s (List.mem_cons_self ..)
    have h3 := prT_pos (ss := ss) fun x hx => (h x (List.mem_cons_of_mem _ hx)).1
    rw [prT, List.length_cons, Int.pow_succ, Int.mul_comm (5 ^ _)]
    exact Int.mul_le_mul h2 ih (Int.le_of_lt h3) (by omega)
section
variable {l : List Au}
theorem las_rw (h : ∀ a ∈ l, OkP a) : ∀ a ∈ l, RightW a := fun a ha => (h a ha).rw
theorem las_chk (h : ∀ a ∈ l, OkP a) (hl : l.length ≤ 12) : chkL l = 0 := by
  unfold chkL; rw [if_neg (by omega)]; exact chkGo_all.2 fun a ha => (h a ha).chk
theorem las_st (h : ∀ a ∈ l, OkP a) (hl : l.length ≤ 3) : (prodA l).st ≤ 125 := by
  cases hp : posT l with
  | false => rw [prod_st0 hp]; omega
  | true =>
    rw [prod_st hp]
    have h1 := prT_le (ss := stsT l) fun s hs => ⟨posT_iff.1 hp s hs, by obtain ⟨a, ha, rfl⟩ := List.mem_map.1 hs; exact (h a ha).st5⟩
    have h2 : (stsT l).length ≤ 3 := by rw [stsT, List.length_map]; exact hl
    have h3 : (5 : Int) ^ (stsT l).length ≤ 5 ^ 3 := by
      match (stsT l).length, h2 with
      | 0, _ => decide
      | 1, _ => decide
      | 2, _ => decide
      | 3, _ => decide
    exact Int.le_trans h1 (Int.le_trans h3 (by decide))
theorem las_fnd (h : ∀ a ∈ l, OkP a) (hl : l.length ≤ 3) : (fnd (prodA l)).length ≤ 125 := by
  have h1 := fnd_len (prod_right (las_rw h))
  have h2 := las_st h hl
  omega
theorem las_syn (h : ∀ a ∈ l, OkP a) (hl : l.length ≤ 3) : synR l = ((canA (prodA l), (fnd (prodA l)).map (dcT (stsT l))), 0) := by
  unfold synR
  rw [if_neg (by rw [las_chk h (by omega)]; simp), if_neg (by have := las_fnd h hl; omega)]
end
/-- Words of the call's own read below. -/
theorem TL.rd2 {w : World} {base : Nat} {vt : Value} {hs : List Hd} (h : TL w base vt hs) : ∃ A c, vt = .slice A hs.length c ∧ RdW w w.heap.size A (hs.map Hd.z) := h.rdw
/-- A tuple's length. -/
theorem dc_small {l : List Au} {x : Int} {z : List Int} (h : z = dcT (stsT l) x) (hp : posT l = true) : z.length = l.length := by rw [h, dc_len hp]
theorem dc_le : ∀ (ss : List Int) (x : Int), (dcT ss x).length = ss.length
  | [], _ => rfl
  | s :: ss, x => by rw [dcT, List.length_cons, dc_le ss, List.length_cons]
/-- What a call hands back: an automaton, and what else. -/
def GAu (w : World) (a : Au) (rest : List Value) (e : Ending) (w' : World) : Prop := ∃ A n c s M m d E k g, e = .returned (.tuple (.agg #[.slice A n c, .int .i64 s, .slice M m d, .slice E k g] :: rest).toArray) ∧ AuR w' w'.heap.size A n c s M m d E k g a ∧ Below w.heap.size w w'
def GAuT (w : World) (a : Au) (ts : List (List Int)) (rest : List Value) (e : Ending) (w' : World) : Prop := ∃ A n c s M m d E k g At lt ct, e = .returned (.tuple (.agg #[.slice A n c, .int .i64 s, .slice M m d, .slice E k g] :: .slice At lt ct :: rest).toArray) ∧ ts.length = lt ∧ AuR w' w'.heap.size A n c s M m d E k g a ∧ RdW w' w'.heap.size At ts ∧ Below w.heap.size w w'
section
variable {w : World} {Al : Option Addr} {nl cl : Nat} {las : List Au}
theorem g_sync {a : Au} {ts : List (List Int)} {er : Int} (h : RdAs w w.heap.size Al las) (hn : las.length = nl) (hs : synR las = ((a, ts), er)) : Calls Tryd.prog 20 #[.slice Al nl cl] w (GAuT w a ts [.int .i64 er]) :=
  (pSync_any Al nl cl las w h hn).mono fun e w' hh => by
    rw [hs] at hh
    obtain ⟨v, vt, hs, rfl, ⟨A, n, c, s, M, m, d, E, k, g, rfl, ha, _⟩, htl, hm, hb⟩ := hh
    obtain ⟨At, ct, rfl, hr⟩ := htl.rdw
    rw [hm] at hr
    exact ⟨A, n, c, s, M, m, d, E, k, g, At, _, ct, rfl, by have := congrArg List.length hm; rw [List.length_map] at this; exact this.symm, ha, hr, hb⟩
theorem g_comp {a : Au} {ts : List (List Int)} {er : Int} (h : RdAs w w.heap.size Al las) (hn : las.length = nl) (hs : synR las = ((a, ts), er)) : Calls Tryd.prog 21 #[.slice Al nl cl] w (GAu w a [.int .i64 er]) :=
  (pCompose_any Al nl cl las w h hn).mono fun e w' hh => by
    rw [hs] at hh
    obtain ⟨v, rfl, ⟨A, n, c, s, M, m, d, E, k, g, rfl, ha, _⟩, hb⟩ := hh
    exact ⟨A, n, c, s, M, m, d, E, k, g, rfl, ha, hb⟩
theorem g_rsync (h : RdAs w w.heap.size Al las) (hn : las.length = nl) (hnb : nl ≤ 1000) (hr : ∀ a ∈ las, RightW a) (hS : (prodA las).st ≤ 5000) : Calls Tryd.prog 29 #[.slice Al nl cl] w (GAuT w (canA (prodA las)) ((fnd (prodA las)).map (dcT (stsT las))) []) :=
  (r6Sync_any Al nl cl las w h hn hnb hr hS).mono fun e w' hh => by
    obtain ⟨v, vt, hs, rfl, ⟨A, n, c, s, M, m, d, E, k, g, rfl, ha, _⟩, htl, hm, hb⟩ := hh
    obtain ⟨At, ct, rfl, hr⟩ := htl.rdw
    rw [hm] at hr
    exact ⟨A, n, c, s, M, m, d, E, k, g, At, _, ct, rfl, by have := congrArg List.length hm; rw [List.length_map] at this; exact this.symm, ha, hr, hb⟩
end
theorem g_eq {w : World} {A : Option Addr} {n c : Nat} {s : Int} {M : Option Addr} {m d : Nat} {E : Option Addr} {k g : Nat} {A2 : Option Addr} {n2 c2 : Nat} {s2 : Int} {M2 : Option Addr} {m2 d2 : Nat} {E2 : Option Addr} {k2 g2 : Nat} {a b : Au} {r : Bool} (hr : decide (a = b) = r) (ha : AuR w w.heap.size A n c s M m d E k g a) (hb : AuR w w.heap.size A2 n2 c2 s2 M2 m2 d2 E2 k2 g2 b) : Calls Tryd.prog 30 #[.agg #[.slice A n c, .int .i64 s, .slice M m d, .slice E k g], .agg #[.slice A2 n2 c2, .int .i64 s2, .slice M2 m2 d2, .slice E2 k2 g2]] w fun e w' => e = .returned (.bool r) ∧ Below w.heap.size w w' := by
  subst hr
  exact mEqual_any A n c s M m d E k g A2 n2 c2 s2 M2 m2 d2 E2 k2 g2 a b _ _ ha hb (Nat.le_refl _)
theorem g_sameAll {w : World} {A B : Option Addr} {n m c d : Nat} {xs ys : List (List Int)} {r : Bool} (hr : decide (xs = ys) = r) (hx : RdW w w.heap.size A xs) (hy : RdW w w.heap.size B ys) (hn : xs.length = n) (hm : ys.length = m) (bn : n ≤ 100000) (bm : m ≤ 100000) (lx : ∀ z ∈ xs, z.length ≤ 4096) (ly : ∀ z ∈ ys, z.length ≤ 4096) :
    Calls Tryd.prog 31 #[.slice A n c, .slice B m d] w fun e w' => e = .returned (.bool r) ∧ Below w.heap.size w w' := by
  subst hr
  exact (sameAll_any A B n m c d _ _ _ hx hy hn hm (by omega) (by omega) lx ly).mono fun e w' hh => ⟨hh.1, by obtain ⟨q, rfl⟩ := hh.2; exact below_drewN (Below.refl _ _) q⟩
theorem g_same {w : World} {A B : Option Addr} {n m c d : Nat} {xs ys : List Int} {r : Bool} (hr : decide (xs = ys) = r) (hx : RdI w w.heap.size A xs) (hy : RdI w w.heap.size B ys) (hn : xs.length = n) (hm : ys.length = m) (bn : n ≤ 100000) (bm : m ≤ 100000) :
    Calls Tryd.prog 18 #[.slice A n c, .slice B m d] w fun e w' => e = .returned (.bool r) ∧ Below w.heap.size w w' := by
  subst hr
  exact (l6same_any A B n m c d _ _ xs ys w hx hy hn hm (by omega) (by omega)).mono fun e w' hh => ⟨hh.1, by obtain ⟨q, rfl⟩ := hh.2; exact below_drewN (Below.refl _ _) q⟩
end Go.Proofs.YtedleffmbddccaaDoor

/- Layer 6: none of the law. -/
namespace Go.Proofs.YtedleffmbddccaaDoor
open Go.RowKit Go.Sort

theorem zero_au (w : World) (B : Nat) : AuR w B none 0 0 0 none 0 0 none 0 0 zeroA :=
  { al := RdI.nil _ _ _, mr := RdI.nil _ _ _, ed := RdG.nil _ _ _, hn := rfl, hm := rfl, hk := rfl, st := rfl, cn := by omega, cm := by omega, ck := by omega, bn := by omega, bm := by omega, bk := by omega }
set_option maxHeartbeats 2000000 in
theorem none_any (A : Option Addr) (n c : Nat) (s : Int) (M : Option Addr) (m d : Nat) (E : Option Addr) (k g : Nat) (a : Au) (w : World) (h : AuR w w.heap.size A n c s M m d E k g a) :
    Calls Tryd.prog 27 #[.agg #[.slice A n c, .int .i64 s, .slice M m d, .slice E k g]] w fun e w' => e = .returned (.bool (decide (a = zeroA))) ∧ Below w.heap.size w w' := by
  have HB := Lib.hid ((Below.refl w.heap.size w).alloc (Nat.le_refl _) (.cells #[.slice A n c, .int .i64 s, .slice M m d, .slice E k g] 34))
  have HE := Lib.hid (mEqual_any A n c s M m d E k g none 0 0 0 none 0 0 none 0 0 a zeroA _ _ ((h.below HB.out (Nat.le_refl _)).more HB.out.size) (zero_au _ _) (Nat.le_refl _))
  obtain ⟨v, hv⟩ : ∃ v, v = decide (a = zeroA) := ⟨_, rfl⟩
  rw [← hv] at HE ⊢
  clear h hv
  go_enter Tryd.func27, Tryd.ntmps27
  go_wp2_with fail
  refine HE.out.mono ?_
  rintro e w1 ⟨rfl, hb1⟩
  have HB1 := Lib.hid (HB.out.trans (hb1.mono HB.out.size))
  clear hb1
  go_wp2_with fail
  go_ret
  exact ⟨rfl, HB1.out⟩
end Go.Proofs.YtedleffmbddccaaDoor

/- Layer 6: slices of parts that came in. -/
namespace Go.Proofs.YtedleffmbddccaaDoor
section
open Go.ChangeShapes Go.WideShapes Go.ChangeAt Go.RowKit Go.Deep
variable {H : Type} {enc : TypeId × Value → H} {W : World} {a0 : Option Addr} {len cap : Nat} {d : DataW H} {p : List MemPlace}
theorem open_u86 {n : Nat} {c : Value} {y : DataW H × List MemPlace} (hf : DataW.trod enc Tryd.prog W 0 (fun _ => true) true n 5 [c] = some y) : ∃ z, c = .int .u8 z ∧ 0 ≤ z ∧ z < 256 ∧ (Lit.int .u8 z).wf = true := by
  obtain ⟨q, e, _, hw⟩ := DataW.trod_int Tryd.underlying5 hf
  simp at e
  subst e
  exact ⟨q, rfl, by simp [Lit.wf, IntKind.min, IntKind.max, IntKind.signed, IntKind.bits] at hw; omega, by simp [Lit.wf, IntKind.min, IntKind.max, IntKind.signed, IntKind.bits] at hw; omega, hw⟩
theorem open_set6 {n : Nat} {c : Value} {y : DataW H × List MemPlace} (hf : DataW.trod enc Tryd.prog W 0 (fun _ => true) true n 60 [c] = some y) : ∃ z, c = .int .u8 z ∧ (Lit.int .u8 z).wf = true := by
  obtain ⟨q, e, _, hw⟩ := DataW.trod_int Tryd.underlying60 hf
  simp at e
  subst e
  exact ⟨q, rfl, hw⟩
theorem drop_one6 {cs : List Value} {i : Nat} (h : i < cs.length) : (cs.drop i).take 1 = [cs[i]] := by
  rw [List.drop_eq_getElem_cons h]; rfl
set_option maxRecDepth 100000 in
/-- The cells of a graph that reads. -/
theorem graph_cells {n : Nat} {cl : List Value} {y : DataW H × List MemPlace} (hcl : cl.length = 27) (hf : DataW.trod enc Tryd.prog W 0 (fun _ => true) true n 64 cl = some y) : ∀ i : Nat, i < 27 → ∃ x : Int, cl[i]? = some (.int .u8 x) ∧ 0 ≤ x ∧ x < 256 := by
  have h25 : Tryd.prog.cellsOf 62 = 25 := by kernel_rfl
  have h5 : Tryd.prog.cellsOf 61 = 5 := by kernel_rfl
  have h1 : Tryd.prog.cellsOf 5 = 1 := by kernel_rfl
  obtain ⟨ys, n', _, hx, _, hyl, hfd⟩ := DataW.trod_struct Tryd.underlying64 hf
  match ys, hyl with
  | [y0, y1, y2], _ =>
    have f0 : DataW.trod enc Tryd.prog W 0 (fun _ => true) true n' 5 ((cl.drop 0).take (Tryd.prog.cellsOf 5)) = some y0 := hfd 0 _ rfl
    have f1 : DataW.trod enc Tryd.prog W 0 (fun _ => true) true n' 5 ((cl.drop 1).take (Tryd.prog.cellsOf 5)) = some y1 := hfd 1 _ rfl
    have f2 : DataW.trod enc Tryd.prog W 0 (fun _ => true) true n' 62 ((cl.drop 2).take (Tryd.prog.cellsOf 62)) = some y2 := hfd 2 _ rfl
    rw [h1, drop_one6 (by omega)] at f0 f1
    rw [h25] at f2
    obtain ⟨a0, e0, b0, b0', _⟩ := open_u86 f0
    obtain ⟨a1, e1, b1, b1', _⟩ := open_u86 f1
    obtain ⟨xs, m, _, hx2, _, hl2, hi2⟩ := DataW.trod_array Tryd.underlying62 f2
    intro i hi
    have key : ∃ x : Int, cl[i]'(by omega) = .int .u8 x ∧ 0 ≤ x ∧ x < 256 := by
      rcases Nat.lt_or_ge i 2 with h2 | h2
      · rcases Nat.lt_or_ge i 1 with h3 | h3
        · obtain rfl : i = 0 := by omega
          exact ⟨a0, e0, b0, b0'⟩
        · obtain rfl : i = 1 := by omega
          exact ⟨a1, e1, b1, b1'⟩
      · obtain ⟨q, r, hq, hr, he⟩ : ∃ q r, q < 5 ∧ r < 5 ∧ i = 2 + q * 5 + r := ⟨(i - 2) / 5, (i - 2) % 5, by omega, by omega, by omega⟩
        have g := hi2 q hq
        rw [List.getElem?_eq_getElem (by omega), h5] at g
        obtain ⟨zs, m2, _, _, _, hl3, hi3⟩ := DataW.trod_array Tryd.underlying61 g
        have g2 := hi3 r hr
        rw [List.getElem?_eq_getElem (by omega), h1, Nat.mul_one] at g2
        rw [drop_one6 (by simp; omega)] at g2
        obtain ⟨x, ex, bx, bx', _⟩ := open_u86 g2
        refine ⟨x, ?_, bx, bx'⟩
        rw [← ex]
        simp only [List.getElem_take, List.getElem_drop]
        congr 1
        omega
    obtain ⟨x, ex, bx⟩ := key
    exact ⟨x, by rw [← ex, List.getElem?_eq_getElem (by omega)], bx⟩
set_option maxRecDepth 100000 in
/-- The cells of a part that reads. -/
theorem part_cells {n : Nat} {cl : List Value} {y : DataW H × List MemPlace} (hcl : cl.length = 28) (hf : DataW.trod enc Tryd.prog W 0 (fun _ => true) true n 66 cl = some y) : ∃ (x : Int) (cs : List Value), cl = .int .u8 x :: cs ∧ (Lit.int .u8 x).wf = true ∧ GrC cs.toArray := by
  have h27 : Tryd.prog.cellsOf 64 = 27 := by kernel_rfl
  have h1 : Tryd.prog.cellsOf 60 = 1 := by kernel_rfl
  obtain ⟨ys, n', _, hx, _, hyl, hfd⟩ := DataW.trod_struct Tryd.underlying66 hf
  match ys, hyl with
  | [y0, y1], _ =>
    have f0 : DataW.trod enc Tryd.prog W 0 (fun _ => true) true n' 60 ((cl.drop 0).take (Tryd.prog.cellsOf 60)) = some y0 := hfd 0 _ rfl
    have f1 : DataW.trod enc Tryd.prog W 0 (fun _ => true) true n' 64 ((cl.drop 1).take (Tryd.prog.cellsOf 64)) = some y1 := hfd 1 _ rfl
    rw [h1, drop_one6 (by omega)] at f0
    rw [h27] at f1
    obtain ⟨x, ex, wx⟩ := open_set6 f0
    match cl, hcl with
    | c0 :: cs, hcl =>
      have hcs : cs.length = 27 := by simpa using hcl
      have e1 : ((c0 :: cs).drop 1).take 27 = cs := List.take_of_length_le (by simp [hcs])
      rw [e1] at f1
      simp only [List.getElem_cons_zero] at ex
      subst ex
      exact ⟨x, cs, rfl, wx, ⟨by simpa using hcs, fun i hi => by simpa using graph_cells hcs f1 i hi⟩⟩
set_option maxRecDepth 100000 in
theorem grid_of_cells {w : World} {b o : Nat} {cs : List Value} (hl : cs.length = 27) (h : ∀ i v, cs[i]? = some v → w.cell? ⟨b, o + i, none⟩ = some v) : GridAt w b o ∧ gridOf w b o = cs.toArray := by
  have key : ∀ i, (hi : i < 27) → w.cell? ⟨b, o + i, none⟩ = some (cs[i]'(by omega)) := fun i hi => h i _ (List.getElem?_eq_getElem (by omega))
  refine ⟨fun i hi => by rw [key i hi]; rfl, ?_⟩
  unfold gridOf
  refine congrArg List.toArray (List.ext_getElem (by simp [hl]) fun i h1 h2 => ?_)
  have hi : i < 27 := by simpa using h1
  simp [key i hi]
set_option maxRecDepth 100000 in
theorem open_rdPs (h : DataW.Trod enc Tryd.prog W 0 (fun _ => true) true 49 (.slice a0 len cap) d p) (hlt : ∀ x ∈ p, x.block < W.heap.size) :
    ∃ ps : List Pt, ps.length = len ∧ RdPs W W.heap.size a0 ps ∧ (∀ z ∈ ps, PtOk z) ∧ len ≤ 9223372036854775807 := by
  obtain ⟨fuel, hf⟩ := h
  rcases open_slice Tryd.underlying49 hf with ⟨hcs, _⟩ | ⟨a, l, c, m, n, D, Pl, hcs, _, hl, hm, hmm, hx, hi⟩
  · simp [Value.cells] at hcs
    obtain ⟨rfl, rfl, rfl⟩ := hcs
    exact ⟨[], rfl, fun h => absurd h (by simp), by simp, by omega⟩
  · simp [Value.cells] at hcs
    obtain ⟨rfl, rfl, rfl⟩ := hcs
    have h28 : Tryd.prog.cellsOf 66 = 28 := by kernel_rfl
    simp only [if_true] at hmm
    simp only [Prod.mk.injEq] at hx
    obtain ⟨_, rfl⟩ := hx
    unfold maxLen at hm
    have each : ∀ j, j < m → ∃ x : Pt, (W.cell? (a.add (j * 28)) = some (.int .u8 x.1) ∧ ∀ i v, x.2.toList[i]? = some v → W.cell? ((a.add (j * 28)).add (1 + i)) = some v) ∧ PtOk x := by
      intro j hj
      obtain ⟨cs', hc, ht⟩ := hi j hj
      rw [h28] at hc
      obtain ⟨_, hcl, hat⟩ := World.cells?_some hc
      obtain ⟨x, cs, rfl, wx, hg⟩ := part_cells hcl ht
      refine ⟨(x, cs.toArray), ⟨?_, fun i v hv => ?_⟩, wx, hg⟩
      · have := hat 0 (by omega)
        simpa [Addr.add] using this
      · have hil := (List.getElem?_eq_some_iff.1 hv).1
        have hil' : i < cs.length := by simpa using hil
        have := hat (1 + i) (by simp at hcl; omega)
        rw [this]
        have e : (Value.int IntKind.u8 x :: cs)[1 + i]? = cs[i]? := by rw [Nat.add_comm]; simp
        rw [e]; simpa using hv
    have each' : ∀ j : Nat, ∃ x : Pt, j < m → (W.cell? (a.add (j * 28)) = some (.int .u8 x.1) ∧ ∀ i v, x.2.toList[i]? = some v → W.cell? ((a.add (j * 28)).add (1 + i)) = some v) ∧ PtOk x := by
      intro j
      by_cases hj : j < m
      · obtain ⟨x, hx⟩ := each j hj
        exact ⟨x, fun _ => hx⟩
      · exact ⟨(0, #[]), fun h => absurd h hj⟩
    obtain ⟨E, hE⟩ := Classical.axiomOfChoice each'
    refine ⟨(List.range len).map E, by simp, fun h0 => ?_, fun z hz => ?_, by omega⟩
    · have h0' : 0 < len := by simpa using h0
      obtain ⟨b, off, spot⟩ := a
      have hspot : spot = none := by simpa [Addr.add] using World.cell?_spot (hE 0 (by omega)).1.1
      subst hspot
      refine ⟨b, off, rfl, hlt (.cell b off) (List.mem_append_left _ (MemPlace.mem_row.2 ⟨0, by rw [h28]; omega, by simp⟩)), fun j q hj => ?_⟩
      rw [List.getElem?_map, Option.map_eq_some_iff] at hj
      obtain ⟨j', hj', rfl⟩ := hj
      have hjl : j < len := by have := (List.getElem?_eq_some_iff.1 hj').1; simpa using this
      rw [List.getElem?_range hjl] at hj'
      injection hj' with hj'
      subst hj'
      obtain ⟨⟨g0, g1⟩, g2, g3⟩ := hE j (by omega)
      rw [add_plain] at g0
      have hs : (E j).2.toList.length = 27 := by simpa using g3.sz
      have hG := grid_of_cells (w := W) (b := b) (o := off + j * 28 + 1) hs (fun i v hv => by
        have := g1 i v hv
        rw [add_plain, add_plain] at this
        rw [show off + j * 28 + 1 + i = off + j * 28 + (1 + i) by omega]; exact this)
      exact ⟨g0, hG.1, by rw [hG.2]⟩
    · obtain ⟨j, hj, rfl⟩ := List.mem_map.1 hz
      exact (hE j (by have := List.mem_range.1 hj; omega)).2
end
end Go.Proofs.YtedleffmbddccaaDoor
