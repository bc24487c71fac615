/- Texts merged: what follows were texts of their own. -/
import Derived.Test.YtaadhpkpekmfoaaGreatZa6
import Derived.Test.YtaadhpkpekmfoaaGreatZa2
import Derived.Deep.RegionHeld3
import Derived.Test.YtaadhpkpekmfoaaGreatZa1
import Derived.Test.YtaadhpkpekmfoaaGreatZa5
import Derived.Test.YtaadhpkpekmfoaaGreatZa4
import Derived.Test.YtaadhpkpekmfoaaGreatZa3
import Derived.Maps.OwnSet
import Derived.Maps.OwnOps
import Derived.Laws.BytesArg
import Derived.StringKeys
set_option linter.unusedVariables false
set_option linter.unusedSimpArgs false
set_option linter.unusedSectionVars false
/- Layer 7: graphOf: the edges that leave each state. -/
namespace Go.Proofs.YtaadhpkpekmfoaaGreat
open Go.RowKit Go.Sort

theorem info_edges : (Tryz.prog.info? 31).map (fun i => (i.zero, i.size, i.bytes)) = some (some (.slice none 0 0), 1, 24) := by kernel_rfl
theorem make_graph (N : Nat) (hN : N ≤ 100000) (w : World) :
    (Instr.makeSlice 84 (.int .i64 (N : Int)) (.int .i64 (N : Int))).run Tryz.prog w = .ok (.slice (some ⟨w.heap.size, 0, none⟩) N N) (w.alloc (.cells (List.replicate N (Value.slice none 0 0)).toArray 31)) := by
  obtain ⟨i0, hi, hz0, hz1, hz2⟩ := info_parts info_edges
  have := run_make_rowN 84 31 i0 (.slice none 0 0) Tryz.underlying84 hi hz0 .i64 .i64 N N (Nat.le_refl _) (by rw [hz2]; omega) (by omega) w
  rw [this, hz1, Nat.mul_one]
  have e : madeCells (Value.slice none 0 0).cells N = (List.replicate N (Value.slice none 0 0)).toArray := by
    rw [← toList_madeCells_one (.slice none 0 0) N]; simp [Value.cells]
  rw [e]
/-- The edges from state q on. -/
def fromE (a : Au) (q : Nat) : List Ed := a.ed.drop (startN a.ed q)
theorem fromE_ge {a : Au} (h : a.ed.Pairwise ltE) (q : Nat) : ∀ x ∈ fromE a q, (q : Int) ≤ x.f := fun x hx => by
  have h1 := split_f a.ed (q : Int) (le_of_ltE h)
  have e1 : (a.ed.filter fun x => decide (x.f < (q : Int))).length = startN a.ed q := by rw [startN, List.countP_eq_length_filter]
  have e2 : fromE a q = a.ed.filter fun x => decide (¬ x.f < (q : Int)) :=
    (congrArg (List.drop (startN a.ed q)) h1).trans (by rw [← e1, List.drop_left])
  rw [e2, List.mem_filter] at hx
  have := hx.2
  simp at this
  omega
theorem fromE_split {a : Au} (h : a.ed.Pairwise ltE) (q : Nat) : fromE a q = succ a.ed (q : Int) ++ fromE a (q + 1) := by
  have h1 := slice_succ h q
  have h2 := startN_succ a.ed q
  unfold fromE
  rw [← h1]
  have : a.ed.drop (startN a.ed (q + 1)) = (a.ed.drop (startN a.ed q)).drop (startN a.ed (q + 1) - startN a.ed q) := by
    rw [List.drop_drop]; congr 1; omega
  rw [this, List.take_append_drop]
theorem fromE_zero {a : Au} (h : RightW a) : fromE a 0 = a.ed := by
  unfold fromE
  rw [startN_zero fun x hx => (h.edr x hx).1.1, List.drop_zero]
/-- A slice value that holds these edges. -/
def SlGr (w : World) (B : Nat) (v : Value) (l : List Ed) : Prop := ∃ A c, v = .slice A l.length c ∧ RdG w B A l ∧ l.length ≤ c ∧ c ≤ 9223372036854775807
/-- The rows of a graph that are filled. -/
def GrI (w : World) (a : Au) (gs : List Value) (k : Nat) : Prop := gs.length = a.st.toNat ∧ ∀ q, q < k → ∃ v, gs[q]? = some v ∧ SlGr w w.heap.size v (succ a.ed (q : Int))
/-- A graph in memory. -/
def RdGr (w : World) (B : Nat) (b : Nat) (a : Au) : Prop := b < B ∧ ∀ q : Nat, q < a.st.toNat → ∃ v, w.cell? ⟨b, q, none⟩ = some v ∧ SlGr w B v (succ a.ed (q : Int))
theorem slg_take {w : World} {B : Nat} {A : Option Addr} {l1 l2 : List Ed} {c : Nat} (h : RdG w B A (l1 ++ l2)) (hc : (l1 ++ l2).length ≤ c) (hm : c ≤ 9223372036854775807) : SlGr w B (.slice A l1.length c) l1 :=
  ⟨A, c, rfl, fun h0 => by
    obtain ⟨b, o, e, hb, hx⟩ := h (by rw [List.length_append]; omega)
    exact ⟨b, o, e, hb, fun j x hj => hx j x (by rw [List.getElem?_append_left (List.getElem?_eq_some_iff.1 hj).1]; exact hj)⟩, by rw [List.length_append] at hc; omega, hm⟩
theorem slg_drop {w : World} {B b o : Nat} {l1 l2 : List Ed} {c : Nat} (h : RdG w B (some ⟨b, o, none⟩) (l1 ++ l2)) (hc : (l1 ++ l2).length ≤ c) (hm : c ≤ 9223372036854775807) : SlGr w B (.slice (if c = l1.length then some ⟨b, o, none⟩ else some ⟨b, o + l1.length * 3, none⟩) l2.length (c - l1.length)) l2 := by
  rw [List.length_append] at hc
  refine ⟨_, _, rfl, fun h0 => ?_, by omega, by omega⟩
  obtain ⟨b', o', e, hb, hx⟩ := h (by rw [List.length_append]; omega)
  injection e with e; injection e with e1 e2; subst e1 e2
  rw [if_neg (by omega)]
  refine ⟨b, o + l1.length * 3, rfl, hb, fun j x hj => ?_⟩
  have := hx (l1.length + j) x (by rw [List.getElem?_append_right (by omega), Nat.add_sub_cancel_left]; exact hj)
  rw [show o + l1.length * 3 + j * 3 = o + (l1.length + j) * 3 by omega]; exact this
theorem slg_nil {w : World} {B : Nat} {A : Option Addr} {c : Nat} (hm : c ≤ 9223372036854775807) : SlGr w B (.slice A 0 c) [] := ⟨A, c, rfl, fun h0 => by simp at h0, by simp, hm⟩
theorem gr_set {w : World} {a : Au} {gs : List Value} {q : Nat} {v : Value} (h : GrI w a gs q) (hq : q < gs.length) (hv : SlGr w w.heap.size v (succ a.ed (q : Int))) : GrI w a (gs.set q v) (q + 1) :=
  ⟨by rw [List.length_set]; exact h.1, fun p hp => by
    by_cases e : p = q
    · subst e; exact ⟨v, by rw [List.getElem?_set_self hq], hv⟩
    · obtain ⟨u, h1, h2⟩ := h.2 p (by omega)
      exact ⟨u, by rw [List.getElem?_set_ne (fun e' => e e'.symm)]; exact h1, h2⟩⟩
/-- Each row of a graph holds edges of the automaton that came in. -/
def GrO (w0 w' : World) (b : Nat) (a : Au) : Prop := ∀ q : Nat, q < a.st.toNat → ∃ v, w'.cell? ⟨b, q, none⟩ = some v ∧ SlGr w0 w0.heap.size v (succ a.ed (q : Int))
set_option maxHeartbeats 4000000 in
set_option maxRecDepth 100000 in
theorem graphOf_o (A : Option Addr) (n c : Nat) (s : Int) (M : Option Addr) (m d : Nat) (E : Option Addr) (k g : Nat) (a : Au) (S : Nat) (w : World) (h : AuR w w.heap.size A n c s M m d E k g a) (hr : RightW a) (hS : s = (S : Int)) (hSb : S ≤ 4096) :
    Calls Tryz.prog 55 #[.agg #[.slice A n c, .int .i64 s, .slice M m d, .slice E k g]] w fun e w' => ∃ b, e = .returned (.slice (some ⟨b, 0, none⟩) S S) ∧ w.heap.size ≤ b ∧ RdGr w' w'.heap.size b a ∧ Below w.heap.size w w' ∧ GrO w w' b a := by
  subst hS
  have hb1 := (Below.refl w.heap.size w).alloc (Nat.le_refl _) (.cells #[.slice A n c, .int .i64 (S : Int), .slice M m d, .slice E k g] 33)
  have HB1 := Lib.hid hb1
  obtain ⟨p0, p1, p2, p3⟩ := BoxA.made w A n c (S : Int) M m d E k g 33
  have hmk := make_graph S (by omega)
  have HR := Lib.hid h
  have HW := Lib.hid hr
  have hst := h.st
  have HED := Lib.hid (show SlGr w w.heap.size (.slice E k g) (fromE a 0) from by
    rw [fromE_zero hr]
    exact ⟨E, g, by rw [h.hk], h.ed, by rw [h.hk]; exact h.ck.1, h.ck.2⟩)
  clear h hr hb1
  go_enter Tryz.func55, Tryz.ntmps55
  have hR := Row.new (w.alloc (.cells #[.slice A n c, .int .i64 (S : Int), .slice M m d, .slice E k g] 33)) (List.replicate S (.slice none 0 0)) 31
  rw [World.size_alloc] at hR
  simp only [List.toArray_replicate] at hR
  have HR0 := Lib.hid hR
  have HB2 := Lib.hid (HB1.out.alloc HB1.out.size (.cells (Array.replicate S (.slice none 0 0)) 31))
  have hbk := HR.out.bk
  clear hR
  go_wp2_with fail
  go_loopw [4, 5, 6, 14] (fun rv _ _ iv wr => ∃ (q : Nat) (gs : List Value), iv = .int .i64 q ∧ q ≤ S ∧ Hid (SlGr w w.heap.size rv (fromE a q)) ∧ Hid (GrI w a gs q) ∧ Hid (Row wr (w.heap.size + 1) 31 gs) ∧ Hid (Below w.heap.size w wr)) (fun _ _ _ i _ => S - (intOf i).toNat)
  case atStart => exact ⟨0, List.replicate S (.slice none 0 0), rfl, Nat.zero_le _, HED, Lib.hid ⟨by rw [List.length_replicate, hst]; simp, fun q hq => by omega⟩, HR0, HB2⟩
  case round =>
    clear HR0 HB2 HED p0 p1 p2 p3 hmk
    obtain ⟨q, gs, rfl, hq, hsl, hgr, hrow, hbel⟩ := hrel
    by_cases hlt : q < S
    · obtain ⟨A4, c4, rfl, hrd, hlc, hcm⟩ := hsl.out
      have hsp := fromE_split HW.out.edo q
      have hge := fromE_ge HW.out.edo (q + 1)
      obtain ⟨L, hL⟩ : ∃ L, L = (fromE a q).length := ⟨_, rfl⟩
      obtain ⟨D, hD⟩ : ∃ D, D = (succ a.ed (q : Int)).length := ⟨_, rfl⟩
      have hDL : D ≤ L := by rw [hL, hsp, List.length_append, hD]; omega
      rw [← hL] at hlc ⊢
      have HL := Lib.hid hL
      have HD := Lib.hid hD
      have HSP := Lib.hid hsp
      have HGE := Lib.hid hge
      have HRD := Lib.hid hrd
      have hLb : L ≤ 1000000 := by
        have : L ≤ a.ed.length := by rw [hL]; unfold fromE; rw [List.length_drop]; omega
        rw [HR.out.hk] at this; omega
      have z1 : (q : Int) < (S : Int) := by omega
      have z0 : (0 : Int) ≤ (q : Int) := by omega
      clear hL hD hsp hge hrd hsl
      go_wp2_with fail
      go_loopw [6] (fun nv wx => ∃ t : Nat, t ≤ D ∧ nv = .int .i64 t ∧ wx = wr) (fun nv _ => D - (intOf nv).toNat)
      case atStart => exact ⟨0, Nat.zero_le _, rfl, rfl⟩
      case round =>
        obtain ⟨t, ht, rfl, hwx⟩ := hrel
        subst hwx
        by_cases h1 : t < D
        · obtain ⟨b, o, rfl, hb, hc⟩ := HRD.out (by rw [← HL.out]; omega)
          obtain ⟨y, hy⟩ : ∃ y, (succ a.ed (q : Int))[t]? = some y := ⟨_, List.getElem?_eq_getElem (by rw [← HD.out]; exact h1)⟩
          have hyf := (mem_succ.1 (List.mem_of_getElem? hy)).2
          have hy2 : (fromE a q)[t]? = some y := by rw [HSP.out, List.getElem?_append_left (by rw [← HD.out]; exact h1)]; exact hy
          have hcell := (hbel.out.cell (p := ⟨b, o + t * 3, none⟩) hb).trans (hc t y hy2).1
          rw [hyf] at hcell
          have z2 : (t : Int) < (L : Int) := by omega
          have z3 : (0 : Int) ≤ (t : Int) := by omega
          have z4 : ((q : Int) == (q : Int)) = true := by simp
          clear hc hy hyf hy2
          go_wp2_with fail
          go_roundw
          case rel => exact ⟨t + 1, by omega, by go_num, by first | rfl | trivial⟩
          case measure => simp [intOf]; omega
        · obtain rfl : t = D := by omega
          obtain ⟨hgl, hgv⟩ := hgr.out
          obtain ⟨g0, hg0⟩ : ∃ v, gs[q]? = some v := ⟨_, List.getElem?_eq_getElem (by rw [hgl, hst]; simpa using hlt)⟩
          have c0 := hrow.out.cell q hg0
          have f0 := hrow.out.frozen q
          have z5 : (0 : Int) ≤ (t : Int) := by omega
          have z6 : (t : Int) ≤ (L : Int) := by omega
          have z7 : (t : Int) ≤ (c4 : Int) := by omega
          have z8 : (L : Int) ≤ (c4 : Int) := by omega
          by_cases h2 : t < L
          · obtain ⟨b, o, rfl, hb, hc⟩ := HRD.out (by rw [← HL.out]; omega)
            obtain ⟨y, hy⟩ : ∃ y, (fromE a q)[t]? = some y := ⟨_, List.getElem?_eq_getElem (by rw [← HL.out]; exact h2)⟩
            have hyg : (q : Int) + 1 ≤ y.f := by
              have h3 := hy
              rw [HSP.out, List.getElem?_append_right (by rw [← HD.out]; omega)] at h3
              have := HGE.out y (List.mem_of_getElem? h3)
              omega
            have hcell := (hbel.out.cell (p := ⟨b, o + t * 3, none⟩) hb).trans (hc t y hy).1
            obtain ⟨yf, hyf⟩ : ∃ x, x = y.f := ⟨_, rfl⟩
            rw [← hyf] at hcell hyg
            have z2 : (t : Int) < (L : Int) := by omega
            have z3 : (0 : Int) ≤ (t : Int) := by omega
            have z4 : (yf == (q : Int)) = false := by simp; omega
            clear hc hy hyf
            go_wp2_with fail
            go_region_law (fail)
            all_goals
              go_wp2_with fail
              go_roundw
              case rel =>
                have hrd := HRD.out
                rw [HSP.out] at hrd
                have hLe : ((succ a.ed (q : Int)) ++ fromE a (q + 1)).length = L := by rw [← HSP.out]; exact HL.out.symm
                have hL2 : (fromE a (q + 1)).length = L - t := by rw [List.length_append, ← HD.out] at hLe; omega
                have k1 := slg_take hrd (by rw [hLe]; exact hlc) hcm
                have k2 := slg_drop hrd (by rw [hLe]; exact hlc) hcm
                rw [← HD.out] at k1 k2
                rw [hL2] at k2
                exact ⟨q + 1, gs.set q (.slice (some ⟨b, o, none⟩) t c4), by go_num, by omega, Lib.hid k2, Lib.hid (gr_set hgr.out (List.getElem?_eq_some_iff.1 hg0).1 k1), Lib.hid (hrow.out.set q _), Lib.hid (by first | exact hbel.out.setCell (p := ⟨w.heap.size + 1, q, none⟩) (by simp) _ | exact (hbel.out.setCell (p := ⟨w.heap.size + 1, q, none⟩) (by simp) _).drew)⟩
              case measure => simp [intOf]; omega
          · have z2 : (L : Int) ≤ (t : Int) := by omega
            obtain rfl : t = L := by omega
            go_wp2_with fail
            cases A4
            all_goals
              go_region_law (fail)
              all_goals
                go_wp2_with fail
                go_roundw
                case rel =>
                  have hrd := HRD.out
                  rw [HSP.out] at hrd
                  have hLe : ((succ a.ed (q : Int)) ++ fromE a (q + 1)).length = t := by rw [← HSP.out]; exact HL.out.symm
                  have hnil : fromE a (q + 1) = [] := List.eq_nil_of_length_eq_zero (by rw [List.length_append, ← HD.out] at hLe; omega)
                  have k1 := slg_take hrd (by rw [hLe]; exact hlc) hcm
                  rw [← HD.out] at k1
                  exact ⟨q + 1, gs.set q _, by go_num, by omega, Lib.hid (by rw [hnil]; exact slg_nil (by omega)), Lib.hid (gr_set hgr.out (List.getElem?_eq_some_iff.1 hg0).1 k1), Lib.hid (by first | exact hrow.out.set q _ | exact (hrow.out.set q _).drew), Lib.hid (by first | exact hbel.out.setCell (p := ⟨w.heap.size + 1, q, none⟩) (by simp) _ | exact (hbel.out.setCell (p := ⟨w.heap.size + 1, q, none⟩) (by simp) _).drew)⟩
                case measure => simp [intOf]; omega
    · obtain rfl : q = S := by omega
      have HF := Lib.hid (show RdGr wr wr.heap.size (w.heap.size + 1) a from ⟨hrow.out.lt, fun p hp => by
        obtain ⟨v, h1, A5, c5, rfl, h2, h3, h4⟩ := hgr.out.2 p (by rw [hst] at hp; simpa using hp)
        exact ⟨_, hrow.out.cell p h1, A5, c5, rfl, (h2.below hbel.out (Nat.le_refl _)).more hbel.out.size, h3, h4⟩⟩)
      have HF2 := Lib.hid (show GrO w wr (w.heap.size + 1) a from fun p hp => by
        obtain ⟨v, h1, h2⟩ := hgr.out.2 p (by rw [hst] at hp; simpa using hp)
        exact ⟨v, hrow.out.cell p h1, h2⟩)
      go_wp2_with fail
      go_ret
      exact ⟨_, rfl, by omega, HF.out, hbel.out, HF2.out⟩
theorem graphOf_any (A : Option Addr) (n c : Nat) (s : Int) (M : Option Addr) (m d : Nat) (E : Option Addr) (k g : Nat) (a : Au) (S : Nat) (w : World) (h : AuR w w.heap.size A n c s M m d E k g a) (hr : RightW a) (hS : s = (S : Int)) (hSb : S ≤ 4096) :
    Calls Tryz.prog 55 #[.agg #[.slice A n c, .int .i64 s, .slice M m d, .slice E k g]] w fun e w' => ∃ b, e = .returned (.slice (some ⟨b, 0, none⟩) S S) ∧ w.heap.size ≤ b ∧ RdGr w' w'.heap.size b a ∧ Below w.heap.size w w' :=
  (graphOf_o A n c s M m d E k g a S w h hr hS hSb).mono fun _ _ ⟨b, h1, h2, h3, h4, _⟩ => ⟨b, h1, h2, h3, h4⟩
theorem GrO.rd {w0 w7 w' : World} {b : Nat} {a : Au} (h : GrO w0 w7 b a) (hb : b < w'.heap.size) (hz : w0.heap.size ≤ w'.heap.size) (hc : ∀ q : Nat, w'.cell? ⟨b, q, none⟩ = w7.cell? ⟨b, q, none⟩) (hw : Below w0.heap.size w0 w') : RdGr w' w'.heap.size b a :=
  ⟨hb, fun q hq => by
    obtain ⟨v, h1, A5, c5, rfl, h2, h3, h4⟩ := h q hq
    exact ⟨_, (hc q).trans h1, A5, c5, rfl, (h2.below hw (Nat.le_refl _)).more hz, h3, h4⟩⟩
end Go.Proofs.YtaadhpkpekmfoaaGreat

/- Layer 7: the closure of spread, which finds a state once. -/
namespace Go.Proofs.YtaadhpkpekmfoaaGreat
open Go.RowKit Go.Sort

theorem rows_neJ {w : World} {g1 g2 : Nat} {e1 e2 : TypeId} {c1 c2 : List Value} (h1 : Row w g1 e1 c1) (h2 : Row w g2 e2 c2) (he : e1 ≠ e2) : g1 ≠ g2 := by
  rintro rfl
  have h := h1.symm.trans h2
  simp only [Option.some.injEq, Obj.cells.injEq] at h
  exact he h.2.1
/-- What a search has found: flags, and the list. -/
structure Sp (w : World) (bs bm bf base S : Nat) (v : Value) (F : List Int) : Prop where
  sb : Row w bs 138 [.slice (some ⟨bm, 0, none⟩) S S]
  sm : Row w bm 4 ((List.range S).map fun q : Nat => .bool (decide ((q : Int) ∈ F)))
  fb : Row w bf 27 [v]
  ow : Own w base v F
  fr : ∀ q ∈ F, 0 ≤ q ∧ q < (S : Int)
  nd : F.Nodup
/-- All but the flags, the list's box and the list lies as it lay. -/
structure KpJ (w w' : World) (bm bf : Nat) (v : Value) : Prop where
  os : w'.os = w.os
  tape : w'.tape = w.tape
  output : w'.output = w.output
  size : w.heap.size ≤ w'.heap.size
  block : ∀ k, k < w.heap.size → k ≠ bm → k ≠ bf → some k ≠ v.ownBlock → w'.heap[k]? = w.heap[k]?
theorem sm_cell {w : World} {bs bm bf base S : Nat} {v : Value} {F : List Int} (h : Sp w bs bm bf base S v F) {q : Nat} (hq : q < S) : w.cell? ⟨bm, q, none⟩ = some (.bool (decide ((q : Int) ∈ F))) :=
  h.sm.cell q (by rw [List.getElem?_map, List.getElem?_range hq]; rfl)
theorem sm_set {F : List Int} {S q : Nat} : ((List.range S).map fun p : Nat => Value.bool (decide ((p : Int) ∈ F))).set q (.bool true) = (List.range S).map fun p : Nat => .bool (decide ((p : Int) ∈ F ++ [(q : Int)])) := by
  apply List.ext_getElem
  · simp
  · intro i h1 h2
    rw [List.getElem_set]
    simp only [List.getElem_map, List.getElem_range]
    by_cases e : q = i
    · subst e; simp
    · rw [if_neg e]
      congr 1
      have : ¬ (i : Int) = (q : Int) := by omega
      simp [this]
set_option maxHeartbeats 4000000 in
set_option maxRecDepth 100000 in
theorem jFind_any (bs bm bf base S q : Nat) (v : Value) (F : List Int) (w : World) (h : Sp w bs bm bf base S v F) (hq : q < S) (hS : S ≤ 4096) (hba : base ≤ w.heap.size) :
    Calls Tryz.prog 98 #[.int .i64 (q : Int), .pointer (some ⟨bs, 0, none⟩), .pointer (some ⟨bf, 0, none⟩)] w fun e w' => e = .returned (.tuple #[]) ∧ ∃ v', Sp w' bs bm bf base S v' (visit F (q : Int)) ∧ KpJ w w' bm bf v := by
  have H := Lib.hid h
  have c1 := h.sb.cell 0 rfl
  have c2 := sm_cell h hq
  have c3 := h.fb.cell 0 rfl
  have f2 := h.sm.frozen q
  have f3 := h.fb.frozen 0
  have hFl : F.length ≤ S := nodup_len h.nd fun x hx => h.fr x hx
  obtain ⟨l, hl⟩ : ∃ l, l = F.length := ⟨_, rfl⟩
  rw [← hl] at hFl
  have HL := Lib.hid hl
  obtain ⟨iI, iI0, iI1, iI2, iI3⟩ := info_parts info_int
  have z0 : (0 : Int) ≤ (q : Int) := by omega
  have z1 : (q : Int) < (S : Int) := by omega
  clear h hl
  by_cases hin : (q : Int) ∈ F
  · rw [decide_eq_true hin] at c2
    have hv : visit F (q : Int) = F := by unfold visit; rw [if_pos hin]
    have HV := Lib.hid hv
    clear hin hv
    go_enter Tryz.func98, Tryz.ntmps98
    go_wp2_with fail
    first | go_end0 | refine bodyPost_ret (results_none rfl _ _ _) rfl ?_
    exact ⟨rfl, v, by rw [HV.out]; exact H.out, rfl, rfl, rfl, Nat.le_refl _, fun _ _ _ _ _ => rfl⟩
  · rw [decide_eq_false hin] at c2
    have hv : visit F (q : Int) = F ++ [(q : Int)] := by unfold visit; rw [if_neg hin]
    have HV := Lib.hid hv
    have HIN := Lib.hid hin
    have hMF := rows_neJ H.out.sm H.out.fb (by decide)
    have hMS := rows_neJ H.out.sm H.out.sb (by decide)
    have hFS := rows_neJ H.out.fb H.out.sb (by decide)
    have HFB := Lib.hid (H.out.fb.setOther (p := ⟨bm, q, none⟩) (fun e => hMF e.symm) (.bool true))
    have HSB := Lib.hid (H.out.sb.setOther (p := ⟨bm, q, none⟩) (fun e => hMS e.symm) (.bool true))
    have hsm := H.out.sm.set q (.bool true)
    rw [sm_set] at hsm
    have HSM := Lib.hid hsm
    have HOW := Lib.hid (ownsRow_setCell_other H.out.ow (a := ⟨bm, q, none⟩) (row_ne_own H.out.sm H.out.ow (by decide)) (.bool true))
    have c4 := HFB.out.cell 0 rfl
    have hsz : (w.setCell ⟨bm, q, none⟩ (.bool true)).heap.size = w.heap.size := by simp [World.setCell]
    have HSZ := Lib.hid hsz
    have hown := HOW.out
    rw [← HL.out] at hown
    have HOWl := Lib.hid hown
    clear hin hv hsm hsz hown
    go_enter Tryz.func98, Tryz.ntmps98
    go_wp2_with (at_builtin; refine wpList_append_own_at _ rfl _ _ 27 rfl base 3 iI (.int .i64 0) 1 8 Tryz.underlying27 iI0 iI1 iI2 iI3 rfl (by decide) _ l (F.map (Value.int .i64)) rfl (HOWl.out.alloc _) ⟨w.heap.size, 0, none⟩ 1 1 [.int .i64 (q : Int)] rfl rfl (news_one HSZ.out) (by intro u hu; simp at hu; subst hu; rfl) (by unfold maxLen; omega) (by omega) (by rw [World.size_alloc, HSZ.out]; omega) ?_)
    intro v6 w6 hown6 hgrow6 _ hat6
    obtain ⟨gG, capG, rfl⟩ : ∃ g cap, v6 = .slice (some ⟨g, 0, none⟩) (l + 1) cap := by
      rcases hown6.2 with ⟨rfl, h0⟩ | ⟨g, cap, cur, rfl, _⟩
      · omega
      · exact ⟨g, cap, rfl⟩
    have hown7 : Own w6 base (.slice (some ⟨gG, 0, none⟩) (l + 1) capG) (F ++ [(q : Int)]) := by unfold Own; rw [List.length_append, ← HL.out, List.map_append]; exact hown6
    have hbf6 := Lib.hid ((HFB.out.alloc (.cells #[.int .i64 (q : Int)] 3)).grown hgrow6 (row_ne_own HFB.out HOW.out (by decide)))
    have hbs6 := Lib.hid ((HSB.out.alloc (.cells #[.int .i64 (q : Int)] 3)).grown hgrow6 (row_ne_own HSB.out HOW.out (by decide)))
    have hsm6 := Lib.hid ((HSM.out.alloc (.cells #[.int .i64 (q : Int)] 3)).grown hgrow6 (row_ne_own HSM.out HOW.out (by decide)))
    have HO7 := Lib.hid hown7
    have HG6 := Lib.hid hgrow6
    have c6 := hbf6.out.cell 0 rfl
    have f6 := hbf6.out.frozen 0
    clear hown6 hown7 hgrow6 hat6 c1 c2 c3 c4 f2 f3
    go_wp2_with fail
    first | go_end0 | refine bodyPost_ret (results_none rfl _ _ _) rfl ?_
    have hg := HG6.out
    have hsz6 := hg.size
    simp only [World.size_alloc, HSZ.out] at hsz6
    rw [HV.out]
    refine ⟨rfl, .slice (some ⟨gG, 0, none⟩) (l + 1) capG, ⟨hbs6.out.setOther (p := ⟨bf, 0, none⟩) (fun e => hFS e.symm) _, hsm6.out.setOther (p := ⟨bf, 0, none⟩) hMF _, hbf6.out.set 0 _, ?_, ?_, ?_⟩, ⟨?_, ?_, ?_, ?_, ?_⟩⟩
    · exact ownsRow_setCell_other HO7.out (a := ⟨bf, 0, none⟩) (row_ne_own hbf6.out HO7.out (by decide)) _
    · intro x hx
      rcases List.mem_append.1 hx with hx | hx
      · exact H.out.fr x hx
      · rw [List.mem_singleton] at hx; omega
    · rw [List.nodup_append]
      exact ⟨H.out.nd, by simp, fun x hx y hy e => by rw [List.mem_singleton] at hy; subst hy; exact HIN.out (e ▸ hx)⟩
    · exact Eq.trans (b := w6.os) rfl hg.os
    · exact Eq.trans (b := w6.tape) rfl hg.tape
    · exact Eq.trans (b := w6.output) rfl hg.output
    · simp [World.setCell]; omega
    · intro k hk h1 h2 h3
      rw [Below.heap_setCell _ _ _ _ (show k ≠ (⟨bf, 0, none⟩ : Addr).block from h2), hg.block k (by rw [World.size_alloc, HSZ.out]; omega) h3, Below.heap_alloc _ _ _ (by rw [HSZ.out]; exact hk), Below.heap_setCell _ _ _ _ (show k ≠ (⟨bm, q, none⟩ : Addr).block from h1)]
end Go.Proofs.YtaadhpkpekmfoaaGreat

/- Layer 7: spread: what some events reach from some states. -/
namespace Go.Proofs.YtaadhpkpekmfoaaGreat
open Go.RowKit Go.Sort

/-- Flags of events, as cells. -/
def flR (ev : List Int) : List Value := (List.range 32).map fun e : Nat => .bool (decide ((e : Int) ∈ ev))
theorem flR_at (ev : List Int) {e : Nat} (h : e < 32) : (flR ev)[e]? = some (.bool (decide ((e : Int) ∈ ev))) := by
  unfold flR; rw [List.getElem?_map, List.getElem?_range h]; rfl
/-- What spread keeps. -/
structure Sq (w0 wr : World) (S : Nat) (ev : List Int) (v : Value) (F : List Int) : Prop where
  bel : Below w0.heap.size w0 wr
  sp : Sp wr (w0.heap.size + 1 + 1 + 1) (w0.heap.size + 1 + 1) (w0.heap.size + 1) w0.heap.size S v F
  fg : Row wr w0.heap.size 86 (flR ev)
theorem Sq.find {w0 wr w' : World} {S : Nat} {ev : List Int} {v v' : Value} {F F' : List Int} (h : Sq w0 wr S ev v F) (hs : Sp w' (w0.heap.size + 1 + 1 + 1) (w0.heap.size + 1 + 1) (w0.heap.size + 1) w0.heap.size S v' F') (hk : KpJ wr w' (w0.heap.size + 1 + 1) (w0.heap.size + 1) v) : Sq w0 w' S ev v' F' := by
  have hz := h.bel.size
  refine ⟨⟨hk.os.trans h.bel.os, hk.tape.trans h.bel.tape, hk.output.trans h.bel.output, Nat.le_trans hz hk.size, fun k hk1 => (hk.block k (by omega) (by omega) (by omega) (fun e => by have := (h.sp.ow.lt k e.symm).1; omega)).trans (h.bel.block k hk1)⟩, hs, ?_⟩
  exact (hk.block _ h.fg.lt (by omega) (by omega) (fun e => row_ne_own h.fg h.sp.ow (by decide) e.symm)).trans h.fg
theorem Sq.alloc {w0 wr : World} {S : Nat} {ev : List Int} {v : Value} {F : List Int} (h : Sq w0 wr S ev v F) (o : Obj) : Sq w0 (wr.alloc o) S ev v F :=
  ⟨h.bel.alloc h.bel.size o, ⟨h.sp.sb.alloc o, h.sp.sm.alloc o, h.sp.fb.alloc o, h.sp.ow.alloc o, h.sp.fr, h.sp.nd⟩, h.fg.alloc o⟩
theorem sm_nil (S : Nat) : ((List.range S).map fun q : Nat => Value.bool (decide ((q : Int) ∈ ([] : List Int)))) = List.replicate S (.bool false) := by
  apply List.ext_getElem <;> simp
theorem sq_start (w : World) (S : Nat) (ev : List Int) : Sq w ((((w.alloc (.cells (flR ev).toArray 86)).alloc (.cells #[.slice none 0 0] 27)).alloc (.cells (Array.replicate S (.bool false)) 4)).alloc (.cells #[.slice (some ⟨w.heap.size + 1 + 1, 0, none⟩) S S] 138)) S ev (.slice none 0 0) [] where
  bel := ((((Below.refl _ w).alloc (Nat.le_refl _) _).alloc (by simp) _).alloc (by simp; omega) _).alloc (by simp; omega) _
  sp := {
    sb := by
      have := Row.new (((w.alloc (.cells (flR ev).toArray 86)).alloc (.cells #[.slice none 0 0] 27)).alloc (.cells (Array.replicate S (.bool false)) 4)) [.slice (some ⟨w.heap.size + 1 + 1, 0, none⟩) S S] 138
      simpa using this
    sm := by
      have := (Row.new ((w.alloc (.cells (flR ev).toArray 86)).alloc (.cells #[.slice none 0 0] 27)) (List.replicate S (.bool false)) 4).alloc (.cells #[.slice (some ⟨w.heap.size + 1 + 1, 0, none⟩) S S] 138)
      rw [sm_nil]
      simpa using this
    fb := by
      have := ((Row.new (w.alloc (.cells (flR ev).toArray 86)) [.slice none 0 0] 27).alloc (.cells (Array.replicate S (.bool false)) 4)).alloc (.cells #[.slice (some ⟨w.heap.size + 1 + 1, 0, none⟩) S S] 138)
      simpa using this
    ow := World.ownsRow_nil _ _ _ _
    fr := fun q hq => by cases hq
    nd := List.nodup_nil }
  fg := (((Row.new w (flR ev) 86).alloc _).alloc _).alloc _
theorem visit_take {fr : List Int} {k : Nat} (h : k < fr.length) (F : List Int) : (fr.take (k + 1)).foldl visit F = visit ((fr.take k).foldl visit F) (fr.getD k 0) := by
  have e : fr.getD k 0 = fr[k] := by simp [List.getD, List.getElem?_eq_getElem h]
  rw [List.take_succ_eq_append_getElem h, List.foldl_append, e]; rfl
/-- What the search keeps: the first i found states are done, of the next one t edges. -/
structure SI (a : Au) (ev fr F : List Int) (i t : Nat) : Prop where
  beg : ∀ q ∈ fr, q ∈ F
  rc : ∀ q ∈ F, Rc a ev fr q
  dn : ∀ j, j < i → ∀ x ∈ succ a.ed (F.getD j 0), x.e ∈ ev → x.t ∈ F
  cu : ∀ x ∈ (succ a.ed (F.getD i 0)).take t, x.e ∈ ev → x.t ∈ F
theorem mem_foldv : ∀ (l F : List Int) (q : Int), q ∈ l.foldl visit F ↔ q ∈ F ∨ q ∈ l
  | [], F, q => by simp
  | x :: l, F, q => by rw [List.foldl_cons, mem_foldv l, mem_visit, List.mem_cons, or_assoc]
theorem si_start {a : Au} {ev fr : List Int} : SI a ev fr (fr.foldl visit []) 0 0 :=
  ⟨fun q hq => (mem_foldv _ _ _).2 (.inr hq), fun q hq => .base (((mem_foldv _ _ _).1 hq).resolve_left (by simp)), fun j hj => by omega, fun x hx => by simp at hx⟩
theorem si_in {a : Au} {ev fr F : List Int} {i t : Nat} {x : Ed} (h : SI a ev fr F i t) (hi : i < F.length) (hx : (succ a.ed (F.getD i 0))[t]? = some x) (he : x.e ∈ ev) : SI a ev fr (visit F x.t) i (t + 1) ∧ (visit F x.t).getD i 0 = F.getD i 0 ∧ i < (visit F x.t).length := by
  have hpre := visit_pre F x.t
  have hg : ∀ j, j ≤ i → (visit F x.t).getD j 0 = F.getD j 0 := fun j hj => getD_pre hpre (by omega)
  have hsub := hpre.subset
  have hxm := List.mem_of_getElem? hx
  refine ⟨⟨fun q hq => hsub (h.beg q hq), fun q hq => ?_, fun j hj y hy hye => ?_, fun y hy hye => ?_⟩, hg i (Nat.le_refl _), Nat.lt_of_lt_of_le hi hpre.length_le⟩
  · rcases mem_visit.1 hq with hq | rfl
    · exact h.rc q hq
    · have hm := mem_succ.1 hxm
      refine .step ?_ hm.1 he
      rw [hm.2]
      exact h.rc _ (getD_mem hi)
  · rw [hg j (by omega)] at hy
    exact hsub (h.dn j hj y hy hye)
  · rw [hg i (Nat.le_refl _)] at hy
    obtain ⟨hl, e⟩ := List.getElem?_eq_some_iff.1 hx
    rw [List.take_succ_eq_append_getElem hl, List.mem_append, List.mem_singleton] at hy
    rcases hy with hy | hy
    · exact hsub (h.cu y hy hye)
    · rw [hy, e]; exact mem_visit.2 (.inr rfl)
theorem si_out {a : Au} {ev fr F : List Int} {i t : Nat} {x : Ed} (h : SI a ev fr F i t) (hx : (succ a.ed (F.getD i 0))[t]? = some x) (he : x.e ∉ ev) : SI a ev fr F i (t + 1) :=
  ⟨h.beg, h.rc, h.dn, fun y hy hye => by
    obtain ⟨hl, e⟩ := List.getElem?_eq_some_iff.1 hx
    rw [List.take_succ_eq_append_getElem hl, List.mem_append, List.mem_singleton] at hy
    rcases hy with hy | hy
    · exact h.cu y hy hye
    · rw [hy, e] at hye; exact absurd hye he⟩
theorem si_next {a : Au} {ev fr F : List Int} {i : Nat} (h : SI a ev fr F i (succ a.ed (F.getD i 0)).length) : SI a ev fr F (i + 1) 0 :=
  ⟨h.beg, h.rc, fun j hj y hy hye => by
    by_cases e : j = i
    · subst e; exact h.cu y (by rw [List.take_length]; exact hy) hye
    · exact h.dn j (by omega) y hy hye, fun x hx => by simp at hx⟩
theorem si_end {a : Au} {ev fr F : List Int} (h : SI a ev fr F F.length 0) (q : Int) : q ∈ F ↔ Rc a ev fr q :=
  rc_found h.beg h.rc (fun x hx hf he => by
    have hj := List.idxOf_lt_length_iff.2 hf
    exact h.dn _ hj x (mem_succ.2 ⟨hx, by rw [getD_idxOf hf]⟩) he) q
theorem info_bool : (Tryz.prog.info? 4).map (fun i => (i.zero, i.size, i.bytes)) = some (some (.bool false), 1, 1) := by kernel_rfl
theorem make_bools (N : Nat) (hN : N ≤ 100000) (w : World) :
    (Instr.makeSlice 138 (.int .i64 (N : Int)) (.int .i64 (N : Int))).run Tryz.prog w = .ok (.slice (some ⟨w.heap.size, 0, none⟩) N N) (w.alloc (.cells (List.replicate N (Value.bool false)).toArray 4)) := by
  obtain ⟨i0, hi, hz0, hz1, hz2⟩ := info_parts info_bool
  have := run_make_rowN 138 4 i0 (.bool false) Tryz.underlying138 hi hz0 .i64 .i64 N N (Nat.le_refl _) (by rw [hz2]; omega) (by omega) w
  rw [this, hz1, Nat.mul_one]
  have e : madeCells (Value.bool false).cells N = (List.replicate N (Value.bool false)).toArray := by
    rw [← toList_madeCells_one (.bool false) N]; simp [Value.cells]
  rw [e]
set_option maxHeartbeats 8000000 in
set_option maxRecDepth 100000 in
theorem jSpread_any (bg S : Nat) (a : Au) (A2 : Option Addr) (n2 c2 : Nat) (fr ev : List Int) (w : World) (hg : RdGr w w.heap.size bg a) (hr : RightW a) (hS : a.st = (S : Int)) (hSb : S ≤ 4096) (hx : RdI w w.heap.size A2 fr) (hn : fr.length = n2) (hnb : n2 ≤ 1000000) (hf : ∀ q ∈ fr, 0 ≤ q ∧ q < (S : Int)) :
    Calls Tryz.prog 56 #[.slice (some ⟨bg, 0, none⟩) S S, .slice A2 n2 c2, .agg (flR ev).toArray] w fun e w' => ∃ v, e = .returned v ∧ Own w' w.heap.size v (reR a ev fr) ∧ Below w.heap.size w w' := by
  have hmk := make_bools S (by omega)
  have HG := Lib.hid hg
  have HW := Lib.hid hr
  have HX := Lib.hid hx
  have HN := Lib.hid hn
  have HF := Lib.hid hf
  have HS := Lib.hid hS
  clear hg hr hx hn hf hS
  go_enter Tryz.func56, Tryz.ntmps56
  have HQ0 := Lib.hid (sq_start w S ev)
  go_wp2_with fail
  go_loopw [11, 21] (fun _ iv wr => ∃ (k : Nat) (v : Value), k ≤ n2 ∧ iv = .int .i64 k ∧ Hid (Sq w wr S ev v ((fr.take k).foldl visit []))) (fun _ i _ => n2 - (intOf i).toNat)
  case atStart => exact ⟨0, _, Nat.zero_le _, rfl, HQ0⟩
  case round =>
    clear HQ0 hmk
    obtain ⟨k, v, hk, rfl, hsq⟩ := hrel
    by_cases hlt : k < n2
    · obtain ⟨b, o, rfl, hb, hc⟩ := HX.out (by rw [HN.out]; omega)
      have hz : k < fr.length := by rw [HN.out]; exact hlt
      have hc1 := (hsq.out.bel.cell (p := ⟨b, o + k, none⟩) hb).trans (hc k hz)
      have hfr := HF.out _ (getD_mem hz)
      obtain ⟨q, hq⟩ : ∃ q : Nat, fr.getD k 0 = (q : Int) := ⟨(fr.getD k 0).toNat, by omega⟩
      rw [hq] at hc1 hfr
      have hnx := visit_take hz []
      rw [hq] at hnx
      have HNX := Lib.hid hnx
      have hqS : q < S := by omega
      have z0 : (k : Int) < (n2 : Int) := by omega
      have z1 : (0 : Int) ≤ (k : Int) := by omega
      clear hc hz hq hnx hfr
      go_wp2_with fail
      refine (jFind_any _ _ _ _ _ q _ _ _ hsq.out.sp hqS hSb hsq.out.bel.size).mono ?_
      rintro e w5 ⟨rfl, v', hs', hk'⟩
      have hsq' := Lib.hid (hsq.out.find hs' hk')
      clear hs' hk'
      go_wp2_with fail
      go_roundw
      case rel => exact ⟨k + 1, v', by omega, by go_num, by rw [HNX.out]; exact hsq'⟩
      case measure => simp [intOf]; omega
    · have hF0 : fr.take k = fr := List.take_of_length_le (by rw [HN.out]; omega)
      rw [hF0] at hsq
      have hsi := Lib.hid (si_start (a := a) (ev := ev) (fr := fr))
      obtain ⟨F0, hF⟩ : ∃ F, F = fr.foldl visit [] := ⟨_, rfl⟩
      rw [← hF] at hsq hsi
      clear hF hF0
      go_wp2_with fail
      go_loopw [12, 14] (fun iv _ wr => ∃ (i : Nat) (v : Value) (F : List Int), i ≤ F.length ∧ iv = .int .i64 i ∧ Hid (Sq w wr S ev v F) ∧ Hid (SI a ev fr F i 0)) (fun iv _ _ => S - (intOf iv).toNat)
      case atStart => exact ⟨0, v, F0, Nat.zero_le _, rfl, hsq, hsi⟩
      case round =>
        clear hsq hsi
        obtain ⟨i, v, F, hi, rfl, hsq, hsi⟩ := hrel
        have hFS : F.length ≤ S := nodup_len hsq.out.sp.nd fun x hx => hsq.out.sp.fr x hx
        obtain ⟨Av, cv, rfl, hRd, _, _⟩ := own_rdc hsq.out.sp.ow
        have c3 := hsq.out.sp.fb.cell 0 rfl
        obtain ⟨l, hl⟩ : ∃ l, l = F.length := ⟨_, rfl⟩
        rw [← hl] at hi hFS c3
        have HL := Lib.hid hl
        have HRd := Lib.hid hRd
        clear hl hRd
        by_cases hlt : i < l
        · obtain ⟨b, o, rfl, hb, hc⟩ := HRd.out (by rw [← HL.out]; omega)
          have hil : i < F.length := by rw [← HL.out]; exact hlt
          have hc1 := hc i hil
          have hqr := hsq.out.sp.fr _ (getD_mem hil)
          obtain ⟨q, hq⟩ : ∃ q : Nat, F.getD i 0 = (q : Int) := ⟨(F.getD i 0).toNat, by omega⟩
          rw [hq] at hc1 hqr
          have HQ := Lib.hid hq
          have hqS : q < S := by omega
          obtain ⟨vE, hv1, AE, cE, rfl, hrE, hlE, hmE⟩ := HG.out.2 q (by rw [HS.out]; simpa using hqS)
          have cg := (hsq.out.bel.cell (p := ⟨bg, q, none⟩) HG.out.1).trans hv1
          obtain ⟨D, hD⟩ : ∃ D, D = (succ a.ed (q : Int)).length := ⟨_, rfl⟩
          rw [← hD] at cg hlE
          have HD := Lib.hid hD
          have HRE := Lib.hid hrE
          have HIL := Lib.hid hil
          have z0 : (i : Int) < (l : Int) := by omega
          have z1 : (0 : Int) ≤ (i : Int) := by omega
          have z2 : (0 : Int) ≤ (q : Int) := by omega
          have z3 : (q : Int) < (S : Int) := by omega
          have HQ2 := Lib.hid (show SI a ev fr F i 0 ∧ F.getD i 0 = (q : Int) ∧ i < F.length from ⟨hsi.out, hq, hil⟩)
          clear hc hq hv1 hrE hD hil hqr
          go_wp2_with fail
          go_loopw [14, 43] (fun _ jv wx => ∃ (t : Nat) (v : Value) (F : List Int), t ≤ D ∧ jv = .int .i64 t ∧ Hid (Sq w wx S ev v F) ∧ Hid (SI a ev fr F i t ∧ F.getD i 0 = (q : Int) ∧ i < F.length)) (fun _ jv _ => D - (intOf jv).toNat)
          case atStart => exact ⟨0, _, F, Nat.zero_le _, rfl, hsq, HQ2⟩
          case round =>
            clear hsq hsi HQ2 c3 hc1 cg HQ HL HRd HIL
            obtain ⟨t, v, F, htD, rfl, hsq, hsi⟩ := hrel
            by_cases h1 : t < D
            · obtain ⟨b2, o2, rfl, hb2, hc2⟩ := HRE.out (by rw [← HD.out]; omega)
              obtain ⟨x, hx⟩ : ∃ x, (succ a.ed (q : Int))[t]? = some x := ⟨_, List.getElem?_eq_getElem (by rw [← HD.out]; exact h1)⟩
              obtain ⟨g1, g2, g3⟩ := hc2 t x hx
              have d1 := (hsq.out.bel.cell (p := ⟨b2, o2 + t * 3, none⟩) hb2).trans g1
              have d2 := (hsq.out.bel.cell (p := ⟨b2, o2 + t * 3 + 1, none⟩) hb2).trans g2
              have d3 := (hsq.out.bel.cell (p := ⟨b2, o2 + t * 3 + 2, none⟩) hb2).trans g3
              have hxs : (succ a.ed (F.getD i 0))[t]? = some x := by rw [hsi.out.2.1]; exact hx
              have hed := HW.out.edr x (mem_succ.1 (List.mem_of_getElem? hx)).1
              have hev := HW.out.alr _ hed.2.2
              rw [HS.out] at hed
              obtain ⟨e, he⟩ : ∃ e : Nat, x.e = (e : Int) := ⟨x.e.toNat, by omega⟩
              obtain ⟨p, hp⟩ : ∃ p : Nat, x.t = (p : Int) := ⟨x.t.toNat, by omega⟩
              obtain ⟨f, hfv⟩ : ∃ f, f = x.f := ⟨_, rfl⟩
              have hpS : p < S := by omega
              have he32 : e < 32 := by omega
              rw [← hfv] at d1
              rw [he] at d2
              rw [hp] at d3
              have hfl := hsq.out.fg.cell e (flR_at ev he32)
              have hflt := hsq.out.fg.lt
              obtain ⟨r, hr⟩ : ∃ r, decide ((e : Int) ∈ ev) = r := ⟨_, rfl⟩
              rw [hr] at hfl
              have cfl := (World.cell?_alloc_lt wr (.cells #[.int .i64 f, .int .i64 (e : Int), .int .i64 (p : Int)] 79) ⟨w.heap.size, e, none⟩ hflt).trans hfl
              have hsq2 := Lib.hid (hsq.out.alloc (.cells #[.int .i64 f, .int .i64 (e : Int), .int .i64 (p : Int)] 79))
              have z4 : (t : Int) < (D : Int) := by omega
              have z5 : (0 : Int) ≤ (t : Int) := by omega
              have z6 : (0 : Int) ≤ (e : Int) := by omega
              have z7 : (e : Int) < 32 := by omega
              cases r
              · have hne : x.e ∉ ev := by rw [he]; simpa using hr
                have hnx := Lib.hid (show SI a ev fr F i (t + 1) ∧ F.getD i 0 = (q : Int) ∧ i < F.length from ⟨si_out hsi.out.1 hxs hne, hsi.out.2⟩)
                clear hx g1 g2 g3 hxs hed hev he hp hfv hr hne hc2 hfl
                go_wp2_with fail
                go_roundw
                case rel => exact ⟨t + 1, v, F, by omega, by go_num, hsq2, hnx⟩
                case measure => simp [intOf]; omega
              · have hye : x.e ∈ ev := by rw [he]; simpa using hr
                have hin := si_in hsi.out.1 hsi.out.2.2 hxs hye
                rw [hp] at hin
                have hnx := Lib.hid (show SI a ev fr (visit F (p : Int)) i (t + 1) ∧ (visit F (p : Int)).getD i 0 = (q : Int) ∧ i < (visit F (p : Int)).length from ⟨hin.1, hin.2.1.trans hsi.out.2.1, hin.2.2⟩)
                clear hx g1 g2 g3 hxs hed hev he hp hfv hr hye hc2 hfl hin
                go_wp2_with fail
                refine (jFind_any _ _ _ _ _ p _ _ _ hsq2.out.sp hpS hSb hsq2.out.bel.size).mono ?_
                rintro e5 w5 ⟨rfl, v', hs', hk'⟩
                have hsq' := Lib.hid (hsq2.out.find hs' hk')
                clear hs' hk'
                go_wp2_with fail
                go_roundw
                case rel => exact ⟨t + 1, v', _, by omega, by go_num, hsq', hnx⟩
                case measure => simp [intOf]; omega
            · obtain rfl : t = D := by omega
              have hnx := Lib.hid (show SI a ev fr F (i + 1) 0 from si_next (by
                have := hsi.out.1
                rw [HD.out, ← hsi.out.2.1] at this
                exact this))
              have hil := hsi.out.2.2
              go_wp2_with fail
              go_roundw
              case rel => exact ⟨i + 1, v, F, by omega, by go_num, hsq, hnx⟩
              case measure => simp [intOf]; omega
        · obtain rfl : i = l := by omega
          have hend := hsi.out
          rw [HL.out] at hend
          have hiff := si_end hend
          have hown : Own wr w.heap.size (.slice Av i cv) F := by rw [HL.out]; exact hsq.out.sp.ow
          have hFl : F.length ≤ 100000 := by rw [← HL.out]; omega
          have hsub : ∀ q ∈ fr, 0 ≤ q ∧ q < a.st := fun q hq => by rw [HS.out]; exact HF.out q hq
          have hres := Lib.hid (reR_of HW.out hsub (srtI_lt hsq.out.sp.nd) (fun q => ((srtI_perm F).mem_iff).trans (hiff q)))
          have z0 : (i : Int) ≤ (i : Int) := by omega
          clear hend hiff hsub
          go_wp2_with fail
          refine (sort_own wr hown hFl).mono ?_
          rintro e5 w5 ⟨rfl, hown5, hgrow5⟩
          have hfb := hsq.out.sp.fb.grown hgrow5 (row_ne_own hsq.out.sp.fb hown (by decide))
          have hlen : (srtI F).length = F.length := srtI_len F
          obtain ⟨hbel⟩ : Nonempty (Below w.heap.size w w5) := ⟨hsq.out.bel.grown hgrow5 hsq.out.bel.size (fun k hk => (hown.lt k hk).1)⟩
          have c5 := hfb.cell 0 rfl
          rw [← HL.out] at c5
          go_wp2_with fail
          go_ret
          exact ⟨_, rfl, by rw [← hres.out]; exact hown5, hbel⟩
end Go.Proofs.YtaadhpkpekmfoaaGreat

/- Layer 7: sets of states as texts, which are the keys of a map of the sets that have been found. -/
namespace Go.Proofs.YtaadhpkpekmfoaaGreat
open Go.RowKit Go.Sort Go.Maps Go.WideMaps

/-- The numbers of the bytes of a set's text. -/
def keyL (s : List Int) : List Int := s.flatMap fun x => [x / 256, x % 256]
theorem keyL_nil : keyL [] = [] := rfl
theorem keyL_cons (x : Int) (s : List Int) : keyL (x :: s) = x / 256 :: x % 256 :: keyL s := rfl
theorem keyL_snoc (s : List Int) (x : Int) : keyL (s ++ [x]) = keyL s ++ [x / 256, x % 256] := by simp [keyL]
theorem keyL_len (s : List Int) : (keyL s).length = 2 * s.length := by
  induction s with
  | nil => rfl
  | cons x s ih => rw [keyL_cons, List.length_cons, List.length_cons, List.length_cons, ih]; omega
/-- A set whose states have at most sixteen bits. -/
def OkK (s : List Int) : Prop := ∀ x ∈ s, 0 ≤ x ∧ x < 65536
def byt (s : List Int) : List UInt8 := (keyL s).map fun n => UInt8.ofNat n.toNat
theorem byt_str (s : List Int) : (strOfNums (keyL s)).data.toList = byt s := strOfNums_data _
theorem u8_inj {x y : Int} (hx : 0 ≤ x ∧ x < 256) (hy : 0 ≤ y ∧ y < 256) (h : UInt8.ofNat x.toNat = UInt8.ofNat y.toNat) : x = y := by
  have h1 := congrArg UInt8.toNat h
  rw [UInt8.toNat_ofNat', UInt8.toNat_ofNat'] at h1
  omega
theorem byt_inj : ∀ {s t : List Int}, OkK s → OkK t → byt s = byt t → s = t
  | [], [], _, _, _ => rfl
  | [], y :: t, _, _, h => by simp [byt, keyL_cons, keyL_nil] at h
  | x :: s, [], _, _, h => by simp [byt, keyL_cons, keyL_nil] at h
  | x :: s, y :: t, hs, ht, h => by
    simp only [byt, keyL_cons, List.map_cons, List.cons.injEq] at h
    obtain ⟨h1, h2, h3⟩ := h
    have hx := hs x (by simp)
    have hy := ht y (by simp)
    have e1 := u8_inj (by omega) (by omega) h1
    have e2 := u8_inj (by omega) (by omega) h2
    have e3 := byt_inj (fun z hz => hs z (List.mem_cons_of_mem _ hz)) (fun z hz => ht z (List.mem_cons_of_mem _ hz)) h3
    rw [e3, show x = y by omega]
def KS (s : List Int) : Lit := .string (byt s)
theorem KS_inj {s t : List Int} (hs : OkK s) (ht : OkK t) (h : KS s = KS t) : s = t := byt_inj hs ht (by injection h)
theorem lawStr : Keyed Tryz.prog 9 := string_keyed Tryz.underlying9
theorem key_set {s : List Int} (h : s.length ≤ 100000) : keyOf Tryz.prog 9 (.string (strOfNums (keyL s))) = some (KS s) := by
  have := keyOf_string_mk (P := Tryz.prog) Tryz.underlying9 (s := strOfNums (keyL s)) (by rw [strOfNums_size, keyL_len]; unfold maxLen; omega)
  rw [this, byt_str]; rfl
theorem KS_key {s : List Int} (h : s.length ≤ 100000) : WideAt.IsKeyLit (KS s) := lawStr.key (key_set h)
/-- The map of the sets that have been found, with their numbers. -/
def mpS (ts : List (List Int)) : DataW Unit := ts.zipIdx.foldl (fun D p => D.put (KS p.1) (.lit (.int .i64 (p.2 : Int)))) (.map [])
theorem mpS_snoc (ts : List (List Int)) (t : List Int) : mpS (ts ++ [t]) = (mpS ts).put (KS t) (.lit (.int .i64 (ts.length : Int))) := by
  unfold mpS
  rw [List.zipIdx_append, List.foldl_append]
  simp
theorem mpS_isMap (ts : List (List Int)) : IsMap (mpS ts) := by
  have key : ∀ (l : List (List Int × Nat)) (D : DataW Unit), IsMap D → IsMap (l.foldl (fun D p => D.put (KS p.1) (.lit (.int .i64 (p.2 : Int)))) D) := by
    intro l
    induction l with
    | nil => intro D h; exact h
    | cons p l ih =>
      intro D h
      refine ih _ ?_
      obtain ⟨es, rfl⟩ := h
      exact ⟨_, rfl⟩
  exact key _ _ ⟨_, rfl⟩
theorem snocIndS {α : Type} {P : List α → Prop} (h0 : P []) (h1 : ∀ l a, P l → P (l ++ [a])) (l : List α) : P l := by
  have : ∀ l : List α, P l.reverse := by
    intro l
    induction l with
    | nil => exact h0
    | cons a l ih => rw [List.reverse_cons]; exact h1 _ _ ih
  have h := this l.reverse
  rwa [List.reverse_reverse] at h
/-- A set that can be a key. -/
def SKey (s : List Int) : Prop := OkK s ∧ s.length ≤ 100000
theorem mpS_reads (ts : List (List Int)) : (∀ t ∈ ts, SKey t) → ts.Nodup → ∀ t, SKey t → Maps.has (mpS ts) (KS t) = decide (t ∈ ts) ∧ (mpS ts).atKey (KS t) (.lit (.int .i64 0)) = .lit (.int .i64 (if t ∈ ts then (ts.idxOf t : Int) else 0)) := by
  refine snocIndS (P := fun ts => (∀ t ∈ ts, SKey t) → ts.Nodup → ∀ t, SKey t → Maps.has (mpS ts) (KS t) = decide (t ∈ ts) ∧ (mpS ts).atKey (KS t) (.lit (.int .i64 0)) = .lit (.int .i64 (if t ∈ ts then (ts.idxOf t : Int) else 0))) ?_ ?_ ts
  · intro _ _ t _
    exact ⟨rfl, rfl⟩
  · intro ts u ih hv hn t ht
    have hvu : SKey u := hv u (by simp)
    have hn' := List.nodup_append.1 hn
    have hu : u ∉ ts := fun hc => hn'.2.2 u hc u (by simp) rfl
    have := ih (fun t h => hv t (by simp [h])) hn'.1 t ht
    rw [mpS_snoc]
    by_cases htu : t = u
    · subst htu
      refine ⟨?_, ?_⟩
      · rw [has_put_same (mpS_isMap ts) (KS_key hvu.2)]; simp
      · rw [atKey_put_same (mpS_isMap ts) (KS_key hvu.2)]
        simp [List.idxOf_append, hu]
    · have hne : KS t ≠ KS u := fun h => htu (KS_inj ht.1 hvu.1 h)
      rw [has_put_other hne, atKey_put_other hne, this.1, this.2]
      by_cases hm : t ∈ ts
      · simp [hm, List.idxOf_append]
      · simp [hm, htu]
end Go.Proofs.YtaadhpkpekmfoaaGreat

/- Layer 7: textOf: the text of a set of states. -/
namespace Go.Proofs.YtaadhpkpekmfoaaGreat
open Go.RowKit Go.Sort Go.Maps

theorem info_u8j : (Tryz.prog.info? 5).map (fun i => (i.zero, i.size, i.bytes)) = some (some (.int .u8 0), 1, 1) := by kernel_rfl
abbrev OwnBy (w : World) (base : Nat) (v : Value) (zs : List Int) : Prop := w.ownsRow base 5 1 v zs.length (zs.map (Value.int .u8))
theorem make_bytes0 (N : Nat) (hN : N ≤ 1000000) (w : World) :
    (Instr.makeSlice 158 (.int .i64 0) (.int .i64 (N : Int))).run Tryz.prog w = .ok (.slice (some ⟨w.heap.size, 0, none⟩) 0 N) (w.alloc (.cells (List.replicate N (Value.int .u8 0)).toArray 5)) := by
  obtain ⟨i0, hi, hz0, hz1, hz2⟩ := info_parts info_u8j
  have := run_make_rowN 158 5 i0 (.int .u8 0) Tryz.underlying158 hi hz0 .i64 .i64 0 N (Nat.zero_le _) (by rw [hz2]; omega) (by omega) w
  rw [show (((0 : Nat) : Int)) = 0 from rfl] at this
  rw [this, hz1, Nat.mul_one]
  have e : madeCells (Value.int .u8 0).cells N = (List.replicate N (Value.int .u8 0)).toArray := by
    rw [← toList_madeCells_one (.int .u8 0) N]; simp [Value.cells]
  rw [e]
theorem own_shapeS {w : World} {base sz n : Nat} {e : TypeId} {v : Value} {xs : List Value} (h : w.ownsRow base e sz v n xs) : ∃ A c, v = .slice A n c := by
  rcases h.2 with ⟨rfl, rfl⟩ | ⟨g, cap, cur, rfl, _⟩
  · exact ⟨none, 0, rfl⟩
  · exact ⟨_, _, rfl⟩
theorem keyL_take {zs : List Int} {k : Nat} (h : k < zs.length) : keyL (zs.take (k + 1)) = keyL (zs.take k) ++ [zs.getD k 0 / 256, zs.getD k 0 % 256] := by
  rw [List.take_succ_eq_append_getElem h, keyL_snoc]
  simp [List.getD, List.getElem?_eq_getElem h]
set_option maxRecDepth 100000 in
theorem conv_text {W : World} {base : Nat} {A : Option Addr} {n c : Nat} {ks : List Int} (h : W.ownsRow base 5 1 (.slice A n c) n (ks.map (Value.int .u8))) (hA : A ≠ none) : (convert 158 9 (.slice A n c)).run Tryz.prog W = .ok (.string (strOfNums ks)) W := by
  have hl : ks.length = n := by have := h.1; simpa using this
  rcases h.2 with ⟨h1, _⟩ | ⟨g, cap, cur, h1, hb, hg, hn, hcap, hsz, htake⟩
  · injection h1 with h1; exact absurd h1 hA
  · injection h1 with h1 _ h2; subst h1 h2
    refine run_convert_bytes_arg W 158 5 Tryz.underlying158 Tryz.underlying5 g 0 n c ks hl (fun i hi => ?_) 9 Tryz.underlying9
    rw [Nat.zero_add, World.ownsRow.cellAt h i (by omega), List.getElem?_map, List.getElem?_eq_getElem (by omega)]
    simp [List.getD, List.getElem?_eq_getElem (show i < ks.length by omega)]
set_option maxHeartbeats 4000000 in
set_option maxRecDepth 100000 in
theorem jText_any (A : Option Addr) (n c : Nat) (zs : List Int) (w : World) (hx : RdI w w.heap.size A zs) (hn : zs.length = n) (hb : n ≤ 100000) (hok : OkK zs) :
    Calls Tryz.prog 89 #[.slice A n c] w fun e w' => e = .returned (.string (strOfNums (keyL zs))) ∧ Below w.heap.size w w' := by
  have hmk := make_bytes0 (2 * n) (by omega)
  have hm2 : IntKind.i64.wrap (2 * (n : Int)) = ((2 * n : Nat) : Int) := by
    rw [show (2 * (n : Int)) = ((2 * n : Nat) : Int) by omega]; simp [IntKind.wrap, IntKind.bits, IntKind.signed]; omega
  obtain ⟨N, hN⟩ : ∃ N, N = 2 * n := ⟨_, rfl⟩
  rw [← hN] at hmk hm2
  have HN2 := Lib.hid hN
  have HX := Lib.hid hx
  have HN := Lib.hid hn
  have HK := Lib.hid hok
  have HB0 := Lib.hid ((Below.refl w.heap.size w).alloc (Nat.le_refl _) (.cells (List.replicate N (Value.int .u8 0)).toArray 5))
  have HO0 := Lib.hid (World.ownsRow_made (e := 5) (size := 1) w (List.replicate N (Value.int .u8 0)).toArray N (Nat.le_refl w.heap.size) (by unfold maxLen; omega) (by simp))
  obtain ⟨i0, hi, hz0, hz1, hz2⟩ := info_parts info_u8j
  have HI := Lib.hid hi
  have HZ := Lib.hid (show i0.zero = some (.int .u8 0) ∧ i0.size = 1 ∧ i0.bytes = 1 from ⟨hz0, hz1, hz2⟩)
  clear hx hn hok hN hi hz0 hz1 hz2
  simp only [List.toArray_replicate] at hmk HB0 HO0
  go_enter Tryz.func89, Tryz.ntmps89
  go_wp2_with fail
  go_loopw [3, 12] (fun tv iv wr => ∃ (k : Nat) (A' : Option Addr) (c' : Nat), k ≤ n ∧ iv = .int .i64 k ∧ tv = .slice A' (2 * k) c' ∧ A' ≠ none ∧ Hid (wr.ownsRow w.heap.size 5 1 (.slice A' (2 * k) c') (2 * k) ((keyL (zs.take k)).map (Value.int .u8))) ∧ Hid (Below w.heap.size w wr)) (fun _ i _ => n - (intOf i).toNat)
  case atStart => exact ⟨0, _, _, Nat.zero_le _, rfl, rfl, by simp, HO0, HB0⟩
  case round =>
    clear HO0 HB0 hmk
    obtain ⟨k, A', c', hk, rfl, rfl, hA, ho, hbel⟩ := hrel
    by_cases hlt : k < n
    · obtain ⟨b, o, rfl, hb, hc⟩ := HX.out (by rw [HN.out]; omega)
      have hz : k < zs.length := by rw [HN.out]; exact hlt
      have hc1 := (hbel.out.cell (p := ⟨b, o + k, none⟩) hb).trans (hc k hz)
      have hxk := HK.out _ (getD_mem hz)
      have hsn := Lib.hid (keyL_take hz)
      obtain ⟨x, hx⟩ : ∃ x, x = zs.getD k 0 := ⟨_, rfl⟩
      rw [← hx] at hc1 hxk hsn
      have z0 : (k : Int) < (n : Int) := by omega
      have z1 : (0 : Int) ≤ (k : Int) := by omega
      clear hc hz hx
      have hkz : (keyL (zs.take k)).length = 2 * k := by rw [keyL_len, List.length_take, HN.out]; omega
      go_wp2_with (at_builtin; refine wpList_append_own _ rfl (.tmp 16) (.tmp 22) 158 rfl w.heap.size 5 i0 (.int .u8 0) 1 1 Tryz.underlying158 HI.out HZ.out.1 HZ.out.2.1 HZ.out.2.2 rfl (by omega) _ (2 * k) ((keyL (zs.take k)).map (Value.int .u8)) rfl (ho.out.alloc _) ⟨wr.heap.size, 0, none⟩ 2 2 [.int .u8 (x / 256), .int .u8 (x % 256)] rfl rfl (World.news_of_block (cs := #[.int .u8 (x / 256), .int .u8 (x % 256)]) (t := 5) (fr := (0, 0)) (heap_alloc_new wr _)) (by simp [Value.oneCell']) (by unfold maxLen; omega) (by omega) (by have := hbel.out.size; simp; omega) ?_; intro v4 w4 ho4 hg4 hnil)
      obtain ⟨A4, c4, hv4⟩ := own_shapeS ho4
      subst hv4
      have HO4 := Lib.hid ho4
      have HG4 := Lib.hid (show (wr.alloc (.cells #[.int .u8 (x / 256), .int .u8 (x % 256)] 5)).grownBy w4 (Value.slice A' (2 * k) c').ownBlock from hg4)
      have hA4 : A4 ≠ none := fun e => by
        subst e
        rcases ho4.2 with ⟨h1, h2⟩ | ⟨g, _, _, h1, _⟩
        · omega
        · cases h1
      clear ho4 hg4 hnil
      go_wp2_with fail
      go_roundw
      case rel =>
        refine ⟨k + 1, A4, c4, by omega, by go_num, by rw [show 2 * (k + 1) = 2 * k + 2 by omega], hA4, ?_, Lib.hid ?_⟩
        · have h1 := HO4.out
          rw [show (keyL (zs.take k)).map (Value.int .u8) ++ [Value.int .u8 (x / 256), Value.int .u8 (x % 256)] = (keyL (zs.take (k + 1))).map (Value.int .u8) by rw [hsn.out]; simp] at h1
          exact Lib.hid h1
        · exact (hbel.out.alloc hbel.out.size _).grown HG4.out (by have := hbel.out.size; simp; omega) (fun j hj => (ho.out.lt j hj).1)
      case measure => simp [intOf]; omega
    · obtain rfl : k = n := by omega
      have hF0 : zs.take k = zs := List.take_of_length_le (by rw [HN.out]; exact Nat.le_refl _)
      rw [hF0] at ho
      have hcv := conv_text ho.out hA
      clear hF0
      go_wp2_with fail
      go_ret
      exact ⟨rfl, hbel.out⟩
end Go.Proofs.YtaadhpkpekmfoaaGreat

/- Layer 3: generated of the program makes the words in their order. -/
namespace Go.Proofs.YtaadhpkpekmfoaaGreat
open Go.RowKit Go.Sort

/-- What generated hands back. -/
def GenR (w : World) (R : Option (List (List Int × Int))) (e : Ending) (w' : World) : Prop :=
  (R = none ∧ e = .returned (.tuple #[.slice none 0 0, .slice none 0 0, .int .i64 3])) ∨
  (∃ vw ve hs es L, R = some L ∧ e = .returned (.tuple #[vw, ve, .int .i64 0]) ∧ GL w' w.heap.size vw hs ve es ∧ hs.map Hd.z = L.map Prod.fst ∧ es = L.map Prod.snd ∧ L.length ≤ 1024 ∧ (∀ x ∈ hs, x.z.length ≤ 4096))
theorem wordmap_at {hs : List Hd} {L : List (List Int × Int)} (h : hs.map Hd.z = L.map Prod.fst) {j : Nat} {x : Hd} (hx : hs[j]? = some x) : x.z = (L.getD j ([], 0)).1 := by
  have h1 : (hs.map Hd.z)[j]? = some x.z := by rw [List.getElem?_map, hx]; rfl
  rw [h, List.getElem?_map] at h1
  cases hL : L[j]? with
  | none => rw [hL] at h1; simp at h1
  | some p => rw [hL] at h1; simp at h1; simp [List.getD, hL, h1]
theorem endmap_at {es : List Int} {L : List (List Int × Int)} (h : es = L.map Prod.snd) (j : Nat) (hj : j < L.length) : es.getD j 0 = (L.getD j ([], 0)).2 := by
  subst h
  simp [List.getD, List.getElem?_eq_getElem hj]
theorem getD_memP {L : List (List Int × Int)} {j : Nat} (h : j < L.length) : L.getD j ([], 0) ∈ L := by
  simp [List.getD, List.getElem?_eq_getElem h]
theorem ext_take {a : Au} {p : List Int × Int} {t : Nat} {x : Ed} (h : (succ a.ed p.2)[t]? = some x) : (extW a p).take (t + 1) = (extW a p).take t ++ [(p.1 ++ [x.e], x.t)] := by
  unfold extW
  rw [← List.map_take, ← List.map_take, take_succ_ed h, List.map_append]; rfl

set_option maxHeartbeats 4000000 in
set_option maxRecDepth 100000 in
theorem generated_any (A : Option Addr) (n c : Nat) (s : Int) (M : Option Addr) (m d : Nat) (E : Option Addr) (k g : Nat) (a : Au) (S : Nat) (most : Int) (w : World) (h : AuR w w.heap.size A n c s M m d E k g a) (hr : RightW a) (hS : s = (S : Int)) (hS0 : 0 < S) (hSb : S ≤ 5000) (hm0 : 0 ≤ most) (hm1 : most ≤ 4096) :
    Calls Tryz.prog 74 #[.agg #[.slice A n c, .int .i64 s, .slice M m d, .slice E k g], .int .i64 most] w fun e w' => GenR w (genO a most) e w' ∧ Below w.heap.size w w' := by
  have hst := h.st
  subst hS
  have HR := Lib.hid h
  have HRI := Lib.hid hr
  have HST := Lib.hid hst
  have HA := Lib.hid (Row.new w [.slice A n c, .int .i64 (S : Int), .slice M m d, .slice E k g] 33)
  have HB1 := Lib.hid ((Below.refl w.heap.size w).alloc (Nat.le_refl _) (.cells #[.slice A n c, .int .i64 (S : Int), .slice M m d, .slice E k g] 33))
  obtain ⟨iI, iI0, iI1, iI2, iI3⟩ := info_parts info_int
  obtain ⟨iL, iL0, iL1, iL2, iL3⟩ := info_parts info_ints
  have hbk := h.bk
  have hhk := h.hk
  have hdS : ((S : Int) == 0) = false := by simp; omega
  have HES := Lib.hid (fun W (hw : Below w.heap.size w W) => edgeStarts_any A n c (S : Int) M m d E k g a S w.heap.size W (h.below hw (Nat.le_refl _)) hw.size rfl hSb (fun x hx => (hr.edr x hx).1))
  obtain ⟨R, hRdef⟩ : ∃ R, R = genO a most := ⟨_, rfl⟩
  rw [← hRdef]
  have HG0 := Lib.hid (show genF a most 1026 0 [([], 0)] = R by rw [hRdef, genO, if_neg (by omega)])
  clear h hst hr hRdef
  go_enter Tryz.func74, Tryz.ntmps74
  go_wp2_with fail
  refine (HES.out _ HB1.out).mono ?_
  rintro e w2 ⟨gS, rfl, hgS, hrS, hbw⟩
  have hB2 := Lib.hid (HB1.out.trans (hbw.mono (by simp)))
  have hA2 := Lib.hid (HA.out.below hbw (by simp))
  have hS2 := Lib.hid hrS
  have hz := hbw.size
  simp only [World.size_alloc] at hz hgS
  have hgS2 := hrS.lt
  clear hrS hbw HES
  have hGL := Lib.hid (show GL (((w2.alloc (.cells #[] 3)).alloc (.cells #[.slice (some ⟨w2.heap.size, 0, none⟩) 0 0] 27)).alloc (.cells #[.int .i64 0] 3)) w2.heap.size (.slice (some ⟨w2.heap.size + 1, 0, none⟩) 1 1) [⟨some ⟨w2.heap.size, 0, none⟩, 0, []⟩] (.slice (some ⟨w2.heap.size + 1 + 1, 0, none⟩) 1 1) [0] from by
    refine ⟨?_, fun y hy => ?_, ?_, fun y hy => ?_⟩
    · have := (World.ownsRow_lit (base := w2.heap.size) (size := 1) (e := 27) (w2.alloc (.cells #[] 3)) #[.slice (some ⟨w2.heap.size, 0, none⟩) 0 0] 1 (by simp) (by unfold maxLen; omega) rfl).alloc (.cells #[.int .i64 0] 3)
      simpa [Hd.enc] using this
    · rw [List.mem_singleton] at hy; subst hy
      have := ((World.ownsRow_lit (base := w2.heap.size) (size := 1) (e := 3) w2 #[] 0 (Nat.le_refl _) (by unfold maxLen; omega) rfl).alloc (.cells #[.slice (some ⟨w2.heap.size, 0, none⟩) 0 0] 27)).alloc (.cells #[.int .i64 0] 3)
      simpa [Own, Hd.enc] using this
    · have := World.ownsRow_lit (base := w2.heap.size) (size := 1) (e := 3) ((w2.alloc (.cells #[] 3)).alloc (.cells #[.slice (some ⟨w2.heap.size, 0, none⟩) 0 0] 27)) #[.int .i64 0] 1 (by simp; omega) (by unfold maxLen; omega) rfl
      simpa [Own] using this
    · rw [List.mem_singleton] at hy; subst hy
      exact .inr (by simp [Hd.enc, Value.ownBlock]; omega))
  have hB3 := Lib.hid ((((Below.refl w2.heap.size w2).alloc (Nat.le_refl _) (.cells #[] 3)).alloc (by simp) (.cells #[.slice (some ⟨w2.heap.size, 0, none⟩) 0 0] 27)).alloc (by simp; omega) (.cells #[.int .i64 0] 3))
  go_wp2_with fail
  go_loopw [4, 5, 8] (fun vw ve i wr => ∃ (n0 : Nat) (hs : List Hd) (es : List Int) (L : List (List Int × Int)), i = .int .i64 n0 ∧ n0 ≤ 1024 ∧ Hid (Below w2.heap.size w2 wr) ∧ Hid (GL wr w2.heap.size vw hs ve es) ∧ Hid (hs.map Hd.z = L.map Prod.fst) ∧ Hid (es = L.map Prod.snd) ∧ Hid (1 ≤ L.length ∧ L.length ≤ 1024 ∧ n0 ≤ L.length) ∧ Hid (∀ p ∈ L, 0 ≤ p.2 ∧ p.2 < a.st) ∧ Hid (∀ p ∈ L, p.1.length ≤ 4096) ∧ Hid (genF a most (1026 - n0) n0 L = R)) (fun _ _ i _ => 1025 - (intOf i).toNat)
  case atStart =>
    refine ⟨0, _, _, [([], 0)], rfl, Nat.zero_le _, hB3, hGL, rfl, rfl, ⟨by simp, by simp, by simp⟩, ?_, ?_, HG0⟩
    · intro p hp; rw [List.mem_singleton] at hp; subst hp; rw [HST.out]; omega
    · intro p hp; rw [List.mem_singleton] at hp; subst hp; simp
  case round =>
    clear hGL hB3 HG0
    obtain ⟨n0, hs, es, L, rfl, hn0, hbel, hgl, hmw, hme, hlen, hrg, hwl, hgf⟩ := hrel
    obtain ⟨N1, hN1⟩ : ∃ N1, N1 = L.length := ⟨_, rfl⟩
    have HN1 := Lib.hid hN1
    have hl1 := hlen.out
    rw [← hN1] at hl1
    have hhs : hs.length = N1 := by have := congrArg List.length hmw.out; simpa [← hN1] using this
    have hes : es.length = N1 := by rw [hme.out, List.length_map, hN1]
    obtain ⟨gW, cW, rfl, hcW1, hcW2, hcW3⟩ := hgl.out.len hhs (by omega)
    obtain ⟨gE, cE, rfl, hgE, hcE, hcap, hcap2⟩ := own_shape hgl.out.ends hes.symm (by omega)
    have HcE := Lib.hid hcE
    have HcW3 := Lib.hid hcW3
    have hgl' := hgl
    have hfin := Lib.hid (show GL wr w.heap.size _ hs _ es from hgl.out.base hB2.out.size)
    have hwl2 := Lib.hid (show ∀ x ∈ hs, x.z.length ≤ 4096 from fun x hx => by
      obtain ⟨j, hj⟩ := List.mem_iff_getElem?.1 hx
      have hj2 : j < L.length := by have := (List.getElem?_eq_some_iff.1 hj).1; rw [hhs, HN1.out] at this; exact this
      rw [wordmap_at hmw.out hj]
      exact hwl.out _ (getD_memP hj2))
    clear hN1 hcE hcW3 hgl
    by_cases hlt : n0 < N1
    · obtain ⟨x, hx⟩ : ∃ x, hs[n0]? = some x := ⟨_, List.getElem?_eq_getElem (by omega)⟩
      have hcx := HcW3.out n0 x hx
      have hxz := wordmap_at hmw.out hx
      have hp := getD_memP (L := L) (j := n0) (by rw [← HN1.out]; exact hlt)
      obtain ⟨p, hpp⟩ : ∃ p, p = L.getD n0 ([], 0) := ⟨_, rfl⟩
      rw [← hpp] at hxz hp
      have hpl := hwl.out p hp
      have hpr := hrg.out p hp
      have HPP := Lib.hid hpp
      obtain ⟨hxr, hxc1, hxc2⟩ := hgl'.out.word_rd hx
      have HX := Lib.hid hx
      have HXR := Lib.hid hxr
      obtain ⟨Ax, cx, zx⟩ := x
      simp only [Hd.enc] at hcx hxz hxc1 hxc2
      obtain ⟨lx, hlx⟩ : ∃ lx, lx = zx.length := ⟨_, rfl⟩
      have HLX := Lib.hid hlx
      rw [← hlx] at hcx hxc1
      have hlx2 : lx ≤ 4096 := by rw [hlx, hxz]; exact hpl
      have HXZ := Lib.hid hxz
      clear hlx hx hxr hxz hpp
      by_cases hml : (lx : Int) < most
      · obtain ⟨Q, hQ⟩ : ∃ Q : Nat, p.2 = (Q : Int) := ⟨p.2.toNat, by omega⟩
        have hQS : Q < S := by rw [HST.out] at hpr; omega
        have c1 := HcE.out n0 hlt
        rw [endmap_at hme.out n0 (by rw [← HN1.out]; exact hlt), ← HPP.out, hQ] at c1
        have HQ := Lib.hid hQ
        obtain ⟨Q1, hQ1⟩ : ∃ Q1, Q1 = Q + 1 := ⟨_, rfl⟩
        have hQ1j : Q1 < S + 1 := by omega
        have hSr := hS2.out.below hbel.out hgS2
        have hAr := hA2.out.below hbel.out (by omega)
        have c2 := hSr.int (j := Q) (by rw [startL_len]; omega)
        rw [startL_at (by omega)] at c2
        have c3 := hSr.int (j := Q1) (by rw [startL_len]; omega)
        rw [startL_at (by omega)] at c3
        have c4 := hAr.cell 3 rfl
        have hsl := succ_len HRI.out.edo Q
        rw [← hQ1] at hsl
        have hmo := startN_mono a.ed Q
        rw [← hQ1] at hmo
        have hle := startN_le a.ed Q1
        rw [HR.out.hk] at hle
        have hat := Lib.hid (succ_at HRI.out.edo Q)
        rw [← hQ1] at hat
        obtain ⟨lo, hlo⟩ : ∃ lo, lo = startN a.ed Q := ⟨_, rfl⟩
        obtain ⟨hi, hhi⟩ : ∃ hi, hi = startN a.ed Q1 := ⟨_, rfl⟩
        rw [← hlo] at c2 hsl hmo hat
        rw [← hhi] at c3 hsl hmo hat hle
        have hwr : IntKind.i64.wrap ((Q : Int) + 1) = (Q1 : Int) := by rw [IntWalk.i64_in _ (by omega)]; omega
        have hkg := HR.out.ck.1
        have hkg2 := HR.out.ck.2
        have j0 : (0 : Int) ≤ (Q1 : Int) := by omega
        have j1 : (Q1 : Int) < (S : Int) + 1 := by omega
        have j2 : (Q : Int) < (S : Int) + 1 := by omega
        have j3 : (lo : Int) ≤ (hi : Int) := by omega
        have j4 : (hi : Int) ≤ (g : Int) := by omega
        obtain ⟨N, hN⟩ : ∃ N, N = hi - lo := ⟨_, rfl⟩
        have hNi : (hi : Int) - (lo : Int) = (N : Int) := by omega
        rw [← hN] at hsl hat
        have hNb : N ≤ 1000000 := by omega
        have HNN := Lib.hid hN
        have HNI := Lib.hid hNi
        have HSL := Lib.hid hsl
        have HED := Lib.hid HR.out.ed
        clear hQ hQ1 hlo hhi hsl hN hNi hSr hAr
        go_wp2_with fail
        go_upto_region 8 with fail
        go_cut [51, 52, 53] from 19 to 77 (fun v1 v2 v3 wx => ∃ (E1 : Option Addr) (c1 : Nat), v1 = .slice E1 N c1 ∧ v2 = .int .i64 (N : Int) ∧ v3 = .int .i64 0 ∧ Hid (RdG w w.heap.size E1 (succ a.ed (Q : Int))) ∧ Hid (Below w2.heap.size w2 wx) ∧ Hid (GL wx w2.heap.size (.slice (some ⟨gW, 0, none⟩) N1 cW) hs (.slice (some ⟨gE, 0, none⟩) N1 cE) es))
        case first =>
          by_cases hne : lo < hi
          · obtain ⟨bE, oE, rfl, hbE, hcE⟩ := HED.out (by omega)
            have hgl : ¬ g = lo := by omega
            have hrd := Lib.hid (show RdG w w.heap.size (some ⟨bE, oE + lo * 3, none⟩) (succ a.ed (Q : Int)) from fun _ => ⟨bE, oE + lo * 3, rfl, hbE, fun t x hx => by
              have htN : t < N := by have := (List.getElem?_eq_some_iff.1 hx).1; rw [HSL.out] at this; exact this
              rw [hat.out t htN] at hx
              have := hcE (lo + t) x hx
              rwa [show oE + (lo + t) * 3 = oE + lo * 3 + t * 3 by omega] at this⟩)
            clear hcE
            go_wp2_with fail
            go_quiet (fail)
            go_wp2_with fail
            go_meet
            case rel => exact ⟨_, _, by rw [HNN.out], by first | rfl | exact congrArg (Value.int .i64) (by have := HNI.out; omega), rfl, hrd, Lib.hid (below_drewN hbel.out nq), Lib.hid (hgl'.out.drewN nq)⟩
          · have hN0 : N = 0 := by rw [HNN.out]; omega
            have hrd := Lib.hid (show ∀ E1, RdG w w.heap.size E1 (succ a.ed (Q : Int)) from fun E1 h => by rw [HSL.out] at h; omega)
            obtain rfl : hi = lo := by omega
            rcases E with _ | ⟨bE, oE, fE⟩
            · go_wp2_with fail
              go_quiet (fail)
              go_wp2_with fail
              go_meet
              case rel => exact ⟨_, _, by rw [hN0], by first | rfl | exact congrArg (Value.int .i64) (by omega), rfl, hrd.out _, Lib.hid (below_drewN hbel.out nq), Lib.hid (hgl'.out.drewN nq)⟩
            · by_cases hgl : g = hi
              all_goals
                go_wp2_with fail
                go_quiet (fail)
                go_wp2_with fail
                go_meet
                case rel => exact ⟨_, _, by rw [hN0], by first | rfl | exact congrArg (Value.int .i64) (by omega), rfl, hrd.out _, Lib.hid (below_drewN hbel.out nq), Lib.hid (hgl'.out.drewN nq)⟩
        case rest =>
          clear hbel hgl'
          obtain ⟨E1, c1, rfl, rfl, rfl, hrd, hbel, hgl'⟩ := hcut
          have hlim := Lib.hid (fun (h : 1024 < N1 + N) => genF_limit hgf.out (by omega) (by rw [← HPP.out, ← HXZ.out, ← HLX.out, ← HN1.out]; exact ⟨hlt, hml⟩) (by rw [← HPP.out, ← HN1.out]; unfold extW; rw [List.length_map, HQ.out, HSL.out]; exact h))
          have hgo := Lib.hid (fun (h : N1 + N ≤ 1024) => genF_go hgf.out (by omega) (by rw [← HPP.out, ← HXZ.out, ← HLX.out, ← HN1.out]; exact ⟨hlt, hml⟩) (by rw [← HPP.out, ← HN1.out]; unfold extW; rw [List.length_map, HQ.out, HSL.out]; exact h))
          rw [← HPP.out] at hgo
          have hlx3 : lx + 1 ≤ 4096 := by omega
          clear c2 c3 c4 hwr hat j0 j1 j2 j3 j4 HED hcx hxc1 hxc2 HXR HcE HcW3 hcap hcap2 hcW1 hcW2 hgE hfin hwl2 hgf hml
          go_wp2_with fail
          go_loopw [4, 5, 53] (fun vw ve i wr => ∃ (t : Nat) (hs : List Hd) (es : List Int), i = .int .i64 t ∧ t ≤ N ∧ N1 + t ≤ 1024 ∧ Hid (Below w2.heap.size w2 wr) ∧ Hid (GL wr w2.heap.size vw hs ve es) ∧ Hid (hs.map Hd.z = (L ++ (extW a p).take t).map Prod.fst) ∧ Hid (es = (L ++ (extW a p).take t).map Prod.snd) ∧ Hid (hs[n0]? = some ⟨Ax, cx, zx⟩)) (fun _ _ i _ => N - (intOf i).toNat)
          case atStart => exact ⟨0, hs, es, rfl, Nat.zero_le _, hl1.2.1, hbel, hgl', by rw [List.take_zero, List.append_nil]; exact hmw, by rw [List.take_zero, List.append_nil]; exact hme, HX⟩
          case round =>
            clear hbel hgl' hmw hme HX hhs hes
            obtain ⟨t, hs, es, rfl, htN, ht1, hbel, hgl, hmw, hme, hX⟩ := hrel
            have hLx : (L ++ (extW a p).take t).length = N1 + t := by
              rw [List.length_append, List.length_take, ← HN1.out]; unfold extW; rw [List.length_map, HQ.out, HSL.out]; omega
            obtain ⟨M1, hM1⟩ : ∃ M1, M1 = N1 + t := ⟨_, rfl⟩
            rw [← hM1] at hLx
            have hhs : hs.length = M1 := by have := congrArg List.length hmw.out; rw [List.length_map, List.length_map, hLx] at this; exact this
            have hes : es.length = M1 := by rw [hme.out, List.length_map, hLx]
            obtain ⟨gW, cW, rfl, hcW1, hcW2, hcW3⟩ := hgl.out.len hhs (by omega)
            obtain ⟨gE, cE, rfl, hgE, hcE, hcap, hcap2⟩ := own_shape hgl.out.ends hes.symm (by omega)
            have hcx := hcW3 n0 _ hX.out
            obtain ⟨hxr, hxc1, hxc2⟩ := hgl.out.word_rd hX.out
            simp only [Hd.enc] at hcx
            rw [← HLX.out] at hcx
            have hM0 : n0 < M1 := by omega
            have HHS := Lib.hid hhs
            have HES := Lib.hid hes
            have HM1 := Lib.hid hM1
            have hM2 : M1 ≤ 1024 := by omega
            clear hcE hcW3 hLx hM1 hhs hes hxc1 hxc2
            by_cases htl : t < N
            · obtain ⟨bE, oE, rfl, hbE, hcE⟩ := hrd.out (by rw [HSL.out]; omega)
              obtain ⟨x, hx⟩ : ∃ x, (succ a.ed (Q : Int))[t]? = some x := ⟨_, List.getElem?_eq_getElem (by rw [HSL.out]; omega)⟩
              have hxr2 : EdAt wr bE (oE + t * 3) x := (hcE t x hx).keep fun o => (hB2.out.trans (hbel.out.mono hB2.out.size)).cell (p := ⟨bE, o, none⟩) hbE
              have hex := Lib.hid (ext_take (a := a) (p := p) (t := t) (x := x) (by rw [HQ.out]; exact hx))
              obtain ⟨xf, xe, xt⟩ := x
              obtain ⟨z0, z1, z2⟩ := hxr2
              have hHX := Lib.hid hxr
              clear hcE hx hxr
              by_cases hM3 : M1 = 1024
              · have hRv := Lib.hid (hlim.out (by have := HM1.out; omega))
                have hbm : ((M1 : Int) == 1024) = true := by simp [hM3]
                go_wp2_with fail
                go_ret3
                exact ⟨.inl ⟨hRv.out, rfl⟩, hB2.out.trans ((hbel.out.alloc hbel.out.size _).mono hB2.out.size)⟩
              · have hbm : ((M1 : Int) == 1024) = false := by simp; omega
                go_upto_region 13 with fail
                have hgl5 := Lib.hid (hgl.out.below ((Below.refl wr.heap.size wr).alloc (Nat.le_refl _) (.cells #[.int .i64 xf, .int .i64 xe, .int .i64 xt] 79)))
                have hB5 := Lib.hid (hbel.out.alloc hbel.out.size (.cells #[.int .i64 xf, .int .i64 xe, .int .i64 xt] 79))
                have hX5 := Lib.hid (EdAt.made wr xf xe xt 79)
                have hR5 := Lib.hid ((hHX.out.below ((Below.refl wr.heap.size wr).alloc (Nat.le_refl _) (.cells #[.int .i64 xf, .int .i64 xe, .int .i64 xt] 79)) (Nat.le_refl _)).more (by simp) : RdI (wr.alloc (.cells #[.int .i64 xf, .int .i64 xe, .int .i64 xt] 79)) (wr.alloc (.cells #[.int .i64 xf, .int .i64 xe, .int .i64 xt] 79)).heap.size Ax zx)
                have hc5 : (wr.alloc (.cells #[.int .i64 xf, .int .i64 xe, .int .i64 xt] 79)).cell? ⟨gW, n0, none⟩ = some (.slice Ax lx cx) := (World.cell?_alloc_lt wr _ ⟨gW, n0, none⟩ (hgl.out.row.lt gW rfl).2).trans hcx
                have hs5 : wr.heap.size < (wr.alloc (.cells #[.int .i64 xf, .int .i64 xe, .int .i64 xt] 79)).heap.size := by simp
                have hgWr : gW < wr.heap.size := (hgl.out.row.lt gW rfl).2
                clear hcx z0 z1 z2 hHX hgE
                generalize wr.alloc (.cells #[.int .i64 xf, .int .i64 xe, .int .i64 xt] 79) = w5 at *
                have hrow5 := Lib.hid (show w5.ownsRow w2.heap.size 27 1 (.slice (some ⟨gW, 0, none⟩) M1 cW) M1 (hs.map Hd.enc) by have := hgl5.out.row; rwa [HHS.out] at this)
                have hbs5 := hB5.out.size
                clear hgl hbel
                go_cut [4, 53] from 53 to 77 (fun v i wx => i = .int .i64 (t : Int) ∧ ∃ (A3 : Option Addr) (c3 : Nat), Hid (Below w2.heap.size w2 wx) ∧ Hid (GL wx w2.heap.size v (hs ++ [⟨A3, c3, zx ++ [xe]⟩]) (.slice (some ⟨gE, 0, none⟩) M1 cE) es) ∧ Hid (EdAt wx wr.heap.size 0 ⟨xf, xe, xt⟩) ∧ wr.heap.size < wx.heap.size)
                case first =>
                  obtain ⟨z0, z1, z2⟩ := hX5.out.shift0
                  have v0 := fun cs : Array Value => (World.cell?_alloc_lt w5 (.cells cs 3) ⟨gW, n0, none⟩ (by show gW < w5.heap.size; omega)).trans hc5
                  go_region_law (first
                    | (go_simp; go_at_call 66; refine (concat_any (w5.heap.size + 1) 0 2 Ax lx cx (some ⟨w5.heap.size, 0, none⟩) 1 1 zx [xe] _ (by first | exact two_made w5 hR5.out HLX.out.symm | exact two_made w5.drew hR5.out HLX.out.symm) (by omega) (by omega)).mono ?_; rintro e w8 ⟨A3, c3, rfl, ho8, hb8⟩
                       have HO8 := Lib.hid (show Own w8 w5.heap.size (.slice A3 (lx + 1) c3) (zx ++ [xe]) from own_more ho8 (by simp; omega))
                       have HB8 := Lib.hid (show Below w5.heap.size w5 w8 from Below.trans (by repeat (first | exact Below.refl _ _ | refine Below.drew ?_ | refine Below.alloc ?_ (by simp; try omega) _)) (hb8.mono (by simp; try omega)))
                       have HR8 := Lib.hid (own_below hrow5.out HB8.out)
                       have hsz8 := HB8.out.size
                       clear ho8 hb8)
                    | (refine step_append_lies _ (by rfl) (.tmp 60) (.tmp 70) _ (by rfl) w2.heap.size 27 iL (.slice none 0 0) 1 24 Tryz.underlying36 iL0 iL1 iL2 iL3 rfl (by omega) (.slice (some ⟨gW, 0, none⟩) M1 cW) M1 (hs.map Hd.enc) (by rfl) (by first | exact (HR8.out.alloc _).drew | exact (HR8.out.alloc _)) ⟨w8.heap.size, 0, none⟩ 1 1 [.slice A3 (lx + 1) c3] (by rfl) (by rfl) (World.news_of_block (cs := #[.slice A3 (lx + 1) c3]) (t := 27) (fr := (0, 0)) (heap_alloc_new w8 _)) (by simp [Value.oneCell']) (by omega) (by unfold maxLen; omega) (by omega) (by simp; omega) (w8.heap.size + 1) (by simp) ?_; intro gG capG w9 hown9 hgrow9 hat9 hlt9))
                  all_goals
                    have hlen9 : (zx ++ [xe]).length = lx + 1 := by rw [List.length_append, ← HLX.out]; rfl
                    have hB9 : Below w5.heap.size w5 (w8.alloc (.cells #[.slice A3 (lx + 1) c3] 27)) := HB8.out.alloc HB8.out.size _
                    have hO9 : Own (w8.alloc (.cells #[.slice A3 (lx + 1) c3] 27)) w5.heap.size (Hd.enc ⟨A3, c3, zx ++ [xe]⟩) (zx ++ [xe]) := by
                      have := HO8.out.alloc (.cells #[.slice A3 (lx + 1) c3] 27)
                      unfold Hd.enc; simp only [hlen9]; exact this
                    have hgl9 := Lib.hid (show GL w9 w2.heap.size (.slice (some ⟨gG, 0, none⟩) (M1 + 1) capG) (hs ++ [⟨A3, c3, zx ++ [xe]⟩]) (.slice (some ⟨gE, 0, none⟩) M1 cE) es from by
                      refine GL.word (n := M1 + 1) hgl5.out hB9 hO9 hbs5 ?_ (by rw [HHS.out]) (by exact hgrow9)
                      unfold Hd.enc at hown9 ⊢; simp only [hlen9]; exact hown9)
                    have hb9 := Lib.hid (show Below w2.heap.size w2 w9 from ((hB5.out.trans (hB9.mono hbs5)).grown (show (w8.alloc (.cells #[.slice A3 (lx + 1) c3] 27)).grownBy w9 _ from hgrow9) (by have := hB9.size; simp at this ⊢; omega) (fun k hk => (HR8.out.lt k hk).1)))
                    have hX9 := Lib.hid (show EdAt w9 wr.heap.size 0 ⟨xf, xe, xt⟩ from ((hX5.out.keep fun o => hB9.cell (p := ⟨wr.heap.size, o, none⟩) hs5).grown (show (w8.alloc (.cells #[.slice A3 (lx + 1) c3] 27)).grownBy w9 _ from hgrow9) (by have := hB9.size; simp at this ⊢; omega) (fun e => by simp [Value.ownBlock] at e; omega)))
                    have hs9 : wr.heap.size < w9.heap.size := by have := hgrow9.size; simp at this; omega
                    clear hown9 hgrow9 hat9
                    go_wp2_with fail
                    go_meet
                    case rel => exact ⟨rfl, A3, c3, by first | exact hb9 | exact Lib.hid hb9.out.drew, by first | exact hgl9 | exact Lib.hid hgl9.out.drew, hX9, hs9⟩
                case rest =>
                  clear hgl5 hB5 hX5 hR5 hc5 hs5 hrow5 hbs5
                  obtain ⟨rfl, A3, c3, hbel, hgl, hX5, hs5⟩ := hcut
                  have hbo := Below.alloc (Below.refl wc.heap.size wc) (Nat.le_refl _) (.cells #[.int .i64 xt] 3)
                  have hgl6 := Lib.hid (hgl.out.below hbo)
                  have hown6 := Lib.hid (show (wc.alloc (.cells #[.int .i64 xt] 3)).ownsRow w2.heap.size 3 1 (.slice (some ⟨gE, 0, none⟩) M1 cE) M1 (es.map (Value.int .i64)) by
                    have := hgl6.out.ends; unfold Own at this; rwa [HES.out] at this)
                  have hbs6 := hbel.out.size
                  obtain ⟨z0, z1, z2⟩ := hX5.out.shift0
                  have hmw2 := Lib.hid (show (hs ++ [(⟨A3, c3, zx ++ [xe]⟩ : Hd)]).map Hd.z = (L ++ (extW a p).take (t + 1)).map Prod.fst by
                    rw [hex.out, ← List.append_assoc, List.map_append, List.map_append (l₂ := [(p.1 ++ [xe], xt)]), hmw.out, HXZ.out]; rfl)
                  have hme2 := Lib.hid (show es ++ [xt] = (L ++ (extW a p).take (t + 1)).map Prod.snd by
                    rw [hex.out, ← List.append_assoc, List.map_append (l₂ := [(p.1 ++ [xe], xt)]), hme.out]; rfl)
                  have hX2 := Lib.hid (show (hs ++ [(⟨A3, c3, zx ++ [xe]⟩ : Hd)])[n0]? = some ⟨Ax, cx, zx⟩ by
                    rw [List.getElem?_append_left (by rw [HHS.out]; exact hM0)]; exact hX.out)
                  clear hbo
                  go_wp2_with (at_builtin; refine wpList_append_lies _ rfl (.tmp 72) (.tmp 75) 27 rfl w2.heap.size 3 iI (.int .i64 0) 1 8 Tryz.underlying27 iI0 iI1 iI2 iI3 rfl (by omega) (.slice (some ⟨gE, 0, none⟩) M1 cE) M1 (es.map (Value.int .i64)) rfl hown6.out ⟨wc.heap.size, 0, none⟩ 1 1 [.int .i64 xt] rfl rfl (news_one rfl) (by simp [Value.oneCell']) (by omega) (by unfold maxLen; omega) (by omega) (by simp; omega) (wc.heap.size + 1) (by simp) ?_; intro gN capN w9 hown9 hgrow9 hat9 hlt9)
                  have hgl9 := Lib.hid (GL.end_ (t := xt) hgl6.out (show Own w9 w2.heap.size (.slice (some ⟨gN, 0, none⟩) (M1 + 1) capN) (es ++ [xt]) by unfold Own; rw [List.length_append, HES.out, List.map_append]; exact hown9) hgrow9 (fun j hj => by
                    simp [Value.ownBlock] at hj; subst hj
                    rcases hat9 with h | h
                    · exact .inl h
                    · right; simp; omega))
                  have hb9 := Lib.hid (show Below w2.heap.size w2 w9 from (hbel.out.alloc hbel.out.size (.cells #[.int .i64 xt] 3)).grown hgrow9 (by simp; omega) (fun k hk => (hown6.out.lt k hk).1))
                  clear hown9 hgrow9 hat9 hgl hbel hgl6 hown6 z0 z1 z2 hX5
                  go_wp2_with fail
                  go_roundw
                  case measure => simp [intOf]; omega
                  case rel => exact ⟨t + 1, _, _, by go_num, by omega, by have := HM1.out; omega, hb9, hgl9, hmw2, hme2, hX2⟩
            · obtain rfl : t = N := by omega
              rw [List.take_of_length_le (by unfold extW; rw [List.length_map, HQ.out, HSL.out]; exact Nat.le_refl _)] at hmw hme
              have hgf2 := Lib.hid (show genF a most (1026 - (n0 + 1)) (n0 + 1) (L ++ extW a p) = R from by have := hgo.out ht1; rwa [show 1026 - n0 - 1 = 1026 - (n0 + 1) by omega] at this)
              have hlen2 := Lib.hid (show 1 ≤ (L ++ extW a p).length ∧ (L ++ extW a p).length ≤ 1024 ∧ n0 + 1 ≤ (L ++ extW a p).length by
                rw [List.length_append, ← HN1.out]; unfold extW; rw [List.length_map, HQ.out, HSL.out]; omega)
              have hrg2 := Lib.hid (show ∀ q ∈ L ++ extW a p, 0 ≤ q.2 ∧ q.2 < a.st from fun q hq => by
                rcases List.mem_append.1 hq with hq | hq
                · exact hrg.out q hq
                · exact extW_range HRI.out p q hq)
              have hwl2 := Lib.hid (show ∀ q ∈ L ++ extW a p, q.1.length ≤ 4096 from fun q hq => by
                rcases List.mem_append.1 hq with hq | hq
                · exact hwl.out q hq
                · obtain ⟨y, _, rfl⟩ := List.mem_map.1 hq
                  rw [List.length_append, ← HXZ.out, ← HLX.out]; exact hlx3)
              go_wp2_with fail
              go_roundw
              case measure => simp [intOf]; omega
              case rel => exact ⟨n0 + 1, hs, es, L ++ extW a p, by go_num, by omega, hbel, hgl, hmw, hme, hlen2, hrg2, hwl2, hgf2⟩
      · have hRv := Lib.hid (genF_stop hgf.out (by omega) (by rw [← HPP.out, ← HXZ.out, ← HLX.out]; omega))
        go_wp2_with fail
        go_ret3
        exact ⟨.inr ⟨_, _, hs, es, L, hRv.out, rfl, hfin.out, hmw.out, hme.out, hlen.out.2.1, hwl2.out⟩, hB2.out.trans (hbel.out.mono hB2.out.size)⟩
    · have hRv := Lib.hid (genF_stop hgf.out (by omega) (by rw [← HN1.out]; omega))
      go_wp2_with fail
      go_ret3
      exact ⟨.inr ⟨_, _, hs, es, L, hRv.out, rfl, hfin.out, hmw.out, hme.out, hlen.out.2.1, hwl2.out⟩, hB2.out.trans (hbel.out.mono hB2.out.size)⟩
end Go.Proofs.YtaadhpkpekmfoaaGreat
