/- Texts merged: what follows were texts of their own. -/
import Derived.Test.YtaadhpkpekmfoaaGreatZa11
import Derived.Deep.LoopGhost
import Derived.Deep.CutRange
import Derived.Test.YtaadhpkpekmfoaaGreatZa10
import Derived.Deep.RegionHeld3
import Derived.Test.YtaadhpkpekmfoaaGreatZa4
set_option linter.unusedVariables false
set_option linter.unusedSimpArgs false
set_option linter.unusedSectionVars false
/- Layer 7: wordTo: the word that led to a place. -/
namespace Go.Proofs.YtaadhpkpekmfoaaGreat
open Go.RowKit Go.Sort

/-- A word that led to a place. -/
inductive WT (F : FoM) (er : List Int) (S l : Nat) : Nat → Nat → List Int → Prop
  | root : 0 < S → WT F er S l 0 0 []
  | step {d q d' q' : Nat} {v : List Int} {e : Nat} : d ≤ l → q < S → ¬ (d = 0 ∧ q = 0) → F d q = some ((e : Int), (q' : Int)) → e < 32 → q' < 4096 → (if (e : Int) ∈ er then d' = d else d = d' + 1) → WT F er S l d' q' v → WT F er S l d q (v ++ [(e : Int)])
theorem exec_nePlace (a : Act) (d q : Nat) (dst : Option Nat) (T : TypeId) (pos : String) (af) (w : World) (hx : a.eval (.tmp 9) = .agg #[.int .i64 (d : Int), .int .i64 (q : Int)]) (hy : a.eval (.tmp 10) = .agg #[.int .i64 0, .int .i64 0]) :
    (execOp a.eval { dst := dst, op := .binOp .neq 148 (.tmp 9) (.tmp 10) 148, type := T, pos := pos, after := af, guard := none }).run Tryz.prog w = .ok (.value (.bool (!decide (d = 0 ∧ q = 0)))) w := by
  by_cases h1 : d = 0
  · by_cases h2 : q = 0
    · subst h1 h2
      unfold execOp
      simp only [hx, hy]
      kernel_rfl
    · subst h1
      have h3 : ¬ (q : Int) = 0 := by omega
      unfold execOp
      simp only [hx, hy]
      go_simp
  · have h3 : ¬ (d : Int) = 0 := by omega
    unfold execOp
    simp only [hx, hy]
    go_simp
theorem wpList_nePlace {ops : Array Oper} {rest : List Oper} {a : Act} {w : World} {Q : Exit → Act → World → Prop} {dst : Option Nat} {T : TypeId} {pos : String} {af : Array Edge} (d q : Nat) (hx : a.eval (.tmp 9) = .agg #[.int .i64 (d : Int), .int .i64 (q : Int)]) (hy : a.eval (.tmp 10) = .agg #[.int .i64 0, .int .i64 0]) (b : Bool) (hb : (!decide (d = 0 ∧ q = 0)) = b)
    (h : wpList Tryz.prog ops Q rest (a.put dst (.bool b)) w) : wpList Tryz.prog ops Q ({ dst := dst, op := .binOp .neq 148 (.tmp 9) (.tmp 10) 148, type := T, pos := pos, after := af, guard := none } :: rest) a w := by
  subst hb
  refine wpList_plain rfl fun K hK => ?_
  unfold Oper.wp
  rw [exec_nePlace a d q dst T pos af w hx hy]
  exact hK _ _ h
/-- What wordTo keeps. -/
structure WI (w wr : World) (gv vk : Value) (er : List Int) (d q : Nat) (vw : Value) (W : List Int) : Prop where
  bel : Below w.heap.size w wr
  ob : Row wr w.heap.size 88 (obL gv vk er)
  pb : Row wr (w.heap.size + 1) 148 [.int .i64 (d : Int), .int .i64 (q : Int)]
  wd : Own wr w.heap.size vw W
set_option maxHeartbeats 8000000 in
set_option maxRecDepth 100000 in
theorem jWordTo_any (gv vk : Value) (er : List Int) (bo base S l d0 q0 : Nat) (F : FoM) (ogs : List Value) (v0 : List Int) (w : World) (h : OG w bo base S l F ogs) (ht : WT F er S l d0 q0 v0) (hv : v0.length ≤ 100000) (hS : S ≤ 4096) (hl : l ≤ 100000) (hz : base ≤ w.heap.size) :
    Calls Tryz.prog 108 #[.agg (obL gv vk er).toArray, .agg #[.int .i64 (d0 : Int), .int .i64 (q0 : Int)], .slice (some ⟨bo, 0, none⟩) (l + 1) (l + 1)] w fun e w' => ∃ v, e = .returned v ∧ Own w' w.heap.size v v0 ∧ Below w.heap.size w w' := by
  have HO := Lib.hid h
  have HT := Lib.hid ht
  have HI0 := Lib.hid (show WI w ((w.alloc (.cells (obL gv vk er).toArray 88)).alloc (.cells #[.int .i64 (d0 : Int), .int .i64 (q0 : Int)] 148)) gv vk er d0 q0 (.slice none 0 0) [] from
    ⟨((Below.refl _ w).alloc (Nat.le_refl _) _).alloc (by simp) _, (ob_box w gv vk er).alloc _, by
      have := Row.new (w.alloc (.cells (obL gv vk er).toArray 88)) [.int .i64 (d0 : Int), .int .i64 (q0 : Int)] 148
      rw [World.size_alloc] at this; exact this, World.ownsRow_nil _ _ _ _⟩)
  clear h ht
  go_enter Tryz.func108, Tryz.ntmps108
  go_wp2_with fail
  go_loopg [7] v0.length (fun k vw wr => ∃ (d q : Nat) (v W : List Int), k = v.length ∧ Hid (WI w wr gv vk er d q vw W) ∧ Hid (WT F er S l d q v) ∧ Hid (v0 = v ++ W.reverse))
  case atStart => exact ⟨d0, q0, v0, [], rfl, HI0, HT, Lib.hid (by simp)⟩
  case round =>
    clear HI0 HT
    obtain ⟨d, q, v, W, hkv, hwi, hwt, hvw⟩ := hrel
    have hbz := hwi.out.bel.size
    have p0 := hwi.out.pb.cell 0 rfl
    have p1 := hwi.out.pb.cell 1 rfl
    cases hwt.out with
    | root hS0 =>
      obtain ⟨Aw, cw, hvw', _, _, _⟩ := own_rdc hwi.out.wd
      have HRV := Lib.hid (reverse_own wr hwi.out.wd (by have := congrArg List.length hvw.out; simp at this; omega))
      obtain ⟨W', hW'⟩ : ∃ W', W' = W.length := ⟨_, rfl⟩
      rw [← hW'] at hvw'
      subst hvw'
      clear hkv hwt hW'
      go_wp2_with fail
      refine HRV.out.mono ?_
      rintro e w5 ⟨rfl, ho5, hg5⟩
      have HB5 := Lib.hid (hwi.out.bel.grown hg5 hbz (fun k hk => (hwi.out.wd.lt k hk).1))
      go_wp2_with fail
      go_ret
      refine ⟨_, rfl, ?_, HB5.out⟩
      have := hvw.out
      rw [List.nil_append] at this
      rw [this]; exact ho5
    | @step _ _ d' q' v' e hd hq hne hF he hf hdd hwt' =>
      have hrow : ∃ g, ogs.getD d undef = .slice (some ⟨g, 0, none⟩) S S ∧ Row w g 154 (orgL F S d) := by
        rcases HO.out.at_ d hd with ⟨_, h2⟩ | ⟨g, h1, _, h3⟩
        · rw [h2 q] at hF; cases hF
        · exact ⟨g, h1, h3⟩
      obtain ⟨g, hgd, hgr⟩ := hrow
      have hcd : wr.cell? ⟨bo, d, none⟩ = some (.slice (some ⟨g, 0, none⟩) S S) := by
        refine (hwi.out.bel.cell (p := ⟨bo, d, none⟩) HO.out.row.lt).trans (HO.out.row.cell d ?_)
        rw [← hgd, List.getD, List.getElem?_eq_getElem (by rw [HO.out.len]; omega)]; rfl
      have o0 : wr.cell? ⟨g, q * 3, none⟩ = some (.bool true) := by
        have := (hwi.out.bel.cell (p := ⟨g, q * 3 + 0, none⟩) hgr.lt).trans (hgr.cell (q * 3 + 0) (org_at hq (by omega)))
        rw [hF] at this; exact this
      have o1 : wr.cell? ⟨g, q * 3 + 1, none⟩ = some (.int .i8 (e : Int)) := by
        have := (hwi.out.bel.cell (p := ⟨g, q * 3 + 1, none⟩) hgr.lt).trans (hgr.cell (q * 3 + 1) (org_at hq (by omega)))
        rw [hF] at this; exact this
      have o2 : wr.cell? ⟨g, q * 3 + 2, none⟩ = some (.int .i16 (q' : Int)) := by
        have := (hwi.out.bel.cell (p := ⟨g, q * 3 + 2, none⟩) hgr.lt).trans (hgr.cell (q * 3 + 2) (org_at hq (by omega)))
        rw [hF] at this; exact this
      have hgl : g < wr.heap.size := by have := hgr.lt; omega
      have hbl : bo < wr.heap.size := by have := HO.out.row.lt; omega
      have hpl := hwi.out.pb.lt
      have z0 : (0 : Int) ≤ (d : Int) := by omega
      have z1 : (d : Int) < (l : Int) + 1 := by omega
      have z2 : (0 : Int) ≤ (q : Int) := by omega
      have z3 : (q : Int) < (S : Int) := by omega
      have z4 : (0 : Int) ≤ (e : Int) := by omega
      have z5 : (e : Int) < 32 := by omega
      have z6 : (0 : Int) ≤ (q' : Int) := by omega
      have z7 : (q' : Int) < 4096 := by omega
      have HKV := Lib.hid hkv
      have HWT := Lib.hid hwt'
      have HVW := Lib.hid (show v0 = v' ++ (W ++ [(e : Int)]).reverse by rw [hvw.out]; simp)
      have hWl : W.length ≤ 100000 := by have := congrArg List.length hvw.out; simp at this; omega
      have HF := Lib.hid hF
      have hgE : ∀ cs : Array Value, ∀ ty, (wr.alloc (.cells cs ty)).cell? ⟨bo, d, none⟩ = some (.slice (some ⟨g, 0, none⟩) S S) := fun cs ty => (World.cell?_alloc_lt wr (.cells cs ty) ⟨bo, d, none⟩ hbl).trans hcd
      have a0 := fun cs : Array Value => fun ty => (World.cell?_alloc_lt wr (.cells cs ty) ⟨w.heap.size + 1, 0, none⟩ hpl).trans p0
      have a1 := fun cs : Array Value => fun ty => (World.cell?_alloc_lt wr (.cells cs ty) ⟨w.heap.size + 1, 1, none⟩ hpl).trans p1
      have a2 := fun cs : Array Value => fun ty => (World.cell?_alloc_lt wr (.cells cs ty) ⟨g, q * 3, none⟩ hgl).trans o0
      have a3 := fun cs : Array Value => fun ty => (World.cell?_alloc_lt wr (.cells cs ty) ⟨g, q * 3 + 1, none⟩ hgl).trans o1
      have a4 := fun cs : Array Value => fun ty => (World.cell?_alloc_lt wr (.cells cs ty) ⟨g, q * 3 + 2, none⟩ hgl).trans o2
      have hHd := hwi.out.ob.lt
      obtain ⟨r, hr⟩ : ∃ r, decide ((e : Int) ∈ er) = r := ⟨_, rfl⟩
      have cfl : wr.cell? ⟨w.heap.size, 2 + e, none⟩ = some (.bool r) := by have := hwi.out.ob.cell (2 + e) (ob_at2 gv vk er (by omega)); rw [hr] at this; exact this
      have HR := Lib.hid hr
      have HDD := Lib.hid hdd
      clear hF hwt hgr hgd hwt' hkv hvw hr hdd
      have zne : (!decide (d = 0 ∧ q = 0)) = true := by simp; omega
      obtain ⟨iI, iI0, iI1, iI2, iI3⟩ := info_parts info_int
      go_wp2_with (first | refine wpList_nePlace d q rfl rfl true zne ?_)
      go_region_held3 (fun w' => w'.cell? ⟨w.heap.size + 1, 0, none⟩ = some (.int .i64 (d : Int)) ∧ w'.cell? ⟨w.heap.size + 1, 1, none⟩ = some (.int .i64 (q : Int)) ∧ w'.cell? ⟨bo, d, none⟩ = some (.slice (some ⟨g, 0, none⟩) S S) ∧ w'.cell? ⟨g, q * 3, none⟩ = some (.bool true) ∧ w'.cell? ⟨g, q * 3 + 1, none⟩ = some (.int .i8 (e : Int)) ∧ w'.cell? ⟨g, q * 3 + 2, none⟩ = some (.int .i16 (q' : Int))) (first | exact ⟨p0, p1, hcd, o0, o1, o2⟩ | exact ⟨a0 _ _, a1 _ _, hgE _ _, a2 _ _, a3 _ _, a4 _ _⟩ | go_keep) (fail)
      obtain ⟨E, hE⟩ : ∃ E, E = wr.heap.size := ⟨_, rfl⟩
      have hb5 : Below wr.heap.size wr ((wr.alloc (.cells #[.bool true, .int .i8 (e : Int), .int .i16 (q' : Int)] 154)).drew) := Below.drew ((Below.refl _ _).alloc (Nat.le_refl _) _)
      have hrE : Row ((wr.alloc (.cells #[.bool true, .int .i8 (e : Int), .int .i16 (q' : Int)] 154)).drew) E 154 [.bool true, .int .i8 (e : Int), .int .i16 (q' : Int)] := by rw [hE]; exact Row.new wr [.bool true, .int .i8 (e : Int), .int .i16 (q' : Int)] 154
      have HW5 := Lib.hid (show WI w ((wr.alloc (.cells #[.bool true, .int .i8 (e : Int), .int .i16 (q' : Int)] 154)).drew) gv vk er d q u7 W from
        ⟨hwi.out.bel.trans (hb5.mono hbz), hwi.out.ob.below hb5 hHd, hwi.out.pb.below hb5 hpl, own_below hwi.out.wd hb5⟩)
      rw [← hE]
      clear hwi p0 p1 hcd o0 o1 o2 a0 a1 a2 a3 a4 hgE cfl hb5 hgl hbl hpl hHd hbz hE
      generalize (wr.alloc (.cells #[.bool true, .int .i8 (e : Int), .int .i16 (q' : Int)] 154)).drew = W5 at *
      have HRE := Lib.hid hrE
      have b1 := hrE.cell 1 rfl
      have hbz5 := HW5.out.bel.size
      clear hrE
      go_wp2_with (at_builtin; refine wpList_append_own _ rfl (.tmp 21) (.tmp 25) 27 rfl w.heap.size 3 iI (.int .i64 0) 1 8 Tryz.underlying27 iI0 iI1 iI2 iI3 rfl (by omega) u7 W.length (W.map (Value.int .i64)) rfl (HW5.out.wd.alloc _) ⟨W5.heap.size, 0, none⟩ 1 1 [.int .i64 (e : Int)] rfl rfl (World.news_of_block (cs := #[.int .i64 (e : Int)]) (t := 3) (fr := (0, 0)) (heap_alloc_new W5 _)) (by simp [Value.oneCell']) (by unfold maxLen; omega) (by omega) (by simp; omega) ?_; intro v6 w6 ho6 hg6 _
                   have hE6 := (HRE.out.alloc (.cells #[.int .i64 (e : Int)] 3)).grown hg6 (row_ne_own HRE.out HW5.out.wd (by decide))
                   have hob6 := (HW5.out.ob.alloc (.cells #[.int .i64 (e : Int)] 3)).grown hg6 (row_ne_own HW5.out.ob HW5.out.wd (by decide))
                   have hpb6 := (HW5.out.pb.alloc (.cells #[.int .i64 (e : Int)] 3)).grown hg6 (row_ne_own HW5.out.pb HW5.out.wd (by decide))
                   have h6 : Own w6 w.heap.size v6 (W ++ [(e : Int)]) := by simpa [Own] using ho6
                   have HW6 := Lib.hid (show WI w w6 gv vk er d q v6 (W ++ [(e : Int)]) from ⟨(HW5.out.bel.alloc hbz5 _).grown hg6 (by simp; omega) (fun j hj => (HW5.out.wd.lt j hj).1), hob6, hpb6, h6⟩)
                   have g1 := hE6.cell 1 rfl
                   have g2 := hE6.cell 2 rfl
                   have cfl := hob6.cell (2 + e) (ob_at2 gv vk er (show e < 32 by omega))
                   rw [HR.out] at cfl
                   have p0 := hpb6.cell 0 rfl
                   have p1 := hpb6.cell 1 rfl
                   have f0 := hpb6.frozen 0
                   have f1 := hpb6.frozen 1
                   clear ho6 hg6 hE6 hob6 hpb6 h6
                   cases r)
      · have hdd : d = d' + 1 := by have := HDD.out; have h := HR.out; rw [if_neg (by simpa using h)] at this; exact this
        have hw := HW6.out
        have hne := row_ne_own hw.pb hw.wd (by decide)
        have hdz : (d : Int) - 1 = (d' : Int) := by omega
        have r1 : Row ((w6.setCell ⟨w.heap.size + 1, 0, none⟩ (.int .i64 (d' : Int))).setCell ⟨w.heap.size + 1, 1, none⟩ (.int .i64 (q' : Int))) (w.heap.size + 1) 148 [.int .i64 (d' : Int), .int .i64 (q' : Int)] := by
          have := (hw.pb.set 0 (.int .i64 ((d : Int) - 1))).set 1 (.int .i64 (q' : Int))
          rw [hdz] at this; exact this
        rw [hdz]
        go_roundg v'.length
        case measure => have := HKV.out; rw [List.length_append, List.length_singleton] at this; omega
        case rel =>
          refine ⟨d', q', v', W ++ [(e : Int)], rfl, Lib.hid ⟨?_, ?_, r1, ?_⟩, HWT, HVW⟩
          · exact (hw.bel.setCell (p := ⟨w.heap.size + 1, 0, none⟩) (by show w.heap.size ≤ w.heap.size + 1; omega) _).setCell (p := ⟨w.heap.size + 1, 1, none⟩) (by show w.heap.size ≤ w.heap.size + 1; omega) _
          · exact (hw.ob.setOther (p := ⟨w.heap.size + 1, 0, none⟩) (by show w.heap.size ≠ w.heap.size + 1; omega) _).setOther (p := ⟨w.heap.size + 1, 1, none⟩) (by show w.heap.size ≠ w.heap.size + 1; omega) _
          · exact ownsRow_setCell_other (a := ⟨w.heap.size + 1, 1, none⟩) (ownsRow_setCell_other (a := ⟨w.heap.size + 1, 0, none⟩) hw.wd hne _) hne _
      · have hdd : d' = d := by have := HDD.out; have h := HR.out; rw [if_pos (by simpa using h)] at this; exact this
        have hw := HW6.out
        have hne := row_ne_own hw.pb hw.wd (by decide)
        have r1 : Row (w6.setCell ⟨w.heap.size + 1, 1, none⟩ (.int .i64 (q' : Int))) (w.heap.size + 1) 148 [.int .i64 (d' : Int), .int .i64 (q' : Int)] := by
          have := hw.pb.set 1 (.int .i64 (q' : Int))
          rw [hdd]; exact this
        go_roundg v'.length
        case measure => have := HKV.out; rw [List.length_append, List.length_singleton] at this; omega
        case rel =>
          refine ⟨d', q', v', W ++ [(e : Int)], rfl, Lib.hid ⟨?_, ?_, r1, ?_⟩, HWT, HVW⟩
          · exact hw.bel.setCell (p := ⟨w.heap.size + 1, 1, none⟩) (by show w.heap.size ≤ w.heap.size + 1; omega) _
          · exact hw.ob.setOther (p := ⟨w.heap.size + 1, 1, none⟩) (by show w.heap.size ≠ w.heap.size + 1; omega) _
          · exact ownsRow_setCell_other (a := ⟨w.heap.size + 1, 1, none⟩) hw.wd hne _
end Go.Proofs.YtaadhpkpekmfoaaGreat

/- Layer 7: what lift's search keeps. -/
namespace Go.Proofs.YtaadhpkpekmfoaaGreat
open Go.RowKit Go.Sort

/-- The head of the queue is taken. -/
theorem LS.pop {w0 wr : World} {gv vk : Value} {er : List Int} {S l : Nat} {F : FoM} {ogs : List Value} {vq vq' : Value} {p : Nat × Nat} {ps : List (Nat × Nat)} (h : LS w0 wr gv vk er S l F ogs vq (p :: ps)) (ht : ownsTail wr w0.heap.size 148 2 vq' ps.length (encP ps)) :
    LS w0 (wr.setCell ⟨w0.heap.size + 1, 0, none⟩ vq') gv vk er S l F ogs vq' ps :=
  ⟨h.bel.setCell (p := ⟨w0.heap.size + 1, 0, none⟩) (by show w0.heap.size ≤ w0.heap.size + 1; omega) _, Row.setOther (p := ⟨w0.heap.size + 1, 0, none⟩) h.ob (by show w0.heap.size ≠ w0.heap.size + 1; omega) _, h.qb.set 0 vq',
    h.og.same fun g e cs hr he => Row.setOther (p := ⟨w0.heap.size + 1, 0, none⟩) hr (rows_neJ hr h.qb (by rcases he with rfl | rfl <;> decide)) _,
    Row.setOther (p := ⟨w0.heap.size + 1, 0, none⟩) h.ox (by show w0.heap.size + 1 + 1 + 1 ≠ w0.heap.size + 1; omega) _,
    ht.same fun k hk => Below.heap_setCell _ ⟨w0.heap.size + 1, 0, none⟩ _ k fun e => tail_ne h.qb ht (by decide) (by rw [hk, e])⟩
/-- The place of a number. -/
def plD (a : Au) (x : Int) : Nat × Nat := ((x / a.st).toNat, (x % a.st).toNat)
def plE' (a : Au) (d q : Nat) : Int := (d : Int) * a.st + (q : Int)
theorem plD_E {a : Au} {S d q : Nat} (hS : a.st = (S : Int)) (hq : q < S) : plD a (plE' a d q) = (d, q) := by
  obtain ⟨h1, h2⟩ := pl_div (s := a.st) (q := (q : Int)) (d := d) (by omega) (by omega)
  unfold plD plE'
  rw [h1, h2]; simp
theorem WT.mono {F F' : FoM} {er : List Int} {S l : Nat} (hm : ∀ d q x, F d q = some x → F' d q = some x) {d q : Nat} {v : List Int} (h : WT F er S l d q v) : WT F' er S l d q v := by
  induction h with
  | root h => exact .root h
  | step h1 h2 h3 h4 h5 h6 h7 _ ih => exact .step h1 h2 h3 (hm _ _ _ h4) h5 h6 h7 ih
structure LI (a : Au) (er : List Int) (S l : Nat) (T : List (Int × List Int)) (i : Nat) (F : FoM) (ps : List (Nat × Nat)) : Prop where
  inF : ∀ d q, d ≤ l → q < S → (F d q ≠ none ↔ plE' a d q ∈ T.map Prod.fst)
  wt : ∀ p ∈ T, WT F er S l (plD a p.1).1 (plD a p.1).2 p.2
  ps : ps = (T.drop i).map fun p => plD a p.1
  root : F 0 0 ≠ none
theorem upd_same (F : FoM) (d q : Nat) (x : Int × Int) : updF F d q x d q = some x := by unfold updF; simp
theorem upd_keep {F : FoM} {d q : Nat} {x : Int × Int} (hn : F d q = none) : ∀ d' q' y, F d' q' = some y → updF F d q x d' q' = some y := fun d' q' y h => by
  unfold updF
  by_cases h1 : d' = d ∧ q' = q
  · rw [h1.1, h1.2, hn] at h; cases h
  · rw [if_neg h1]; exact h
/-- The search begins. -/
theorem li_start {a : Au} {S l : Nat} (hS : a.st = (S : Int)) (h0 : 0 < S) (er : List Int) (A : Au) : LI a er S l (Tr A 0) 0 (fndF (fun _ _ => none) 0 0 (0, 0)) (fndP (fun _ _ => none) 0 0 []) := by
  have e1 : fndF (fun _ _ => none) 0 0 (0, 0) = updF (fun _ _ => none) 0 0 (0, 0) := by unfold fndF; rw [if_pos rfl]
  have e2 : fndP (fun _ _ => none) 0 0 [] = [(0, 0)] := by unfold fndP; rw [if_pos rfl]; rfl
  have e3 : plD a 0 = (0, 0) := by have := plD_E (d := 0) hS h0; simpa [plE'] using this
  rw [e1, e2]
  refine ⟨fun d q _ hq => ?_, fun p hp => ?_, ?_, by rw [upd_same]; simp⟩
  · simp only [Tr, List.map_cons, List.map_nil, List.mem_singleton]
    constructor
    · intro h
      by_cases h1 : d = 0 ∧ q = 0
      · rw [h1.1, h1.2]; simp [plE']
      · unfold updF at h; rw [if_neg h1] at h; exact absurd rfl h
    · intro h
      have h2 := plD_E (d := d) hS hq
      rw [h, e3] at h2
      injection h2 with h3 h4
      rw [← h3, ← h4, upd_same]; simp
  · simp only [Tr, List.mem_singleton] at hp
    subst hp
    show WT _ er S l (plD a 0).1 (plD a 0).2 []
    rw [e3]; exact .root h0
  · simp [Tr, e3]
/-- One edge of a search. -/
theorem li_step {a : Au} {er : List Int} {S l i : Nat} {T : List (Int × List Int)} {F : FoM} {ps : List (Nat × Nat)} (h : LI a er S l T i F ps) (hS : a.st = (S : Int)) (hi : i ≤ T.length) {d q dn t e : Nat} {w : List Int} (hw : WT F er S l d q w) (hd : dn ≤ l) (ht : t < S) (he : e < 32) (hq : q < 4096) (hdd : if (e : Int) ∈ er then d = dn else dn = d + 1) (f : Int) :
    LI a er S l (visP w T ⟨f, (e : Int), plE' a dn t⟩) i (fndF F dn t ((e : Int), (q : Int))) (fndP F dn t ps) := by
  by_cases hn : F dn t = none
  · have e1 : fndF F dn t ((e : Int), (q : Int)) = updF F dn t ((e : Int), (q : Int)) := by unfold fndF; rw [if_pos hn]
    have e2 : fndP F dn t ps = ps ++ [(dn, t)] := by unfold fndP; rw [if_pos hn]
    have hnm : plE' a dn t ∉ T.map Prod.fst := fun hm => (h.inF dn t hd ht).2 hm hn
    have e3 : visP w T ⟨f, (e : Int), plE' a dn t⟩ = T ++ [(plE' a dn t, w ++ [(e : Int)])] := by unfold visP; rw [if_neg hnm]
    have hk := upd_keep (x := ((e : Int), (q : Int))) hn
    have hnz : ¬ (dn = 0 ∧ t = 0) := fun hz => by
      obtain ⟨rfl, rfl⟩ := hz
      exact h.root hn
    rw [e1, e2, e3]
    refine ⟨fun d' q' hd' hq' => ?_, fun p hp => ?_, ?_, fun h0 => ?_⟩
    · rw [List.map_append, List.mem_append]
      constructor
      · intro h1
        by_cases h2 : d' = dn ∧ q' = t
        · rw [h2.1, h2.2]; exact .inr (by simp)
        · refine .inl ((h.inF d' q' hd' hq').1 ?_)
          unfold updF at h1; rw [if_neg h2] at h1; exact h1
      · rintro (h1 | h1)
        · obtain ⟨y, hy⟩ := Option.ne_none_iff_exists'.1 ((h.inF d' q' hd' hq').2 h1)
          rw [hk _ _ _ hy]; simp
        · simp only [List.map_cons, List.map_nil, List.mem_singleton] at h1
          have h2 := plD_E (d := d') hS hq'
          rw [h1, plD_E hS ht] at h2
          injection h2 with h3 h4
          rw [← h3, ← h4, upd_same]; simp
    · rcases List.mem_append.1 hp with hp | hp
      · exact (h.wt p hp).mono hk
      · rw [List.mem_singleton] at hp
        subst hp
        show WT _ er S l (plD a (plE' a dn t)).1 (plD a (plE' a dn t)).2 _
        rw [plD_E hS ht]
        refine .step hd ht hnz (upd_same _ _ _ _) he hq ?_ (hw.mono hk)
        split
        · next hm => rw [if_pos hm] at hdd; exact hdd
        · next hm => rw [if_neg hm] at hdd; exact hdd
    · rw [List.drop_append_of_le_length hi, List.map_append, ← h.ps]
      simp [plD_E hS ht]
    · obtain ⟨y, hy⟩ := Option.ne_none_iff_exists'.1 h.root
      rw [hk _ _ _ hy] at h0; cases h0
  · have e1 : fndF F dn t ((e : Int), (q : Int)) = F := by unfold fndF; rw [if_neg hn]
    have e2 : fndP F dn t ps = ps := by unfold fndP; rw [if_neg hn]
    have hnm : plE' a dn t ∈ T.map Prod.fst := (h.inF dn t hd ht).1 hn
    have e3 : visP w T ⟨f, (e : Int), plE' a dn t⟩ = T := by unfold visP; rw [if_pos hnm]
    rw [e1, e2, e3]; exact h
theorem WT.rng {F : FoM} {er : List Int} {S l d q : Nat} {v : List Int} (h : WT F er S l d q v) : d ≤ l ∧ q < S := by
  cases h with
  | root h => exact ⟨Nat.zero_le _, h⟩
  | step h1 h2 _ _ _ _ _ _ => exact ⟨h1, h2⟩
/-- Words of a search have no more events than rounds were. -/
theorem tr_len_w (a : Au) : ∀ n, ∀ p ∈ Tr a n, p.2.length ≤ n
  | 0, p, hp => by simp [Tr] at hp; subst hp; simp
  | n + 1, p, hp => by
    rw [Tr] at hp
    cases h : (Tr a n)[n]? with
    | none => rw [h] at hp; have := tr_len_w a n p hp; omega
    | some r =>
      rw [h] at hp
      have hr := tr_len_w a n r (List.mem_of_getElem? h)
      have key : ∀ (l : List Ed) (T : List (Int × List Int)), (∀ p ∈ T, p.2.length ≤ n + 1) → ∀ p ∈ l.foldl (visP r.2) T, p.2.length ≤ n + 1 := by
        intro l
        induction l with
        | nil => intro T hT; exact hT
        | cons x l ih =>
          intro T hT
          refine ih _ fun p hp => ?_
          rcases visP_mem.1 hp with hp | ⟨_, rfl⟩
          · exact hT p hp
          · simp; exact hr
      exact key _ _ (fun p hp => by have := tr_len_w a n p hp; omega) p hp
/-- The places that were found so far, behind t edges of place number i. -/
def TrE (a : Au) (onto ob : List Int) (i t : Nat) (p : Nat × Int) (w : List Int) : List (Int × List Int) := (((succ a.ed p.2).take t).filterMap (plY a onto ob p)).foldl (visP w) (Tr (plA a onto ob) i)
theorem trE_zero (a : Au) (onto ob : List Int) (i : Nat) (p : Nat × Int) (w : List Int) : TrE a onto ob i 0 p w = Tr (plA a onto ob) i := rfl
theorem trE_succ {a : Au} {onto ob : List Int} {i t : Nat} {p : Nat × Int} {w : List Int} {y : Ed} (hy : (succ a.ed p.2)[t]? = some y) : TrE a onto ob i (t + 1) p w = (match plY a onto ob p y with | none => TrE a onto ob i t p w | some z => visP w (TrE a onto ob i t p w) z) := by
  obtain ⟨hl, e⟩ := List.getElem?_eq_some_iff.1 hy
  unfold TrE
  rw [List.take_succ_eq_append_getElem hl, e, List.filterMap_append, List.foldl_append]
  cases hz : plY a onto ob p y <;> simp [List.filterMap_cons, hz]
theorem trE_all {a : Au} (h : RightW a) (h0 : 0 < a.st) {onto ob : List Int} {i : Nat} {p : Nat × Int} {w : List Int} {x : Int} (hp : PlOk a ob p) (hx : x = (p.1 : Int) * a.st + p.2) (hi : (Tr (plA a onto ob) i)[i]? = some (x, w)) : TrE a onto ob i (succ a.ed p.2).length p w = Tr (plA a onto ob) (i + 1) := by
  unfold TrE
  rw [List.take_length, Tr, hi, ← pl_succ h h0 hp, hx]
theorem trE_pre {a : Au} {onto ob : List Int} {i t : Nat} {p : Nat × Int} {w : List Int} (_ht : t ≤ (succ a.ed p.2).length) : TrE a onto ob i t p w <+: TrE a onto ob i (succ a.ed p.2).length p w := by
  have e1 : (succ a.ed p.2).take (succ a.ed p.2).length = (succ a.ed p.2).take t ++ (succ a.ed p.2).drop t := by rw [List.take_length, List.take_append_drop]
  unfold TrE
  rw [e1, List.filterMap_append, List.foldl_append]
  exact visPL_pre w _ _
theorem trE_len {a : Au} {onto ob : List Int} {i t : Nat} {p : Nat × Int} {w : List Int} : (Tr (plA a onto ob) i).length ≤ (TrE a onto ob i t p w).length := (visPL_pre w _ _).length_le
end Go.Proofs.YtaadhpkpekmfoaaGreat

/- Layer 7: lift: the least word with an observation. -/
namespace Go.Proofs.YtaadhpkpekmfoaaGreat
open Go.RowKit Go.Sort

theorem ls_start (w : World) (gv vk : Value) (er : List Int) (S l : Nat) (W : World) (hW : W = ((((w.alloc (.cells (obL gv vk er).toArray 88)).alloc (.cells #[.slice none 0 0] 145)).alloc (.cells (List.replicate (l + 1) (Value.slice none 0 0)).toArray 149)).alloc (.cells #[.slice (some ⟨w.heap.size + 1 + 1, 0, none⟩) (l + 1) (l + 1)] 146))) :
    LS w W gv vk er S l (fun _ _ => none) (List.replicate (l + 1) (.slice none 0 0)) (.slice none 0 0) [] := by
  subst hW
  have h3 := Row.new ((w.alloc (.cells (obL gv vk er).toArray 88)).alloc (.cells #[.slice none 0 0] 145)) (List.replicate (l + 1) (Value.slice none 0 0)) 149
  have h2 := Row.new (w.alloc (.cells (obL gv vk er).toArray 88)) [.slice none 0 0] 145
  have h4 := Row.new (((w.alloc (.cells (obL gv vk er).toArray 88)).alloc (.cells #[.slice none 0 0] 145)).alloc (.cells (List.replicate (l + 1) (Value.slice none 0 0)).toArray 149)) [.slice (some ⟨w.heap.size + 1 + 1, 0, none⟩) (l + 1) (l + 1)] 146
  simp only [World.size_alloc] at h2 h3 h4
  refine ⟨((((Below.refl _ w).alloc (Nat.le_refl _) _).alloc (by simp) _).alloc (by simp; omega) _).alloc (by simp; omega) _, (((ob_box w gv vk er).alloc _).alloc _).alloc _, (h2.alloc _).alloc _, ?_, h4, ownsTail.nil _ _ _ _⟩
  refine ⟨h3.alloc _, by simp, fun d hd => .inl ⟨?_, fun _ => rfl⟩, fun d e g hd he hde h1 => ?_⟩
  · rw [List.getD, List.getElem?_replicate, if_pos (by omega)]; rfl
  · rw [List.getD, List.getElem?_replicate, if_pos (by omega)] at h1; cases h1
/-- What lift keeps while it looks at one place. -/
structure LP (w0 wr : World) (gv vk : Value) (er : List Int) (S l : Nat) (F : FoM) (ogs : List Value) (vq : Value) (ps : List (Nat × Nat)) (b d q : Nat) : Prop where
  ls : LS w0 wr gv vk er S l F ogs vq ps
  bx : Row wr b 148 [.int .i64 (d : Int), .int .i64 (q : Int)]
  ne : vq.ownBlock ≠ some b
theorem LP.call {w0 wr w' : World} {gv vk : Value} {er : List Int} {S l : Nat} {F : FoM} {ogs : List Value} {vq : Value} {ps : List (Nat × Nat)} {b d q : Nat} (h : LP w0 wr gv vk er S l F ogs vq ps b d q) (hb : Below wr.heap.size wr w') : LP w0 w' gv vk er S l F ogs vq ps b d q :=
  ⟨h.ls.call hb, h.bx.below hb h.bx.lt, h.ne⟩
/-- What lift hands back. -/
def LiV (a : Au) (onto ob : List Int) (mk : Bool) (w w' : World) (e : Ending) : Prop :=
  match lfO a onto ob mk with
  | none => e = .returned (.tuple #[.slice none 0 0, .bool false])
  | some v => ∃ r, e = .returned (.tuple #[r, .bool true]) ∧ Own w' w.heap.size r v
set_option maxHeartbeats 16000000 in
set_option maxRecDepth 100000 in
theorem jLift1_any (bg S : Nat) (a : Au) (onto ob : List Int) (mk : Bool) (vk : Value) (A2 : Option Addr) (l c2 bm ba : Nat) (w : World) (hg : RdGr w w.heap.size bg a) (hr : RightW a) (hS : a.st = (S : Int)) (hSb : S ≤ 4096) (hS0 : 0 < S) (hob : RdI w w.heap.size A2 ob) (hl : ob.length = l) (hlS : (l + 1) * S ≤ 50000)
    (hgoal : ∀ q : Nat, q < S → ∀ W, Below w.heap.size w W → Calls Tryz.prog 73 #[.int .i64 (q : Int), .pointer (some ⟨bm, 0, none⟩), .pointer (some ⟨ba, 0, none⟩)] W fun e w' => e = .returned (.bool (!mk || decide ((q : Int) ∈ a.mr))) ∧ W = w') :
    Calls Tryz.prog 72 #[.agg (obL (.slice (some ⟨bg, 0, none⟩) S S) vk (erR a onto)).toArray, .slice A2 l c2, .func (.func 73) #[] #[.pointer (some ⟨bm, 0, none⟩), .pointer (some ⟨ba, 0, none⟩)]] w fun e w' => Below w.heap.size w w' ∧ LiV a onto ob mk w w' e := by
  have hl5 : l ≤ 50000 := by
    have : (l + 1) * 1 ≤ (l + 1) * S := Nat.mul_le_mul_left _ hS0
    omega
  have hast : 0 < a.st := by omega
  have hmk := make_rows (l + 1) (by omega)
  have hm1 : ((l + 1 : Nat) : Int) = (l : Int) + 1 := by omega
  rw [hm1] at hmk
  have HG := Lib.hid hg
  have HW := Lib.hid hr
  have HSS := Lib.hid hS
  have HOB := Lib.hid hob
  have HLL := Lib.hid hl
  have HGO := Lib.hid hgoal
  obtain ⟨W0, hW0⟩ : ∃ W, W = ((((w.alloc (.cells (obL (.slice (some ⟨bg, 0, none⟩) S S) vk (erR a onto)).toArray 88)).alloc (.cells #[.slice none 0 0] 145)).alloc (.cells (List.replicate (l + 1) (Value.slice none 0 0)).toArray 149)).alloc (.cells #[.slice (some ⟨w.heap.size + 1 + 1, 0, none⟩) (l + 1) (l + 1)] 146)) := ⟨_, rfl⟩
  have hls := ls_start w (.slice (some ⟨bg, 0, none⟩) S S) vk (erR a onto) S l W0 hW0
  have HLS := Lib.hid hls
  have HFi := Lib.hid (jFindP_any w W0 bg S l 0 0 vk (erR a onto) _ _ _ _ 0 0 hls (Nat.zero_le _) hS0 hSb (by omega) (by omega) (by omega) (by simp))
  have HPR := Lib.hid (plc_right hr hast (onto := onto) (ob := ob))
  have HPP := Lib.hid (plc_pos hast (a := a) (onto := onto) (ob := ob))
  have HST := Lib.hid (show (plA a onto ob).st.toNat = (l + 1) * S by
    show (((ob.length + 1) * a.st.toNat : Nat) : Int).toNat = _
    rw [hl, hS]; simp; rw [show ((l : Int) + 1) * (S : Int) = (((l + 1) * S : Nat) : Int) by simp]; exact Int.toNat_natCast _)
  have c0 := hls.ob.cell 0 (show (obL (.slice (some ⟨bg, 0, none⟩) S S) vk (erR a onto))[0]? = some (.slice (some ⟨bg, 0, none⟩) S S) from rfl)
  have HC0 := Lib.hid c0
  have HW0 := Lib.hid hW0
  have z0 : (0 : Int) < (S : Int) := by omega
  clear hg hr hS hob hl hgoal hls hm1 hW0
  simp only [List.toArray_replicate] at hmk HW0
  go_enter Tryz.func72, Tryz.ntmps72
  go_upto_region 4 with fail
  rw [← HW0.out]
  clear HW0 hmk
  go_wp2_with fail
  refine HFi.out.mono ?_
  rintro e w5 ⟨rfl, ogs5, vq5, hls5, _⟩
  have HLS5 := Lib.hid hls5
  have HLI5 := Lib.hid (li_start HSS.out hS0 (erR a onto) (plA a onto ob) (l := l))
  obtain ⟨N, hN⟩ : ∃ N, N = (l + 1) * S := ⟨_, rfl⟩
  rw [← hN] at HST hlS
  have HNN := Lib.hid hN
  clear hls5 HFi HLS c0 HC0 hN
  go_wp2_with fail
  go_loopg [11] (N + 1) (fun k _ wr => ∃ (i : Nat) (F : FoM) (ogs : List Value) (vq : Value) (ps : List (Nat × Nat)), k + i = N + 1 ∧ i ≤ N ∧ Hid (LS w wr (.slice (some ⟨bg, 0, none⟩) S S) vk (erR a onto) S l F ogs vq ps) ∧ Hid (LI a (erR a onto) S l (Tr (plA a onto ob) i) i F ps) ∧ Hid (i ≤ (Tr (plA a onto ob) i).length) ∧ Hid (∀ (j : Nat) (r : Int × List Int), j < i → (Tr (plA a onto ob) i)[j]? = some r → glB a ob mk r.1 = false))
  case atStart => exact ⟨0, _, ogs5, vq5, _, by omega, Nat.zero_le _, HLS5, HLI5, Lib.hid (Nat.zero_le _), Lib.hid (fun j r hj => by omega)⟩
  case round =>
    clear HLS5 HLI5
    obtain ⟨i, F, ogs, vq, ps, hki, hiN, hls, hli, hiT, hng⟩ := hrel
    have HKI := Lib.hid hki
    obtain ⟨Aq, cq, hvq, hqn, hqc⟩ := hls.out.qo.shape
    subst hvq
    have hqb := hls.out.qb.cell 0 rfl
    have hTN : (Tr (plA a onto ob) i).length ≤ N := by have := tr_len_le HPR.out HPP.out i; rw [HST.out] at this; exact this
    clear hki
    cases ps with
    | nil =>
      have hle : (Tr (plA a onto ob) i).length ≤ i := by
        have := congrArg List.length hli.out.ps
        rw [List.length_map, List.length_drop] at this
        simp at this; omega
      have HLF := Lib.hid (lf_none (mk := mk) hast hle (fun j r hj => hng.out j r (by have := (List.getElem?_eq_some_iff.1 hj).1; omega) hj) (by rw [HST.out]; exact hiN))
      go_wp2_with fail
      go_ret2
      refine ⟨hls.out.bel, ?_⟩
      unfold LiV
      rw [HLF.out]; rfl
    | cons p ps =>
      obtain ⟨d, q⟩ := p
      have hdrop := hli.out.ps
      have hiL : i < (Tr (plA a onto ob) i).length := by
        have := congrArg List.length hdrop
        rw [List.length_map, List.length_drop] at this
        simp at this; omega
      obtain ⟨⟨x, v⟩, hxv⟩ : ∃ y, (Tr (plA a onto ob) i)[i]? = some y := ⟨_, List.getElem?_eq_getElem hiL⟩
      have hxm := List.mem_of_getElem? hxv
      rw [List.drop_eq_getElem_cons hiL, List.map_cons] at hdrop
      have hxe : (Tr (plA a onto ob) i)[i] = (x, v) := by obtain ⟨_, h2⟩ := List.getElem?_eq_some_iff.1 hxv; exact h2
      rw [hxe] at hdrop
      injection hdrop with hpx hps
      have hxr : 0 ≤ x ∧ x < (plA a onto ob).st := by
        refine Fd_range HPR.out HPP.out i x ?_
        rw [← tr_fst]; exact List.mem_map.2 ⟨_, hxm, rfl⟩
      obtain ⟨pp, hpok, hxp⟩ := pl_place HW.out hast hxr
      have hpq : pp = (d, (q : Int)) := by
        obtain ⟨h1, h2⟩ := pl_div (d := pp.1) hpok.2.1 hpok.2.2
        have h3 : plD a x = (pp.1, pp.2.toNat) := by unfold plD; rw [hxp, h1, h2]; simp
        rw [h3] at hpx
        injection hpx with h4 h5
        refine Prod.ext h4.symm ?_
        have := hpok.2.1
        show pp.2 = (q : Int)
        omega
      subst hpq
      have hdl : d ≤ l := by have := hpok.1; rw [HLL.out] at this; exact this
      have hqS : q < S := by have := hpok.2.2; rw [HSS.out] at this; simpa using this
      have HXV := Lib.hid hxv
      have HPOK := Lib.hid hpok
      have HXP := Lib.hid hxp
      have HPX := Lib.hid hpx.symm
      have HPS := Lib.hid hps
      obtain ⟨gq, oq, cq', haq, hgq, _⟩ := hls.out.qo.addr (by simp)
      injection haq with haq _ haq2
      subst haq haq2
      have hq0 := hls.out.qo.cell 0 (u := .int .i64 (d : Int)) (by simp [encP])
      have hq1 := hls.out.qo.cell 1 (u := .int .i64 (q : Int)) (by simp [encP])
      rw [Nat.add_zero] at hq0
      have hbz := hls.out.bel.size
      obtain ⟨b, hb⟩ : ∃ b, b = wr.heap.size := ⟨_, rfl⟩
      obtain ⟨lp, hlp⟩ : ∃ n, n = ps.length := ⟨_, rfl⟩
      obtain ⟨n, hn⟩ : ∃ n, n = ps.length + 1 := ⟨_, rfl⟩
      have htl := hls.out.qo
      rw [show encP ((d, q) :: ps) = [.int .i64 (d : Int), .int .i64 (q : Int)] ++ encP ps from rfl, List.length_cons] at htl
      have htl2 := htl.tail rfl
      rw [List.length_cons, ← hn] at hqb hqn
      have hgqb : gq ≠ b := by omega
      have i1 : (1 : Int) ≤ (n : Int) := by omega
      have i2 : (n : Int) ≤ (cq : Int) := by omega
      have i3 : (0 : Int) < (n : Int) := by omega
      have HB := Lib.hid hb
      have HLP := Lib.hid hlp
      have HN := Lib.hid hn
      have HTL2 := Lib.hid htl2
      have HGQ := Lib.hid hgqb
      clear hxv hxm hxr hpok hxp hpx hps hxe htl htl2 hgqb hlp hn hb
      have hb6 : Below wr.heap.size wr (wr.alloc (.cells #[.int .i64 (d : Int), .int .i64 (q : Int)] 148)) := (Below.refl _ _).alloc (Nat.le_refl _) _
      have hbx6 := Row.new wr [.int .i64 (d : Int), .int .i64 (q : Int)] 148
      obtain ⟨W6, hW6⟩ : ∃ W, W = wr.alloc (.cells #[.int .i64 (d : Int), .int .i64 (q : Int)] 148) := ⟨_, rfl⟩
      have HL6 := Lib.hid (show LS w W6 (.slice (some ⟨bg, 0, none⟩) S S) vk (erR a onto) S l F ogs _ ((d, q) :: ps) from by rw [hW6]; exact hls.out.call hb6)
      have HX6 := Lib.hid (show Row W6 b 148 [.int .i64 (d : Int), .int .i64 (q : Int)] from by rw [hW6, HB.out]; exact hbx6)
      have HT6 := Lib.hid (show ownsTail W6 w.heap.size 148 2 _ ps.length (encP ps) from by rw [hW6]; exact HTL2.out.below hb6)
      have HW6 := Lib.hid hW6
      clear hb6 hbx6 hW6 HTL2
      go_upto_region 8 with fail
      rw [← HW6.out, ← HB.out]
      have HLI := Lib.hid hli.out
      clear hls hqb hq0 hq1 HW6 hli hbz
      have c0 := HL6.out.qb.cell 0 rfl
      rw [List.length_cons, ← HN.out] at c0
      have f0 := HL6.out.qb.frozen 0
      go_upto_region 9 with fail
      rw [show decide (0 < n) = true from decide_eq_true (by omega)]
      obtain ⟨vq', hvq'⟩ : ∃ v, v = Value.slice (if cq = 1 then some ⟨gq, oq, none⟩ else some ⟨gq, oq + 2, none⟩) (n - 1) (cq - 1) := ⟨_, rfl⟩
      rw [← hvq']
      have hn1 : n - 1 = ps.length := by have := HN.out; omega
      have ht6 : ownsTail W6 w.heap.size 148 2 vq' ps.length (encP ps) := by rw [hvq', hn1]; exact HT6.out
      have HL7 := Lib.hid (HL6.out.pop ht6)
      have HX7 := Lib.hid (Row.setOther (p := ⟨w.heap.size + 1, 0, none⟩) HX6.out (rows_neJ HX6.out HL6.out.qb (by decide)) vq')
      have hne7 : vq'.ownBlock ≠ some b := by
        rw [hvq']
        have := HGQ.out
        by_cases hc : cq = 1
        · rw [if_pos hc]; simpa [Value.ownBlock] using this
        · rw [if_neg hc]; simpa [Value.ownBlock] using this
      have HP7 := Lib.hid (show LP w (W6.setCell ⟨w.heap.size + 1, 0, none⟩ vq') (.slice (some ⟨bg, 0, none⟩) S S) vk (erR a onto) S l F ogs vq' ps b d q from ⟨HL7.out, HX7.out, hne7⟩)
      obtain ⟨W7, hW7⟩ : ∃ W, W = W6.setCell ⟨w.heap.size + 1, 0, none⟩ vq' := ⟨_, rfl⟩
      rw [← hW7] at HP7 ⊢
      have hgl := gl_place (mk := mk) HPOK.out
      rw [HLL.out] at hgl
      simp only at hgl
      obtain ⟨gb, hgb⟩ : ∃ g, g = glB a ob mk x := ⟨_, rfl⟩
      have HGB := Lib.hid (show gb = (decide (d = l) && (!mk || decide ((q : Int) ∈ a.mr))) by rw [hgb, HXP.out]; exact hgl)
      have HGX := Lib.hid hgb
      have HLI7 := Lib.hid (show LI a (erR a onto) S l (TrE a onto ob i 0 (d, (q : Int)) v) (i + 1) F ps from ⟨HLI.out.inF, HLI.out.wt, HPS.out, HLI.out.root⟩)
      clear c0 f0 HL6 HX6 HT6 HL7 HX7 hvq' hn1 ht6 hne7 hW7 hgl hgb HN HGQ i1 i2 i3 hqn hqc HLP
      have b0 := HP7.out.bx.cell 0 rfl
      have b1 := HP7.out.bx.cell 1 rfl
      go_cut [44] from 34 to 44 (fun v44 wx => v44 = .bool gb ∧ wx = W7)
      case first =>
        by_cases hdd : d = l
        · have hz : ((d : Int) == (l : Int)) = true := by simp; omega
          have hgc := Lib.hid (HGO.out q hqS W7 HP7.out.ls.bel)
          have hge : (!mk || decide ((q : Int) ∈ a.mr)) = gb := by rw [HGB.out, decide_eq_true hdd]; simp
          rw [hge] at hgc
          have HDD := Lib.hid hdd
          clear hdd hge
          go_wp2_with fail
          refine hgc.out.mono ?_
          rintro e w8 ⟨rfl, hw8⟩
          subst hw8
          go_wp2_with fail
          go_meet
          case rel => exact ⟨rfl, rfl⟩
        · have hz : ((d : Int) == (l : Int)) = false := by simp; omega
          have hge := Lib.hid (show gb = false by rw [HGB.out, decide_eq_false hdd]; rfl)
          clear hdd
          go_wp2_with fail
          go_meet
          case rel => exact ⟨by rw [hge.out], rfl⟩
      case rest =>
        obtain ⟨rfl, hwx⟩ := hcut
        subst hwx
        cases gb with
        | true =>
          have HWT := Lib.hid (show WT F (erR a onto) S l d q v from by
            have := HLI7.out.wt (x, v) (List.mem_of_getElem? HXV.out)
            rw [HPX.out] at this; exact this)
          have HLF := Lib.hid (lf_at (mk := mk) hast HXV.out HGX.out.symm hng.out (by rw [HST.out]; exact hiN))
          have hvl : v.length ≤ 100000 := by have := tr_len_w (plA a onto ob) i (x, v) (List.mem_of_getElem? HXV.out); simp only at this; omega
          have HWC := Lib.hid (jWordTo_any (.slice (some ⟨bg, 0, none⟩) S S) vk (erR a onto) (w.heap.size + 1 + 1) w.heap.size S l d q F ogs v wc HP7.out.ls.og HWT.out hvl hSb (by omega) HP7.out.ls.bel.size)
          have hrg := Lib.hid (show wc.rangeAt w.heap.size 0 (obL (.slice (some ⟨bg, 0, none⟩) S S) vk (erR a onto)) from fun i v hi => by rw [Nat.zero_add]; exact HP7.out.ls.ob.cell i hi)
          have hsz := Lib.hid (show (Tryz.prog.info? 88).map (·.size) = some (obL (.slice (some ⟨bg, 0, none⟩) S S) vk (erR a onto)).length by rw [obs_size, ob_len])
          have o0 := HP7.out.ls.ox.cell 0 rfl
          clear hvl
          go_wp2_with (first | refine wpList_load_mid rfl 88 (.tmp 3) rfl w.heap.size 0 rfl (obL (.slice (some ⟨bg, 0, none⟩) S S) vk (erR a onto)) _ hrg.out Tryz.underlying88 rfl hsz.out ?_)
          refine HWC.out.mono ?_
          rintro e w9 ⟨r, rfl, hown, hb9⟩
          go_wp2_with fail
          go_ret2
          refine ⟨HP7.out.ls.bel.trans (hb9.mono HP7.out.ls.bel.size), ?_⟩
          unfold LiV
          rw [HLF.out]
          exact ⟨r, rfl, own_more hown HP7.out.ls.bel.size⟩
        | false =>
          obtain ⟨vE, hv1, AE, cE, rfl, hrE, hlE, hmE⟩ := HG.out.2 q (by rw [HSS.out]; simpa using hqS)
          have cg := (HP7.out.ls.bel.cell (p := ⟨bg, q, none⟩) HG.out.1).trans hv1
          obtain ⟨D, hD⟩ : ∃ D, D = (succ a.ed (q : Int)).length := ⟨_, rfl⟩
          rw [← hD] at cg hlE
          have HD := Lib.hid hD
          have HRE := Lib.hid hrE
          have c0 := HP7.out.ls.ob.cell 0 (show (obL (.slice (some ⟨bg, 0, none⟩) S S) vk (erR a onto))[0]? = some (.slice (some ⟨bg, 0, none⟩) S S) from rfl)
          have z2 : (0 : Int) ≤ (q : Int) := by omega
          have z3 : (q : Int) < (S : Int) := by omega
          have HNG := Lib.hid hng.out
          clear hv1 hrE hD hng
          go_wp2_with fail
          clear c0 cg b0 b1
          go_loopw [56] (fun jv wx => ∃ (t : Nat) (F : FoM) (ogs : List Value) (vq : Value) (ps : List (Nat × Nat)), t ≤ D ∧ jv = .int .i64 t ∧ Hid (LP w wx (.slice (some ⟨bg, 0, none⟩) S S) vk (erR a onto) S l F ogs vq ps b d q) ∧ Hid (LI a (erR a onto) S l (TrE a onto ob i t (d, (q : Int)) v) (i + 1) F ps)) (fun jv _ => D - (intOf jv).toNat)
          case atStart => exact ⟨0, F, ogs, vq', ps, Nat.zero_le _, rfl, HP7, HLI7⟩
          case round =>
            clear HP7 HLI7
            obtain ⟨t, F, ogs, vq, ps, htD, rfl, hlp, hli⟩ := hrel
            by_cases h1 : t < D
            · obtain ⟨b2, o2, rfl, hb2, hc2⟩ := HRE.out (by rw [← HD.out]; omega)
              obtain ⟨y, hy⟩ : ∃ y, (succ a.ed (q : Int))[t]? = some y := ⟨_, List.getElem?_eq_getElem (by rw [← HD.out]; exact h1)⟩
              obtain ⟨g1, g2, g3⟩ := hc2 t y hy
              have d1 := (hlp.out.ls.bel.cell (p := ⟨b2, o2 + t * 3, none⟩) hb2).trans g1
              have d2 := (hlp.out.ls.bel.cell (p := ⟨b2, o2 + t * 3 + 1, none⟩) hb2).trans g2
              have d3 := (hlp.out.ls.bel.cell (p := ⟨b2, o2 + t * 3 + 2, none⟩) hb2).trans g3
              have hed := HW.out.edr y (mem_succ.1 (List.mem_of_getElem? hy)).1
              have hev := HW.out.alr _ hed.2.2
              rw [HSS.out] at hed
              obtain ⟨e, he⟩ : ∃ e : Nat, y.e = (e : Int) := ⟨y.e.toNat, by omega⟩
              obtain ⟨p, hp⟩ : ∃ p : Nat, y.t = (p : Int) := ⟨y.t.toNat, by omega⟩
              obtain ⟨f, hfv⟩ : ∃ f, f = y.f := ⟨_, rfl⟩
              have he32 : e < 32 := by omega
              have hpS : p < S := by omega
              have heal : (e : Int) ∈ a.al := by rw [← he]; exact hed.2.2
              rw [← hfv] at d1
              rw [he] at d2
              rw [hp] at d3
              have hmem : (x, v) ∈ TrE a onto ob i t (d, (q : Int)) v := (visPL_pre v _ _).subset (List.mem_of_getElem? HXV.out)
              have HWT := Lib.hid (show WT F (erR a onto) S l d q v from by
                have := hli.out.wt (x, v) hmem
                rw [HPX.out] at this; exact this)
              have hpsl : ps.length ≤ 10000000000 := by
                have k1 := congrArg List.length hli.out.ps
                rw [List.length_map, List.length_drop] at k1
                have k2 := (trE_pre (a := a) (onto := onto) (ob := ob) (i := i) (t := t) (p := (d, (q : Int))) (w := v) (by show t ≤ (succ a.ed (q : Int)).length; rw [← HD.out]; omega)).length_le
                rw [trE_all HW.out hast HPOK.out HXP.out HXV.out] at k2
                have k3 := tr_len_le HPR.out HPP.out (i + 1)
                rw [HST.out] at k3
                omega
              obtain ⟨rb, hrb⟩ : ∃ r, r = decide ((e : Int) ∈ erR a onto) := ⟨_, rfl⟩
              have HRB := Lib.hid hrb
              have HY := Lib.hid hy
              have HEE := Lib.hid he
              have HTT := Lib.hid hp
              have HAL := Lib.hid heal
              have hb1 : Below wr.heap.size wr (wr.alloc (.cells #[.int .i64 f, .int .i64 (e : Int), .int .i64 (p : Int)] 79)) := (Below.refl _ _).alloc (Nat.le_refl _) _
              obtain ⟨W1, hW1⟩ : ∃ W, W = wr.alloc (.cells #[.int .i64 f, .int .i64 (e : Int), .int .i64 (p : Int)] 79) := ⟨_, rfl⟩
              obtain ⟨E, hE⟩ : ∃ E, E = wr.heap.size := ⟨_, rfl⟩
              have HL1 := Lib.hid (show LP w W1 (.slice (some ⟨bg, 0, none⟩) S S) vk (erR a onto) S l F ogs vq ps b d q from by rw [hW1]; exact hlp.out.call hb1)
              have HEB := Lib.hid (show Row W1 E 79 [.int .i64 f, .int .i64 (e : Int), .int .i64 (p : Int)] from by rw [hW1, hE]; exact Row.new wr [.int .i64 f, .int .i64 (e : Int), .int .i64 (p : Int)] 79)
              have HLI := Lib.hid hli.out
              have z4 : (t : Int) < (D : Int) := by omega
              have z5 : (0 : Int) ≤ (t : Int) := by omega
              have z6 : (0 : Int) ≤ (e : Int) := by omega
              have z7 : (e : Int) < 32 := by omega
              have HW1 := Lib.hid hW1
              have HE := Lib.hid hE
              clear hc2 hy g1 g2 g3 hed hev he hp hfv hmem hrb heal hb1 hW1 hE hlp hli
              go_upto_region 14 with fail
              rw [← HW1.out, ← HE.out]
              clear d1 d2 d3
              have p0 := HEB.out.cell 0 rfl
              have p1 := HEB.out.cell 1 rfl
              have p2 := HEB.out.cell 2 rfl
              have b0 := HL1.out.bx.cell 0 rfl
              have b1 := HL1.out.bx.cell 1 rfl
              have cf := HL1.out.ls.ob.cell (2 + e) (ob_at2 (.slice (some ⟨bg, 0, none⟩) S S) vk (erR a onto) he32)
              rw [← HRB.out] at cf
              cases rb with
              | true =>
                have her : (e : Int) ∈ erR a onto := by simpa using HRB.out.symm
                have hno : y.e ∉ onto := by rw [HEE.out]; exact (mem_erR.1 her).2
                have HFi := Lib.hid (jFindP_any w W1 bg S l d p vk (erR a onto) F ogs vq ps e q HL1.out.ls hdl hpS hSb (by omega) he32 (by omega) hpsl)
                have HLS := Lib.hid (li_step HLI.out HSS.out (Nat.le_trans (List.getElem?_eq_some_iff.1 HXV.out).1 trE_len) HWT.out hdl hpS he32 (by omega) (by rw [if_pos her]) ((d : Int) * a.st + (q : Int)))
                go_wp2_with fail
                refine HFi.out.mono ?_
                rintro e w9 ⟨rfl, ogs9, vq9, hls9, hkp⟩
                obtain ⟨hbx9, hne9⟩ := hkp.2 b 148 _ HL1.out.bx (by decide) (by decide) (by decide) HL1.out.ne
                have HL9 := Lib.hid (show LP w w9 (.slice (some ⟨bg, 0, none⟩) S S) vk (erR a onto) S l _ ogs9 vq9 _ b d q from ⟨hls9, hbx9, hne9⟩)
                clear hls9 hkp hbx9 hne9
                go_wp2_with fail
                go_roundw
                case rel => exact ⟨t + 1, _, ogs9, vq9, _, by omega, by go_num, HL9, Lib.hid (by
                  rw [trE_succ HY.out]
                  rw [show plY a onto ob (d, (q : Int)) y = some ⟨(d : Int) * a.st + (q : Int), (e : Int), plE' a d p⟩ from by unfold plY plE'; rw [if_neg hno, HEE.out, HTT.out]]
                  exact HLS.out)⟩
                case measure => simp [intOf]; omega
              | false =>
                have her : (e : Int) ∉ erR a onto := by simpa using HRB.out.symm
                have hon : y.e ∈ onto := by
                  rw [HEE.out]
                  by_cases h2 : (e : Int) ∈ onto
                  · exact h2
                  · exact absurd (mem_erR.2 ⟨HAL.out, h2⟩) her
                have HPN := Lib.hid (show d < l → ob[d]? = some (e : Int) → plY a onto ob (d, (q : Int)) y = some ⟨(d : Int) * a.st + (q : Int), (e : Int), plE' a (d + 1) p⟩ from fun _ h2 => by unfold plY plE'; rw [if_pos hon, HEE.out, HTT.out]; show (if ob[d]? = some (e : Int) then _ else _) = _; rw [if_pos h2])
                have HPN0 := Lib.hid (show ob[d]? ≠ some (e : Int) → plY a onto ob (d, (q : Int)) y = none from fun h2 => by unfold plY; rw [if_pos hon, HEE.out]; show (if ob[d]? = some (e : Int) then _ else _) = _; rw [if_neg h2])
                by_cases hdl2 : d < l
                · obtain ⟨A, oA, hAe, hA, hcA⟩ := HOB.out (by rw [HLL.out]; omega)
                  have cA := (HL1.out.ls.bel.cell (p := ⟨A, oA + d, none⟩) hA).trans (hcA d (by rw [HLL.out]; exact hdl2))
                  obtain ⟨z, hz⟩ : ∃ z, z = ob.getD d 0 := ⟨_, rfl⟩
                  rw [← hz] at cA
                  have HOZ := Lib.hid (show ob[d]? = some z by rw [hz, List.getD, List.getElem?_eq_getElem (by rw [HLL.out]; exact hdl2)]; rfl)
                  have zl : (d : Int) < (l : Int) := by omega
                  have z0 : (0 : Int) ≤ (d : Int) := by omega
                  subst hAe
                  clear hz hcA hA
                  by_cases hze : (e : Int) = z
                  · subst hze
                    have HPE := Lib.hid (HPN.out hdl2 HOZ.out)
                    have HFi := Lib.hid (fun n => jFindP_any w (W1.drewN n) bg S l (d + 1) p vk (erR a onto) F ogs vq ps e q (HL1.out.call (below_drewN (Below.refl _ _) n)).ls hdl2 hpS hSb (by omega) he32 (by omega) hpsl)
                    have HLS := Lib.hid (li_step HLI.out HSS.out (Nat.le_trans (List.getElem?_eq_some_iff.1 HXV.out).1 trE_len) HWT.out hdl2 hpS he32 (by omega) (by rw [if_neg her]) ((d : Int) * a.st + (q : Int)))
                    have d1 : ((d + 1 : Nat) : Int) = (d : Int) + 1 := by omega
                    rw [d1] at HFi
                    go_upto_region 16 with fail
                    go_quiet (fail)
                    go_wp2_with fail
                    refine (HFi.out _).mono ?_
                    rintro e w9 ⟨rfl, ogs9, vq9, hls9, hkp⟩
                    obtain ⟨hbx9, hne9⟩ := hkp.2 b 148 _ (HL1.out.call (below_drewN (Below.refl _ _) _)).bx (by decide) (by decide) (by decide) HL1.out.ne
                    have HL9 := Lib.hid (show LP w w9 (.slice (some ⟨bg, 0, none⟩) S S) vk (erR a onto) S l _ ogs9 vq9 _ b d q from ⟨hls9, hbx9, hne9⟩)
                    clear hls9 hkp hbx9 hne9
                    go_wp2_with fail
                    go_roundw
                    case rel => exact ⟨t + 1, _, ogs9, vq9, _, by omega, by go_num, HL9, Lib.hid (by rw [trE_succ HY.out, HPE.out]; exact HLS.out)⟩
                    case measure => simp [intOf]; omega
                  · have HPE := Lib.hid (HPN0.out (by rw [HOZ.out]; exact fun h => hze (by injection h with h; exact h.symm)))
                    have hzf : ((e : Int) == z) = false := by simpa using hze
                    have HLD := Lib.hid (fun n => HL1.out.call (below_drewN (Below.refl _ W1) n))
                    go_upto_region 16 with fail
                    go_quiet (fail)
                    go_wp2_with fail
                    go_roundw
                    case rel => exact ⟨t + 1, F, ogs, vq, ps, by omega, by go_num, Lib.hid (HLD.out _), Lib.hid (by rw [trE_succ HY.out, HPE.out]; exact HLI.out)⟩
                    case measure => simp [intOf]; omega
                · have HPE := Lib.hid (HPN0.out (by rw [List.getElem?_eq_none (by rw [HLL.out]; omega)]; simp))
                  have hd1 : decide ((d : Int) < (l : Int)) = false := by simpa using hdl2
                  have hd2 : decide (d < l) = false := by simpa using hdl2
                  have HLD := Lib.hid (fun n => HL1.out.call (below_drewN (Below.refl _ W1) n))
                  go_upto_region 16 with fail
                  go_quiet (fail)
                  go_wp2_with fail
                  go_roundw
                  case rel => exact ⟨t + 1, F, ogs, vq, ps, by omega, by go_num, Lib.hid (HLD.out _), Lib.hid (by rw [trE_succ HY.out, HPE.out]; exact HLI.out)⟩
                  case measure => simp [intOf]; omega
            · obtain rfl : t = D := by omega
              have HLE := Lib.hid (show LI a (erR a onto) S l (Tr (plA a onto ob) (i + 1)) (i + 1) F ps from by
                have := hli.out
                rw [HD.out, trE_all HW.out hast HPOK.out HXP.out HXV.out] at this; exact this)
              have HLL2 := Lib.hid hlp.out.ls
              clear hlp hli
              go_wp2_with fail
              go_roundg (N + 1 - (i + 1))
              case measure => have := HKI.out; omega
              case rel =>
                refine ⟨i + 1, F, ogs, vq, ps, ?_, ?_, HLL2, HLE, ?_, ?_⟩
                · omega
                · omega
                · exact Lib.hid (Nat.le_trans (Nat.succ_le_of_lt hiL) (tr_pre _ _).length_le)
                · refine Lib.hid fun j r hj hr => ?_
                  have h2 : (Tr (plA a onto ob) i)[j]? = some r := by
                    have hlt : j < (Tr (plA a onto ob) i).length := by omega
                    have h3 := pre_at (tr_pre (plA a onto ob) i) (List.getElem?_eq_getElem hlt)
                    rw [List.getElem?_eq_getElem hlt, ← h3]; exact hr
                  by_cases h4 : j = i
                  · subst h4
                    have h5 := HXV.out.symm.trans h2
                    injection h5 with h5
                    rw [← h5]; exact HGX.out.symm
                  · exact HNG.out j r (by omega) h2
set_option maxHeartbeats 16000000 in
set_option maxRecDepth 100000 in
theorem jLift0_any (bg : Nat) (a : Au) (onto ob : List Int) (mk : Bool) (vk : Value) (A2 : Option Addr) (l c2 bm ba : Nat) (w : World) (hS : a.st = ((0 : Nat) : Int)) (hlS : l + 1 ≤ 100000) :
    Calls Tryz.prog 72 #[.agg (obL (.slice (some ⟨bg, 0, none⟩) (0 : Nat) (0 : Nat)) vk (erR a onto)).toArray, .slice A2 l c2, .func (.func 73) #[] #[.pointer (some ⟨bm, 0, none⟩), .pointer (some ⟨ba, 0, none⟩)]] w fun e w' => Below w.heap.size w w' ∧ LiV a onto ob mk w w' e := by
  have hmk := make_rows (l + 1) (by omega)
  have hm1 : ((l + 1 : Nat) : Int) = (l : Int) + 1 := by omega
  rw [hm1] at hmk
  have HSS := Lib.hid hS
  obtain ⟨W0, hW0⟩ : ∃ W, W = ((((w.alloc (.cells (obL (.slice (some ⟨bg, 0, none⟩) (0 : Nat) (0 : Nat)) vk (erR a onto)).toArray 88)).alloc (.cells #[.slice none 0 0] 145)).alloc (.cells (List.replicate (l + 1) (Value.slice none 0 0)).toArray 149)).alloc (.cells #[.slice (some ⟨w.heap.size + 1 + 1, 0, none⟩) (l + 1) (l + 1)] 146)) := ⟨_, rfl⟩
  have hls := ls_start w (.slice (some ⟨bg, 0, none⟩) (0 : Nat) (0 : Nat)) vk (erR a onto) 0 l W0 hW0
  have c0 := hls.ob.cell 0 (show (obL (.slice (some ⟨bg, 0, none⟩) (0 : Nat) (0 : Nat)) vk (erR a onto))[0]? = some (.slice (some ⟨bg, 0, none⟩) (0 : Nat) (0 : Nat)) from rfl)
  have c1 := hls.qb.cell 0 rfl
  have HLS := Lib.hid hls
  have HC0 := Lib.hid c0
  have HW0 := Lib.hid hW0
  have HLF := Lib.hid (show lfO a onto ob mk = none by unfold lfO; rw [if_pos (show a.st = 0 by rw [hS]; rfl)])
  clear hS hls hm1 hW0
  simp only [List.toArray_replicate] at hmk HW0
  go_enter Tryz.func72, Tryz.ntmps72
  go_upto_region 4 with fail
  rw [← HW0.out]
  clear HW0 hmk
  go_wp2_with fail
  go_loopg [11] 1 (fun k _ wr => wr = W0)
  case atStart => rfl
  case round =>
    subst hrel
    go_wp2_with fail
    go_ret2
    refine ⟨HLS.out.bel, ?_⟩
    unfold LiV
    rw [HLF.out]; rfl
end Go.Proofs.YtaadhpkpekmfoaaGreat

/- Layer 7: Lift. -/
namespace Go.Proofs.YtaadhpkpekmfoaaGreat
open Go.RowKit Go.Sort

/-- What Lift hands back. -/
def LfV (a : Au) (onto ob : List Int) (mk : Bool) (w w' : World) (e : Ending) : Prop :=
  (cweE a onto ≠ 0 ∧ e = .returned (.tuple #[.slice none 0 0, .bool false, .int .i64 (cweE a onto)])) ∨
  (cweE a onto = 0 ∧ ob.all (fun x => decide (x ∈ kpR a onto)) = false ∧ e = .returned (.tuple #[.slice none 0 0, .bool false, .int .i64 9])) ∨
  (cweE a onto = 0 ∧ ob.all (fun x => decide (x ∈ kpR a onto)) = true ∧ (match lfO a onto ob mk with
    | none => e = .returned (.tuple #[.slice none 0 0, .bool false, .int .i64 0])
    | some v => ∃ r, e = .returned (.tuple #[r, .bool true, .int .i64 0]) ∧ Own w' w.heap.size r v))
theorem jLift_any (bg S : Nat) (a : Au) (onto ob : List Int) (mk : Bool) (vk : Value) (A2 : Option Addr) (l c2 bm ba : Nat) (w : World) (hg : RdGr w w.heap.size bg a) (hr : RightW a) (hS : a.st = (S : Int)) (hSb : S ≤ 4096) (hob : RdI w w.heap.size A2 ob) (hl : ob.length = l) (hlS : (l + 1) * (S + 1) ≤ 50000)
    (hgoal : ∀ q : Nat, q < S → ∀ W, Below w.heap.size w W → Calls Tryz.prog 73 #[.int .i64 (q : Int), .pointer (some ⟨bm, 0, none⟩), .pointer (some ⟨ba, 0, none⟩)] W fun e w' => e = .returned (.bool (!mk || decide ((q : Int) ∈ a.mr))) ∧ W = w') :
    Calls Tryz.prog 72 #[.agg (obL (.slice (some ⟨bg, 0, none⟩) S S) vk (erR a onto)).toArray, .slice A2 l c2, .func (.func 73) #[] #[.pointer (some ⟨bm, 0, none⟩), .pointer (some ⟨ba, 0, none⟩)]] w fun e w' => Below w.heap.size w w' ∧ LiV a onto ob mk w w' e := by
  have h1 : (l + 1) * (S + 1) = (l + 1) * S + (l + 1) := Nat.mul_succ _ _
  rcases Nat.eq_zero_or_pos S with rfl | h0
  · exact jLift0_any bg a onto ob mk vk A2 l c2 bm ba w hS (by omega)
  · exact jLift1_any bg S a onto ob mk vk A2 l c2 bm ba w hg hr hS hSb h0 hob hl (by omega) hgoal
set_option maxHeartbeats 4000000 in
set_option maxRecDepth 100000 in
theorem jGoal_any (bm ba Bx : Nat) (A : Option Addr) (n c : Nat) (s : Int) (M : Option Addr) (m d : Nat) (E : Option Addr) (k g : Nat) (mk : Bool) (zs : List Int) (q : Int) (w : World) (hm : Row w bm 4 [.bool mk]) (ha : Row w ba 33 [.slice A n c, .int .i64 s, .slice M m d, .slice E k g]) (hz : RdI w Bx M zs) (hn : zs.length = m) (hb : m ≤ 100000) (hup : Up zs) :
    Calls Tryz.prog 73 #[.int .i64 q, .pointer (some ⟨bm, 0, none⟩), .pointer (some ⟨ba, 0, none⟩)] w fun e w' => e = .returned (.bool (!mk || decide (q ∈ zs))) ∧ w = w' := by
  have HC := Lib.hid (jContains_any M m d Bx zs q w hz hn (by omega) hup)
  obtain ⟨v, hv⟩ : ∃ v, v = decide (q ∈ zs) := ⟨_, rfl⟩
  rw [← hv] at HC ⊢
  have p0 := hm.cell 0 rfl
  have p2 := ha.cell 2 rfl
  clear hm ha hz hn hup hv
  cases mk
  · go_enter Tryz.func73, Tryz.ntmps73
    go_wp2_with fail
    go_ret
    exact ⟨rfl, rfl⟩
  · go_enter Tryz.func73, Tryz.ntmps73
    go_wp2_with fail
    refine HC.out.mono ?_
    rintro e w1 ⟨rfl, rfl⟩
    go_wp2_with fail
    go_ret
    exact ⟨by simp, rfl⟩
set_option maxHeartbeats 8000000 in
set_option maxRecDepth 100000 in
theorem jLiftP_any (A : Option Addr) (n c : Nat) (s : Int) (M : Option Addr) (m d : Nat) (E : Option Addr) (k g : Nat) (A3 : Option Addr) (n3 c3 : Nat) (a : Au) (onto : List Int) (A2 : Option Addr) (l c2 : Nat) (ob : List Int) (mk : Bool) (w : World) (h : AuR w w.heap.size A n c s M m d E k g a) (ho : RdI w w.heap.size A3 onto) (hn : onto.length = n3) (hc3 : n3 ≤ c3 ∧ c3 ≤ 9223372036854775807) (hb3 : n3 ≤ 100000) (hob : RdI w w.heap.size A2 ob) (hl : ob.length = l) (hl10 : l ≤ 10) :
    Calls Tryz.prog 31 #[.agg #[.slice A n c, .int .i64 s, .slice M m d, .slice E k g], .slice A3 n3 c3, .slice A2 l c2, .bool mk] w fun e w' => Below w.heap.size w w' ∧ LfV a onto ob mk w w' e := by
  have hb1 := ((Below.refl w.heap.size w).alloc (Nat.le_refl _) (.cells #[.slice A n c, .int .i64 s, .slice M m d, .slice E k g] 33)).alloc (by simp) (.cells #[.bool mk] 4)
  obtain ⟨W1, hW1⟩ : ∃ W, W = (w.alloc (.cells #[.slice A n c, .int .i64 s, .slice M m d, .slice E k g] 33)).alloc (.cells #[.bool mk] 4) := ⟨_, rfl⟩
  have HA := Lib.hid (show Row W1 w.heap.size 33 [.slice A n c, .int .i64 s, .slice M m d, .slice E k g] from by rw [hW1]; exact (Row.new w _ _).alloc _)
  have HR1 := Lib.hid (show Row W1 (w.heap.size + 1) 4 [.bool mk] from by
    rw [hW1]
    have := Row.new (w.alloc (.cells #[.slice A n c, .int .i64 s, .slice M m d, .slice E k g] 33)) [.bool mk] 4
    rw [World.size_alloc] at this; exact this)
  rw [← hW1] at hb1
  have HB1 := Lib.hid hb1
  have HCE := Lib.hid (jCheckEvents_any A n c s M m d E k g a A3 n3 c3 onto W1 ((h.below hb1 (Nat.le_refl _)).more hb1.size) ((ho.below hb1 (Nat.le_refl _)).more hb1.size) hn hc3 hb3)
  have HH := Lib.hid h
  have HO := Lib.hid ho
  have HN := Lib.hid hn
  have HOB := Lib.hid hob
  have HLL := Lib.hid hl
  have q0 := HA.out.cell 0 rfl
  have q1 := HA.out.cell 1 rfl
  have q2 := HA.out.cell 2 rfl
  have q3 := HA.out.cell 3 rfl
  obtain ⟨u, hu⟩ : ∃ u, u = cweE a onto := ⟨_, rfl⟩
  rw [← hu] at HCE
  have HU := Lib.hid hu
  have HW1 := Lib.hid hW1
  clear h ho hn hb1 hu hW1 hob hl
  go_enter Tryz.func31, Tryz.ntmps31
  go_wp2_with fail
  rw [← HW1.out]
  clear HW1
  go_wp2_with fail
  refine HCE.out.mono ?_
  rintro e w2 ⟨rfl, hb2⟩
  have HB2 := Lib.hid (HB1.out.trans (hb2.mono HB1.out.size))
  have HA2 := Lib.hid (HA.out.below hb2 HA.out.lt)
  have HR2 := Lib.hid (HR1.out.below hb2 HR1.out.lt)
  have hz1 := HB1.out.size
  have hz2 := hb2.size
  have hl1 := HR1.out.lt
  clear hb2 HCE HA HR1 q0 q1 q2 q3 HB1
  have q0 := HA2.out.cell 0 rfl
  have q1 := HA2.out.cell 1 rfl
  have q2 := HA2.out.cell 2 rfl
  have q3 := HA2.out.cell 3 rfl
  by_cases h0 : u = 0
  · have hb0 : (u != 0) = false := by simp [h0]
    have hcw := cwe_zero (show cweE a onto = 0 by rw [← HU.out]; exact h0)
    have hri := hcw.1
    have hst := HH.out.st
    obtain ⟨S, hS⟩ : ∃ S : Nat, s = (S : Int) := ⟨s.toNat, by have := hri.st0; omega⟩
    have hS4 : S ≤ 4096 := by have := hri.st1; omega
    subst hS
    have hup : Up onto := cs_up' (a := a) (by rw [← HU.out]; exact h0)
    have hmup : Up a.mr := up_of hri.mro
    have hkup : Up (kpR a onto) := up_of (hri.alo.sublist List.filter_sublist)
    have HRI := Lib.hid hri
    have HMU := Lib.hid hmup
    have HST := Lib.hid hst
    have HOV := Lib.hid (jObserver_any A n c (S : Int) M m d E k g A3 n3 c3 a S onto w2 ((HH.out.below HB2.out (Nat.le_refl _)).more HB2.out.size) hri.toRightW rfl hS4 ((HO.out.below HB2.out (Nat.le_refl _)).more HB2.out.size) HN.out hb3 hup)
    have H0 := Lib.hid h0
    have HKU := Lib.hid hkup
    clear hcw hri hst hup hmup h0 hkup
    go_wp2_with fail
    refine HOV.out.mono ?_
    rintro e w3 ⟨bg, vk, rfl, hko, hgr, hb3'⟩
    obtain ⟨Ak, ck, rfl, hkr, hkc, hkm⟩ := own_rdc hko
    obtain ⟨nk, hnk⟩ : ∃ n, n = (kpR a onto).length := ⟨_, rfl⟩
    rw [← hnk] at hkc ⊢
    have HNK := Lib.hid hnk
    have hnk32 : nk ≤ 32 := by rw [hnk]; exact kp_len HRI.out.toRightW onto
    have HB3 := Lib.hid (HB2.out.trans (hb3'.mono HB2.out.size))
    have HA3 := Lib.hid (HA2.out.below hb3' HA2.out.lt)
    have HR3 := Lib.hid (HR2.out.below hb3' HR2.out.lt)
    have HGR := Lib.hid hgr
    have hz3 := hb3'.size
    obtain ⟨gv, hgv⟩ : ∃ gv, gv = Value.slice (some ⟨bg, 0, none⟩) S S := ⟨_, rfl⟩
    obtain ⟨kv, hkv⟩ : ∃ kv, kv = Value.slice Ak nk ck := ⟨_, rfl⟩
    obtain ⟨W4, hW4⟩ : ∃ W, W = (w3.alloc (.cells #[.slice none 0 0, .slice none 0 0, .bool false, .bool false, .bool false, .bool false, .bool false, .bool false, .bool false, .bool false, .bool false, .bool false, .bool false, .bool false, .bool false, .bool false, .bool false, .bool false, .bool false, .bool false, .bool false, .bool false, .bool false, .bool false, .bool false, .bool false, .bool false, .bool false, .bool false, .bool false, .bool false, .bool false, .bool false, .bool false] 88)).setRow w3.heap.size (obL gv kv (erR a onto)).toArray := ⟨_, rfl⟩
    have hb34 : Below w3.heap.size w3 W4 := by rw [hW4]; exact below_setRow ((Below.refl _ w3).alloc (Nat.le_refl _) _) (Nat.le_refl _) _
    have hold := Row.new w3 [.slice none 0 0, .slice none 0 0, .bool false, .bool false, .bool false, .bool false, .bool false, .bool false, .bool false, .bool false, .bool false, .bool false, .bool false, .bool false, .bool false, .bool false, .bool false, .bool false, .bool false, .bool false, .bool false, .bool false, .bool false, .bool false, .bool false, .bool false, .bool false, .bool false, .bool false, .bool false, .bool false, .bool false, .bool false, .bool false] 88
    have HOB4 := Lib.hid (show Row W4 w3.heap.size 88 (obL gv kv (erR a onto)) from by rw [hW4]; exact setRow_heap _ _ _ _ _ _ hold)
    have hszs := Lib.hid (show (Tryz.prog.info? 88).map (·.size) = some (obL gv kv (erR a onto)).toArray.size by rw [obs_size, List.size_toArray, ob_len])
    have hszl := Lib.hid (show (Tryz.prog.info? 88).map (·.size) = some (obL gv kv (erR a onto)).length by rw [obs_size, ob_len])
    have hone := Lib.hid (ob_one (g := gv) (k := kv) (ev := erR a onto) (by rw [hgv]; rfl) (by rw [hkv]; rfl))
    have hz34 : (([.slice none 0 0, .slice none 0 0, .bool false, .bool false, .bool false, .bool false, .bool false, .bool false, .bool false, .bool false, .bool false, .bool false, .bool false, .bool false, .bool false, .bool false, .bool false, .bool false, .bool false, .bool false, .bool false, .bool false, .bool false, .bool false, .bool false, .bool false, .bool false, .bool false, .bool false, .bool false, .bool false, .bool false, .bool false, .bool false] : List Value).toArray).size = (obL gv kv (erR a onto)).toArray.size := by rw [List.size_toArray, List.size_toArray, ob_len]; rfl
    have HOLD := Lib.hid hold
    have HB34 := Lib.hid (HB3.out.trans (hb34.mono HB3.out.size))
    have hrg := Lib.hid (show W4.rangeAt w3.heap.size 0 (obL gv kv (erR a onto)) from fun i v hi => by rw [Nat.zero_add]; exact HOB4.out.cell i hi)
    have HKE := Lib.hid (jKeeps_any gv Ak nk ck (kpR a onto) (erR a onto) A2 l c2 ob W4 ((hkr.below hb34 (Nat.le_refl _)).more hb34.size) hnk.symm (by omega) HKU.out ((HOB.out.below HB34.out (Nat.le_refl _)).more HB34.out.size) HLL.out (by omega))
    have HA4 := Lib.hid (HA3.out.below hb34 HA3.out.lt)
    have HR4 := Lib.hid (HR3.out.below hb34 HR3.out.lt)
    have HG4 := Lib.hid (hgr.keep hb34)
    rw [← hkv] at HKE
    rw [← hgv, ← hkv]
    have HGV := Lib.hid hgv
    have HW4 := Lib.hid hW4
    obtain ⟨kb, hkb⟩ : ∃ b, b = ob.all (fun x => decide (x ∈ kpR a onto)) := ⟨_, rfl⟩
    rw [← hkb] at HKE
    have HKB := Lib.hid hkb
    clear hko hgr hkr hb3' hnk hgv hkv hW4 hold hb34 HOV q0 q1 q2 q3 hkb HA3 HR3
    go_wp2_with (first
      | (refine wpList_store_row rfl 88 (.tmp 12) (.tmp 21) rfl w3.heap.size (obL gv kv (erR a onto)).toArray rfl rfl 88 _ HOLD.out hszs.out hz34 hone.out ?_; rw [← HW4.out])
      | refine wpList_load_mid rfl 88 (.tmp 12) rfl w3.heap.size 0 rfl (obL gv kv (erR a onto)) _ hrg.out Tryz.underlying88 rfl hszl.out ?_)
    refine HKE.out.mono ?_
    rintro e w5 ⟨rfl, hb5⟩
    have HB5 := Lib.hid (HB34.out.trans (hb5.mono HB34.out.size))
    cases kb with
    | false =>
      clear hb5
      go_wp2_with fail
      go_ret3
      exact ⟨HB5.out, .inr (.inl ⟨by rw [← HU.out]; exact H0.out, HKB.out.symm, rfl⟩)⟩
    | true =>
      have HA5 := Lib.hid (HA4.out.below hb5 HA4.out.lt)
      have HR5 := Lib.hid (HR4.out.below hb5 HR4.out.lt)
      have HO5 := Lib.hid (HOB4.out.below hb5 HOB4.out.lt)
      have HM5 := Lib.hid ((HH.out.mr.below HB5.out (Nat.le_refl _)).more HB5.out.size)
      have hlS : (l + 1) * (S + 1) ≤ 50000 := Nat.le_trans (Nat.mul_le_mul (show l + 1 ≤ 11 by omega) (show S + 1 ≤ 4097 by omega)) (by decide)
      have HLI := Lib.hid (jLift_any bg S a onto ob mk kv A2 l c2 (w.heap.size + 1) w.heap.size w5 (HG4.out.keep hb5) HRI.out.toRightW HST.out hS4 ((HOB.out.below HB5.out (Nat.le_refl _)).more HB5.out.size) HLL.out hlS fun q _ W hW => jGoal_any (w.heap.size + 1) w.heap.size w5.heap.size A n c (S : Int) M m d E k g mk a.mr (q : Int) W (HR5.out.below hW HR5.out.lt) (HA5.out.below hW HA5.out.lt) (HM5.out.below hW (Nat.le_refl _)) HH.out.hm HH.out.bm HMU.out)
      rw [← HGV.out] at HLI
      have hrg5 := Lib.hid (show w5.rangeAt w3.heap.size 0 (obL gv kv (erR a onto)) from fun i v hi => by rw [Nat.zero_add]; exact HO5.out.cell i hi)
      clear hb5 hrg
      go_wp2_with (first
        | refine wpList_load_mid rfl 88 (.tmp 12) rfl w3.heap.size 0 rfl (obL gv kv (erR a onto)) _ hrg5.out Tryz.underlying88 rfl hszl.out ?_)
      refine HLI.out.mono ?_
      rintro e w6 ⟨hb6, hli⟩
      have HB6 := Lib.hid (HB5.out.trans (hb6.mono HB5.out.size))
      have hz5 := HB5.out.size
      unfold LiV at hli
      cases hlf : lfO a onto ob mk with
      | none =>
        rw [hlf] at hli
        simp only at hli
        subst hli
        have HLF := Lib.hid hlf
        clear hlf hb6
        go_wp2_with fail
        go_ret3
        exact ⟨HB6.out, .inr (.inr ⟨by rw [← HU.out]; exact H0.out, HKB.out.symm, by rw [HLF.out]; rfl⟩)⟩
      | some v =>
        rw [hlf] at hli
        obtain ⟨r, rfl, hown⟩ := hli
        have HLF := Lib.hid hlf
        have HOW := Lib.hid (own_more hown hz5)
        clear hlf hb6 hown
        go_wp2_with fail
        go_ret3
        exact ⟨HB6.out, .inr (.inr ⟨by rw [← HU.out]; exact H0.out, HKB.out.symm, by rw [HLF.out]; exact ⟨r, rfl, HOW.out⟩⟩)⟩
  · have hb0 : (u != 0) = true := by simp [h0]
    go_wp2_with fail
    go_ret3
    exact ⟨HB2.out, .inl ⟨by rw [← HU.out]; exact h0, by rw [← HU.out]; rfl⟩⟩
end Go.Proofs.YtaadhpkpekmfoaaGreat

/- Layer 7: Estimate. -/
namespace Go.Proofs.YtaadhpkpekmfoaaGreat
open Go.RowKit Go.Sort

/-- The error of Estimate. -/
def estE (a : Au) (onto ob : List Int) : Int := if cweE a onto = 0 then (if ob.all (fun x => decide (x ∈ kpR a onto)) = true then 0 else 9) else cweE a onto
/-- Behind t events. -/
structure ET (w wr : World) (a : Au) (onto ob : List Int) (b : Nat) (gv kv : Value) (v : Value) (t : Nat) : Prop where
  bel : Below w.heap.size w wr
  bx : Row wr b 88 (obL gv kv (erR a onto))
  es : Own wr w.heap.size v (esR a onto (ob.take t))
theorem es_take {a : Au} {onto ob : List Int} {t : Nat} {x : Int} (h : ob[t]? = some x) : esR a onto (ob.take (t + 1)) = nxR a onto (esR a onto (ob.take t)) x := by
  obtain ⟨hl, e⟩ := List.getElem?_eq_some_iff.1 h
  unfold esR
  rw [List.take_succ_eq_append_getElem hl, e, List.foldl_append]; rfl
theorem es_ok (a : Au) (onto : List Int) : ∀ ob, SubOk a.st.toNat (esR a onto ob) := by
  intro ob
  have key : ∀ (l s : List Int), SubOk a.st.toNat s → SubOk a.st.toNat (l.foldl (nxR a onto) s) := by
    intro l
    induction l with
    | nil => intro s hs; exact hs
    | cons x l ih => intro s hs; exact ih _ (reR_ok _ _ _)
  exact key ob _ (fs_ok onto)
set_option maxHeartbeats 8000000 in
set_option maxRecDepth 100000 in
theorem jEstimate_any (A : Option Addr) (n c : Nat) (s : Int) (M : Option Addr) (m d : Nat) (E : Option Addr) (k g : Nat) (A3 : Option Addr) (n3 c3 : Nat) (a : Au) (onto : List Int) (A2 : Option Addr) (l c2 : Nat) (ob : List Int) (w : World) (h : AuR w w.heap.size A n c s M m d E k g a) (ho : RdI w w.heap.size A3 onto) (hn : onto.length = n3) (hc3 : n3 ≤ c3 ∧ c3 ≤ 9223372036854775807) (hb3 : n3 ≤ 100000) (hob : RdI w w.heap.size A2 ob) (hl : ob.length = l) (hl10 : l ≤ 100000) :
    Calls Tryz.prog 27 #[.agg #[.slice A n c, .int .i64 s, .slice M m d, .slice E k g], .slice A3 n3 c3, .slice A2 l c2] w fun e w' => Below w.heap.size w w' ∧ ∃ v, e = .returned (.tuple #[v, .int .i64 (estE a onto ob)]) ∧ Own w' w.heap.size v (if estE a onto ob = 0 then esR a onto ob else []) := by
  obtain ⟨L0, hL0⟩ : ∃ L, L = (if estE a onto ob = 0 then esR a onto ob else []) := ⟨_, rfl⟩
  obtain ⟨E0, hE0⟩ : ∃ E, E = estE a onto ob := ⟨_, rfl⟩
  rw [← hL0, ← hE0]
  have HL0 := Lib.hid hL0
  have HE00 := Lib.hid hE0
  clear hL0 hE0
  have hb1 := (Below.refl w.heap.size w).alloc (Nat.le_refl _) (.cells #[.slice A n c, .int .i64 s, .slice M m d, .slice E k g] 33)
  obtain ⟨W1, hW1⟩ : ∃ W, W = w.alloc (.cells #[.slice A n c, .int .i64 s, .slice M m d, .slice E k g] 33) := ⟨_, rfl⟩
  have HA := Lib.hid (show Row W1 w.heap.size 33 [.slice A n c, .int .i64 s, .slice M m d, .slice E k g] from by rw [hW1]; exact Row.new w _ _)
  rw [← hW1] at hb1
  have HB1 := Lib.hid hb1
  have HCE := Lib.hid (jCheckEvents_any A n c s M m d E k g a A3 n3 c3 onto W1 ((h.below hb1 (Nat.le_refl _)).more hb1.size) ((ho.below hb1 (Nat.le_refl _)).more hb1.size) hn hc3 hb3)
  have HH := Lib.hid h
  have HO := Lib.hid ho
  have HN := Lib.hid hn
  have HOB := Lib.hid hob
  have HLL := Lib.hid hl
  have q0 := HA.out.cell 0 rfl
  have q1 := HA.out.cell 1 rfl
  have q2 := HA.out.cell 2 rfl
  have q3 := HA.out.cell 3 rfl
  obtain ⟨u, hu⟩ : ∃ u, u = cweE a onto := ⟨_, rfl⟩
  rw [← hu] at HCE
  have HU := Lib.hid hu
  have HW1 := Lib.hid hW1
  clear h ho hn hb1 hu hW1 hob hl
  go_enter Tryz.func27, Tryz.ntmps27
  go_wp2_with fail
  rw [← HW1.out]
  clear HW1
  go_wp2_with fail
  refine HCE.out.mono ?_
  rintro e w2 ⟨rfl, hb2⟩
  have HB2 := Lib.hid (HB1.out.trans (hb2.mono HB1.out.size))
  have HA2 := Lib.hid (HA.out.below hb2 HA.out.lt)
  have hz1 := HB1.out.size
  have hz2 := hb2.size
  clear hb2 HCE HA q0 q1 q2 q3 HB1
  have q0 := HA2.out.cell 0 rfl
  have q1 := HA2.out.cell 1 rfl
  have q2 := HA2.out.cell 2 rfl
  have q3 := HA2.out.cell 3 rfl
  by_cases h0 : u = 0
  · have hb0 : (u != 0) = false := by simp [h0]
    have hcw := cwe_zero (show cweE a onto = 0 by rw [← HU.out]; exact h0)
    have hri := hcw.1
    have hst := HH.out.st
    obtain ⟨S, hS⟩ : ∃ S : Nat, s = (S : Int) := ⟨s.toNat, by have := hri.st0; omega⟩
    have hS4 : S ≤ 4096 := by have := hri.st1; omega
    subst hS
    have hup : Up onto := cs_up' (a := a) (by rw [← HU.out]; exact h0)
    have hmup : Up a.mr := up_of hri.mro
    have hkup : Up (kpR a onto) := up_of (hri.alo.sublist List.filter_sublist)
    have HRI := Lib.hid hri
    have HMU := Lib.hid hmup
    have HST := Lib.hid hst
    have HOV := Lib.hid (jObserver_any A n c (S : Int) M m d E k g A3 n3 c3 a S onto w2 ((HH.out.below HB2.out (Nat.le_refl _)).more HB2.out.size) hri.toRightW rfl hS4 ((HO.out.below HB2.out (Nat.le_refl _)).more HB2.out.size) HN.out hb3 hup)
    have H0 := Lib.hid h0
    have HKU := Lib.hid hkup
    clear hcw hri hst hup hmup h0 hkup
    go_wp2_with fail
    refine HOV.out.mono ?_
    rintro e w3 ⟨bg, vk, rfl, hko, hgr, hb3'⟩
    obtain ⟨Ak, ck, rfl, hkr, hkc, hkm⟩ := own_rdc hko
    obtain ⟨nk, hnk⟩ : ∃ n, n = (kpR a onto).length := ⟨_, rfl⟩
    rw [← hnk] at hkc ⊢
    have HNK := Lib.hid hnk
    have hnk32 : nk ≤ 32 := by rw [hnk]; exact kp_len HRI.out.toRightW onto
    have HB3 := Lib.hid (HB2.out.trans (hb3'.mono HB2.out.size))
    have HA3 := Lib.hid (HA2.out.below hb3' HA2.out.lt)
    have HGR := Lib.hid hgr
    have hz3 := hb3'.size
    obtain ⟨gv, hgv⟩ : ∃ gv, gv = Value.slice (some ⟨bg, 0, none⟩) S S := ⟨_, rfl⟩
    obtain ⟨kv, hkv⟩ : ∃ kv, kv = Value.slice Ak nk ck := ⟨_, rfl⟩
    obtain ⟨W4, hW4⟩ : ∃ W, W = (w3.alloc (.cells #[.slice none 0 0, .slice none 0 0, .bool false, .bool false, .bool false, .bool false, .bool false, .bool false, .bool false, .bool false, .bool false, .bool false, .bool false, .bool false, .bool false, .bool false, .bool false, .bool false, .bool false, .bool false, .bool false, .bool false, .bool false, .bool false, .bool false, .bool false, .bool false, .bool false, .bool false, .bool false, .bool false, .bool false, .bool false, .bool false] 88)).setRow w3.heap.size (obL gv kv (erR a onto)).toArray := ⟨_, rfl⟩
    have hb34 : Below w3.heap.size w3 W4 := by rw [hW4]; exact below_setRow ((Below.refl _ w3).alloc (Nat.le_refl _) _) (Nat.le_refl _) _
    have hold := Row.new w3 [.slice none 0 0, .slice none 0 0, .bool false, .bool false, .bool false, .bool false, .bool false, .bool false, .bool false, .bool false, .bool false, .bool false, .bool false, .bool false, .bool false, .bool false, .bool false, .bool false, .bool false, .bool false, .bool false, .bool false, .bool false, .bool false, .bool false, .bool false, .bool false, .bool false, .bool false, .bool false, .bool false, .bool false, .bool false, .bool false] 88
    have HOB4 := Lib.hid (show Row W4 w3.heap.size 88 (obL gv kv (erR a onto)) from by rw [hW4]; exact setRow_heap _ _ _ _ _ _ hold)
    have hszs := Lib.hid (show (Tryz.prog.info? 88).map (·.size) = some (obL gv kv (erR a onto)).toArray.size by rw [obs_size, List.size_toArray, ob_len])
    have hszl := Lib.hid (show (Tryz.prog.info? 88).map (·.size) = some (obL gv kv (erR a onto)).length by rw [obs_size, ob_len])
    have hone := Lib.hid (ob_one (g := gv) (k := kv) (ev := erR a onto) (by rw [hgv]; rfl) (by rw [hkv]; rfl))
    have hz34 : (([.slice none 0 0, .slice none 0 0, .bool false, .bool false, .bool false, .bool false, .bool false, .bool false, .bool false, .bool false, .bool false, .bool false, .bool false, .bool false, .bool false, .bool false, .bool false, .bool false, .bool false, .bool false, .bool false, .bool false, .bool false, .bool false, .bool false, .bool false, .bool false, .bool false, .bool false, .bool false, .bool false, .bool false, .bool false, .bool false] : List Value).toArray).size = (obL gv kv (erR a onto)).toArray.size := by rw [List.size_toArray, List.size_toArray, ob_len]; rfl
    have HOLD := Lib.hid hold
    have HB34 := Lib.hid (HB3.out.trans (hb34.mono HB3.out.size))
    have hrg := Lib.hid (show W4.rangeAt w3.heap.size 0 (obL gv kv (erR a onto)) from fun i v hi => by rw [Nat.zero_add]; exact HOB4.out.cell i hi)
    have HKE := Lib.hid (jKeeps_any gv Ak nk ck (kpR a onto) (erR a onto) A2 l c2 ob W4 ((hkr.below hb34 (Nat.le_refl _)).more hb34.size) hnk.symm (by omega) HKU.out ((HOB.out.below HB34.out (Nat.le_refl _)).more HB34.out.size) HLL.out (by omega))
    have HA4 := Lib.hid (HA3.out.below hb34 HA3.out.lt)
    have HG4 := Lib.hid (hgr.keep hb34)
    rw [← hkv] at HKE
    rw [← hgv, ← hkv]
    have HGV := Lib.hid hgv
    have HW4 := Lib.hid hW4
    obtain ⟨kb, hkb⟩ : ∃ b, b = ob.all (fun x => decide (x ∈ kpR a onto)) := ⟨_, rfl⟩
    rw [← hkb] at HKE
    have HKB := Lib.hid hkb
    clear hko hgr hkr hb3' hnk hgv hkv hW4 hold hb34 HOV q0 q1 q2 q3 hkb HA3
    go_wp2_with (first
      | (refine wpList_store_row rfl 88 (.tmp 9) (.tmp 21) rfl w3.heap.size (obL gv kv (erR a onto)).toArray rfl rfl 88 _ HOLD.out hszs.out hz34 hone.out ?_; rw [← HW4.out])
      | refine wpList_load_mid rfl 88 (.tmp 9) rfl w3.heap.size 0 rfl (obL gv kv (erR a onto)) _ hrg.out Tryz.underlying88 rfl hszl.out ?_)
    refine HKE.out.mono ?_
    rintro e w5 ⟨rfl, hb5⟩
    have HB5 := Lib.hid (HB34.out.trans (hb5.mono HB34.out.size))
    have hcw0 := Lib.hid (show cweE a onto = 0 by rw [← HU.out]; exact H0.out)
    cases kb with
    | false =>
      clear hb5
      have he := Lib.hid (show estE a onto ob = 9 by unfold estE; rw [if_pos hcw0.out, if_neg (by rw [← HKB.out]; simp)])
      go_wp2_with fail
      go_ret2
      exact ⟨HB5.out, _, by rw [HE00.out, he.out]; rfl, by rw [HL0.out, he.out, if_neg (by decide)]; exact World.ownsRow_nil _ _ _ _⟩
    | true =>
      have he := Lib.hid (show estE a onto ob = 0 by unfold estE; rw [if_pos hcw0.out, if_pos HKB.out.symm])
      have HA5 := Lib.hid (HA4.out.below hb5 HA4.out.lt)
      have HO5 := Lib.hid (HOB4.out.below hb5 HOB4.out.lt)
      have HG5 := Lib.hid (HG4.out.keep hb5)
      have HFi := Lib.hid (jFirst_any bg S a onto kv w5 HG5.out HRI.out.toRightW HST.out hS4)
      rw [← HGV.out] at HFi
      have hrg5 := Lib.hid (show w5.rangeAt w3.heap.size 0 (obL gv kv (erR a onto)) from fun i v hi => by rw [Nat.zero_add]; exact HO5.out.cell i hi)
      clear hb5 hrg
      go_wp2_with (first
        | refine wpList_load_mid rfl 88 (.tmp 9) rfl w3.heap.size 0 rfl (obL gv kv (erR a onto)) _ hrg5.out Tryz.underlying88 rfl hszl.out ?_)
      refine HFi.out.mono ?_
      rintro e w6 ⟨v6, rfl, hown6, hb6⟩
      have HE0 := Lib.hid (show ET w w6 a onto ob w3.heap.size gv kv v6 0 from ⟨HB5.out.trans (hb6.mono HB5.out.size), HO5.out.below hb6 HO5.out.lt, own_more hown6 HB5.out.size⟩)
      have HG6 := Lib.hid (fun W (hW : Below w5.heap.size w5 W) => HG5.out.keep hW)
      have HB56 := Lib.hid hb6
      clear hown6 hb6 hrg5 HFi
      go_wp2_with fail
      go_loopw [10, 30] (fun v iv wr => ∃ t : Nat, t ≤ l ∧ iv = .int .i64 t ∧ Hid (Below w5.heap.size w5 wr) ∧ Hid (ET w wr a onto ob w3.heap.size gv kv v t)) (fun _ i _ => l - (intOf i).toNat)
      case atStart => exact ⟨0, Nat.zero_le _, rfl, HB56, HE0⟩
      case round =>
        clear HE0 HB56
        obtain ⟨t, htl, rfl, hbw, het⟩ := hrel
        by_cases h1 : t < l
        · obtain ⟨x, hx⟩ : ∃ x, ob[t]? = some x := ⟨_, List.getElem?_eq_getElem (by rw [HLL.out]; exact h1)⟩
          have hxk : x ∈ kpR a onto := by
            have := List.all_eq_true.1 HKB.out.symm x (List.mem_of_getElem? hx)
            simpa using this
          have hx32 := HRI.out.toRightW.alr _ (mem_kpR.1 hxk).1
          obtain ⟨e, rfl⟩ : ∃ e : Nat, x = (e : Int) := ⟨x.toNat, by omega⟩
          obtain ⟨b, o, rfl, hbA, hcA⟩ := HOB.out (by rw [HLL.out]; omega)
          have hc1 := (het.out.bel.cell (p := ⟨b, o + t, none⟩) hbA).trans (hcA t (by rw [HLL.out]; exact h1))
          have hgd : ob.getD t 0 = (e : Int) := by rw [List.getD, hx]; rfl
          rw [hgd] at hc1
          obtain ⟨fr, hfr⟩ : ∃ fr, fr = esR a onto (ob.take t) := ⟨_, rfl⟩
          have hfok := es_ok a onto (ob.take t)
          rw [← hfr] at hfok
          have hfl := sub_len hfok
          have htg := tgL_le HRI.out.toRightW (e : Int) fr
          have hown := het.out.es
          rw [← hfr] at hown
          obtain ⟨Af, cf, rfl, hrf, hcf, hmf⟩ := own_rdc hown
          obtain ⟨nf, hnf⟩ : ∃ n, n = fr.length := ⟨_, rfl⟩
          rw [← hnf] at hfl htg ⊢
          have hnf4 : nf ≤ 4096 := by have := HST.out; omega
          have HNx := Lib.hid (jNext_any bg S a onto kv Af nf cf fr e wr (HG6.out _ hbw.out) HRI.out.toRightW HST.out hS4 (by have := HH.out.bk; rw [HH.out.hk]; exact this) hrf hnf.symm hnf4 (fun q hq => by have := hfok.2 q hq; have h9 := HST.out; omega) (by omega) (by omega))
          rw [← HGV.out] at HNx
          have HNT := Lib.hid (show nxR a onto fr (e : Int) = esR a onto (ob.take (t + 1)) by rw [es_take hx, ← hfr])
          have hrgw := Lib.hid (show wr.rangeAt w3.heap.size 0 (obL gv kv (erR a onto)) from fun i v hi => by rw [Nat.zero_add]; exact het.out.bx.cell i hi)
          have hbz := hbw.out.size
          have hbz2 := het.out.bel.size
          have z4 : (t : Int) < (l : Int) := by omega
          have z5 : (0 : Int) ≤ (t : Int) := by omega
          clear hx hxk hx32 hcA hgd hfr hfok hown hrf hnf
          go_wp2_with (first
            | refine wpList_load_mid rfl 88 (.tmp 9) rfl w3.heap.size 0 rfl (obL gv kv (erR a onto)) _ hrgw.out Tryz.underlying88 rfl hszl.out ?_)
          refine HNx.out.mono ?_
          rintro r w7 ⟨v7, rfl, hown7, hb7⟩
          have HET := Lib.hid (show ET w w7 a onto ob w3.heap.size gv kv v7 (t + 1) from ⟨het.out.bel.trans (hb7.mono hbz2), het.out.bx.below hb7 het.out.bx.lt, by rw [← HNT.out]; exact own_more hown7 hbz2⟩)
          have HBW := Lib.hid (hbw.out.trans (hb7.mono hbz))
          clear hown7 hb7 het hbw
          go_wp2_with fail
          go_roundw
          case rel => exact ⟨t + 1, by omega, by go_num, HBW, HET⟩
          case measure => simp [intOf]; omega
        · obtain rfl : t = l := by omega
          go_wp2_with fail
          go_ret2
          exact ⟨het.out.bel, _, by rw [HE00.out, he.out]; rfl, by rw [HL0.out, he.out, if_pos rfl]; have := het.out.es; rw [List.take_of_length_le (by rw [HLL.out]; exact Nat.le_refl _)] at this; exact this⟩
  · have hb0 : (u != 0) = true := by simp [h0]
    have he := Lib.hid (show estE a onto ob = u by unfold estE; rw [if_neg (by rw [← HU.out]; exact h0), ← HU.out])
    go_wp2_with fail
    go_ret2
    exact ⟨HB2.out, _, by rw [HE00.out, he.out]; rfl, by rw [HL0.out, he.out, if_neg h0]; exact World.ownsRow_nil _ _ _ _⟩
end Go.Proofs.YtaadhpkpekmfoaaGreat
