/- Texts merged: what follows were texts of their own. -/
import Derived.Test.YtceldgcmjmfjfaaZa5
import Derived.Test.YtceldgcmjmfjfaaZa2
import Derived.Deep.RegionHeld3
import Derived.Deep.CutRange
import Derived.Deep.MidRow
import Derived.Laws.Tables
import Derived.Laws.CopyOwn
import Derived.RangeFuncBox
import Derived.RangeFuncLeaves
import Derived.Shelf.Abstract
import Derived.OwnWalkIn
import Derived.TacticsInMore
import Derived.LoopNIn
import Derived.LoopIn
import Derived.Maps.AppendAt
set_option linter.unusedVariables false
set_option linter.unusedSimpArgs false
set_option linter.unusedSectionVars false
/- Layer 4: turned: the graph in which all edges lead backward. -/
namespace Go.Proofs.Ytceldgcmjmfjfaa
open Go.RowKit Go.Sort Go.Shelf
attribute [local go_sem] Oper.semAt_some

def rvE (x : Ed) : Ed := ⟨x.t, x.e, x.f⟩
/-- The edges that leave the first i states. -/
def tlE (es : List Ed) (i : Nat) : List Ed := (List.range i).flatMap fun s : Nat => succ es (s : Int)
theorem tlE_succ (es : List Ed) (i : Nat) : tlE es (i + 1) = tlE es i ++ succ es (i : Int) := by simp [tlE, List.range_succ]
/-- The edges of the turned graph. -/
def trnE (S : Nat) (es : List Ed) : List Ed := (tlE es S).map rvE
def gTs (l : List Ed) (q : Nat) : List Ed := succ (l.map rvE) (q : Int)
theorem gTs_push {l : List Ed} {x : Ed} {q : Nat} (hx : x.t = (q : Int)) : updG (gTs l) q (rvE x) = gTs (l ++ [x]) := by
  funext r
  unfold updG gTs succ
  rw [List.map_append, List.filter_append]
  by_cases e : r = q
  · subst e; rw [if_pos rfl]; simp [rvE, hx]
  · rw [if_neg e]
    have : ¬ x.t = (r : Int) := by rw [hx]; omega
    simp [rvE, this]
theorem own_cells {W : World} {base sz n : Nat} {e : TypeId} {v : Value} {xs : List Value} (h : W.ownsRow base e sz v n xs) {j : Nat} {o : Obj} (ej : v.ownBlock = some j) (hj : W.heap[j]? = some o) : o.isCells = true := by
  rcases h.2 with ⟨rfl, _⟩ | ⟨g, cap, cur, rfl, _, hgb, _⟩
  · simp [Value.ownBlock] at ej
  · simp only [Value.ownBlock, Option.some.injEq] at ej
    subst ej
    rw [hgb] at hj; cases hj; rfl
theorem MG.grown {w0 X Y : World} {b S : Nat} {vs : List Value} {Ls : Nat → List Ed} {row : Option Nat} {B0 : Nat} (h : MG w0 X b S vs Ls) (hg : X.grownBy Y row) (hB : w0.heap.size ≤ B0) (hr : ∀ r, row = some r → B0 ≤ r ∧ ∃ o : Obj, X.heap[r]? = some o ∧ o.isCells = false) : MG w0 Y b S vs Ls := by
  have hr' : ∀ r, row = some r → ∃ o : Obj, X.heap[r]? = some o ∧ o.isCells = false := fun r e => (hr r e).2
  exact ⟨h.bel.grown hg h.bel.size (fun k hk => by have := (hr k hk).1; omega), h.bx.grown hg (h.bx.nonc hr'), h.ge, h.len, fun q hq => World.ownsRow.kept (h.ow q hq) hg (own_nonc (h.ow q hq) hr'), h.dj⟩
theorem MG.marks {w0 X Y : World} {b S : Nat} {vs : List Value} {Ls : Nat → List Ed} (h : MG w0 X b S vs Ls) (hk : KpM w0.heap.size X Y) : MG w0 Y b S vs Ls :=
  ⟨h.bel.trans hk.below, hk.row h.bx, h.ge, h.len, fun q hq => hk.own (h.ow q hq), h.dj⟩
/-- What a round over the edges keeps. -/
def TI (w : World) (S i : Nat) (es : List Ed) (Ds : List Nat) (pre : List (EdT S)) (W : World) : Prop :=
  ∃ vs, MG w W w.heap.size S vs (gTs (tlE es i ++ pre.map (·.1))) ∧ Row W (w.heap.size + 1) 79 [.slice (some ⟨w.heap.size, 0, none⟩) S S] ∧ MkOk w.heap.size W Ds
theorem ti_own {w : World} {S i : Nat} {es : List Ed} {Ds : List Nat} {B0 : Nat} (hB : w.heap.size ≤ B0) (hD : ∀ D ∈ Ds, D < B0) : OwnFrom B0 (TI w S i es Ds) :=
  fun _ _ _ _ ⟨v, h1, h2, h3⟩ hg hr => ⟨v, h1.grown hg hB hr, h2.grown hg (h2.nonc fun r e => (hr r e).2), h3.grown hg hD hr⟩
/-- How many edges lead to a state. -/
theorem gTs_len {S : Nat} {es : List Ed} {i : Nat} {pre : List (EdT S)} (q : Nat) (h : (tlE es i).length + pre.length ≤ 1000000) : (gTs (tlE es i ++ pre.map (·.1)) q).length ≤ 1000000 := by
  unfold gTs succ
  refine Nat.le_trans (List.length_filter_le _ _) ?_
  rw [List.length_map, List.length_append, List.length_map]; exact h
theorem sum_lt (i : Nat) (x : Ed) : ((List.range i).map fun s : Nat => if x.f = (s : Int) then 1 else 0).sum ≤ 1 := by
  have e : ((List.range i).map fun s : Nat => if x.f = (s : Int) then 1 else 0) = (((List.range i).map fun s : Nat => (s : Int)).map fun q => if x.f = q then 1 else 0) := by rw [List.map_map]; rfl
  rw [e]
  refine sum_one x.f _ ?_
  rw [List.nodup_iff_pairwise_ne, List.pairwise_map]
  exact List.nodup_range.imp fun h => by omega
theorem tlE_le (es : List Ed) (i : Nat) : (tlE es i).length ≤ es.length := by
  have h : (tlE es i).length = (((List.range i).map fun s : Nat => (s : Int)).map fun q => (succ es q).length).sum := by
    unfold tlE
    rw [List.length_flatMap, List.map_map]
    rfl
  rw [h]
  refine sum_cnt es _ ?_
  rw [List.nodup_iff_pairwise_ne, List.pairwise_map]
  exact List.nodup_range.imp fun h => by omega
set_option maxHeartbeats 8000000 in
set_option maxRecDepth 100000 in
theorem gTurned_any (base top bg S : Nat) (es : List Ed) (w : World) (hg : GrM base top w bg S es) (ht : top ≤ w.heap.size) (he : EdOk S es) (hS : S ≤ 4096) (hel : es.length ≤ 400000) :
    Calls Try.prog 49 #[.slice (some ⟨bg, 0, none⟩) S S] w fun e w' => ∃ b, e = .returned (.slice (some ⟨b, 0, none⟩) S S) ∧ GrM w.heap.size w'.heap.size w' b S (trnE S es) ∧ Below w.heap.size w w' := by
  refine (callsIn_wide (n := 3)).1 (callsIn_of_wp_marks Try.func49 rfl trivial (wpIn_wide.2 ?_) rfl)
  simp only [Try.ntmps49, List.size_toArray, List.length_cons, List.length_nil, Nat.reduceAdd, Nat.reduceSub, Array.replicate_succ, Array.replicate_zero, List.push_toArray, List.append_toArray, List.nil_append, List.cons_append]
  have hmk := make_graphG S (by omega)
  obtain ⟨W0, hW0⟩ : ∃ W, W = (w.alloc (.cells (Array.replicate S (.slice none 0 0)) 28)).alloc (.cells #[.slice (some ⟨w.heap.size, 0, none⟩) S S] 79) := ⟨_, rfl⟩
  have hb0 : Below w.heap.size w W0 := by rw [hW0]; exact ((Below.refl _ w).alloc (Nat.le_refl _) _).alloc (by simp) _
  have hr0 : Row W0 w.heap.size 28 (List.replicate S (.slice none 0 0)) := by
    have := (Row.new w (List.replicate S (.slice none 0 0)) 28).alloc (.cells #[.slice (some ⟨w.heap.size, 0, none⟩) S S] 79)
    simp only [List.toArray_replicate] at this
    rw [hW0]; exact this
  have HM0 := Lib.hid (mg_start hb0 hr0 (Nat.le_refl _))
  have HT0 := Lib.hid (show Row W0 (w.heap.size + 1) 79 [.slice (some ⟨w.heap.size, 0, none⟩) S S] from by
    have := Row.new (w.alloc (.cells (Array.replicate S (.slice none 0 0)) 28)) [.slice (some ⟨w.heap.size, 0, none⟩) S S] 79
    rw [World.size_alloc] at this
    rw [hW0]; exact this)
  have HW0 := Lib.hid hW0
  have HG := Lib.hid hg
  have HE := Lib.hid he
  have HEL := Lib.hid hel
  clear hW0 hb0 hr0 hg he
  go_wp2_with fail
  rw [← HW0.out]
  refine wp_loop (fun a' wr' => ∃ (i : Nat) (vs : List Value) (Ds : List Nat) (y4 y12 y13 y14 y15 y16 y36 : Value), i ≤ S ∧ Hid (MG w wr' w.heap.size S vs (gTs (tlE es i))) ∧ Hid (Row wr' (w.heap.size + 1) 79 [.slice (some ⟨w.heap.size, 0, none⟩) S S]) ∧ Hid (MkOk w.heap.size wr' Ds) ∧ a' = { tmps := List.toArray ((.slice (some ⟨bg, 0, none⟩) S S) :: undef :: (.slice none 0 0) :: (.pointer (some ⟨w.heap.size + 1, 0, none⟩)) :: y4 :: undef :: (.slice (some ⟨bg, 0, none⟩) S S) :: (.int .i64 (S : Int)) :: (.slice (some ⟨w.heap.size, 0, none⟩) S S) :: (.slice (some ⟨bg, 0, none⟩) S S) :: (.int .i64 (S : Int)) :: (.int .i64 (i : Int)) :: y12 :: y13 :: y14 :: y15 :: y16 :: undef :: undef :: undef :: undef :: undef :: undef :: undef :: undef :: undef :: undef :: undef :: undef :: undef :: undef :: undef :: undef :: undef :: undef :: undef :: y36 :: undef :: ([] : List Value)), defers := mks Ds }) (fun a' _ => S - (intOf (a'.tmps.getD 11 undef)).toNat) ?start ?round
  case start => exact ⟨0, _, [], undef, undef, undef, undef, undef, undef, undef, Nat.zero_le _, HM0, HT0, Lib.hid ⟨List.nodup_nil, fun D hD => by cases hD⟩, rfl⟩
  case round =>
    clear HM0 HT0 HW0
    rintro a' wr ⟨i, vs, Ds, y4, y12, y13, y14, y15, y16, y36, hi, hmg, hrt, hmk2, rfl⟩
    by_cases hlt : i < S
    · obtain ⟨Ae, ce, cg, hre⟩ := HG.out.2 i hlt
      obtain ⟨DL, hDL⟩ : ∃ D, D = (succ es (i : Int)).length := ⟨_, rfl⟩
      have hDb : DL ≤ 1000000 := by rw [hDL]; exact Nat.le_trans (List.length_filter_le _ _) (by have := HEL.out; omega)
      rw [← hDL] at cg
      have HDL := Lib.hid hDL
      have HRE := Lib.hid hre
      have hkz := hmg.out.bel.size
      have z0 : (0 : Int) ≤ (i : Int) := by omega
      have z1 : (i : Int) < (S : Int) := by omega
      clear hDL hre
      go_wp2_with fail
      refine (qEdges_any S bg (i : Int) wr).mono ?_
      rintro e5 w5 ⟨rfl, hw5⟩
      obtain ⟨E1, hE1⟩ : ∃ g, g = wr.heap.size := ⟨_, rfl⟩
      have hbw5 : Below wr.heap.size wr w5 := by rw [hw5]; exact ((Below.refl _ wr).alloc (Nat.le_refl _) _).alloc (by simp) _
      have hs5 : w5.heap.size = E1 + 2 := by rw [hw5, hE1]; simp
      have hc51 : w5.cell? ⟨E1, 0, none⟩ = some (.slice (some ⟨bg, 0, none⟩) S S) := by
        rw [hw5, hE1]; exact ((Row.new wr [.slice (some ⟨bg, 0, none⟩) S S] 79).alloc _).cell 0 rfl
      have hc52 : w5.cell? ⟨E1 + 1, 0, none⟩ = some (.int .i64 (i : Int)) := by
        have := (Row.new (wr.alloc (.cells #[.slice (some ⟨bg, 0, none⟩) S S] 79)) [.int .i64 (i : Int)] 3).cell 0 rfl
        simp only [World.size_alloc] at this
        rw [hw5, hE1]; exact this
      have hbel5 : Below w.heap.size w w5 := hmg.out.bel.trans (hbw5.mono hkz)
      have hbgz := HG.out.1
      have hbg5 : bg < w5.heap.size := by have := hbgz.2; omega
      have hcg5 : w5.cell? ⟨bg, i, none⟩ = some (.slice Ae DL ce) := (hbel5.cell (p := ⟨bg, i, none⟩) (by have := hbgz.2; show bg < _; omega)).trans cg
      have hDlt : ∀ D ∈ Ds, D < w5.heap.size := fun D hD => by
        have := (Array.getElem?_eq_some_iff.1 (hmk2.out.ok D hD).2).1
        omega
      have HTI0 := Lib.hid (show TI w S i es Ds [] w5 from ⟨vs, by have := hmg.out.call hbw5; simpa using this, hrt.out.below hbw5 hrt.out.lt, hmk2.out.keeps ⟨hbw5.size, fun k o hk _ => (hbw5.block k (Array.getElem?_eq_some_iff.1 hk).1).trans hk⟩⟩)
      have hsx : ∀ x ∈ succ es (i : Int), 0 ≤ x.t ∧ x.t < (S : Int) := fun x hx => (HE.out x (mem_succ.1 hx).1).2
      have HSX := Lib.hid hsx
      have HST := Lib.hid (qEdges_stops Fence.wide (3 - 1) trivial rfl (by omega) E1 (E1 + 1) S bg i DL ce Ae (edT S (succ es (i : Int)) HSX.out) (fun k => k < w.heap.size) w5 (fun k (hk : k < w.heap.size) => by omega) hlt ((edT_len HSX.out).trans HDL.out.symm) hDb (by omega) (by omega) hbg5 hc51 hc52 hcg5 (fun h => by
        obtain ⟨b, off, e, hz, hc⟩ := HRE.out (by rw [edT_len] at h; exact h)
        exact ⟨b, off, e, by have := hz.2; omega, fun j x hj => (hc j x.1 (edT_at HSX.out hj)).keep fun o => hbel5.cell (p := ⟨b, o, none⟩) (by have := hz.2; show b < _; omega)⟩))
      have HE1 := Lib.hid hE1
      have hw5s : w.heap.size ≤ w5.heap.size := by omega
      rw [← hE1]
      clear hw5 hbw5 hc51 hc52 hcg5 cg hE1 hsx hbel5
      go_wp2_with fail
      refine (wpIn_wide (n := 3)).1 (wpIn_rangeFunc_ownH (α := EdT S) rfl (by omega) (gf := 100) (lb := #[.pointer (some ⟨E1, 0, none⟩), .pointer (some ⟨E1 + 1, 0, none⟩)]) rfl trivial (enters_of Try.func100 (by kernel_rfl) rfl)
        (encs := fun x => #[edL x.1]) (Kp := KpZ (fun k => k < w.heap.size)) HST.out KpZ.trans (fun W l _ o' hl _ _ _ => KpZ.putObj W o' hl fun k (hk : k < w.heap.size) => by omega) (Below.refl _ _) (fun _ => rfl)
        (TI w S i es Ds) (fun _ _ _ => False) (ti_own hw5s hDlt) (fun _ _ _ _ _ hs _ _ => hs) HTI0.out
        (fun x a' W => ∃ Bx, (w.heap.size < W.heap.size ∧ ∀ (r : Nat) v, W.cell? ⟨w.heap.size, r, none⟩ = some v → v.ownBlock ≠ some Bx) ∧ Row W Bx 70 [.int .i64 x.1.f, .int .i64 x.1.e, .int .i64 x.1.t] ∧ a' = { tmps := List.toArray ((.slice (some ⟨bg, 0, none⟩) S S) :: undef :: (.slice none 0 0) :: (.pointer (some ⟨w.heap.size + 1, 0, none⟩)) :: (.int .i64 (i : Int)) :: (.pointer (some ⟨Bx, 0, none⟩)) :: (.slice (some ⟨bg, 0, none⟩) S S) :: (.int .i64 (S : Int)) :: (.slice (some ⟨w.heap.size, 0, none⟩) S S) :: (.slice (some ⟨bg, 0, none⟩) S S) :: (.int .i64 (S : Int)) :: (.int .i64 (i : Int)) :: (.bool true) :: (.int .i64 (i : Int)) :: (.slice (some ⟨bg, 0, none⟩) S S) :: (.int .i64 (i : Int)) :: (.func (.func 100) #[] #[.pointer (some ⟨E1, 0, none⟩), .pointer (some ⟨E1 + 1, 0, none⟩)]) :: (edL x.1) :: undef :: undef :: undef :: undef :: undef :: undef :: undef :: undef :: undef :: undef :: undef :: undef :: undef :: undef :: undef :: undef :: undef :: undef :: y36 :: undef :: ([] : List Value)), defers := [] })
        (fun x a' _ X Y row ⟨Bx, h0, h1, h2⟩ hg hr => ⟨Bx, ⟨Nat.lt_of_lt_of_le h0.1 hg.size, fun r v hv => h0.2 r v (by rw [← hv]; exact (World.cell?_of_block (a := ⟨w.heap.size, r, none⟩) (hg.block w.heap.size h0.1 (fun e => by have := (hr w.heap.size e.symm).1; have := HE1.out; omega))).symm)⟩, h1.grown hg (h1.nonc fun r e => (hr r e).2), h2⟩) ?assign ?body ?done ?stop)
      case assign =>
        rintro l2 pre x W K hei hK
        have hes : w.heap.size ≤ W.heap.size := by obtain ⟨_, h1, _⟩ := hei; exact h1.bel.size
        have HK := Lib.hid hK
        have HEI := Lib.hid hei
        obtain ⟨⟨xf, xe, xt⟩, hxt⟩ := x
        clear hK hei
        dsimp only [edL]
        gi_wp2
        obtain ⟨vsA, hmA, _⟩ := HEI.out
        have hltA := hmA.bx.lt
        exact HK.out _ _ ((KeepsOthers.alloc _ _).from _) ((KpZ.refl _ _).alloc (fun k (hk : k < w.heap.size) => by omega) _) ((ti_own hw5s hDlt).alloc _ HEI.out) ⟨_, ⟨by simp; omega, fun r v hv e => by
          rw [World.cell?_alloc_lt _ _ _ (by exact hltA), cell_of_row W _ r vsA.toArray 28 (0, 0) hmA.bx] at hv
          have hrl : r < vsA.length := by
            have := (Array.getElem?_eq_some_iff.1 hv).1
            simpa using this
          rw [hmA.len] at hrl
          have h9 := ((hmA.ow r hrl).lt W.heap.size (by rw [← e]; congr 1; rw [List.getD, ← List.getElem?_toArray, hv]; rfl)).2
          omega⟩, Row.new _ _ _, rfl⟩
      case body =>
        rintro l2' pre x a' W hl2' _ ⟨vs2, hmg2, hrt2, hmk3⟩ ⟨Bx, hnb, hbx, rfl⟩ hpl
        obtain ⟨⟨xf, xe, xt⟩, hxt⟩ := x
        have HBX0 := Lib.hid hbx
        dsimp only at hxt HBX0
        obtain ⟨q, hq⟩ : ∃ q : Nat, xt = (q : Int) := ⟨xt.toNat, by omega⟩
        subst hq
        have hqS : q < S := by omega
        have HMG2 := Lib.hid hmg2
        have HRT2 := Lib.hid hrt2
        have HMK2 := Lib.hid hmk3
        have HBX := HBX0
        have hLl : (gTs (tlE es i ++ pre.map (·.1)) q).length ≤ 1000000 := by
          refine gTs_len q ?_
          have h1 := tlE_le es i
          have h2 : pre.length ≤ es.length := by
            rw [edT_len] at hpl
            have := List.length_filter_le (fun x : Ed => decide (x.f = (i : Int))) es
            unfold succ at hpl
            omega
          have := HEL.out
          omega
        have HNB := Lib.hid (show ∀ r : Nat, r < S → (vs2.getD r undef).ownBlock ≠ some Bx from fun r hr => hnb.2 r _ (hmg2.bx.cell r (by rw [List.getD, List.getElem?_eq_getElem (by rw [hmg2.len]; exact hr)]; rfl)))
        clear hmg2 hrt2 hmk3 hbx HBX0 hnb
        dsimp only [edL]
        gi_wp2
        obtain ⟨Wa, hWa⟩ : ∃ W', W' = W.drew := ⟨_, rfl⟩
        have HMa := Lib.hid (show MG w Wa w.heap.size S vs2 (gTs (tlE es i ++ pre.map (·.1))) from by rw [hWa]; exact HMG2.out.call ((Below.refl _ _).drew))
        have HXa := Lib.hid (show Row Wa Bx 70 [.int .i64 xf, .int .i64 xe, .int .i64 (q : Int)] from by rw [hWa]; exact HBX.out)
        have HTa := Lib.hid (show Row Wa (w.heap.size + 1) 79 [.slice (some ⟨w.heap.size, 0, none⟩) S S] from by rw [hWa]; exact HRT2.out)
        obtain ⟨v6, w6, hrun, hmg6, hgrow6, As, ns, cs6, hv6⟩ := HMa.out.app hqS ⟨(q : Int), xe, xf⟩ hLl 28
        subst hv6
        obtain ⟨Wb, hWb⟩ : ∃ W, W = Wa.alloc (.cells #[.int .i64 ((q : Int)), .int .i64 (xe), .int .i64 (xf)] 70) := ⟨_, rfl⟩
        rw [← hWb] at hrun hgrow6
        have hbb : Below Wa.heap.size Wa Wb := by rw [hWb]; exact (Below.refl _ _).alloc (Nat.le_refl _) _
        have HMb := Lib.hid (HMa.out.call hbb)
        have HXb := Lib.hid (HXa.out.below hbb HXa.out.lt)
        have hownb := HMb.out.ow q hqS
        have HX6 := Lib.hid (HXb.out.grown hgrow6 (HNB.out q hqS))
        have HG6 := Lib.hid (HMb.out.bx.grown hgrow6 (row_ne_own HMb.out.bx hownb (by decide)))
        have HTb := Lib.hid (HTa.out.below hbb HTa.out.lt)
        have HT6 := Lib.hid (HTb.out.grown hgrow6 (row_ne_own HTb.out hownb (by decide)))
        obtain ⟨ve, hve⟩ : ∃ v, v = vs2.getD q undef := ⟨_, rfl⟩
        rw [← hve] at hrun
        have hvat : vs2[q]? = some ve := by rw [hve, List.getD, List.getElem?_eq_getElem (by rw [HMa.out.len]; exact hqS)]; rfl
        have ga := HMa.out.bx.cell q hvat
        have xa0 := HXa.out.cell 0 rfl
        have xa1 := HXa.out.cell 1 rfl
        have xa2 := HXa.out.cell 2 rfl
        have htac := HTa.out.cell 0 rfl
        have gb := HMb.out.bx.cell q hvat
        have xb0 := HXb.out.cell 0 rfl
        have xb1 := HXb.out.cell 1 rfl
        have xb2 := HXb.out.cell 2 rfl
        have htbc := HTb.out.cell 0 rfl
        have g6 := HG6.out.cell q hvat
        have x60 := HX6.out.cell 0 rfl
        have x61 := HX6.out.cell 1 rfl
        have x62 := HX6.out.cell 2 rfl
        have ht6c := HT6.out.cell 0 rfl
        have f6 := HG6.out.frozen q
        have q0 : (0 : Int) ≤ (q : Int) := by omega
        have q1 : (q : Int) < (S : Int) := by omega
        have HWB := Lib.hid hWb
        have HMG6 := Lib.hid hmg6
        have HGR6 := Lib.hid hgrow6
        have HRUN := Lib.hid hrun
        have HVE := Lib.hid hve
        have HWA := Lib.hid hWa
        clear hWb hmg6 hgrow6 hownb hrun hve hvat hWa hbb
        refine wpIn_region_chain (L := 18) (cs := [15, 16]) (aF := { tmps := List.toArray ((.slice (some ⟨bg, 0, none⟩) S S) :: undef :: (.slice none 0 0) :: (.pointer (some ⟨w.heap.size + 1, 0, none⟩)) :: (.int .i64 (i : Int)) :: (.pointer (some ⟨Bx, 0, none⟩)) :: (.slice (some ⟨bg, 0, none⟩) S S) :: (.int .i64 (S : Int)) :: (.slice (some ⟨w.heap.size, 0, none⟩) S S) :: (.slice (some ⟨bg, 0, none⟩) S S) :: (.int .i64 (S : Int)) :: (.int .i64 (i : Int)) :: (.bool true) :: (.int .i64 (i : Int)) :: (.slice (some ⟨bg, 0, none⟩) S S) :: (.int .i64 (i : Int)) :: (.func (.func 100) #[] #[.pointer (some ⟨E1, 0, none⟩), .pointer (some ⟨E1 + 1, 0, none⟩)]) :: (.agg #[.int .i64 xf, .int .i64 xe, .int .i64 (q : Int)]) :: (.slice (some ⟨w.heap.size, 0, none⟩) S S) :: (.pointer (some ⟨Bx, 2, none⟩)) :: (.int .i64 (q : Int)) :: (.slice (some ⟨w.heap.size, 0, none⟩) S S) :: (.pointer (some ⟨Bx, 2, none⟩)) :: (.int .i64 (q : Int)) :: (.pointer (some ⟨w.heap.size, q, none⟩)) :: ve :: (.pointer (some ⟨Bx, 2, none⟩)) :: (.int .i64 (q : Int)) :: (.pointer (some ⟨Bx, 1, none⟩)) :: (.int .i64 xe) :: (.pointer (some ⟨Bx, 0, none⟩)) :: (.int .i64 xf) :: (.agg #[.int .i64 (q : Int), .int .i64 xe, .int .i64 xf]) :: (.slice (some ⟨Wa.heap.size, 0, none⟩) 1 1) :: (.slice As ns cs6) :: (.pointer (some ⟨w.heap.size, q, none⟩)) :: y36 :: undef :: ([] : List Value)), defers := [] }) (W := fun p => match p with | 0 => Wa | 1 => Wb | _ => w6) (by kernel_rfl) (regOk_of (by kernel_rfl)) (fun _ => trivial) (by show Wa = _; rw [HWA.out]; rfl) rfl rfl (sl_of (D := [18, 19, 20, 21, 22, 23, 24, 25, 26, 27, 28, 29, 30, 31, 32, 33, 34, 35]) (dst_of (by kernel_rfl)) (by simp [agr])) ?rd ?ch ?la
        case rd =>
          intro i' o' hi' hn' ho'
          have hi2 : i' = 0 ∨ i' = 1 ∨ i' = 2 ∨ i' = 3 ∨ i' = 4 ∨ i' = 5 ∨ i' = 6 ∨ i' = 7 ∨ i' = 8 ∨ i' = 9 ∨ i' = 10 ∨ i' = 11 ∨ i' = 12 ∨ i' = 13 ∨ i' = 14 ∨ i' = 17 := by simp at hn'; omega
          clear hi' hn'
          rcases hi2 with rfl | rfl | rfl | rfl | rfl | rfl | rfl | rfl | rfl | rfl | rfl | rfl | rfl | rfl | rfl | rfl
          all_goals
            injection ho' with ho'
            subst ho'
            refine ⟨_, _, rfl, rfl, fun p' hp' => ?_⟩
            have hp3 : p' = 0 ∨ p' = 1 ∨ p' = 2 := by simp at hp'; omega
            clear hp'
            rcases hp3 with rfl | rfl | rfl
            all_goals (dsimp only; first | (go_simp; done) | skip)
        case ch =>
          intro k' o' hk' ho'
          have hk2 : k' = 0 ∨ k' = 1 := by simp at hk'; omega
          clear hk'
          rcases hk2 with rfl | rfl
          · injection ho' with ho'
            subst ho'
            refine ⟨_, _, rfl, rfl, ?_⟩
            dsimp only
            rw [HWB.out]
            go_simp
          · simp only [List.getD_cons_succ, List.getD_cons_zero, List.getElem?_toArray, List.getElem?_cons_succ, List.getElem?_cons_zero, Option.some.injEq] at ho'
            subst ho'
            refine ⟨_, _, rfl, rfl, ?_⟩
            have hr := HRUN.out
            dsimp only
            unfold execOp
            simp only [resolve, invoke, builtin, Sem.run_bind, Sem.run_pure, Result.andThen_ok, List.map_toArray, List.map_cons, List.map_nil, Act.eval, Array.getD_eq_getD_getElem?, List.getElem?_toArray, List.getElem?_cons_succ, List.getElem?_cons_zero, Option.getD_some, hr]
            rfl
        case la =>
          intro o' ho'
          injection ho' with ho'
          subst ho'
          unfold Oper.wpIn
          go_simp
          have hbw := HMG6.out.bel
          have hown3 := HMb.out.ow q hqS
          have hko : KeepsOthers W (w6.setCell ⟨w.heap.size, q, none⟩ (.slice As ns cs6)) := by
            refine (((KeepsOthers.drew W).trans ?_).trans (KeepsOthers.of_grownBy HGR6.out fun j o ej hj => own_cells hown3 ej hj)).trans (KeepsOthers.setCell _ _ _)
            rw [← HWA.out, HWB.out]
            exact KeepsOthers.alloc _ _
          have hrt6 := HT6.out.setOther (p := ⟨w.heap.size, q, none⟩) (by show w.heap.size + 1 ≠ w.heap.size; omega) (.slice As ns cs6)
          refine ⟨hko.from _, ⟨hko.size, fun k' hk' => (hbw.block k' hk').trans (HMG2.out.bel.block k' hk').symm⟩, vs2.set q (.slice As ns cs6), ?_, hrt6, HMK2.out.keeps hko⟩
          have h7 := HMG6.out
          rw [show (⟨(q : Int), xe, xf⟩ : Ed) = rvE ⟨xf, xe, (q : Int)⟩ from rfl, gTs_push rfl] at h7
          rw [List.map_append, List.map_singleton, ← List.append_assoc]
          exact h7
      case done =>
        rintro D xs W hDl rfl hei hmD
        have HMD := Lib.hid hmD
        obtain ⟨vs3, hmg3, hrt3, hmk3⟩ := hei
        have HMG3 := Lib.hid hmg3
        have HRT3 := Lib.hid hrt3
        have HMK3 := Lib.hid hmk3
        have hDs : D ∉ Ds := fun h => by have := hDlt D h; omega
        clear hmD hmg3 hrt3 hmk3
        go_wp2_with fail
        refine ⟨⟨i + 1, vs3, D :: Ds, .int .i64 (i : Int), .bool true, .int .i64 (i : Int), .slice (some ⟨bg, 0, none⟩) S S, .int .i64 (i : Int), .func (.func 100) #[] #[.pointer (some ⟨E1, 0, none⟩), .pointer (some ⟨E1 + 1, 0, none⟩)], .int .i64 ((i : Int) + 1), by omega, ?_, HRT3, ?_, ?_⟩, ?_⟩
        · have := HMG3.out
          rw [edT_val, ← tlE_succ] at this
          exact Lib.hid this
        · exact Lib.hid ⟨List.nodup_cons.2 ⟨hDs, HMK3.out.nd⟩, fun E hE => by
            rcases List.mem_cons.1 hE with rfl | hE
            · exact ⟨by omega, HMD.out⟩
            · exact HMK3.out.ok E hE⟩
        · rfl
        · show S - (intOf (.int .i64 ((i : Int) + 1))).toNat < S - (intOf (.int .i64 (i : Int))).toNat
          simp only [intOf]
          omega
      case stop => exact fun _ _ _ _ _ _ h => h.elim
    · obtain rfl : i = S := by omega
      have ct := hrt.out.cell 0 rfl
      go_wp2_with fail
      refine leaves_marks Ds wr hmk2.out fun w' hk => ⟨_, results_tmp rfl _ _ _, ?_⟩
      have hb := hk.below
      exact ⟨w.heap.size, rfl, (hmg.out.marks hk).gr fun q hq => rfl, hmg.out.bel.trans hb⟩
end Go.Proofs.Ytceldgcmjmfjfaa

/- Layer 4: the errors of an automaton, a set of its states and a set of events. -/
namespace Go.Proofs.Ytceldgcmjmfjfaa
open Go.RowKit Go.Sort

/-- The error of a set of states. -/
def gstE (s : Int) (zs : List Int) : Int := chkE ⟨[], s, zs, []⟩
set_option maxHeartbeats 1600000 in
theorem gCheckStates_any (A : Option Addr) (n c : Nat) (s : Int) (M : Option Addr) (m d : Nat) (E : Option Addr) (k g : Nat) (A2 : Option Addr) (n2 c2 : Nat) (zs : List Int) (w : World) (hx : RdI w w.heap.size A2 zs) (hn : zs.length = n2) (hc : n2 ≤ c2 ∧ c2 ≤ 9223372036854775807) (hb : n2 ≤ 100000) :
    Calls Try.prog 62 #[.agg #[.slice A n c, .int .i64 s, .slice M m d, .slice E k g], .slice A2 n2 c2] w fun e w' => e = .returned (.int .i64 (gstE s zs)) ∧ Below w.heap.size w w' := by
  have hb1 := (Below.refl w.heap.size w).alloc (Nat.le_refl _) (.cells #[.slice A n c, .int .i64 s, .slice M m d, .slice E k g] 30)
  have HB1 := Lib.hid hb1
  have HC := Lib.hid (mCheck_any none 0 0 s A2 n2 c2 none 0 0 ⟨[], s, zs, []⟩ _ (au_states ((hx.below hb1 (Nat.le_refl _)).more (by simp)) hn hc hb))
  obtain ⟨p0, p1, p2, p3⟩ := BoxA.made w A n c s M m d E k g 30
  obtain ⟨u, hu⟩ : ∃ u, u = chkE ⟨[], s, zs, []⟩ := ⟨_, rfl⟩
  rw [← hu] at HC
  have HR := Lib.hid (show gstE s zs = u by rw [gstE, hu])
  rw [HR.out]
  clear hx hn hu hb1 HR
  go_enter Try.func62, Try.ntmps62
  go_wp2_with fail
  refine HC.out.mono ?_
  rintro e w1 ⟨rfl, hbw⟩
  have hB := HB1.out.trans (hbw.mono HB1.out.size)
  clear hbw p0 p1 p2 p3
  go_wp2_with fail
  go_ret
  exact ⟨rfl, hB⟩
theorem rd_three {w : World} {x y z : Int} : RdI (w.alloc (.cells #[.int .i64 x, .int .i64 y, .int .i64 z] 32)) (w.alloc (.cells #[.int .i64 x, .int .i64 y, .int .i64 z] 32)).heap.size (some ⟨w.heap.size, 0, none⟩) [x, y, z] := fun _ => ⟨w.heap.size, 0, rfl, by simp, fun j hj => by
  match j, hj with
  | 0, _ => rw [World.cell?_alloc_at _ _ _ _ rfl]; rfl
  | 1, _ => rw [World.cell?_alloc_at _ _ _ _ rfl]; rfl
  | 2, _ => rw [World.cell?_alloc_at _ _ _ _ rfl]; rfl
  | j + 3, hj => (simp at hj) <;> omega⟩
theorem rd_threeD {w : World} {x y z : Int} : RdI (w.alloc (.cells #[.int .i64 x, .int .i64 y, .int .i64 z] 32)).drew (w.alloc (.cells #[.int .i64 x, .int .i64 y, .int .i64 z] 32)).drew.heap.size (some ⟨w.heap.size, 0, none⟩) [x, y, z] := rd_three
/-- The error of an automaton, a set of states and a set of events. -/
def gceE (a : Au) (zs ev : List Int) : Int := fstE [chkE a, gstE a.st zs, chkE ⟨ev, 0, [], []⟩]
set_option maxHeartbeats 4000000 in
set_option maxRecDepth 100000 in
theorem gCheckE_any (A : Option Addr) (n c : Nat) (s : Int) (M : Option Addr) (m d : Nat) (E : Option Addr) (k g : Nat) (a : Au) (A2 : Option Addr) (n2 c2 : Nat) (zs : List Int) (A3 : Option Addr) (n3 c3 : Nat) (ev : List Int) (w : World) (h : AuR w w.heap.size A n c s M m d E k g a) (hx : RdI w w.heap.size A2 zs) (hn : zs.length = n2) (hc : n2 ≤ c2 ∧ c2 ≤ 9223372036854775807) (hb : n2 ≤ 100000)
    (hx3 : RdI w w.heap.size A3 ev) (hn3 : ev.length = n3) (hc3 : n3 ≤ c3 ∧ c3 ≤ 9223372036854775807) (hb3 : n3 ≤ 100000) :
    Calls Try.prog 67 #[.agg #[.slice A n c, .int .i64 s, .slice M m d, .slice E k g], .slice A2 n2 c2, .slice A3 n3 c3] w fun e w' => e = .returned (.int .i64 (gceE a zs ev)) ∧ Below w.heap.size w w' := by
  have hb1 := (Below.refl w.heap.size w).alloc (Nat.le_refl _) (.cells #[.slice A n c, .int .i64 s, .slice M m d, .slice E k g] 30)
  have HB1 := Lib.hid hb1
  have HCA := Lib.hid (fun W (hW : Below w.heap.size w W) => mCheck_any A n c s M m d E k g a W ((h.below hW (Nat.le_refl _)).more hW.size))
  have HCS := Lib.hid (fun W (hW : Below w.heap.size w W) => gCheckStates_any A n c s M m d E k g A2 n2 c2 zs W ((hx.below hW (Nat.le_refl _)).more hW.size) hn hc hb)
  have HCE := Lib.hid (fun W (hW : Below w.heap.size w W) => mCheck_any A3 n3 c3 0 none 0 0 none 0 0 ⟨ev, 0, [], []⟩ W (au_events ((hx3.below hW (Nat.le_refl _)).more hW.size) hn3 hc3 hb3))
  have HX := Lib.hid (BoxA.made w A n c s M m d E k g 30)
  have hst := h.st
  obtain ⟨u, hu⟩ : ∃ u, u = chkE a := ⟨_, rfl⟩
  obtain ⟨v, hv⟩ : ∃ v, v = gstE s zs := ⟨_, rfl⟩
  obtain ⟨x, hxe⟩ : ∃ x, x = chkE ⟨ev, 0, [], []⟩ := ⟨_, rfl⟩
  obtain ⟨r, hr⟩ : ∃ r, r = gceE a zs ev := ⟨_, rfl⟩
  have HRE := Lib.hid (show r = fstE [u, v, x] by rw [hr, gceE, hu, hv, hxe, hst])
  rw [← hu] at HCA
  rw [← hv] at HCS
  rw [← hxe] at HCE
  rw [← hr]
  clear h hx hn hx3 hn3 hu hv hr hb1 hst hxe
  go_enter Try.func67, Try.ntmps67
  obtain ⟨p0, p1, p2, p3⟩ := HX.out
  have HB1d := Lib.hid HB1.out.drew
  go_wp2_with fail
  go_region_held3 (fun w' => w'.cell? ⟨w.heap.size, 0, none⟩ = some (.slice A n c) ∧ w'.cell? ⟨w.heap.size, 1, none⟩ = some (.int .i64 s) ∧ w'.cell? ⟨w.heap.size, 2, none⟩ = some (.slice M m d) ∧ w'.cell? ⟨w.heap.size, 3, none⟩ = some (.slice E k g)) (first | with_reducible exact ⟨p0, p1, p2, p3⟩ | go_keep)
    (first
    | (go_simp; go_at_call 42; (first | with_reducible refine (HCA.out _ HB1.out).mono ?_ | with_reducible refine (HCA.out _ HB1d.out).mono ?_); rintro e w2 ⟨rfl, hb2⟩
       have HB2 := Lib.hid (show Below w.heap.size w w2 by first | exact HB1.out.trans (hb2.mono HB1.out.size) | exact HB1d.out.trans (hb2.mono HB1d.out.size))
       have HX2 := Lib.hid (show BoxA w2 w.heap.size A n c s M m d E k g by first | exact HX.out.below hb2 (by simp) | exact (HX.out.drewN 1).below hb2 (by simp))
       have hsz2 : w.heap.size < w2.heap.size := by have h9 := hb2.size; simp at h9; omega
       obtain ⟨p0, p1, p2, p3⟩ := HX2.out
       clear hb2)
    | (go_simp; go_at_call 62; (first | with_reducible refine (HCS.out _ HB2.out).mono ?_ | with_reducible refine (HCS.out _ HB2.out.drew).mono ?_); rintro e w4 ⟨rfl, hb4⟩
       have HB4 := Lib.hid (show Below w.heap.size w w4 by first | exact HB2.out.trans (hb4.mono HB2.out.size) | exact HB2.out.drew.trans (hb4.mono HB2.out.drew.size))
       have HX4 := Lib.hid (show BoxA w4 w.heap.size A n c s M m d E k g by first | exact HX2.out.below hb4 hsz2 | exact (HX2.out.drewN 1).below hb4 hsz2)
       have hsz4 : w.heap.size < w4.heap.size := by have h9 := hb4.size; (try simp at h9); omega
       obtain ⟨p0, p1, p2, p3⟩ := HX4.out
       clear hb4)
    | (go_simp; go_at_call 42; (first | with_reducible refine (HCE.out _ HB4.out).mono ?_ | with_reducible refine (HCE.out _ HB4.out.drew).mono ?_); rintro e w5 ⟨rfl, hb5⟩
       have HB5 := Lib.hid (show Below w.heap.size w w5 by first | exact HB4.out.trans (hb5.mono HB4.out.size) | exact HB4.out.drew.trans (hb5.mono HB4.out.drew.size))
       have HX5 := Lib.hid (show BoxA w5 w.heap.size A n c s M m d E k g by first | exact HX4.out.below hb5 hsz4 | exact (HX4.out.drewN 1).below hb5 hsz4)
       have hsz5 : w.heap.size < w5.heap.size := by have h9 := hb5.size; (try simp at h9); omega
       obtain ⟨p0, p1, p2, p3⟩ := HX5.out
       clear hb5)
    | (go_simp; go_at_call 61; (first | with_reducible refine (cmpOr_any _ 3 3 _ [u, v, x] _ rd_three rfl (by omega)).mono ?_ | with_reducible refine (cmpOr_any _ 3 3 _ [u, v, x] _ rd_threeD rfl (by omega)).mono ?_); rintro e w6 ⟨rfl, rfl⟩))
  all_goals
    go_wp2_with fail
    first | go_ret | refine bodyPost_ret (results_none rfl _ _ _) rfl ?_
    exact ⟨by rw [HRE.out]; rfl, by first | exact HB5.out.alloc HB5.out.size _ | exact (HB5.out.alloc HB5.out.size _).drew⟩
/-- .. without events. -/
def gwsE (a : Au) (zs : List Int) : Int := gceE a zs []
set_option maxHeartbeats 1600000 in
theorem gCheckW_any (A : Option Addr) (n c : Nat) (s : Int) (M : Option Addr) (m d : Nat) (E : Option Addr) (k g : Nat) (a : Au) (A2 : Option Addr) (n2 c2 : Nat) (zs : List Int) (w : World) (h : AuR w w.heap.size A n c s M m d E k g a) (hx : RdI w w.heap.size A2 zs) (hn : zs.length = n2) (hc : n2 ≤ c2 ∧ c2 ≤ 9223372036854775807) (hb : n2 ≤ 100000) :
    Calls Try.prog 55 #[.agg #[.slice A n c, .int .i64 s, .slice M m d, .slice E k g], .slice A2 n2 c2] w fun e w' => e = .returned (.int .i64 (gwsE a zs)) ∧ Below w.heap.size w w' := by
  have hb1 := (Below.refl w.heap.size w).alloc (Nat.le_refl _) (.cells #[.slice A n c, .int .i64 s, .slice M m d, .slice E k g] 30)
  have HB1 := Lib.hid hb1
  have HC := Lib.hid (gCheckE_any A n c s M m d E k g a A2 n2 c2 zs none 0 0 [] _ ((h.below hb1 (Nat.le_refl _)).more (by simp)) ((hx.below hb1 (Nat.le_refl _)).more (by simp)) hn hc hb (RdI.nil _ _ _) rfl (by omega) (by omega))
  obtain ⟨p0, p1, p2, p3⟩ := BoxA.made w A n c s M m d E k g 30
  obtain ⟨u, hu⟩ : ∃ u, u = gwsE a zs := ⟨_, rfl⟩
  have HC' := Lib.hid (show Calls Try.prog 67 _ _ _ from by have := HC.out; rw [show gceE a zs [] = u from hu.symm] at this; exact this)
  rw [← hu]
  clear h hx hn hu hb1 HC
  go_enter Try.func55, Try.ntmps55
  go_wp2_with fail
  refine HC'.out.mono ?_
  rintro e w1 ⟨rfl, hbw⟩
  have hB := HB1.out.trans (hbw.mono HB1.out.size)
  clear hbw p0 p1 p2 p3
  go_wp2_with fail
  go_ret
  exact ⟨rfl, hB⟩
end Go.Proofs.Ytceldgcmjmfjfaa

/- Layer 4: flagsOf; arrays of 4096 flags. -/
namespace Go.Proofs.Ytceldgcmjmfjfaa
open Go.RowKit Go.Sort

theorem zero_flags : Try.zeroCells76 = (List.replicate 4096 (Value.bool false)).toArray := by kernel_rfl
theorem flN_none (n : Nat) : flN n (fun _ => false) = List.replicate n (Value.bool false) := by
  unfold flN
  apply List.ext_getElem <;> simp
theorem flV_none : flV (fun _ => false) = List.replicate 4096 (Value.bool false) := flN_none 4096
theorem flN_len (n : Nat) (f : Nat → Bool) : (flN n f).length = n := by simp [flN]
theorem zero_flV : Try.zeroCells76 = (flV fun _ => false).toArray := by rw [flV_none]; exact zero_flags
theorem flV_len (f : Nat → Bool) : (flV f).length = 4096 := flN_len 4096 f
theorem flags_sizeG : (Try.prog.info? 76).map (·.size) = some 4096 := by kernel_rfl
theorem flV_one (f : Nat → Bool) : ((flV f).toArray).all (·.oneCell') = true := by
  rw [List.all_toArray, List.all_eq_true]
  intro x hx
  obtain ⟨e, _, rfl⟩ := List.mem_map.1 hx
  rfl
theorem row_range {w : World} {b : Nat} {e : TypeId} {cs : List Value} (h : Row w b e cs) : w.rangeAt b 0 cs := fun i v hi => by rw [Nat.zero_add]; exact h.cell i hi
/-- The flags of a set. -/
def inF (zs : List Int) (q : Nat) : Bool := decide ((q : Int) ∈ zs)
theorem inF_nil : inF [] = fun _ => false := by funext q; simp [inF]
theorem inF_snoc (zs : List Int) (e : Nat) : (fun p => if p = e then true else inF zs p) = inF (zs ++ [(e : Int)]) := by
  funext p
  unfold inF
  by_cases h : p = e
  · subst h; simp
  · rw [if_neg h]
    have : ¬ (p : Int) = (e : Int) := by omega
    simp [this]
set_option maxHeartbeats 4000000 in
set_option maxRecDepth 100000 in
theorem gFlags_any (A : Option Addr) (n c : Nat) (zs : List Int) (w : World) (hx : RdI w w.heap.size A zs) (hn : zs.length = n) (hnb : n ≤ 100000) (hf : ∀ x ∈ zs, 0 ≤ x ∧ x < 4096) :
    Calls Try.prog 56 #[.slice A n c] w fun e w' => e = .returned (.agg (flV (inF zs)).toArray) ∧ Below w.heap.size w w' := by
  have HX := Lib.hid hx
  have HN := Lib.hid hn
  have HF := Lib.hid hf
  clear hx hn hf
  obtain ⟨W0, hW0⟩ : ∃ W, W = (w.alloc (.cells Try.zeroCells76 76)).alloc (.cells Try.zeroCells76 76) := ⟨_, rfl⟩
  have HB0 := Lib.hid (show Below w.heap.size w W0 from by rw [hW0]; exact ((Below.refl _ w).alloc (Nat.le_refl _) _).alloc (by simp) _)
  have HR0 := Lib.hid (show Row W0 w.heap.size 76 (flV fun _ => false) from by rw [hW0, zero_flV]; exact (Row.new w _ 76).alloc _)
  have HR1 := Lib.hid (show Row W0 (w.heap.size + 1) 76 (flV (inF [])) from by
    rw [hW0, zero_flV, inF_nil]
    have := Row.new (w.alloc (.cells (flV fun _ => false).toArray 76)) (flV fun _ => false) 76
    rwa [World.size_alloc] at this)
  have HW0 := Lib.hid hW0
  clear hW0
  go_enter Try.func56, Try.ntmps56
  go_wp2_with fail
  rw [← HW0.out]
  go_loopw [5, 8] (fun _ iv wr => ∃ k : Nat, k ≤ n ∧ iv = .int .i64 k ∧ Hid (Row wr (w.heap.size + 1) 76 (flV (inF (zs.take k)))) ∧ Hid (Row wr w.heap.size 76 (flV fun _ => false)) ∧ Hid (Below w.heap.size w wr)) (fun _ i _ => n - (intOf i).toNat)
  case atStart => exact ⟨0, Nat.zero_le _, rfl, HR1, HR0, HB0⟩
  case round =>
    clear HR0 HR1 HB0 HW0
    obtain ⟨k, hk, rfl, hr1, hr0, hbel⟩ := hrel
    by_cases hlt : k < n
    · obtain ⟨b, o, rfl, hb, hc⟩ := HX.out (by rw [HN.out]; omega)
      have hz : k < zs.length := by rw [HN.out]; exact hlt
      have hc1 := (hbel.out.cell (p := ⟨b, o + k, none⟩) hb).trans (hc k hz)
      have hf := HF.out _ (getD_mem hz)
      obtain ⟨e, he⟩ : ∃ e : Nat, zs.getD k 0 = (e : Int) := ⟨(zs.getD k 0).toNat, by omega⟩
      rw [he] at hc1 hf
      have he32 : e < 4096 := by omega
      have hs := hr1.out.set e (.bool true)
      rw [flV_set, inF_snoc, ← he, ← take_getD hz] at hs
      have HS := Lib.hid hs
      have c1 := hr1.out.cell e (flV_at he32)
      have f1 := hr1.out.frozen e
      have hs0 := Lib.hid (hr0.out.setOther (p := ⟨w.heap.size + 1, e, none⟩) (by show w.heap.size ≠ w.heap.size + 1; omega) (.bool true))
      have hb1 := Lib.hid (hbel.out.setCell (p := ⟨w.heap.size + 1, e, none⟩) (by simp) (.bool true))
      have z0 : (k : Int) < (n : Int) := by omega
      have z1 : (0 : Int) ≤ (k : Int) := by omega
      have z2 : (0 : Int) ≤ (e : Int) := by omega
      have z3 : (e : Int) < 4096 := by omega
      clear hc hz he hf hs
      go_wp2_with fail
      go_roundw
      case rel => exact ⟨k + 1, by omega, by go_num, HS, hs0, hb1⟩
      case measure => simp [intOf]; omega
    · have hF0 : zs.take k = zs := List.take_of_length_le (by rw [HN.out]; omega)
      rw [hF0] at hr1
      have z0 : (n : Int) ≤ (k : Int) := by omega
      have hrg := Lib.hid (row_range hr1.out)
      have hsz := Lib.hid (show (Try.prog.info? 76).map (·.size) = some (flV (inF zs)).length by rw [flags_sizeG, flV_len])
      have hone := Lib.hid (flV_one (inF zs))
      clear hF0
      go_wp2_with (first
        | refine wpList_load_mid rfl 76 (.tmp 3) rfl (w.heap.size + 1) 0 rfl (flV (inF zs)) _ hrg.out Try.underlying76 rfl hsz.out ?_
        | refine wpList_store_row rfl 76 (.tmp 2) (.tmp 15) rfl w.heap.size (flV (inF zs)).toArray rfl rfl 76 (flV fun _ => false).toArray hr0.out (by simpa using hsz.out) (by simp [flV_len]) hone.out ?_)
      have hrow2 := setRow_heap wr w.heap.size _ (flV (inF zs)).toArray _ _ hr0.out
      refine bodyPost_ret (v := .agg (flV (inF zs)).toArray) ?_ rfl ⟨rfl, below_setRow hbel.out (Nat.le_refl _) _⟩
      rw [results_cell1 rfl]
      have hld := run_loadVar_mid (P := Try.prog) (wr.setRow w.heap.size (flV (inF zs)).toArray) w.heap.size 0 76 (flV (inF zs)) _ (row_range (show Row _ _ _ _ from hrow2)) Try.underlying76 rfl hsz.out
      show ((asAddr (Value.pointer (some ⟨w.heap.size, 0, none⟩))).run Try.prog (wr.setRow w.heap.size (flV (inF zs)).toArray)).andThen (fun a w₁ => (loadVar 76 a).run Try.prog w₁) = _
      simp [asAddr, hld, Result.andThen]
end Go.Proofs.Ytceldgcmjmfjfaa

/- Layer 4: where; the functions of states that it is given; initial. -/
namespace Go.Proofs.Ytceldgcmjmfjfaa
open Go.RowKit Go.Sort

/-- The states below S for which something is true. -/
def rngF (S : Nat) (p : Nat → Bool) : List Int := ((List.range S).filter p).map fun q : Nat => (q : Int)
theorem rngF_yes {k : Nat} {p : Nat → Bool} (h : p k = true) : rngF (k + 1) p = rngF k p ++ [(k : Int)] := by
  unfold rngF; rw [List.range_succ, List.filter_append]; simp [h]
theorem rngF_no {k : Nat} {p : Nat → Bool} (h : p k = false) : rngF (k + 1) p = rngF k p := by
  unfold rngF; rw [List.range_succ, List.filter_append]; simp [h]
theorem rngF_len (k : Nat) (p : Nat → Bool) : (rngF k p).length ≤ k := by
  unfold rngF; rw [List.length_map]
  exact Nat.le_trans (List.length_filter_le _ _) (by simp)
theorem mem_rngF {S : Nat} {p : Nat → Bool} {x : Int} : x ∈ rngF S p ↔ ∃ q : Nat, q < S ∧ p q = true ∧ x = (q : Int) := by
  unfold rngF
  simp only [List.mem_map, List.mem_filter, List.mem_range]
  exact ⟨fun ⟨q, h, e⟩ => ⟨q, h.1, h.2, e.symm⟩, fun ⟨q, h1, h2, e⟩ => ⟨q, ⟨h1, h2⟩, e.symm⟩⟩
theorem rngF_up (S : Nat) (p : Nat → Bool) : (rngF S p).Pairwise (· < ·) := by
  unfold rngF
  rw [List.pairwise_map]
  exact (List.pairwise_lt_range.sublist List.filter_sublist).imp fun h => Int.ofNat_lt.2 h
set_option maxHeartbeats 4000000 in
set_option maxRecDepth 100000 in
theorem gWhere_any (A : Option Addr) (n c : Nat) (s : Int) (M : Option Addr) (m d : Nat) (E : Option Addr) (k g : Nat) (S : Nat) (fn : Nat) (caps : Array Value) (p : Nat → Bool) (w : World) (hcf : ∀ args W, (callFunc fn args).run Try.prog W = .ok (.enter fn args) W)
    (hp : ∀ q : Nat, q < S → ∀ W, Below w.heap.size w W → Calls Try.prog fn (#[.int .i64 (q : Int)] ++ caps) W fun e w' => e = .returned (.bool (p q)) ∧ Below W.heap.size W w')
    (hS : s = (S : Int)) (hSb : S ≤ 4096) :
    Calls Try.prog 47 #[.agg #[.slice A n c, .int .i64 s, .slice M m d, .slice E k g], .func (.func fn) #[] caps] w fun e w' => ∃ v, e = .returned v ∧ Own w' w.heap.size v (rngF S p) ∧ Below w.heap.size w w' := by
  subst hS
  have hb1 := (Below.refl w.heap.size w).alloc (Nat.le_refl _) (.cells #[.slice A n c, .int .i64 (S : Int), .slice M m d, .slice E k g] 30)
  have HB1 := Lib.hid hb1
  obtain ⟨p0, p1, p2, p3⟩ := BoxA.made w A n c (S : Int) M m d E k g 30
  have HP := Lib.hid hp
  obtain ⟨iI, iI0, iI1, iI2, iI3⟩ := info_parts info_int
  have HO0 := Lib.hid (show Own (w.alloc (.cells #[.slice A n c, .int .i64 (S : Int), .slice M m d, .slice E k g] 30)) w.heap.size (.slice none 0 0) (rngF 0 p) from World.ownsRow_nil _ _ _ _)
  clear hp hb1
  go_enter Try.func47, Try.ntmps47
  go_wp2_with fail
  go_loopw [5, 6, 9] (fun v _ iv wr => ∃ t : Nat, t ≤ S ∧ iv = .int .i64 t ∧ Hid (Own wr w.heap.size v (rngF t p)) ∧ Hid (Below w.heap.size w wr)) (fun _ _ iv _ => S - (intOf iv).toNat)
  case atStart => exact ⟨0, Nat.zero_le _, rfl, HO0, HB1⟩
  case round =>
    clear HO0 HB1 p0 p1 p2 p3
    obtain ⟨t, ht, rfl, hown, hbel⟩ := hrel
    by_cases hlt : t < S
    · have HC := Lib.hid (HP.out t hlt wr hbel.out)
      have z0 : (0 : Int) ≤ (t : Int) := by omega
      have z1 : (t : Int) < (S : Int) := by omega
      obtain ⟨r, hr⟩ : ∃ r, p t = r := ⟨_, rfl⟩
      rw [hr] at HC
      have HR := Lib.hid hr
      have hll := rngF_len t p
      obtain ⟨L, hL⟩ : ∃ L, L = (rngF t p).length := ⟨_, rfl⟩
      rw [← hL] at hll
      have HL := Lib.hid hL
      have hz := hbel.out.size
      clear hr hL
      go_wp2_with fail
      refine HC.out.mono ?_
      rintro e w5 ⟨rfl, hb5⟩
      have HO5 := Lib.hid (own_below hown.out hb5)
      have HB5 := Lib.hid (hbel.out.trans (hb5.mono hz))
      have hz5 := HB5.out.size
      clear hb5
      cases r
      · go_wp2_with fail
        go_roundw
        case rel => exact ⟨t + 1, by omega, by go_num, Lib.hid (by rw [rngF_no HR.out]; exact HO5.out), HB5⟩
        case measure => simp [intOf]; omega
      · have hO := HO5.out
        rw [← HL.out] at hO
        have HOL := Lib.hid hO
        clear hO
        go_wp2_with (at_builtin; refine wpList_append_own_at _ rfl _ _ 27 rfl w.heap.size 3 iI (.int .i64 0) 1 8 Try.underlying27 iI0 iI1 iI2 iI3 rfl (by decide) _ L ((rngF t p).map (Value.int .i64)) rfl (HOL.out.alloc _) ⟨w5.heap.size, 0, none⟩ 1 1 [.int .i64 (t : Int)] rfl rfl (news_one rfl) (by intro u hu; simp at hu; subst hu; rfl) (by unfold maxLen; omega) (by omega) (by simp; omega) ?_)
        intro v6 w6 hown6 hgrow6 _ _
        have hO6 := Lib.hid (show Own w6 w.heap.size v6 (rngF (t + 1) p) by rw [rngF_yes HR.out]; unfold Own; rw [List.length_append, List.map_append, ← HL.out]; exact hown6)
        have hB6 := Lib.hid ((HB5.out.alloc hz5 (.cells #[.int .i64 (t : Int)] 3)).grown hgrow6 (by simp; omega) (fun i hi => (HO5.out.lt i hi).1))
        clear hown6 hgrow6
        go_wp2_with fail
        go_roundw
        case rel => exact ⟨t + 1, by omega, by go_num, hO6, hB6⟩
        case measure => simp [intOf]; omega
    · obtain rfl : t = S := by omega
      go_wp2_with fail
      go_ret
      exact ⟨_, rfl, hown.out, hbel.out⟩
/-- The closures that ask a flag. -/
theorem flag_cell {w : World} {bs q : Nat} {f : Nat → Bool} (h : Row w bs 76 (flV f)) (hq : q < 4096) : w.cell? ⟨bs, q, none⟩ = some (.bool (f q)) := h.cell q (flV_at hq)
set_option maxHeartbeats 1000000 in
theorem gAskR_any (bs q : Nat) (f : Nat → Bool) (w : World) (h : Row w bs 76 (flV f)) (hq : q < 4096) :
    Calls Try.prog 48 #[.int .i64 (q : Int), .pointer (some ⟨bs, 0, none⟩)] w fun e w' => e = .returned (.bool (f q)) ∧ Below w.heap.size w w' := by
  have c := flag_cell h hq
  have z0 : (0 : Int) ≤ (q : Int) := by omega
  have z1 : (q : Int) < 4096 := by omega
  clear h
  go_enter Try.func48, Try.ntmps48
  go_wp2_with fail
  go_ret
  exact ⟨rfl, Below.refl _ _⟩
set_option maxHeartbeats 1000000 in
theorem gAskC_any (bs q : Nat) (f : Nat → Bool) (w : World) (h : Row w bs 76 (flV f)) (hq : q < 4096) :
    Calls Try.prog 50 #[.int .i64 (q : Int), .pointer (some ⟨bs, 0, none⟩)] w fun e w' => e = .returned (.bool (f q)) ∧ Below w.heap.size w w' := by
  have c := flag_cell h hq
  have z0 : (0 : Int) ≤ (q : Int) := by omega
  have z1 : (q : Int) < 4096 := by omega
  clear h
  go_enter Try.func50, Try.ntmps50
  go_wp2_with fail
  go_ret
  exact ⟨rfl, Below.refl _ _⟩
set_option maxHeartbeats 1000000 in
theorem gAskI_any (bs q : Nat) (f : Nat → Bool) (w : World) (h : Row w bs 76 (flV f)) (hq : q < 4096) :
    Calls Try.prog 73 #[.int .i64 (q : Int), .pointer (some ⟨bs, 0, none⟩)] w fun e w' => e = .returned (.bool (!f q)) ∧ Below w.heap.size w w' := by
  have c := flag_cell h hq
  have z0 : (0 : Int) ≤ (q : Int) := by omega
  have z1 : (q : Int) < 4096 := by omega
  clear h
  go_enter Try.func73, Try.ntmps73
  go_wp2_with fail
  go_ret
  exact ⟨rfl, Below.refl _ _⟩
set_option maxHeartbeats 1000000 in
theorem gAskJ_any (bs q : Nat) (f : Nat → Bool) (w : World) (h : Row w bs 76 (flV f)) (hq : q < 4096) :
    Calls Try.prog 74 #[.int .i64 (q : Int), .pointer (some ⟨bs, 0, none⟩)] w fun e w' => e = .returned (.bool (!f q)) ∧ Below w.heap.size w w' := by
  have c := flag_cell h hq
  have z0 : (0 : Int) ≤ (q : Int) := by omega
  have z1 : (q : Int) < 4096 := by omega
  clear h
  go_enter Try.func74, Try.ntmps74
  go_wp2_with fail
  go_ret
  exact ⟨rfl, Below.refl _ _⟩
set_option maxHeartbeats 1000000 in
theorem gAny_any (x : Ed) (w : World) :
    Calls Try.prog 44 #[edL x] w fun e w' => e = .returned (.bool true) ∧ Below w.heap.size w w' := by
  obtain ⟨xf, xe, xt⟩ := x
  dsimp only [edL]
  go_enter Try.func44, Try.ntmps44
  go_wp2_with fail
  go_ret
  exact ⟨rfl, (Below.refl _ _).alloc (Nat.le_refl _) _⟩
theorem own_litG (w : World) (x : Int) : Own (w.alloc (.cells #[.int .i64 x] 3)) w.heap.size (.slice (some ⟨w.heap.size, 0, none⟩) 1 1) [x] :=
  World.ownsRow_lit (e := 3) (size := 1) w #[.int .i64 x] 1 (Nat.le_refl _) (by unfold maxLen; omega) rfl
theorem own_moreG {w : World} {B B' sz n : Nat} {e : TypeId} {v : Value} {zs : List Value} (h : w.ownsRow B e sz v n zs) (hB : B' ≤ B) : w.ownsRow B' e sz v n zs := by
  refine ⟨h.1, ?_⟩
  rcases h.2 with h0 | ⟨g, cap, cur, h1, h2, h3⟩
  · exact .inl h0
  · exact .inr ⟨g, cap, cur, h1, Nat.le_trans hB h2, h3⟩
/-- The initial state, if there is one. -/
def iniL (s : Int) : List Int := if s = 0 then [] else [0]
theorem gInit_any (A : Option Addr) (n c : Nat) (s : Int) (M : Option Addr) (m d : Nat) (E : Option Addr) (k g : Nat) (w : World) : Calls Try.prog 46 #[.agg #[.slice A n c, .int .i64 s, .slice M m d, .slice E k g]] w fun e w' => ∃ v, e = .returned v ∧ Own w' w.heap.size v (iniL s) ∧ Below w.heap.size w w' := by
  obtain ⟨p0, p1, p2, p3⟩ := BoxA.made w A n c s M m d E k g 30
  have HB1 := Lib.hid ((Below.refl w.heap.size w).alloc (Nat.le_refl _) (.cells #[.slice A n c, .int .i64 s, .slice M m d, .slice E k g] 30))
  by_cases h0 : s = 0
  · have HR := Lib.hid (show iniL s = [] by unfold iniL; rw [if_pos h0])
    have hb : (s == 0) = true := by simp [h0]
    clear h0
    go_enter Try.func46, Try.ntmps46
    go_wp2_with fail
    go_ret
    exact ⟨_, rfl, by rw [HR.out]; exact World.ownsRow_nil _ _ _ _, HB1.out⟩
  · have HR := Lib.hid (show iniL s = [0] by unfold iniL; rw [if_neg h0])
    have hb : (s == 0) = false := by simp [h0]
    clear h0
    go_enter Try.func46, Try.ntmps46
    go_wp2_with fail
    first | go_ret | refine bodyPost_ret (results_tmp rfl _ _ _) rfl ?_
    have hl := own_litG (w.alloc (.cells #[.slice A n c, .int .i64 s, .slice M m d, .slice E k g] 30)) 0
    rw [World.size_alloc] at hl
    exact ⟨_, rfl, by rw [HR.out]; exact own_moreG hl (Nat.le_succ _), HB1.out.alloc HB1.out.size _⟩
theorem cf1 : ∀ args W, (callFunc 44 args).run Try.prog W = .ok (.enter 44 args) W := fun args W => by go_simp
end Go.Proofs.Ytceldgcmjmfjfaa

/- Layer 4: Reachable. -/
namespace Go.Proofs.Ytceldgcmjmfjfaa
open Go.RowKit Go.Sort

theorem ed_le {a : Au} (h : Right a) : a.ed.length ≤ 131072 := by
  have hp : (a.ed.map fun x => x.f * 32 + x.e).Pairwise (· < ·) := by
    rw [List.pairwise_map]
    refine List.Pairwise.imp_of_mem ?_ h.edo
    intro x y hx hy hlt
    have e1 := h.alr _ (h.edr x hx).2.2
    have e2 := h.alr _ (h.edr y hy).2.2
    unfold ltE at hlt
    omega
  have hn : (a.ed.map fun x => x.f * 32 + x.e).Nodup := by
    rw [List.nodup_iff_pairwise_ne]
    exact hp.imp fun h => by omega
  have := nodup_len (S := 131072) hn fun x hx => by
    obtain ⟨y, hy, rfl⟩ := List.mem_map.1 hx
    have e1 := h.alr _ (h.edr y hy).2.2
    have e2 := (h.edr y hy).1
    have := h.st1
    omega
  simpa using this
theorem edOk_of {a : Au} (h : Right a) {S : Nat} (hS : a.st = (S : Int)) : EdOk S a.ed := fun x hx => by
  have := h.edr x hx
  rw [hS] at this
  exact ⟨this.1, this.2.1⟩
def noF : Nat → Bool := fun _ => false
/-- The states that edges reach. -/
def rchS (S : Nat) (es : List Ed) (fr : List Int) : List Int := rngF S (seenF noF (spV noF S es fr))
def rchR (a : Au) : List Int := rchS a.st.toNat a.ed (iniL a.st)
theorem own_rdZ {w : World} {B bs : Nat} {v : Value} {zs : List Int} (h : Own w B v zs) (hb : bs < B ∨ w.heap.size ≤ bs) : ∃ A c, v = .slice A zs.length c ∧ RdZ w bs A zs := by
  rcases h.2 with ⟨rfl, h0⟩ | ⟨g, cap, cur, rfl, hg, hh, hn, hcap, hsz, htake⟩
  · rw [h0]; exact ⟨none, 0, rfl, fun h => by omega⟩
  · refine ⟨some ⟨g, 0, none⟩, cap, rfl, fun _ => ⟨g, 0, rfl, ⟨(h.lt g rfl).2, ?_⟩, fun j hj => ?_⟩⟩
    · have := (h.lt g rfl).2; omega
    · rw [Nat.zero_add]
      exact (World.ownsRow.cellAt (cap := cap) h j (by simpa using hj)).trans (by simp [List.getD, List.getElem?_eq_getElem hj])
theorem rdZ_of {w : World} {B bs : Nat} {A : Option Addr} {zs : List Int} (h : RdI w B A zs) (hb : B ≤ bs) (hB : B ≤ w.heap.size) : RdZ w bs A zs := fun h0 => by
  obtain ⟨b, off, e, hl, hc⟩ := h h0
  exact ⟨b, off, e, ⟨by omega, by omega⟩, hc⟩
theorem iniL_range {S : Nat} : ∀ q ∈ iniL (S : Int), 0 ≤ q ∧ q < (S : Int) := fun q hq => by
  unfold iniL at hq
  split at hq
  · cases hq
  · simp at hq; omega
theorem below_kpo {n : Nat} {w w1 w2 : World} {bs : Nat} (h : Below n w w1) (k : KpO w1 w2 bs) (hn : n ≤ bs) (hz : n ≤ w1.heap.size) : Below n w w2 :=
  ⟨k.os.trans h.os, k.tape.trans h.tape, k.output.trans h.output, Nat.le_trans h.size k.size, fun i hi => (k.block i (by omega) (by omega)).trans (h.block i hi)⟩
theorem cfRe : ∀ args W, (callFunc 48 args).run Try.prog W = .ok (.enter 48 args) W := fun args W => by go_simp
theorem cfAny : ∀ args W, (callFunc 44 args).run Try.prog W = .ok (.enter 44 args) W := fun args W => by go_simp
theorem filter_true {α : Type} (l : List α) : l.filter (fun _ => true) = l := List.filter_eq_self.2 fun _ _ => rfl
set_option maxHeartbeats 8000000 in
set_option maxRecDepth 100000 in
theorem gReachable_any (A : Option Addr) (n c : Nat) (s : Int) (M : Option Addr) (m d : Nat) (E : Option Addr) (k g : Nat) (a : Au) (w : World) (h : AuR w w.heap.size A n c s M m d E k g a) :
    Calls Try.prog 13 #[.agg #[.slice A n c, .int .i64 s, .slice M m d, .slice E k g]] w fun e w' => ∃ v, e = .returned (.tuple #[v, .int .i64 (chkE a)]) ∧ Own w' w.heap.size v (if chkE a = 0 then rchR a else []) ∧ Below w.heap.size w w' := by
  have hb1 := (Below.refl w.heap.size w).alloc (Nat.le_refl _) (.cells #[.slice A n c, .int .i64 s, .slice M m d, .slice E k g] 30)
  have HB1 := Lib.hid hb1
  have HX := Lib.hid (BoxA.made w A n c s M m d E k g 30)
  have HC := Lib.hid (mCheck_any A n c s M m d E k g a _ ((h.below hb1 (Nat.le_refl _)).more (by simp)))
  have HR := Lib.hid h
  have HST := Lib.hid h.st
  obtain ⟨r, hr⟩ : ∃ r, r = chkE a := ⟨_, rfl⟩
  rw [← hr] at HC ⊢
  have HRE := Lib.hid hr
  clear h hb1 hr
  obtain ⟨p0, p1, p2, p3⟩ := HX.out
  go_enter Try.func13, Try.ntmps13
  go_wp2_with fail
  refine HC.out.mono ?_
  rintro e w1 ⟨rfl, hbw⟩
  have HB2 := Lib.hid (HB1.out.trans (hbw.mono HB1.out.size))
  have HX1 := Lib.hid (HX.out.below hbw (by simp))
  have hz1 : w.heap.size < w1.heap.size := by have := hbw.size; simp at this; omega
  clear hbw p0 p1 p2 p3
  obtain ⟨p0, p1, p2, p3⟩ := HX1.out
  by_cases h0 : r = 0
  · have hri := right_of (HRE.out.symm.trans h0)
    obtain ⟨S, hS⟩ : ∃ S : Nat, s = (S : Int) := ⟨s.toNat, by have := hri.st0; rw [HST.out] at this; omega⟩
    have hS4 : S ≤ 4096 := by have := hri.st1; rw [HST.out] at this; omega
    subst hS
    have HEO := Lib.hid (edOk_of hri HST.out)
    have HEL := Lib.hid (ed_le hri)
    subst h0
    have HRR := Lib.hid (show rchR a = rchS S a.ed (iniL (S : Int)) from by unfold rchR; rw [HST.out]; simp)
    clear hri
    obtain ⟨bs, hbs⟩ : ∃ bs, bs = w1.heap.size := ⟨_, rfl⟩
    obtain ⟨W2, hW2⟩ : ∃ W, W = w1.alloc (.cells Try.zeroCells76 76) := ⟨_, rfl⟩
    have HF2 := Lib.hid (show Row W2 bs 76 (flV noF) from by rw [hW2, hbs, zero_flV]; exact Row.new _ _ _)
    have hb12 : Below w1.heap.size w1 W2 := by rw [hW2]; exact (Below.refl _ _).alloc (Nat.le_refl _) _
    have HB3 := Lib.hid (HB2.out.trans (hb12.mono HB2.out.size))
    have HX2 := Lib.hid (HX1.out.below hb12 hz1)
    have hz2 : w.heap.size < W2.heap.size := Nat.lt_of_lt_of_le hz1 hb12.size
    have hbw : w.heap.size < bs := by omega
    have hbsz : bs < W2.heap.size := HF2.out.lt
    have HW2 := Lib.hid hW2
    have HBS := Lib.hid hbs
    have HGR := Lib.hid (fun W (hW : Below w.heap.size w W) => gGraphOf_any A n c (S : Int) M m d E k g a S 44 #[] (fun _ => true) W cfAny (fun x _ W' _ => gAny_any x W') ((HR.out.below hW (Nat.le_refl _)).more hW.size) HEO.out rfl hS4)
    have HIN := Lib.hid (fun W => gInit_any A n c (S : Int) M m d E k g W)
    clear p0 p1 p2 p3 hb12 hW2 hbs
    obtain ⟨p0, p1, p2, p3⟩ := HX2.out
    go_upto_region 5 with fail
    rw [← HW2.out, ← HBS.out]
    have HB3d := Lib.hid HB3.out.drew
    go_region_held3 (fun w' => w'.cell? ⟨w.heap.size, 0, none⟩ = some (.slice A n c) ∧ w'.cell? ⟨w.heap.size, 1, none⟩ = some (.int .i64 (S : Int)) ∧ w'.cell? ⟨w.heap.size, 2, none⟩ = some (.slice M m d) ∧ w'.cell? ⟨w.heap.size, 3, none⟩ = some (.slice E k g)) (first | with_reducible exact ⟨p0, p1, p2, p3⟩ | go_keep)
      (first
      | (go_simp; go_at_call 43; (first | with_reducible refine (HGR.out _ HB3.out).mono ?_ | with_reducible refine (HGR.out _ HB3d.out).mono ?_); rintro e w4 ⟨bg, rfl, hgr, hb4⟩
         have HB4 := Lib.hid (show Below W2.heap.size W2 w4 by first | exact hb4 | exact (Below.drew (Below.refl _ _)).trans hb4)
         have HG4 := Lib.hid (show GrM W2.heap.size w4.heap.size w4 bg S a.ed by rw [filter_true] at hgr; exact hgr)
         have HX4 := Lib.hid (HX2.out.below HB4.out hz2)
         have hz4 := HB4.out.size
         obtain ⟨p0, p1, p2, p3⟩ := HX4.out
         clear hb4 hgr)
      | (go_simp; go_at_call 46; (first | with_reducible refine (HIN.out _).mono ?_); rintro e w5 ⟨vI, rfl, hoI, hb5⟩
         have HB5 := Lib.hid (show Below w4.heap.size w4 w5 by first | exact hb5 | exact (Below.drew (Below.refl _ _)).trans hb5)
         have HO5 := Lib.hid (show Own w5 w4.heap.size vI (iniL (S : Int)) by first | exact hoI)
         obtain ⟨AI, cI, hvI, hrz⟩ := own_rdZ (bs := bs) HO5.out (.inl (by omega))
         subst hvI
         have HRZ := Lib.hid hrz
         obtain ⟨nI, hnI⟩ : ∃ n, n = (iniL (S : Int)).length := ⟨_, rfl⟩
         have hnI1 : nI ≤ 1 := by rw [hnI]; unfold iniL; split <;> simp
         rw [← hnI]
         have HNI := Lib.hid hnI
         clear hrz hnI
         have HX5 := Lib.hid (HX4.out.below HB5.out (by omega))
         have hz5 := HB5.out.size
         obtain ⟨p0, p1, p2, p3⟩ := HX5.out
         clear hb5 hoI)
      | (go_simp; go_at_call 45; (with_reducible refine (qSpread_any bg S a.ed AI nI cI bs (iniL (S : Int)) noF w5 ((HG4.out.below HB5.out (Nat.le_refl _)).toZ hz5 (.inl (by omega))) HEO.out hS4 (by have := HEL.out; omega) HRZ.out HNI.out.symm (by omega) iniL_range ((HF2.out.below HB4.out HF2.out.lt).below HB5.out (by omega))).mono ?_); rintro e w9 ⟨v9, rfl, hov9, hfl9, hkp9⟩
         have HF9 := Lib.hid hfl9
         have HB9 := Lib.hid (below_kpo ((HB3.out.trans (HB4.out.mono (by omega))).trans (HB5.out.mono (by omega))) hkp9 (by omega) (by omega))
         have p0 := (hkp9.cell (b := w.heap.size) (o := 0) (by omega) (by omega)).trans p0
         have p1 := (hkp9.cell (b := w.heap.size) (o := 1) (by omega) (by omega)).trans p1
         have p2 := (hkp9.cell (b := w.heap.size) (o := 2) (by omega) (by omega)).trans p2
         have p3 := (hkp9.cell (b := w.heap.size) (o := 3) (by omega) (by omega)).trans p3
         have hz9 := hkp9.size
         clear hov9 hfl9 hkp9))
    all_goals
      have HWH := Lib.hid (gWhere_any A n c (S : Int) M m d E k g S 48 #[.pointer (some ⟨bs, 0, none⟩)] (seenF noF (spV noF S a.ed (iniL (S : Int)))) w9 cfRe (fun q hq W hW => gAskR_any bs q _ W (HF9.out.below hW HF9.out.lt) (by omega)) rfl hS4)
      go_wp2_with fail
      refine HWH.out.mono ?_
      rintro e w10 ⟨vr, rfl, hor, hbr⟩
      go_wp2_with fail
      go_ret2
      exact ⟨_, rfl, by rw [HRR.out]; exact own_moreG hor (by omega), HB9.out.trans (hbr.mono (by omega))⟩
  · have hbn : (r != 0) = true := by simp [h0]
    go_wp2_with fail
    go_ret2
    exact ⟨_, rfl, by first | exact World.ownsRow_nil _ _ _ _ | (rw [if_neg h0]; exact World.ownsRow_nil _ _ _ _), HB2.out⟩
end Go.Proofs.Ytceldgcmjmfjfaa

/- Layer 4: Coreachable. -/
namespace Go.Proofs.Ytceldgcmjmfjfaa
open Go.RowKit Go.Sort

theorem trnE_len (S : Nat) (es : List Ed) : (trnE S es).length = (tlE es S).length := by unfold trnE; rw [List.length_map]
theorem mem_trnE {S : Nat} {es : List Ed} {x : Ed} : x ∈ trnE S es ↔ ∃ y ∈ es, (0 ≤ y.f ∧ y.f < (S : Int)) ∧ rvE y = x := by
  unfold trnE tlE
  simp only [List.mem_map, List.mem_flatMap, List.mem_range, mem_succ]
  constructor
  · rintro ⟨y, ⟨q, hq, h1, h2⟩, e⟩; exact ⟨y, h1, by omega, e⟩
  · rintro ⟨y, h1, h2, e⟩; exact ⟨y, ⟨y.f.toNat, by omega, h1, by omega⟩, e⟩
theorem trnE_ok {S : Nat} {es : List Ed} (h : EdOk S es) : EdOk S (trnE S es) := fun x hx => by
  obtain ⟨y, hy, _, rfl⟩ := mem_trnE.1 hx
  exact ⟨(h y hy).2, (h y hy).1⟩
def corR (a : Au) : List Int := rchS a.st.toNat (trnE a.st.toNat a.ed) a.mr
theorem cfCo : ∀ args W, (callFunc 50 args).run Try.prog W = .ok (.enter 50 args) W := fun args W => by go_simp
set_option maxHeartbeats 8000000 in
set_option maxRecDepth 100000 in
theorem gCoreachable_any (A : Option Addr) (n c : Nat) (s : Int) (M : Option Addr) (m d : Nat) (E : Option Addr) (k g : Nat) (a : Au) (w : World) (h : AuR w w.heap.size A n c s M m d E k g a) :
    Calls Try.prog 14 #[.agg #[.slice A n c, .int .i64 s, .slice M m d, .slice E k g]] w fun e w' => ∃ v, e = .returned (.tuple #[v, .int .i64 (chkE a)]) ∧ Own w' w.heap.size v (if chkE a = 0 then corR a else []) ∧ Below w.heap.size w w' := by
  have hb1 := (Below.refl w.heap.size w).alloc (Nat.le_refl _) (.cells #[.slice A n c, .int .i64 s, .slice M m d, .slice E k g] 30)
  have HB1 := Lib.hid hb1
  have HX := Lib.hid (BoxA.made w A n c s M m d E k g 30)
  have HC := Lib.hid (mCheck_any A n c s M m d E k g a _ ((h.below hb1 (Nat.le_refl _)).more (by simp)))
  have HR := Lib.hid h
  have HST := Lib.hid h.st
  obtain ⟨r, hr⟩ : ∃ r, r = chkE a := ⟨_, rfl⟩
  rw [← hr] at HC ⊢
  have HRE := Lib.hid hr
  clear h hb1 hr
  obtain ⟨p0, p1, p2, p3⟩ := HX.out
  go_enter Try.func14, Try.ntmps14
  go_wp2_with fail
  refine HC.out.mono ?_
  rintro e w1 ⟨rfl, hbw⟩
  have HB2 := Lib.hid (HB1.out.trans (hbw.mono HB1.out.size))
  have HX1 := Lib.hid (HX.out.below hbw (by simp))
  have hz1 : w.heap.size < w1.heap.size := by have := hbw.size; simp at this; omega
  clear hbw p0 p1 p2 p3
  obtain ⟨p0, p1, p2, p3⟩ := HX1.out
  by_cases h0 : r = 0
  · have hri := right_of (HRE.out.symm.trans h0)
    obtain ⟨S, hS⟩ : ∃ S : Nat, s = (S : Int) := ⟨s.toNat, by have := hri.st0; rw [HST.out] at this; omega⟩
    have hS4 : S ≤ 4096 := by have := hri.st1; rw [HST.out] at this; omega
    subst hS
    have HEO := Lib.hid (edOk_of hri HST.out)
    have HEL := Lib.hid (ed_le hri)
    subst h0
    have HRR := Lib.hid (show corR a = rchS S (trnE S a.ed) a.mr from by unfold corR; rw [HST.out]; simp)
    have HMRR := Lib.hid (show ∀ q ∈ a.mr, 0 ≤ q ∧ q < (S : Int) from fun q hq => by have := hri.mrr q hq; rw [HST.out] at this; exact this)
    have HMZ := Lib.hid (fun W (hW : Below w.heap.size w W) => rdZ_of (bs := w1.heap.size) (HR.out.mr.below hW (Nat.le_refl _)) (by omega) hW.size)
    have hbm := HR.out.bm
    clear hri
    obtain ⟨bs, hbs⟩ : ∃ bs, bs = w1.heap.size := ⟨_, rfl⟩
    obtain ⟨W2, hW2⟩ : ∃ W, W = w1.alloc (.cells Try.zeroCells76 76) := ⟨_, rfl⟩
    have HF2 := Lib.hid (show Row W2 bs 76 (flV noF) from by rw [hW2, hbs, zero_flV]; exact Row.new _ _ _)
    have hb12 : Below w1.heap.size w1 W2 := by rw [hW2]; exact (Below.refl _ _).alloc (Nat.le_refl _) _
    have HB3 := Lib.hid (HB2.out.trans (hb12.mono HB2.out.size))
    have HX2 := Lib.hid (HX1.out.below hb12 hz1)
    have hz2 : w.heap.size < W2.heap.size := Nat.lt_of_lt_of_le hz1 hb12.size
    have hbw : w.heap.size < bs := by omega
    have hbsz : bs < W2.heap.size := HF2.out.lt
    have HW2 := Lib.hid hW2
    have HBS := Lib.hid hbs
    have HGR := Lib.hid (fun W (hW : Below w.heap.size w W) => gGraphOf_any A n c (S : Int) M m d E k g a S 44 #[] (fun _ => true) W cfAny (fun x _ W' _ => gAny_any x W') ((HR.out.below hW (Nat.le_refl _)).more hW.size) HEO.out rfl hS4)
    have HIN := Lib.hid (fun W => gInit_any A n c (S : Int) M m d E k g W)
    clear p0 p1 p2 p3 hb12 hW2 hbs
    obtain ⟨p0, p1, p2, p3⟩ := HX2.out
    have HMZ5 := fun W hW => (show RdZ W bs M a.mr from by have := HMZ.out W hW; rw [← HBS.out] at this; exact this)
    have HMZ5 := Lib.hid HMZ5
    go_upto_region 5 with fail
    rw [← HW2.out, ← HBS.out]
    have HB3d := Lib.hid HB3.out.drew
    go_region_held3 (fun w' => w'.cell? ⟨w.heap.size, 0, none⟩ = some (.slice A n c) ∧ w'.cell? ⟨w.heap.size, 1, none⟩ = some (.int .i64 (S : Int)) ∧ w'.cell? ⟨w.heap.size, 2, none⟩ = some (.slice M m d) ∧ w'.cell? ⟨w.heap.size, 3, none⟩ = some (.slice E k g)) (first | with_reducible exact ⟨p0, p1, p2, p3⟩ | go_keep)
      (first
      | (go_simp; go_at_call 43; (first | with_reducible refine (HGR.out _ HB3.out).mono ?_ | with_reducible refine (HGR.out _ HB3d.out).mono ?_); rintro e w4 ⟨bg, rfl, hgr, hb4⟩
         have HB4 := Lib.hid (show Below W2.heap.size W2 w4 by first | exact hb4 | exact (Below.drew (Below.refl _ _)).trans hb4)
         have HG4 := Lib.hid (show GrM W2.heap.size w4.heap.size w4 bg S a.ed by rw [filter_true] at hgr; exact hgr)
         have HX4 := Lib.hid (HX2.out.below HB4.out hz2)
         have hz4 := HB4.out.size
         obtain ⟨p0, p1, p2, p3⟩ := HX4.out
         clear hb4 hgr)
      | (go_simp; go_at_call 49; (first | with_reducible refine (gTurned_any W2.heap.size w4.heap.size bg S a.ed w4 HG4.out (Nat.le_refl _) HEO.out hS4 (by have := HEL.out; omega)).mono ?_ | with_reducible refine (gTurned_any W2.heap.size w4.heap.size bg S a.ed w4.drew HG4.out (Nat.le_refl _) HEO.out hS4 (by have := HEL.out; omega)).mono ?_); rintro e w5 ⟨bt, rfl, hgt, hb5⟩
         have HB5 := Lib.hid (show Below w4.heap.size w4 w5 by first | exact hb5 | exact (Below.drew (Below.refl _ _)).trans hb5)
         have HG5 := Lib.hid (show GrM w4.heap.size w5.heap.size w5 bt S (trnE S a.ed) by first | exact hgt)
         have HX5 := Lib.hid (HX4.out.below HB5.out (by omega))
         have hz5 := HB5.out.size
         obtain ⟨p0, p1, p2, p3⟩ := HX5.out
         clear hb5 hgt)
      | (go_simp; go_at_call 45; (with_reducible refine (qSpread_any bt S (trnE S a.ed) M m d bs a.mr noF w5 (HG5.out.toZ (Nat.le_refl _) (.inl (by omega))) (trnE_ok HEO.out) hS4 (by rw [trnE_len]; have := tlE_le a.ed S; have := HEL.out; omega) (HMZ5.out w5 (by exact ((HB3.out.trans (HB4.out.mono (by omega))).trans (HB5.out.mono (by omega))))) HR.out.hm (by omega) HMRR.out ((HF2.out.below HB4.out HF2.out.lt).below HB5.out (by omega))).mono ?_); rintro e w9 ⟨v9, rfl, hov9, hfl9, hkp9⟩
         have HF9 := Lib.hid hfl9
         have HB9 := Lib.hid (below_kpo ((HB3.out.trans (HB4.out.mono (by omega))).trans (HB5.out.mono (by omega))) hkp9 (by omega) (by omega))
         have p0 := (hkp9.cell (b := w.heap.size) (o := 0) (by omega) (by omega)).trans p0
         have p1 := (hkp9.cell (b := w.heap.size) (o := 1) (by omega) (by omega)).trans p1
         have p2 := (hkp9.cell (b := w.heap.size) (o := 2) (by omega) (by omega)).trans p2
         have p3 := (hkp9.cell (b := w.heap.size) (o := 3) (by omega) (by omega)).trans p3
         have hz9 := hkp9.size
         clear hov9 hfl9 hkp9))
    all_goals
      have HWH := Lib.hid (gWhere_any A n c (S : Int) M m d E k g S 50 #[.pointer (some ⟨bs, 0, none⟩)] (seenF noF (spV noF S (trnE S a.ed) a.mr)) w9 cfCo (fun q hq W hW => gAskC_any bs q _ W (HF9.out.below hW HF9.out.lt) (by omega)) rfl hS4)
      go_wp2_with fail
      refine HWH.out.mono ?_
      rintro e w10 ⟨vr, rfl, hor, hbr⟩
      go_wp2_with fail
      go_ret2
      exact ⟨_, rfl, by rw [HRR.out]; exact own_moreG hor (by omega), HB9.out.trans (hbr.mono (by omega))⟩
  · have hbn : (r != 0) = true := by simp [h0]
    go_wp2_with fail
    go_ret2
    exact ⟨_, rfl, by first | exact World.ownsRow_nil _ _ _ _ | (rw [if_neg h0]; exact World.ownsRow_nil _ _ _ _), HB2.out⟩
end Go.Proofs.Ytceldgcmjmfjfaa

/- Layer 4: Dead. -/
namespace Go.Proofs.Ytceldgcmjmfjfaa
open Go.RowKit Go.Sort

/-- No edge leaves a state. -/
def ndF (es : List Ed) (q : Nat) : Bool := decide ((succ es (q : Int)).length = 0)
def dedR (a : Au) : List Int := rngF a.st.toNat (ndF a.ed)
theorem cfDe : ∀ args W, (callFunc 51 args).run Try.prog W = .ok (.enter 51 args) W := fun args W => by go_simp
set_option maxHeartbeats 1000000 in
theorem gAskD_any (bx bg S q : Nat) (es : List Ed) (base top : Nat) (w : World) (h : Row w bx 79 [.slice (some ⟨bg, 0, none⟩) S S]) (hg : GrM base top w bg S es) (hq : q < S) (_hS : S ≤ 4096) :
    Calls Try.prog 51 #[.int .i64 (q : Int), .pointer (some ⟨bx, 0, none⟩)] w fun e w' => e = .returned (.bool (ndF es q)) ∧ Below w.heap.size w w' := by
  obtain ⟨A, c, hc, _⟩ := hg.2 q hq
  obtain ⟨L, hL⟩ : ∃ L, L = (succ es (q : Int)).length := ⟨_, rfl⟩
  rw [← hL] at hc
  have h0 := h.cell 0 rfl
  have HR := Lib.hid (show ndF es q = decide (L = 0) by unfold ndF; rw [hL])
  have z0 : (0 : Int) ≤ (q : Int) := by omega
  have z1 : (q : Int) < (S : Int) := by omega
  clear h hg hL
  go_enter Try.func51, Try.ntmps51
  go_wp2_with fail
  go_ret
  exact ⟨by rw [HR.out]; congr 2; by_cases hl : L = 0 <;> simp [hl], Below.refl _ _⟩
set_option maxHeartbeats 8000000 in
set_option maxRecDepth 100000 in
theorem gDead_any (A : Option Addr) (n c : Nat) (s : Int) (M : Option Addr) (m d : Nat) (E : Option Addr) (k g : Nat) (a : Au) (w : World) (h : AuR w w.heap.size A n c s M m d E k g a) :
    Calls Try.prog 15 #[.agg #[.slice A n c, .int .i64 s, .slice M m d, .slice E k g]] w fun e w' => ∃ v, e = .returned (.tuple #[v, .int .i64 (chkE a)]) ∧ Own w' w.heap.size v (if chkE a = 0 then dedR a else []) ∧ Below w.heap.size w w' := by
  have hb1 := (Below.refl w.heap.size w).alloc (Nat.le_refl _) (.cells #[.slice A n c, .int .i64 s, .slice M m d, .slice E k g] 30)
  have HB1 := Lib.hid hb1
  have HX := Lib.hid (BoxA.made w A n c s M m d E k g 30)
  have HC := Lib.hid (mCheck_any A n c s M m d E k g a _ ((h.below hb1 (Nat.le_refl _)).more (by simp)))
  have HR := Lib.hid h
  have HST := Lib.hid h.st
  obtain ⟨r, hr⟩ : ∃ r, r = chkE a := ⟨_, rfl⟩
  rw [← hr] at HC ⊢
  have HRE := Lib.hid hr
  clear h hb1 hr
  obtain ⟨p0, p1, p2, p3⟩ := HX.out
  go_enter Try.func15, Try.ntmps15
  go_wp2_with fail
  refine HC.out.mono ?_
  rintro e w1 ⟨rfl, hbw⟩
  have HB2 := Lib.hid (HB1.out.trans (hbw.mono HB1.out.size))
  have HX1 := Lib.hid (HX.out.below hbw (by simp))
  have hz1 : w.heap.size < w1.heap.size := by have := hbw.size; simp at this; omega
  clear hbw p0 p1 p2 p3
  obtain ⟨p0, p1, p2, p3⟩ := HX1.out
  by_cases h0 : r = 0
  · have hri := right_of (HRE.out.symm.trans h0)
    obtain ⟨S, hS⟩ : ∃ S : Nat, s = (S : Int) := ⟨s.toNat, by have := hri.st0; rw [HST.out] at this; omega⟩
    have hS4 : S ≤ 4096 := by have := hri.st1; rw [HST.out] at this; omega
    subst hS
    have HEO := Lib.hid (edOk_of hri HST.out)
    have HEL := Lib.hid (ed_le hri)
    subst h0
    have HRR := Lib.hid (show dedR a = rngF S (ndF a.ed) from by unfold dedR; rw [HST.out]; simp)
    clear hri
    go_wp2_with fail
    refine (gGraphOf_any A n c (S : Int) M m d E k g a S 44 #[] (fun _ => true) w1 cfAny (fun x _ W' _ => gAny_any x W') ((HR.out.below HB2.out (Nat.le_refl _)).more HB2.out.size) HEO.out rfl hS4).mono ?_
    rintro e w4 ⟨bg, rfl, hgr, hb4⟩
    have HG4 := Lib.hid (show GrM w1.heap.size w4.heap.size w4 bg S a.ed by rw [filter_true] at hgr; exact hgr)
    have HX4 := Lib.hid (HX1.out.below hb4 hz1)
    have hz4 := hb4.size
    have HB4 := Lib.hid hb4
    obtain ⟨p0, p1, p2, p3⟩ := HX4.out
    clear hb4 hgr
    obtain ⟨bx, hbx⟩ : ∃ b, b = w4.heap.size := ⟨_, rfl⟩
    obtain ⟨W5, hW5⟩ : ∃ W, W = w4.alloc (.cells #[.slice (some ⟨bg, 0, none⟩) S S] 79) := ⟨_, rfl⟩
    have hb5 : Below w4.heap.size w4 W5 := by rw [hW5]; exact (Below.refl _ _).alloc (Nat.le_refl _) _
    have HBX := Lib.hid (show Row W5 bx 79 [.slice (some ⟨bg, 0, none⟩) S S] from by rw [hW5, hbx]; exact Row.new _ _ _)
    have HG5 := Lib.hid (HG4.out.below hb5 (Nat.le_refl _))
    have HX5 := Lib.hid (HX4.out.below hb5 (by omega))
    have HB5 := Lib.hid ((HB2.out.trans (HB4.out.mono (by omega))).trans (hb5.mono (by omega)))
    have hz5 := hb5.size
    have HWH := Lib.hid (gWhere_any A n c (S : Int) M m d E k g S 51 #[.pointer (some ⟨bx, 0, none⟩)] (ndF a.ed) W5 cfDe (fun q hq W hW => gAskD_any bx bg S q a.ed _ _ W (HBX.out.below hW HBX.out.lt) (HG5.out.below hW hz5) hq hS4) rfl hS4)
    have HW5 := Lib.hid hW5
    have HBXE := Lib.hid hbx
    clear hW5 hbx hb5
    go_upto_region 5 with fail
    rw [← HW5.out, ← HBXE.out]
    obtain ⟨q0, q1, q2, q3⟩ := HX5.out
    go_wp2_with fail
    refine HWH.out.mono ?_
    rintro e w10 ⟨vr, rfl, hor, hbr⟩
    go_wp2_with fail
    go_ret2
    exact ⟨_, rfl, by rw [HRR.out]; exact own_moreG hor (by omega), HB5.out.trans (hbr.mono (by omega))⟩
  · have hbn : (r != 0) = true := by simp [h0]
    go_wp2_with fail
    go_ret2
    exact ⟨_, rfl, by first | exact World.ownsRow_nil _ _ _ _ | (rw [if_neg h0]; exact World.ownsRow_nil _ _ _ _), HB2.out⟩
end Go.Proofs.Ytceldgcmjmfjfaa

/- Layer 3: slices.Sorted(slices.Values(l)): the numbers of a list in increasing order, in new memory. -/
namespace Go.Proofs.Ytceldgcmjmfjfaa
open Go.RowKit Go.Shelf

attribute [local go_sem] Oper.semAt_some

def uptoF {α : Type} (f : Nat → α) (k : Nat) : List α := (List.range k).map f
theorem uptoF_succ {α : Type} (f : Nat → α) (k : Nat) : uptoF f (k + 1) = uptoF f k ++ [f k] := by simp [uptoF, List.range_succ]
theorem uptoF_length {α : Type} (f : Nat → α) (k : Nat) : (uptoF f k).length = k := by simp [uptoF]
theorem uptoF_all (zs : List Int) : uptoF (fun j => zs[j]?.getD 0) zs.length = zs := by
  apply List.ext_getElem
  · simp [uptoF]
  · intro i h1 h2
    simp [uptoF, h2]
theorem uptoF_take (zs : List Int) {k : Nat} (hk : k ≤ zs.length) : uptoF (fun j => zs[j]?.getD 0) k = zs.take k := by
  apply List.ext_getElem
  · simp [uptoF, hk]
  · intro i h1 h2
    have : i < zs.length := by simp [uptoF] at h1; omega
    simp [uptoF, this]

end Go.Proofs.Ytceldgcmjmfjfaa

/- Layer 3: slices.Sorted, checkNewEvents, slices.SortFunc of edges. -/
namespace Go.Proofs.Ytceldgcmjmfjfaa
open Go.RowKit Go.Sort

theorem idx_none {zs : List Int} {x : Int} {k : Nat} (hk : k = zs.length) (h : x ∉ zs.take k) : x ∉ zs := by
  rwa [List.take_of_length_le (by omega)] at h
set_option maxHeartbeats 400000 in
theorem index_any (A : Option Addr) (n c Bx : Nat) (zs : List Int) (x : Int) (w : World) (hx : RdI w Bx A zs) (hn : zs.length = n) (hb : n ≤ 140737488355328) :
    Calls Try.prog 107 #[.slice A n c, .int .i64 x] w fun e w' => (∃ i : Int, e = .returned (.int .i64 i) ∧ (x ∈ zs ↔ 0 ≤ i)) ∧ w = w' := by
  have HN := Lib.hid hn
  clear hn
  go_enter Try.func107, Try.ntmps107
  go_wp2
  go_loop [8] (fun i => ∃ k : Nat, k ≤ n ∧ i = .int .i64 k ∧ Hid (x ∉ zs.take k)) (fun i => n - (intOf i).toNat)
  case atStart => exact ⟨0, Nat.zero_le _, rfl, by simp [Hid]⟩
  case round =>
    obtain ⟨k, hk, rfl, ht⟩ := hrel
    by_cases hlt : k < n
    · obtain ⟨b1, o1, rfl, _, hc1⟩ := hx (by rw [HN.out]; omega)
      have hz : k < zs.length := by rw [HN.out]; exact hlt
      have h1 := hc1 k hz
      obtain ⟨y, hye⟩ : ∃ y, y = zs.getD k 0 := ⟨_, rfl⟩
      rw [← hye] at h1
      clear hc1 hx
      by_cases hyx : x = y
      · have hr := Lib.hid (show x ∈ zs by rw [hyx, hye]; exact getD_mem hz)
        have hb1 : (x == y) = true := by simpa using hyx
        clear hyx hye ht hz
        go_wp2
        go_ret
        exact ⟨⟨k, rfl, fun _ => by omega, fun _ => hr.out⟩, rfl⟩
      · have hr := Lib.hid (show x ∉ zs.take (k + 1) by rw [mem_snoc_take hz, not_or]; exact ⟨ht.out, by rw [← hye]; exact fun e => hyx e.symm⟩)
        have hb1 : (x == y) = false := by simpa using hyx
        clear hyx hye ht hz
        go_wp2
        go_round
        case rel => exact ⟨k + 1, by omega, by go_num, hr⟩
        case measure => simp [intOf]; omega
    · have hr := Lib.hid (idx_none (by rw [HN.out]; omega) ht.out)
      go_wp2
      go_ret
      exact ⟨⟨-1, rfl, fun h => absurd h hr.out, fun h => by omega⟩, rfl⟩
theorem containsInt_any (A : Option Addr) (n c Bx : Nat) (zs : List Int) (x : Int) (w : World) (hx : RdI w Bx A zs) (hn : zs.length = n) (hb : n ≤ 140737488355328) :
    Calls Try.prog 93 #[.slice A n c, .int .i64 x] w fun e w' => e = .returned (.bool (decide (x ∈ zs))) ∧ w = w' := by
  have H := Lib.hid (index_any A n c Bx zs x w hx hn hb)
  clear hx hn
  go_enter Try.func93, Try.ntmps93
  go_wp2_with fail
  refine H.out.mono ?_
  rintro e w' ⟨⟨i, rfl, hi⟩, rfl⟩
  have hd := Lib.hid (show decide (0 ≤ i) = decide (x ∈ zs) by rw [decide_eq_decide]; exact hi.symm)
  clear hi
  go_wp2_with fail
  go_ret
  exact ⟨ret_bool hd.out, rfl⟩

/-- The first error of a list of new events. -/
def neGo : List Int → List Int → Int
  | _, [] => 0
  | seen, x :: r => if x < 0 ∨ 32 ≤ x then 2 else if x ∈ seen then 8 else neGo (seen ++ [x]) r
def neE (zs : List Int) : Int := neGo [] zs
theorem ne_range {zs : List Int} {k : Nat} {v : Int} (h : k < zs.length) (hv : neGo (zs.take k) (zs.drop k) = v) (hx : zs.getD k 0 < 0 ∨ 32 ≤ zs.getD k 0) : v = 2 := by
  rw [← hv, drop_step zs k h, neGo, if_pos hx]
theorem ne_dup {zs : List Int} {k : Nat} {v : Int} (h : k < zs.length) (hv : neGo (zs.take k) (zs.drop k) = v) (hx : ¬ (zs.getD k 0 < 0 ∨ 32 ≤ zs.getD k 0)) (hm : zs.getD k 0 ∈ zs.take k) : v = 8 := by
  rw [← hv, drop_step zs k h, neGo, if_neg hx, if_pos hm]
theorem ne_next {zs : List Int} {k : Nat} {v : Int} (h : k < zs.length) (hv : neGo (zs.take k) (zs.drop k) = v) (hx : ¬ (zs.getD k 0 < 0 ∨ 32 ≤ zs.getD k 0)) (hm : zs.getD k 0 ∉ zs.take k) : neGo (zs.take (k + 1)) (zs.drop (k + 1)) = v := by
  rw [← hv, drop_step zs k h, neGo, if_neg hx, if_neg hm]
  congr 1
  rw [List.take_succ_eq_append_getElem h]; simp [List.getD, List.getElem?_eq_getElem h]
theorem ne_end {zs : List Int} {k : Nat} {v : Int} (hk : k = zs.length) (hv : neGo (zs.take k) (zs.drop k) = v) : v = 0 := by
  rw [← hv, hk, List.drop_of_length_le (Nat.le_refl _), neGo]

theorem grown_sort {α : Type} [Inhabited α] (enc : α → Value) (w : World) (blk off m : Nat) (dk : Array α) (os : Array Obj) : w.grownBy (Go.Sort.grow (putRow enc (Go.Sort.ahead w m) blk off dk) os) (some blk) := by
  refine ⟨rfl, rfl, rfl, by simp, fun k hk hne => ?_⟩
  rw [heap_grow_old _ _ (by simpa using hk)]
  have hne' : blk ≠ k := fun e => hne (by rw [e])
  simp only [putRow, mapBlock, Array.getElem?_modify, if_neg hne']
  rfl
instance : Inhabited Ed := ⟨⟨0, 0, 0⟩⟩
def encEd (x : Ed) : List Value := [.int .i64 x.f, .int .i64 x.e, .int .i64 x.t]
end Go.Proofs.Ytceldgcmjmfjfaa
