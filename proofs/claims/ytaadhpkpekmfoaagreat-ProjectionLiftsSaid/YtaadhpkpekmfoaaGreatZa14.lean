/- Texts merged: what follows were texts of their own. -/
import Derived.Test.YtaadhpkpekmfoaaGreatZa13
import Derived.Test.YtaadhpkpekmfoaaGreatZa3
import Derived.Deep.RegionHeld3
import Derived.Deep.CutRange
import Derived.Test.YtaadhpkpekmfoaaGreatZa10
import Derived.Test.YtaadhpkpekmfoaaGreatZa5
import Derived.Test.YtaadhpkpekmfoaaGreatZa8
import Derived.Test.YtaadhpkpekmfoaaGreatZa2
import Derived.ProofKit
import Derived.OpenShut
import Derived.ShutString
import Derived.ChangeOld
import Derived.Below
import Derived.Deep.Slices
import Derived.Deep.Fields
set_option linter.unusedVariables false
set_option linter.unusedSimpArgs false
set_option linter.unusedSectionVars false
/- Layer 7: Inverse. -/
namespace Go.Proofs.YtaadhpkpekmfoaaGreat
open Go.RowKit Go.Sort

theorem own_dr1 {w : World} {base n : Nat} {e : TypeId} {sz : Nat} {v : Value} {xs : List Value} (h : w.ownsRow base e sz v n xs) : w.drew.ownsRow base e sz v n xs := h
/-- The box of an automaton that is made. -/
def RowX (b1 : Nat) (W : World) (g : Nat) : Prop := Row W g 33 [.slice none 0 0, .int .i64 0, .slice none 0 0, .slice none 0 0] ∧ b1 ≤ g
theorem RowX.new {b1 : Nat} {X : World} (h : b1 ≤ X.heap.size) : RowX b1 (X.alloc (.cells #[.slice none 0 0, .int .i64 0, .slice none 0 0, .slice none 0 0] 33)) X.heap.size := ⟨Row.new X [.slice none 0 0, .int .i64 0, .slice none 0 0, .slice none 0 0] 33, h⟩
theorem RowX.alloc {b1 g : Nat} {X : World} (h : RowX b1 X g) (o : Obj) : RowX b1 (X.alloc o) g := ⟨h.1.alloc o, h.2⟩
theorem RowX.drew {b1 g : Nat} {X : World} (h : RowX b1 X g) : RowX b1 X.drew g := ⟨h.1, h.2⟩
/-- What a call keeps. -/
structure KpX (b1 : Nat) (w0 W w' : World) : Prop where
  bel : Below b1 w0 w'
  rows : ∀ g e cs, Row W g e cs → e ≠ 3 → Row w' g e cs
  own : ∀ v l, OwnE W b1 v l → OwnE w' b1 v l
structure KpY (b1 : Nat) (w0 W w' : World) : Prop extends KpX b1 w0 W w' where
  ownI : ∀ v l, Own W b1 v l → Own w' b1 v l
theorem KpX.rowX {b1 : Nat} {w0 W w' : World} (h : KpX b1 w0 W w') {g : Nat} (hr : RowX b1 W g) : RowX b1 w' g := ⟨h.rows _ _ _ hr.1 (by decide), hr.2⟩
theorem kpy_of {b1 : Nat} {w0 W w' : World} (hW : Below b1 w0 W) (hz : b1 ≤ W.heap.size) (hb : Below W.heap.size W w') : KpY b1 w0 W w' :=
  ⟨⟨hW.trans (hb.mono hz), fun _ _ _ hr _ => hr.below hb hr.lt, fun _ _ h => own_below h hb⟩, fun _ _ h => own_below h hb⟩
theorem kpx_grown {b1 : Nat} {w0 W w' : World} {v : Value} {zs : List Int} (hW : Below b1 w0 W) (hz : b1 ≤ W.heap.size) (ho : Own W b1 v zs) (hg : W.grownBy w' v.ownBlock) : KpX b1 w0 W w' :=
  ⟨hW.trans ((Below.refl b1 W).grown hg hz fun k hk => (ho.lt k hk).1), fun _ _ _ hr he => hr.grown hg fun e' => row_ne_own hr ho (fun e'' => he (by first | exact e'' | exact e''.symm)) (by first | exact e'.symm | exact e'),
    fun _ _ h => own_row h hg (owns_ne h ho (by decide))⟩
theorem Row.newE (w : World) (cs : List Value) (e : TypeId) {p : Nat} (hp : w.heap.size = p) : Row (w.alloc (.cells cs.toArray e)) p e cs := hp ▸ Row.new w cs e
theorem cell_s4 {W : World} {X b i : Nat} {v0 v1 v2 v3 : Value} (h : b ≠ X) : ((((W.setCell ⟨X, 0, none⟩ v0).setCell ⟨X, 1, none⟩ v1).setCell ⟨X, 2, none⟩ v2).setCell ⟨X, 3, none⟩ v3).cell? ⟨b, i, none⟩ = W.cell? ⟨b, i, none⟩ := World.cell?_of_block (a := ⟨b, i, none⟩) (heap_set4 W _ _ _ _ h)
theorem ba_fin {w2 W : World} {b1 g : Nat} {va ve vm : Value} {s : Int} {zs : List Int} {l : List Ed} (hB : Below b1 w2 W) (hX : RowX b1 W g) (hZ : Own W b1 va zs) (hE : OwnE W b1 ve l) :
    Ba w2 b1 g s vm ((((W.setCell ⟨g, 0, none⟩ va).setCell ⟨g, 1, none⟩ (.int .i64 s)).setCell ⟨g, 2, none⟩ vm).setCell ⟨g, 3, none⟩ ve) zs va l ve :=
  ⟨below_s4 _ _ _ _ hB hX.2, hX.1.set4 _ _ _ _, ownsRow_same' hZ fun k hk => heap_set4 W _ _ _ _ fun e => row_ne_own hX.1 hZ (by decide) (by rw [hk, e]),
    ownsRow_same' hE fun k hk => heap_set4 W _ _ _ _ fun e => row_ne_own hX.1 hE (by decide) (by rw [hk, e]), hX.2⟩
theorem al_le {a : Au} (h : RightW a) : a.al.length ≤ 32 := nodup_len (S := 32) (h.alo.imp fun h => by omega) (fun x hx => h.alr x hx)
theorem ba_new {w2 X : World} {b1 : Nat} {va ve vm : Value} {s : Int} {zs : List Int} {l : List Ed} (hB : Below b1 w2 X) (hz : b1 ≤ X.heap.size) (hZ : Own X b1 va zs) (hE : OwnE X b1 ve l) :
    Ba w2 b1 X.heap.size s vm (X.alloc (.cells #[va, .int .i64 s, vm, ve] 33)) zs va l ve :=
  ⟨hB.alloc hz _, Row.new X [va, .int .i64 s, vm, ve] 33, hZ.alloc _, hE.alloc _, hz⟩
theorem ed_le {a : Au} (h : RightW a) {S : Nat} (hS : a.st = (S : Int)) : a.ed.length ≤ S * 32 := by
  have h1 : (a.ed.map fun x => x.f * 32 + x.e).length ≤ S * 32 := by
    refine nodup_len ?_ fun y hy => ?_
    · rw [List.nodup_iff_pairwise_ne, List.pairwise_map]
      exact h.edo.imp_of_mem fun {x y} hx hy hlt => by
        have h1 := h.alr _ (h.edr x hx).2.2
        have h2 := h.alr _ (h.edr y hy).2.2
        unfold ltE at hlt
        omega
    · obtain ⟨x, hx, rfl⟩ := List.mem_map.1 hy
      have h1 := h.alr _ (h.edr x hx).2.2
      have h2 := (h.edr x hx).1
      rw [hS] at h2
      omega
  rwa [List.length_map] at h1
/-- What Inverse hands back. -/
noncomputable def invR (a : Au) (al2 : List Int) : Au × Int := if cweE a al2 = 0 then canR (invA a al2) else (zeroA, cweE a al2)
set_option maxHeartbeats 32000000 in
set_option maxRecDepth 100000 in
theorem jInverse_any (A : Option Addr) (n c : Nat) (s : Int) (M : Option Addr) (m d : Nat) (E : Option Addr) (k g : Nat) (A3 : Option Addr) (n3 c3 : Nat) (a : Au) (al2 : List Int) (w : World) (h : AuR w w.heap.size A n c s M m d E k g a) (ho : RdI w w.heap.size A3 al2) (hn : al2.length = n3) (hc3 : n3 ≤ c3 ∧ c3 ≤ 9223372036854775807) (hb3 : n3 ≤ 10000) :
    Calls Tryz.prog 29 #[.agg #[.slice A n c, .int .i64 s, .slice M m d, .slice E k g], .slice A3 n3 c3] w fun e w' => GivesA w (invR a al2) e w' := by
  have hb1 := ((Below.refl w.heap.size w).alloc (Nat.le_refl _) (.cells #[.slice A n c, .int .i64 s, .slice M m d, .slice E k g] 33)).alloc (by simp) (.cells #[.slice none 0 0, .int .i64 0, .slice none 0 0, .slice none 0 0] 33)
  obtain ⟨W1, hW1⟩ : ∃ W, W = (w.alloc (.cells #[.slice A n c, .int .i64 s, .slice M m d, .slice E k g] 33)).alloc (.cells #[.slice none 0 0, .int .i64 0, .slice none 0 0, .slice none 0 0] 33) := ⟨_, rfl⟩
  have HA := Lib.hid (show Row W1 w.heap.size 33 [.slice A n c, .int .i64 s, .slice M m d, .slice E k g] from by rw [hW1]; exact (Row.new w _ _).alloc _)
  have HR1 := Lib.hid (show Row W1 (w.heap.size + 1) 33 [.slice none 0 0, .int .i64 0, .slice none 0 0, .slice none 0 0] from by
    rw [hW1]
    have := Row.new (w.alloc (.cells #[.slice A n c, .int .i64 s, .slice M m d, .slice E k g] 33)) [.slice none 0 0, .int .i64 0, .slice none 0 0, .slice none 0 0] 33
    rw [World.size_alloc] at this; exact this)
  rw [← hW1] at hb1
  have HB1 := Lib.hid hb1
  have HCE := Lib.hid (jCheckEvents_any A n c s M m d E k g a A3 n3 c3 al2 W1 ((h.below hb1 (Nat.le_refl _)).more hb1.size) ((ho.below hb1 (Nat.le_refl _)).more hb1.size) hn hc3 (by omega))
  have HH := Lib.hid h
  have HO := Lib.hid ho
  have HN := Lib.hid hn
  have q0 := HA.out.cell 0 rfl
  have q1 := HA.out.cell 1 rfl
  have q2 := HA.out.cell 2 rfl
  have q3 := HA.out.cell 3 rfl
  obtain ⟨u, hu⟩ : ∃ u, u = cweE a al2 := ⟨_, rfl⟩
  rw [← hu] at HCE
  have HU := Lib.hid hu
  have HW1 := Lib.hid hW1
  clear h ho hn hb1 hu hW1
  go_enter Tryz.func29, Tryz.ntmps29
  go_wp2_with fail
  rw [← HW1.out]
  clear HW1
  go_wp2_with fail
  refine HCE.out.mono ?_
  rintro e w2 ⟨rfl, hb2⟩
  have HB2 := Lib.hid (HB1.out.trans (hb2.mono HB1.out.size))
  have HA2 := Lib.hid (HA.out.below hb2 HA.out.lt)
  have HR2 := Lib.hid (HR1.out.below hb2 HR1.out.lt)
  have hz1 := HB1.out.size
  have hz2 := hb2.size
  have hl1 := HR1.out.lt
  clear hb2 HCE HA HR1 q0 q1 q2 q3 HB1
  by_cases h0 : u = 0
  · have hb0 : (u != 0) = false := by simp [h0]
    have hcw := cwe_zero (show cweE a al2 = 0 by rw [← HU.out]; exact h0)
    have hri := hcw.1
    have hst := HH.out.st
    have hc0 : cweE a al2 = 0 := by rw [← HU.out]; exact h0
    have HC0 := Lib.hid hc0
    have HRI := Lib.hid hri
    have HEV := Lib.hid hcw.2
    have HST := Lib.hid hst
    have hzw : w.heap.size ≤ w2.heap.size := by omega
    have HC1 := Lib.hid (fun (W : World) (p : Nat) (hW : Below w2.heap.size w2 W) (hp : Row W p 27 [.slice A n c, .slice A3 n3 c3]) => (concat_any p 0 2 A n c A3 n3 c3 a.al al2 W ⟨hp.cell 0 rfl, hp.cell 1 rfl, ((HH.out.al.below (HB2.out.trans (hW.mono hzw)) (Nat.le_refl _)).more (Nat.le_trans hzw hW.size)), ((HO.out.below (HB2.out.trans (hW.mono hzw)) (Nat.le_refl _)).more (Nat.le_trans hzw hW.size)), HH.out.hn, HN.out, hp.lt⟩ (by have := HH.out.bn; have := al_le HRI.out.toRightW; have := HH.out.hn; omega) (by omega)).mono (R' := fun e w' => ∃ A c, e = .returned (.slice A (n + n3) c) ∧ Own w' w2.heap.size (.slice A (n + n3) c) (a.al ++ al2) ∧ KpY w2.heap.size w2 W w') fun e w' ⟨A', c', e1, e2, e3⟩ => ⟨A', c', e1, own_more e2 hW.size, kpy_of hW hW.size e3⟩)
    have HC2 := Lib.hid (fun (W : World) (A' : Option Addr) (c' : Nat) (hW : Below w2.heap.size w2 W) => (values_any A' (n + n3) c' W).mono (R' := fun e w' => ∃ Bs, e = .returned (.func (.func 101) #[] #[.pointer (some ⟨Bs, 0, none⟩)]) ∧ Row w' Bs 27 [.slice A' (n + n3) c'] ∧ KpY w2.heap.size w2 W w') fun e w' ⟨e1, e2⟩ => ⟨W.heap.size, e1, by rw [e2]; exact Row.new W [.slice A' (n + n3) c'] 27, by rw [e2]; exact kpy_of hW hW.size ((Below.refl _ W).alloc (Nat.le_refl _) _)⟩)
    have hN : (a.al ++ al2).length = n + n3 := by rw [List.length_append, HH.out.hn, HN.out]
    have HC3 := Lib.hid (fun (W : World) (Bs : Nat) (A' : Option Addr) (c' : Nat) (hW : Below w2.heap.size w2 W) (hp : Row W Bs 27 [.slice A' (n + n3) c']) (ho : Own W w2.heap.size (.slice A' (n + n3) c') (a.al ++ al2)) => (sorted_any Bs A' (n + n3) c' (a.al ++ al2) hN (by have := al_le HRI.out.toRightW; have := HH.out.hn; omega) W hp.lt (hp.cell 0 rfl) (by obtain ⟨A9, c9, e9, hr9, _, _⟩ := own_rdc ho; injection e9 with e9; subst e9; exact hr9)).mono (R' := fun e w' => ∃ A c, e = .returned (.slice A (n + n3) c) ∧ Own w' w2.heap.size (.slice A (n + n3) c) (srtI (a.al ++ al2)) ∧ KpY w2.heap.size w2 W w') fun e w' ⟨A', c', e1, e2, e3⟩ => ⟨A', c', e1, own_more e2 hW.size, kpy_of hW hW.size e3⟩)
    have HC4 := Lib.hid (fun (W : World) (A' : Option Addr) (c' : Nat) (hW : Below w2.heap.size w2 W) (ho : Own W w2.heap.size (.slice A' (n + n3) c') (srtI (a.al ++ al2))) => (compact_own W ho (by rw [srtI_len, hN]; have := al_le HRI.out.toRightW; have := HH.out.hn; omega) (srtI_sorted _)).mono (R' := fun e w' => ∃ Az lz cz zs, e = .returned (.slice Az lz cz) ∧ Own w' w2.heap.size (.slice Az lz cz) zs ∧ (zs.Pairwise (· < ·) ∧ ∀ x, x ∈ zs ↔ x ∈ a.al ∨ x ∈ al2) ∧ KpX w2.heap.size w2 W w') fun e w' ⟨A', c', zs, e1, e2, e3, e4, e5⟩ => ⟨A', zs.length, c', zs, e1, e4, ⟨e2, fun x => by rw [e3, (srtI_perm _).mem_iff, List.mem_append]⟩, kpx_grown hW hW.size ho e5⟩)
    have HC5 := Lib.hid (fun (W : World) (hW : Below w2.heap.size w2 W) => (cloneEd_any E k g a.ed W ((HH.out.ed.below (HB2.out.trans (hW.mono hzw)) (Nat.le_refl _)).more (Nat.le_trans hzw hW.size)) HH.out.hk HH.out.bk).mono (R' := fun e w' => ∃ Ae le ce, e = .returned (.slice Ae le ce) ∧ OwnE w' w2.heap.size (.slice Ae le ce) a.ed ∧ KpY w2.heap.size w2 W w') fun e w' ⟨v, e1, e2, e3⟩ => by
      obtain ⟨Ae, ce, rfl, _⟩ := ownE_rd e2
      exact ⟨Ae, a.ed.length, ce, e1, own_more e2 hW.size, kpy_of hW hW.size e3⟩)
    have HB := Lib.hid (Below.refl w2.heap.size w2)
    have hw2l : w.heap.size < w2.heap.size := HA2.out.lt
    have q0 := HA2.out.cell 0 rfl
    have q1 := HA2.out.cell 1 rfl
    have q2 := HA2.out.cell 2 rfl
    have q3 := HA2.out.cell 3 rfl
    have hlw := HA2.out.lt
    have a0 := fun cs : Array Value => fun ty => (World.cell?_alloc_lt w2 (.cells cs ty) ⟨w.heap.size, 0, none⟩ hlw).trans q0
    have a1 := fun cs : Array Value => fun ty => (World.cell?_alloc_lt w2 (.cells cs ty) ⟨w.heap.size, 1, none⟩ hlw).trans q1
    have a2 := fun cs : Array Value => fun ty => (World.cell?_alloc_lt w2 (.cells cs ty) ⟨w.heap.size, 2, none⟩ hlw).trans q2
    have a3 := fun cs : Array Value => fun ty => (World.cell?_alloc_lt w2 (.cells cs ty) ⟨w.heap.size, 3, none⟩ hlw).trans q3
    clear hcw hri hst h0 hc0 hN
    go_upto_region 4 with fail
    go_cut [7] from 18 to 33 (fun v7 wx => ∃ (bc : Nat) (va ve : Value) (zs : List Int), v7 = .pointer (some ⟨bc, 0, none⟩) ∧ Hid (Ba w2 w2.heap.size bc s (.slice M m d) wx zs va a.ed ve) ∧ Hid (zs.Pairwise (· < ·) ∧ ∀ x, x ∈ zs ↔ x ∈ a.al ∨ x ∈ al2))
    case first =>
      go_region_held3 (fun w' => w'.cell? ⟨w.heap.size, 0, none⟩ = some (.slice A n c) ∧ w'.cell? ⟨w.heap.size, 1, none⟩ = some (.int .i64 s) ∧ w'.cell? ⟨w.heap.size, 2, none⟩ = some (.slice M m d) ∧ w'.cell? ⟨w.heap.size, 3, none⟩ = some (.slice E k g)) (first | with_reducible exact ⟨q0, q1, q2, q3⟩ | with_reducible exact ⟨a0 _ _, a1 _ _, a2 _ _, a3 _ _⟩ | with_reducible exact ⟨(cell_s4 (by first | omega | (have h9 := HB.out.size; omega))).trans q0, (cell_s4 (by first | omega | (have h9 := HB.out.size; omega))).trans q1, (cell_s4 (by first | omega | (have h9 := HB.out.size; omega))).trans q2, (cell_s4 (by first | omega | (have h9 := HB.out.size; omega))).trans q3⟩ | with_reducible exact ⟨(cell_s4 (by first | omega | (have h9 := HB.out.size; omega))).trans (a0 _ _), (cell_s4 (by first | omega | (have h9 := HB.out.size; omega))).trans (a1 _ _), (cell_s4 (by first | omega | (have h9 := HB.out.size; omega))).trans (a2 _ _), (cell_s4 (by first | omega | (have h9 := HB.out.size; omega))).trans (a3 _ _)⟩ | go_keep)
        (first
        | (go_simp; go_at_call 66; refine (HC1.out _ _ (by repeat (first | exact HB.out | refine Below.drew ?_ | refine Below.alloc ?_ (by have h9 := HB.out.size; first | exact h9 | (simp; done) | (simp; omega) | (simp at h9 ⊢; omega)) _)) (by first | exact HP.out | exact HP.out.alloc _ | exact Row.new _ _ _ | exact (Row.new _ _ _).alloc _ | exact (Row.new _ _ _).drewN 1 | exact ((Row.new _ _ _).alloc _).drewN 1 | exact Row.newE _ _ _ (by simp) | exact (Row.newE _ _ _ (by simp)).alloc _ | exact (Row.newE _ _ _ (by simp)).drewN 1 | exact ((Row.newE _ _ _ (by simp)).alloc _).drewN 1)).mono ?_; rintro e w4 ⟨Ac, cc, rfl, hown, hk⟩
           have HK := Lib.hid hk
           have HC := Lib.hid hown
           clear hown hk
           (try have HP := Lib.hid (HK.out.rows _ _ _ (by first | exact HP.out | exact HP.out.alloc _ | exact Row.new _ _ _ | exact (Row.new _ _ _).alloc _ | exact (Row.new _ _ _).drewN 1 | exact ((Row.new _ _ _).alloc _).drewN 1 | exact Row.newE _ _ _ (by simp) | exact (Row.newE _ _ _ (by simp)).alloc _ | exact (Row.newE _ _ _ (by simp)).drewN 1 | exact ((Row.newE _ _ _ (by simp)).alloc _).drewN 1) (by decide)))
           (try have HV := Lib.hid (HK.out.rows _ _ _ (by first | exact HV.out | exact HV.out.alloc _ | exact HV.out.drewN 1 | exact (HV.out.alloc _).drewN 1) (by decide)))
           (try have HC := Lib.hid (HK.out.ownI _ _ (by first | exact HC.out | exact HC.out.alloc _ | exact (HC.out.alloc _).alloc _ | exact own_dr1 HC.out | exact own_dr1 (HC.out.alloc _) | exact own_dr1 ((HC.out.alloc _).alloc _))))
           (try have HS := Lib.hid (HK.out.ownI _ _ (by first | exact HS.out | exact HS.out.alloc _ | exact (HS.out.alloc _).alloc _ | exact own_dr1 HS.out | exact own_dr1 (HS.out.alloc _) | exact own_dr1 ((HS.out.alloc _).alloc _))))
           (try have HZ := Lib.hid (HK.out.ownI _ _ (by first | exact HZ.out | exact HZ.out.alloc _ | exact (HZ.out.alloc _).alloc _ | exact own_dr1 HZ.out | exact own_dr1 (HZ.out.alloc _) | exact own_dr1 ((HZ.out.alloc _).alloc _))))
           (try have HE := Lib.hid (HK.out.own _ _ (by first | exact HE.out | exact HE.out.alloc _ | exact (HE.out.alloc _).alloc _ | exact own_dr1 HE.out | exact own_dr1 (HE.out.alloc _) | exact own_dr1 ((HE.out.alloc _).alloc _))))
           (try have HX := Lib.hid (HK.out.rowX (by first | exact HX.out | exact HX.out.alloc _ | exact HX.out.drew | exact (HX.out.alloc _).drew | exact RowX.new (by have h9 := HB.out.size; first | exact h9 | (simp; done) | (simp; omega) | (simp at h9 ⊢; omega)) | exact (RowX.new (by have h9 := HB.out.size; first | exact h9 | (simp; done) | (simp; omega) | (simp at h9 ⊢; omega))).alloc _ | exact (RowX.new (by have h9 := HB.out.size; first | exact h9 | (simp; done) | (simp; omega) | (simp at h9 ⊢; omega))).drew | exact ((RowX.new (by have h9 := HB.out.size; first | exact h9 | (simp; done) | (simp; omega) | (simp at h9 ⊢; omega))).alloc _).drew)))
           (try simp only [World.size_alloc] at HX)
           have HB := Lib.hid HK.out.bel
           have q0 := (HA2.out.below HB.out HA2.out.lt).cell 0 rfl
           have q1 := (HA2.out.below HB.out HA2.out.lt).cell 1 rfl
           have q2 := (HA2.out.below HB.out HA2.out.lt).cell 2 rfl
           have q3 := (HA2.out.below HB.out HA2.out.lt).cell 3 rfl
           have hlw := (HA2.out.below HB.out HA2.out.lt).lt
           have a0 := fun cs : Array Value => fun ty => (World.cell?_alloc_lt _ (.cells cs ty) ⟨w.heap.size, 0, none⟩ hlw).trans q0
           have a1 := fun cs : Array Value => fun ty => (World.cell?_alloc_lt _ (.cells cs ty) ⟨w.heap.size, 1, none⟩ hlw).trans q1
           have a2 := fun cs : Array Value => fun ty => (World.cell?_alloc_lt _ (.cells cs ty) ⟨w.heap.size, 2, none⟩ hlw).trans q2
           have a3 := fun cs : Array Value => fun ty => (World.cell?_alloc_lt _ (.cells cs ty) ⟨w.heap.size, 3, none⟩ hlw).trans q3
           (try have z0 := HX.out.1.cell 0 rfl)
           (try have z1 := HX.out.1.cell 1 rfl)
           (try have z2 := HX.out.1.cell 2 rfl)
           (try have z3 := HX.out.1.cell 3 rfl)
           (try have f0 := HX.out.1.frozen 0)
           (try have f1 := HX.out.1.frozen 1)
           (try have f2 := HX.out.1.frozen 2)
           (try have f3 := HX.out.1.frozen 3)
           (try have hltX := HX.out.1.lt)
           (try have hgX := HX.out.2)
           have y0 := (Row.new w4 [.slice none 0 0, .int .i64 0, .slice none 0 0, .slice none 0 0] 33).cell 0 rfl
           have y1 := (Row.new w4 [.slice none 0 0, .int .i64 0, .slice none 0 0, .slice none 0 0] 33).cell 1 rfl
           have y2 := (Row.new w4 [.slice none 0 0, .int .i64 0, .slice none 0 0, .slice none 0 0] 33).cell 2 rfl
           have y3 := (Row.new w4 [.slice none 0 0, .int .i64 0, .slice none 0 0, .slice none 0 0] 33).cell 3 rfl
           have g0 := (Row.new w4 [.slice none 0 0, .int .i64 0, .slice none 0 0, .slice none 0 0] 33).frozen 0
           have g1 := (Row.new w4 [.slice none 0 0, .int .i64 0, .slice none 0 0, .slice none 0 0] 33).frozen 1
           have g2 := (Row.new w4 [.slice none 0 0, .int .i64 0, .slice none 0 0, .slice none 0 0] 33).frozen 2
           have g3 := (Row.new w4 [.slice none 0 0, .int .i64 0, .slice none 0 0, .slice none 0 0] 33).frozen 3)
        | (go_simp; go_at_call 65; refine (HC2.out _ _ _ (by repeat (first | exact HB.out | refine Below.drew ?_ | refine Below.alloc ?_ (by have h9 := HB.out.size; first | exact h9 | (simp; done) | (simp; omega) | (simp at h9 ⊢; omega)) _))).mono ?_; rintro e w4 ⟨Bs, rfl, hrow, hk⟩
           have HK := Lib.hid hk
           have HV := Lib.hid hrow
           clear hrow hk
           (try have HP := Lib.hid (HK.out.rows _ _ _ (by first | exact HP.out | exact HP.out.alloc _ | exact Row.new _ _ _ | exact (Row.new _ _ _).alloc _ | exact (Row.new _ _ _).drewN 1 | exact ((Row.new _ _ _).alloc _).drewN 1 | exact Row.newE _ _ _ (by simp) | exact (Row.newE _ _ _ (by simp)).alloc _ | exact (Row.newE _ _ _ (by simp)).drewN 1 | exact ((Row.newE _ _ _ (by simp)).alloc _).drewN 1) (by decide)))
           (try have HV := Lib.hid (HK.out.rows _ _ _ (by first | exact HV.out | exact HV.out.alloc _ | exact HV.out.drewN 1 | exact (HV.out.alloc _).drewN 1) (by decide)))
           (try have HC := Lib.hid (HK.out.ownI _ _ (by first | exact HC.out | exact HC.out.alloc _ | exact (HC.out.alloc _).alloc _ | exact own_dr1 HC.out | exact own_dr1 (HC.out.alloc _) | exact own_dr1 ((HC.out.alloc _).alloc _))))
           (try have HS := Lib.hid (HK.out.ownI _ _ (by first | exact HS.out | exact HS.out.alloc _ | exact (HS.out.alloc _).alloc _ | exact own_dr1 HS.out | exact own_dr1 (HS.out.alloc _) | exact own_dr1 ((HS.out.alloc _).alloc _))))
           (try have HZ := Lib.hid (HK.out.ownI _ _ (by first | exact HZ.out | exact HZ.out.alloc _ | exact (HZ.out.alloc _).alloc _ | exact own_dr1 HZ.out | exact own_dr1 (HZ.out.alloc _) | exact own_dr1 ((HZ.out.alloc _).alloc _))))
           (try have HE := Lib.hid (HK.out.own _ _ (by first | exact HE.out | exact HE.out.alloc _ | exact (HE.out.alloc _).alloc _ | exact own_dr1 HE.out | exact own_dr1 (HE.out.alloc _) | exact own_dr1 ((HE.out.alloc _).alloc _))))
           (try have HX := Lib.hid (HK.out.rowX (by first | exact HX.out | exact HX.out.alloc _ | exact HX.out.drew | exact (HX.out.alloc _).drew | exact RowX.new (by have h9 := HB.out.size; first | exact h9 | (simp; done) | (simp; omega) | (simp at h9 ⊢; omega)) | exact (RowX.new (by have h9 := HB.out.size; first | exact h9 | (simp; done) | (simp; omega) | (simp at h9 ⊢; omega))).alloc _ | exact (RowX.new (by have h9 := HB.out.size; first | exact h9 | (simp; done) | (simp; omega) | (simp at h9 ⊢; omega))).drew | exact ((RowX.new (by have h9 := HB.out.size; first | exact h9 | (simp; done) | (simp; omega) | (simp at h9 ⊢; omega))).alloc _).drew)))
           (try simp only [World.size_alloc] at HX)
           have HB := Lib.hid HK.out.bel
           have q0 := (HA2.out.below HB.out HA2.out.lt).cell 0 rfl
           have q1 := (HA2.out.below HB.out HA2.out.lt).cell 1 rfl
           have q2 := (HA2.out.below HB.out HA2.out.lt).cell 2 rfl
           have q3 := (HA2.out.below HB.out HA2.out.lt).cell 3 rfl
           have hlw := (HA2.out.below HB.out HA2.out.lt).lt
           have a0 := fun cs : Array Value => fun ty => (World.cell?_alloc_lt _ (.cells cs ty) ⟨w.heap.size, 0, none⟩ hlw).trans q0
           have a1 := fun cs : Array Value => fun ty => (World.cell?_alloc_lt _ (.cells cs ty) ⟨w.heap.size, 1, none⟩ hlw).trans q1
           have a2 := fun cs : Array Value => fun ty => (World.cell?_alloc_lt _ (.cells cs ty) ⟨w.heap.size, 2, none⟩ hlw).trans q2
           have a3 := fun cs : Array Value => fun ty => (World.cell?_alloc_lt _ (.cells cs ty) ⟨w.heap.size, 3, none⟩ hlw).trans q3
           (try have z0 := HX.out.1.cell 0 rfl)
           (try have z1 := HX.out.1.cell 1 rfl)
           (try have z2 := HX.out.1.cell 2 rfl)
           (try have z3 := HX.out.1.cell 3 rfl)
           (try have f0 := HX.out.1.frozen 0)
           (try have f1 := HX.out.1.frozen 1)
           (try have f2 := HX.out.1.frozen 2)
           (try have f3 := HX.out.1.frozen 3)
           (try have hltX := HX.out.1.lt)
           (try have hgX := HX.out.2)
           have y0 := (Row.new w4 [.slice none 0 0, .int .i64 0, .slice none 0 0, .slice none 0 0] 33).cell 0 rfl
           have y1 := (Row.new w4 [.slice none 0 0, .int .i64 0, .slice none 0 0, .slice none 0 0] 33).cell 1 rfl
           have y2 := (Row.new w4 [.slice none 0 0, .int .i64 0, .slice none 0 0, .slice none 0 0] 33).cell 2 rfl
           have y3 := (Row.new w4 [.slice none 0 0, .int .i64 0, .slice none 0 0, .slice none 0 0] 33).cell 3 rfl
           have g0 := (Row.new w4 [.slice none 0 0, .int .i64 0, .slice none 0 0, .slice none 0 0] 33).frozen 0
           have g1 := (Row.new w4 [.slice none 0 0, .int .i64 0, .slice none 0 0, .slice none 0 0] 33).frozen 1
           have g2 := (Row.new w4 [.slice none 0 0, .int .i64 0, .slice none 0 0, .slice none 0 0] 33).frozen 2
           have g3 := (Row.new w4 [.slice none 0 0, .int .i64 0, .slice none 0 0, .slice none 0 0] 33).frozen 3)
        | (go_simp; go_at_call 64; refine (HC3.out _ _ _ _ (by repeat (first | exact HB.out | refine Below.drew ?_ | refine Below.alloc ?_ (by have h9 := HB.out.size; first | exact h9 | (simp; done) | (simp; omega) | (simp at h9 ⊢; omega)) _)) (by first | exact HV.out | exact HV.out.alloc _ | exact HV.out.drewN 1 | exact (HV.out.alloc _).drewN 1) (by first | exact HC.out | exact HC.out.alloc _ | exact (HC.out.alloc _).alloc _ | exact own_dr1 HC.out | exact own_dr1 (HC.out.alloc _) | exact own_dr1 ((HC.out.alloc _).alloc _))).mono ?_; rintro e w4 ⟨As, cs, rfl, hown, hk⟩
           have HK := Lib.hid hk
           have HS := Lib.hid hown
           clear hown hk
           (try have HP := Lib.hid (HK.out.rows _ _ _ (by first | exact HP.out | exact HP.out.alloc _ | exact Row.new _ _ _ | exact (Row.new _ _ _).alloc _ | exact (Row.new _ _ _).drewN 1 | exact ((Row.new _ _ _).alloc _).drewN 1 | exact Row.newE _ _ _ (by simp) | exact (Row.newE _ _ _ (by simp)).alloc _ | exact (Row.newE _ _ _ (by simp)).drewN 1 | exact ((Row.newE _ _ _ (by simp)).alloc _).drewN 1) (by decide)))
           (try have HV := Lib.hid (HK.out.rows _ _ _ (by first | exact HV.out | exact HV.out.alloc _ | exact HV.out.drewN 1 | exact (HV.out.alloc _).drewN 1) (by decide)))
           (try have HC := Lib.hid (HK.out.ownI _ _ (by first | exact HC.out | exact HC.out.alloc _ | exact (HC.out.alloc _).alloc _ | exact own_dr1 HC.out | exact own_dr1 (HC.out.alloc _) | exact own_dr1 ((HC.out.alloc _).alloc _))))
           (try have HS := Lib.hid (HK.out.ownI _ _ (by first | exact HS.out | exact HS.out.alloc _ | exact (HS.out.alloc _).alloc _ | exact own_dr1 HS.out | exact own_dr1 (HS.out.alloc _) | exact own_dr1 ((HS.out.alloc _).alloc _))))
           (try have HZ := Lib.hid (HK.out.ownI _ _ (by first | exact HZ.out | exact HZ.out.alloc _ | exact (HZ.out.alloc _).alloc _ | exact own_dr1 HZ.out | exact own_dr1 (HZ.out.alloc _) | exact own_dr1 ((HZ.out.alloc _).alloc _))))
           (try have HE := Lib.hid (HK.out.own _ _ (by first | exact HE.out | exact HE.out.alloc _ | exact (HE.out.alloc _).alloc _ | exact own_dr1 HE.out | exact own_dr1 (HE.out.alloc _) | exact own_dr1 ((HE.out.alloc _).alloc _))))
           (try have HX := Lib.hid (HK.out.rowX (by first | exact HX.out | exact HX.out.alloc _ | exact HX.out.drew | exact (HX.out.alloc _).drew | exact RowX.new (by have h9 := HB.out.size; first | exact h9 | (simp; done) | (simp; omega) | (simp at h9 ⊢; omega)) | exact (RowX.new (by have h9 := HB.out.size; first | exact h9 | (simp; done) | (simp; omega) | (simp at h9 ⊢; omega))).alloc _ | exact (RowX.new (by have h9 := HB.out.size; first | exact h9 | (simp; done) | (simp; omega) | (simp at h9 ⊢; omega))).drew | exact ((RowX.new (by have h9 := HB.out.size; first | exact h9 | (simp; done) | (simp; omega) | (simp at h9 ⊢; omega))).alloc _).drew)))
           (try simp only [World.size_alloc] at HX)
           have HB := Lib.hid HK.out.bel
           have q0 := (HA2.out.below HB.out HA2.out.lt).cell 0 rfl
           have q1 := (HA2.out.below HB.out HA2.out.lt).cell 1 rfl
           have q2 := (HA2.out.below HB.out HA2.out.lt).cell 2 rfl
           have q3 := (HA2.out.below HB.out HA2.out.lt).cell 3 rfl
           have hlw := (HA2.out.below HB.out HA2.out.lt).lt
           have a0 := fun cs : Array Value => fun ty => (World.cell?_alloc_lt _ (.cells cs ty) ⟨w.heap.size, 0, none⟩ hlw).trans q0
           have a1 := fun cs : Array Value => fun ty => (World.cell?_alloc_lt _ (.cells cs ty) ⟨w.heap.size, 1, none⟩ hlw).trans q1
           have a2 := fun cs : Array Value => fun ty => (World.cell?_alloc_lt _ (.cells cs ty) ⟨w.heap.size, 2, none⟩ hlw).trans q2
           have a3 := fun cs : Array Value => fun ty => (World.cell?_alloc_lt _ (.cells cs ty) ⟨w.heap.size, 3, none⟩ hlw).trans q3
           (try have z0 := HX.out.1.cell 0 rfl)
           (try have z1 := HX.out.1.cell 1 rfl)
           (try have z2 := HX.out.1.cell 2 rfl)
           (try have z3 := HX.out.1.cell 3 rfl)
           (try have f0 := HX.out.1.frozen 0)
           (try have f1 := HX.out.1.frozen 1)
           (try have f2 := HX.out.1.frozen 2)
           (try have f3 := HX.out.1.frozen 3)
           (try have hltX := HX.out.1.lt)
           (try have hgX := HX.out.2)
           have y0 := (Row.new w4 [.slice none 0 0, .int .i64 0, .slice none 0 0, .slice none 0 0] 33).cell 0 rfl
           have y1 := (Row.new w4 [.slice none 0 0, .int .i64 0, .slice none 0 0, .slice none 0 0] 33).cell 1 rfl
           have y2 := (Row.new w4 [.slice none 0 0, .int .i64 0, .slice none 0 0, .slice none 0 0] 33).cell 2 rfl
           have y3 := (Row.new w4 [.slice none 0 0, .int .i64 0, .slice none 0 0, .slice none 0 0] 33).cell 3 rfl
           have g0 := (Row.new w4 [.slice none 0 0, .int .i64 0, .slice none 0 0, .slice none 0 0] 33).frozen 0
           have g1 := (Row.new w4 [.slice none 0 0, .int .i64 0, .slice none 0 0, .slice none 0 0] 33).frozen 1
           have g2 := (Row.new w4 [.slice none 0 0, .int .i64 0, .slice none 0 0, .slice none 0 0] 33).frozen 2
           have g3 := (Row.new w4 [.slice none 0 0, .int .i64 0, .slice none 0 0, .slice none 0 0] 33).frozen 3)
        | (go_simp; go_at_call 63; refine (HC4.out _ _ _ (by repeat (first | exact HB.out | refine Below.drew ?_ | refine Below.alloc ?_ (by have h9 := HB.out.size; first | exact h9 | (simp; done) | (simp; omega) | (simp at h9 ⊢; omega)) _)) (by first | exact HS.out | exact HS.out.alloc _ | exact (HS.out.alloc _).alloc _ | exact own_dr1 HS.out | exact own_dr1 (HS.out.alloc _) | exact own_dr1 ((HS.out.alloc _).alloc _))).mono ?_; rintro e w4 ⟨Az, lz, cz, zs, rfl, hown, hzp, hk⟩
           have HK := Lib.hid hk
           have HZ := Lib.hid hown
           have HZP := Lib.hid hzp
           clear hown hk hzp
           (try have HE := Lib.hid (HK.out.own _ _ (by first | exact HE.out | exact HE.out.alloc _ | exact (HE.out.alloc _).alloc _ | exact own_dr1 HE.out | exact own_dr1 (HE.out.alloc _) | exact own_dr1 ((HE.out.alloc _).alloc _))))
           (try have HX := Lib.hid (HK.out.rowX (by first | exact HX.out | exact HX.out.alloc _ | exact HX.out.drew | exact (HX.out.alloc _).drew | exact RowX.new (by have h9 := HB.out.size; first | exact h9 | (simp; done) | (simp; omega) | (simp at h9 ⊢; omega)) | exact (RowX.new (by have h9 := HB.out.size; first | exact h9 | (simp; done) | (simp; omega) | (simp at h9 ⊢; omega))).alloc _ | exact (RowX.new (by have h9 := HB.out.size; first | exact h9 | (simp; done) | (simp; omega) | (simp at h9 ⊢; omega))).drew | exact ((RowX.new (by have h9 := HB.out.size; first | exact h9 | (simp; done) | (simp; omega) | (simp at h9 ⊢; omega))).alloc _).drew)))
           (try simp only [World.size_alloc] at HX)
           have HB := Lib.hid HK.out.bel
           have q0 := (HA2.out.below HB.out HA2.out.lt).cell 0 rfl
           have q1 := (HA2.out.below HB.out HA2.out.lt).cell 1 rfl
           have q2 := (HA2.out.below HB.out HA2.out.lt).cell 2 rfl
           have q3 := (HA2.out.below HB.out HA2.out.lt).cell 3 rfl
           have hlw := (HA2.out.below HB.out HA2.out.lt).lt
           have a0 := fun cs : Array Value => fun ty => (World.cell?_alloc_lt _ (.cells cs ty) ⟨w.heap.size, 0, none⟩ hlw).trans q0
           have a1 := fun cs : Array Value => fun ty => (World.cell?_alloc_lt _ (.cells cs ty) ⟨w.heap.size, 1, none⟩ hlw).trans q1
           have a2 := fun cs : Array Value => fun ty => (World.cell?_alloc_lt _ (.cells cs ty) ⟨w.heap.size, 2, none⟩ hlw).trans q2
           have a3 := fun cs : Array Value => fun ty => (World.cell?_alloc_lt _ (.cells cs ty) ⟨w.heap.size, 3, none⟩ hlw).trans q3
           (try have z0 := HX.out.1.cell 0 rfl)
           (try have z1 := HX.out.1.cell 1 rfl)
           (try have z2 := HX.out.1.cell 2 rfl)
           (try have z3 := HX.out.1.cell 3 rfl)
           (try have f0 := HX.out.1.frozen 0)
           (try have f1 := HX.out.1.frozen 1)
           (try have f2 := HX.out.1.frozen 2)
           (try have f3 := HX.out.1.frozen 3)
           (try have hltX := HX.out.1.lt)
           (try have hgX := HX.out.2)
           have y0 := (Row.new w4 [.slice none 0 0, .int .i64 0, .slice none 0 0, .slice none 0 0] 33).cell 0 rfl
           have y1 := (Row.new w4 [.slice none 0 0, .int .i64 0, .slice none 0 0, .slice none 0 0] 33).cell 1 rfl
           have y2 := (Row.new w4 [.slice none 0 0, .int .i64 0, .slice none 0 0, .slice none 0 0] 33).cell 2 rfl
           have y3 := (Row.new w4 [.slice none 0 0, .int .i64 0, .slice none 0 0, .slice none 0 0] 33).cell 3 rfl
           have g0 := (Row.new w4 [.slice none 0 0, .int .i64 0, .slice none 0 0, .slice none 0 0] 33).frozen 0
           have g1 := (Row.new w4 [.slice none 0 0, .int .i64 0, .slice none 0 0, .slice none 0 0] 33).frozen 1
           have g2 := (Row.new w4 [.slice none 0 0, .int .i64 0, .slice none 0 0, .slice none 0 0] 33).frozen 2
           have g3 := (Row.new w4 [.slice none 0 0, .int .i64 0, .slice none 0 0, .slice none 0 0] 33).frozen 3)
        | (go_simp; go_at_call 67; refine (HC5.out _ (by repeat (first | exact HB.out | refine Below.drew ?_ | refine Below.alloc ?_ (by have h9 := HB.out.size; first | exact h9 | (simp; done) | (simp; omega) | (simp at h9 ⊢; omega)) _))).mono ?_; rintro e w4 ⟨Ae, le, ce, rfl, hown, hk⟩
           have HK := Lib.hid hk
           have HE := Lib.hid hown
           clear hown hk
           (try have HP := Lib.hid (HK.out.rows _ _ _ (by first | exact HP.out | exact HP.out.alloc _ | exact Row.new _ _ _ | exact (Row.new _ _ _).alloc _ | exact (Row.new _ _ _).drewN 1 | exact ((Row.new _ _ _).alloc _).drewN 1 | exact Row.newE _ _ _ (by simp) | exact (Row.newE _ _ _ (by simp)).alloc _ | exact (Row.newE _ _ _ (by simp)).drewN 1 | exact ((Row.newE _ _ _ (by simp)).alloc _).drewN 1) (by decide)))
           (try have HV := Lib.hid (HK.out.rows _ _ _ (by first | exact HV.out | exact HV.out.alloc _ | exact HV.out.drewN 1 | exact (HV.out.alloc _).drewN 1) (by decide)))
           (try have HC := Lib.hid (HK.out.ownI _ _ (by first | exact HC.out | exact HC.out.alloc _ | exact (HC.out.alloc _).alloc _ | exact own_dr1 HC.out | exact own_dr1 (HC.out.alloc _) | exact own_dr1 ((HC.out.alloc _).alloc _))))
           (try have HS := Lib.hid (HK.out.ownI _ _ (by first | exact HS.out | exact HS.out.alloc _ | exact (HS.out.alloc _).alloc _ | exact own_dr1 HS.out | exact own_dr1 (HS.out.alloc _) | exact own_dr1 ((HS.out.alloc _).alloc _))))
           (try have HZ := Lib.hid (HK.out.ownI _ _ (by first | exact HZ.out | exact HZ.out.alloc _ | exact (HZ.out.alloc _).alloc _ | exact own_dr1 HZ.out | exact own_dr1 (HZ.out.alloc _) | exact own_dr1 ((HZ.out.alloc _).alloc _))))
           (try have HE := Lib.hid (HK.out.own _ _ (by first | exact HE.out | exact HE.out.alloc _ | exact (HE.out.alloc _).alloc _ | exact own_dr1 HE.out | exact own_dr1 (HE.out.alloc _) | exact own_dr1 ((HE.out.alloc _).alloc _))))
           (try have HX := Lib.hid (HK.out.rowX (by first | exact HX.out | exact HX.out.alloc _ | exact HX.out.drew | exact (HX.out.alloc _).drew | exact RowX.new (by have h9 := HB.out.size; first | exact h9 | (simp; done) | (simp; omega) | (simp at h9 ⊢; omega)) | exact (RowX.new (by have h9 := HB.out.size; first | exact h9 | (simp; done) | (simp; omega) | (simp at h9 ⊢; omega))).alloc _ | exact (RowX.new (by have h9 := HB.out.size; first | exact h9 | (simp; done) | (simp; omega) | (simp at h9 ⊢; omega))).drew | exact ((RowX.new (by have h9 := HB.out.size; first | exact h9 | (simp; done) | (simp; omega) | (simp at h9 ⊢; omega))).alloc _).drew)))
           (try simp only [World.size_alloc] at HX)
           have HB := Lib.hid HK.out.bel
           have q0 := (HA2.out.below HB.out HA2.out.lt).cell 0 rfl
           have q1 := (HA2.out.below HB.out HA2.out.lt).cell 1 rfl
           have q2 := (HA2.out.below HB.out HA2.out.lt).cell 2 rfl
           have q3 := (HA2.out.below HB.out HA2.out.lt).cell 3 rfl
           have hlw := (HA2.out.below HB.out HA2.out.lt).lt
           have a0 := fun cs : Array Value => fun ty => (World.cell?_alloc_lt _ (.cells cs ty) ⟨w.heap.size, 0, none⟩ hlw).trans q0
           have a1 := fun cs : Array Value => fun ty => (World.cell?_alloc_lt _ (.cells cs ty) ⟨w.heap.size, 1, none⟩ hlw).trans q1
           have a2 := fun cs : Array Value => fun ty => (World.cell?_alloc_lt _ (.cells cs ty) ⟨w.heap.size, 2, none⟩ hlw).trans q2
           have a3 := fun cs : Array Value => fun ty => (World.cell?_alloc_lt _ (.cells cs ty) ⟨w.heap.size, 3, none⟩ hlw).trans q3
           (try have z0 := HX.out.1.cell 0 rfl)
           (try have z1 := HX.out.1.cell 1 rfl)
           (try have z2 := HX.out.1.cell 2 rfl)
           (try have z3 := HX.out.1.cell 3 rfl)
           (try have f0 := HX.out.1.frozen 0)
           (try have f1 := HX.out.1.frozen 1)
           (try have f2 := HX.out.1.frozen 2)
           (try have f3 := HX.out.1.frozen 3)
           (try have hltX := HX.out.1.lt)
           (try have hgX := HX.out.2)
           have y0 := (Row.new w4 [.slice none 0 0, .int .i64 0, .slice none 0 0, .slice none 0 0] 33).cell 0 rfl
           have y1 := (Row.new w4 [.slice none 0 0, .int .i64 0, .slice none 0 0, .slice none 0 0] 33).cell 1 rfl
           have y2 := (Row.new w4 [.slice none 0 0, .int .i64 0, .slice none 0 0, .slice none 0 0] 33).cell 2 rfl
           have y3 := (Row.new w4 [.slice none 0 0, .int .i64 0, .slice none 0 0, .slice none 0 0] 33).cell 3 rfl
           have g0 := (Row.new w4 [.slice none 0 0, .int .i64 0, .slice none 0 0, .slice none 0 0] 33).frozen 0
           have g1 := (Row.new w4 [.slice none 0 0, .int .i64 0, .slice none 0 0, .slice none 0 0] 33).frozen 1
           have g2 := (Row.new w4 [.slice none 0 0, .int .i64 0, .slice none 0 0, .slice none 0 0] 33).frozen 2
           have g3 := (Row.new w4 [.slice none 0 0, .int .i64 0, .slice none 0 0, .slice none 0 0] 33).frozen 3))
      all_goals
        go_wp2_with fail
        go_meet
        case rel => exact ⟨_, .slice Az lz cz, .slice Ae le ce, zs, rfl, Lib.hid (by first | exact ba_fin (by repeat (first | exact HB.out | refine Below.drew ?_ | refine Below.alloc ?_ (by have h9 := HB.out.size; first | exact h9 | (simp; done) | (simp; omega) | (simp at h9 ⊢; omega)) _)) (by first | exact HX.out | exact HX.out.alloc _ | exact HX.out.drew | exact (HX.out.alloc _).drew | exact RowX.new (by have h9 := HB.out.size; first | exact h9 | (simp; done) | (simp; omega) | (simp at h9 ⊢; omega)) | exact (RowX.new (by have h9 := HB.out.size; first | exact h9 | (simp; done) | (simp; omega) | (simp at h9 ⊢; omega))).alloc _ | exact (RowX.new (by have h9 := HB.out.size; first | exact h9 | (simp; done) | (simp; omega) | (simp at h9 ⊢; omega))).drew | exact ((RowX.new (by have h9 := HB.out.size; first | exact h9 | (simp; done) | (simp; omega) | (simp at h9 ⊢; omega))).alloc _).drew) (by first | exact HZ.out | exact HZ.out.alloc _ | exact (HZ.out.alloc _).alloc _ | exact own_dr1 HZ.out | exact own_dr1 (HZ.out.alloc _) | exact own_dr1 ((HZ.out.alloc _).alloc _)) (by first | exact HE.out | exact HE.out.alloc _ | exact (HE.out.alloc _).alloc _ | exact own_dr1 HE.out | exact own_dr1 (HE.out.alloc _) | exact own_dr1 ((HE.out.alloc _).alloc _)) | exact ba_new (by repeat (first | exact HB.out | refine Below.drew ?_ | refine Below.alloc ?_ (by have h9 := HB.out.size; first | exact h9 | (simp; done) | (simp; omega) | (simp at h9 ⊢; omega)) _)) (by have h9 := HB.out.size; first | exact h9 | (simp; done) | (simp; omega) | (simp at h9 ⊢; omega)) (by first | exact HZ.out | exact HZ.out.alloc _ | exact (HZ.out.alloc _).alloc _ | exact own_dr1 HZ.out | exact own_dr1 (HZ.out.alloc _) | exact own_dr1 ((HZ.out.alloc _).alloc _)) (by first | exact HE.out | exact HE.out.alloc _ | exact (HE.out.alloc _).alloc _ | exact own_dr1 HE.out | exact own_dr1 (HE.out.alloc _) | exact own_dr1 ((HE.out.alloc _).alloc _)) | exact (ba_new (by repeat (first | exact HB.out | refine Below.drew ?_ | refine Below.alloc ?_ (by have h9 := HB.out.size; first | exact h9 | (simp; done) | (simp; omega) | (simp at h9 ⊢; omega)) _)) (by have h9 := HB.out.size; first | exact h9 | (simp; done) | (simp; omega) | (simp at h9 ⊢; omega)) (by first | exact HZ.out | exact HZ.out.alloc _ | exact (HZ.out.alloc _).alloc _ | exact own_dr1 HZ.out | exact own_dr1 (HZ.out.alloc _) | exact own_dr1 ((HZ.out.alloc _).alloc _)) (by first | exact HE.out | exact HE.out.alloc _ | exact (HE.out.alloc _).alloc _ | exact own_dr1 HE.out | exact own_dr1 (HE.out.alloc _) | exact own_dr1 ((HE.out.alloc _).alloc _))).drew), HZP⟩
    case rest =>
      obtain ⟨bc, va, ve, zs, rfl, hba, HZP⟩ := hcut
      obtain ⟨S, hS⟩ : ∃ S : Nat, s = (S : Int) := ⟨s.toNat, by have h1 := HRI.out.st0; have h2 := HST.out; omega⟩
      have hS4 : S ≤ 4096 := by have h1 := HRI.out.st1; have h2 := HST.out; omega
      subst hS
      have hz32 : zs.length ≤ 32 := nodup_len (S := 32) (HZP.out.1.imp fun h => by omega) (fun x hx => by
        rcases (HZP.out.2 x).1 hx with h | h
        · exact HRI.out.toRightW.alr x h
        · exact HEV.out x h)
      have hed := ed_le HRI.out.toRightW HST.out
      have hsN : a.st.toNat = S := by rw [HST.out]; simp
      have HSN := Lib.hid hsN
      obtain ⟨lz, hlz⟩ : ∃ l, l = zs.length := ⟨_, rfl⟩
      have HLZ := Lib.hid hlz
      obtain ⟨Az, cz, rfl, hrz, hcz, hmz⟩ := own_rdc hba.out.ao
      rw [← hlz] at hba hz32 hcz
      have c0 := hba.out.cb.cell 0 rfl
      have HBA0 := Lib.hid (show Ba w2 w2.heap.size bc (S : Int) (.slice M m d) wc zs (.slice Az lz cz) (a.ed ++ addL a (zs.take 0)) ve from by rw [List.take_zero]; simpa [addL] using hba.out)
      have HUA := Lib.hid (show Up a.al from up_of HRI.out.toRightW.alo)
      obtain ⟨iE, iE0, iE1, iE2, iE3⟩ := info_parts info_edge
      clear q0 q1 q2 q3 a0 a1 a2 a3 HC1 HC2 HC3 HC4 HC5 HB hba hrz hlz hsN
      go_wp2_with fail
      clear c0
      go_loopw [37] (fun iv wr => ∃ (t : Nat) (ve : Value), t ≤ lz ∧ iv = .int .i64 t ∧ Hid (Ba w2 w2.heap.size bc (S : Int) (.slice M m d) wr zs (.slice Az lz cz) (a.ed ++ addL a (zs.take t)) ve)) (fun i _ => lz - (intOf i).toNat)
      case atStart => exact ⟨0, ve, Nat.zero_le _, rfl, HBA0⟩
      case round =>
        clear HBA0
        obtain ⟨t, ve, htl, rfl, hba⟩ := hrel
        have hbz := hba.out.bel.size
        have hAw := HA2.out.below hba.out.bel HA2.out.lt
        have p0 := hAw.cell 0 rfl
        have p1 := hAw.cell 1 rfl
        have hzw2 : w.heap.size ≤ w2.heap.size := by omega
        by_cases hlt : t < lz
        · obtain ⟨A', c', e', hrz, _, _⟩ := own_rdc hba.out.ao
          injection e' with e1 e2 e3
          subst e1 e3
          obtain ⟨b, o, rfl, hbA, hcA⟩ := hrz (by rw [← HLZ.out]; omega)
          have hz : t < zs.length := by rw [← HLZ.out]; exact hlt
          have hc1 := hcA t hz
          obtain ⟨x, hx⟩ : ∃ x, x = zs.getD t 0 := ⟨_, rfl⟩
          rw [← hx] at hc1
          have HTK := Lib.hid (show zs.take (t + 1) = zs.take t ++ [x] by rw [take_getD hz, hx])
          have HCO := Lib.hid (jContains_any A n c wr.heap.size a.al x wr ((HH.out.al.below (HB2.out.trans (hba.out.bel.mono hzw2)) (Nat.le_refl _)).more (Nat.le_trans hzw2 hbz)) HH.out.hn (by have := HH.out.bn; omega) HUA.out)
          have hadl := add_len a (zs.take t)
          rw [List.length_take, HSN.out] at hadl
          have hadl2 : min t zs.length * S ≤ 32 * 4096 := Nat.mul_le_mul (by rw [← HLZ.out]; omega) hS4
          have hes0 : (a.ed ++ addL a (zs.take t)).length ≤ 300000 := by
            rw [List.length_append]
            have : S * 32 ≤ 4096 * 32 := Nat.mul_le_mul hS4 (Nat.le_refl _)
            omega
          have z4 : (t : Int) < (lz : Int) := by omega
          have z5 : (0 : Int) ≤ (t : Int) := by omega
          clear hrz e2 hcA hz hx hadl hadl2 hAw
          by_cases hin : x ∈ a.al
          · rw [decide_eq_true hin] at HCO
            have HNX := Lib.hid (show Ba w2 w2.heap.size bc (S : Int) (.slice M m d) wr zs (.slice (some ⟨b, o, none⟩) lz cz) (a.ed ++ addL a (zs.take (t + 1))) ve from by rw [HTK.out, add_snoc, if_pos hin, List.append_nil]; exact hba.out)
            clear hin hba
            go_wp2_with fail
            refine HCO.out.mono ?_
            rintro e w4 ⟨rfl, rfl⟩
            go_wp2_with fail
            go_roundw
            case rel => exact ⟨t + 1, ve, by omega, by go_num, HNX⟩
            case measure => simp [intOf]; omega
          · rw [decide_eq_false hin] at HCO
            have HNI := Lib.hid hin
            have HBA1 := Lib.hid (show Ba w2 w2.heap.size bc (S : Int) (.slice M m d) wr zs (.slice (some ⟨b, o, none⟩) lz cz) ((a.ed ++ addL a (zs.take t)) ++ lpsL x 0) ve from by simpa [lpsL] using hba.out)
            clear hin hba
            go_wp2_with fail
            refine HCO.out.mono ?_
            rintro e w4 ⟨rfl, rfl⟩
            go_wp2_with fail
            clear p0 p1 hc1 HCO
            go_loopw [47] (fun jv wx => ∃ (j : Nat) (ve : Value), j ≤ S ∧ jv = .int .i64 j ∧ Hid (Ba w2 w2.heap.size bc (S : Int) (.slice M m d) wx zs (.slice (some ⟨b, o, none⟩) lz cz) ((a.ed ++ addL a (zs.take t)) ++ lpsL x j) ve)) (fun jv _ => S - (intOf jv).toNat)
            case atStart => exact ⟨0, ve, Nat.zero_le _, rfl, HBA1⟩
            case round =>
              clear HBA1 hbz
              obtain ⟨j, ve, hj, rfl, hba⟩ := hrel
              have hbz := hba.out.bel.size
              by_cases h1 : j < S
              · obtain ⟨es, hes⟩ : ∃ es, es = (a.ed ++ addL a (zs.take t)) ++ lpsL x j := ⟨_, rfl⟩
                have HNX := Lib.hid (show es ++ [⟨(j : Int), x, (j : Int)⟩] = (a.ed ++ addL a (zs.take t)) ++ lpsL x (j + 1) by rw [hes, lps_succ, List.append_assoc])
                have hesl : es.length ≤ 310000 := by rw [hes, List.length_append, lps_len]; omega
                rw [← hes] at hba
                obtain ⟨E1, g1, rfl, _, hE2, hE3⟩ := ownE_rd hba.out.eo
                obtain ⟨le, hle⟩ : ∃ l, l = es.length := ⟨_, rfl⟩
                have heo := Lib.hid (show wr.ownsRow w2.heap.size 79 3 (.slice E1 es.length g1) es.length (encE es) from hba.out.eo)
                rw [← hle] at hba heo hE2 hesl
                have HLE := Lib.hid hle
                have e3 := hba.out.cb.cell 3 rfl
                have e3' := hba.out.cb.frozen 3
                have hbcl := hba.out.h2
                have z6 : (j : Int) < (S : Int) := by omega
                clear hes hle
                go_wp2_with (at_builtin; refine wpList_append_own _ rfl _ _ 31 rfl w2.heap.size 79 iE (.agg #[.int .i64 0, .int .i64 0, .int .i64 0]) 3 24 Tryz.underlying31 iE0 iE1 iE2 iE3 rfl (by decide) _ _ _ rfl (heo.out.alloc _) ⟨wr.heap.size, 0, none⟩ 1 1 [.int .i64 (j : Int), .int .i64 x, .int .i64 (j : Int)] rfl rfl (news_three (by simp)) (by intro u hu; simp at hu; rcases hu with rfl | rfl | rfl <;> rfl) (by unfold maxLen; omega) (by omega) (by simp; omega) ?_)
                intro v5 w5 hown5 hgrow5 _
                obtain ⟨A5, c5, rfl, ho5⟩ := ed_app (x := ⟨(j : Int), x, (j : Int)⟩) HLE.out hown5
                have hb5 := hba.out.alloc (.cells #[.int .i64 (j : Int), .int .i64 x, .int .i64 (j : Int)] 79)
                have hcb := Lib.hid (hb5.cb.grown hgrow5 (fun e => hb5.neE e.symm))
                have hba6 := Lib.hid (Ba.edge hb5 hgrow5 ho5)
                rw [HNX.out] at hba6
                have e3 := hcb.out.cell 3 rfl
                have e3' := hcb.out.frozen 3
                clear hown5 hgrow5 ho5 hb5
                go_wp2_with fail
                go_roundw
                case rel => exact ⟨j + 1, _, by omega, by go_num, hba6⟩
                case measure => simp [intOf]; omega
              · obtain rfl : j = S := by omega
                have HNX := Lib.hid (show Ba w2 w2.heap.size bc (j : Int) (.slice M m d) wr zs (.slice (some ⟨b, o, none⟩) lz cz) (a.ed ++ addL a (zs.take (t + 1))) ve from by rw [HTK.out, add_snoc, if_neg HNI.out, HSN.out, ← List.append_assoc]; exact hba.out)
                clear hba
                go_wp2_with fail
                go_roundw
                case rel => exact ⟨t + 1, ve, by omega, by go_num, HNX⟩
                case measure => simp [intOf]; omega
        · have hzall : zs.take t = zs := List.take_of_length_le (by rw [← HLZ.out]; omega)
          rw [hzall] at hba
          have hadl := add_len a zs
          rw [HSN.out] at hadl
          have hadl2 : zs.length * S ≤ 32 * 4096 := Nat.mul_le_mul (by rw [← HLZ.out]; omega) hS4
          have hesl : (a.ed ++ addL a zs).length ≤ 300000 := by
            rw [List.length_append]
            have : S * 32 ≤ 4096 * 32 := Nat.mul_le_mul hS4 (Nat.le_refl _)
            omega
          obtain ⟨E1, g1, rfl, _, hE2, hE3⟩ := ownE_rd hba.out.eo
          have HSO := Lib.hid (jSortEd_any wr hba.out.eo (by omega))
          obtain ⟨le, hle⟩ : ∃ l, l = (a.ed ++ addL a zs).length := ⟨_, rfl⟩
          rw [← hle] at HSO hba hesl
          have HLE := Lib.hid hle
          have e3 := hba.out.cb.cell 3 rfl
          have z9 : ¬ ((t : Int) < (lz : Int)) := by omega
          clear hzall hadl hadl2 hle hAw p0 p1
          go_wp2_with fail
          refine HSO.out.mono ?_
          rintro e w9 ⟨rfl, E9, g9, l9, hv9, hp9, hs9, hr9, hg9, hc9, hm9⟩
          injection hv9 with v1 v2 v3
          subst v1 v3
          have hcb9 := hba.out.cb.grown hg9 (fun e => hba.out.neE e.symm)
          have hao9 := own_row hba.out.ao hg9 (owns_ne hba.out.ao hba.out.eo (by decide))
          have hbel9 : Below w2.heap.size w2 w9 := hba.out.bel.trans ((Below.refl w2.heap.size wr).grown hg9 hbz fun k hk => (hba.out.eo.lt k hk).1)
          have hinv := inv_eq HRI.out.toRightW HEV.out HZP.out.1 HZP.out.2 hp9 hs9
          obtain ⟨A', c', e', hrz, hcz', hmz'⟩ := own_rdc hao9
          injection e' with e1 e2 e3
          subst e1 e3
          have hb29 := HB2.out.trans (hbel9.mono hzw2)
          have HAU := Lib.hid (show AuR w9 w9.heap.size Az lz cz (S : Int) M m d E1 le g1 (invA a al2) from by
            rw [← hinv]
            exact { al := hrz, mr := (HH.out.mr.below hb29 (Nat.le_refl _)).more hb29.size, ed := hr9, hn := HLZ.out.symm, hm := HH.out.hm, hk := v2.symm, st := HST.out, cn := ⟨hcz, hmz⟩, cm := HH.out.cm, ck := ⟨by omega, hm9⟩, bn := by omega, bm := HH.out.bm, bk := by omega })
          have hchk : chkE (invA a al2) = 0 := Right.chk { inv_right HRI.out.toRightW al2 with st1 := by rw [inv_st HRI.out.toRightW]; exact HRI.out.st1 }
          have HCR := Lib.hid (show canR (invA a al2) = (canA (invA a al2), 0) by unfold canR; rw [if_neg (by rw [hchk]; simp)])
          have HCA := Lib.hid (mCanonical_any Az lz cz (S : Int) M m d E1 le g1 (invA a al2) w9 HAU.out)
          rw [HCR.out] at HCA
          have hr := Lib.hid (show invR a al2 = (canA (invA a al2), 0) by unfold invR; rw [if_pos HC0.out, HCR.out])
          have HB9 := Lib.hid hbel9
          have HB29 := Lib.hid hb29
          have b0 := hcb9.cell 0 rfl
          have b1 := hcb9.cell 1 rfl
          have b2 := hcb9.cell 2 rfl
          have b3 := hcb9.cell 3 rfl
          have hz9 := hbel9.size
          clear hp9 hs9 hr9 hg9 hc9 hm9 v2 hcb9 hao9 hbel9 hinv e2 hrz hcz' hmz' hb29 hchk e3 hba HSO
          go_wp2_with fail
          refine HCA.out.mono ?_
          rintro e w10 ⟨v, rfl, hau, hb10⟩
          obtain ⟨A2, n2, c2, s2, M2, m2, d2, E2, k2, g2, rfl, hrest⟩ := hau
          have hau2 := Lib.hid (show AuF (canA (invA a al2)) (.agg #[.slice A2 n2 c2, .int .i64 s2, .slice M2 m2 d2, .slice E2 k2 g2]) w10 w9.heap.size from ⟨_, _, _, _, _, _, _, _, _, _, rfl, hrest⟩)
          have hB10 := Lib.hid (HB29.out.trans (hb10.mono HB29.out.size))
          have hB210 := HB9.out.trans (hb10.mono HB9.out.size)
          have hRa := HR2.out.below hB210 HR2.out.lt
          have r0 := hRa.cell 0 rfl
          have r1 := hRa.cell 1 rfl
          have r2 := hRa.cell 2 rfl
          have r3 := hRa.cell 3 rfl
          have s0 := hRa.frozen 0
          have s1 := hRa.frozen 1
          have s2' := hRa.frozen 2
          have s3 := hRa.frozen 3
          have hlR := HR2.out.lt
          clear hrest hRa hb10 hB210 b0 b1 b2 b3
          go_wp2_with fail
          (try simp only [Exit.inBlock, Exit.then])
          refine bodyPost_ret (v := .tuple #[.agg #[.slice A2 n2 c2, .int .i64 s2, .slice M2 m2 d2, .slice E2 k2 g2], .int .i64 0]) ?_ rfl ⟨.agg #[.slice A2 n2 c2, .int .i64 s2, .slice M2 m2 d2, .slice E2 k2 g2], by rw [hr.out], ?_, ?_⟩
          · rw [results_cell_tmp1 rfl]
            go_simp
          · rw [hr.out]
            exact (hau2.out.set4 (by omega) _ _ _ _).more (by omega)
          · exact below_set4 hB10.out (by omega) _ _ _ _
  · have hb0 : (u != 0) = true := by simp [h0]
    have hr := Lib.hid (show invR a al2 = (zeroA, u) by unfold invR; rw [← HU.out, if_neg h0])
    have r0 := HR2.out.cell 0 rfl
    have r1 := HR2.out.cell 1 rfl
    have r2 := HR2.out.cell 2 rfl
    have r3 := HR2.out.cell 3 rfl
    have s0 := HR2.out.frozen 0
    have s1 := HR2.out.frozen 1
    have s2 := HR2.out.frozen 2
    have s3 := HR2.out.frozen 3
    clear h0
    go_wp2_with fail
    (try simp only [Exit.inBlock, Exit.then])
    refine bodyPost_ret (v := .tuple #[.agg #[.slice none 0 0, .int .i64 0, .slice none 0 0, .slice none 0 0], .int .i64 u]) ?_ rfl ⟨_, by rw [hr.out], ?_, ?_⟩
    · rw [results_cell_tmp1 rfl]
      go_simp
    · rw [hr.out]; exact AuF.zero _ _
    · exact below_set4 HB2.out (by omega) _ _ _ _
end Go.Proofs.YtaadhpkpekmfoaaGreat

/- Layer 7: what the examples of the chapter give. -/
namespace Go.Proofs.YtaadhpkpekmfoaaGreat
open Go.RowKit Go.Sort

theorem ex_cwe : cweE exA7 [1] = 0 := by decide
theorem inv_cwe : cweE ⟨[1], 1, [], []⟩ [0, 1] = 0 := by decide
theorem inv_canR : (canR (invA ⟨[1], 1, [], []⟩ [0, 1])).2 = 0 := by first | rfl | decide | kernel_rfl
theorem kn_proj (A : Option Addr) (n c : Nat) (s : Int) (M : Option Addr) (m d : Nat) (E : Option Addr) (k g : Nat) (A3 : Option Addr) (w : World) (h : AuR w w.heap.size A n c s M m d E k g exA7) (ho : RdI w w.heap.size A3 [1]) :
    Calls Tryz.prog 14 #[.agg #[.slice A n c, .int .i64 s, .slice M m d, .slice E k g], .slice A3 1 1] w fun e w' => ∃ (A1 : Option Addr) (n1 c1 : Nat) (s1 : Int) (M1 : Option Addr) (m1 d1 : Nat) (E1 : Option Addr) (k1 g1 : Nat) (V : Option Addr) (cV : Nat) (hs : List Hd),
      e = .returned (.tuple #[.agg #[.slice A1 n1 c1, .int .i64 s1, .slice M1 m1 d1, .slice E1 k1 g1], .slice V 2 cV, .int .i64 0]) ∧ AuR w' w'.heap.size A1 n1 c1 s1 M1 m1 d1 E1 k1 g1 exP7 ∧ RdL w' w'.heap.size V hs ∧ hs.length = 2 ∧ hs.map Hd.z = [[0, 1], [0, 1, 2]] ∧ Below w.heap.size w w' := by
  refine (jProject_any A n c s M m d E k g A3 1 1 exA7 [1] w h ho rfl (by omega) (by omega)).mono ?_
  rintro e w' ⟨hb, h1 | h1 | h1⟩
  · exact absurd ex_cwe h1.1
  · have := h1.2.1
    have e1 := congrArg List.length ex_ests
    rw [List.length_map] at e1
    simp at e1
    omega
  · obtain ⟨_, _, A1, n1, c1, s1, M1, m1, d1, E1, k1, g1, V, nV, cV, hs, he, ha, hl, hlen, hm, _, _⟩ := h1
    rw [ex7_can] at ha
    rw [ex_ests] at hm
    have h2 : hs.length = 2 := by have := congrArg List.length hm; simpa using this
    rw [h2] at hlen
    subst hlen
    exact ⟨A1, n1, c1, s1, M1, m1, d1, E1, k1, g1, V, cV, hs, he, ha, hl, h2, hm, hb⟩
theorem kn_lift (A : Option Addr) (n c : Nat) (s : Int) (M : Option Addr) (m d : Nat) (E : Option Addr) (k g : Nat) (A3 A2 : Option Addr) (w : World) (h : AuR w w.heap.size A n c s M m d E k g exA7) (ho : RdI w w.heap.size A3 [1]) (hob : RdI w w.heap.size A2 [1]) :
    Calls Tryz.prog 31 #[.agg #[.slice A n c, .int .i64 s, .slice M m d, .slice E k g], .slice A3 1 1, .slice A2 1 1, .bool true] w fun e w' => ∃ A c, e = .returned (.tuple #[.slice A 2 c, .bool true, .int .i64 0]) ∧ RdI w' w'.heap.size A [0, 1] ∧ Below w.heap.size w w' := by
  refine (jLiftP_any A n c s M m d E k g A3 1 1 exA7 [1] A2 1 1 [1] true w h ho rfl (by omega) (by omega) hob rfl (by omega)).mono ?_
  rintro e w' ⟨hb, h1 | h1 | h1⟩
  · exact absurd ex_cwe h1.1
  · exact absurd h1.2.1 (by decide)
  · have h2 := h1.2.2
    rw [ex_lift] at h2
    obtain ⟨r, he, ho⟩ := h2
    obtain ⟨A, c, rfl, hr, _, _⟩ := own_rdc ho
    exact ⟨A, c, he, hr, hb⟩
theorem kn_inv (A n c A3) (w : World) (ha : RdI w w.heap.size A [1]) (hn : n = 1) (hc : c = 1) (ho : RdI w w.heap.size A3 [0, 1]) :
    Calls Tryz.prog 29 #[.agg #[.slice A n c, .int .i64 1, .slice none 0 0, .slice none 0 0], .slice A3 2 2] w fun e w' => ∃ (A1 : Option Addr) (n1 c1 : Nat) (s1 : Int) (M1 : Option Addr) (m1 d1 : Nat) (E1 : Option Addr) (g1 : Nat),
      e = .returned (.tuple #[.agg #[.slice A1 n1 c1, .int .i64 s1, .slice M1 m1 d1, .slice E1 1 g1], .int .i64 0]) ∧ Below w.heap.size w w' := by
  subst hn hc
  have hA : AuR w w.heap.size A 1 1 1 none 0 0 none 0 0 ⟨[1], 1, [], []⟩ := { al := ha, mr := fun h => absurd h (by simp), ed := fun h => absurd h (by simp), hn := rfl, hm := rfl, hk := rfl, st := rfl, cn := by omega, cm := by omega, ck := by omega, bn := by omega, bm := by omega, bk := by omega }
  refine (jInverse_any A 1 1 1 none 0 0 none 0 0 A3 2 2 ⟨[1], 1, [], []⟩ [0, 1] w hA ho rfl (by omega) (by omega)).mono ?_
  rintro e w' ⟨v, he, ⟨A1, n1, c1, s1, M1, m1, d1, E1, k1, g1, rfl, hr, _⟩, hb⟩
  have e1 : invR ⟨[1], 1, [], []⟩ [0, 1] = canR (invA ⟨[1], 1, [], []⟩ [0, 1]) := by unfold invR; rw [if_pos inv_cwe]
  have hc0 : chkE (invA ⟨[1], 1, [], []⟩ [0, 1]) = 0 := by first | rfl | decide | kernel_rfl
  have e2 : canR (invA ⟨[1], 1, [], []⟩ [0, 1]) = (canA (invA ⟨[1], 1, [], []⟩ [0, 1]), 0) := by unfold canR; rw [if_neg (by rw [hc0]; simp)]
  rw [e1, e2] at he hr
  have hk := hr.hk
  rw [show ((canA (invA ⟨[1], 1, [], []⟩ [0, 1]), (0 : Int)).1.ed).length = 1 from ex_inv] at hk
  subst hk
  exact ⟨A1, n1, c1, s1, M1, m1, d1, E1, g1, he, hb⟩
end Go.Proofs.YtaadhpkpekmfoaaGreat

/- Layer 3: Run, Generates, Accepts, Enabled of the reference. -/
namespace Go.Proofs.YtaadhpkpekmfoaaGreat
open Go.RowKit Go.Sort

theorem stepI_neg {a : Au} {q ev : Int} (h : stepO a q ev = none) : stepI a q ev = -1 := by rw [stepI, h]; rfl
theorem stepI_pos {a : Au} {q ev t : Int} (h : stepO a q ev = some t) : stepI a q ev = t := by rw [stepI, h]; rfl

theorem gen_pos {a : Au} (h : RightW a) (ws : List Int) : genB a ws = (decide (0 < a.st) && decide ((runE a 0 ws).2 = ws.length)) := by
  have := h.st0
  unfold genB
  congr 1
  rw [decide_eq_decide]; omega

/-- The events of a state, by the alphabet. -/
def enI (a : Au) (q : Int) : List Int := a.al.filter fun ev => (stepO a q ev).isSome
theorem en_eq {a : Au} (h : RightW a) (q : Int) : (succ a.ed q).map Ed.e = enI a q := by
  rw [succ_eq h, enI, List.map_filterMap]
  have : ∀ l : List Int, l.filterMap (fun x => Option.map Ed.e (edgeO a.ed q x)) = l.filter fun ev => (stepO a q ev).isSome := fun l => by
    induction l with
    | nil => rfl
    | cons x l ih =>
      rw [List.filterMap_cons, List.filter_cons]
      unfold stepO
      cases he : edgeO a.ed q x with
      | none => simp only [Option.map_none, Option.isSome_none, Bool.false_eq_true, if_false]; exact ih
      | some y =>
        have hy := ((edgeO_some h.edo).1 he).2.2
        simp only [Option.map_some, Option.isSome_some, if_true]
        rw [hy]; exact congrArg _ ih
  exact this a.al

end Go.Proofs.YtaadhpkpekmfoaaGreat

/- Layer 3, the mathematics of the words of the reference: how many there are at most, where they lead. -/
namespace Go.Proofs.YtaadhpkpekmfoaaGreat
open Go.RowKit Go.Sort

/-- How many words go on from one at most, if r further events may follow and there are five events. -/
def cst : Nat → Nat
  | 0 => 0
  | r + 1 => 5 * (1 + cst r)
theorem cst_mono (r : Nat) : cst r ≤ cst (r + 1) := by
  induction r with
  | zero => simp [cst]
  | succ r ih => rw [cst, cst.eq_2 (r + 1)]; omega
/-- What may still come of the words from the i-th on. -/
def rst (m : Nat) (L : List (List Int × Int)) (i : Nat) : Nat := ((L.drop i).map fun p => cst (m - p.1.length)).sum
theorem rst_step {m : Nat} {L : List (List Int × Int)} {i : Nat} (h : i < L.length) : rst m L i = cst (m - (L.getD i ([], 0)).1.length) + rst m L (i + 1) := by
  unfold rst
  rw [List.drop_eq_getElem_cons h, List.map_cons, List.sum_cons]
  simp only [List.getD, List.getElem?_eq_getElem h, Option.getD_some]
theorem rst_app {m : Nat} {L R : List (List Int × Int)} {i : Nat} (h : i ≤ L.length) : rst m (L ++ R) i = rst m L i + (R.map fun p => cst (m - p.1.length)).sum := by
  unfold rst
  rw [List.drop_append_of_le_length h, List.map_append, List.sum_append]
theorem ext_sum (a : Au) (m : Nat) (p : List Int × Int) : ((extW a p).map fun q => cst (m - q.1.length)).sum = (extW a p).length * cst (m - (p.1.length + 1)) := by
  unfold extW
  rw [List.map_map, List.length_map]
  induction succ a.ed p.2 with
  | nil => simp
  | cons x l ih => simp only [List.map_cons, List.sum_cons, ih, List.length_cons, Function.comp_apply, List.length_append, List.length_nil, Nat.zero_add]; rw [Nat.add_mul]; omega
theorem ext_len {a : Au} (h : RightW a) (h5 : a.al.length ≤ 5) (p : List Int × Int) : (extW a p).length ≤ 5 := by
  unfold extW
  rw [List.length_map, succ_eq h]
  exact Nat.le_trans (List.length_filterMap_le _ _) h5
/-- All words are found. -/
theorem genF_some {a : Au} (h : RightW a) (h5 : a.al.length ≤ 5) (m : Nat) : ∀ (f i : Nat) (L : List (List Int × Int)), i ≤ L.length → L.length + rst m L i ≤ 1024 → L.length + rst m L i < f + i → ∃ R, genF a (m : Int) f i L = some R ∧ R.length ≤ 1024
  | 0, i, L, hi, h1, h2 => by omega
  | f + 1, i, L, hi, h1, h2 => by
    rw [genF]
    by_cases hc : i < L.length ∧ ((L.getD i ([], 0)).1.length : Int) < (m : Int)
    · rw [if_pos hc]
      obtain ⟨p, hp⟩ : ∃ p, p = L.getD i ([], 0) := ⟨_, rfl⟩
      have hs := rst_step (m := m) hc.1
      rw [← hp] at hc hs ⊢
      have hlt : p.1.length < m := by omega
      obtain ⟨r, hr⟩ : ∃ r, m - p.1.length = r + 1 := ⟨m - p.1.length - 1, by omega⟩
      have hr2 : m - (p.1.length + 1) = r := by omega
      have hx := ext_len h h5 p
      have hes := ext_sum a m p
      rw [hr2] at hes
      rw [hr, cst] at hs
      have hmul : (extW a p).length * cst r ≤ 5 * cst r := Nat.mul_le_mul_right _ hx
      have ha : rst m (L ++ extW a p) (i + 1) = rst m L (i + 1) + (extW a p).length * cst r := by rw [rst_app (by omega), hes]
      have hl : (L ++ extW a p).length = L.length + (extW a p).length := List.length_append
      have hd : 5 * (1 + cst r) = 5 + 5 * cst r := by omega
      rw [if_neg (by omega)]
      exact genF_some h h5 m f (i + 1) (L ++ extW a p) (by omega) (by omega) (by omega)
    · rw [if_neg hc]
      exact ⟨L, rfl, by omega⟩
theorem genO_some {a : Au} (h : RightW a) (h5 : a.al.length ≤ 5) {m : Nat} (hm : m ≤ 4) : ∃ R, genO a (m : Int) = some R ∧ R.length ≤ 1024 := by
  unfold genO
  by_cases h0 : a.st = 0
  · rw [if_pos h0]; exact ⟨[], rfl, by simp⟩
  · rw [if_neg h0]
    have hc : cst m ≤ 780 := by
      have h4 : cst 4 = 780 := by decide
      match m, hm with
      | 0, _ => decide
      | 1, _ => decide
      | 2, _ => decide
      | 3, _ => decide
      | 4, _ => decide
    have hr : rst m [(([] : List Int), (0 : Int))] 0 = cst m := by simp [rst]
    exact genF_some h h5 m 1026 0 [([], 0)] (by simp) (by rw [hr]; simp; omega) (by rw [hr]; simp; omega)
theorem runE_snoc {a : Au} : ∀ (ws : List Int) (q t u ev : Int), runE a q ws = (t, ws.length) → stepO a t ev = some u → runE a q (ws ++ [ev]) = (u, (ws ++ [ev]).length)
  | [], q, t, u, ev, h, hs => by
    rw [runE_nil] at h
    obtain rfl : q = t := (Prod.mk.inj h).1
    rw [List.nil_append, runE_go hs, runE_nil]; rfl
  | x :: r, q, t, u, ev, h, hs => by
    cases e : stepO a q x with
    | none => rw [runE_stop e] at h; simp at h
    | some v =>
      rw [runE_go e] at h
      have h1 : runE a v r = (t, r.length) := by
        rw [Prod.mk.injEq] at h ⊢
        exact ⟨h.1, by have := h.2; simp at this; exact this⟩
      have := runE_snoc r v t u ev h1 hs
      rw [List.cons_append, runE_go e, this]; simp
/-- Each word leads to its state. -/
def Leads (a : Au) (L : List (List Int × Int)) : Prop := ∀ p ∈ L, runE a 0 p.1 = (p.2, p.1.length)
theorem leads_ext {a : Au} (h : RightW a) {p : List Int × Int} (hp : runE a 0 p.1 = (p.2, p.1.length)) : Leads a (extW a p) := fun q hq => by
  obtain ⟨x, hx, rfl⟩ := List.mem_map.1 hq
  obtain ⟨hx1, hx2⟩ := mem_succ.1 hx
  refine runE_snoc _ _ _ _ _ hp (stepO_some ((edgeO_some h.edo).2 ⟨hx1, hx2, rfl⟩))
theorem leads_app {a : Au} {L R : List (List Int × Int)} (h1 : Leads a L) (h2 : Leads a R) : Leads a (L ++ R) := fun p hp => by
  rcases List.mem_append.1 hp with hp | hp
  · exact h1 p hp
  · exact h2 p hp
theorem leads_gen {a : Au} (h : RightW a) (most : Int) : ∀ (f i : Nat) (L R : List (List Int × Int)), Leads a L → genF a most f i L = some R → Leads a R
  | 0, i, L, R, _, hR => by rw [genF] at hR; cases hR
  | f + 1, i, L, R, hL, hR => by
    rw [genF] at hR
    split at hR
    · rename_i hc
      split at hR
      · cases hR
      · have hm := getD_memP hc.1
        exact leads_gen h most f (i + 1) _ R (leads_app hL (leads_ext h (hL _ hm))) hR
    · injection hR with hR; subst hR; exact hL
theorem leads_genO {a : Au} (h : RightW a) {most : Int} {R : List (List Int × Int)} (hR : genO a most = some R) : Leads a R := by
  unfold genO at hR
  split at hR
  · injection hR with hR; subst hR; intro p hp; simp at hp
  · exact leads_gen h most _ _ _ _ (fun p hp => by rw [List.mem_singleton] at hp; subst hp; rw [runE_nil]; rfl) hR
theorem acc_leads {a : Au} {L : List (List Int × Int)} (h : Leads a L) {p : List Int × Int} (hp : p ∈ L) (h0 : a.st ≠ 0) : accB a p.1 = decide (p.2 ∈ a.mr) := by
  unfold accB genB
  rw [h p hp]; simp [h0]
/-- The marked words are the accepted ones. -/
theorem sel_acc {a : Au} {L : List (List Int × Int)} (h : Leads a L) (h0 : a.st ≠ 0) : selL a.mr true L = (L.map Prod.fst).filter fun w => accB a w := by
  unfold selL
  rw [List.filter_map]
  congr 1
  refine List.filter_congr fun p hp => ?_
  rw [Function.comp_apply, acc_leads h hp h0]; simp
theorem sel_all (mr : List Int) (L : List (List Int × Int)) : selL mr false L = L.map Prod.fst := by
  unfold selL
  rw [List.filter_eq_self.2]; simp
theorem sel_acc' {a : Au} {most : Int} {L : List (List Int × Int)} (h : RightW a) (hL : genO a most = some L) : selL a.mr true L = (L.map Prod.fst).filter fun w => accB a w := by
  by_cases h0 : a.st = 0
  · rw [genO, if_pos h0] at hL; injection hL with hL; subst hL; rfl
  · exact sel_acc (leads_genO h hL) h0
theorem ext_en {a : Au} (h : RightW a) (p : List Int × Int) : (extW a p).map Prod.fst = (enI a p.2).map fun ev => p.1 ++ [ev] := by
  rw [← en_eq h]; unfold extW; rw [List.map_map, List.map_map]; rfl
end Go.Proofs.YtaadhpkpekmfoaaGreat

/- Layer 3: Words of the reference. -/
namespace Go.Proofs.YtaadhpkpekmfoaaGreat
open Go.RowKit Go.Sort

/-- At a step of a region that draws its order: an append of a slice that reads as a list, nil and empty let in. -/
theorem step_app_rd {ops : Array Oper} {o : Oper} {a : Act} {w : World} {K : Act → World → Prop} {Q : Exit → Act → World → Prop} {E : Prop} (hgd : o.guard = none) (s x : Operand)
    (ho : o.op = .call { callee := .builtin .append, args := #[s, x], argTypes := #[27, 27] })
    (base : Nat) (v : Value) (n : Nat) (xs : List Int) (hs : a.eval s = v) (hown : w.ownsRow base 3 1 v n (xs.map (Value.int .i64)))
    (B : Nat) (A : Option Addr) (m c : Nat) (zs : List Int) (hx : a.eval x = .slice A m c) (hr : RdI w B A zs) (hm : zs.length = m) (h63 : n + m ≤ maxLen) (hbytes : (n + m) * 8 ≤ 140737488355328) (hbase : base ≤ w.heap.size)
    (h : ∀ v' w', w'.ownsRow base 3 1 v' (n + m) ((xs ++ zs).map (Value.int .i64)) → w.grownBy w' v.ownBlock → K (a.put o.dst v') w') :
    if Region.wanted o (yielded ops a.tmps) = true then Oper.wp Tryz.prog o a w K Q else E := by
  have hw : Region.wanted o (yielded ops a.tmps) = true := by simp [Region.wanted, hgd]
  rw [if_pos hw]
  obtain ⟨v', w', hrun, h2, h3⟩ := run_app_rd hown hr hm h63 hbytes hbase o.type (c := c)
  unfold Oper.wp execOp
  simp only [ho, resolve, invoke, builtin, Sem.run_bind, Sem.run_pure, Result.andThen_ok, List.map_toArray, List.map_cons, List.map_nil, hs, hx, hrun]
  exact h v' w' h2 h3

/-- Words of the call's own. -/
structure WL (w : World) (base : Nat) (vw : Value) (hs : List Hd) : Prop where
  row : w.ownsRow base 27 1 vw hs.length (hs.map Hd.enc)
  own : ∀ h ∈ hs, Own w base h.enc h.z
theorem WL.gl {w : World} {base : Nat} {vw : Value} {hs : List Hd} (h : WL w base vw hs) : GL w base vw hs (.slice none 0 0) [] :=
  ⟨h.row, h.own, World.ownsRow_nil _ _ _ _, fun x _ => by
    by_cases he : x.enc.ownBlock = none
    · exact .inl he
    · exact .inr (by simpa [Value.ownBlock] using he)⟩
theorem GL.wl {w : World} {base : Nat} {vw ve : Value} {hs : List Hd} {es : List Int} (h : GL w base vw hs ve es) : WL w base vw hs := ⟨h.row, h.own⟩
theorem WL.below {w w' : World} {base : Nat} {vw : Value} {hs : List Hd} (h : WL w base vw hs) (hb : Below w.heap.size w w') : WL w' base vw hs := (h.gl.below hb).wl
theorem WL.drewN {w : World} {base : Nat} {vw : Value} {hs : List Hd} (h : WL w base vw hs) (q : Nat) : WL (w.drewN q) base vw hs := ⟨h.row, h.own⟩
theorem WL.drew {w : World} {base : Nat} {vw : Value} {hs : List Hd} (h : WL w base vw hs) : WL w.drew base vw hs := ⟨h.row, h.own⟩
theorem WL.alloc {w : World} {base : Nat} {vw : Value} {hs : List Hd} (h : WL w base vw hs) (o : Obj) : WL (w.alloc o) base vw hs := h.below ((Below.refl _ w).alloc (Nat.le_refl _) o)
theorem WL.rd {w : World} {base : Nat} {vw : Value} {hs : List Hd} (h : WL w base vw hs) : ∃ A c, vw = .slice A hs.length c ∧ RdL w w.heap.size A hs ∧ hs.length ≤ c ∧ c ≤ 9223372036854775807 := ownL_rd h.row h.own
/-- What Words of the reference hands back. -/
def RWds (R : List (List Int)) (e : Ending) (w' : World) : Prop := ∃ A c hs, e = .returned (.slice A hs.length c) ∧ hs.map Hd.z = R ∧ RdL w' w'.heap.size A hs ∧ hs.length ≤ c ∧ c ≤ 9223372036854775807 ∧ hs.length ≤ 1024

-- GENERATED
/-- A list of the call's own is handed back. -/
def GivesO (w : World) (zs : List Int) (e : Ending) (w' : World) : Prop := ∃ A c, e = .returned (.slice A zs.length c) ∧ Own w' w.heap.size (.slice A zs.length c) zs ∧ Below w.heap.size w w'
theorem own_cell {w : World} {base N c : Nat} {A : Option Addr} {zs : List Int} (h : Own w base (.slice A N c) zs) {j : Nat} (hj : j < zs.length) : ∃ g, A = some ⟨g, 0, none⟩ ∧ base ≤ g ∧ g < w.heap.size ∧ w.cell? ⟨g, j, none⟩ = some (.int .i64 (zs.getD j 0)) := by
  obtain ⟨g, cap, e, hg, hc, _, _⟩ := own_shape h rfl (by omega)
  injection e with e1 _ _
  subst e1
  exact ⟨g, rfl, (h.lt g rfl).1, hg, hc j hj⟩
theorem WL.ret {w : World} {base N c : Nat} {A : Option Addr} {hs : List Hd} {R : List (List Int)} (h : WL w base (.slice A N c) hs) (hN : hs.length = N) (hR : hs.map Hd.z = R) (hl : N ≤ 1024) : RWds R (.returned (.slice A N c)) w := by
  subst hN
  obtain ⟨A', c', e, h1, h2, h3⟩ := h.rd
  injection e with e1 _ e3
  subst e1 e3
  exact ⟨A, c, hs, rfl, hR, h1, h2, h3, hl⟩
theorem WL.with {w w' : World} {base : Nat} {vw ve : Value} {hs : List Hd} {es : List Int} (h : WL w base vw hs) (hb : Below w.heap.size w w') (he : Own w' w.heap.size ve es) (hB : base ≤ w.heap.size) : GL w' base vw hs ve es :=
  ⟨(h.below hb).row, (h.below hb).own, own_more he hB, fun x hx => by
    by_cases hn : x.enc.ownBlock = none
    · exact .inl hn
    · refine .inr fun e => ?_
      obtain ⟨j, hj⟩ := Option.ne_none_iff_exists'.1 hn
      have h1 := ((h.own x hx).lt j hj).2
      have h2 := (he.lt j (by rw [← e, hj])).1
      omega⟩
theorem own_lit0 (w : World) : (w.alloc (.cells #[] 3)).ownsRow w.heap.size 3 1 (.slice (some ⟨w.heap.size, 0, none⟩) 0 0) 0 (([] : List Int).map (Value.int .i64)) :=
  World.ownsRow_lit (e := 3) (size := 1) w #[] 0 (Nat.le_refl _) (by unfold maxLen; omega) rfl
theorem news_at {w : World} {b : Nat} {v : Value} (h : w.cell? ⟨b, 0, none⟩ = some v) : ∀ j u, [v][j]? = some u → w.cell? ((⟨b, 0, none⟩ : Addr).add j) = some u := fun j u hj => by
  obtain rfl : j = 0 := by have := (List.getElem?_eq_some_iff.1 hj).1; simp at this; omega
  simp at hj; subst hj; exact h
theorem genF_pos {a : Au} {most : Int} {f i : Nat} {L R : List (List Int × Int)} (h : genF a most f i L = some R) : 0 < f := by
  rcases Nat.eq_zero_or_pos f with h0 | h0
  · subst h0; rw [genF] at h; cases h
  · exact h0
theorem ext_length {a : Au} (h : RightW a) (p : List Int × Int) : (extW a p).length = (enI a p.2).length := by
  have := congrArg List.length (ext_en h p); simpa using this
theorem ext_words {a : Au} (h : RightW a) (p : List Int × Int) {t : Nat} (ht : t < (enI a p.2).length) : ((extW a p).take (t + 1)).map Prod.fst = ((extW a p).take t).map Prod.fst ++ [p.1 ++ [(enI a p.2).getD t 0]] := by
  rw [List.map_take, List.map_take, ext_en h, List.take_add_one, List.getElem?_map, List.getElem?_eq_getElem ht]
  simp [List.getD, List.getElem?_eq_getElem ht]

end Go.Proofs.YtaadhpkpekmfoaaGreat

/- Layer 3: what is told of arguments that came in: an automaton, a slice of ints. -/
namespace Go.Proofs.YtaadhpkpekmfoaaGreat
open Go.ChangeShapes Go.WideShapes Go.ChangeAt Go.RowKit Go.Deep
open Go.ChangeMaps (open_string shut_string)

theorem own : ownKnob Tryz.prog.godebug = none := by kernel_rfl
theorem laidOut : laidOutB Tryz.prog = true := by kernel_rfl

/-- A slice of ints that came in. -/
structure SlI (W : World) (v : Value) (A : Option Addr) (n c : Nat) (zs : List Int) : Prop where
  eq : v = .slice A n c
  len : zs.length = n
  rd : RdI W W.heap.size A zs
  wf : ∀ z ∈ zs, (Lit.int .i64 z).wf = true
  cap : n ≤ c
  top : c ≤ 9223372036854775807

section
variable {H : Type} {enc : TypeId × Value → H} {W : World} {a0 : Option Addr} {len cap : Nat} {d : DataW H} {p : List MemPlace}

set_option maxRecDepth 8000 in
theorem open_rdI (h : DataW.Trod enc Tryz.prog W 0 (fun _ => true) true 27 (.slice a0 len cap) d p) (hlt : ∀ x ∈ p, x.block < W.heap.size) :
    ∃ zs : List Int, zs.length = len ∧ RdI W W.heap.size a0 zs ∧ (∀ z ∈ zs, (Lit.int .i64 z).wf = true) ∧ len ≤ maxLen := by
  obtain ⟨fuel, hf⟩ := h
  rcases open_ints Tryz.underlying27 Tryz.underlying3 (by kernel_rfl) hf with ⟨hcs, _⟩ | ⟨a, l, c, zs, hcs, _, hl, hm, hz, hx, hcell, hwz⟩
  · simp [Value.cells] at hcs
    obtain ⟨rfl, rfl, rfl⟩ := hcs
    exact ⟨[], rfl, RdI.nil _ _ _, by simp, by unfold maxLen; omega⟩
  · simp [Value.cells] at hcs
    obtain ⟨rfl, rfl, rfl⟩ := hcs
    simp only [Prod.mk.injEq] at hx
    obtain ⟨rfl, rfl⟩ := hx
    simp only [if_true] at hz
    refine ⟨zs.take len, by rw [List.length_take]; omega, fun h0 => ?_, fun z hz' => hwz z (List.mem_of_mem_take hz'), by omega⟩
    rw [List.length_take] at h0
    obtain ⟨b, off, spot⟩ := a
    have hspot : spot = none := by simpa [Addr.add] using World.cell?_spot (hcell 0 (by omega))
    subst hspot
    refine ⟨b, off, rfl, hlt (.cell b off) (MemPlace.mem_row.2 ⟨0, by omega, by simp⟩), fun j hj => ?_⟩
    rw [List.length_take] at hj
    rw [← add_plain, hcell j (by omega)]
    simp [List.getD, show j < len by omega]

set_option maxRecDepth 8000 in
theorem open_rdG (h : DataW.Trod enc Tryz.prog W 0 (fun _ => true) true 31 (.slice a0 len cap) d p) (hlt : ∀ x ∈ p, x.block < W.heap.size) :
    ∃ l : List Ed, l.length = len ∧ RdG W W.heap.size a0 l ∧ len ≤ maxLen := by
  obtain ⟨fuel, hf⟩ := h
  rcases open_slice Tryz.underlying31 hf with ⟨hcs, _⟩ | ⟨a, l, c, m, n, D, Pl, hcs, _, hl, hm, hmm, hx, hi⟩
  · simp [Value.cells] at hcs
    obtain ⟨rfl, rfl, rfl⟩ := hcs
    exact ⟨[], rfl, fun h => absurd h (by simp), by unfold maxLen; omega⟩
  · simp [Value.cells] at hcs
    obtain ⟨rfl, rfl, rfl⟩ := hcs
    have h5 : Tryz.prog.cellsOf 79 = 3 := by kernel_rfl
    simp only [if_true] at hmm
    have each : ∀ j, j < m → ∃ x : Ed, W.cell? (a.add (j * 3)) = some (.int .i64 x.f) ∧ W.cell? ((a.add (j * 3)).add 1) = some (.int .i64 x.e) ∧ W.cell? ((a.add (j * 3)).add 2) = some (.int .i64 x.t) := by
      intro j hj
      obtain ⟨cs', hc, ht⟩ := hi j hj
      rw [h5] at hc
      obtain ⟨_, hcl, hat⟩ := World.cells?_some hc
      obtain ⟨ys, n', _, _, _, hyl, hfd⟩ := DataW.trod_struct Tryz.underlying79 ht
      match cs', hcl with
      | [c0, c1, c2], _ =>
        match ys, hyl with
        | [y0, y1, y2], _ =>
          have f0 : DataW.trod enc Tryz.prog W 0 (fun _ => true) true n' 3 (([c0, c1, c2].drop 0).take (Tryz.prog.cellsOf 3)) = some y0 := hfd 0 _ rfl
          have f1 : DataW.trod enc Tryz.prog W 0 (fun _ => true) true n' 3 (([c0, c1, c2].drop 1).take (Tryz.prog.cellsOf 3)) = some y1 := hfd 1 _ rfl
          have f2 : DataW.trod enc Tryz.prog W 0 (fun _ => true) true n' 3 (([c0, c1, c2].drop 2).take (Tryz.prog.cellsOf 3)) = some y2 := hfd 2 _ rfl
          have k3 : Tryz.prog.cellsOf 3 = 1 := by kernel_rfl
          rw [k3] at f0 f1 f2
          obtain ⟨q0, e0, _, _⟩ := DataW.trod_int Tryz.underlying3 f0
          obtain ⟨q1, e1, _, _⟩ := DataW.trod_int Tryz.underlying3 f1
          obtain ⟨q2, e2, _, _⟩ := DataW.trod_int Tryz.underlying3 f2
          simp only [List.drop, List.take, List.cons.injEq, and_true] at e0 e1 e2
          subst e0 e1 e2
          refine ⟨⟨q0, q1, q2⟩, ?_, hat 1 (by omega), hat 2 (by omega)⟩
          have := hat 0 (by omega)
          simpa [Addr.add] using this
    have each' : ∀ j : Nat, ∃ x : Ed, j < m → W.cell? (a.add (j * 3)) = some (.int .i64 x.f) ∧ W.cell? ((a.add (j * 3)).add 1) = some (.int .i64 x.e) ∧ W.cell? ((a.add (j * 3)).add 2) = some (.int .i64 x.t) := by
      intro j
      by_cases hj : j < m
      · obtain ⟨x, hx⟩ := each j hj
        exact ⟨x, fun _ => hx⟩
      · exact ⟨⟨0, 0, 0⟩, fun h => absurd h hj⟩
    obtain ⟨E, hE⟩ := Classical.axiomOfChoice each'
    refine ⟨(List.range len).map E, by simp, fun h0 => ?_, by omega⟩
    have h0' : 0 < len := by simpa using h0
    obtain ⟨b, off, spot⟩ := a
    have hspot : spot = none := by simpa [Addr.add] using World.cell?_spot (hE 0 (by omega)).1
    subst hspot
    simp only [Prod.mk.injEq] at hx
    obtain ⟨rfl, rfl⟩ := hx
    refine ⟨b, off, rfl, hlt (.cell b off) (List.mem_append_left _ (MemPlace.mem_row.2 ⟨0, by rw [h5]; omega, by simp⟩)), fun j x hj => ?_⟩
    rw [List.getElem?_map] at hj
    by_cases hjl : j < len
    · rw [List.getElem?_range hjl] at hj
      simp only [Option.map_some, Option.some.injEq] at hj
      subst hj
      obtain ⟨g0, g1, g2⟩ := hE j (by omega)
      simp only [add_plain] at g0 g1 g2
      exact ⟨g0, g1, g2⟩
    · rw [List.getElem?_eq_none (by simp; omega)] at hj
      cases hj
theorem cap_ints (h : DataW.Trod enc Tryz.prog W 0 (fun _ => true) true 27 (.slice a0 len cap) d p) : len ≤ cap := by
  obtain ⟨fuel, hf⟩ := h
  rcases open_slice Tryz.underlying27 hf with ⟨hcs, _⟩ | ⟨a, l, c, m, n, D, Pl, hcs, _, hl, _⟩
  · simp [Value.cells] at hcs; omega
  · simp [Value.cells] at hcs; omega
end

section
variable {H : Type} {enc : TypeId × Value → H} {W : World} {d : DataW H} {p : List MemPlace} {v : Value} {base : Nat}
set_option maxRecDepth 8000 in
theorem open_sl {n : Nat} {c : Value} {y : DataW H × List MemPlace} (hf : DataW.trod enc Tryz.prog W 0 (fun _ => true) true n 27 [c] = some y) (hlt : ∀ x ∈ y.2, x.block < W.heap.size) : ∃ A len cap zs, SlI W c A len cap zs := by
  rcases open_ints Tryz.underlying27 Tryz.underlying3 (by kernel_rfl) hf with ⟨hcs, _⟩ | ⟨a, l, cp, zs, hcs, _, hl, hm, _⟩
  · simp at hcs
    subst hcs
    exact ⟨none, 0, 0, [], rfl, rfl, RdI.nil _ _ _, by simp, Nat.le_refl _, by omega⟩
  · simp at hcs
    subst hcs
    have ht : DataW.Trod enc Tryz.prog W 0 (fun _ => true) true 27 (.slice (some a) l cp) y.1 y.2 := ⟨n, hf⟩
    obtain ⟨z, e1, e2, e3, _⟩ := open_rdI ht hlt
    exact ⟨some a, l, cp, z, rfl, e1, e2, e3, hl, by unfold maxLen at hm; omega⟩
/-- A slice of edges that came in. -/
structure SlG (W : World) (v : Value) (A : Option Addr) (n c : Nat) (l : List Ed) : Prop where
  eq : v = .slice A n c
  len : l.length = n
  rd : RdG W W.heap.size A l
  cap : n ≤ c
  top : c ≤ 9223372036854775807
set_option maxRecDepth 8000 in
theorem open_slG {n : Nat} {c : Value} {y : DataW H × List MemPlace} (hf : DataW.trod enc Tryz.prog W 0 (fun _ => true) true n 31 [c] = some y) (hlt : ∀ x ∈ y.2, x.block < W.heap.size) : ∃ A len cap zs, SlG W c A len cap zs := by
  rcases open_slice Tryz.underlying31 hf with ⟨hcs, _⟩ | ⟨a, l, cp, m, n', D, Pl, hcs, _, hl, hm, _⟩
  · simp at hcs
    subst hcs
    exact ⟨none, 0, 0, [], rfl, rfl, RdG.nil _ _ _, Nat.le_refl _, by omega⟩
  · simp at hcs
    subst hcs
    have ht : DataW.Trod enc Tryz.prog W 0 (fun _ => true) true 31 (.slice (some a) l cp) y.1 y.2 := ⟨n, hf⟩
    obtain ⟨z, e1, e2, _⟩ := open_rdG ht hlt
    exact ⟨some a, l, cp, z, rfl, e1, e2, hl, by unfold maxLen at hm; omega⟩
/-- An automaton that came in, of any size. -/
structure AuI (W : World) (A : Option Addr) (n c : Nat) (s : Int) (M : Option Addr) (m d : Nat) (E : Option Addr) (k g : Nat) (a : Au) : Prop where
  al : RdI W W.heap.size A a.al
  mr : RdI W W.heap.size M a.mr
  ed : RdG W W.heap.size E a.ed
  hn : a.al.length = n
  hm : a.mr.length = m
  hk : a.ed.length = k
  st : a.st = s
  cn : n ≤ c ∧ c ≤ 9223372036854775807
  cm : m ≤ d ∧ d ≤ 9223372036854775807
  ck : k ≤ g ∧ g ≤ 9223372036854775807
  wf : (Lit.int .i64 s).wf = true
theorem AuI.r {W : World} {A : Option Addr} {n c : Nat} {s : Int} {M : Option Addr} {m d : Nat} {E : Option Addr} {k g : Nat} {a : Au} (h : AuI W A n c s M m d E k g a) (h1 : n ≤ 12) (h2 : m ≤ 12) (h3 : k ≤ 12) : AuR W W.heap.size A n c s M m d E k g a :=
  { al := h.al, mr := h.mr, ed := h.ed, hn := h.hn, hm := h.hm, hk := h.hk, st := h.st, cn := h.cn, cm := h.cm, ck := h.ck, bn := by omega, bm := by omega, bk := by omega }
set_option maxRecDepth 8000 in
theorem open_aut (hval : Value.okWide Tryz.prog W .any base 33 v) (h : DataW.Trod enc Tryz.prog W 0 (fun _ => true) true 33 v d p) (hlt : ∀ x ∈ p, x.block < W.heap.size) :
    ∃ A n c s M m d' E k g a, v = .agg #[.slice A n c, .int .i64 s, .slice M m d', .slice E k g] ∧ AuI W A n c s M m d' E k g a := by
  obtain ⟨cs, rfl, hsz⟩ := okWide_struct Tryz.underlying33 hval
  have h4 : Tryz.prog.cellsOf 33 = 4 := by kernel_rfl
  have h1 : Tryz.prog.cellsOf 27 = 1 := by kernel_rfl
  have h2 : Tryz.prog.cellsOf 3 = 1 := by kernel_rfl
  have h3 : Tryz.prog.cellsOf 31 = 1 := by kernel_rfl
  rw [h4] at hsz
  obtain ⟨fuel, hf⟩ := h
  obtain ⟨ys, n', _, hx, _, hyl, hfd⟩ := DataW.trod_struct Tryz.underlying33 hf
  obtain ⟨l⟩ := cs
  match l, hsz with
  | [s0, s1, s2, s3], _ =>
    match ys, hyl with
    | [y0, y1, y2, y3], _ =>
      have f0 : DataW.trod enc Tryz.prog W 0 (fun _ => true) true n' 27 (([s0, s1, s2, s3].drop 0).take (Tryz.prog.cellsOf 27)) = some y0 := hfd 0 _ rfl
      have f1 : DataW.trod enc Tryz.prog W 0 (fun _ => true) true n' 3 (([s0, s1, s2, s3].drop 1).take (Tryz.prog.cellsOf 3)) = some y1 := hfd 1 _ rfl
      have f2 : DataW.trod enc Tryz.prog W 0 (fun _ => true) true n' 27 (([s0, s1, s2, s3].drop 2).take (Tryz.prog.cellsOf 27)) = some y2 := hfd 2 _ rfl
      have f3 : DataW.trod enc Tryz.prog W 0 (fun _ => true) true n' 31 (([s0, s1, s2, s3].drop 3).take (Tryz.prog.cellsOf 31)) = some y3 := hfd 3 _ rfl
      rw [h1] at f0 f2
      rw [h2] at f1
      rw [h3] at f3
      injection hx with hx1 hx2
      subst hx2
      obtain ⟨A, n, c, za, SA⟩ := open_sl (c := s0) f0 (fun x hx => hlt x (by simp [hx]))
      obtain ⟨q, e1, _, hq⟩ := DataW.trod_int Tryz.underlying3 f1
      obtain ⟨M, m, dd, zm, SM⟩ := open_sl (c := s2) f2 (fun x hx => hlt x (by simp [hx]))
      obtain ⟨E, k, g, ze, SE⟩ := open_slG (c := s3) f3 (fun x hx => hlt x (by simp [hx]))
      simp only [List.drop, List.take, List.cons.injEq, and_true] at e1
      refine ⟨A, n, c, q, M, m, dd, E, k, g, ⟨za, q, zm, ze⟩, by rw [SA.eq, SM.eq, SE.eq, e1], SA.rd, SM.rd, SE.rd, SA.len, SM.len, SE.len, rfl, ⟨SA.cap, SA.top⟩, ⟨SM.cap, SM.top⟩, ⟨SE.cap, SE.top⟩, hq⟩
end
end Go.Proofs.YtaadhpkpekmfoaaGreat

/- Layer 3: few of the law's package. -/
namespace Go.Proofs.YtaadhpkpekmfoaaGreat
open Go.RowKit Go.Sort

def fewB (n m k : Nat) : Bool := decide (n ≤ 12) && (decide (m ≤ 12) && decide (k ≤ 12))
theorem few_yes {n m k : Nat} (h : fewB n m k = true) : n ≤ 12 ∧ m ≤ 12 ∧ k ≤ 12 := by simpa [fewB] using h
end Go.Proofs.YtaadhpkpekmfoaaGreat

/- Layer 3: the chapter's examples, as mathematics. -/
namespace Go.Proofs.YtaadhpkpekmfoaaGreat
open Go.RowKit Go.Sort

def exA : Au := ⟨[0, 2], 3, [2], [⟨0, 0, 2⟩, ⟨0, 2, 0⟩, ⟨2, 2, 0⟩]⟩
def cnA : Au := ⟨[0, 2], 2, [1], [⟨0, 0, 1⟩, ⟨0, 2, 0⟩, ⟨1, 2, 0⟩]⟩
def rlA : Au := ⟨[1, 3], 2, [1], [⟨0, 1, 0⟩, ⟨0, 3, 1⟩, ⟨1, 1, 0⟩]⟩
theorem ex_chk : chkE exA = 0 := by decide
theorem ex_can : canR exA = (cnA, 0) := by decide
theorem cn_chk : chkE cnA = 0 := by decide
theorem cn_run : runR cnA 0 [0, 0] = (1, 1, 0) := by decide
theorem cn_gen : genO cnA 2 = some [([], 0), ([0], 1), ([2], 0), ([0, 2], 0), ([2, 0], 1), ([2, 2], 0)] := by decide
theorem cn_words : wordsR cnA 2 true = ([[0], [2, 0]], 0) := by
  unfold wordsR
  rw [cn_chk, cn_gen]
  decide
theorem srt_31 : srtI [3, 1] = [1, 3] := by
  refine lt_ext (srtI_lt (by decide)) (by decide) fun x => ?_
  rw [(srtI_perm _).mem_iff]
  simp
  omega
theorem cn_map : cnA.ed.map (relE cnA.al [3, 1]) = [⟨0, 3, 1⟩, ⟨0, 1, 0⟩, ⟨1, 1, 0⟩] := by decide
theorem srt_ed : srtE [⟨0, 3, 1⟩, ⟨0, 1, 0⟩, ⟨1, 1, 0⟩] = [⟨0, 1, 0⟩, ⟨0, 3, 1⟩, ⟨1, 1, 0⟩] :=
  (srtE_eq (l := [⟨0, 3, 1⟩, ⟨0, 1, 0⟩, ⟨1, 1, 0⟩]) (r := [⟨0, 1, 0⟩, ⟨0, 3, 1⟩, ⟨1, 1, 0⟩]) (by unfold KeyD; decide) (List.Perm.swap _ _ _) (by decide)).symm
theorem cn_rel : relR cnA [3, 1] = (rlA, 0) := by
  have h1 : relA cnA [3, 1] = rlA := by
    unfold relA
    rw [srt_31, cn_map, srt_ed]; rfl
  have h2 : canA rlA = rlA := by decide
  unfold relR
  rw [cn_chk, if_neg (by decide), if_neg (by decide), if_neg (by decide), h1, h2]
end Go.Proofs.YtaadhpkpekmfoaaGreat

/- Layer 3: Relabel of the program. -/
namespace Go.Proofs.YtaadhpkpekmfoaaGreat
open Go.RowKit Go.Sort

theorem cell_set4 {w : World} {X b i : Nat} {v0 v1 v2 v3 : Value} (h : b ≠ X) : ((((w.setCell ⟨X, 0, none⟩ v0).setCell ⟨X, 1, none⟩ v1).setCell ⟨X, 2, none⟩ v2).setCell ⟨X, 3, none⟩ v3).cell? ⟨b, i, none⟩ = w.cell? ⟨b, i, none⟩ := by
  have e : ∀ (W : World) j v, (W.setCell ⟨X, j, none⟩ v).cell? ⟨b, i, none⟩ = W.cell? ⟨b, i, none⟩ := fun W j v => World.cell?_of_block (a := ⟨b, i, none⟩) (Below.heap_setCell W ⟨X, j, none⟩ v b h)
  rw [e, e, e, e]

end Go.Proofs.YtaadhpkpekmfoaaGreat
