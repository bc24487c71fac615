/- Texts merged: what follows were texts of their own. -/
import Derived.Test.YtedleffmbddccaaDoorZa8
import Derived.Test.YtedleffmbddccaaDoorZa7
import Derived.RangeFuncBox
import Derived.RangeFuncLeaves
import Derived.Shelf.Abstract
import Derived.OwnWalkIn
import Derived.TacticsInMore
import Derived.LoopNIn
import Derived.LoopIn
import Derived.Maps.AppendAt
import Derived.Test.YtedleffmbddccaaDoorZa3
import Derived.Test.YtedleffmbddccaaDoorZa4
import Derived.Test.YtedleffmbddccaaDoorZa1
import Derived.Test.YtedleffmbddccaaDoorZa2
import Derived.Test.YtedleffmbddccaaDoorZa6
set_option linter.unusedVariables false
set_option linter.unusedSimpArgs false
set_option linter.unusedSectionVars false
/- Layer 6: Step of the reference. -/
namespace Go.Proofs.YtedleffmbddccaaDoor
open Go.RowKit Go.Sort

theorem rfG_app : ∀ (l r : List Au) (i : Nat) (t : List Int) (e : Int), rfG (l ++ r) i t e = rfG l i t e ++ rfG r (i + l.length) t e
  | [], r, i, t, e => by simp [rfG]
  | a :: l, r, i, t, e => by
    rw [List.cons_append, rfG, rfG, rfG_app l r, List.length_cons, List.append_assoc, show i + 1 + l.length = i + (l.length + 1) by omega]
theorem rfG_nil_at {l : List Au} {t : List Int} {e : Int} {k : Nat} {a : Au} (h : rfG l 0 t e = []) (ha : l[k]? = some a) (he : e ∈ a.al) : stepO a (t.getD k 0) e ≠ none := fun hn => by
  have h1 := rf_snoc (t := t) (e := e) ha
  rw [if_pos ⟨he, hn⟩] at h1
  have h2 : rfG l 0 t e = rfG (l.take (k + 1)) 0 t e ++ rfG (l.drop (k + 1)) (0 + (l.take (k + 1)).length) t e := by rw [← rfG_app, List.take_append_drop]
  rw [h, h1] at h2
  simp at h2
theorem stG_take {l : List Au} {k : Nat} {a : Au} {t : List Int} {e : Int} (ha : l[k]? = some a) : stG (l.take (k + 1)) 0 t e = if e ∈ a.al then (stG (l.take k) 0 t e).set k ((stepO a (t.getD k 0) e).getD 0) else stG (l.take k) 0 t e := by
  rw [take_au ha, stG_snoc, Nat.zero_add, List.length_take, Nat.min_eq_left (Nat.le_of_lt (List.getElem?_eq_some_iff.1 ha).1)]
theorem stepI_get {a : Au} {q e : Int} (h : stepO a q e ≠ none) : stepI a q e = (stepO a q e).getD 0 := by
  unfold stepI
  cases hs : stepO a q e with
  | none => exact absurd hs h
  | some t => rfl
theorem stp_ref {l : List Au} {t : List Int} {e : Int} (h : t.length = l.length) : (rfG l 0 t e = [] ∧ stpT l t e = some (stG l 0 t e)) ∨ (rfG l 0 t e ≠ [] ∧ stpT l t e = none) := by
  have hm := rfG_mid l [] t [] e h
  have hg := stG_mid l [] t [] e h
  simp only [List.nil_append, List.length_nil, List.append_nil] at hm hg
  rcases hm with ⟨h1, h2⟩ | ⟨h1, h2⟩
  · exact .inl ⟨h1, by rw [h2, hg]⟩
  · exact .inr ⟨h1, h2⟩
theorem own_lit06 (w : World) : (w.alloc (.cells #[] 3)).ownsRow w.heap.size 3 1 (.slice (some ⟨w.heap.size, 0, none⟩) 0 0) 0 (([] : List Int).map (Value.int .i64)) :=
  World.ownsRow_lit (e := 3) (size := 1) w #[] 0 (Nat.le_refl _) (by unfold maxLen; omega) rfl
theorem own_cell6 {w : World} {base N c : Nat} {A : Option Addr} {zs : List Int} (h : Own w base (.slice A N c) zs) {j : Nat} (hj : j < zs.length) : ∃ g, A = some ⟨g, 0, none⟩ ∧ base ≤ g ∧ g < w.heap.size ∧ w.cell? ⟨g, j, none⟩ = some (.int .i64 (zs.getD j 0)) := by
  obtain ⟨g, cap, e, hg, hc, _, _⟩ := own_shape h rfl (by omega)
  injection e with e1 _ _
  subst e1
  exact ⟨g, rfl, (h.lt g rfl).1, hg, hc j hj⟩
theorem setf {w : World} {b o g k : Nat} {v u : Value} (h : w.cell? ⟨b, o, none⟩ = some v) (hne : b ≠ g) : (w.setCell ⟨g, k, none⟩ u).cell? ⟨b, o, none⟩ = some v := (World.cell?_of_block (a := ⟨b, o, none⟩) (Below.heap_setCell w ⟨g, k, none⟩ u b hne)).trans h
theorem own_set {w : World} {B n c g : Nat} {zs : List Int} {k : Nat} {x : Int} (h : Own w B (.slice (some ⟨g, 0, none⟩) n c) zs) (hl : zs.length = n) : Own (w.setCell ⟨g, k, none⟩ (.int .i64 x)) B (.slice (some ⟨g, 0, none⟩) n c) (zs.set k x) ∧ w.grownBy (w.setCell ⟨g, k, none⟩ (.int .i64 x)) (some g) := by
  subst hl
  have := World.ownsRow.stored (e := 3) (size := 1) (cap := c) h k (.int .i64 x)
  refine ⟨?_, this.2⟩
  show World.ownsRow _ _ _ _ _ (zs.set k x).length ((zs.set k x).map (Value.int .i64))
  rw [List.map_set, List.length_set]; exact this.1

set_option maxHeartbeats 8000000 in
set_option maxRecDepth 100000 in
theorem r6Step_any (A : Option Addr) (n c : Nat) (l : List Au) (A2 : Option Addr) (d : Nat) (t : List Int) (ev : Int) (w : World) (h : RdAs w w.heap.size A l) (hn : l.length = n) (hnb : n ≤ 1000) (h2 : RdI w w.heap.size A2 t) (hm : t.length = n) (hr : ∀ a ∈ l, RightW a) :
    Calls Tryd.prog 35 #[.slice A n c, .slice A2 n d, .int .i64 ev] w (GivesI6 w (stpT l t ev)) := by
  have HRf := Lib.hid (r6Refusers_any A n c l A2 d t ev w h hn hnb h2 hm hr)
  have HPS := Lib.hid (stp_ref (l := l) (t := t) (e := ev) (by rw [hm, hn]))
  have HNA := Lib.hid (fun (k : Nat) (a : Au) (h0 : rfG l 0 t ev = []) (ha : l[k]? = some a) (he : ev ∈ a.al) => stepI_get (rfG_nil_at h0 ha he))
  have HL := Lib.hid h
  have HN := Lib.hid hn
  have HT := Lib.hid h2
  have HM := Lib.hid hm
  have HRI := Lib.hid hr
  obtain ⟨R, hR⟩ : ∃ R, R = stpT l t ev := ⟨_, rfl⟩
  have HR := Lib.hid hR
  rw [← hR]
  clear h hn h2 hm hr hR
  go_enter Tryd.func35, Tryd.ntmps35
  go_wp2_with fail
  refine HRf.out.mono ?_
  rintro e w1 ⟨Ax, cx, rfl, _, hb1⟩
  obtain ⟨lr, hlr⟩ : ∃ lr, lr = (rfG l 0 t ev).length := ⟨_, rfl⟩
  rw [← hlr]
  have HB1 := Lib.hid hb1
  have HLR := Lib.hid hlr
  clear hb1 hlr HRf
  by_cases h0 : lr = 0
  · have hnil : rfG l 0 t ev = [] := List.eq_nil_of_length_eq_zero (by rw [← HLR.out, h0])
    have HRV := Lib.hid (show R = some (stG l 0 t ev) by
      rcases HPS.out with ⟨_, h1⟩ | ⟨h1, _⟩
      · rw [HR.out, h1]
      · exact absurd hnil h1)
    have HNI := Lib.hid hnil
    subst h0
    clear hnil
    have HTa := Lib.hid (((HT.out.below HB1.out (Nat.le_refl _)).more HB1.out.size).below ((Below.refl w1.heap.size w1).alloc (Nat.le_refl _) (.cells #[] 3)) (Nat.le_refl _))
    go_wp2_with (first | (at_builtin; refine wpList_app_rd rfl (.tmp 16) (.tmp 17) rfl w1.heap.size (.slice (some ⟨w1.heap.size, 0, none⟩) 0 0) 0 [] rfl (own_lit06 w1) w1.heap.size A2 n d t rfl HTa.out HM.out (by unfold maxLen; omega) (by omega) (by simp) ?_; intro v3 w3 hown3 hgrow3))
    have HO3 := Lib.hid (show Own w3 w1.heap.size v3 t by unfold Own; rw [HM.out]; simpa using hown3)
    have HB3 := Lib.hid (show Below w1.heap.size w1 w3 from ((Below.refl w1.heap.size w1).alloc (Nat.le_refl _) (.cells #[] 3)).grown hgrow3 (by simp) (fun k hk => by cases hk; exact Nat.le_refl _))
    clear hown3 hgrow3 HTa
    obtain ⟨A3, c3, hv3, hrd3, hc31, hc32⟩ := own_rdc HO3.out
    rw [HM.out] at hv3 hc31
    subst hv3
    have HO0 := Lib.hid (show Own w3 w1.heap.size (.slice A3 n c3) (stG (l.take 0) 0 t ev) from HO3.out)
    have HB03 := Lib.hid (HB1.out.trans (HB3.out.mono HB1.out.size))
    clear hrd3 HO3
    go_wp2_with fail
    go_loopw [9] (fun i wr => ∃ k : Nat, k ≤ n ∧ i = .int .i64 k ∧ Hid (Own wr w1.heap.size (.slice A3 n c3) (stG (l.take k) 0 t ev)) ∧ Hid (Below w1.heap.size w1 wr)) (fun i _ => n - (intOf i).toNat)
    case atStart => exact ⟨0, Nat.zero_le _, rfl, HO0, HB3⟩
    case round =>
      clear HO0 HB3
      obtain ⟨k, hkn, rfl, hown, hbel1⟩ := hrel
      have hbel := Lib.hid (HB1.out.trans (hbel1.out.mono HB1.out.size))
      have hst : (stG (l.take k) 0 t ev).length = n := by rw [stG_len]; exact HM.out
      by_cases hlt : k < n
      · obtain ⟨a, ha⟩ : ∃ a, l[k]? = some a := ⟨_, List.getElem?_eq_getElem (by rw [HN.out]; exact hlt)⟩
        obtain ⟨b, o, rfl, hb, hc⟩ := HL.out (by rw [HN.out]; omega)
        obtain ⟨A1, n1, c1, s1, M1, m1, d1, E1, k1, g1, h0, h1, h2, h3, hr⟩ := hc k a ha
        obtain ⟨b2, o2, rfl, hb2, hc2⟩ := HT.out (by rw [HM.out]; omega)
        obtain ⟨q, hq⟩ : ∃ q, q = t.getD k 0 := ⟨_, rfl⟩
        have hcq := hc2 k (by rw [HM.out]; exact hlt)
        rw [← hq] at hcq
        have HSf := Lib.hid (fun wx (hw : Below w.heap.size w wx) => (⟨(hw.cell (p := ⟨b, o + k * 4, none⟩) hb).trans h0, (hw.cell (p := ⟨b, o + k * 4 + 1, none⟩) hb).trans h1, (hw.cell (p := ⟨b, o + k * 4 + 2, none⟩) hb).trans h2, (hw.cell (p := ⟨b, o + k * 4 + 3, none⟩) hb).trans h3, (hw.cell (p := ⟨b2, o2 + k, none⟩) hb2).trans hcq, hw⟩ : RfS w b (o + k * 4) A1 n1 c1 s1 M1 m1 d1 E1 k1 g1 b2 (o2 + k) q wx))
        have HS := stG_take (t := t) (e := ev) ha
        rw [← hq] at HS
        have HS := Lib.hid HS
        have HAu := Lib.hid (fun wx (hw : Below w.heap.size w wx) => (hr.below hw (Nat.le_refl _)).more hw.size)
        have hbn := hr.bn
        have HCo := Lib.hid (fun wx (hw : Below w.heap.size w wx) => r1Has_any A1 n1 c1 wx.heap.size a.al ev wx (HAu.out wx hw).al hr.hn (by omega))
        have HNe := Lib.hid (fun wx (hw : Below w.heap.size w wx) => r6Next_any A1 n1 c1 s1 M1 m1 d1 E1 k1 g1 a q ev wx.heap.size wx (HAu.out wx hw) (Nat.le_refl _))
        have HGet := Lib.hid (fun (he : ev ∈ a.al) => HNA.out k a HNI.out ha he)
        rw [← hq] at HGet
        obtain ⟨r1, hr1⟩ : ∃ r1, r1 = decide (ev ∈ a.al) := ⟨_, rfl⟩
        obtain ⟨nx, hnx⟩ : ∃ nx, nx = stepI a q ev := ⟨_, rfl⟩
        rw [← hr1] at HCo
        rw [← hnx] at HNe HGet
        obtain ⟨g3, rfl, hg3a, hg3b, hc3⟩ := own_cell6 hown.out (j := k) (by rw [hst]; exact hlt)
        have w0 : (k : Int) < (n : Int) := by omega
        have w1' : (0 : Int) ≤ (k : Int) := by omega
        obtain ⟨p0, p1, p2, p3, pq, _⟩ := HSf.out wr hbel.out
        have HR1 := Lib.hid hr1
        clear h0 h1 h2 h3 hc hc2 ha hr hcq hq hr1 hnx hst hc3
        go_wp2_with fail
        refine (HCo.out _ hbel.out).mono ?_
        rintro e w4 ⟨rfl, rfl⟩
        have hz := hbel1.out.size
        have hst2 := Lib.hid (show (stG (l.take k) 0 t ev).length = n by rw [stG_len]; exact HM.out)
        cases r1
        · have hna := Lib.hid (show stG (l.take (k + 1)) 0 t ev = stG (l.take k) 0 t ev by rw [HS.out, if_neg (fun hh => by have := HR1.out; rw [decide_eq_true hh] at this; cases this)])
          go_wp2_with fail
          go_roundw
          case rel => exact ⟨k + 1, by omega, by go_num, by rw [hna.out]; exact hown, hbel1⟩
          case measure => simp [intOf] <;> omega
        · have hin : ev ∈ a.al := by have := HR1.out; simpa using this.symm
          have hna := Lib.hid (show stG (l.take (k + 1)) 0 t ev = (stG (l.take k) 0 t ev).set k nx by rw [HS.out, if_pos hin, HGet.out hin])
          have hbd := Lib.hid hbel.out.drew
          have ne1 : b ≠ g3 := by have := HB1.out.size; omega
          have ne2 : b2 ≠ g3 := by have := HB1.out.size; omega
          clear hin
          go_wp2_with fail
          go_region_held3 (fun w' => w'.cell? ⟨b, o + k * 4, none⟩ = some (.slice A1 n1 c1) ∧ w'.cell? ⟨b, o + k * 4 + 1, none⟩ = some (.int .i64 s1) ∧ w'.cell? ⟨b, o + k * 4 + 2, none⟩ = some (.slice M1 m1 d1) ∧ w'.cell? ⟨b, o + k * 4 + 3, none⟩ = some (.slice E1 k1 g1) ∧ w'.cell? ⟨b2, o2 + k, none⟩ = some (.int .i64 q)) (first | with_reducible exact ⟨p0, p1, p2, p3, pq⟩ | with_reducible exact ⟨setf p0 ne1, setf p1 ne1, setf p2 ne1, setf p3 ne1, setf pq ne2⟩ | go_keep)
            (first
            | (go_simp; go_at_call 63; (first | with_reducible refine (HNe.out _ hbel.out).mono ?_ | with_reducible refine (HNe.out _ hbd.out).mono ?_); rintro e w5 ⟨rfl, hb5⟩
               have HB5 := Lib.hid (by first | exact hb5 | exact (Below.refl wr.heap.size wr).drew.trans hb5 : Below wr.heap.size wr w5)
               have HO5 := Lib.hid (own_below hown.out HB5.out)
               obtain ⟨p0, p1, p2, p3, pq, _⟩ := HSf.out w5 (hbel.out.trans (HB5.out.mono hbel.out.size))
               have f5 := World.ownsRow.frozenAt (w := w5) (base := w1.heap.size) (e := 3) (size := 1) (g := g3) (n := n) (cap := c3) (xs := (stG (l.take k) 0 t ev).map (Value.int .i64)) (by have := HO5.out; unfold Own at this; rwa [hst2.out] at this) k
               obtain ⟨g3', e3', _, _, hc5⟩ := own_cell6 HO5.out (j := k) (by rw [hst2.out]; exact hlt)
               injection e3' with e3'
               injection e3' with e3' _ _
               subst e3'
               clear hb5))
          all_goals
            go_wp2_with fail
            go_roundw
            case rel => exact ⟨k + 1, by omega, by go_num, by rw [hna.out]; first | exact Lib.hid (own_set HO5.out hst2.out).1 | exact Lib.hid (own_dr (own_set HO5.out hst2.out).1 1), by first | exact Lib.hid ((hbel1.out.trans (HB5.out.mono hz)).grown (own_set HO5.out hst2.out).2 (by have := HB5.out.size; omega) (fun j hj => by cases hj; exact hg3a)) | exact Lib.hid (((hbel1.out.trans (HB5.out.mono hz)).grown (own_set HO5.out hst2.out).2 (by have := HB5.out.size; omega) (fun j hj => by cases hj; exact hg3a))).drew⟩
            case measure => simp [intOf] <;> omega
      · obtain rfl : k = n := by omega
        have HF := Lib.hid (show Own wr w1.heap.size (.slice A3 k c3) (stG l 0 t ev) by have := hown.out; rwa [List.take_of_length_le (by rw [HN.out]; exact Nat.le_refl _)] at this)
        clear hown
        go_wp2_with fail
        go_ret2
        exact ⟨A3, c3, by rw [HRV.out, Option.getD_some, stG_len, HM.out]; rfl, by rw [HRV.out, Option.getD_some, stG_len, HM.out]; exact own_more HF.out HB1.out.size, hbel.out⟩
  · have HRV := Lib.hid (show R = none by
      rcases HPS.out with ⟨h1, _⟩ | ⟨_, h1⟩
      · exact absurd (by rw [HLR.out, h1]; rfl) h0
      · rw [HR.out, h1])
    have hb0 : (0 : Int) < (lr : Int) := by omega
    go_wp2_with fail
    go_ret2
    exact ⟨none, 0, by rw [HRV.out]; rfl, by rw [HRV.out]; exact World.ownsRow_nil _ _ _ _, HB1.out⟩
end Go.Proofs.YtedleffmbddccaaDoor

/- Layer 6: what the loops of the reference's Synchronous keep. -/
namespace Go.Proofs.YtedleffmbddccaaDoor
open Go.RowKit Go.Sort Go.Maps

theorem own_poke {w : World} {base n sz bc j : Nat} {e : TypeId} {v u : Value} {xs cs : List Value} (h : w.ownsRow base e sz v n xs) (hb : Row w bc 34 cs) (he : 34 ≠ e) : (w.setCell ⟨bc, j, none⟩ u).ownsRow base e sz v n xs :=
  ownsRow_setCell_other h (row_ne_own hb h he) u
/-- What the loops keep: the automaton's box, its edges and marked states, the tuples. -/
structure RS (w wr : World) (bc : Nat) (va ve : Value) (es : List Ed) (vm : Value) (ms : List Int) (vt : Value) (hs : List Hd) : Prop where
  bel : Below w.heap.size w wr
  bx : Row wr bc 34 [va, .int .i64 0, vm, ve]
  hb : w.heap.size ≤ bc
  eo : OwnE wr w.heap.size ve es
  gl : GL wr w.heap.size vt hs vm ms
section
variable {w wr w0 w1 w' : World} {bc n : Nat} {va ve ve' vm vm' vt vt' : Value} {ms : List Int} {es : List Ed} {hs : List Hd}
theorem RS.call (h : RS w wr bc va ve es vm ms vt hs) (hb : Below wr.heap.size wr w') : RS w w' bc va ve es vm ms vt hs :=
  ⟨h.bel.trans (hb.mono h.bel.size), h.bx.below hb h.bx.lt, h.hb, own_below h.eo hb, h.gl.below hb⟩
theorem RS.alloc (h : RS w wr bc va ve es vm ms vt hs) (o : Obj) : RS w (wr.alloc o) bc va ve es vm ms vt hs := h.call ((Below.refl _ wr).alloc (Nat.le_refl _) o)
theorem RS.drew (h : RS w wr bc va ve es vm ms vt hs) : RS w wr.drew bc va ve es vm ms vt hs := h.call (Below.refl _ _).drew
theorem RS.drewN (h : RS w wr bc va ve es vm ms vt hs) (q : Nat) : RS w (wr.drewN q) bc va ve es vm ms vt hs := h.call (below_drewN (Below.refl _ _) q)
theorem RS.belG {row : Option Nat} {w2 w3 : World} (hb : Below w.heap.size w w2) (hg : w2.grownBy w3 row) (hr : ∀ k, row = some k → w.heap.size ≤ k) : Below w.heap.size w w3 :=
  ⟨hg.os.trans hb.os, hg.tape.trans hb.tape, hg.output.trans hb.output, Nat.le_trans hb.size hg.size, fun k hk => (hg.block k (Nat.lt_of_lt_of_le hk hb.size) (fun e => by have := hr k e.symm; omega)).trans (hb.block k hk)⟩
/-- A tuple in new memory is appended. -/
theorem RS.word {x : Hd} (h : RS w wr bc va ve es vm ms vt hs) (hb : Below wr.heap.size wr w0) (hx : Own w0 wr.heap.size x.enc x.z)
    (hr : w1.ownsRow w.heap.size 27 1 vt' n (hs.map Hd.enc ++ [x.enc])) (hn : n = hs.length + 1) (hg : w0.grownBy w1 vt.ownBlock) : RS w w1 bc va ve es vm ms vt' (hs ++ [x]) := by
  have h0 := h.call hb
  exact ⟨RS.belG h0.bel hg (fun k e => (h0.gl.row.lt k e).1), h0.bx.gr hg (fun e => row_ne_own h0.bx h0.gl.row (by decide) e.symm), h.hb,
    own_row h0.eo hg (owns_ne h0.eo h0.gl.row (by decide)), h.gl.word hb hx h.bel.size hr hn hg⟩
/-- A marked state is appended. -/
theorem RS.mark {o : Obj} {x : Int} (h : RS w wr bc va ve es vm ms vt hs) (ho : Own w1 w.heap.size vm' (ms ++ [x])) (hg : (wr.alloc o).grownBy w1 vm.ownBlock) (hs' : ∀ j, vm'.ownBlock = some j → vm.ownBlock = some j ∨ wr.heap.size ≤ j) :
    RS w (w1.setCell ⟨bc, 2, none⟩ vm') bc va ve es vm' (ms ++ [x]) vt hs := by
  have h0 := h.alloc o
  have hbx : Row w1 bc 34 [va, .int .i64 0, vm, ve] := h0.bx.gr hg (fun e => row_ne_own h0.bx h0.gl.ends (by decide) e.symm)
  have gl1 : GL w1 w.heap.size vt hs vm' (ms ++ [x]) := by
    refine ⟨own_row h0.gl.row hg (owns_ne h0.gl.row h0.gl.ends (by decide)), fun y hy => own_row (h0.gl.own y hy) hg (h0.gl.ne y hy), ho, fun y hy => ?_⟩
    by_cases he : y.enc.ownBlock = none
    · exact .inl he
    · refine .inr fun e => ?_
      obtain ⟨j, hj⟩ := Option.ne_none_iff_exists'.1 he
      have h1 := ((h.gl.own y hy).lt j hj).2
      rcases hs' j (by rw [← e, hj]) with h2 | h2
      · rcases h.gl.ne y hy with h3 | h3
        · exact he h3
        · exact h3 (by rw [hj, h2])
      · omega
  have e1 : OwnE w1 w.heap.size ve es := own_row h0.eo hg (owns_ne h0.eo h0.gl.ends (by decide))
  exact ⟨Below.setCell (p := ⟨bc, 2, none⟩) (RS.belG h0.bel hg (fun k e => (h0.gl.ends.lt k e).1)) h.hb _, hbx.set 2 _, h.hb, own_poke e1 hbx (by decide),
    ⟨own_poke gl1.row hbx (by decide), fun y hy => own_poke (gl1.own y hy) hbx (by decide), own_poke gl1.ends hbx (by decide), gl1.ne⟩⟩
/-- An edge is appended. -/
theorem RS.edge {o : Obj} {x : Ed} (h : RS w wr bc va ve es vm ms vt hs) (ho : OwnE w1 w.heap.size ve' (es ++ [x])) (hg : (wr.alloc o).grownBy w1 ve.ownBlock) :
    RS w (w1.setCell ⟨bc, 3, none⟩ ve') bc va ve' (es ++ [x]) vm ms vt hs := by
  have h0 := h.alloc o
  have hbx : Row w1 bc 34 [va, .int .i64 0, vm, ve] := h0.bx.gr hg (fun e => row_ne_own h0.bx h0.eo (by decide) e.symm)
  have gl1 : GL w1 w.heap.size vt hs vm ms :=
    ⟨own_row h0.gl.row hg (owns_ne h0.gl.row h0.eo (by decide)), fun y hy => own_row (h0.gl.own y hy) hg (owns_ne (h0.gl.own y hy) h0.eo (by decide)), own_row h0.gl.ends hg (owns_ne h0.gl.ends h0.eo (by decide)), h0.gl.ne⟩
  exact ⟨Below.setCell (p := ⟨bc, 3, none⟩) (RS.belG h0.bel hg (fun k e => (h0.eo.lt k e).1)) h.hb _, hbx.set 3 _, h.hb, own_poke ho hbx (by decide),
    ⟨own_poke gl1.row hbx (by decide), fun y hy => own_poke (gl1.own y hy) hbx (by decide), own_poke gl1.ends hbx (by decide), gl1.ne⟩⟩
theorem RS.rdw {N : Nat} (h : RS w wr bc va ve es vm ms vt hs) (hN : hs.length = N) (h0 : 0 < N) : ∃ g cap, vt = .slice (some ⟨g, 0, none⟩) N cap ∧ RdW wr wr.heap.size (some ⟨g, 0, none⟩) (hs.map Hd.z) := by
  obtain ⟨g, cap, e, h1, h2, h3⟩ := h.gl.len hN h0
  refine ⟨g, cap, e, fun _ => ⟨g, 0, rfl, (h.gl.row.lt g (by rw [e]; rfl)).2, fun j hj => ?_⟩⟩
  have hj' : j < hs.length := by simpa using hj
  obtain ⟨r1, r2, r3⟩ := h.gl.word_rd (List.getElem?_eq_getElem hj')
  have h4 := h3 j _ (List.getElem?_eq_getElem hj')
  have e2 : (hs.map Hd.z).getD j [] = hs[j].z := by simp [List.getD, hj']
  rw [e2]
  exact ⟨hs[j].A, hs[j].c, by rw [Nat.zero_add]; exact h4, r1, r2, r3⟩
end
/-- What the reference hands back: an automaton and its tuples. -/
def GivesS2 (w : World) (r : Au) (ts : List (List Int)) (e : Ending) (w' : World) : Prop :=
  ∃ v vt hs, e = .returned (.tuple #[v, vt]) ∧ AuF r v w' w.heap.size ∧ TL w' w.heap.size vt hs ∧ hs.map Hd.z = ts ∧ Below w.heap.size w w'
end Go.Proofs.YtedleffmbddccaaDoor

/- Layer 6: Synchronous of the reference, walked. -/
namespace Go.Proofs.YtedleffmbddccaaDoor
open Go.RowKit Go.Sort Go.Maps

theorem rep_dc {l : List Au} : List.replicate l.length (0 : Int) = dcT (stsT l) 0 := by
  rw [dc_zero, stsT, List.map_map, eq_comm, List.eq_replicate_iff]
  exact ⟨by simp, fun b hb => by obtain ⟨a, _, rfl⟩ := List.mem_map.1 hb; rfl⟩
theorem dc_inj {l : List Au} (hp : posT l = true) {x y : Int} (hx : 0 ≤ x ∧ x < prT (stsT l)) (hy : 0 ≤ y ∧ y < prT (stsT l)) (h : dcT (stsT l) x = dcT (stsT l) y) : x = y := by
  rw [← cd_dc (posT_iff.1 hp) hx.1 hx.2, h, cd_dc (posT_iff.1 hp) hy.1 hy.2]
/-- A step of the tuples is an edge of their numbers. -/
theorem link2 {l : List Au} (h : ∀ a ∈ l, RightW a) (hp : posT l = true) {q e : Int} (hq : 0 ≤ q ∧ q < (prodA l).st) (he : e ∈ alT l) :
    (∃ t, stpT l (dcT (stsT l) q) e = some (dcT (stsT l) t) ∧ edgeO (prodA l).ed q e = some ⟨q, e, t⟩ ∧ (0 ≤ t ∧ t < (prodA l).st)) ∨ (stpT l (dcT (stsT l) q) e = none ∧ edgeO (prodA l).ed q e = none) := by
  have hpos := posT_iff.1 hp
  rw [prod_st hp] at hq ⊢
  have hcd := cd_dc hpos hq.1 hq.2
  have hin := dc_in q hpos
  have hs := prod_step h hp hin he
  rw [hcd] at hs
  cases hR : stpT l (dcT (stsT l) q) e with
  | none =>
    rw [hR] at hs
    refine .inr ⟨rfl, ?_⟩
    cases hx : edgeO (prodA l).ed q e with
    | none => rfl
    | some x => rw [stepO, hx] at hs; cases hs
  | some ts =>
    rw [hR] at hs
    have hti := stp_in h hin hR
    refine .inl ⟨cdT (stsT l) ts, by rw [dc_cd hti], ?_, cd_range hti⟩
    cases hx : edgeO (prodA l).ed q e with
    | none => rw [stepO, hx] at hs; cases hs
    | some x =>
      obtain ⟨_, h3, h4⟩ := (edgeO_some (prod_right h).edo).1 hx
      rw [stepO, hx] at hs
      obtain ⟨xf, xe, xt⟩ := x
      simp only [Option.map_some, Option.some.injEq] at hs h3 h4
      rw [hs, h3, h4]
theorem fnd6_map {l : List Au} (hp : posT l = true) {fl : List Int} (hf : ∀ y ∈ fl, 0 ≤ y ∧ y < prT (stsT l)) {t : Int} (ht : 0 ≤ t ∧ t < prT (stsT l)) :
    fnd6 (fl.map (dcT (stsT l))) (dcT (stsT l) t) = if t ∈ fl then (fl.idxOf t : Int) else -1 := by
  have hinj : ∀ y ∈ fl, dcT (stsT l) y = dcT (stsT l) t → y = t := fun y hy e => dc_inj hp (hf y hy) ht e
  have hm : dcT (stsT l) t ∈ fl.map (dcT (stsT l)) ↔ t ∈ fl := by
    constructor
    · intro hh; obtain ⟨y, hy, e⟩ := List.mem_map.1 hh; rw [← hinj y hy e]; exact hy
    · intro hh; exact List.mem_map.2 ⟨t, hh, rfl⟩
  unfold fnd6
  by_cases hx : t ∈ fl
  · rw [if_pos (hm.2 hx), if_pos hx, idxOf_map_inj hinj]
  · rw [if_neg (fun hh => hx (hm.1 hh)), if_neg hx]
theorem RS.start {w1 w3 : World} {B m ca : Nat} {Aa A3 : Option Addr} {c3 : Nat} {zz : List Int} (hb3 : Below (w1.alloc (.cells #[.slice Aa m ca, .int .i64 0, .slice none 0 0, .slice none 0 0] 34)).heap.size (w1.alloc (.cells #[.slice Aa m ca, .int .i64 0, .slice none 0 0, .slice none 0 0] 34)) w3)
    (hB : w1.heap.size ≤ B) (ho : Own w3 B (.slice A3 zz.length c3) zz) :
    RS w1 (w3.alloc (.cells #[.slice A3 zz.length c3] 27)) w1.heap.size (.slice Aa m ca) (.slice none 0 0) [] (.slice none 0 0) [] (.slice (some ⟨w3.heap.size, 0, none⟩) 1 1) [⟨A3, c3, zz⟩] := by
  have hz := hb3.size
  simp only [World.size_alloc] at hz
  refine ⟨(((Below.refl w1.heap.size w1).alloc (Nat.le_refl _) _).trans (hb3.mono (by simp))).alloc (by omega) _, ((Row.new w1 [.slice Aa m ca, .int .i64 0, .slice none 0 0, .slice none 0 0] 34).below hb3 (by simp)).alloc _, Nat.le_refl _, World.ownsRow_nil _ _ _ _, ?_, ?_, World.ownsRow_nil _ _ _ _, ?_⟩
  · have := World.ownsRow_lit (e := 27) (size := 1) w3 #[.slice A3 zz.length c3] 1 (Nat.le_refl _) (by unfold maxLen; omega) rfl
    exact own_more this (by omega)
  · intro y hy
    rw [List.mem_singleton] at hy; subst hy
    exact own_more (ho.alloc _) hB
  · intro y hy
    by_cases he : y.enc.ownBlock = none
    · exact .inl he
    · exact .inr (by simpa [Value.ownBlock] using he)
end Go.Proofs.YtedleffmbddccaaDoor

/- Layer 3: slices.Sorted(slices.Values(l)): the numbers of a list in increasing order, in new memory. -/
namespace Go.Proofs.YtedleffmbddccaaDoor
open Go.RowKit Go.Shelf

attribute [local go_sem] Oper.semAt_some

def uptoF {α : Type} (f : Nat → α) (k : Nat) : List α := (List.range k).map f
theorem uptoF_succ {α : Type} (f : Nat → α) (k : Nat) : uptoF f (k + 1) = uptoF f k ++ [f k] := by simp [uptoF, List.range_succ]
theorem uptoF_length {α : Type} (f : Nat → α) (k : Nat) : (uptoF f k).length = k := by simp [uptoF]
theorem uptoF_all (zs : List Int) : uptoF (fun j => zs[j]?.getD 0) zs.length = zs := by
  apply List.ext_getElem
  · simp [uptoF]
  · intro i h1 h2
    simp [uptoF, h2]
theorem uptoF_take (zs : List Int) {k : Nat} (hk : k ≤ zs.length) : uptoF (fun j => zs[j]?.getD 0) k = zs.take k := by
  apply List.ext_getElem
  · simp [uptoF, hk]
  · intro i h1 h2
    have : i < zs.length := by simp [uptoF] at h1; omega
    simp [uptoF, this]

end Go.Proofs.YtedleffmbddccaaDoor

/- Layer 3: slices.Sorted, checkNewEvents, slices.SortFunc of edges. -/
namespace Go.Proofs.YtedleffmbddccaaDoor
open Go.RowKit Go.Sort

theorem idx_none {zs : List Int} {x : Int} {k : Nat} (hk : k = zs.length) (h : x ∉ zs.take k) : x ∉ zs := by
  rwa [List.take_of_length_le (by omega)] at h
/-- The first error of a list of new events. -/
def neGo : List Int → List Int → Int
  | _, [] => 0
  | seen, x :: r => if x < 0 ∨ 32 ≤ x then 2 else if x ∈ seen then 8 else neGo (seen ++ [x]) r
def neE (zs : List Int) : Int := neGo [] zs
theorem ne_range {zs : List Int} {k : Nat} {v : Int} (h : k < zs.length) (hv : neGo (zs.take k) (zs.drop k) = v) (hx : zs.getD k 0 < 0 ∨ 32 ≤ zs.getD k 0) : v = 2 := by
  rw [← hv, drop_step zs k h, neGo, if_pos hx]
theorem ne_dup {zs : List Int} {k : Nat} {v : Int} (h : k < zs.length) (hv : neGo (zs.take k) (zs.drop k) = v) (hx : ¬ (zs.getD k 0 < 0 ∨ 32 ≤ zs.getD k 0)) (hm : zs.getD k 0 ∈ zs.take k) : v = 8 := by
  rw [← hv, drop_step zs k h, neGo, if_neg hx, if_pos hm]
theorem ne_next {zs : List Int} {k : Nat} {v : Int} (h : k < zs.length) (hv : neGo (zs.take k) (zs.drop k) = v) (hx : ¬ (zs.getD k 0 < 0 ∨ 32 ≤ zs.getD k 0)) (hm : zs.getD k 0 ∉ zs.take k) : neGo (zs.take (k + 1)) (zs.drop (k + 1)) = v := by
  rw [← hv, drop_step zs k h, neGo, if_neg hx, if_neg hm]
  congr 1
  rw [List.take_succ_eq_append_getElem h]; simp [List.getD, List.getElem?_eq_getElem h]
theorem ne_end {zs : List Int} {k : Nat} {v : Int} (hk : k = zs.length) (hv : neGo (zs.take k) (zs.drop k) = v) : v = 0 := by
  rw [← hv, hk, List.drop_of_length_le (Nat.le_refl _), neGo]

theorem grown_sort {α : Type} [Inhabited α] (enc : α → Value) (w : World) (blk off m : Nat) (dk : Array α) (os : Array Obj) : w.grownBy (Go.Sort.grow (putRow enc (Go.Sort.ahead w m) blk off dk) os) (some blk) := by
  refine ⟨rfl, rfl, rfl, by simp, fun k hk hne => ?_⟩
  rw [heap_grow_old _ _ (by simpa using hk)]
  have hne' : blk ≠ k := fun e => hne (by rw [e])
  simp only [putRow, mapBlock, Array.getElem?_modify, if_neg hne']
  rfl
instance : Inhabited Ed := ⟨⟨0, 0, 0⟩⟩
def encEd (x : Ed) : List Value := [.int .i64 x.f, .int .i64 x.e, .int .i64 x.t]
end Go.Proofs.YtedleffmbddccaaDoor

/- Layer 3, the mathematics of relabelling. -/
namespace Go.Proofs.YtedleffmbddccaaDoor
open Go.RowKit Go.Sort

/-- An edge with its event replaced. -/
def relE (al tl : List Int) (x : Ed) : Ed := ⟨x.f, tl.getD (al.idxOf x.e) 0, x.t⟩
/-- Edges in increasing order. -/
def srtE (l : List Ed) : List Ed := l.mergeSort fun x y => !decide (ltE y x)
theorem srtE_perm (l : List Ed) : (srtE l).Perm l := List.mergeSort_perm l _
theorem srtE_sorted (l : List Ed) : (srtE l).Pairwise fun x y => ¬ ltE y x := by
  have := List.pairwise_mergeSort (le := fun x y : Ed => !decide (ltE y x)) (fun x y z h1 h2 => by simp at *; unfold ltE at *; omega) (fun x y => by simp; unfold ltE; omega) l
  exact this.imp fun h => by simpa using h
/-- No two edges have one state and one event. -/
def KeyD (l : List Ed) : Prop := l.Pairwise fun x y => ¬ (x.f = y.f ∧ x.e = y.e)
theorem keyD_perm {l r : List Ed} (h : KeyD l) (hp : r.Perm l) : KeyD r :=
  (hp.pairwise_iff (R := fun x y : Ed => ¬ (x.f = y.f ∧ x.e = y.e)) (fun {x y} h h' => h ⟨h'.1.symm, h'.2.symm⟩)).2 h
theorem strict_of {l : List Ed} (h : l.Pairwise fun x y => ¬ ltE y x) (hk : KeyD l) : l.Pairwise ltE := by
  refine (h.and hk).imp fun h => ?_
  obtain ⟨h1, h2⟩ := h
  unfold ltE at *; omega
theorem srtE_eq {l r : List Ed} (hk : KeyD l) (hp : r.Perm l) (hs : r.Pairwise fun x y => ¬ ltE y x) : r = srtE l :=
  sorted_ext (r := ltE) ltE_irrefl (fun x y z => ltE_trans) _ _ (strict_of hs (keyD_perm hk hp)) (strict_of (srtE_sorted l) (keyD_perm hk (srtE_perm l))) fun x => by rw [hp.mem_iff, (srtE_perm l).mem_iff]
/-- The automaton with other events, ahead of its canonical form. -/
def relA (a : Au) (tl : List Int) : Au := ⟨srtI tl, a.st, a.mr, srtE (a.ed.map (relE a.al tl))⟩
theorem neGo_ok : ∀ (zs seen : List Int), neGo seen zs = 0 → (∀ x ∈ zs, 0 ≤ x ∧ x < 32) ∧ zs.Nodup ∧ ∀ x ∈ zs, x ∉ seen
  | [], seen, _ => ⟨by simp, List.nodup_nil, by simp⟩
  | x :: r, seen, h => by
    rw [neGo] at h
    by_cases h1 : x < 0 ∨ 32 ≤ x
    · rw [if_pos h1] at h; omega
    · rw [if_neg h1] at h
      by_cases h2 : x ∈ seen
      · rw [if_pos h2] at h; omega
      · rw [if_neg h2] at h
        obtain ⟨a, b, c⟩ := neGo_ok r (seen ++ [x]) h
        refine ⟨fun y hy => ?_, ?_, fun y hy => ?_⟩
        · rcases List.mem_cons.1 hy with rfl | hy
          · omega
          · exact a y hy
        · rw [List.nodup_cons]
          exact ⟨fun hm => c x hm (by simp), b⟩
        · rcases List.mem_cons.1 hy with rfl | hy
          · exact h2
          · exact fun hm => c y hy (by simp [hm])
theorem neE_ok {zs : List Int} (h : neE zs = 0) : (∀ x ∈ zs, 0 ≤ x ∧ x < 32) ∧ zs.Nodup := ⟨(neGo_ok zs [] h).1, (neGo_ok zs [] h).2.1⟩
theorem getD_inj {zs : List Int} (hd : zs.Nodup) {i j : Nat} (hi : i < zs.length) (hj : j < zs.length) (h : zs.getD i 0 = zs.getD j 0) : i = j := by
  rw [← idxOf_getD hd hi, h, idxOf_getD hd hj]
theorem rel_keys {a : Au} (h : RightW a) {tl : List Int} (hl : tl.length = a.al.length) (hd : tl.Nodup) : KeyD (a.ed.map (relE a.al tl)) := by
  unfold KeyD
  rw [List.pairwise_map]
  refine h.edo.imp_of_mem fun {x y} hx hy hlt => ?_
  rintro ⟨h1, h2⟩
  simp only [relE] at h1 h2
  have mx := (h.edr x hx).2.2
  have my := (h.edr y hy).2.2
  have e1 := getD_inj hd (by rw [hl]; exact List.idxOf_lt_length_iff.2 mx) (by rw [hl]; exact List.idxOf_lt_length_iff.2 my) h2
  have e2 := idx_inj mx my e1
  unfold ltE at hlt; omega
theorem rel_right {a : Au} (h : RightW a) {tl : List Int} (hl : tl.length = a.al.length) (hr : ∀ x ∈ tl, 0 ≤ x ∧ x < 32) (hd : tl.Nodup) : RightW (relA a tl) where
  alr x hx := hr x ((srtI_perm tl).mem_iff.1 hx)
  alo := srtI_lt hd
  st0 := h.st0
  mrr := h.mrr
  mro := h.mro
  edr x hx := by
    obtain ⟨y, hy, rfl⟩ := List.mem_map.1 ((srtE_perm _).mem_iff.1 hx)
    have := h.edr y hy
    exact ⟨this.1, this.2.1, (srtI_perm tl).mem_iff.2 (getD_mem (by rw [hl]; exact List.idxOf_lt_length_iff.2 this.2.2))⟩
  edo := strict_of (srtE_sorted _) (keyD_perm (rel_keys h hl hd) (srtE_perm _))
/-- What Relabel hands back. -/
def relR (a : Au) (tl : List Int) : Au × Int :=
  if chkE a ≠ 0 then (zeroA, chkE a) else if tl.length ≠ a.al.length then (zeroA, 4) else if neE tl ≠ 0 then (zeroA, neE tl) else (canA (relA a tl), 0)
theorem at_idx {zs : List Int} (hup : Up zs) {x : Int} {i : Nat} (h : At zs x i) (hm : x ∈ zs) : i = zs.idxOf x ∧ i < zs.length := by
  have hlt := List.idxOf_lt_length_iff.2 hm
  have hx := getD_idxOf hm
  obtain ⟨h1, h2, h3⟩ := h
  rcases Nat.lt_trichotomy i (zs.idxOf x) with hi | hi | hi
  · have := hup i _ hi hlt
    have := h3 (by omega)
    omega
  · exact ⟨hi, by omega⟩
  · have := h2 _ hi; omega

theorem grown_set {w : World} {blk i : Nat} (u : Value) : w.grownBy (w.setCell ⟨blk, i, none⟩ u) (some blk) :=
  ⟨rfl, rfl, rfl, by simp [World.setCell], fun k _ hne => Below.heap_setCell _ _ _ _ (fun e => hne (by rw [e]))⟩
/-- Relabel's new automaton while its edges are made. -/
structure RB (w1 : World) (bb : Nat) (As : Option Addr) (n cs : Nat) (s : Int) (M : Option Addr) (m d : Nat) (al : List Int) (wr : World) (es : List Ed) (ve : Value) : Prop where
  bel : Below w1.heap.size w1 wr
  row : Row wr bb 34 [.slice As n cs, .int .i64 s, .slice M m d, ve]
  so : Own wr w1.heap.size (.slice As n cs) al
  eo : OwnE wr w1.heap.size ve es
  h1 : w1.heap.size ≤ bb
section
variable {w1 : World} {bb : Nat} {As : Option Addr} {n cs : Nat} {s : Int} {M : Option Addr} {m d : Nat} {al : List Int} {wr w2 w3 : World} {es : List Ed} {ve ve' : Value}
theorem RB.alloc (h : RB w1 bb As n cs s M m d al wr es ve) (o : Obj) : RB w1 bb As n cs s M m d al (wr.alloc o) es ve :=
  ⟨h.bel.alloc h.bel.size o, h.row.alloc o, h.so.alloc o, h.eo.alloc o, h.h1⟩
theorem RB.drew (h : RB w1 bb As n cs s M m d al wr es ve) : RB w1 bb As n cs s M m d al wr.drew es ve := ⟨h.bel.drew, h.row, h.so, h.eo, h.h1⟩
theorem RB.below (h : RB w1 bb As n cs s M m d al wr es ve) (hb : Below wr.heap.size wr w2) : RB w1 bb As n cs s M m d al w2 es ve :=
  ⟨h.bel.trans (hb.mono h.bel.size), h.row.below hb h.row.lt, own_below h.so hb, own_below h.eo hb, h.h1⟩
theorem RB.grown (h : RB w1 bb As n cs s M m d al wr es ve) (hg : wr.grownBy w2 ve.ownBlock) : Below w1.heap.size w1 w2 ∧ Row w2 bb 34 [.slice As n cs, .int .i64 s, .slice M m d, ve] ∧ Own w2 w1.heap.size (.slice As n cs) al :=
  ⟨h.bel.grown hg h.bel.size (fun k hk => (h.eo.lt k hk).1), h.row.grown hg (row_ne_own h.row h.eo (by decide)), own_row h.so hg (owns_ne h.so h.eo (by decide))⟩
theorem RB.edge {x : Ed} (h : RB w1 bb As n cs s M m d al wr es ve) (hg : wr.grownBy w2 ve.ownBlock) (ho : OwnE w2 w1.heap.size ve' (es ++ [x])) :
    RB w1 bb As n cs s M m d al (w2.setCell ⟨bb, 3, none⟩ ve') (es ++ [x]) ve' := by
  obtain ⟨b1, b2, b3⟩ := h.grown hg
  exact ⟨b1.setCell (p := ⟨bb, 3, none⟩) h.h1 _, b2.set 3 ve', own_row b3 (grown_set ve') (.inr (row_ne_own b2 b3 (by decide))), own_row ho (grown_set ve') (.inr (row_ne_own b2 ho (by decide))), h.h1⟩
theorem RB.start1 (hb : Below w1.heap.size w1 w3) (ho : Own w3 w1.heap.size (.slice As n cs) al) : RB w1 w3.heap.size As n cs s M m d al (w3.alloc (.cells #[.slice As n cs, .int .i64 s, .slice M m d, .slice none 0 0] 34)) [] (.slice none 0 0) :=
  ⟨hb.alloc hb.size _, Row.new w3 [.slice As n cs, .int .i64 s, .slice M m d, .slice none 0 0] 34, ho.alloc _, World.ownsRow_nil _ _ _ _, hb.size⟩
theorem own_set4 {X base N : Nat} {v v0 v1 v2 v3 : Value} {xs : List Value} (h : w3.ownsRow base 3 1 v N xs) (hr : v.ownBlock ≠ some X) :
    ((((w3.setCell ⟨X, 0, none⟩ v0).setCell ⟨X, 1, none⟩ v1).setCell ⟨X, 2, none⟩ v2).setCell ⟨X, 3, none⟩ v3).ownsRow base 3 1 v N xs :=
  own_row (own_row (own_row (own_row h (grown_set v0) (.inr hr)) (grown_set v1) (.inr hr)) (grown_set v2) (.inr hr)) (grown_set v3) (.inr hr)
theorem RB.start2 (hb : Below w1.heap.size w1 w3) (ho : Own w3 w1.heap.size (.slice As n cs) al) {X : Nat} (hr : Row w3 X 34 [.slice none 0 0, .int .i64 0, .slice none 0 0, .slice none 0 0]) (hX : w1.heap.size ≤ X) :
    RB w1 X As n cs s M m d al ((((w3.setCell ⟨X, 0, none⟩ (.slice As n cs)).setCell ⟨X, 1, none⟩ (.int .i64 s)).setCell ⟨X, 2, none⟩ (.slice M m d)).setCell ⟨X, 3, none⟩ (.slice none 0 0)) [] (.slice none 0 0) :=
  ⟨below_set4 hb hX _ _ _ _, (((hr.set 0 (.slice As n cs)).set 1 (.int .i64 s)).set 2 (.slice M m d)).set 3 (.slice none 0 0), own_set4 ho (row_ne_own hr ho (by decide)), World.ownsRow_nil _ _ _ _, hX⟩
end
end Go.Proofs.YtedleffmbddccaaDoor

/- Layer 3, the mathematics of automata whose states or events have other names. -/
namespace Go.Proofs.YtedleffmbddccaaDoor
open Go.RowKit Go.Sort

theorem edge_step {a : Au} (h : RightW a) (q ev : Int) : edgeO a.ed q ev = (stepO a q ev).map fun t => ⟨q, ev, t⟩ := by
  unfold stepO
  cases he : edgeO a.ed q ev with
  | none => rfl
  | some x =>
    obtain ⟨_, h1, h2⟩ := (edgeO_some h.edo).1 he
    subst h1 h2; rfl
theorem succ_step {a : Au} (h : RightW a) (q : Int) : succ a.ed q = a.al.filterMap fun ev => (stepO a q ev).map fun t => ⟨q, ev, t⟩ := by
  rw [succ_eq h]
  exact congrArg (fun f => a.al.filterMap f) (funext fun ev => edge_step h q ev)
/-- The second automaton is the first one with other names for the states that are found. -/
structure IsoA (b b' : Au) (f : Int → Int) : Prop where
  h : RightW b
  h' : RightW b'
  al : b'.al = b.al
  z : f 0 = 0
  p : 0 < b.st
  p' : 0 < b'.st
  inj : ∀ x y, x ∈ fnd b → y ∈ fnd b → f x = f y → x = y
  st : ∀ q ∈ fnd b, ∀ ev, stepO b' (f q) ev = (stepO b q ev).map f
  mq : ∀ q ∈ fnd b, (f q ∈ b'.mr ↔ q ∈ b.mr)
section
variable {b b' : Au} {f : Int → Int}
theorem iso_succ (H : IsoA b b' f) {q : Int} (hq : q ∈ fnd b) : succ b'.ed (f q) = (succ b.ed q).map fun x => ⟨f q, x.e, f x.t⟩ := by
  rw [succ_step H.h', succ_step H.h, H.al, List.map_filterMap]
  refine congrArg (fun g => b.al.filterMap g) (funext fun ev => ?_)
  rw [H.st q hq ev]
  cases stepO b q ev <;> rfl
theorem getD_map0 {l : List Int} {f : Int → Int} {i : Nat} (h : i < l.length) : (l.map f).getD i 0 = f (l.getD i 0) := by
  simp [List.getD, List.getElem?_eq_getElem h]
theorem Fd_iso (H : IsoA b b' f) : ∀ n, Fd b' n = (Fd b n).map f
  | 0 => by simp [Fd, H.z]
  | n + 1 => by
    have ih := Fd_iso H n
    have hp := Fd_fnd H.h H.p n
    by_cases hn : n < (Fd b n).length
    · rw [Fd_go hn, Fd_go (by rw [ih, List.length_map]; exact hn), ih, getD_map0 hn]
      have hnl : n < (fnd b).length := Nat.lt_of_lt_of_le hn hp.length_le
      have hq : (Fd b n).getD n 0 ∈ fnd b := hp.subset (getD_mem hn)
      rw [iso_succ H hq]
      refine visitL_map (fl := fnd b) H.inj _ _ hp.subset fun x hx => ⟨?_, rfl⟩
      rw [← getD_pre hp hn] at hx
      exact fnd_closed H.h hnl hx
    · rw [Fd_stop hn, Fd_stop (by rw [ih, List.length_map]; exact hn), ih]
theorem fnd_far {a : Au} (h : RightW a) (h0 : 0 < a.st) {n : Nat} (hn : a.st.toNat ≤ n) : Fd a n = fnd a := by
  have := Fd_still (a := a) (n := a.st.toNat) (Fd_len h h0 _) (n - a.st.toNat)
  rw [show a.st.toNat + (n - a.st.toNat) = n by omega] at this
  rw [this, fnd_pos h0]
theorem fnd_iso (H : IsoA b b' f) : fnd b' = (fnd b).map f := by
  rw [← fnd_far H.h' H.p' (n := b.st.toNat + b'.st.toNat) (by omega), ← fnd_far H.h H.p (n := b.st.toNat + b'.st.toNat) (by omega), Fd_iso H]
theorem idxOf_map {f : Int → Int} : ∀ {l : List Int} {x : Int}, (∀ a c, a ∈ l → c ∈ l → f a = f c → a = c) → x ∈ l → (l.map f).idxOf (f x) = l.idxOf x
  | [], x, _, h => by simp at h
  | y :: l, x, hi, h => by
    rw [List.map_cons, List.idxOf_cons, List.idxOf_cons]
    by_cases e : y = x
    · subst e; simp
    · have h1 : x ∈ l := (List.mem_cons.1 h).resolve_left fun h => e h.symm
      have h2 : ¬ f y = f x := fun e2 => e (hi y x (by simp) (by simp [h1]) e2)
      have e1 : (y == x) = false := by simpa using e
      have e2 : (f y == f x) = false := by simpa using h2
      rw [e1, e2, cond_false, cond_false, idxOf_map (fun a c ha hc => hi a c (by simp [ha]) (by simp [hc])) h1]
/-- The canonical forms are one. -/
theorem can_iso (H : IsoA b b' f) : canA b' = canA b := by
  have hf := fnd_iso H
  have hlen : (fnd b').length = (fnd b).length := by rw [hf, List.length_map]
  have hM : canM b' = canM b := by
    unfold canM
    rw [hlen]
    refine congrArg _ (List.filter_congr fun i hi => ?_)
    have hi' : i < (fnd b).length := List.mem_range.1 hi
    rw [hf, getD_map0 hi']
    exact decide_eq_decide.2 (H.mq _ (getD_mem hi'))
  have hE : canEn b' (fnd b').length = canEn b (fnd b).length := by
    unfold canEn
    rw [hlen, List.flatMap_def, List.flatMap_def]
    refine congrArg List.flatten (List.map_congr_left fun i hi => ?_)
    have hi' : i < (fnd b).length := List.mem_range.1 hi
    unfold outE
    rw [hf, getD_map0 hi', iso_succ H (getD_mem hi'), List.map_map]
    refine List.map_congr_left fun x hx => ?_
    rw [Function.comp_apply, idxOf_map H.inj (fnd_closed H.h hi' hx)]
  unfold canA
  rw [hlen, hM, H.al]
  rw [hlen] at hE
  rw [hE]
end
theorem can_zero {a : Au} (h : a.st = 0) : canA a = ⟨a.al, 0, [], []⟩ := by
  have hf : fnd a = [] := by rw [fnd, if_pos (by omega)]
  simp [canA, canM, canEn, hf]
/-- What is found is the least closed set. -/
theorem fnd_least {a : Au} (h : RightW a) (h0 : 0 < a.st) {S : List Int} (hz : (0 : Int) ∈ S) (hs : ∀ q ∈ S, ∀ ev t, stepO a q ev = some t → t ∈ S) : ∀ q ∈ fnd a, q ∈ S := by
  have : ∀ n, ∀ q ∈ Fd a n, q ∈ S := fun n => by
    induction n with
    | zero => intro q hq; simp [Fd] at hq; subst hq; exact hz
    | succ n ih =>
      intro q hq
      by_cases hn : n < (Fd a n).length
      · rw [Fd_go hn, mem_visitL] at hq
        rcases hq with hq | ⟨x, hx, rfl⟩
        · exact ih q hq
        · obtain ⟨h1, h2⟩ := mem_succ.1 hx
          exact hs _ (ih _ (getD_mem hn)) x.e x.t (stepO_some ((edgeO_some h.edo).2 ⟨h1, h2, rfl⟩))
      · rw [Fd_stop hn] at hq; exact ih q hq
  rw [fnd_pos h0]; exact this _

/-- The event that stands where a new one comes from. -/
def oldE (al tl : List Int) (e : Int) : Int := al.getD (tl.idxOf e) 0
section
variable {a : Au} {tl : List Int}
theorem mem_relE (h : RightW a) (hl : tl.length = a.al.length) (hd : tl.Nodup) {y : Ed} : y ∈ (relA a tl).ed ↔ y.e ∈ tl ∧ stepO a y.f (oldE a.al tl y.e) = some y.t := by
  show y ∈ srtE _ ↔ _
  rw [(srtE_perm _).mem_iff, List.mem_map]
  constructor
  · rintro ⟨x, hx, rfl⟩
    have hm := (h.edr x hx).2.2
    have hi : a.al.idxOf x.e < tl.length := by rw [hl]; exact List.idxOf_lt_length_iff.2 hm
    refine ⟨getD_mem hi, ?_⟩
    show stepO a x.f (a.al.getD (tl.idxOf (tl.getD (a.al.idxOf x.e) 0)) 0) = some x.t
    rw [idxOf_getD hd hi, getD_idxOf hm]
    exact stepO_some ((edgeO_some h.edo).2 ⟨hx, rfl, rfl⟩)
  · rintro ⟨h1, h2⟩
    have hi : tl.idxOf y.e < a.al.length := by rw [← hl]; exact List.idxOf_lt_length_iff.2 h1
    unfold stepO at h2
    cases he : edgeO a.ed y.f (oldE a.al tl y.e) with
    | none => rw [he] at h2; simp at h2
    | some x =>
      rw [he] at h2
      obtain ⟨g1, g2, g3⟩ := (edgeO_some h.edo).1 he
      refine ⟨x, g1, ?_⟩
      have e3 : tl.getD (a.al.idxOf x.e) 0 = y.e := by rw [g3]; unfold oldE; rw [idxOf_getD (lt_nodup h.alo) hi, getD_idxOf h1]
      have e2 : x.t = y.t := by simpa using h2
      unfold relE
      rw [e3, g2, e2]
theorem rel_step (h : RightW a) (hl : tl.length = a.al.length) (hr : ∀ x ∈ tl, 0 ≤ x ∧ x < 32) (hd : tl.Nodup) (q e : Int) : stepO (relA a tl) q e = if e ∈ tl then stepO a q (oldE a.al tl e) else none := by
  have hR := rel_right h hl hr hd
  by_cases he : e ∈ tl
  · rw [if_pos he]
    cases hs : stepO a q (oldE a.al tl e) with
    | some t => exact stepO_some (x := ⟨q, e, t⟩) ((edgeO_some hR.edo).2 ⟨(mem_relE h hl hd).2 ⟨he, hs⟩, rfl, rfl⟩)
    | none =>
      refine stepO_none (edgeO_none.2 fun y hy ⟨h1, h2⟩ => ?_)
      have := ((mem_relE h hl hd).1 hy).2
      rw [h1, h2, hs] at this; cases this
  · rw [if_neg he]
    refine stepO_none (edgeO_none.2 fun y hy ⟨h1, h2⟩ => ?_)
    have := ((mem_relE h hl hd).1 hy).1
    rw [h2] at this; exact he this
/-- The events that lead back. -/
def backL (al tl : List Int) : List Int := (srtI tl).map (oldE al tl)
theorem oldE_mem (hl : tl.length = a.al.length) {e : Int} (he : e ∈ tl) : oldE a.al tl e ∈ a.al := getD_mem (by rw [← hl]; exact List.idxOf_lt_length_iff.2 he)
theorem oldE_inj (h : RightW a) (hl : tl.length = a.al.length) {x y : Int} (hx : x ∈ tl) (hy : y ∈ tl) (e : oldE a.al tl x = oldE a.al tl y) : x = y := by
  have h1 : tl.idxOf x < a.al.length := by rw [← hl]; exact List.idxOf_lt_length_iff.2 hx
  have h2 : tl.idxOf y < a.al.length := by rw [← hl]; exact List.idxOf_lt_length_iff.2 hy
  exact idx_inj hx hy (getD_inj (lt_nodup h.alo) h1 h2 e)
theorem oldE_of (hl : tl.length = a.al.length) (hd : tl.Nodup) {ev : Int} (he : ev ∈ a.al) : ∃ e ∈ tl, oldE a.al tl e = ev := by
  have hi : a.al.idxOf ev < tl.length := by rw [hl]; exact List.idxOf_lt_length_iff.2 he
  refine ⟨tl.getD (a.al.idxOf ev) 0, getD_mem hi, ?_⟩
  unfold oldE
  rw [idxOf_getD hd hi, getD_idxOf he]
theorem back_nodup (h : RightW a) (hl : tl.length = a.al.length) (hd : tl.Nodup) : (backL a.al tl).Nodup := by
  unfold backL
  rw [List.nodup_iff_pairwise_ne, List.pairwise_map]
  refine (List.nodup_iff_pairwise_ne.1 (lt_nodup (srtI_lt hd))).imp_of_mem fun hx hy hne e => hne ?_
  exact oldE_inj h hl ((srtI_perm tl).mem_iff.1 hx) ((srtI_perm tl).mem_iff.1 hy) e
theorem mem_back (hl : tl.length = a.al.length) (hd : tl.Nodup) {ev : Int} : ev ∈ backL a.al tl ↔ ev ∈ a.al := by
  unfold backL
  rw [List.mem_map]
  constructor
  · rintro ⟨e, he, rfl⟩; exact oldE_mem hl ((srtI_perm tl).mem_iff.1 he)
  · intro h
    obtain ⟨e, he, rfl⟩ := oldE_of hl hd h
    exact ⟨e, (srtI_perm tl).mem_iff.2 he, rfl⟩
theorem back_len {al tl : List Int} : (backL al tl).length = (srtI tl).length := by unfold backL; rw [List.length_map]
theorem neE_mk : ∀ {zs seen : List Int}, (∀ x ∈ zs, 0 ≤ x ∧ x < 32) → zs.Nodup → (∀ x ∈ zs, x ∉ seen) → neGo seen zs = 0
  | [], seen, _, _, _ => by rw [neGo]
  | x :: r, seen, h1, h2, h3 => by
    rw [List.nodup_cons] at h2
    rw [neGo, if_neg (by have := h1 x (by simp); omega), if_neg (h3 x (by simp))]
    refine neE_mk (fun y hy => h1 y (by simp [hy])) h2.2 fun y hy hm => ?_
    first
    | (rcases List.mem_append.1 hm with hm | hm
       · exact h3 y (by simp [hy]) hm
       · simp at hm; subst hm; exact h2.1 hy)
    | (rcases List.mem_cons.1 hm with hm | hm
       · subst hm; exact h2.1 hy
       · exact h3 y (by simp [hy]) hm)
/-- The event that stands for an old one. -/
theorem oldE_back (h : RightW a) (hl : tl.length = a.al.length) (hd : tl.Nodup) {e : Int} (he : e ∈ tl) : oldE (srtI tl) (backL a.al tl) (oldE a.al tl e) = e := by
  have hm : e ∈ srtI tl := (srtI_perm tl).mem_iff.2 he
  have := idxOf_map (f := oldE a.al tl) (l := srtI tl) (x := e) (fun x y hx hy e => oldE_inj h hl ((srtI_perm tl).mem_iff.1 hx) ((srtI_perm tl).mem_iff.1 hy) e) hm
  show (srtI tl).getD ((backL a.al tl).idxOf (oldE a.al tl e)) 0 = e
  unfold backL
  rw [this, getD_idxOf hm]
/-- Relabelling back gives the automaton. -/
theorem rel_back (h : Right a) (hc : canA a = a) (hl : tl.length = a.al.length) (hr : ∀ x ∈ tl, 0 ≤ x ∧ x < 32) (hd : tl.Nodup) : relR (canA (relA a tl)) (backL a.al tl) = (a, 0) := by
  have hw := h.toRightW
  have hA1 := rel_right hw hl hr hd
  have hRi : Right (relA a tl) := { hA1 with st1 := h.st1 }
  have hR := hRi.can
  have hbl : (backL a.al tl).length = (canA (relA a tl)).al.length := back_len
  have hbd := back_nodup hw hl hd
  have hbr : ∀ x ∈ backL a.al tl, 0 ≤ x ∧ x < 32 := fun x hx => h.alr x ((mem_back hl hd).1 hx)
  have hB := rel_right hR.toRightW hbl hbr hbd
  have hal : (relA (canA (relA a tl)) (backL a.al tl)).al = a.al := lt_ext (srtI_lt hbd) h.alo fun x => (srtI_perm (backL a.al tl)).mem_iff.trans (mem_back hl hd)
  rw [relR, if_neg (by rw [hR.chk]; simp), if_neg (by rw [hbl]; simp), if_neg (by unfold neE; rw [neE_mk hbr hbd (by simp)]; simp)]
  congr 1
  by_cases h0 : a.st = 0
  · have h1 : (relA a tl).st = 0 := h0
    have h2 : (canA (relA a tl)).st = 0 := by rw [can_zero h1]
    rw [can_zero (a := relA (canA (relA a tl)) (backL a.al tl)) h2, hal]
    rw [← hc, can_zero h0]
  · have hp : 0 < a.st := by have := h.st0; omega
    have hp1 : 0 < (relA a tl).st := hp
    have hst : ∀ q e, stepO (relA a tl) q e = if e ∈ tl then stepO a q (oldE a.al tl e) else none := rel_step hw hl hr hd
    have hsub : ∀ q ∈ fnd a, q ∈ fnd (relA a tl) := fnd_least hw hp (zero_fnd hA1 hp1).1 fun q hq ev t hs => by
      obtain ⟨e, he, hoe⟩ := oldE_of hl hd (step_event hw hs).1
      refine step_in hA1 hq (ev := e) ?_
      rw [hst, if_pos he, hoe]; exact hs
    have hlen := List.length_pos_of_mem (zero_fnd hA1 hp1).1
    have hH : IsoA a (relA (canA (relA a tl)) (backL a.al tl)) (fun q => ((fnd (relA a tl)).idxOf q : Int)) := by
      refine { h := hw, h' := hB, al := hal, z := by rw [(zero_fnd hA1 hp1).2]; rfl, p := hp, p' := ?_, inj := fun x y hx hy e => idx_inj (hsub x hx) (hsub y hy) (by omega), st := fun q hq ev => ?_, mq := fun q hq => ?_ }
      · show (0 : Int) < ((fnd (relA a tl)).length : Int); omega
      · have hqi := List.idxOf_lt_length_iff.2 (hsub q hq)
        rw [rel_step hR.toRightW hbl hbr hbd]
        by_cases hev : ev ∈ a.al
        · rw [if_pos ((mem_back hl hd).2 hev)]
          obtain ⟨e, he, hoe⟩ := oldE_of hl hd hev
          have h3 : oldE (canA (relA a tl)).al (backL a.al tl) ev = e := by rw [← hoe]; exact oldE_back hw hl hd he
          rw [h3, step_can hA1 hqi, getD_idxOf (hsub q hq), hst, if_pos he, hoe]
        · rw [if_neg (fun hm => hev ((mem_back hl hd).1 hm))]
          cases hs : stepO a q ev with
          | none => rfl
          | some t => exact absurd (step_event hw hs).1 hev
      · show ((fnd (relA a tl)).idxOf q : Int) ∈ canM (relA a tl) ↔ q ∈ a.mr
        rw [mem_canM]
        have hqm := hsub q hq
        constructor
        · rintro ⟨i, h1, h2, h3⟩
          have : i = (fnd (relA a tl)).idxOf q := by omega
          rw [this, getD_idxOf hqm] at h2; exact h2
        · intro h1
          exact ⟨_, List.idxOf_lt_length_iff.2 hqm, by rw [getD_idxOf hqm]; exact h1, rfl⟩
    rw [can_iso hH, hc]
end
/-- The reference's edges of the first states, with the new events. -/
def relK (a : Au) (tl : List Int) (q : Int) : List Ed := (srtI tl).filterMap fun e => (stepO a q (oldE a.al tl e)).map fun t => ⟨q, e, t⟩
theorem relK_eq {a : Au} {tl : List Int} (h : RightW a) (hl : tl.length = a.al.length) (hr : ∀ x ∈ tl, 0 ≤ x ∧ x < 32) (hd : tl.Nodup) (q : Int) : relK a tl q = succ (relA a tl).ed q := by
  rw [succ_step (rel_right h hl hr hd)]
  have key : ∀ l : List Int, (∀ e ∈ l, e ∈ tl) → (l.filterMap fun e => (stepO a q (oldE a.al tl e)).map fun t => (⟨q, e, t⟩ : Ed)) = l.filterMap fun e => (stepO (relA a tl) q e).map fun t => ⟨q, e, t⟩ := fun l => by
    induction l with
    | nil => intro _; rfl
    | cons x l ih =>
      intro hm
      rw [List.filterMap_cons, List.filterMap_cons, ih fun e he => hm e (by simp [he]), rel_step h hl hr hd, if_pos (hm x (by simp))]
  exact key _ fun e he => (srtI_perm tl).mem_iff.1 he
/-- All edges, state by state. -/
theorem all_succ {a : Au} (h : RightW a) : a.ed = (List.range a.st.toNat).flatMap fun q : Nat => succ a.ed (q : Int) := by
  refine sorted_ext (r := ltE) ltE_irrefl (fun x y z => ltE_trans) _ _ h.edo ?_ fun x => ?_
  · rw [List.pairwise_flatMap]
    refine ⟨fun q _ => h.edo.sublist List.filter_sublist, ?_⟩
    refine List.pairwise_lt_range.imp fun hlt x hx y hy => ?_
    have h1 := (mem_succ.1 hx).2
    have h2 := (mem_succ.1 hy).2
    exact .inl (by omega)
  · rw [List.mem_flatMap]
    constructor
    · intro hx
      have := (h.edr x hx).1
      exact ⟨x.f.toNat, List.mem_range.2 (by omega), mem_succ.2 ⟨hx, by omega⟩⟩
    · rintro ⟨q, _, hx⟩; exact (mem_succ.1 hx).1

section
variable {a : Au}
theorem comp_step (h : RightW a) {q ev : Int} (hq : 0 ≤ q ∧ q ≤ a.st) (he : ev ∈ a.al) : stepO (compA a) q ev = some (toC a q ev) := by
  have hR := comp_right h
  refine stepO_some (x := ⟨q, ev, toC a q ev⟩) ((edgeO_some hR.edo).2 ⟨?_, rfl, rfl⟩)
  exact mem_compE.2 ⟨q.toNat, by omega, ev, he, by rw [show (q.toNat : Int) = q by omega]⟩
/-- In the further state a word stays. -/
theorem comp_sink (h : RightW a) : ∀ (ws : List Int), inB a.al ws = true → runE (compA a) a.st ws = (a.st, ws.length)
  | [], _ => by rw [runE_nil]; rfl
  | x :: r, hi => by
    unfold inB at hi
    rw [List.all_cons, Bool.and_eq_true] at hi
    have hx : x ∈ a.al := by simpa using hi.1
    have ht : toC a a.st x = a.st := by
      unfold toC
      cases hs : stepO a a.st x with
      | none => rfl
      | some t => have := step_event h hs; omega
    rw [runE_go (comp_step h ⟨h.st0, by omega⟩ hx), ht, comp_sink h r hi.2]; simp
theorem comp_run (h : RightW a) : ∀ (ws : List Int) (q : Int), 0 ≤ q → q < a.st → inB a.al ws = true → runE (compA a) q ws = (if (runE a q ws).2 = ws.length then (runE a q ws).1 else a.st, ws.length)
  | [], q, _, _, _ => by rw [runE_nil, runE_nil]; simp
  | x :: r, q, h0, h1, hi => by
    have hi0 := hi
    unfold inB at hi
    rw [List.all_cons, Bool.and_eq_true] at hi
    have hx : x ∈ a.al := by simpa using hi.1
    rw [runE_go (comp_step h ⟨h0, by omega⟩ hx)]
    unfold toC
    cases hs : stepO a q x with
    | none =>
      rw [runE_stop hs]
      show ((runE (compA a) a.st r).1, (runE (compA a) a.st r).2 + 1) = _
      rw [comp_sink h r hi.2, if_neg (by simp)]; simp
    | some t =>
      have ht := step_range h hs
      rw [runE_go hs]
      show ((runE (compA a) t r).1, (runE (compA a) t r).2 + 1) = _
      rw [comp_run h r t ht.1 ht.2 hi.2]
      simp
theorem comp_gen (h : RightW a) {ws : List Int} (hi : inB a.al ws = true) : genB (compA a) ws = true := by
  have h0 := h.st0
  have hs : ¬ (compA a).st = 0 := by show ¬ a.st + 1 = 0; omega
  unfold genB
  by_cases hz : a.st = 0
  · have := comp_sink h ws hi
    rw [hz] at this
    rw [this]; simp [hs]
  · rw [comp_run h ws 0 (by omega) (by omega) hi]; simp [hs]
theorem comp_acc (h : RightW a) {ws : List Int} (hi : inB a.al ws = true) : accB (compA a) ws = accB a ws := by
  have h0 := h.st0
  have hnm : a.st ∉ a.mr := fun hm => by have := h.mrr _ hm; omega
  unfold accB
  rw [comp_gen h hi]
  by_cases hz : a.st = 0
  · have := comp_sink h ws hi
    rw [hz] at this hnm
    rw [this]
    have hg : genB a ws = false := by simp [genB, hz]
    rw [hg]
    show (true && decide ((0 : Int) ∈ a.mr)) = (false && _)
    simp [hnm]
  · rw [comp_run h ws 0 (by omega) (by omega) hi]
    show (true && decide (_ ∈ a.mr)) = _
    by_cases hr : (runE a 0 ws).2 = ws.length
    · rw [if_pos hr]
      simp [genB, hz, hr]
    · rw [if_neg hr]
      simp [genB, hr, hnm]
theorem runE_ed {b : Au} (he : a.ed = b.ed) : ∀ (ws : List Int) (q : Int), runE a q ws = runE b q ws
  | [], q => by rw [runE_nil, runE_nil]
  | x :: r, q => by
    have hs : stepO a q x = stepO b q x := by unfold stepO; rw [he]
    cases e : stepO b q x with
    | none => rw [runE_stop (hs.trans e), runE_stop e]
    | some t => rw [runE_go (hs.trans e), runE_go e, runE_ed he r t]
theorem cls_acc (h : RightW a) (ws : List Int) : accB (clsA a) ws = genB a ws := by
  have hr := runE_ed (a := clsA a) (b := canA a) rfl ws 0
  have hg : genB (clsA a) ws = genB a ws := by rw [← gen_can h]; unfold genB; rw [hr]; rfl
  unfold accB
  rw [hg]
  by_cases hz : a.st = 0
  · simp [genB, hz]
  · have h0 := h.st0
    obtain ⟨hm, hi⟩ := zero_fnd h (by omega)
    obtain ⟨h1, h2⟩ := run_can h ws 0 hm
    rw [hi] at h2
    have h3 : (runE (clsA a) 0 ws).1 ∈ (clsA a).mr := by
      rw [hr, show ((0 : Int)) = ((0 : Nat) : Int) from rfl, h2]
      show _ ∈ rng _
      unfold rng
      exact List.mem_map.2 ⟨_, List.mem_range.2 (List.idxOf_lt_length_iff.2 h1), rfl⟩
    simp [h3]
end
end Go.Proofs.YtedleffmbddccaaDoor

/- Layer 6: Synchronous of the reference, the walk. -/
namespace Go.Proofs.YtedleffmbddccaaDoor
open Go.RowKit Go.Sort Go.Maps

set_option maxHeartbeats 2000000 in
set_option maxRecDepth 100000 in
theorem r6Sync_none (A : Option Addr) (n c : Nat) (l : List Au) (w : World) (h : RdAs w w.heap.size A l) (hn : l.length = n) (hnb : n ≤ 1000) (hr : ∀ a ∈ l, RightW a) (hp : posT l = false) :
    Calls Tryd.prog 29 #[.slice A n c] w (GivesS2 w (canA (prodA l)) ((fnd (prodA l)).map (dcT (stsT l)))) := by
  have HB1 := Lib.hid ((Below.refl w.heap.size w).alloc (Nat.le_refl _) (.cells #[.slice none 0 0, .int .i64 0, .slice none 0 0, .slice none 0 0] 34))
  have HRes := Lib.hid (Row.new w [.slice none 0 0, .int .i64 0, .slice none 0 0, .slice none 0 0] 34)
  have HLB := Lib.hid (fun W (hW : Below w.heap.size w W) => (h.below hW (Nat.le_refl _)).more hW.size)
  have HAl := Lib.hid (fun W hW => r6Alphabet_own A n c l W (HLB.out W hW) hn (by omega) hr)
  have HIn := Lib.hid (fun W hW => r6Initial_any A n c l W (HLB.out W hW) hn (by omega))
  rw [show iniO l = none by rw [iniO, ini_pos hr, hp]; rfl] at HIn
  have hC := Lib.hid (show canA (prodA l) = ⟨alT l, 0, [], []⟩ from can_zero (prod_st0 hp))
  have hF := Lib.hid (show fnd (prodA l) = [] from fnd_zero (prod_st0 hp))
  have HA32 := alT_len hr
  clear h hn hr hp
  go_enter Tryd.func29, Tryd.ntmps29
  go_wp2_with fail
  refine (HAl.out _ HB1.out).mono ?_
  rintro e w1 ⟨Aa, ca, rfl, hoa, hb1⟩
  obtain ⟨m, hm⟩ : ∃ m, m = (alT l).length := ⟨_, rfl⟩
  rw [← hm] at hoa HA32 ⊢
  have HM := Lib.hid hm
  have HB2 := Lib.hid (HB1.out.trans (hb1.mono HB1.out.size))
  have HR2 := Lib.hid (HRes.out.below hb1 (by simp))
  have HB3 := Lib.hid (HB2.out.alloc HB2.out.size (.cells #[.slice Aa m ca, .int .i64 0, .slice none 0 0, .slice none 0 0] 34))
  have HBX := Lib.hid (Row.new w1 [.slice Aa m ca, .int .i64 0, .slice none 0 0, .slice none 0 0] 34)
  have HOA := Lib.hid hoa
  have hz1 := HR2.out.lt
  clear hm hoa hb1 HAl HB1 HRes
  go_wp2_with fail
  refine (HIn.out _ HB3.out).mono ?_
  rintro e w3 ⟨A3, c3, rfl, _, hb3⟩
  have HB4 := Lib.hid (HB3.out.trans (hb3.mono HB3.out.size))
  have HR4 := Lib.hid ((HR2.out.alloc (.cells #[.slice Aa m ca, .int .i64 0, .slice none 0 0, .slice none 0 0] 34)).below hb3 (by simp; omega))
  have HX4 := Lib.hid (HBX.out.below hb3 (by simp))
  have HO4 := Lib.hid (own_below (HOA.out.alloc (.cells #[.slice Aa m ca, .int .i64 0, .slice none 0 0, .slice none 0 0] 34)) hb3)
  clear hb3 HIn HB3 HR2 HBX HOA
  have r0 := HR4.out.cell 0 rfl
  have r1 := HR4.out.cell 1 rfl
  have r2 := HR4.out.cell 2 rfl
  have r3 := HR4.out.cell 3 rfl
  have s0 := HR4.out.frozen 0
  have s1 := HR4.out.frozen 1
  have s2 := HR4.out.frozen 2
  have s3 := HR4.out.frozen 3
  have x0 := HX4.out.cell 0 rfl
  have x1 := HX4.out.cell 1 rfl
  have x2 := HX4.out.cell 2 rfl
  have x3 := HX4.out.cell 3 rfl
  have HFIN := Lib.hid (show AuF (canA (prodA l)) (.agg #[.slice Aa m ca, .int .i64 0, .slice none 0 0, .slice none 0 0]) w3 (w.heap.size + 1) by
    obtain ⟨_, _, e1, k1, k2, k3⟩ := own_rdc HO4.out
    rw [hC.out]
    rw [← HM.out] at e1
    injection e1 with e1 _ e3
    subst e1 e3
    exact ⟨Aa, m, ca, 0, none, 0, 0, none, 0, 0, rfl,
      { al := k1, mr := RdI.nil _ _ _, ed := RdG.nil _ _ _, hn := HM.out.symm, hm := rfl, hk := rfl, st := rfl, cn := ⟨by rw [HM.out]; exact k2, k3⟩, cm := by omega, ck := by omega, bn := by omega, bm := by omega, bk := by omega },
      by have := own_from HO4.out; simpa using this, fun b o f e => (by cases e), fun b o f e => (by cases e)⟩)
  go_wp2_with fail
  (try simp only [Exit.inBlock, Exit.then])
  refine bodyPost_ret (v := .tuple #[.agg #[.slice Aa m ca, .int .i64 0, .slice none 0 0, .slice none 0 0], .slice none 0 0]) ?_ rfl ⟨_, _, [], rfl, (HFIN.out.set4 (Nat.lt_succ_self _) _ _ _ _).more (Nat.le_succ _), ⟨World.ownsRow_nil _ _ _ _, by simp⟩, by rw [hF.out]; rfl, below_set4 HB4.out (Nat.le_refl _) _ _ _ _⟩
  rw [results_cell_tmp1 rfl]
  go_simp
end Go.Proofs.YtedleffmbddccaaDoor
