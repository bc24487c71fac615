/- Layer 6: contracts in the form that the laws' walks take. -/
import Derived.Test.YtedleffmbddccaaDoorZa11
import Derived.Test.YtedleffmbddccaaDoorZpEna
import Derived.Test.YtedleffmbddccaaDoorZpMeet
set_option linter.unusedVariables false
set_option linter.unusedSimpArgs false
set_option linter.unusedSectionVars false
namespace Go.Proofs.YtedleffmbddccaaDoor
open Go.RowKit Go.Sort

/-- A list, and what else. -/
def GL1 (w : World) (zs : List Int) (rest : List Value) (e : Ending) (w' : World) : Prop := ∃ A n c, e = .returned (.tuple (.slice A n c :: rest).toArray) ∧ zs.length = n ∧ RdI w' w'.heap.size A zs ∧ Below w.heap.size w w'
def GI (w : World) (zs : List Int) (e : Ending) (w' : World) : Prop := ∃ A n c, e = .returned (.slice A n c) ∧ zs.length = n ∧ RdI w' w'.heap.size A zs ∧ Below w.heap.size w w'
section
variable {w : World} {Al A2 : Option Addr} {nl cl m d : Nat} {las : List Au} {t : List Int} {ev : Int}
theorem g_en {zs : List Int} {er : Int} (h : RdAs w w.heap.size Al las) (hn : las.length = nl) (h2 : RdI w w.heap.size A2 t) (hm : t.length = m) (hz : enR6 las t = zs) (he : ctE las t = er) : Calls Tryd.prog 22 #[.slice Al nl cl, .slice A2 m d] w (GL1 w zs [.int .i64 er]) :=
  (pEnabled_any Al nl cl las A2 m d t w h hn h2 hm).mono fun e w' hh => by
    rw [hz, he] at hh
    obtain ⟨A, c, e1, hr, hb, _⟩ := hh
    exact ⟨A, _, c, e1, rfl, hr, hb⟩
theorem g_mk {r : Bool} {er : Int} (h : RdAs w w.heap.size Al las) (hn : las.length = nl) (h2 : RdI w w.heap.size A2 t) (hm : t.length = m) (hz : mrkR las t = r) (he : ctE las t = er) : Calls Tryd.prog 25 #[.slice Al nl cl, .slice A2 m d] w fun e w' => e = .returned (.tuple #[.bool r, .int .i64 er]) ∧ Below w.heap.size w w' := by
  have := pMrk_any Al nl cl las A2 m d t w h hn h2 hm
  rw [hz, he] at this; exact this
theorem g_stp {zs : List Int} {ps : Bool} {er : Int} (h : RdAs w w.heap.size Al las) (hn : las.length = nl) (h2 : RdI w w.heap.size A2 t) (hm : t.length = m) (hz : (stpR las t ev).getD [] = zs) (hp : (stpR las t ev).isSome = ps) (he : csE6 las t ev = er) : Calls Tryd.prog 23 #[.slice Al nl cl, .slice A2 m d, .int .i64 ev] w (GL1 w zs [.bool ps, .int .i64 er]) :=
  (pStep_any Al nl cl las A2 m d t ev w h hn h2 hm).mono fun e w' hh => by
    obtain ⟨A, c, e1, hr, hb, _⟩ := hh
    rw [hz, hp, he] at e1
    rw [hz] at hr
    exact ⟨A, _, c, e1, rfl, hr, hb⟩
theorem g_ref {zs : List Int} {er : Int} (h : RdAs w w.heap.size Al las) (hn : las.length = nl) (h2 : RdI w w.heap.size A2 t) (hm : t.length = m) (hz : refR las t ev = zs) (he : csE6 las t ev = er) (hT : TabAt 0 Lib.deBruijn32tab w) : Calls Tryd.prog 26 #[.slice Al nl cl, .slice A2 m d, .int .i64 ev] w (GL1 w zs [.int .i64 er]) :=
  (pRefusers_any Al nl cl las A2 m d t ev w h hn h2 hm hT (tab_pos hT)).mono fun e w' hh => by
    rw [hz, he] at hh
    obtain ⟨A, c, e1, hr, hb, _⟩ := hh
    exact ⟨A, _, c, e1, rfl, hr, hb⟩
theorem g_alph {zs : List Int} {er : Int} (h : RdAs w w.heap.size Al las) (hn : las.length = nl) (hz : alpR las = zs) (he : chkL las = er) : Calls Tryd.prog 16 #[.slice Al nl cl] w (GL1 w zs [.int .i64 er]) :=
  (pAlphabet_any Al nl cl las w h hn).mono fun e w' hh => by
    rw [hz, he] at hh
    obtain ⟨A, c, e1, hr, hb, _⟩ := hh
    exact ⟨A, _, c, e1, rfl, hr, hb⟩
theorem g_run {zs : List Int} {k : Nat} {er : Int} (h : RdAs w w.heap.size Al las) (hn : las.length = nl) (h2 : RdI w w.heap.size A2 t) (hm : t.length = m) (hmb : m ≤ 100000) (hz : (rnR las t).1 = zs) (hk : (rnR las t).2 = k) (he : crE las t = er) : Calls Tryd.prog 24 #[.slice Al nl cl, .slice A2 m d] w (GL1 w zs [.int .i64 (k : Int), .int .i64 er]) :=
  (pRun_any Al nl cl las A2 m d t w h hn h2 hm (by omega)).mono fun e w' hh => by
    rw [hz, hk, he] at hh
    obtain ⟨A, c, e1, hr, hb, _⟩ := hh
    exact ⟨A, _, c, e1, rfl, hr, hb⟩
theorem g_ralph (h : RdAs w w.heap.size Al las) (hn : las.length = nl) (hnb : nl ≤ 1000) (hr : ∀ a ∈ las, RightW a) : Calls Tryd.prog 19 #[.slice Al nl cl] w (GI w (alT las)) :=
  (r6Alphabet_any Al nl cl las w h hn (by omega) hr).mono fun e w' hh => by
    obtain ⟨A, c, e1, hr, hb⟩ := hh
    exact ⟨A, _, c, e1, rfl, hr, hb⟩
theorem g_ren {zs : List Int} (h : RdAs w w.heap.size Al las) (hn : las.length = nl) (hnb : nl ≤ 1000) (h2 : RdI w w.heap.size A2 t) (hm : t.length = nl) (hr : ∀ a ∈ las, RightW a) (hz : (alT las).filter (enG las t) = zs) : Calls Tryd.prog 33 #[.slice Al nl cl, .slice A2 nl d] w (GI w zs) :=
  (r6Enabled_any Al nl cl las A2 d t w h hn hnb h2 hm hr).mono fun e w' hh => by
    rw [hz] at hh
    obtain ⟨A, c, e1, hr, hb⟩ := hh
    exact ⟨A, _, c, e1, rfl, hr, hb⟩
theorem g_rmk {r : Bool} (h : RdAs w w.heap.size Al las) (hn : las.length = nl) (hnb : nl ≤ 1000) (h2 : RdI w w.heap.size A2 t) (hm : t.length = nl) (hz : mkT las t = r) : Calls Tryd.prog 34 #[.slice Al nl cl, .slice A2 nl d] w fun e w' => e = .returned (.bool r) ∧ Below w.heap.size w w' := by
  have := r6Marked_any Al nl cl las A2 d t w h hn (by omega) h2 hm
  rw [hz] at this; exact this
theorem g_rstp {zs : List Int} {ps : Bool} (h : RdAs w w.heap.size Al las) (hn : las.length = nl) (hnb : nl ≤ 1000) (h2 : RdI w w.heap.size A2 t) (hm : t.length = nl) (hr : ∀ a ∈ las, RightW a) (hz : (stpT las t ev).getD [] = zs) (hp : (stpT las t ev).isSome = ps) : Calls Tryd.prog 35 #[.slice Al nl cl, .slice A2 nl d, .int .i64 ev] w (GL1 w zs [.bool ps]) :=
  (r6Step_any Al nl cl las A2 d t ev w h hn hnb h2 hm hr).mono fun e w' hh => by
    obtain ⟨A, c, e1, ho, hb⟩ := hh
    rw [hz, hp] at e1
    rw [hz] at ho
    obtain ⟨A', c', e2, hr, _, _⟩ := own_rdc ho
    injection e2 with e2 _ _
    subst e2
    exact ⟨A, _, c, e1, rfl, hr, hb⟩
theorem g_rref {zs : List Int} (h : RdAs w w.heap.size Al las) (hn : las.length = nl) (hnb : nl ≤ 1000) (h2 : RdI w w.heap.size A2 t) (hm : t.length = nl) (hr : ∀ a ∈ las, RightW a) (hz : rfG las 0 t ev = zs) : Calls Tryd.prog 36 #[.slice Al nl cl, .slice A2 nl d, .int .i64 ev] w (GI w zs) :=
  (r6Refusers_any Al nl cl las A2 d t ev w h hn hnb h2 hm hr).mono fun e w' hh => by
    rw [hz] at hh
    obtain ⟨A, c, e1, hr, hb⟩ := hh
    exact ⟨A, _, c, e1, rfl, hr, hb⟩
theorem g_rini {zs : List Int} {ps : Bool} (h : RdAs w w.heap.size Al las) (hn : las.length = nl) (hnb : nl ≤ 1000) (hz : (iniO las).getD [] = zs) (hp : (iniO las).isSome = ps) : Calls Tryd.prog 37 #[.slice Al nl cl] w (GL1 w zs [.bool ps]) :=
  (r6Initial_any Al nl cl las w h hn (by omega)).mono fun e w' hh => by
    obtain ⟨A, c, e1, ho, hb⟩ := hh
    rw [hz, hp] at e1
    rw [hz] at ho
    obtain ⟨A', c', e2, hr, _, _⟩ := own_rdc ho
    injection e2 with e2 _ _
    subst e2
    exact ⟨A, _, c, e1, rfl, hr, hb⟩
end
theorem rfG_congr : ∀ (l : List Au) (i : Nat) (t t' : List Int) (e : Int), (∀ j, i ≤ j → j < i + l.length → t.getD j 0 = t'.getD j 0) → rfG l i t e = rfG l i t' e
  | [], _, _, _, _, _ => rfl
  | a :: l, i, t, t', e, h => by
    rw [rfG, rfG, h i (Nat.le_refl _) (by simp), rfG_congr l (i + 1) t t' e fun j h1 h2 => h j (by omega) (by rw [List.length_cons]; omega)]
theorem rfG_pad {l : List Au} {t : List Int} {e : Int} (h : t.length = l.length) : rfG l 0 (pad t) e = rfG l 0 t e :=
  rfG_congr l 0 _ _ e fun j _ h2 => by
    rw [Nat.zero_add] at h2
    unfold pad
    simp [List.getD, List.getElem?_append_left (show j < t.length by omega)]
theorem en_same {l : List Au} {t : List Int} (h : t.length = l.length) : (alT l).filter (enP l t) = (alT l).filter (enG l t) := by
  refine List.filter_congr fun x _ => ?_
  unfold enP enG
  rcases stp_ref (l := l) (t := t) (e := x) h with ⟨h1, h2⟩ | ⟨h1, h2⟩
  · rw [h1, h2]; rfl
  · rw [h2]
    have : (rfG l 0 t x).length ≠ 0 := fun e => h1 (List.eq_nil_of_length_eq_zero e)
    simp [this]
theorem al_len5 {l : List Au} (h : ∀ a ∈ l, RightW a) : (alT l).length ≤ 32 := alT_len h
end Go.Proofs.YtedleffmbddccaaDoor
