/- Layer 4: Closed, whole. -/
import Derived.Test.YtceldgcmjmfjfaaZgCl
set_option linter.unusedVariables false
set_option linter.unusedSimpArgs false
set_option linter.unusedSectionVars false
namespace Go.Proofs.Ytceldgcmjmfjfaa
open Go.RowKit Go.Sort Go.Maps

def cloP (a : Au) (set ev : List Int) : Bool := !(a.ed.any (clE set ev))
set_option maxHeartbeats 8000000 in
set_option maxRecDepth 100000 in
theorem gClosed_any (A : Option Addr) (n c : Nat) (s : Int) (M : Option Addr) (m d : Nat) (E : Option Addr) (k g : Nat) (a : Au) (A2 : Option Addr) (n2 c2 : Nat) (set : List Int) (A3 : Option Addr) (n3 c3 : Nat) (ev : List Int) (w : World) (h : AuR w w.heap.size A n c s M m d E k g a) (hx : RdI w w.heap.size A2 set) (hn : set.length = n2) (hc : n2 ≤ c2 ∧ c2 ≤ 9223372036854775807) (hb : n2 ≤ 100000)
    (hx3 : RdI w w.heap.size A3 ev) (hn3 : ev.length = n3) (hc3 : n3 ≤ c3 ∧ c3 ≤ 9223372036854775807) (hb3 : n3 ≤ 100000) (h0 : gceE a set ev = 0) :
    Calls Try.prog 34 #[.agg #[.slice A n c, .int .i64 s, .slice M m d, .slice E k g], .slice A2 n2 c2, .slice A3 n3 c3] w fun e w' => e = .returned (.tuple #[.bool (cloP a set ev), .int .i64 0]) ∧ Below w.heap.size w w' := by
  have hb1 := (Below.refl w.heap.size w).alloc (Nat.le_refl _) (.cells #[.slice A n c, .int .i64 s, .slice M m d, .slice E k g] 30)
  have HB1 := Lib.hid hb1
  have HX := Lib.hid (BoxA.made w A n c s M m d E k g 30)
  have HC := Lib.hid (gCheckE_any A n c s M m d E k g a A2 n2 c2 set A3 n3 c3 ev _ ((h.below hb1 (Nat.le_refl _)).more (by simp)) ((hx.below hb1 (Nat.le_refl _)).more (by simp)) hn hc hb ((hx3.below hb1 (Nat.le_refl _)).more (by simp)) hn3 hc3 hb3)
  rw [h0] at HC
  have HR := Lib.hid h
  have HI := Lib.hid hx
  have HI3 := Lib.hid hx3
  have HN := Lib.hid hn
  have HN3 := Lib.hid hn3
  have HK := Lib.hid h.hk
  have hbk := h.bk
  obtain ⟨hri, hset, _⟩ := gce_zero h0
  have hst := h.st
  have HSR := Lib.hid (show ∀ x ∈ set, 0 ≤ x ∧ x < 4096 from fun x hx => by have := hset x hx; have := hri.st1; omega)
  have HER := Lib.hid (show ∀ x ∈ a.ed, (0 ≤ x.f ∧ x.f < 4096) ∧ 0 ≤ x.t ∧ x.t < 4096 from fun x hx => by have h1 := (hri.edr x hx); have h2 := hri.st1; omega)
  obtain ⟨r, hr⟩ : ∃ r, r = a.ed.any (clE set ev) := ⟨_, rfl⟩
  have HRE := Lib.hid hr
  have HCP := Lib.hid (show cloP a set ev = !r from by rw [hr]; rfl)
  rw [HCP.out]
  clear h hb1 hx hn hx3 hn3 h0 hri hset hst hr
  obtain ⟨p0, p1, p2, p3⟩ := HX.out
  go_enter Try.func34, Try.ntmps34
  go_wp2_with fail
  refine HC.out.mono ?_
  rintro e w1 ⟨rfl, hbw⟩
  have HB2 := Lib.hid (HB1.out.trans (hbw.mono HB1.out.size))
  have HX1 := Lib.hid (HX.out.below hbw (by simp))
  have hz1 : w.heap.size < w1.heap.size := by have := hbw.size; simp at this; omega
  clear hbw p0 p1 p2 p3
  obtain ⟨p0, p1, p2, p3⟩ := HX1.out
  go_wp2_with fail
  refine (gFlags_any A2 n2 c2 set w1 ((HI.out.below HB2.out (Nat.le_refl _)).more HB2.out.size) HN.out hb HSR.out).mono ?_
  rintro e w3 ⟨rfl, hb3'⟩
  have HB3 := Lib.hid (HB2.out.trans (hb3'.mono (by omega)))
  have HX3 := Lib.hid (HX1.out.below hb3' hz1)
  have hz3 := hb3'.size
  clear hb3' p0 p1 p2 p3
  go_wp2_with fail
  refine (gBy_any A3 n3 c3 w3).mono ?_
  rintro e w4 ⟨rfl, hw4⟩
  have HB4 := Lib.hid (show Below w3.heap.size w3 w4 by rw [hw4]; exact (Below.refl _ _).alloc (Nat.le_refl _) _)
  have HQ4 := Lib.hid (show Row w4 w3.heap.size 27 [.slice A3 n3 c3] by rw [hw4]; exact Row.new _ [_] _)
  clear hw4
  have hz4 := HB4.out.size
  obtain ⟨bx, hbx⟩ : ∃ b, b = w3.heap.size := ⟨_, rfl⟩
  obtain ⟨bi, hbi⟩ : ∃ b, b = w4.heap.size := ⟨_, rfl⟩
  obtain ⟨bf, hbf⟩ : ∃ b, b = w4.heap.size + 1 := ⟨_, rfl⟩
  obtain ⟨W8, hW8⟩ : ∃ W, W = (w4.alloc (.cells (flV fun _ => false).toArray 76)).alloc (.cells #[Value.nilFunc] 81) := ⟨_, rfl⟩
  have ha8 : Row W8 bi 76 (flV fun _ => false) := by rw [hW8, hbi]; exact (Row.new w4 _ _).alloc _
  have hc8 : Row W8 bf 81 [Value.nilFunc] := by rw [hW8, hbf]; exact Row.newE _ [_] _ (by simp)
  have hd8 : Below w4.heap.size w4 W8 := by rw [hW8]; exact ((Below.refl _ _).alloc (Nat.le_refl _) _).alloc (by simp) _
  have HSC1 := Lib.hid (flags_store (f' := inF set) ha8)
  obtain ⟨W9, hW9⟩ : ∃ W, W = W8.setRow bi (flV (inF set)).toArray := ⟨_, rfl⟩
  rw [← hW9] at HSC1
  have ha9 : Row W9 bi 76 (flV (inF set)) := by rw [hW9]; exact setRow_heap _ _ _ (flV (inF set)).toArray _ _ ha8
  have hc9 : Row W9 bf 81 [Value.nilFunc] := by rw [hW9]; exact row_setRowO hc8 (by omega) _
  have hd9 : Below w4.heap.size w4 W9 := by rw [hW9]; exact below_setRow hd8 (by omega) _
  have cf := hc9.cell 0 rfl
  have ff := hc9.frozen 0
  have hij : bi ≠ bf := by omega
  have ha10 := Lib.hid (ha9.setOther (p := ⟨bf, 0, none⟩) hij (.func (.func 92) #[] #[.pointer (some ⟨bx, 0, none⟩)]))
  have hc10 := Lib.hid (hc9.set 0 (.func (.func 92) #[] #[.pointer (some ⟨bx, 0, none⟩)]))
  have hd10 := Lib.hid (hd9.setCell (p := ⟨bf, 0, none⟩) (by simp; omega) (.func (.func 92) #[] #[.pointer (some ⟨bx, 0, none⟩)]))
  obtain ⟨W10, hW10⟩ : ∃ W, W = W9.setCell ⟨bf, 0, none⟩ (.func (.func 92) #[] #[.pointer (some ⟨bx, 0, none⟩)]) := ⟨_, rfl⟩
  rw [← hW10] at ha10 hc10 hd10
  simp only [List.set_cons_zero] at hc10
  have HQ10 := Lib.hid (HQ4.out.below hd10.out HQ4.out.lt)
  rw [← hbx] at HQ10
  have HB10 := Lib.hid (HB3.out.trans ((HB4.out.trans (hd10.out.mono HB4.out.size)).mono (by omega)))
  have HX10 := Lib.hid (HX3.out.below (HB4.out.trans (hd10.out.mono HB4.out.size)) (by omega))
  have HW8 := Lib.hid hW8
  have HW10 := Lib.hid hW10
  have HBX := Lib.hid hbx
  have HBI := Lib.hid hbi
  have HBF := Lib.hid hbf
  have HED := Lib.hid ((HR.out.ed.below HB10.out (Nat.le_refl _)).more HB10.out.size)
  have HCN := Lib.hid (gConE_any E k g a.ed 71 #[.pointer (some ⟨bf, 0, none⟩), .pointer (some ⟨bi, 0, none⟩)] (clE set ev) W10 cfCl (fun x hx W hW => gCl1_any bf bx bi A3 n3 c3 set ev x W (hc10.out.below hW hc10.out.lt) (HQ10.out.below hW HQ10.out.lt) (ha10.out.below hW ha10.out.lt) ((HI3.out.below (HB10.out.trans (hW.mono HB10.out.size)) (Nat.le_refl _)).more (HB10.out.trans (hW.mono HB10.out.size)).size) HN3.out hb3 (HER.out x hx)) HED.out HK.out hbk)
  have hre := HRE.out
  rw [← hre] at HCN
  clear ha8 hc8 hd8 ha9 hc9 hd9 hW8 hW9 hW10 hbx hbi hbf hij hre
  go_wp2_with fail
  rw [zero_flV, ← HBF.out, ← HBI.out, ← HBX.out, ← HW8.out, HSC1.out]
  go_upto_region 6 with fail
  rw [← HW10.out]
  obtain ⟨p0, p1, p2, p3⟩ := HX10.out
  go_wp2_with fail
  refine HCN.out.mono ?_
  rintro e w12 ⟨rfl, hb12⟩
  have HB12 := Lib.hid (HB10.out.trans (hb12.mono HB10.out.size))
  clear hb12 p0 p1 p2 p3
  go_wp2_with fail
  go_ret2
  exact ⟨rfl, HB12.out⟩
end Go.Proofs.Ytceldgcmjmfjfaa
