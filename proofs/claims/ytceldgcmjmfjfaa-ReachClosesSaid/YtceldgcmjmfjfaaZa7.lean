/- Texts merged: what follows were texts of their own. -/
import Derived.Test.YtceldgcmjmfjfaaZa6
import Derived.Deep.WholeRow
import Derived.Test.YtceldgcmjmfjfaaZa2
import Derived.Sort.WalkB12
import Derived.Lib.SlicesMore
import Derived.Deep.LoopGhost
import Derived.BigQuiet
set_option linter.unusedVariables false
set_option linter.unusedSimpArgs false
set_option linter.unusedSectionVars false
/- Layer 4: Interior. -/
namespace Go.Proofs.Ytceldgcmjmfjfaa
open Go.RowKit Go.Sort

/-- The edges by some events. -/
def byF (ev : List Int) (x : Ed) : Bool := decide (x.e ∈ ev)
theorem cfBy : ∀ args W, (callFunc 92 args).run Try.prog W = .ok (.enter 92 args) W := fun args W => by go_simp
theorem cfI1 : ∀ args W, (callFunc 73 args).run Try.prog W = .ok (.enter 73 args) W := fun args W => by go_simp
theorem cfI2 : ∀ args W, (callFunc 74 args).run Try.prog W = .ok (.enter 74 args) W := fun args W => by go_simp
theorem gBy_any (A : Option Addr) (n c : Nat) (w : World) : Calls Try.prog 68 #[.slice A n c] w fun e w' => e = .returned (.func (.func 92) #[] #[.pointer (some ⟨w.heap.size, 0, none⟩)]) ∧ w' = w.alloc (.cells #[.slice A n c] 27) := by
  go_enter Try.func68, Try.ntmps68
  go_wp2_with fail
  first | go_ret | refine bodyPost_ret (results_none rfl _ _ _) rfl ?_
  exact ⟨rfl, rfl⟩
set_option maxHeartbeats 1000000 in
theorem gBy1_any (bx : Nat) (A : Option Addr) (n c : Nat) (ev : List Int) (x : Ed) (w : World) (h : Row w bx 27 [.slice A n c]) (hx : RdI w w.heap.size A ev) (hn : ev.length = n) (hb : n ≤ 100000) :
    Calls Try.prog 92 #[edL x, .pointer (some ⟨bx, 0, none⟩)] w fun e w' => e = .returned (.bool (byF ev x)) ∧ Below w.heap.size w w' := by
  obtain ⟨xf, xe, xt⟩ := x
  dsimp only [edL]
  have hb1 : Below w.heap.size w (w.alloc (.cells #[.int .i64 xf, .int .i64 xe, .int .i64 xt] 70)) := (Below.refl _ _).alloc (Nat.le_refl _) _
  have hr := Row.new w [.int .i64 xf, .int .i64 xe, .int .i64 xt] 70
  have c1 := hr.cell 1 rfl
  have c2 := (h.below hb1 h.lt).cell 0 rfl
  have HC := Lib.hid (containsInt_any A n c w.heap.size ev xe (w.alloc (.cells #[.int .i64 xf, .int .i64 xe, .int .i64 xt] 70)) (hx.below hb1 (Nat.le_refl _)) hn (by omega))
  have HB := Lib.hid hb1
  obtain ⟨u, hu⟩ : ∃ u, u = decide (xe ∈ ev) := ⟨_, rfl⟩
  have HU := Lib.hid (show byF ev ⟨xf, xe, xt⟩ = u by unfold byF; rw [hu])
  rw [← hu] at HC
  rw [HU.out]
  clear h hx hn hb1 hr hu
  go_enter Try.func92, Try.ntmps92
  go_wp2_with fail
  refine HC.out.mono ?_
  rintro e w5 ⟨rfl, hw5⟩
  first | subst hw5 | skip
  go_wp2_with fail
  go_ret
  exact ⟨rfl, HB.out⟩
theorem rdZ_below {w w' : World} {bs : Nat} {A : Option Addr} {zs : List Int} (h : RdZ w bs A zs) (hb : Below w.heap.size w w') : RdZ w' bs A zs := fun h0 => by
  obtain ⟨b, off, e, hl, hc⟩ := h h0
  exact ⟨b, off, e, ⟨Nat.lt_of_lt_of_le hl.1 hb.size, hl.2⟩, fun j hj => (hb.cell hl.1).trans (hc j hj)⟩
theorem fst_zero3 {x y z : Int} (h : fstE [x, y, z] = 0) : x = 0 ∧ y = 0 ∧ z = 0 := by
  simp only [fstE] at h
  by_cases hx : x = 0
  · by_cases hy : y = 0
    · by_cases hz : z = 0
      · exact ⟨hx, hy, hz⟩
      · simp [hx, hy, hz] at h
    · simp [hx, hy] at h
  · simp [hx] at h
theorem gce_zero {a : Au} {zs ev : List Int} (h : gceE a zs ev = 0) : Right a ∧ (∀ x ∈ zs, 0 ≤ x ∧ x < a.st) ∧ ∀ x ∈ ev, 0 ≤ x ∧ x < 32 := by
  have := fst_zero3 h
  exact ⟨right_of this.1, (right_of this.2.1).mrr, (right_of this.2.2).alr⟩
/-- The greatest closed part of a set. -/
def intS (S : Nat) (es : List Ed) (set : List Int) : List Int := rngF S fun q => !seenF noF (spV noF S (trnE S es) (rngF S fun q => !inF set q)) q
def intR (a : Au) (set ev : List Int) : List Int := intS a.st.toNat (a.ed.filter (byF ev)) set
set_option maxHeartbeats 8000000 in
set_option maxRecDepth 100000 in
theorem gInterior_any (A : Option Addr) (n c : Nat) (s : Int) (M : Option Addr) (m d : Nat) (E : Option Addr) (k g : Nat) (a : Au) (A2 : Option Addr) (n2 c2 : Nat) (set : List Int) (A3 : Option Addr) (n3 c3 : Nat) (ev : List Int) (w : World) (h : AuR w w.heap.size A n c s M m d E k g a) (hx : RdI w w.heap.size A2 set) (hn : set.length = n2) (hc : n2 ≤ c2 ∧ c2 ≤ 9223372036854775807) (hb : n2 ≤ 100000)
    (hx3 : RdI w w.heap.size A3 ev) (hn3 : ev.length = n3) (hc3 : n3 ≤ c3 ∧ c3 ≤ 9223372036854775807) (hb3 : n3 ≤ 100000) :
    Calls Try.prog 35 #[.agg #[.slice A n c, .int .i64 s, .slice M m d, .slice E k g], .slice A2 n2 c2, .slice A3 n3 c3] w fun e w' => ∃ v, e = .returned (.tuple #[v, .int .i64 (gceE a set ev)]) ∧ Own w' w.heap.size v (if gceE a set ev = 0 then intR a set ev else []) ∧ Below w.heap.size w w' := by
  have hb1 := (Below.refl w.heap.size w).alloc (Nat.le_refl _) (.cells #[.slice A n c, .int .i64 s, .slice M m d, .slice E k g] 30)
  have HB1 := Lib.hid hb1
  have HX := Lib.hid (BoxA.made w A n c s M m d E k g 30)
  have HC := Lib.hid (gCheckE_any A n c s M m d E k g a A2 n2 c2 set A3 n3 c3 ev _ ((h.below hb1 (Nat.le_refl _)).more (by simp)) ((hx.below hb1 (Nat.le_refl _)).more (by simp)) hn hc hb ((hx3.below hb1 (Nat.le_refl _)).more (by simp)) hn3 hc3 hb3)
  have HR := Lib.hid h
  have HI := Lib.hid hx
  have HI3 := Lib.hid hx3
  have HN := Lib.hid hn
  have HN3 := Lib.hid hn3
  have HST := Lib.hid h.st
  obtain ⟨r, hr⟩ : ∃ r, r = gceE a set ev := ⟨_, rfl⟩
  rw [← hr] at HC ⊢
  have HRE := Lib.hid hr
  clear h hb1 hr hx hn hx3 hn3
  obtain ⟨p0, p1, p2, p3⟩ := HX.out
  go_enter Try.func35, Try.ntmps35
  go_wp2_with fail
  refine HC.out.mono ?_
  rintro e w1 ⟨rfl, hbw⟩
  have HB2 := Lib.hid (HB1.out.trans (hbw.mono HB1.out.size))
  have HX1 := Lib.hid (HX.out.below hbw (by simp))
  have hz1 : w.heap.size < w1.heap.size := by have := hbw.size; simp at this; omega
  clear hbw p0 p1 p2 p3
  obtain ⟨p0, p1, p2, p3⟩ := HX1.out
  by_cases h0 : r = 0
  · obtain ⟨hri, hset, hevr⟩ := gce_zero (HRE.out.symm.trans h0)
    obtain ⟨S, hS⟩ : ∃ S : Nat, s = (S : Int) := ⟨s.toNat, by have := hri.st0; rw [HST.out] at this; omega⟩
    have hS4 : S ≤ 4096 := by have := hri.st1; rw [HST.out] at this; omega
    subst hS
    have HEO := Lib.hid (edOk_of hri HST.out)
    have HEF := Lib.hid (show EdOk S (a.ed.filter (byF ev)) from fun x hx => HEO.out x (List.mem_filter.1 hx).1)
    have HEL := Lib.hid (Nat.le_trans (List.length_filter_le (byF ev) a.ed) (ed_le hri))
    have HSR := Lib.hid (show ∀ x ∈ set, 0 ≤ x ∧ x < 4096 from fun x hx => by have := hset x hx; rw [HST.out] at this; omega)
    subst h0
    have HRR := Lib.hid (show intR a set ev = intS S (a.ed.filter (byF ev)) set from by unfold intR; rw [HST.out]; simp)
    clear hri hset hevr
    go_wp2_with fail
    refine (gFlags_any A2 n2 c2 set w1 ((HI.out.below HB2.out (Nat.le_refl _)).more HB2.out.size) HN.out hb HSR.out).mono ?_
    rintro e w3 ⟨rfl, hb3'⟩
    have HB3 := Lib.hid hb3'
    have HX3 := Lib.hid (HX1.out.below hb3' hz1)
    have hz3 := hb3'.size
    clear hb3' p0 p1 p2 p3
    obtain ⟨p0, p1, p2, p3⟩ := HX3.out
    obtain ⟨bi, hbi⟩ : ∃ b, b = w3.heap.size := ⟨_, rfl⟩
    obtain ⟨W4, hW4⟩ : ∃ W, W = w3.alloc (.cells (flV (inF set)).toArray 76) := ⟨_, rfl⟩
    have HF4 := Lib.hid (show Row W4 bi 76 (flV (inF set)) from by rw [hW4, hbi]; exact Row.new _ _ _)
    have hb34 : Below w3.heap.size w3 W4 := by rw [hW4]; exact (Below.refl _ _).alloc (Nat.le_refl _) _
    have HX4 := Lib.hid (HX3.out.below hb34 (by omega))
    have HB4 := Lib.hid ((HB2.out.trans (HB3.out.mono (by omega))).trans (hb34.mono (by omega)))
    have hz4 := hb34.size
    have hz34 : bi < W4.heap.size := HF4.out.lt
    have hsz : (Try.prog.info? 76).map (·.size) = some (flV (inF set)).toArray.size := by rw [flags_sizeG]; simp [flV_len]
    have HSC := Lib.hid (run_storeCells_new (P := Try.prog) w3 76 (flV fun _ => false).toArray (flV (inF set)).toArray hsz (by simp [flV_len]) (flV_one (inF set)))
    have HBI := Lib.hid hbi
    rw [← hW4, ← hbi] at HSC
    clear hW4 hbi hb34 hsz p0 p1 p2 p3
    go_wp2_with fail
    rw [← HBI.out, zero_flV, HSC.out]
    obtain ⟨p0, p1, p2, p3⟩ := HX4.out
    have HWH := Lib.hid (gWhere_any A n c (S : Int) M m d E k g S 73 #[.pointer (some ⟨bi, 0, none⟩)] (fun q => !inF set q) W4 cfI1 (fun q hq W hW => gAskI_any bi q _ W (HF4.out.below hW hz34) (by omega)) rfl hS4)
    obtain ⟨out, hout⟩ : ∃ o, o = rngF S fun q => !inF set q := ⟨_, rfl⟩
    rw [← hout] at HWH
    have HOUT := Lib.hid hout
    clear hout
    go_wp2_with fail
    refine HWH.out.mono ?_
    rintro e w5 ⟨vo, rfl, hoo, hb45⟩
    have HB5 := Lib.hid (HB4.out.trans (hb45.mono (by omega)))
    have HX5 := Lib.hid (HX4.out.below hb45 (by omega))
    have hz5 := hb45.size
    have HOO := Lib.hid hoo
    clear p0 p1 p2 p3 hb45 hoo
    obtain ⟨bs, hbs⟩ : ∃ bs, bs = w5.heap.size := ⟨_, rfl⟩
    obtain ⟨W6, hW6⟩ : ∃ W, W = w5.alloc (.cells Try.zeroCells76 76) := ⟨_, rfl⟩
    have HF6 := Lib.hid (show Row W6 bs 76 (flV noF) from by rw [hW6, hbs, zero_flV]; exact Row.new _ _ _)
    have hb56 : Below w5.heap.size w5 W6 := by rw [hW6]; exact (Below.refl _ _).alloc (Nat.le_refl _) _
    obtain ⟨Ao, co, rfl, hrz⟩ := own_rdZ HOO.out (.inr (Nat.le_of_eq hbs.symm))
    have HRZ := Lib.hid (rdZ_below hrz hb56)
    have HB6 := Lib.hid (HB5.out.trans (hb56.mono (by have := HB5.out.size; omega)))
    have HX6 := Lib.hid (HX5.out.below hb56 (by omega))
    have hz6 : w.heap.size < W6.heap.size := by have := hb56.size; omega
    have hbw : w.heap.size < bs := by omega
    have hbsz : bs < W6.heap.size := HF6.out.lt
    have HW6 := Lib.hid hW6
    have HBS := Lib.hid hbs
    clear hW6 hbs hrz hb56
    have HGR := Lib.hid (fun W bx (hW : Below w.heap.size w W) (hr : Row W bx 27 [.slice A3 n3 c3]) => gGraphOf_any A n c (S : Int) M m d E k g a S 92 #[.pointer (some ⟨bx, 0, none⟩)] (byF ev) W cfBy (fun x _ W' hW' => gBy1_any bx A3 n3 c3 ev x W' (hr.below hW' hr.lt) ((HI3.out.below (hW.trans (hW'.mono hW.size)) (Nat.le_refl _)).more (hW.trans (hW'.mono hW.size)).size) HN3.out hb3) ((HR.out.below hW (Nat.le_refl _)).more hW.size) HEO.out rfl hS4)
    have HB6d := Lib.hid HB6.out.drew
    have HOR := Lib.hid (show ∀ q ∈ out, 0 ≤ q ∧ q < (S : Int) from fun q hq => by rw [HOUT.out] at hq; obtain ⟨k, hk, _, rfl⟩ := mem_rngF.1 hq; omega)
    have HOL := Lib.hid (show out.length ≤ 4096 from by rw [HOUT.out]; exact Nat.le_trans (rngF_len _ _) hS4)
    obtain ⟨p0, p1, p2, p3⟩ := HX6.out
    go_upto_region 7 with fail
    rw [← HW6.out, ← HBS.out]
    go_region_held3 (fun w' => w'.cell? ⟨w.heap.size, 0, none⟩ = some (.slice A n c) ∧ w'.cell? ⟨w.heap.size, 1, none⟩ = some (.int .i64 (S : Int)) ∧ w'.cell? ⟨w.heap.size, 2, none⟩ = some (.slice M m d) ∧ w'.cell? ⟨w.heap.size, 3, none⟩ = some (.slice E k g)) (first | with_reducible exact ⟨p0, p1, p2, p3⟩ | go_keep)
      (first
      | (go_simp; go_at_call 68; (first | with_reducible refine (gBy_any A3 n3 c3 W6).mono ?_ | with_reducible refine (gBy_any A3 n3 c3 W6.drew).mono ?_); rintro e w7 ⟨rfl, hw7⟩
         have HB7 := Lib.hid (show Below W6.heap.size W6 w7 by rw [hw7]; first | exact (Below.refl _ _).alloc (Nat.le_refl _) _ | exact (Below.drew (Below.refl _ _)).alloc (Nat.le_refl _) _)
         have HQ7 := Lib.hid (show Row w7 W6.heap.size 27 [.slice A3 n3 c3] by rw [hw7]; exact Row.new _ _ _)
         have HX7 := Lib.hid (HX6.out.below HB7.out hz6)
         have hz7 := HB7.out.size
         obtain ⟨p0, p1, p2, p3⟩ := HX7.out
         clear hw7)
      | (go_simp; go_at_call 43; (first | with_reducible refine (HGR.out w7 _ (HB6.out.trans (HB7.out.mono (by omega))) HQ7.out).mono ?_ | with_reducible refine (HGR.out w7.drew _ (HB6.out.trans (HB7.out.mono (by omega))).drew HQ7.out).mono ?_); rintro e w4 ⟨bg, rfl, hgr, hb4⟩
         have HB4 := Lib.hid (show Below w7.heap.size w7 w4 by first | exact hb4 | exact (Below.drew (Below.refl _ _)).trans hb4)
         have HG4 := Lib.hid (show GrM w7.heap.size w4.heap.size w4 bg S (a.ed.filter (byF ev)) by exact hgr)
         have HX4 := Lib.hid (HX7.out.below HB4.out (by omega))
         have hz4 := HB4.out.size
         obtain ⟨p0, p1, p2, p3⟩ := HX4.out
         clear hb4 hgr)
      | (go_simp; go_at_call 49; (first | with_reducible refine (gTurned_any w7.heap.size w4.heap.size bg S (a.ed.filter (byF ev)) w4 HG4.out (Nat.le_refl _) HEF.out hS4 (by have := HEL.out; omega)).mono ?_ | with_reducible refine (gTurned_any w7.heap.size w4.heap.size bg S (a.ed.filter (byF ev)) w4.drew HG4.out (Nat.le_refl _) HEF.out hS4 (by have := HEL.out; omega)).mono ?_); rintro e w8 ⟨bt, rfl, hgt, hb8⟩
         have HB8 := Lib.hid (show Below w4.heap.size w4 w8 by first | exact hb8 | exact (Below.drew (Below.refl _ _)).trans hb8)
         have HG8 := Lib.hid (show GrM w4.heap.size w8.heap.size w8 bt S (trnE S (a.ed.filter (byF ev))) by first | exact hgt)
         have HX8 := Lib.hid (HX4.out.below HB8.out (by omega))
         have hz8 := HB8.out.size
         obtain ⟨p0, p1, p2, p3⟩ := HX8.out
         clear hb8 hgt)
      | (go_simp; go_at_call 45; (with_reducible refine (qSpread_any bt S (trnE S (a.ed.filter (byF ev))) Ao out.length co bs out noF w8 (HG8.out.toZ (Nat.le_refl _) (.inl (by omega))) (trnE_ok HEF.out) hS4 (by rw [trnE_len]; have := tlE_le (a.ed.filter (byF ev)) S; have := HEL.out; omega) (rdZ_below HRZ.out (HB7.out.trans ((HB4.out.mono (by omega)).trans (HB8.out.mono (by omega))))) rfl (by have := HOL.out; omega) HOR.out ((HF6.out.below (HB7.out.trans (HB4.out.mono (by omega))) HF6.out.lt).below HB8.out (by omega))).mono ?_); rintro e w9 ⟨v9, rfl, hov9, hfl9, hkp9⟩
         have HF9 := Lib.hid hfl9
         have HB9 := Lib.hid (below_kpo ((HB6.out.trans (HB7.out.mono (by omega))).trans ((HB4.out.mono (by omega)).trans (HB8.out.mono (by omega)))) hkp9 (by omega) (by omega))
         have p0 := (hkp9.cell (b := w.heap.size) (o := 0) (by omega) (by omega)).trans p0
         have p1 := (hkp9.cell (b := w.heap.size) (o := 1) (by omega) (by omega)).trans p1
         have p2 := (hkp9.cell (b := w.heap.size) (o := 2) (by omega) (by omega)).trans p2
         have p3 := (hkp9.cell (b := w.heap.size) (o := 3) (by omega) (by omega)).trans p3
         have hz9 := hkp9.size
         clear hov9 hfl9 hkp9))
    all_goals
      have HWH2 := Lib.hid (gWhere_any A n c (S : Int) M m d E k g S 74 #[.pointer (some ⟨bs, 0, none⟩)] (fun q => !seenF noF (spV noF S (trnE S (a.ed.filter (byF ev))) out) q) w9 cfI2 (fun q hq W hW => gAskJ_any bs q _ W (HF9.out.below hW HF9.out.lt) (by omega)) rfl hS4)
      go_wp2_with fail
      refine HWH2.out.mono ?_
      rintro e w10 ⟨vr, rfl, hor, hbr⟩
      go_wp2_with fail
      go_ret2
      exact ⟨_, rfl, by rw [HRR.out]; unfold intS; rw [← HOUT.out]; exact own_moreG hor (by omega), HB9.out.trans (hbr.mono (by omega))⟩
  · have hbn : (r != 0) = true := by simp [h0]
    go_wp2_with fail
    go_ret2
    exact ⟨_, rfl, by first | exact World.ownsRow_nil _ _ _ _ | (rw [if_neg h0]; exact World.ownsRow_nil _ _ _ _), HB2.out⟩
end Go.Proofs.Ytceldgcmjmfjfaa

/- Layer 4: Distances. -/
namespace Go.Proofs.Ytceldgcmjmfjfaa
open Go.RowKit Go.Sort

/-- The distances of visits, by state. -/
def dset (r : List Int) (V : List Vi) : List Int := V.foldl (fun r v => r.set v.s.toNat v.d) r
theorem dset_len : ∀ (V : List Vi) (r : List Int), (dset r V).length = r.length
  | [], _ => rfl
  | v :: V, r => by
    show (dset (r.set v.s.toNat v.d) V).length = _
    rw [dset_len V, List.length_set]
theorem dset_snoc (r : List Int) (V : List Vi) (v : Vi) : dset r (V ++ [v]) = (dset r V).set v.s.toNat v.d := by simp [dset]
def disS (S : Nat) (es : List Ed) (ts : List Int) : List Int := dset (List.replicate S (-1)) (spV noF S (trnE S es) ts)
def disR (a : Au) (ts : List Int) : List Int := disS a.st.toNat a.ed ts
theorem own_rowI {w : World} {b n B : Nat} {zs : List Int} (h : Row w b 3 (zs.map (Value.int .i64))) (hn : zs.length = n) (hb : B ≤ b) (hm : n ≤ 100000) : Own w B (.slice (some ⟨b, 0, none⟩) n n) zs := by
  subst hn
  exact ⟨by simp, .inr ⟨b, zs.length, _, rfl, hb, h, Nat.le_refl _, by unfold maxLen; omega, by simp, by simp [List.take_of_length_le]⟩⟩
def fillN (S t : Nat) : List Int := List.replicate t (-1) ++ List.replicate (S - t) 0
theorem fillN_set {S t : Nat} (h : t < S) : (fillN S t).set t (-1) = fillN S (t + 1) := by
  unfold fillN
  rw [List.set_append, if_neg (by simp)]
  obtain ⟨k, hk⟩ : ∃ k, S - t = k + 1 := ⟨S - t - 1, by omega⟩
  rw [hk, show S - (t + 1) = k by omega]
  rw [List.replicate_succ' (n := t), List.replicate_succ (n := k)]
  simp
theorem fillN_len {S t : Nat} (h : t ≤ S) : (fillN S t).length = S := by simp [fillN]; omega
theorem fillN_all (S : Nat) : fillN S S = List.replicate S (-1) := by simp [fillN]
theorem gws_zero {a : Au} {zs : List Int} (h : gwsE a zs = 0) : Right a ∧ ∀ x ∈ zs, 0 ≤ x ∧ x < a.st := ⟨(gce_zero h).1, (gce_zero h).2.1⟩
theorem row_setI {w : World} {b : Nat} {zs : List Int} (h : Row w b 3 (zs.map (Value.int .i64))) (j : Nat) (u : Int) : Row (w.setCell ⟨b, j, none⟩ (.int .i64 u)) b 3 ((zs.set j u).map (Value.int .i64)) := by
  rw [List.map_set]; exact h.set j _
theorem ownV_rdO {w : World} {base b0 : Nat} {v : Value} {l : List Vi} (h : OwnV w base v l) (hb : b0 < base) : ∃ A c, v = .slice A l.length c ∧ (l.length ≤ c ∧ c ≤ 9223372036854775807) ∧ (0 < l.length → ∃ g, A = some ⟨g, 0, none⟩ ∧ (g < w.heap.size ∧ g ≠ b0) ∧ ∀ j x, l[j]? = some x → ViAt w g (j * 4) x) := by
  obtain ⟨A, c, rfl, hr, hc⟩ := ownV_rd h
  refine ⟨A, c, rfl, hc, fun h0 => ?_⟩
  obtain ⟨g, off, e, hg, hv⟩ := hr h0
  subst e
  rcases h.2 with ⟨e, h1⟩ | ⟨g', cap, cur, e, hg', _⟩
  · omega
  · injection e with e1 e2 e3
    injection e1 with e1
    injection e1 with e1 e2
    subst e1 e2
    exact ⟨g, rfl, ⟨hg, by omega⟩, fun j x hj => by have := hv j x hj; rwa [Nat.zero_add] at this⟩
theorem KpO.refl (w : World) (bs : Nat) : KpO w w bs := ⟨rfl, rfl, rfl, Nat.le_refl _, fun _ _ _ => rfl⟩
theorem KpO.belowT {w w1 w2 : World} {bs : Nat} (h : KpO w w1 bs) (hb : Below w1.heap.size w1 w2) : KpO w w2 bs :=
  ⟨hb.os.trans h.os, hb.tape.trans h.tape, hb.output.trans h.output, Nat.le_trans h.size hb.size, fun k hk hn => (hb.block k (Nat.lt_of_lt_of_le hk h.size)).trans (h.block k hk hn)⟩
theorem KpO.set {w w1 : World} {bs : Nat} (h : KpO w w1 bs) (j : Nat) (u : Value) : KpO w (w1.setCell ⟨bs, j, none⟩ u) bs := by
  have hb := (Below.refl bs w1).setCell (p := ⟨bs, j, none⟩) (Nat.le_refl _) u
  have hs : (w1.setCell ⟨bs, j, none⟩ u).heap.size = w1.heap.size := by simp
  refine ⟨hb.os.trans h.os, hb.tape.trans h.tape, hb.output.trans h.output, by rw [hs]; exact h.size, fun k hk hn => ?_⟩
  refine Eq.trans ?_ (h.block k hk hn)
  exact Below.heap_setCell w1 _ u k hn
set_option maxHeartbeats 8000000 in
set_option maxRecDepth 100000 in
theorem gDistances_any (A : Option Addr) (n c : Nat) (s : Int) (M : Option Addr) (m d : Nat) (E : Option Addr) (k g : Nat) (a : Au) (A2 : Option Addr) (n2 c2 : Nat) (ts : List Int) (w : World) (h : AuR w w.heap.size A n c s M m d E k g a) (hx : RdI w w.heap.size A2 ts) (hn : ts.length = n2) (hc : n2 ≤ c2 ∧ c2 ≤ 9223372036854775807) (hb : n2 ≤ 100000) :
    Calls Try.prog 26 #[.agg #[.slice A n c, .int .i64 s, .slice M m d, .slice E k g], .slice A2 n2 c2] w fun e w' => ∃ v, e = .returned (.tuple #[v, .int .i64 (gwsE a ts)]) ∧ Own w' w.heap.size v (if gwsE a ts = 0 then disR a ts else []) ∧ Below w.heap.size w w' := by
  have hb1 := (Below.refl w.heap.size w).alloc (Nat.le_refl _) (.cells #[.slice A n c, .int .i64 s, .slice M m d, .slice E k g] 30)
  have HB1 := Lib.hid hb1
  have HX := Lib.hid (BoxA.made w A n c s M m d E k g 30)
  have HC := Lib.hid (gCheckW_any A n c s M m d E k g a A2 n2 c2 ts _ ((h.below hb1 (Nat.le_refl _)).more (by simp)) ((hx.below hb1 (Nat.le_refl _)).more (by simp)) hn hc hb)
  have HR := Lib.hid h
  have HI := Lib.hid hx
  have HN := Lib.hid hn
  have HST := Lib.hid h.st
  obtain ⟨r, hr⟩ : ∃ r, r = gwsE a ts := ⟨_, rfl⟩
  rw [← hr] at HC ⊢
  have HRE := Lib.hid hr
  clear h hb1 hr hx hn
  obtain ⟨p0, p1, p2, p3⟩ := HX.out
  go_enter Try.func26, Try.ntmps26
  go_wp2_with fail
  refine HC.out.mono ?_
  rintro e w1 ⟨rfl, hbw⟩
  have HB2 := Lib.hid (HB1.out.trans (hbw.mono HB1.out.size))
  have HX1 := Lib.hid (HX.out.below hbw (by simp))
  have hz1 : w.heap.size < w1.heap.size := by have := hbw.size; simp at this; omega
  clear hbw p0 p1 p2 p3
  obtain ⟨p0, p1, p2, p3⟩ := HX1.out
  by_cases h0 : r = 0
  · obtain ⟨hri, hset⟩ := gws_zero (HRE.out.symm.trans h0)
    obtain ⟨S, hS⟩ : ∃ S : Nat, s = (S : Int) := ⟨s.toNat, by have := hri.st0; rw [HST.out] at this; omega⟩
    have hS4 : S ≤ 4096 := by have := hri.st1; rw [HST.out] at this; omega
    subst hS
    have HEO := Lib.hid (edOk_of hri HST.out)
    have HEL := Lib.hid (ed_le hri)
    have HSR := Lib.hid (show ∀ x ∈ ts, 0 ≤ x ∧ x < (S : Int) from fun x hx => by have := hset x hx; rw [HST.out] at this; omega)
    subst h0
    have HRR := Lib.hid (show disR a ts = disS S a.ed ts from by unfold disR; rw [HST.out]; simp)
    clear hri hset
    obtain ⟨V, hV⟩ : ∃ V, V = spV noF S (trnE S a.ed) ts := ⟨_, rfl⟩
    have HVO := Lib.hid (show VOk noF S V from by rw [hV]; exact spN_ok (trnE_ok HEO.out) HSR.out S)
    have HV := Lib.hid hV
    clear hV
    have hmk := make_ints S (by omega)
    obtain ⟨b, hbb⟩ : ∃ b, b = w1.heap.size := ⟨_, rfl⟩
    obtain ⟨W2, hW2⟩ : ∃ W, W = w1.alloc (.cells (Array.replicate S (Value.int .i64 0)) 3) := ⟨_, rfl⟩
    have HR2 := Lib.hid (show Row W2 b 3 ((fillN S 0).map (Value.int .i64)) from by
      rw [hW2, hbb]
      have := Row.new w1 (List.replicate S (Value.int .i64 0)) 3
      simpa [fillN] using this)
    have HB12 := Lib.hid (show Below w1.heap.size w1 W2 from by rw [hW2]; exact (Below.refl _ _).alloc (Nat.le_refl _) _)
    have HW2 := Lib.hid hW2
    have HBB := Lib.hid hbb
    have hwb : w.heap.size < b := by omega
    have hb1b : w1.heap.size ≤ b := by omega
    clear hW2 hbb
    go_upto_region 5 with fail
    rw [← HW2.out, ← HBB.out]
    clear hmk
    go_wp2_with fail
    go_loopw [8, 22] (fun _ iv wr => ∃ t : Nat, t ≤ S ∧ iv = .int .i64 t ∧ Hid (Row wr b 3 ((fillN S t).map (Value.int .i64))) ∧ Hid (Below w1.heap.size w1 wr)) (fun _ iv _ => S - (intOf iv).toNat)
    case atStart => exact ⟨0, Nat.zero_le _, rfl, HR2, HB12⟩
    case round =>
      clear HR2 HB12
      obtain ⟨t, ht, rfl, hrow, hbel⟩ := hrel
      by_cases hlt : t < S
      · have z0 : (0 : Int) ≤ (t : Int) := by omega
        have z1 : (t : Int) < (S : Int) := by omega
        have c1 := hrow.out.int (j := t) (by rw [fillN_len (by omega)]; exact hlt)
        have f1 := hrow.out.frozen t
        have HS := Lib.hid (show Row (wr.setCell ⟨b, t, none⟩ (.int .i64 (-1))) b 3 ((fillN S (t + 1)).map (Value.int .i64)) from by
          have := row_setI hrow.out t (-1); rwa [fillN_set hlt] at this)
        have HB := Lib.hid (hbel.out.setCell (p := ⟨b, t, none⟩) (by simp; omega) (.int .i64 (-1)))
        clear p0 p1 p2 p3
        go_wp2_with fail
        go_roundw
        case rel => exact ⟨t + 1, by omega, by go_num, HS, HB⟩
        case measure => simp [intOf]; omega
      · obtain rfl : S = t := by omega
        have HX2 := Lib.hid (HX1.out.below hbel.out hz1)
        have HB3 := Lib.hid (HB2.out.trans (hbel.out.mono (by omega)))
        have hz3 := hbel.out.size
        have HRW := Lib.hid (show Row wr b 3 ((List.replicate S (-1 : Int)).map (Value.int .i64)) from by have := hrow.out; rwa [fillN_all] at this)
        have hbsz := HRW.out.lt
        clear p0 p1 p2 p3 hrow hbel
        obtain ⟨p0, p1, p2, p3⟩ := HX2.out
        go_wp2_with fail
        refine (gGraphOf_any A n c (S : Int) M m d E k g a S 44 #[] (fun _ => true) wr cfAny (fun x _ W' _ => gAny_any x W') ((HR.out.below HB3.out (Nat.le_refl _)).more HB3.out.size) HEO.out rfl hS4).mono ?_
        rintro e w4 ⟨bg, rfl, hgr, hb4⟩
        have HB4 := Lib.hid (HB3.out.trans (hb4.mono (by omega)))
        have HG4 := Lib.hid (show GrM wr.heap.size w4.heap.size w4 bg S a.ed by rw [filter_true] at hgr; exact hgr)
        have HRW4 := Lib.hid (HRW.out.below hb4 hbsz)
        have hz4 := hb4.size
        clear hb4 hgr p0 p1 p2 p3
        go_wp2_with fail
        refine (gTurned_any wr.heap.size w4.heap.size bg S a.ed w4 HG4.out (Nat.le_refl _) HEO.out hS4 (by have := HEL.out; omega)).mono ?_
        rintro e w5 ⟨bt, rfl, hgt, hb5⟩
        have HB5 := Lib.hid (HB4.out.trans (hb5.mono (by omega)))
        have HRW5 := Lib.hid (HRW4.out.below hb5 (by omega))
        have HG5 := Lib.hid hgt
        have hz5 := hb5.size
        clear hb5 hgt
        obtain ⟨bs, hbs⟩ : ∃ bs, bs = w5.heap.size := ⟨_, rfl⟩
        obtain ⟨W6, hW6⟩ : ∃ W, W = w5.alloc (.cells Try.zeroCells76 76) := ⟨_, rfl⟩
        have HF6 := Lib.hid (show Row W6 bs 76 (flV noF) from by rw [hW6, hbs, zero_flV]; exact Row.new _ _ _)
        have hb56 : Below w5.heap.size w5 W6 := by rw [hW6]; exact (Below.refl _ _).alloc (Nat.le_refl _) _
        have HB6 := Lib.hid (HB5.out.trans (hb56.mono (by omega)))
        have HRW6 := Lib.hid (HRW5.out.below hb56 (by omega))
        have HG6 := Lib.hid (HG5.out.below hb56 (Nat.le_refl _))
        have hz6 := hb56.size
        have hbsz6 : bs < W6.heap.size := HF6.out.lt
        have hbs5 : w5.heap.size ≤ bs := by omega
        have HW6 := Lib.hid hW6
        have HBS := Lib.hid hbs
        have HRZ := Lib.hid (show RdZ W6 bs A2 ts from rdZ_of (HI.out.below HB6.out (Nat.le_refl _)) (by omega) (by omega))
        have HSP := Lib.hid (qSpread_any bt S (trnE S a.ed) A2 n2 c2 bs ts noF W6 (HG6.out.toZ hz6 (.inr hbs5)) (trnE_ok HEO.out) hS4 (by rw [trnE_len]; have := tlE_le a.ed S; have := HEL.out; omega) HRZ.out HN.out (by omega) HSR.out HF6.out)
        rw [← HV.out] at HSP
        clear hW6 hbs hb56
        go_wp2_with (first | (rw [← HW6.out, ← HBS.out]; refine HSP.out.mono ?_; rintro e w9 ⟨v9, rfl, hov9, hfl9, hkp9⟩; obtain ⟨Av, cv, rfl, hcv, hrv⟩ := ownV_rdO hov9 (show b < W6.heap.size by omega)))
        have HRW9 := Lib.hid (show Row w9 b 3 ((dset (List.replicate S (-1)) (V.take 0)).map (Value.int .i64)) from (hkp9.block b (by omega) (by omega)).trans HRW6.out)
        have HB9 := Lib.hid (below_kpo HB6.out hkp9 (by omega) (by omega))
        have hbsz9 : b < w9.heap.size := HRW9.out.lt
        have HRV := Lib.hid hrv
        obtain ⟨L, hL⟩ : ∃ L, L = V.length := ⟨_, rfl⟩
        rw [← hL] at hcv hrv HRV ⊢
        have HL := Lib.hid hL
        have HK9 := Lib.hid (KpO.refl w9 b)
        clear hov9 hfl9 hkp9 hrv hL
        go_loopw [10, 36] (fun _ iv wr => ∃ t : Nat, t ≤ L ∧ iv = .int .i64 t ∧ Hid (Row wr b 3 ((dset (List.replicate S (-1)) (V.take t)).map (Value.int .i64))) ∧ Hid (KpO w9 wr b)) (fun _ iv _ => L - (intOf iv).toNat)
        case atStart => exact ⟨0, Nat.zero_le _, rfl, HRW9, HK9⟩
        case round =>
          clear HRW9 HK9
          obtain ⟨t, ht, rfl, hrow, hkp⟩ := hrel
          by_cases hlt : t < L
          · obtain ⟨x, hx⟩ : ∃ x, V[t]? = some x := ⟨_, List.getElem?_eq_getElem (by rw [← HL.out]; exact hlt)⟩
            obtain ⟨gv, rfl, hgv, hvv⟩ := HRV.out (by omega)
            obtain ⟨e0, e1, e2, e3⟩ := hvv t x hx
            have d0 := (hkp.out.cell (b := gv) (o := t * 4) hgv.1 hgv.2).trans e0
            have d1 := (hkp.out.cell (b := gv) (o := t * 4 + 1) hgv.1 hgv.2).trans e1
            have d2 := (hkp.out.cell (b := gv) (o := t * 4 + 2) hgv.1 hgv.2).trans e2
            have d3 := (hkp.out.cell (b := gv) (o := t * 4 + 3) hgv.1 hgv.2).trans e3
            have hxr := HVO.out.rg x (List.mem_of_getElem? hx)
            have HTK := Lib.hid (show V.take (t + 1) = V.take t ++ [x] from by rw [List.take_add_one, hx]; rfl)
            obtain ⟨xs, xd, xe, xb⟩ := x
            simp only at d0 d1 d2 d3 hxr
            obtain ⟨q, hq⟩ : ∃ q : Nat, xs = (q : Int) := ⟨xs.toNat, by omega⟩
            subst hq
            have hqS : q < S := by omega
            obtain ⟨Wx, hWx⟩ : ∃ W, W = wr.alloc (.cells #[.int .i64 (q : Int), .int .i64 xd, .int .i64 xe, .int .i64 xb] 95) := ⟨_, rfl⟩
            obtain ⟨Bx, hBx⟩ : ∃ g, g = wr.heap.size := ⟨_, rfl⟩
            have hbw : Below wr.heap.size wr Wx := by rw [hWx]; exact (Below.refl _ _).alloc (Nat.le_refl _) _
            have HBX := Lib.hid (show Row Wx Bx 95 [.int .i64 (q : Int), .int .i64 xd, .int .i64 xe, .int .i64 xb] from by rw [hWx, hBx]; exact Row.new _ _ _)
            have hrx := hrow.out.below hbw hrow.out.lt
            have b0 := HBX.out.cell 0 rfl
            have b1 := HBX.out.cell 1 rfl
            have c1 := hrx.int (j := q) (by rw [dset_len, List.length_replicate]; exact hqS)
            have f1 := hrx.frozen q
            have HS := Lib.hid (show Row (Wx.setCell ⟨b, q, none⟩ (.int .i64 xd)) b 3 ((dset (List.replicate S (-1)) (V.take (t + 1))).map (Value.int .i64)) from by
              have := row_setI hrx q xd; rw [HTK.out, dset_snoc]; exact this)
            have HK := Lib.hid ((hkp.out.belowT hbw).set q (.int .i64 xd))
            have z0 : (0 : Int) ≤ (t : Int) := by omega
            have z1 : (t : Int) < (L : Int) := by omega
            have z2 : (0 : Int) ≤ (q : Int) := by omega
            have z3 : (q : Int) < (S : Int) := by omega
            have HWX := Lib.hid hWx
            have HBXE := Lib.hid hBx
            clear hWx hBx hbw hrx e0 e1 e2 e3 hvv hx hrow hkp
            go_upto_region 13 with fail
            rw [← HWX.out, ← HBXE.out]
            go_wp2_with fail
            go_roundw
            case rel => exact ⟨t + 1, by omega, by go_num, HS, HK⟩
            case measure => simp [intOf]; omega
          · obtain rfl : L = t := by omega
            go_wp2_with fail
            go_ret2
            have hF := hrow.out
            rw [List.take_of_length_le (by rw [← HL.out]; exact Nat.le_refl _)] at hF
            exact ⟨_, rfl, by rw [HRR.out]; unfold disS; rw [← HV.out]; exact own_rowI hF (by rw [dset_len, List.length_replicate]) (by omega) (by omega), below_kpo HB9.out hkp.out (by omega) HB9.out.size⟩
  · have hbn : (r != 0) = true := by simp [h0]
    go_wp2_with fail
    go_ret2
    exact ⟨_, rfl, by first | exact World.ownsRow_nil _ _ _ _ | (rw [if_neg h0]; exact World.ownsRow_nil _ _ _ _), HB2.out⟩
end Go.Proofs.Ytceldgcmjmfjfaa

/- slices.Reverse over a list of ints of the call's own. -/
namespace Go.Proofs.Ytceldgcmjmfjfaa
open Go.RowKit Go.Sort Go.Lib

set_option maxHeartbeats 1600000 in
set_option maxRecDepth 1000000 in
theorem reverse_arr (blk off cap : Nat) (d : Array Int) (w : World) (hH : Holds (Value.int .i64) w blk off d) (hsz : d.size ≤ 9223372036854775807) :
    Calls Try.prog 86 #[.slice (some ⟨blk, off, none⟩) d.size cap] w fun e w' => e = .returned (.tuple #[]) ∧ ∃ n, w' = putRow (Value.int .i64) (Sort.ahead w n) blk off d.reverse := by
  go_enter Try.func86, Try.ntmps86
  go_wp2
  go_loopg [2, 3] d.size (fun k s2 s3 wr => ∃ (i jn : Nat) (jz : Int) (dk : Array Int) (n : Nat), s2 = .int .i64 i ∧ s3 = .int .i64 jz ∧ ((i : Int) < jz → jz = jn ∧ jn < d.size) ∧ (¬ (i : Int) < jz → ¬ i < jn) ∧ jn - i ≤ k ∧
    dk.size = d.size ∧ wr = putRow (Value.int .i64) (Sort.ahead w n) blk off dk ∧ reverseLoop i jn dk = reverseLoop 0 (d.size - 1) d)
  case atStart => exact ⟨0, d.size - 1, (d.size : Int) - 1, d, 0, rfl, rfl, fun h => ⟨by omega, by omega⟩, fun h => by omega, by omega, rfl, (putRow_self (Value.int .i64) w blk off d hH).symm, rfl⟩
  case round =>
    obtain ⟨i, jn, jz, dk, n, rfl, rfl, h1, h2, hk, hds, hwr, heq⟩ := hrel
    by_cases hlt : (i : Int) < jz
    · obtain ⟨rfl, hjn⟩ := h1 hlt
      have hij : i < jn := by omega
      have hHk : Holds (Value.int .i64) wr blk off dk := by rw [hwr]; exact holds_putRow (Value.int .i64) _ blk off d dk (holds_ahead (Value.int .i64) w n blk off d hH) hds
      obtain ⟨ci, fi⟩ := hHk i (by omega)
      obtain ⟨cj, fj⟩ := hHk jn (by omega)
      have A : Aside (wr = putRow (Value.int .i64) (Sort.ahead w n) blk off dk) := hwr
      clear hwr hHk hH h1 h2
      have hi2 : i < d.size := by omega
      go_wp2_with fail
      go_region_law (fail)
      all_goals
        go_wp2_with fail
        go_roundg (jn - 1 - (i + 1))
        case measure => omega
        case rel =>
          rw [reverseLoop, if_pos hij] at heq
          exact ⟨i + 1, jn - 1, (jn : Int) - 1, swp dk i jn, n + 1, by simp, rfl, fun h => ⟨by omega, by omega⟩, fun h => by omega, Nat.le_refl _, by rw [size_swp]; exact hds,
            swap_world (Value.int .i64) (by omega) (by omega) A.out (by first | rfl | simp [getElem!_pos, show jn < dk.size by omega]) (by first | rfl | simp [getElem!_pos, show i < dk.size by omega]), heq⟩
    · have hnot := h2 hlt
      go_wp2
      go_end0
      refine ⟨rfl, n, ?_⟩
      rw [reverseLoop, if_neg hnot] at heq
      rw [← Lib.reverseLoop_reverse, ← heq]
theorem reverse_own {base : Nat} {v : Value} {zs : List Int} (w : World) (h : Own w base v zs) (hl : zs.length ≤ 1000000) :
    Calls Try.prog 86 #[v] w fun e w' => e = .returned (.tuple #[]) ∧ Own w' base v zs.reverse ∧ w.grownBy w' v.ownBlock := by
  rcases h.2 with ⟨rfl, h0⟩ | ⟨g, cap, cur, rfl, hb, hh, hn, hcap, hsz, htake⟩
  · have hz : zs = [] := List.eq_nil_of_length_eq_zero h0
    subst hz
    go_enter Try.func86, Try.ntmps86
    go_wp2
    go_loop [2, 3] (fun a b => a = .int .i64 0 ∧ b = .int .i64 (-1)) (fun _ _ => 0)
    case atStart => exact ⟨rfl, rfl⟩
    case round =>
      obtain ⟨rfl, rfl⟩ := hrel
      go_wp2
      go_end0
      exact ⟨rfl, by simpa using h, ⟨rfl, rfl, rfl, Nat.le_refl _, fun _ _ _ => rfl⟩⟩
  · rw [Nat.mul_one] at htake hsz
    have hH := holds_of_blockI (ss := zs) hh htake
    have hcon := reverse_arr g 0 cap zs.toArray w hH (by simp; omega)
    rw [List.size_toArray] at hcon
    refine hcon.mono ?_
    rintro e w' ⟨rfl, n, rfl⟩
    have e1 : putRow (Value.int .i64) (Sort.ahead w n) g 0 zs.toArray.reverse = grow (putRow (Value.int .i64) (Sort.ahead w n) g 0 zs.reverse.toArray) #[] := by
      rw [List.reverse_toArray]; simp [grow]; rfl
    rw [e1]
    refine ⟨rfl, ?_, grownBy_sortedI _⟩
    have := ownsRow_sortedI (base := base) (n := n) (os := #[]) (ss := zs) (ts := zs.reverse) (by simp) hb hh hn hcap (by omega)
    unfold Own
    rw [List.length_reverse]
    exact this
end Go.Proofs.Ytceldgcmjmfjfaa

/- Layer 4: wordTo. -/
namespace Go.Proofs.Ytceldgcmjmfjfaa
open Go.RowKit Go.Sort

/-- The events back from a visit. -/
def bkN (V : List Vi) : Nat → Nat → List Int
  | 0, _ => []
  | k + 1, i => match V[i]? with | none => [] | some p => if p.b < 0 then [] else p.e :: bkN V k p.b.toNat
def wdV (V : List Vi) (i : Nat) : List Int := (bkN V V.length i).reverse
def BkOk (V : List Vi) : Prop := ∀ (j : Nat) (p : Vi), V[j]? = some p → p.b < (j : Int)
theorem bkN_len (V : List Vi) : ∀ k i, (bkN V k i).length ≤ k
  | 0, _ => Nat.le_refl _
  | k + 1, i => by
    rw [bkN]
    split
    · exact Nat.zero_le _
    · split
      · exact Nat.zero_le _
      · simpa using bkN_len V k _
set_option maxHeartbeats 4000000 in
set_option maxRecDepth 100000 in
theorem gWordTo_any (Av : Option Addr) (L cv : Nat) (V : List Vi) (i : Nat) (w : World) (hr : RdV w w.heap.size Av V) (hl : V.length = L) (hi : i < L) (hL : L ≤ 100000) (hbk : BkOk V) :
    Calls Try.prog 65 #[.slice Av L cv, .int .i64 (i : Int)] w fun e w' => ∃ v, e = .returned v ∧ Own w' w.heap.size v (wdV V i) ∧ Below w.heap.size w w' := by
  have HR := Lib.hid hr
  have HL := Lib.hid hl
  have HBK := Lib.hid hbk
  obtain ⟨T, hT⟩ : ∃ T, T = bkN V L i := ⟨_, rfl⟩
  have HTL := Lib.hid (show T.length ≤ L from by rw [hT]; exact bkN_len V L i)
  have HW := Lib.hid (show wdV V i = T.reverse from by unfold wdV; rw [hT, hl])
  have HT := Lib.hid (show ([] : List Int) ++ bkN V L i = T from hT.symm)
  obtain ⟨iI, iI0, iI1, iI2, iI3⟩ := info_parts info_int
  have HO0 := Lib.hid (show Own w w.heap.size (.slice none 0 0) [] from World.ownsRow_nil _ _ _ _)
  have HB0 := Lib.hid (Below.refl w.heap.size w)
  clear hr hl hbk hT
  go_enter Try.func65, Try.ntmps65
  go_wp2_with fail
  go_loopw [1, 5] (fun iv v wr => ∃ (j k : Nat) (acc : List Int), iv = .int .i64 j ∧ j < L ∧ j < k ∧ Hid (acc ++ bkN V k j = T) ∧ Hid (Own wr w.heap.size v acc) ∧ Hid (Below w.heap.size w wr)) (fun iv _ _ => (intOf iv).toNat)
  case atStart => exact ⟨i, L, [], rfl, hi, hi, HT, HO0, HB0⟩
  case round =>
    clear HT HO0 HB0 hi
    obtain ⟨j, k, acc, rfl, hjL, hjk, hT, hown, hbel⟩ := hrel
    obtain ⟨x, hx⟩ : ∃ x, V[j]? = some x := ⟨_, List.getElem?_eq_getElem (by rw [HL.out]; exact hjL)⟩
    obtain ⟨b, off, rfl, hb, hvv⟩ := HR.out (by rw [HL.out]; omega)
    obtain ⟨e0, e1, e2, e3⟩ := hvv j x hx
    have d2 := (hbel.out.cell (p := ⟨b, off + j * 4 + 2, none⟩) hb).trans e2
    have d3 := (hbel.out.cell (p := ⟨b, off + j * 4 + 3, none⟩) hb).trans e3
    have hxb := HBK.out j x hx
    have hT' := hT.out
    obtain ⟨k, rfl⟩ : ∃ k', k = k' + 1 := ⟨k - 1, by omega⟩
    rw [bkN, hx] at hT'
    simp only at hT'
    obtain ⟨xs, xd, xe, xb⟩ := x
    simp only at d2 d3 hxb hT'
    have z0 : (0 : Int) ≤ (j : Int) := by omega
    have z1 : (j : Int) < (L : Int) := by omega
    by_cases h0 : xb < 0
    · rw [if_pos h0, List.append_nil] at hT'
      subst hT'
      have z2 : ¬ (0 : Int) ≤ xb := by omega
      have HO := hown
      clear e0 e1 e2 e3 hvv hx
      go_wp2_with fail
      refine (reverse_own (base := w.heap.size) _ hown.out (by have := HTL.out; omega)).mono ?_
      rintro e w5 ⟨rfl, hor, hgr⟩
      have HB5 := Lib.hid (hbel.out.grown hgr hbel.out.size (fun i hi => (hown.out.lt i hi).1))
      go_wp2_with fail
      go_ret
      exact ⟨_, rfl, by rw [HW.out]; exact hor, HB5.out⟩
    · rw [if_neg h0] at hT'
      obtain ⟨p, hp⟩ : ∃ p : Nat, xb = (p : Int) := ⟨xb.toNat, by omega⟩
      subst hp
      have z2 : (0 : Int) ≤ (p : Int) := by omega
      have HT2 := Lib.hid (show (acc ++ [xe]) ++ bkN V k p = T from by simpa using hT')
      have hal : acc.length + 1 ≤ 100000 := by
        have h1 := congrArg List.length HT2.out
        have h2 := HTL.out
        simp at h1; omega
      have hz := hbel.out.size
      obtain ⟨M, hM⟩ : ∃ M, M = acc.length := ⟨_, rfl⟩
      rw [← hM] at hal
      have hO := hown.out
      unfold Own at hO
      rw [← hM] at hO
      have HOL := Lib.hid hO
      have HM := Lib.hid hM
      have HD3 := Lib.hid d3
      clear e0 e1 e2 e3 hvv hx hT' hM hO
      go_wp2_with (at_builtin; refine wpList_append_own_at _ rfl _ _ 27 rfl w.heap.size 3 iI (.int .i64 0) 1 8 Try.underlying27 iI0 iI1 iI2 iI3 rfl (by decide) _ M (acc.map (Value.int .i64)) rfl (HOL.out.alloc _) ⟨wr.heap.size, 0, none⟩ 1 1 [.int .i64 xe] rfl rfl (news_one rfl) (by intro u hu; simp at hu; subst hu; rfl) (by unfold maxLen; omega) (by omega) (by simp; omega) ?_)
      intro v6 w6 hown6 hgrow6 _ _
      have hO6 := Lib.hid (show Own w6 w.heap.size v6 (acc ++ [xe]) by unfold Own; rw [List.length_append, List.map_append, ← HM.out]; exact hown6)
      have hB6 := Lib.hid ((hbel.out.alloc hz (.cells #[.int .i64 xe] 3)).grown hgrow6 (by simp; omega) (fun i hi => (HOL.out.lt i hi).1))
      have d3' := (hB6.out.cell (p := ⟨b, off + j * 4 + 3, none⟩) hb).trans ((hbel.out.cell (p := ⟨b, off + j * 4 + 3, none⟩) hb).symm.trans d3)
      clear hown6 hgrow6 d2 d3
      go_wp2_with fail
      go_roundw
      case rel => exact ⟨p, k, acc ++ [xe], rfl, by omega, by omega, HT2, hO6, hB6⟩
      case measure => simp [intOf]; omega
end Go.Proofs.Ytceldgcmjmfjfaa

/- Layer 4: the first visit of which something is true; the closure of Path. -/
namespace Go.Proofs.Ytceldgcmjmfjfaa
open Go.RowKit Go.Sort

def viL (x : Vi) : Value := .agg #[.int .i64 x.s, .int .i64 x.d, .int .i64 x.e, .int .i64 x.b]
def fiV (p : Vi → Bool) (V : List Vi) : Option Nat := V.findIdx? p
def optI : Option Nat → Int
  | none => -1
  | some i => (i : Int)
theorem fi_yes {p : Vi → Bool} {V : List Vi} {t : Nat} {x : Vi} (h : ∀ y ∈ V.take t, p y = false) (hx : V[t]? = some x) (hp : p x = true) : fiV p V = some t := by
  obtain ⟨ht, e⟩ := List.getElem?_eq_some_iff.1 hx
  unfold fiV
  rw [List.findIdx?_eq_some_iff_getElem]
  refine ⟨ht, by rw [e]; exact hp, fun j hj => ?_⟩
  have := h (V[j]'(by omega)) (List.mem_take_iff_getElem.2 ⟨j, by omega, rfl⟩)
  simp [this]
theorem fi_no {p : Vi → Bool} {V : List Vi} (h : ∀ y ∈ V, p y = false) : fiV p V = none := by
  unfold fiV
  rw [List.findIdx?_eq_none_iff]
  exact h
set_option maxHeartbeats 4000000 in
set_option maxRecDepth 100000 in
theorem gIdxV_any (A : Option Addr) (L c : Nat) (V : List Vi) (fn : Nat) (caps : Array Value) (p : Vi → Bool) (w : World) (hcf : ∀ args W, (callFunc fn args).run Try.prog W = .ok (.enter fn args) W)
    (hp : ∀ x ∈ V, ∀ W, Below w.heap.size w W → Calls Try.prog fn (#[viL x] ++ caps) W fun e w' => e = .returned (.bool (p x)) ∧ Below W.heap.size W w')
    (hr : RdV w w.heap.size A V) (hl : V.length = L) (hL : L ≤ 100000) :
    Calls Try.prog 63 #[.slice A L c, .func (.func fn) #[] caps] w fun e w' => e = .returned (.int .i64 (optI (fiV p V))) ∧ Below w.heap.size w w' := by
  have HR := Lib.hid hr
  have HL := Lib.hid hl
  have HP := Lib.hid hp
  have HB0 := Lib.hid (Below.refl w.heap.size w)
  have HF0 := Lib.hid (show ∀ y ∈ V.take 0, p y = false from fun y hy => by simp at hy)
  obtain ⟨r, hr'⟩ : ∃ r, r = optI (fiV p V) := ⟨_, rfl⟩
  rw [← hr']
  have HRE := Lib.hid hr'
  clear hr hl hp hr'
  go_enter Try.func63, Try.ntmps63
  go_wp2_with fail
  go_loopw [5, 8] (fun _ iv wr => ∃ t : Nat, t ≤ L ∧ iv = .int .i64 t ∧ Hid (∀ y ∈ V.take t, p y = false) ∧ Hid (Below w.heap.size w wr)) (fun _ iv _ => L - (intOf iv).toNat)
  case atStart => exact ⟨0, Nat.zero_le _, rfl, HF0, HB0⟩
  case round =>
    clear HB0 HF0
    obtain ⟨t, ht, rfl, hf, hbel⟩ := hrel
    by_cases hlt : t < L
    · obtain ⟨b, off, rfl, hb, hvv⟩ := HR.out (by rw [HL.out]; omega)
      obtain ⟨x, hx⟩ : ∃ x, V[t]? = some x := ⟨_, List.getElem?_eq_getElem (by rw [HL.out]; exact hlt)⟩
      obtain ⟨e0, e1, e2, e3⟩ := hvv t x hx
      have d0 := (hbel.out.cell (p := ⟨b, off + t * 4, none⟩) hb).trans e0
      have d1 := (hbel.out.cell (p := ⟨b, off + t * 4 + 1, none⟩) hb).trans e1
      have d2 := (hbel.out.cell (p := ⟨b, off + t * 4 + 2, none⟩) hb).trans e2
      have d3 := (hbel.out.cell (p := ⟨b, off + t * 4 + 3, none⟩) hb).trans e3
      have HC := Lib.hid (HP.out x (List.mem_of_getElem? hx) wr hbel.out)
      obtain ⟨q, hq⟩ : ∃ q, p x = q := ⟨_, rfl⟩
      rw [hq] at HC
      have HQ := Lib.hid hq
      have HXX := Lib.hid hx
      obtain ⟨xs, xd, xe, xb⟩ := x
      simp only at d0 d1 d2 d3
      unfold viL at HC
      simp only at HC
      have z0 : (0 : Int) ≤ (t : Int) := by omega
      have z1 : (t : Int) < (L : Int) := by omega
      clear e0 e1 e2 e3 hvv hx hq
      go_wp2_with fail
      refine HC.out.mono ?_
      rintro e w5 ⟨rfl, hb5⟩
      have HB5 := Lib.hid (hbel.out.trans (hb5.mono hbel.out.size))
      clear hb5 d0 d1 d2 d3
      cases q
      · have HF := Lib.hid (show ∀ y ∈ V.take (t + 1), p y = false from fun y hy => by
          rw [List.take_add_one, HXX.out] at hy
          rcases List.mem_append.1 hy with hy | hy
          · exact hf.out y hy
          · simp at hy; subst hy; exact HQ.out)
        go_wp2_with fail
        go_roundw
        case rel => exact ⟨t + 1, by omega, by go_num, HF, HB5⟩
        case measure => simp [intOf]; omega
      · have HE := Lib.hid (show r = (t : Int) from by rw [HRE.out, fi_yes hf.out HXX.out HQ.out]; rfl)
        go_wp2_with fail
        go_ret
        exact ⟨by rw [HE.out]; rfl, HB5.out⟩
    · obtain rfl : L = t := by omega
      have HE := Lib.hid (show r = -1 from by
        rw [HRE.out, fi_no (fun y hy => hf.out y (by rw [List.take_of_length_le (by rw [HL.out]; exact Nat.le_refl _)]; exact hy))]; rfl)
      go_wp2_with fail
      go_ret
      exact ⟨by rw [HE.out]; rfl, hbel.out⟩
set_option maxHeartbeats 1000000 in
theorem gPa1_any (bs : Nat) (f : Nat → Bool) (x : Vi) (w : World) (h : Row w bs 76 (flV f)) (hq : 0 ≤ x.s ∧ x.s < 4096) :
    Calls Try.prog 64 #[viL x, .pointer (some ⟨bs, 0, none⟩)] w fun e w' => e = .returned (.bool (f x.s.toNat)) ∧ Below w.heap.size w w' := by
  obtain ⟨xs, xd, xe, xb⟩ := x
  simp only at hq
  obtain ⟨q, rfl⟩ : ∃ q : Nat, xs = (q : Int) := ⟨xs.toNat, by omega⟩
  unfold viL
  simp only [Int.toNat_natCast]
  have hb1 : Below w.heap.size w (w.alloc (.cells #[.int .i64 (q : Int), .int .i64 xd, .int .i64 xe, .int .i64 xb] 95)) := (Below.refl _ _).alloc (Nat.le_refl _) _
  have hr := Row.new w [.int .i64 (q : Int), .int .i64 xd, .int .i64 xe, .int .i64 xb] 95
  have c1 := hr.cell 0 rfl
  have c2 := flag_cell (h.below hb1 h.lt) (show q < 4096 by omega)
  have HB := Lib.hid hb1
  have z0 : (0 : Int) ≤ (q : Int) := by omega
  have z1 : (q : Int) < 4096 := by omega
  clear h hr hb1
  go_enter Try.func64, Try.ntmps64
  go_wp2_with fail
  go_ret
  exact ⟨rfl, HB.out⟩
theorem cfPa : ∀ args W, (callFunc 64 args).run Try.prog W = .ok (.enter 64 args) W := fun args W => by go_simp
end Go.Proofs.Ytceldgcmjmfjfaa

/- Layer 4: the checks of Path. -/
namespace Go.Proofs.Ytceldgcmjmfjfaa
open Go.RowKit Go.Sort

theorem bk_fnd {B : Nat → Bool} {V : List Vi} {v : Vi} (h : BkOk V) (hv : v.b < (V.length : Int)) : BkOk (fndV B V v) := by
  unfold fndV
  split
  · exact h
  · intro j p hp
    rcases Nat.lt_or_ge j V.length with hj | hj
    · rw [List.getElem?_append_left hj] at hp; exact h j p hp
    · rw [List.getElem?_append_right hj] at hp
      cases hd : j - V.length with
      | zero => rw [hd] at hp; simp at hp; subst hp; omega
      | succ k => rw [hd] at hp; simp at hp
theorem bk_eds {B : Nat → Bool} {i : Nat} {p : Vi} : ∀ (l : List Ed) (V : List Vi), BkOk V → i < V.length → BkOk (edsV B i p V l)
  | [], _, h, _ => h
  | x :: l, V, h, hi => bk_eds l _ (bk_fnd h (by show (i : Int) < _; omega)) (Nat.lt_of_lt_of_le hi (fndV_pre B V _).length_le)
theorem bk_frl {B : Nat → Bool} : ∀ (fr : List Int) (V : List Vi), BkOk V → BkOk (fr.foldl (fun V q => fndV B V (viI q)) V)
  | [], _, h => h
  | q :: fr, V, h => bk_frl fr _ (bk_fnd h (by show (-1 : Int) < _; omega))
theorem spN_bk {B : Nat → Bool} {es : List Ed} {fr : List Int} : ∀ n, BkOk (spN B es fr n)
  | 0 => bk_frl fr [] (fun j p h => by simp at h)
  | n + 1 => by
    have ih := spN_bk (B := B) (es := es) (fr := fr) n
    rw [spN]
    cases hp : (spN B es fr n)[n]? with
    | none => exact ih
    | some p => exact bk_eds _ _ ih (List.getElem?_eq_some_iff.1 hp).1
def paE (a : Au) (fr : Int) (ts ws : List Int) : Int := fstE [chkE a, gstE a.st [fr], gstE a.st ts, gstE a.st ws]
theorem fst_zero4 {x y z u : Int} (h : fstE [x, y, z, u] = 0) : x = 0 ∧ y = 0 ∧ z = 0 ∧ u = 0 := by
  simp only [fstE] at h
  by_cases hx : x = 0
  · by_cases hy : y = 0
    · by_cases hz : z = 0
      · by_cases hu : u = 0
        · exact ⟨hx, hy, hz, hu⟩
        · simp [hx, hy, hz, hu] at h
      · simp [hx, hy, hz] at h
    · simp [hx, hy] at h
  · simp [hx] at h
theorem pa_zero {a : Au} {fr : Int} {ts ws : List Int} (h : paE a fr ts ws = 0) : Right a ∧ (0 ≤ fr ∧ fr < a.st) ∧ (∀ x ∈ ts, 0 ≤ x ∧ x < a.st) ∧ ∀ x ∈ ws, 0 ≤ x ∧ x < a.st := by
  have := fst_zero4 h
  exact ⟨right_of this.1, (right_of this.2.1).mrr fr (List.mem_singleton.2 rfl), (right_of this.2.2.1).mrr, (right_of this.2.2.2).mrr⟩
theorem rd_four {w : World} {x y z u : Int} : RdI (w.alloc (.cells #[.int .i64 x, .int .i64 y, .int .i64 z, .int .i64 u] 32)) (w.alloc (.cells #[.int .i64 x, .int .i64 y, .int .i64 z, .int .i64 u] 32)).heap.size (some ⟨w.heap.size, 0, none⟩) [x, y, z, u] := fun _ => ⟨w.heap.size, 0, rfl, by simp, fun j hj => by
  match j, hj with
  | 0, _ => rw [World.cell?_alloc_at _ _ _ _ rfl]; rfl
  | 1, _ => rw [World.cell?_alloc_at _ _ _ _ rfl]; rfl
  | 2, _ => rw [World.cell?_alloc_at _ _ _ _ rfl]; rfl
  | 3, _ => rw [World.cell?_alloc_at _ _ _ _ rfl]; rfl
  | j + 4, hj => (simp at hj) <;> omega⟩
theorem rd_fourD {w : World} {x y z u : Int} : RdI (w.alloc (.cells #[.int .i64 x, .int .i64 y, .int .i64 z, .int .i64 u] 32)).drew (w.alloc (.cells #[.int .i64 x, .int .i64 y, .int .i64 z, .int .i64 u] 32)).drew.heap.size (some ⟨w.heap.size, 0, none⟩) [x, y, z, u] := rd_four
theorem Row.newE (w : World) (cs : List Value) (e : TypeId) {g : Nat} (hg : w.heap.size = g) : Row (w.alloc (.cells cs.toArray e)) g e cs := by subst hg; exact Row.new w cs e
theorem RdV.more {w : World} {B B' : Nat} {A : Option Addr} {l : List Vi} (h : RdV w B A l) (hB : B ≤ B') : RdV w B' A l := fun h0 => by
  obtain ⟨b, off, e, hb, hc⟩ := h h0
  exact ⟨b, off, e, by omega, hc⟩
theorem BoxA.allocG {w : World} {b : Nat} {A : Option Addr} {n c : Nat} {s : Int} {M : Option Addr} {m d : Nat} {E : Option Addr} {k g : Nat} (h : BoxA w b A n c s M m d E k g) (hb : b < w.heap.size) (o : Obj) : BoxA (w.alloc o) b A n c s M m d E k g :=
  h.below ((Below.refl _ _).alloc (Nat.le_refl _) o) hb
theorem row_oneR {W : World} {b : Nat} {x : Int} (h : Row W b 3 [.int .i64 x]) : RdI W W.heap.size (some ⟨b, 0, none⟩) [x] := Row.rd (zs := [x]) h
theorem row_setRowO {w : World} {g b : Nat} {e : TypeId} {cs : List Value} (h : Row w g e cs) (hne : b ≠ g) (c : Array Value) : Row (w.setRow b c) g e cs := by
  unfold Row World.setRow at *
  simp only [Array.getElem?_modify]
  rw [if_neg hne]; exact h
theorem flags_store {w : World} {g : Nat} {f f' : Nat → Bool} (h : Row w g 76 (flV f)) : (storeCells ⟨g, 0, none⟩ (flV f')).run Try.prog w = .ok () (w.setRow g (flV f').toArray) := by
  have := run_storeCells_from (P := Try.prog) g 76 (flV f') 0 (flV f).toArray w h (by simp [flV_len]) (fun v hv => (Array.all_eq_true_iff_forall_mem.1 (flV_one f')) v (by simpa using hv))
  simpa using this
def barF (ws : List Int) (t q : Nat) : Bool := if q < t then !inF ws q else inF ws q
theorem barF_zero (ws : List Int) : barF ws 0 = inF ws := by funext q; simp [barF]
theorem barF_set (ws : List Int) (t : Nat) : (fun p => if p = t then !inF ws t else barF ws t p) = barF ws (t + 1) := by
  funext p
  unfold barF
  by_cases h : p = t
  · subst h; simp
  · by_cases h2 : p < t
    · simp [h, h2, show p < t + 1 by omega]
    · simp [h, h2, show ¬ p < t + 1 by omega]
theorem barF_all (ws : List Int) : flV (barF ws 4096) = flV (fun q => !inF ws q) := by
  unfold flV flN
  apply List.map_congr_left
  intro q hq
  have := List.mem_range.1 hq
  unfold barF
  rw [if_pos this]
/-- The visits of Path. -/
def paV (S : Nat) (es : List Ed) (fr : Int) (ws : List Int) : List Vi := spV (fun q => !inF ws q) S es [fr]
def paI (ts : List Int) (V : List Vi) : Option Nat := fiV (fun x => inF ts x.s.toNat) V
def paO (a : Au) (fr : Int) (ts ws : List Int) : Option Nat := paI ts (paV a.st.toNat a.ed fr ws)
def wdO (V : List Vi) : Option Nat → List Int
  | none => []
  | some i => wdV V i
def paW (a : Au) (fr : Int) (ts ws : List Int) : List Int := wdO (paV a.st.toNat a.ed fr ws) (paO a fr ts ws)
set_option maxHeartbeats 8000000 in
set_option maxRecDepth 100000 in
theorem gPath_any (A : Option Addr) (n c : Nat) (s : Int) (M : Option Addr) (m d : Nat) (E : Option Addr) (k g : Nat) (a : Au) (fr : Int) (A2 : Option Addr) (n2 c2 : Nat) (ts : List Int) (A3 : Option Addr) (n3 c3 : Nat) (ws : List Int) (w : World) (h : AuR w w.heap.size A n c s M m d E k g a) (hx : RdI w w.heap.size A2 ts) (hn : ts.length = n2) (hc : n2 ≤ c2 ∧ c2 ≤ 9223372036854775807) (hb : n2 ≤ 100000)
    (hx3 : RdI w w.heap.size A3 ws) (hn3 : ws.length = n3) (hc3 : n3 ≤ c3 ∧ c3 ≤ 9223372036854775807) (hb3 : n3 ≤ 100000) :
    Calls Try.prog 28 #[.agg #[.slice A n c, .int .i64 s, .slice M m d, .slice E k g], .int .i64 fr, .slice A2 n2 c2, .slice A3 n3 c3] w fun e w' => ∃ v, e = .returned (.tuple #[v, .bool (decide (paE a fr ts ws = 0) && (paO a fr ts ws).isSome), .int .i64 (paE a fr ts ws)]) ∧ Own w' w.heap.size v (if paE a fr ts ws = 0 then paW a fr ts ws else []) ∧ Below w.heap.size w w' := by
  have hb1 := (Below.refl w.heap.size w).alloc (Nat.le_refl _) (.cells #[.slice A n c, .int .i64 s, .slice M m d, .slice E k g] 30)
  have HB1 := Lib.hid hb1
  have HX := Lib.hid (BoxA.made w A n c s M m d E k g 30)
  have HCA := Lib.hid (fun W (hW : Below w.heap.size w W) => mCheck_any A n c s M m d E k g a W ((h.below hW (Nat.le_refl _)).more hW.size))
  have HCF := Lib.hid (fun W b (hW : Below w.heap.size w W) (hr : Row W b 3 [.int .i64 fr]) => gCheckStates_any A n c s M m d E k g (some ⟨b, 0, none⟩) 1 1 [fr] W (row_oneR hr) rfl (by omega) (by omega))
  have HCT := Lib.hid (fun W (hW : Below w.heap.size w W) => gCheckStates_any A n c s M m d E k g A2 n2 c2 ts W ((hx.below hW (Nat.le_refl _)).more hW.size) hn hc hb)
  have HCW := Lib.hid (fun W (hW : Below w.heap.size w W) => gCheckStates_any A n c s M m d E k g A3 n3 c3 ws W ((hx3.below hW (Nat.le_refl _)).more hW.size) hn3 hc3 hb3)
  have HR := Lib.hid h
  have HI := Lib.hid hx
  have HI3 := Lib.hid hx3
  have HN := Lib.hid hn
  have HN3 := Lib.hid hn3
  have HST := Lib.hid h.st
  obtain ⟨u, hu⟩ : ∃ u, u = chkE a := ⟨_, rfl⟩
  obtain ⟨v, hv⟩ : ∃ v, v = gstE s [fr] := ⟨_, rfl⟩
  obtain ⟨x, hxe⟩ : ∃ x, x = gstE s ts := ⟨_, rfl⟩
  obtain ⟨y, hye⟩ : ∃ y, y = gstE s ws := ⟨_, rfl⟩
  obtain ⟨r, hr⟩ : ∃ r, r = paE a fr ts ws := ⟨_, rfl⟩
  have HRU := Lib.hid (show r = fstE [u, v, x, y] by rw [hr, paE, hu, hv, hxe, hye, HST.out])
  rw [← hu] at HCA
  rw [← hv] at HCF
  rw [← hxe] at HCT
  rw [← hye] at HCW
  rw [← hr]
  have HRE := Lib.hid hr
  clear h hb1 hr hx hn hx3 hn3 hu hv hxe hye
  obtain ⟨p0, p1, p2, p3⟩ := HX.out
  have HB1d := Lib.hid HB1.out.drew
  have HRF0 := Lib.hid (show Row ((w.alloc (.cells #[.slice A n c, .int .i64 s, .slice M m d, .slice E k g] 30)).alloc (.cells #[.int .i64 fr] 3)) (w.heap.size + 1) 3 [.int .i64 fr] from Row.newE _ [.int .i64 fr] _ (by simp))
  have HRF1 := Lib.hid (show Row ((w.alloc (.cells #[.slice A n c, .int .i64 s, .slice M m d, .slice E k g] 30)).alloc (.cells #[.int .i64 fr] 3)).drew (w.heap.size + 1) 3 [.int .i64 fr] from HRF0.out)
  go_enter Try.func28, Try.ntmps28
  go_wp2_with fail
  go_region_held3 (fun w' => w'.cell? ⟨w.heap.size, 0, none⟩ = some (.slice A n c) ∧ w'.cell? ⟨w.heap.size, 1, none⟩ = some (.int .i64 s) ∧ w'.cell? ⟨w.heap.size, 2, none⟩ = some (.slice M m d) ∧ w'.cell? ⟨w.heap.size, 3, none⟩ = some (.slice E k g)) (first | with_reducible exact ⟨p0, p1, p2, p3⟩ | go_keep)
    (first
    | (go_simp; go_at_call 42; (with_reducible refine (HCA.out _ (by first | exact HB1d.out | exact HB1.out | exact HB1d.out.alloc HB1d.out.size _ | exact (HB1d.out.alloc HB1d.out.size _).drew | exact HB1.out.alloc HB1.out.size _ | exact (HB1.out.alloc HB1.out.size _).drew)).mono ?_); rintro e w2 ⟨rfl, hb2⟩
       have HB2 := Lib.hid (show Below w.heap.size w w2 by first | exact HB1.out.trans (hb2.mono HB1.out.size) | exact HB1d.out.trans (hb2.mono HB1d.out.size) | exact (HB1d.out.alloc HB1d.out.size _).trans (hb2.mono (HB1d.out.alloc HB1d.out.size _).size) | exact (HB1d.out.alloc HB1d.out.size _).drew.trans (hb2.mono (HB1d.out.alloc HB1d.out.size _).drew.size))
       have HX2 := Lib.hid (show BoxA w2 w.heap.size A n c s M m d E k g by first | exact HX.out.below hb2 (by simp) | exact (HX.out.drewN 1).below hb2 (by simp) | exact ((HX.out.drewN 1).allocG (by simp) _).below hb2 (by simp; omega))
       have hsz2 : w.heap.size < w2.heap.size := by have h9 := hb2.size; simp at h9; omega
       have HBK := Lib.hid hb2
       obtain ⟨p0, p1, p2, p3⟩ := HX2.out
       clear hb2)
    | (go_simp; go_at_call 62; (with_reducible refine (HCF.out _ _ (by first | exact HB2.out | exact HB2.out.drew | exact HB2.out.alloc HB2.out.size _ | exact HB2.out.drew.alloc HB2.out.drew.size _ | exact (HB2.out.alloc HB2.out.size _).drew | exact (HB2.out.drew.alloc HB2.out.drew.size _).drew) (by first | exact Row.new _ [_] _ | exact (Row.newE _ [.int .i64 fr] _ (by simp)).below HBK.out (by simp) | exact HRF0.out.below HBK.out (by simp) | exact HRF1.out.below HBK.out (by simp))).mono ?_); rintro e w3 ⟨rfl, hb3'⟩
       have HB3 := Lib.hid (show Below w.heap.size w w3 by first | exact HB2.out.trans (hb3'.mono HB2.out.size) | exact HB2.out.drew.trans (hb3'.mono HB2.out.drew.size) | exact (HB2.out.alloc HB2.out.size _).trans (hb3'.mono (HB2.out.alloc HB2.out.size _).size) | exact (HB2.out.drew.alloc HB2.out.drew.size _).trans (hb3'.mono (HB2.out.drew.alloc HB2.out.drew.size _).size) | exact (HB2.out.alloc HB2.out.size _).drew.trans (hb3'.mono (HB2.out.alloc HB2.out.size _).drew.size))
       have hsz3 : w.heap.size < w3.heap.size := by have h9 := hb3'.size; (try simp at h9); omega
       have HX3 := Lib.hid (show BoxA w3 w.heap.size A n c s M m d E k g by first | exact HX2.out.below hb3' hsz2 | exact (HX2.out.drewN 1).below hb3' hsz2 | exact (HX2.out.allocG hsz2 _).below hb3' (by simp; omega) | exact ((HX2.out.drewN 1).allocG hsz2 _).below hb3' (by simp; omega))
       obtain ⟨p0, p1, p2, p3⟩ := HX3.out
       clear hb3')
    | (go_simp; go_at_call 62; (first | with_reducible refine (HCT.out _ HB3.out).mono ?_ | with_reducible refine (HCT.out _ HB3.out.drew).mono ?_); rintro e w4 ⟨rfl, hb4⟩
       have HB4 := Lib.hid (show Below w.heap.size w w4 by first | exact HB3.out.trans (hb4.mono HB3.out.size) | exact HB3.out.drew.trans (hb4.mono HB3.out.drew.size))
       have HX4 := Lib.hid (show BoxA w4 w.heap.size A n c s M m d E k g by first | exact HX3.out.below hb4 hsz3 | exact (HX3.out.drewN 1).below hb4 hsz3)
       have hsz4 : w.heap.size < w4.heap.size := by have h9 := hb4.size; (try simp at h9); omega
       obtain ⟨p0, p1, p2, p3⟩ := HX4.out
       clear hb4)
    | (go_simp; go_at_call 62; (first | with_reducible refine (HCW.out _ HB4.out).mono ?_ | with_reducible refine (HCW.out _ HB4.out.drew).mono ?_); rintro e w5 ⟨rfl, hb5⟩
       have HB5 := Lib.hid (show Below w.heap.size w w5 by first | exact HB4.out.trans (hb5.mono HB4.out.size) | exact HB4.out.drew.trans (hb5.mono HB4.out.drew.size))
       have HX5 := Lib.hid (show BoxA w5 w.heap.size A n c s M m d E k g by first | exact HX4.out.below hb5 hsz4 | exact (HX4.out.drewN 1).below hb5 hsz4)
       have hsz5 : w.heap.size < w5.heap.size := by have h9 := hb5.size; (try simp at h9); omega
       obtain ⟨p0, p1, p2, p3⟩ := HX5.out
       clear hb5)
    | (go_simp; go_at_call 61; (first | with_reducible refine (cmpOr_any _ 4 4 _ [u, v, x, y] _ rd_four rfl (by omega)).mono ?_ | with_reducible refine (cmpOr_any _ 4 4 _ [u, v, x, y] _ rd_fourD rfl (by omega)).mono ?_); rintro e w6 ⟨rfl, hw6⟩
       have HB6 := Lib.hid (show Below w.heap.size w w6 by rw [← hw6]; first | exact HB5.out.alloc HB5.out.size _ | exact (HB5.out.alloc HB5.out.size _).drew)
       have HX6 := Lib.hid (show BoxA w6 w.heap.size A n c s M m d E k g by rw [← hw6]; first | exact HX5.out.allocG hsz5 _ | exact (HX5.out.allocG hsz5 _).drewN 1)
       have hsz6 : w.heap.size < w6.heap.size := by rw [← hw6]; (try simp); omega
       rw [← HRU.out]
       obtain ⟨p0, p1, p2, p3⟩ := HX6.out
       clear hw6))
  all_goals
    by_cases h0 : r = 0
    · obtain ⟨hri, hfr, hts, hws⟩ := pa_zero (HRE.out.symm.trans h0)
      obtain ⟨S, hS⟩ : ∃ S : Nat, s = (S : Int) := ⟨s.toNat, by have := hri.st0; rw [HST.out] at this; omega⟩
      have hS4 : S ≤ 4096 := by have := hri.st1; rw [HST.out] at this; omega
      subst hS
      have HEO := Lib.hid (edOk_of hri HST.out)
      have HEL := Lib.hid (ed_le hri)
      have HTR := Lib.hid (show ∀ x ∈ ts, 0 ≤ x ∧ x < 4096 from fun x hx => by have := hts x hx; rw [HST.out] at this; omega)
      have HWR := Lib.hid (show ∀ x ∈ ws, 0 ≤ x ∧ x < 4096 from fun x hx => by have := hws x hx; rw [HST.out] at this; omega)
      have hfr2 : 0 ≤ fr ∧ fr < (S : Int) := by rw [HST.out] at hfr; exact hfr
      subst h0
      have HRV := Lib.hid (show paV a.st.toNat a.ed fr ws = paV S a.ed fr ws from by rw [HST.out]; simp)
      clear hri hfr hts hws
      go_wp2_with fail
      refine (gFlags_any A2 n2 c2 ts w6 ((HI.out.below HB6.out (Nat.le_refl _)).more HB6.out.size) HN.out hb HTR.out).mono ?_
      rintro e w7 ⟨rfl, hb7⟩
      have HB7 := Lib.hid (HB6.out.trans (hb7.mono (by omega)))
      have HX7 := Lib.hid (HX6.out.below hb7 hsz6)
      have hsz7 := hb7.size
      clear hb7 p0 p1 p2 p3
      obtain ⟨p0, p1, p2, p3⟩ := HX7.out
      go_wp2_with fail
      refine (gFlags_any A3 n3 c3 ws w7 ((HI3.out.below HB7.out (Nat.le_refl _)).more HB7.out.size) HN3.out hb3 HWR.out).mono ?_
      rintro e w8 ⟨rfl, hb8⟩
      have HB8 := Lib.hid (HB7.out.trans (hb8.mono (by omega)))
      have HX8 := Lib.hid (HX7.out.below hb8 (by omega))
      have hsz8 := hb8.size
      clear hb8 p0 p1 p2 p3
      obtain ⟨bi, hbi⟩ : ∃ b, b = w8.heap.size := ⟨_, rfl⟩
      obtain ⟨bj, hbj⟩ : ∃ b, b = w8.heap.size + 1 := ⟨_, rfl⟩
      obtain ⟨W8, hW8⟩ : ∃ W, W = (w8.alloc (.cells (flV fun _ => false).toArray 76)).alloc (.cells (flV fun _ => false).toArray 76) := ⟨_, rfl⟩
      have ha8 : Row W8 bi 76 (flV fun _ => false) := by rw [hW8, hbi]; exact (Row.new w8 _ _).alloc _
      have hc8 : Row W8 bj 76 (flV fun _ => false) := by rw [hW8, hbj]; exact Row.newE _ _ _ (by simp)
      have hd8 : Below w8.heap.size w8 W8 := by rw [hW8]; exact ((Below.refl _ _).alloc (Nat.le_refl _) _).alloc (by simp) _
      have hij : bi < bj := by omega
      have HSC1 := Lib.hid (flags_store (f' := inF ts) ha8)
      obtain ⟨W9, hW9⟩ : ∃ W, W = W8.setRow bi (flV (inF ts)).toArray := ⟨_, rfl⟩
      rw [← hW9] at HSC1
      have ha9 : Row W9 bi 76 (flV (inF ts)) := by rw [hW9]; exact setRow_heap _ _ _ (flV (inF ts)).toArray _ _ ha8
      have hc9 : Row W9 bj 76 (flV fun _ => false) := by rw [hW9]; exact row_setRowO hc8 (by omega) _
      have hd9 : Below w8.heap.size w8 W9 := by rw [hW9]; exact below_setRow hd8 (by omega) _
      have HSC2 := Lib.hid (flags_store (f' := inF ws) hc9)
      obtain ⟨W10, hW10⟩ : ∃ W, W = W9.setRow bj (flV (inF ws)).toArray := ⟨_, rfl⟩
      rw [← hW10] at HSC2
      have HA10 := Lib.hid (show Row W10 bi 76 (flV (inF ts)) from by rw [hW10]; exact row_setRowO ha9 (by omega) _)
      have HC10 := Lib.hid (show Row W10 bj 76 (flV (barF ws 0)) from by rw [hW10, barF_zero]; exact setRow_heap _ _ _ (flV (inF ws)).toArray _ _ hc9)
      have HD10 := Lib.hid (show Below w8.heap.size w8 W10 from by rw [hW10]; exact below_setRow hd9 (by omega) _)
      have HW8 := Lib.hid hW8
      have HBI := Lib.hid hbi
      have HBJ := Lib.hid hbj
      have hbi8 : w8.heap.size ≤ bi := by omega
      clear ha8 hc8 hd8 ha9 hc9 hd9 hW8 hW9 hW10 hbi hbj
      go_wp2_with fail
      rw [zero_flV, ← HBJ.out, ← HBI.out, ← HW8.out, HSC1.out]
      go_wp2_with fail
      rw [HSC2.out]
      go_wp2_with fail
      go_loopw [14, 38] (fun _ iv wr => ∃ t : Nat, t ≤ 4096 ∧ iv = .int .i64 t ∧ Hid (Row wr bj 76 (flV (barF ws t))) ∧ Hid (Row wr bi 76 (flV (inF ts))) ∧ Hid (Below w8.heap.size w8 wr)) (fun _ iv _ => 4096 - (intOf iv).toNat)
      case atStart => exact ⟨0, Nat.zero_le _, rfl, HC10, HA10, HD10⟩
      case round =>
        clear HC10 HA10 HD10 HSC1 HSC2 p0 p1 p2 p3
        obtain ⟨t, ht, rfl, hrow, hro2, hbel⟩ := hrel
        by_cases hlt : t < 4096
        · have z0 : (0 : Int) ≤ (t : Int) := by omega
          have z1 : (t : Int) < 4096 := by omega
          have c1 := flag_cell hrow.out hlt
          rw [show barF ws t t = inF ws t from by simp [barF]] at c1
          have f1 := hrow.out.frozen t
          have HS := Lib.hid (show Row (wr.setCell ⟨bj, t, none⟩ (.bool (!inF ws t))) bj 76 (flV (barF ws (t + 1))) from by
            have := hrow.out.set t (.bool (!inF ws t)); rwa [flV_set, barF_set] at this)
          have HS2 := Lib.hid (hro2.out.setOther (p := ⟨bj, t, none⟩) (by show bi ≠ bj; omega) (.bool (!inF ws t)))
          have HB := Lib.hid (hbel.out.setCell (p := ⟨bj, t, none⟩) (by simp; omega) (.bool (!inF ws t)))
          clear hrow hro2 hbel
          go_wp2_with fail
          go_roundw
          case rel => exact ⟨t + 1, by omega, by go_num, HS, HS2, HB⟩
          case measure => simp [intOf]; omega
        · obtain rfl : t = 4096 := by omega
          have HX9 := Lib.hid (HX8.out.below hbel.out (by omega))
          have HB9 := Lib.hid (HB8.out.trans (hbel.out.mono (by omega)))
          have hz9 := hbel.out.size
          have HJ9 := Lib.hid (show Row wr bj 76 (flV fun q => !inF ws q) from by have := hrow.out; rwa [barF_all] at this)
          have HA9 := hro2
          have hbj9 := HJ9.out.lt
          clear hrow hbel
          obtain ⟨p0, p1, p2, p3⟩ := HX9.out
          go_wp2_with fail
          refine (gGraphOf_any A n c (S : Int) M m d E k g a S 44 #[] (fun _ => true) wr cfAny (fun x _ W' _ => gAny_any x W') ((HR.out.below HB9.out (Nat.le_refl _)).more HB9.out.size) HEO.out rfl hS4).mono ?_
          rintro e w10 ⟨bg, rfl, hgr, hb10⟩
          have hw2 : Below wr.heap.size wr (w10.alloc (.cells #[.int .i64 fr] 3)) := hb10.alloc hb10.size _
          obtain ⟨bf, hbf⟩ : ∃ b, b = w10.heap.size := ⟨_, rfl⟩
          obtain ⟨W11, hW11⟩ : ∃ W, W = w10.alloc (.cells #[.int .i64 fr] 3) := ⟨_, rfl⟩
          have hz10 := hb10.size
          have HF11 := Lib.hid (show Row W11 bf 3 [.int .i64 fr] from by rw [hW11, hbf]; exact Row.new _ [_] _)
          have HG11 := Lib.hid (show GrM wr.heap.size W11.heap.size W11 bg S a.ed from by
            rw [filter_true] at hgr
            have h1 := hgr.below (w' := W11) (n := w10.heap.size) (by rw [hW11]; exact (Below.refl _ _).alloc (Nat.le_refl _) _) (Nat.le_refl _)
            exact ⟨⟨h1.1.1, by have := h1.1.2; rw [hW11]; simp; omega⟩, fun q hq => by
              obtain ⟨A', c', e1, e2⟩ := h1.2 q hq
              refine ⟨A', c', e1, fun h0 => ?_⟩
              obtain ⟨b', off', f1, f2, f3⟩ := e2 h0
              exact ⟨b', off', f1, ⟨f2.1, by have := f2.2; rw [hW11]; simp; omega⟩, f3⟩⟩)
          have HB11 := Lib.hid (show Below wr.heap.size wr W11 from by rw [hW11]; exact hw2)
          have HJ11 := Lib.hid (HJ9.out.below HB11.out hbj9)
          have HA11 := Lib.hid (HA9.out.below HB11.out (by omega))
          have HBF := Lib.hid hbf
          have HW11 := Lib.hid hW11
          have hzf : bf < W11.heap.size := HF11.out.lt
          have hjf : bj < bf := by omega
          have hz11 := HB11.out.size
          obtain ⟨V, hV⟩ : ∃ V, V = paV S a.ed fr ws := ⟨_, rfl⟩
          have HVO := Lib.hid (show VOk (fun q => !inF ws q) S V from by rw [hV]; exact spN_ok HEO.out (fun q hq => by rw [List.mem_singleton.1 hq]; exact hfr2) S)
          have HVB := Lib.hid (show BkOk V from by rw [hV]; exact spN_bk S)
          have HSP := Lib.hid (qSpread_any bg S a.ed (some ⟨bf, 0, none⟩) 1 1 bj [fr] (fun q => !inF ws q) W11 (HG11.out.toZ (Nat.le_refl _) (.inl hbj9)) HEO.out hS4 (by have := HEL.out; omega)
            (fun _ => ⟨bf, 0, rfl, ⟨hzf, by omega⟩, fun j hj => by
              have : j = 0 := by simp at hj; omega
              subst this
              exact HF11.out.cell 0 rfl⟩) rfl (by omega) (fun q hq => by rw [List.mem_singleton.1 hq]; exact hfr2) HJ11.out)
          rw [show spV (fun q => !inF ws q) S a.ed [fr] = V from by rw [hV, paV]] at HSP
          have HV := Lib.hid (HRV.out.trans hV.symm)
          clear hgr hb10 hw2 hbf hW11 hV p0 p1 p2 p3
          go_wp2_with fail
          rw [← HW11.out, ← HBF.out]
          refine HSP.out.mono ?_
          rintro e w12 ⟨v9, rfl, hov9, hfl9, hkp9⟩
          obtain ⟨Av, cv, rfl, hrv, hcv⟩ := ownV_rd hov9
          have HB12 := Lib.hid (below_kpo (HB9.out.trans (HB11.out.mono (by omega))) hkp9 (by omega) (by omega))
          have ha12 : Row w12 bi 76 (flV (inF ts)) := (hkp9.block bi (by omega) (by omega)).trans HA11.out
          have hz12 := hkp9.size
          have hlv := HVO.out.len
          have HIX := Lib.hid (gIdxV_any Av V.length cv V 64 #[.pointer (some ⟨bi, 0, none⟩)] (fun x => inF ts x.s.toNat) w12 cfPa (fun x hx W hW => gPa1_any bi (inF ts) x W (ha12.below hW ha12.lt) (by have := HVO.out.rg x hx; omega)) hrv rfl (by omega))
          obtain ⟨L, hL⟩ : ∃ L, L = V.length := ⟨_, rfl⟩
          have HRD := Lib.hid hrv
          obtain ⟨o, ho⟩ : ∃ o, o = fiV (fun x => inF ts x.s.toNat) V := ⟨_, rfl⟩
          rw [← ho] at HIX
          have HO := Lib.hid (show paO a fr ts ws = o from by unfold paO paI; rw [HV.out, ho])
          have HPW := Lib.hid (show paW a fr ts ws = wdO V o from by unfold paW; rw [HO.out, HV.out])
          have hoi : ∀ i, o = some i → i < V.length := fun i e => by
            rw [ho] at e
            exact (List.findIdx?_eq_some_iff_getElem.1 e).1
          rw [← hL] at HIX hoi hlv ⊢
          have HL := Lib.hid hL
          clear hov9 hfl9 hkp9 hrv hcv ha12 ho hL
          go_wp2_with fail
          refine HIX.out.mono ?_
          rintro e w13 ⟨rfl, hb13⟩
          have HB13 := Lib.hid (HB12.out.trans (hb13.mono (by omega)))
          have HRD13 := Lib.hid (HRD.out.below hb13 (Nat.le_refl _))
          have hz13 := hb13.size
          clear hb13
          cases o with
          | none =>
            simp only [optI]
            go_wp2_with fail
            go_ret3
            exact ⟨_, by rw [HO.out]; rfl, by (try rw [if_pos rfl]); rw [HPW.out]; exact World.ownsRow_nil _ _ _ _, HB13.out⟩
          | some i =>
            have hi := hoi i rfl
            simp only [optI]
            have z2 : ¬ ((i : Int) < 0) := by omega
            have HWT := Lib.hid (gWordTo_any Av L cv V i w13 ((HRD13.out.more (by omega))) HL.out.symm hi (by omega) HVB.out)
            go_wp2_with fail
            refine HWT.out.mono ?_
            rintro e w14 ⟨v14, rfl, ho14, hb14⟩
            go_wp2_with fail
            go_ret3
            exact ⟨_, by rw [HO.out]; rfl, by (try rw [if_pos rfl]); rw [HPW.out]; exact own_moreG ho14 (by omega), HB13.out.trans (hb14.mono (by omega))⟩
    · have hbn : (r != 0) = true := by simp [h0]
      go_wp2_with fail
      go_ret3
      exact ⟨_, by first | rfl | (rw [decide_eq_false h0]; rfl), by first | exact World.ownsRow_nil _ _ _ _ | (rw [if_neg h0]; exact World.ownsRow_nil _ _ _ _), HB6.out⟩
end Go.Proofs.Ytceldgcmjmfjfaa

/- Layer 4: same of the law. -/
namespace Go.Proofs.Ytceldgcmjmfjfaa
open Go.RowKit Go.Sort

set_option maxHeartbeats 400000 in
theorem l4same_any (A B : Option Addr) (n m c d Bx By : Nat) (xs ys : List Int) (w : World) (hx : RdI w Bx A xs) (hy : RdI w By B ys) (hn : xs.length = n) (hm : ys.length = m) (hb : n ≤ 140737488355328) (hb' : m ≤ 140737488355328) :
    Calls Try.prog 16 #[.slice A n c, .slice B m d] w fun e w' => e = .returned (.bool (decide (xs = ys))) ∧ ∃ q, w' = w.drewN q := by
  by_cases hnm : n = m
  · subst hnm
    have HN := Lib.hid hn
    have HM := Lib.hid hm
    clear hn hm
    go_enter Try.func16, Try.ntmps16
    go_wp2
    go_loopw [5] (fun i wr => ∃ k : Nat, k ≤ n ∧ i = .int .i64 k ∧ Hid (xs.take k = ys.take k) ∧ ∃ q, wr = w.drewN q) (fun i _ => n - (intOf i).toNat)
    case atStart => exact ⟨0, Nat.zero_le _, rfl, rfl, 0, rfl⟩
    case round =>
      obtain ⟨k, hk, rfl, ht, q, rfl⟩ := hrel
      by_cases hlt : k < n
      · obtain ⟨b1, o1, rfl, _, hc1⟩ := hx (by rw [HN.out]; omega)
        obtain ⟨b2, o2, rfl, _, hc2⟩ := hy (by rw [HM.out]; omega)
        have h1 := hc1 k (by rw [HN.out]; exact hlt)
        have h2 := hc2 k (by rw [HM.out]; exact hlt)
        clear hc1 hc2 hx hy
        obtain ⟨x, hx⟩ : ∃ x, x = xs.getD k 0 := ⟨_, rfl⟩
        obtain ⟨y, hy⟩ : ∃ y, y = ys.getD k 0 := ⟨_, rfl⟩
        rw [← hx] at h1
        rw [← hy] at h2
        by_cases hxy : x = y
        · have hs := Lib.hid (eq_take_step (by rw [HN.out]; exact hlt) (by rw [HM.out]; exact hlt) ht.out (by rw [← hx, ← hy]; exact hxy))
          have hne : (x != y) = false := by simp [hxy]
          clear hx hy hxy ht
          go_wp2
          go_quiet (fail)
          go_wp2
          go_roundw
          case rel => exact ⟨k + 1, by omega, by go_num, hs, by first | exact ⟨_, rfl⟩ | exact dr_add _ _ _⟩
          case measure => simp [intOf]; omega
        · have hf := Lib.hid (ne_of_getD (xs := xs) (ys := ys) (k := k) (by rw [← hx, ← hy]; exact hxy))
          have hne : (x != y) = true := by simp [hxy]
          clear hx hy hxy ht
          go_wp2
          go_quiet (fail)
          go_wp2
          go_ret
          exact ⟨ret_bool hf.out.symm, by first | exact ⟨_, rfl⟩ | exact dr_add _ _ _⟩
      · have hkn : k = n := by omega
        have hf := Lib.hid (eq_of_take (xs := xs) (ys := ys) (by rw [HN.out, HM.out]) (by rw [HN.out, ← hkn]; exact ht.out))
        clear hkn ht
        go_wp2
        go_ret
        exact ⟨ret_bool hf.out.symm, _, rfl⟩
  · have hf : decide (xs = ys) = false := by simp only [decide_eq_false_iff_not]; rintro rfl; omega
    have hne : ((n : Int) != (m : Int)) = true := by simp; omega
    clear hn hm
    go_enter Try.func16, Try.ntmps16
    go_wp2
    go_ret
    exact ⟨ret_bool hf.symm, 0, rfl⟩
end Go.Proofs.Ytceldgcmjmfjfaa

/- Layer 4: the examples of the chapter, as mathematics. -/
namespace Go.Proofs.Ytceldgcmjmfjfaa
open Go.RowKit Go.Sort

def exA4 : Au := ⟨[0, 1], 4, [1], [⟨0, 0, 1⟩, ⟨0, 1, 2⟩, ⟨1, 0, 1⟩, ⟨2, 0, 3⟩, ⟨3, 1, 2⟩]⟩
theorem ex4_chk : chkE exA4 = 0 := by decide
theorem ex4_co : corR exA4 = [0, 1] := by decide
theorem ex4_w : gwsE exA4 [3] = 0 := by decide
theorem ex4_di : disR exA4 [3] = [2, -1, 1, 0] := by decide
theorem ex4_pe : paE exA4 0 [3] [0, 1, 2, 3] = 0 := by decide
theorem ex4_po : (paO exA4 0 [3] [0, 1, 2, 3]).isSome = true := by decide
theorem ex4_pw : paW exA4 0 [3] [0, 1, 2, 3] = [1, 0] := by decide
theorem ex4_ie : gceE exA4 [0, 1, 2] [0] = 0 := by decide
theorem ex4_in : intR exA4 [0, 1, 2] [0] = [0, 1] := by decide
end Go.Proofs.Ytceldgcmjmfjfaa

/- Layer 4: the examples of the chapter hold. -/
namespace Go.Proofs.Ytceldgcmjmfjfaa
open Go.RowKit Go.Sort

theorem row_rdG4 {w : World} {g : Nat} {l : List Ed} (h : Row w g 70 (encE l)) : RdG w w.heap.size (some ⟨g, 0, none⟩) l := fun _ =>
  ⟨g, 0, rfl, h.lt, fun j x hj => by
    obtain ⟨e0, e1, e2⟩ := encE_at l j x hj
    rw [Nat.zero_add]
    exact ⟨h.cell _ e0, h.cell _ e1, h.cell _ e2⟩⟩
theorem au_rows4 {w : World} {b1 b2 b3 n m k : Nat} {s : Int} {a : Au} (h1 : Row w b1 3 (a.al.map (Value.int .i64))) (h2 : Row w b2 3 (a.mr.map (Value.int .i64))) (h3 : Row w b3 70 (encE a.ed)) (hn : a.al.length = n) (hm : a.mr.length = m) (hk : a.ed.length = k) (hs : a.st = s) (bn : n ≤ 1000) (bm : m ≤ 1000) (bk : k ≤ 1000) :
    AuR w w.heap.size (some ⟨b1, 0, none⟩) n n s (some ⟨b2, 0, none⟩) m m (some ⟨b3, 0, none⟩) k k a :=
  { al := h1.rd, mr := h2.rd, ed := row_rdG4 h3, hn := hn, hm := hm, hk := hk, st := hs, cn := by omega, cm := by omega, ck := by omega, bn := by omega, bm := by omega, bk := by omega }
set_option maxHeartbeats 800000 in
theorem example4_any (w : World) : Calls Try.prog 41 #[] w fun e w' => ∃ A n c s M m d E k g, e = .returned (.agg #[.slice A n c, .int .i64 s, .slice M m d, .slice E k g]) ∧ AuR w' w'.heap.size A n c s M m d E k g exA4 ∧ Below w.heap.size w w' := by
  go_enter Try.func41, Try.ntmps41
  go_wp2_with fail
  (try simp only [Exit.inBlock, Exit.then])
  refine bodyPost_ret (v := .agg #[.slice (some ⟨w.heap.size + 1, 0, none⟩) 2 2, .int .i64 4, .slice (some ⟨w.heap.size + 1 + 1, 0, none⟩) 1 1, .slice (some ⟨w.heap.size + 1 + 1 + 1, 0, none⟩) 5 5]) ?_ rfl ⟨_, _, _, _, _, _, _, _, _, _, rfl, ?_, ?_⟩
  · rw [results_cell1 rfl]
    go_simp
  · refine au_rows4 ?_ ?_ ?_ rfl rfl rfl rfl (by omega) (by omega) (by omega)
    · exact ((Row.newE _ [.int .i64 0, .int .i64 1] 3 (by simp)).alloc _).alloc _
    · exact (Row.newE _ [.int .i64 1] 3 (by simp)).alloc _
    · exact Row.newE _ (encE exA4.ed) 70 (by simp)
  · exact ((((Below.refl _ w).alloc (Nat.le_refl _) _).alloc (by simp) _).alloc (by simp; omega) _).alloc (by simp; omega) _
/-- What the examples ask, at any world. -/
theorem kn4_co (A : Option Addr) (n c : Nat) (s : Int) (M : Option Addr) (m d : Nat) (E : Option Addr) (k g : Nat) (w : World) (h : AuR w w.heap.size A n c s M m d E k g exA4) : Calls Try.prog 14 #[.agg #[.slice A n c, .int .i64 s, .slice M m d, .slice E k g]] w fun e w' => ∃ V cV, e = .returned (.tuple #[.slice V 2 cV, .int .i64 0]) ∧ RdI w' w'.heap.size V [0, 1] ∧ Below w.heap.size w w' := by
  refine (gCoreachable_any A n c s M m d E k g exA4 w h).mono ?_
  rintro e w' ⟨v, rfl, ho, hb⟩
  rw [ex4_chk, if_pos rfl, ex4_co] at ho
  obtain ⟨V, cV, rfl, hr, _⟩ := own_rdc ho
  exact ⟨V, cV, by rw [ex4_chk]; rfl, hr, hb⟩
theorem kn4_di (A : Option Addr) (n c : Nat) (s : Int) (M : Option Addr) (m d : Nat) (E : Option Addr) (k g : Nat) (b : Nat) (w : World) (h : AuR w w.heap.size A n c s M m d E k g exA4) (hr : Row w b 3 [.int .i64 3]) : Calls Try.prog 26 #[.agg #[.slice A n c, .int .i64 s, .slice M m d, .slice E k g], .slice (some ⟨b, 0, none⟩) 1 1] w fun e w' => ∃ V cV, e = .returned (.tuple #[.slice V 4 cV, .int .i64 0]) ∧ RdI w' w'.heap.size V [2, -1, 1, 0] ∧ Below w.heap.size w w' := by
  refine (gDistances_any A n c s M m d E k g exA4 _ 1 1 [3] w h (Row.rd (zs := [3]) hr) rfl (by omega) (by omega)).mono ?_
  rintro e w' ⟨v, rfl, ho, hb⟩
  rw [ex4_w, if_pos rfl, ex4_di] at ho
  obtain ⟨V, cV, rfl, hr, _⟩ := own_rdc ho
  exact ⟨V, cV, by rw [ex4_w]; rfl, hr, hb⟩
theorem kn4_pa (A : Option Addr) (n c : Nat) (s : Int) (M : Option Addr) (m d : Nat) (E : Option Addr) (k g : Nat) (b b2 : Nat) (w : World) (h : AuR w w.heap.size A n c s M m d E k g exA4) (hr : Row w b 3 [.int .i64 3]) (hr2 : Row w b2 3 [.int .i64 0, .int .i64 1, .int .i64 2, .int .i64 3]) : Calls Try.prog 28 #[.agg #[.slice A n c, .int .i64 s, .slice M m d, .slice E k g], .int .i64 0, .slice (some ⟨b, 0, none⟩) 1 1, .slice (some ⟨b2, 0, none⟩) 4 4] w fun e w' => ∃ V cV, e = .returned (.tuple #[.slice V 2 cV, .bool true, .int .i64 0]) ∧ RdI w' w'.heap.size V [1, 0] ∧ Below w.heap.size w w' := by
  refine (gPath_any A n c s M m d E k g exA4 0 _ 1 1 [3] _ 4 4 [0, 1, 2, 3] w h (Row.rd (zs := [3]) hr) rfl (by omega) (by omega) (Row.rd (zs := [0, 1, 2, 3]) hr2) rfl (by omega) (by omega)).mono ?_
  rintro e w' ⟨v, rfl, ho, hb⟩
  rw [ex4_pe, if_pos rfl, ex4_pw] at ho
  obtain ⟨V, cV, rfl, hr, _⟩ := own_rdc ho
  exact ⟨V, cV, by rw [ex4_pe, ex4_po]; rfl, hr, hb⟩
theorem kn4_in (A : Option Addr) (n c : Nat) (s : Int) (M : Option Addr) (m d : Nat) (E : Option Addr) (k g : Nat) (b b2 : Nat) (w : World) (h : AuR w w.heap.size A n c s M m d E k g exA4) (hr : Row w b 3 [.int .i64 0, .int .i64 1, .int .i64 2]) (hr2 : Row w b2 3 [.int .i64 0]) : Calls Try.prog 35 #[.agg #[.slice A n c, .int .i64 s, .slice M m d, .slice E k g], .slice (some ⟨b, 0, none⟩) 3 3, .slice (some ⟨b2, 0, none⟩) 1 1] w fun e w' => ∃ V cV, e = .returned (.tuple #[.slice V 2 cV, .int .i64 0]) ∧ RdI w' w'.heap.size V [0, 1] ∧ Below w.heap.size w w' := by
  refine (gInterior_any A n c s M m d E k g exA4 _ 3 3 [0, 1, 2] _ 1 1 [0] w h (Row.rd (zs := [0, 1, 2]) hr) rfl (by omega) (by omega) (Row.rd (zs := [0]) hr2) rfl (by omega) (by omega)).mono ?_
  rintro e w' ⟨v, rfl, ho, hb⟩
  rw [ex4_ie, if_pos rfl, ex4_in] at ho
  obtain ⟨V, cV, rfl, hr, _⟩ := own_rdc ho
  exact ⟨V, cV, by rw [ex4_ie]; rfl, hr, hb⟩
theorem sm4 (C : Option Addr) (cC n : Nat) (zs : List Int) (cs : Array Value) (w : World) (h : RdI w w.heap.size C zs) (hn : zs.length = n) (hb : n ≤ 1000) (hcs : cs = (zs.map (Value.int .i64)).toArray) :
    Calls Try.prog 16 #[.slice C n cC, .slice (some ⟨w.heap.size, 0, none⟩) n n] (w.alloc (.cells cs 3)) fun e w' => e = .returned (.bool true) ∧ Below w.heap.size w w' := by
  subst hcs
  have hbx := (Below.refl w.heap.size w).alloc (Nat.le_refl _) (.cells (zs.map (Value.int .i64)).toArray 3)
  refine (l4same_any C (some ⟨w.heap.size, 0, none⟩) n n cC n _ _ zs zs _ ((h.below hbx (Nat.le_refl _)).more hbx.size) (Row.rd (zs := zs) (Row.new w _ 3)) hn hn (by omega) (by omega)).mono ?_
  rintro e w' ⟨rfl, q, rfl⟩
  exact ⟨by simp, below_drewN hbx q⟩
set_option maxHeartbeats 8000000 in
set_option maxRecDepth 100000 in
/-- known() holds. -/
theorem known4_any (w : World) : Calls Try.prog 11 #[] w fun e w' => e = .returned (.bool true) ∧ Below w.heap.size w w' := by
  have HE := Lib.hid (fun W => example4_any W)
  go_enter Try.func11, Try.ntmps11
  go_wp2_with fail
  refine (HE.out _).mono ?_
  rintro e w1 ⟨A, n, c, s, M, m, d, E, k, g, rfl, hA, hb1⟩
  have HB1 := Lib.hid hb1
  have HC := Lib.hid (kn4_co A n c s M m d E k g w1 hA)
  clear hA hb1
  go_wp2_with fail
  refine HC.out.mono ?_
  rintro e w2 ⟨C, cC, rfl, hC, hb2⟩
  have HB2 := Lib.hid (HB1.out.trans (hb2.mono HB1.out.size))
  have HC2 := Lib.hid hC
  clear hb2 hC HC
  go_wp2_with fail
  refine (HE.out _).mono ?_
  rintro e w3 ⟨A3, n3, c3, s3, M3, m3, d3, E3, k3, g3, rfl, hA, hb3⟩
  have HB3 := Lib.hid (HB2.out.trans (hb3.mono HB2.out.size))
  have HC3 := Lib.hid ((HC2.out.below hb3 (Nat.le_refl _)).more hb3.size)
  have hbx := ((Below.refl w3.heap.size w3).alloc (Nat.le_refl _) (.cells #[.int .i64 3] 3))
  have HBX := Lib.hid hbx
  have HD := Lib.hid (kn4_di A3 n3 c3 s3 M3 m3 d3 E3 k3 g3 w3.heap.size (w3.alloc (.cells #[.int .i64 3] 3)) ((hA.below hbx (Nat.le_refl _)).more hbx.size) (Row.newE w3 [.int .i64 3] 3 rfl))
  clear hA hb3 hbx
  go_wp2_with fail
  refine HD.out.mono ?_
  rintro e w4 ⟨D, cD, rfl, hD, hb4⟩
  have HB34 := Lib.hid (HBX.out.trans (hb4.mono HBX.out.size))
  have HB4 := Lib.hid (HB3.out.trans (HB34.out.mono HB3.out.size))
  have HC4 := Lib.hid ((HC3.out.below HB34.out (Nat.le_refl _)).more HB34.out.size)
  have HD4 := Lib.hid hD
  clear hb4 hD HD HBX
  go_wp2_with fail
  refine (HE.out _).mono ?_
  rintro e w5 ⟨A5, n5, c5, s5, M5, m5, d5, E5, k5, g5, rfl, hA, hb5⟩
  have HB5 := Lib.hid (HB4.out.trans (hb5.mono HB4.out.size))
  have HC5 := Lib.hid ((HC4.out.below hb5 (Nat.le_refl _)).more hb5.size)
  have HD5 := Lib.hid ((HD4.out.below hb5 (Nat.le_refl _)).more hb5.size)
  have hbx := ((Below.refl w5.heap.size w5).alloc (Nat.le_refl _) (.cells #[.int .i64 3] 3)).alloc (by simp) (.cells #[.int .i64 0, .int .i64 1, .int .i64 2, .int .i64 3] 3)
  have HBX := Lib.hid hbx
  have HP := Lib.hid (kn4_pa A5 n5 c5 s5 M5 m5 d5 E5 k5 g5 w5.heap.size (w5.heap.size + 1) ((w5.alloc (.cells #[.int .i64 3] 3)).alloc (.cells #[.int .i64 0, .int .i64 1, .int .i64 2, .int .i64 3] 3)) ((hA.below hbx (Nat.le_refl _)).more hbx.size) ((Row.newE w5 [.int .i64 3] 3 rfl).alloc _) (Row.newE _ [.int .i64 0, .int .i64 1, .int .i64 2, .int .i64 3] 3 (by simp)))
  clear hA hb5 hbx
  go_wp2_with fail
  refine HP.out.mono ?_
  rintro e w6 ⟨P, cP, rfl, hP, hb6⟩
  have HB56 := Lib.hid (HBX.out.trans (hb6.mono HBX.out.size))
  have HB6 := Lib.hid (HB5.out.trans (HB56.out.mono HB5.out.size))
  have HC6 := Lib.hid ((HC5.out.below HB56.out (Nat.le_refl _)).more HB56.out.size)
  have HD6 := Lib.hid ((HD5.out.below HB56.out (Nat.le_refl _)).more HB56.out.size)
  have HP6 := Lib.hid hP
  clear hb6 hP HP HBX
  go_wp2_with fail
  refine (HE.out _).mono ?_
  rintro e w7 ⟨A7, n7, c7, s7, M7, m7, d7, E7, k7, g7, rfl, hA, hb7⟩
  have HB7 := Lib.hid (HB6.out.trans (hb7.mono HB6.out.size))
  have HC7 := Lib.hid ((HC6.out.below hb7 (Nat.le_refl _)).more hb7.size)
  have HD7 := Lib.hid ((HD6.out.below hb7 (Nat.le_refl _)).more hb7.size)
  have HP7 := Lib.hid ((HP6.out.below hb7 (Nat.le_refl _)).more hb7.size)
  have hbx := ((Below.refl w7.heap.size w7).alloc (Nat.le_refl _) (.cells #[.int .i64 0, .int .i64 1, .int .i64 2] 3)).alloc (by simp) (.cells #[.int .i64 0] 3)
  have HBX := Lib.hid hbx
  have HI := Lib.hid (kn4_in A7 n7 c7 s7 M7 m7 d7 E7 k7 g7 w7.heap.size (w7.heap.size + 1) ((w7.alloc (.cells #[.int .i64 0, .int .i64 1, .int .i64 2] 3)).alloc (.cells #[.int .i64 0] 3)) ((hA.below hbx (Nat.le_refl _)).more hbx.size) ((Row.newE w7 [.int .i64 0, .int .i64 1, .int .i64 2] 3 rfl).alloc _) (Row.newE _ [.int .i64 0] 3 (by simp)))
  clear hA hb7 hbx
  go_wp2_with fail
  refine HI.out.mono ?_
  rintro e w8 ⟨I, cI, rfl, hI, hb8⟩
  have HB78 := Lib.hid (HBX.out.trans (hb8.mono HBX.out.size))
  have HB8 := Lib.hid (HB7.out.trans (HB78.out.mono HB7.out.size))
  have HC8 := Lib.hid ((HC7.out.below HB78.out (Nat.le_refl _)).more HB78.out.size)
  have HD8 := Lib.hid ((HD7.out.below HB78.out (Nat.le_refl _)).more HB78.out.size)
  have HP8 := Lib.hid ((HP7.out.below HB78.out (Nat.le_refl _)).more HB78.out.size)
  have HI8 := Lib.hid hI
  clear hb8 hI HI HBX
  go_wp2_with fail
  refine (sm4 C cC 2 [0, 1] _ w8 HC8.out rfl (by omega) rfl).mono ?_
  rintro e w9 ⟨rfl, hb9⟩
  have HB9 := Lib.hid (HB8.out.trans (hb9.mono HB8.out.size))
  have HD9 := Lib.hid ((HD8.out.below hb9 (Nat.le_refl _)).more hb9.size)
  have HP9 := Lib.hid ((HP8.out.below hb9 (Nat.le_refl _)).more hb9.size)
  have HI9 := Lib.hid ((HI8.out.below hb9 (Nat.le_refl _)).more hb9.size)
  clear hb9
  go_wp2_with fail
  refine (sm4 D cD 4 [2, -1, 1, 0] _ w9 HD9.out rfl (by omega) rfl).mono ?_
  rintro e w10 ⟨rfl, hb10⟩
  have HB10 := Lib.hid (HB9.out.trans (hb10.mono HB9.out.size))
  have HP10 := Lib.hid ((HP9.out.below hb10 (Nat.le_refl _)).more hb10.size)
  have HI10 := Lib.hid ((HI9.out.below hb10 (Nat.le_refl _)).more hb10.size)
  clear hb10
  go_wp2_with fail
  refine (sm4 P cP 2 [1, 0] _ w10 HP10.out rfl (by omega) rfl).mono ?_
  rintro e w11 ⟨rfl, hb11⟩
  have HB11 := Lib.hid (HB10.out.trans (hb11.mono HB10.out.size))
  have HI11 := Lib.hid ((HI10.out.below hb11 (Nat.le_refl _)).more hb11.size)
  clear hb11
  go_wp2_with fail
  refine (sm4 I cI 2 [0, 1] _ w11 HI11.out rfl (by omega) rfl).mono ?_
  rintro e w12 ⟨rfl, hb12⟩
  have HB12 := Lib.hid (HB11.out.trans (hb12.mono HB11.out.size))
  clear hb12
  go_wp2_with fail
  go_ret
  exact ⟨rfl, HB12.out⟩
end Go.Proofs.Ytceldgcmjmfjfaa
