/- Layer 4: Interior of the reference. -/
import Derived.Test.YtceldgcmjmfjfaaZgCs
set_option linter.unusedVariables false
set_option linter.unusedSimpArgs false
set_option linter.unusedSectionVars false
namespace Go.Proofs.Ytceldgcmjmfjfaa
open Go.RowKit Go.Sort Go.Maps

/-- From a state the events do not lead out of a set. -/
def stI (S : Nat) (es : List Ed) (set ev : List Int) (q : Int) : Prop := ∀ y, Cl es Ed.f Ed.t (okF (rngF S fun _ => true) ev) (fun p => p ∈ [q] ∧ p ∈ rngF S fun _ => true) y → y ∈ set
structure InI (S : Nat) (es : List Ed) (set ev : List Int) (l out : List Int) : Prop where
  up : out.Pairwise (· < ·)
  mem : ∀ q, q ∈ out ↔ q ∈ l ∧ stI S es set ev q
theorem InI.yes {S : Nat} {es : List Ed} {set ev l out : List Int} {x : Int} (h : InI S es set ev l out) (hx : stI S es set ev x) (hl : ∀ y ∈ l, y < x) : InI S es set ev (l ++ [x]) (out ++ [x]) :=
  ⟨List.pairwise_append.2 ⟨h.up, by simp, fun y hy z hz => by rw [List.mem_singleton.1 hz]; exact hl y ((h.mem y).1 hy).1⟩, fun q => by
    rw [List.mem_append, List.mem_append, h.mem, List.mem_singleton]
    constructor
    · rintro (h1 | rfl)
      · exact ⟨.inl h1.1, h1.2⟩
      · exact ⟨.inr rfl, hx⟩
    · rintro ⟨h1 | rfl, h2⟩
      · exact .inl ⟨h1, h2⟩
      · exact .inr rfl⟩
theorem InI.no {S : Nat} {es : List Ed} {set ev l out : List Int} {x : Int} (h : InI S es set ev l out) (hx : ¬ stI S es set ev x) : InI S es set ev (l ++ [x]) out :=
  ⟨h.up, fun q => by
    rw [List.mem_append, h.mem, List.mem_singleton]
    constructor
    · intro h1; exact ⟨.inl h1.1, h1.2⟩
    · rintro ⟨h1 | rfl, h2⟩
      · exact ⟨h1, h2⟩
      · exact absurd h2 hx⟩
theorem take_lt {zs : List Int} {k : Nat} (h : zs.Pairwise (· < ·)) (hk : k < zs.length) : ∀ y ∈ zs.take k, y < zs.getD k 0 := by
  intro y hy
  have e : zs = zs.take k ++ zs.drop k := (List.take_append_drop k zs).symm
  rw [e] at h
  have h1 := (List.pairwise_append.1 h).2.2 y hy (zs.getD k 0)
  refine h1 ?_
  rw [List.drop_eq_getElem_cons hk, List.mem_cons]
  left; simp [List.getD, hk]
set_option maxHeartbeats 8000000 in
set_option maxRecDepth 100000 in
theorem r4In_any (A : Option Addr) (n c : Nat) (s : Int) (M : Option Addr) (m d : Nat) (E : Option Addr) (k g : Nat) (a : Au) (S : Nat) (v2 v3 : Value) (set ev : List Int) (w : World) (h : AuR w w.heap.size A n c s M m d E k g a) (hS : s = (S : Int)) (hSb : S ≤ 4096) (h2 : LsI w v2 set) (h3 : LsI w v3 ev) (l2 : set.length ≤ 4096) (l3 : ev.length ≤ 100000) (hu : set.Pairwise (· < ·)) :
    Calls Try.prog 37 #[.agg #[.slice A n c, .int .i64 s, .slice M m d, .slice E k g], v2, v3] w fun e w' => ∃ v out, e = .returned v ∧ LsI w' v out ∧ InI S a.ed set ev set out ∧ Below w.heap.size w w' := by
  subst hS
  obtain ⟨iI, iI0, iI1, iI2, iI3⟩ := info_parts info_int
  have HB0 := Lib.hid ((Below.refl w.heap.size w).alloc (Nat.le_refl _) (.cells #[.slice A n c, .int .i64 (S : Int), .slice M m d, .slice E k g] 30))
  have HX0 := Lib.hid (BoxA.made w A n c (S : Int) M m d E k g 30)
  have HO0 := Lib.hid (show Own (w.alloc (.cells #[.slice A n c, .int .i64 (S : Int), .slice M m d, .slice E k g] 30)) (w.heap.size + 1) (.slice none 0 0) [] from World.ownsRow_nil _ _ _ _)
  have HI0 := Lib.hid (show InI S a.ed set ev (set.take 0) [] from ⟨List.Pairwise.nil, fun q => by simp⟩)
  have HWR := Lib.hid (show ∀ q ∈ rngF S fun _ => true, 0 ≤ q ∧ q < (S : Int) from fun q hq => by obtain ⟨j, hj, _, rfl⟩ := mem_rngF.1 hq; omega)
  have hwl := rngF_len S (fun _ => true)
  have H2 := Lib.hid h2
  have HU := Lib.hid hu
  have HFR := Lib.hid (fun W b x vw (hW : Below w.heap.size w W) (hr : Row W b 3 [.int .i64 x]) (hv : LsI W vw (rngF S fun _ => true)) => r4From_any A n c (S : Int) M m d E k g a S (.slice (some ⟨b, 0, none⟩) 1 1) vw v3 [x] (rngF S fun _ => true) ev W ((h.below hW (Nat.le_refl _)).more hW.size) hSb (lsI_row hr) hv (h3.below hW) (by simp) (by omega) l3 HWR.out)
  have HAL := Lib.hid (fun W => r4All_any S W (by omega))
  obtain ⟨A2, c2, rfl, hr2, hc2, ha2⟩ := h2
  have HR2 := Lib.hid hr2
  obtain ⟨n2, hn2⟩ : ∃ n2, n2 = set.length := ⟨_, rfl⟩
  rw [← hn2] at hc2 l2 H2 ⊢
  have HN2 := Lib.hid hn2
  clear h h3 hr2 ha2 hn2 hu
  go_enter Try.func37, Try.ntmps37
  go_wp2_with fail
  go_loopw [7, 8, 9, 10, 11] (fun v iv _ _ _ wr => ∃ (out : List Int) (t : Nat), t ≤ n2 ∧ iv = .int .i64 t ∧ out.length ≤ t ∧ Hid (InI S a.ed set ev (set.take t) out) ∧ Hid (Own wr (w.heap.size + 1) v out) ∧ Hid (Below w.heap.size w wr) ∧ Hid (BoxA wr w.heap.size A n c (S : Int) M m d E k g)) (fun _ iv _ _ _ _ => n2 - (intOf iv).toNat)
  case atStart => exact ⟨[], 0, Nat.zero_le _, rfl, Nat.le_refl _, HI0, HO0, HB0, HX0⟩
  case round =>
    clear HI0 HO0 HB0 HX0
    obtain ⟨out, t, ht, rfl, hol, hin, hown, HB1, HX⟩ := hrel
    by_cases hlt : t < n2
    · obtain ⟨b1, o1, rfl, hb1, hcc⟩ := HR2.out (by rw [← HN2.out]; omega)
      have hz : t < set.length := by rw [← HN2.out]; exact hlt
      have e1 := (HB1.out.cell (p := ⟨b1, o1 + t, none⟩) hb1).trans (hcc t hz)
      obtain ⟨x, hx⟩ : ∃ y, y = set.getD t 0 := ⟨_, rfl⟩
      rw [← hx] at e1
      have z0 : (0 : Int) ≤ (t : Int) := by omega
      have z1 : (t : Int) < (n2 : Int) := by omega
      have HTK := Lib.hid (show set.take (t + 1) = set.take t ++ [x] from by rw [hx]; exact getD_take hz)
      have HTL := Lib.hid (show ∀ y ∈ set.take t, y < x from by rw [hx]; exact take_lt HU.out hz)
      have HB1d := Lib.hid HB1.out.drew
      have HRF0 := Lib.hid (show Row (wr.alloc (.cells #[.int .i64 x] 3)) wr.heap.size 3 [.int .i64 x] from Row.newE _ [.int .i64 x] _ rfl)
      have HRF1 := Lib.hid (show Row (wr.alloc (.cells #[.int .i64 x] 3)).drew wr.heap.size 3 [.int .i64 x] from HRF0.out)
      have hszr := box_lt HX.out
      have hbr : b1 < wr.heap.size := Nat.lt_of_lt_of_le hb1 HB1.out.size
      obtain ⟨p0, p1, p2, p3⟩ := HX.out
      clear hcc hz hx
      go_upto_region 5 with fail
      go_cut [9] from 12 to 51 (fun v wx => ∃ l, Hid (LsI wx v l) ∧ Hid (l.Pairwise (· < ·) ∧ (∀ q ∈ l, 0 ≤ q ∧ q < (S : Int)) ∧ ∀ q, q ∈ l ↔ Cl a.ed Ed.f Ed.t (okF (rngF S fun _ => true) ev) (fun p => p ∈ [x] ∧ p ∈ rngF S fun _ => true) q) ∧ Hid (Below wr.heap.size wr wx))
      case first =>
        go_region_held3 (fun w' => w'.cell? ⟨w.heap.size, 0, none⟩ = some (.slice A n c) ∧ w'.cell? ⟨w.heap.size, 1, none⟩ = some (.int .i64 (S : Int)) ∧ w'.cell? ⟨w.heap.size, 2, none⟩ = some (.slice M m d) ∧ w'.cell? ⟨w.heap.size, 3, none⟩ = some (.slice E k g) ∧ w'.cell? ⟨b1, o1 + t, none⟩ = some (.int .i64 x)) (first | with_reducible exact ⟨p0, p1, p2, p3, e1⟩ | go_keep)
          (first
          | (go_simp; go_at_call 39; (with_reducible refine (HAL.out _).mono ?_); rintro e w2 ⟨vw, rfl, how, hb2⟩
             have HB2 := Lib.hid (show Below wr.heap.size wr w2 by first | exact (Below.refl _ _).trans hb2 | exact (Below.refl _ _).drew.trans hb2 | exact ((Below.refl _ _).alloc (Nat.le_refl _) _).trans (hb2.mono (by simp)) | exact ((Below.refl _ _).drew.alloc (Nat.le_refl _) _).trans (hb2.mono (by simp)) | exact ((Below.refl _ _).alloc (Nat.le_refl _) _).drew.trans (hb2.mono (by simp)))
             have HX2 := Lib.hid (HX.out.below HB2.out hszr)
             have e1 := (HB2.out.cell (p := ⟨b1, o1 + t, none⟩) hbr).trans e1
             have hsz2 : w.heap.size < w2.heap.size := box_lt HX2.out
             have hbr2 : b1 < w2.heap.size := Nat.lt_of_lt_of_le hbr HB2.out.size
             have HLW := Lib.hid (LsI.own how)
             have HBK := Lib.hid hb2
             have HBT := Lib.hid (HB1.out.trans (HB2.out.mono HB1.out.size))
             obtain ⟨p0, p1, p2, p3⟩ := HX2.out
             clear hb2 how)
          | (go_simp; go_at_call 52; (with_reducible refine (HFR.out _ _ _ _ (by first | exact HBT.out | exact HBT.out.drew | exact HBT.out.alloc HBT.out.size _ | exact HBT.out.drew.alloc HBT.out.drew.size _ | exact (HBT.out.alloc HBT.out.size _).drew | exact (HBT.out.drew.alloc HBT.out.drew.size _).drew) (by first | exact Row.new _ [_] _ | exact HRF0.out.below HBK.out (by simp) | exact HRF1.out.below HBK.out (by simp)) (by first | exact HLW.out | exact HLW.out.below ((Below.refl _ _).alloc (Nat.le_refl _) _))).mono ?_); rintro e w3 ⟨vr, ol, rfl, hlr, hb3', hc1, hc2', hc3⟩
             have HB3 := Lib.hid (show Below wr.heap.size wr w3 by first | exact HB2.out.trans (hb3'.mono HB2.out.size) | exact HB2.out.drew.trans (hb3'.mono HB2.out.drew.size) | exact (HB2.out.alloc HB2.out.size _).trans (hb3'.mono (HB2.out.alloc HB2.out.size _).size) | exact (HB2.out.drew.alloc HB2.out.drew.size _).trans (hb3'.mono (HB2.out.drew.alloc HB2.out.drew.size _).size) | exact (HB2.out.alloc HB2.out.size _).drew.trans (hb3'.mono (HB2.out.alloc HB2.out.size _).drew.size))
             have HX3 := Lib.hid (HX.out.below HB3.out hszr)
             have e1 := (HB3.out.cell (p := ⟨b1, o1 + t, none⟩) hbr).trans ((HB2.out.cell (p := ⟨b1, o1 + t, none⟩) hbr).symm.trans e1)
             obtain ⟨p0, p1, p2, p3⟩ := HX3.out
             have HC := Lib.hid (And.intro hc1 (And.intro hc2' hc3))
             have HLR := Lib.hid hlr
             clear hlr hb3' hc1 hc2' hc3))
        all_goals
          go_wp2_with fail
          go_meet
          exact ⟨ol, HLR, HC, HB3⟩
      case rest =>
        obtain ⟨l, hls, hcl, hbc⟩ := hcut
        have HBC := Lib.hid (HB1.out.trans (hbc.out.mono HB1.out.size))
        have HXC := Lib.hid (HX.out.below hbc.out hszr)
        have HOC := Lib.hid (own_below hown.out hbc.out)
        have HSE := Lib.hid (H2.out.below HBC.out)
        have e1c := (hbc.out.cell (p := ⟨b1, o1 + t, none⟩) hbr).trans e1
        have HST := Lib.hid (show (l.all fun y => decide (y ∈ set)) = true ↔ stI S a.ed set ev x from by
          rw [List.all_eq_true]
          exact ⟨fun h1 y hy => of_decide_eq_true (h1 y ((hcl.out.2.2 y).2 hy)), fun h1 y hy => decide_eq_true (h1 y ((hcl.out.2.2 y).1 hy))⟩)
        have hlS := up_len hcl.out.1 hcl.out.2.1
        obtain ⟨Al, cl, rfl, hrl, hcl2, hal⟩ := hls.out
        have HRL := Lib.hid hrl
        obtain ⟨nl, hnl⟩ : ∃ nl, nl = l.length := ⟨_, rfl⟩
        rw [← hnl] at hcl2 hlS ⊢
        have HNL := Lib.hid hnl
        have HD0 := Lib.hid (show true = ((l.take 0).all fun y => decide (y ∈ set)) from rfl)
        clear hls hcl hbc hrl hal hnl p0 p1 p2 p3 e1 HRF0 HRF1 HB1d
        go_wp2_with fail
        go_loopw [10, 11] (fun b iv wq => ∃ j : Nat, j ≤ nl ∧ iv = .int .i64 j ∧ wq = wc ∧ ∃ u, b = .bool u ∧ Hid (u = ((l.take j).all fun y => decide (y ∈ set)))) (fun _ iv _ => nl - (intOf iv).toNat)
        case atStart => exact ⟨0, Nat.zero_le _, rfl, rfl, true, rfl, HD0⟩
        case round =>
          clear HD0
          obtain ⟨j, hj, rfl, rfl, u, rfl, hu⟩ := hrel
          by_cases hjk : j < nl
          · obtain ⟨be, oe, rfl, hbe, hce⟩ := HRL.out (by rw [← HNL.out]; omega)
            have hzj : j < l.length := by rw [← HNL.out]; exact hjk
            have d0 := hce j hzj
            obtain ⟨y, hy⟩ : ∃ y, y = l.getD j 0 := ⟨_, rfl⟩
            rw [← hy] at d0
            have y0 : (0 : Int) ≤ (j : Int) := by omega
            have y1 : (j : Int) < (nl : Int) := by omega
            have HTJ := Lib.hid (show ((l.take (j + 1)).all fun y => decide (y ∈ set)) = (u && decide (y ∈ set)) from by
              rw [hu.out, getD_take hzj, ← hy, List.all_append]; simp)
            have HHA := Lib.hid (r4has_li _ set y wr HSE.out (by rw [← HN2.out]; omega))
            obtain ⟨g1, hg1⟩ : ∃ g, g = decide (y ∈ set) := ⟨_, rfl⟩
            rw [← hg1] at HHA HTJ
            clear hce hy hu hg1 hzj
            cases u
            · have HU := Lib.hid (show false = ((l.take (j + 1)).all fun y => decide (y ∈ set)) from by rw [HTJ.out]; rfl)
              clear HTJ
              go_wp2_with fail
              go_roundw
              case rel => exact ⟨j + 1, by omega, by go_num, by trivial, false, rfl, HU⟩
              case measure => simp [intOf]; omega
            · have HU := Lib.hid (show g1 = ((l.take (j + 1)).all fun y => decide (y ∈ set)) from by rw [HTJ.out]; rfl)
              clear HTJ
              go_wp2_with fail
              refine HHA.out.mono ?_
              rintro e w5 ⟨rfl, rfl⟩
              go_wp2_with fail
              go_roundw
              case rel => exact ⟨j + 1, by omega, by go_num, by trivial, g1, rfl, HU⟩
              case measure => simp [intOf]; omega
          · obtain rfl : nl = j := by omega
            have HU := Lib.hid (show u = (l.all fun y => decide (y ∈ set)) from by
              rw [hu.out, List.take_of_length_le (by rw [← HNL.out]; exact Nat.le_refl _)])
            have hll := hin.out.up
            clear hu
            cases u
            · have HIN := Lib.hid (show InI S a.ed set ev (set.take (t + 1)) out from by
                rw [HTK.out]
                exact hin.out.no fun h1 => by have := HU.out; rw [HST.out.2 h1] at this; cases this)
              go_wp2_with fail
              go_roundw
              case rel => exact ⟨out, t + 1, by omega, by go_num, by omega, HIN, HOC, HBC, HXC⟩
              case measure => simp [intOf]; omega
            · have HIN := Lib.hid (show InI S a.ed set ev (set.take (t + 1)) (out ++ [x]) from by
                rw [HTK.out]
                exact hin.out.yes (HST.out.1 HU.out.symm) HTL.out)
              obtain ⟨L, hL⟩ : ∃ L, L = out.length := ⟨_, rfl⟩
              have hLb : L ≤ 4096 := by omega
              have HL := Lib.hid hL
              have hO := HOC.out
              unfold Own at hO
              rw [← hL] at hO
              have HOL := Lib.hid hO
              clear hL hO
              go_wp2_with (at_builtin; refine wpList_append_own_at _ rfl _ _ 27 rfl (w.heap.size + 1) 3 iI (.int .i64 0) 1 8 Try.underlying27 iI0 iI1 iI2 iI3 rfl (by decide) _ L (out.map (Value.int .i64)) rfl (HOL.out.alloc _) ⟨wr.heap.size, 0, none⟩ 1 1 [.int .i64 x] rfl rfl (news_one rfl) (by intro u hu; simp at hu; subst hu; rfl) (by unfold maxLen; omega) (by omega) (by have := box_lt HXC.out; simp; omega) ?_)
              intro v6 w6 hown6 hgrow6 _ _
              have hO6 := Lib.hid (show Own w6 (w.heap.size + 1) v6 (out ++ [x]) by unfold Own; rw [List.length_append, List.map_append, ← HL.out]; exact hown6)
              have hB6 := Lib.hid ((HBC.out.alloc HBC.out.size (.cells #[.int .i64 x] 3)).grown hgrow6 (by have := HBC.out.size; simp; omega) (fun i hi => by have := (HOL.out.lt i hi).1; omega))
              have hX6 := Lib.hid ((HXC.out.allocG (box_lt HXC.out) (.cells #[.int .i64 x] 3)).below ((Below.refl (w.heap.size + 1) _).grown hgrow6 (by have := box_lt HXC.out; simp; omega) (fun i hi => (HOL.out.lt i hi).1)) (by omega))
              clear hown6 hgrow6
              go_wp2_with fail
              go_roundw
              case rel => exact ⟨_, t + 1, by omega, by go_num, by have h9 := HL.out; simp; omega, HIN, hO6, hB6, hX6⟩
              case measure => simp [intOf]; omega
    · obtain rfl : n2 = t := by omega
      have hF := hin.out
      rw [List.take_of_length_le (by rw [← HN2.out]; exact Nat.le_refl _)] at hF
      have HF := Lib.hid hF
      clear hF
      go_wp2_with fail
      go_ret
      exact ⟨_, out, rfl, LsI.own hown.out, HF.out, HB1.out⟩
end Go.Proofs.Ytceldgcmjmfjfaa
