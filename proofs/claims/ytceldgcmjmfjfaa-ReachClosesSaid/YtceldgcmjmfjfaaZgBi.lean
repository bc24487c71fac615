/- Layer 4: Bits of the law; Closed of the reference. -/
import Derived.Test.YtceldgcmjmfjfaaZa8
set_option linter.unusedVariables false
set_option linter.unusedSimpArgs false
set_option linter.unusedSectionVars false
namespace Go.Proofs.Ytceldgcmjmfjfaa
open Go.RowKit Go.Sort Go.Maps

set_option maxHeartbeats 2000000 in
set_option maxRecDepth 100000 in
theorem bits_any (x : Int) (S : Nat) (w : World) (hx : 0 ≤ x ∧ x < 256) (hS : S ≤ 8) :
    Calls Try.prog 20 #[.int .u8 x, .int .i64 (S : Int)] w fun e w' => ∃ v zs, e = .returned v ∧ Own w' w.heap.size v zs ∧ Ev5 (S : Int) zs ∧ Below w.heap.size w w' := by
  obtain ⟨iI, iI0, iI1, iI2, iI3⟩ := info_parts info_int
  have HO0 := Lib.hid (show Own w w.heap.size (.slice none 0 0) [] from World.ownsRow_nil _ _ _ _)
  have HB0 := Lib.hid (Below.refl w.heap.size w)
  have HE0 := Lib.hid (Ev5.nil ((0 : Nat) : Int))
  go_enter Try.func20, Try.ntmps20
  go_wp2_with fail
  go_loopw [5, 6] (fun v iv wr => ∃ (t : Nat) (zs : List Int), t ≤ S ∧ iv = .int .i64 t ∧ Hid (Ev5 (t : Int) zs) ∧ Hid (Own wr w.heap.size v zs) ∧ Hid (Below w.heap.size w wr)) (fun _ iv _ => S - (intOf iv).toNat)
  case atStart => exact ⟨0, [], Nat.zero_le _, rfl, HE0, HO0, HB0⟩
  case round =>
    clear HO0 HB0 HE0
    obtain ⟨t, zs, ht, rfl, hev, hown, hbel⟩ := hrel
    by_cases hlt : t < S
    · have z0 : (0 : Int) ≤ (t : Int) := by omega
      have z1 : (t : Int) < (S : Int) := by omega
      have hll := hev.out.len
      have z8 : t < 8 := by omega
      have hm := Lib.hid (hev.out.more)
      have hs := Lib.hid (hev.out.snoc (by omega))
      have hz := hbel.out.size
      obtain ⟨L, hL⟩ : ∃ L, L = zs.length := ⟨_, rfl⟩
      rw [← hL] at hll
      have HL := Lib.hid hL
      have hO := hown.out
      unfold Own at hO
      rw [← hL] at hO
      have HOL := Lib.hid hO
      clear hL hO
      go_upto_if 16 with fail
      generalize (bits BinOp.and IntKind.u8 (x / 2 ^ t) 1 == 1) = cb
      cases cb
      · go_wp2_with fail
        go_roundw
        case rel => exact ⟨t + 1, zs, by omega, by go_num, by simpa using hm, hown, hbel⟩
        case measure => simp [intOf]; omega
      · go_wp2_with (at_builtin; refine wpList_append_own_at _ rfl _ _ 27 rfl w.heap.size 3 iI (.int .i64 0) 1 8 Try.underlying27 iI0 iI1 iI2 iI3 rfl (by decide) _ L (zs.map (Value.int .i64)) rfl (HOL.out.alloc _) ⟨wr.heap.size, 0, none⟩ 1 1 [.int .i64 (t : Int)] rfl rfl (news_one rfl) (by intro u hu; simp at hu; subst hu; rfl) (by unfold maxLen; omega) (by omega) (by simp; omega) ?_)
        intro v6 w6 hown6 hgrow6 _ _
        have hO6 := Lib.hid (show Own w6 w.heap.size v6 (zs ++ [(t : Int)]) by unfold Own; rw [List.length_append, List.map_append, ← HL.out]; exact hown6)
        have hB6 := Lib.hid ((hbel.out.alloc hz (.cells #[.int .i64 (t : Int)] 3)).grown hgrow6 (by simp; omega) (fun i hi => (HOL.out.lt i hi).1))
        clear hown6 hgrow6
        go_wp2_with fail
        go_roundw
        case rel => exact ⟨t + 1, _, by omega, by go_num, by simpa using hs, hO6, hB6⟩
        case measure => simp [intOf]; omega
    · obtain rfl : S = t := by omega
      go_wp2_with fail
      go_ret
      exact ⟨_, zs, rfl, hown.out, hev.out, hbel.out⟩
/-- No edge by some events leads out of a set. -/
def ouE4 (set ev : List Int) (x : Ed) : Bool := decide (x.f ∈ set) && decide (x.e ∈ ev) && !decide (x.t ∈ set)
def cloR4 (es : List Ed) (set ev : List Int) : Bool := es.all fun x => !ouE4 set ev x
set_option maxHeartbeats 8000000 in
set_option maxRecDepth 100000 in
theorem r4Cl_any (A : Option Addr) (n c : Nat) (s : Int) (M : Option Addr) (m d : Nat) (E : Option Addr) (k g : Nat) (a : Au) (v2 v3 : Value) (set ev : List Int) (w : World) (h : AuR w w.heap.size A n c s M m d E k g a) (h2 : LsI w v2 set) (h3 : LsI w v3 ev) (l2 : set.length ≤ 100000) (l3 : ev.length ≤ 100000) :
    Calls Try.prog 36 #[.agg #[.slice A n c, .int .i64 s, .slice M m d, .slice E k g], v2, v3] w fun e w' => e = .returned (.bool (cloR4 a.ed set ev)) ∧ Below w.heap.size w w' := by
  have HB1 := Lib.hid ((Below.refl w.heap.size w).alloc (Nat.le_refl _) (.cells #[.slice A n c, .int .i64 s, .slice M m d, .slice E k g] 30))
  have HX := Lib.hid (BoxA.made w A n c s M m d E k g 30)
  have HR := Lib.hid h
  have HK := Lib.hid h.hk
  have hbk := h.bk
  have H2 := Lib.hid h2
  have H3 := Lib.hid h3
  obtain ⟨r, hr⟩ : ∃ r, r = cloR4 a.ed set ev := ⟨_, rfl⟩
  rw [← hr]
  have HRE := Lib.hid hr
  have HN0 := Lib.hid (show ∀ x ∈ a.ed.take 0, ouE4 set ev x = false from fun x hx => by simp at hx)
  clear h h2 h3 hr
  go_enter Try.func36, Try.ntmps36
  go_wp2_with fail
  go_loopw [7, 8] (fun iv _ wr => ∃ t : Nat, t ≤ k ∧ iv = .int .i64 t ∧ Hid (∀ x ∈ a.ed.take t, ouE4 set ev x = false) ∧ Hid (Below w.heap.size w wr) ∧ Hid (BoxA wr w.heap.size A n c s M m d E k g)) (fun iv _ _ => k - (intOf iv).toNat)
  case atStart => exact ⟨0, Nat.zero_le _, rfl, HN0, HB1, HX⟩
  case round =>
    clear HN0 HB1 HX
    obtain ⟨t, ht, rfl, hno, hbel, hbx⟩ := hrel
    obtain ⟨q0, q1, q2, q3⟩ := hbx.out
    by_cases hlt : t < k
    · obtain ⟨be, oe, rfl, hbe, hce⟩ := HR.out.ed (by rw [HK.out]; omega)
      obtain ⟨x, hx⟩ : ∃ x, a.ed[t]? = some x := ⟨_, List.getElem?_eq_getElem (by rw [HK.out]; exact hlt)⟩
      obtain ⟨e0, e1, e2⟩ := hce t x hx
      have d0 := (hbel.out.cell (p := ⟨be, oe + t * 3, none⟩) hbe).trans e0
      have d1 := (hbel.out.cell (p := ⟨be, oe + t * 3 + 1, none⟩) hbe).trans e1
      have d2 := (hbel.out.cell (p := ⟨be, oe + t * 3 + 2, none⟩) hbe).trans e2
      have HXX := Lib.hid hx
      have HYE := Lib.hid (fun (hf : ouE4 set ev x = true) => show r = false from by
        rw [HRE.out]; unfold cloR4
        rw [List.all_eq_false]
        exact ⟨x, List.mem_of_getElem? hx, by simp [hf]⟩)
      have HNO := Lib.hid (fun (hf : ouE4 set ev x = false) => show ∀ y ∈ a.ed.take (t + 1), ouE4 set ev y = false from fun y hy => by
        rw [List.take_add_one, hx] at hy
        rcases List.mem_append.1 hy with hy | hy
        · exact hno.out y hy
        · simp at hy; subst hy; exact hf)
      have z0 : (0 : Int) ≤ (t : Int) := by omega
      have z1 : (t : Int) < (k : Int) := by omega
      obtain ⟨Wx, hWx⟩ : ∃ W, W = wr.alloc (.cells #[.int .i64 x.f, .int .i64 x.e, .int .i64 x.t] 70) := ⟨_, rfl⟩
      obtain ⟨Bx, hBx⟩ : ∃ g, g = wr.heap.size := ⟨_, rfl⟩
      have hbw : Below wr.heap.size wr Wx := by rw [hWx]; exact (Below.refl _ _).alloc (Nat.le_refl _) _
      have HBX := Lib.hid (show Row Wx Bx 70 [.int .i64 x.f, .int .i64 x.e, .int .i64 x.t] from by rw [hWx, hBx]; exact Row.new _ _ _)
      have HBL := Lib.hid (hbel.out.trans (hbw.mono hbel.out.size))
      have HXB := Lib.hid (hbx.out.below hbw (box_lt hbx.out))
      have HH1 := Lib.hid (r4has_li _ set x.f Wx (H2.out.below HBL.out) l2)
      have HH2 := Lib.hid (r4has_li _ ev x.e Wx (H3.out.below HBL.out) l3)
      have HH3 := Lib.hid (r4has_li _ set x.t Wx (H2.out.below HBL.out) l2)
      have b0 := HBX.out.cell 0 rfl
      have b1 := HBX.out.cell 1 rfl
      have b2 := HBX.out.cell 2 rfl
      have HWX := Lib.hid hWx
      have HBXE := Lib.hid hBx
      have HOE := Lib.hid (show ouE4 set ev x = (decide (x.f ∈ set) && decide (x.e ∈ ev) && !decide (x.t ∈ set)) from rfl)
      obtain ⟨g1, hg1⟩ : ∃ g, g = decide (x.f ∈ set) := ⟨_, rfl⟩
      obtain ⟨g2, hg2⟩ : ∃ g, g = decide (x.e ∈ ev) := ⟨_, rfl⟩
      obtain ⟨g3, hg3⟩ : ∃ g, g = decide (x.t ∈ set) := ⟨_, rfl⟩
      rw [← hg1] at HH1 HOE
      rw [← hg2] at HH2 HOE
      rw [← hg3] at HH3 HOE
      obtain ⟨xf, hxf⟩ : ∃ y, y = x.f := ⟨_, rfl⟩
      obtain ⟨xe, hxe⟩ : ∃ y, y = x.e := ⟨_, rfl⟩
      obtain ⟨xt, hxt⟩ : ∃ y, y = x.t := ⟨_, rfl⟩
      rw [← hxf] at HWX HBX HH1 d0 b0
      rw [← hxe] at HWX HBX HH2 d1 b1
      rw [← hxt] at HWX HBX HH3 d2 b2
      clear hce e0 e1 e2 hx hWx hBx hbw hxf hxe hxt hg1 hg2 hg3 hno
      go_upto_region 5 with fail
      rw [← HWX.out, ← HBXE.out]
      cases g1
      · have HP := Lib.hid (HNO.out (by rw [HOE.out]; rfl))
        go_wp2_with fail
        refine HH1.out.mono ?_
        rintro e w5 ⟨rfl, rfl⟩
        go_wp2_with fail
        go_roundw
        case rel => exact ⟨t + 1, by omega, by go_num, HP, HBL, HXB⟩
        case measure => simp [intOf]; omega
      · cases g2
        · have HP := Lib.hid (HNO.out (by rw [HOE.out]; rfl))
          go_wp2_with fail
          refine HH1.out.mono ?_
          rintro e w5 ⟨rfl, rfl⟩
          go_wp2_with fail
          refine HH2.out.mono ?_
          rintro e w5 ⟨rfl, rfl⟩
          go_wp2_with fail
          go_roundw
          case rel => exact ⟨t + 1, by omega, by go_num, HP, HBL, HXB⟩
          case measure => simp [intOf]; omega
        · cases g3
          · have HP := Lib.hid (HYE.out (by rw [HOE.out]; rfl))
            go_wp2_with fail
            refine HH1.out.mono ?_
            rintro e w5 ⟨rfl, rfl⟩
            go_wp2_with fail
            refine HH2.out.mono ?_
            rintro e w5 ⟨rfl, rfl⟩
            go_wp2_with fail
            refine HH3.out.mono ?_
            rintro e w5 ⟨rfl, rfl⟩
            go_wp2_with fail
            go_ret
            exact ⟨by rw [HP.out]; rfl, HBL.out⟩
          · have HP := Lib.hid (HNO.out (by rw [HOE.out]; rfl))
            go_wp2_with fail
            refine HH1.out.mono ?_
            rintro e w5 ⟨rfl, rfl⟩
            go_wp2_with fail
            refine HH2.out.mono ?_
            rintro e w5 ⟨rfl, rfl⟩
            go_wp2_with fail
            refine HH3.out.mono ?_
            rintro e w5 ⟨rfl, rfl⟩
            go_wp2_with fail
            go_roundw
            case rel => exact ⟨t + 1, by omega, by go_num, HP, HBL, HXB⟩
            case measure => simp [intOf]; omega
    · obtain rfl : k = t := by omega
      have HP := Lib.hid (show r = true from by
        rw [HRE.out]; unfold cloR4
        rw [List.all_eq_true]
        intro x hx
        have := hno.out x (by rw [List.take_of_length_le (by rw [HK.out]; exact Nat.le_refl _)]; exact hx)
        simp [this])
      go_wp2_with fail
      go_ret
      exact ⟨by rw [HP.out]; rfl, hbel.out⟩
end Go.Proofs.Ytceldgcmjmfjfaa
