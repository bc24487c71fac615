/- Layer 6: Enabled of the program. -/
import Derived.Test.YtedleffmbddccaaDoorZpRun
set_option linter.unusedVariables false
set_option linter.unusedSimpArgs false
set_option linter.unusedSectionVars false
namespace Go.Proofs.YtedleffmbddccaaDoor
open Go.RowKit Go.Sort

def enP (l : List Au) (t : List Int) (x : Int) : Bool := (stpT l t x).isSome
def enR6 (l : List Au) (t : List Int) : List Int := if ctE l t ≠ 0 then [] else (alT l).filter (enP l t)

set_option maxHeartbeats 8000000 in
set_option maxRecDepth 100000 in
theorem pEnabled_any (A : Option Addr) (n c : Nat) (l : List Au) (A2 : Option Addr) (m d : Nat) (t : List Int) (w : World) (h : RdAs w w.heap.size A l) (hn : l.length = n) (h2 : RdI w w.heap.size A2 t) (hm : t.length = m) :
    Calls Tryd.prog 22 #[.slice A n c, .slice A2 m d] w (GivesL2 w (enR6 l t) (ctE l t)) := by
  have HC := Lib.hid (pChkT_any A n c l A2 m d t w h hn h2 hm)
  obtain ⟨u, hu⟩ : ∃ u, u = ctE l t := ⟨_, rfl⟩
  rw [← hu] at HC ⊢
  by_cases h0 : u = 0
  · obtain ⟨hc0, htl, _⟩ := ct_zero (show ctE l t = 0 by rw [← hu, h0])
    obtain ⟨h12, hr, _⟩ := chk_right hc0
    have HR := Lib.hid (show enR6 l t = (alT l).filter (enP l t) by rw [enR6, if_neg (by rw [← hu]; simpa using h0)])
    rw [HR.out]
    have HLB := Lib.hid (fun W (hW : Below w.heap.size w W) => (h.below hW (Nat.le_refl _)).more hW.size)
    have HSo := Lib.hid (fun W (hW : Below w.heap.size w W) => pStatesOf_any A2 m d t W ((h2.below hW (Nat.le_refl _)).more hW.size) hm (by omega))
    have HSt := Lib.hid (fun W bl (ev : Int) (hW : Below w.heap.size w W) (hbl : bl < W.heap.size) (hcl : W.cell? ⟨bl, 0, none⟩ = some (.slice A n c)) => pStep1_any A n c l (pad t) ev bl W (HLB.out W hW) hn (by omega) hr (pad_len (by omega)) hbl hcl)
    have HEv := Lib.hid (fun W (hW : Below w.heap.size w W) => pEvents_any A n c l W.heap.size W (HLB.out W hW) (Nat.le_refl _) hn (by omega) hr)
    have HPS := Lib.hid (fun x => pad_step (e := x) htl)
    have HRR := Lib.hid (fun x => rfG_range l 0 (pad t) x (by omega))
    have HSL := Lib.hid (fun x => show (stG l 0 (pad t) x).length = 12 by rw [stG_len]; exact pad_len (by omega))
    have ha32 := alT_len hr
    obtain ⟨tt, htt⟩ : ∃ tt, tt = pad t := ⟨_, rfl⟩
    rw [show t ++ List.replicate (12 - m) 0 = tt by rw [htt, pad, hm]] at HSo
    have HPL := Lib.hid (show tt.length = 12 by rw [htt]; exact pad_len (by omega))
    rw [← htt] at HSt HPS HRR HSL
    have hsz1 := Lib.hid (show (Tryd.prog.info? 92).map (·.size) = some (encT tt).length by rw [states_size, encT_len, HPL.out])
    have hone1 := Lib.hid (encT_one tt)
    subst h0
    clear h hn h2 hm hu hc0 htl h12 hr HR htt
    go_enter Tryd.func22, Tryd.ntmps22
    go_wp2_with fail
    refine HC.out.mono ?_
    rintro e w1 ⟨rfl, hb1⟩
    have HB1 := Lib.hid hb1
    clear hb1 HC
    go_wp2_with fail
    refine (HSo.out _ HB1.out).mono ?_
    rintro e w2 ⟨rfl, hb2⟩
    have HB2 := Lib.hid (HB1.out.trans (hb2.mono HB1.out.size))
    clear hb2 HB1 HSo
    go_wp2_with fail
    refine (pStepsOf_any A n c w2).mono ?_
    rintro e w3 ⟨rfl, rfl⟩
    have HB3 := Lib.hid (HB2.out.alloc HB2.out.size (.cells #[.slice A n c] 22))
    have HS3 := Lib.hid (Row.new w2 [.slice A n c] 22)
    obtain ⟨bs, hbs⟩ : ∃ bs, bs = w2.heap.size := ⟨_, rfl⟩
    rw [← hbs] at HS3 ⊢
    clear hbs HB2
    generalize (w2.alloc (.cells #[.slice A n c] 22)) = w3 at *
    have hold := Lib.hid (Row.new w3 (encT zeroT) 92)
    have HB4 := Lib.hid (below_setRow (HB3.out.alloc HB3.out.size (.cells (encT zeroT).toArray 92)) HB3.out.size (encT tt).toArray)
    have HR4 := Lib.hid (show Row _ _ _ _ from setRow_heap (w3.alloc (.cells (encT zeroT).toArray 92)) w3.heap.size _ (encT tt).toArray _ _ hold.out)
    have HS4 := Lib.hid (HS3.out.below (below_setRow ((Below.refl w3.heap.size w3).alloc (Nat.le_refl _) (.cells (encT zeroT).toArray 92)) (Nat.le_refl _) (encT tt).toArray) HS3.out.lt)
    rw [zeroT_enc] at hold HB4 HR4 HS4
    go_wp2_with (first
      | refine wpList_store_row rfl 92 (.tmp 7) (.tmp 21) rfl w3.heap.size (encT tt).toArray rfl rfl 92 (encT zeroT).toArray hold.out (by simpa using hsz1.out) (by simp [encT_len, HPL.out, zeroT]) hone1.out ?_)
    obtain ⟨b7, hb7⟩ : ∃ b7, b7 = w3.heap.size := ⟨_, rfl⟩
    rw [← hb7] at HR4 HB4 HS4 ⊢
    clear hold HB3 HS3 hb7
    generalize World.setRow _ b7 (encT tt).toArray = w4 at *
    refine (HEv.out _ HB4.out).mono ?_
    rintro e w5 ⟨Ax, cx, rfl, hr5, hb5, _, _⟩
    have HB5 := Lib.hid (HB4.out.trans (hb5.mono HB4.out.size))
    have HR5 := Lib.hid (HR4.out.below hb5 HR4.out.lt)
    have HS5 := Lib.hid (HS4.out.below hb5 HS4.out.lt)
    have HX5 := Lib.hid hr5
    obtain ⟨k5, hk5⟩ : ∃ k5, k5 = (alT l).length := ⟨_, rfl⟩
    have HK5 := Lib.hid hk5
    rw [← hk5] at ha32 ⊢
    clear hb5 hr5 hk5 HB4 HR4 HS4 HEv
    obtain ⟨iI, iI0, iI1, iI2, iI3⟩ := info_parts info_int
    go_wp2_with fail
    go_loopw [9, 27] (fun v i wr => ∃ k : Nat, k ≤ k5 ∧ i = .int .i64 k ∧ Hid (Own wr w5.heap.size v (((alT l).take k).filter (enP l t))) ∧ Hid (Below w5.heap.size w5 wr)) (fun _ i _ => k5 - (intOf i).toNat)
    case atStart => exact ⟨0, Nat.zero_le _, rfl, Lib.hid (World.ownsRow_nil _ _ _ _), Lib.hid (Below.refl _ _)⟩
    case round =>
      obtain ⟨k, hkn, rfl, hown, hbel⟩ := hrel
      have hz5 := hbel.out.size
      by_cases hlt : k < k5
      · have hkl : k < (alT l).length := by rw [← HK5.out]; exact hlt
        obtain ⟨b, o, rfl, hb, hc⟩ := HX5.out (by omega)
        have r1 := (hbel.out.cell (p := ⟨b, o + k, none⟩) hb).trans (hc k hkl)
        obtain ⟨x, hx⟩ : ∃ x, x = (alT l).getD k 0 := ⟨_, rfl⟩
        rw [← hx] at r1
        have HBW := Lib.hid (HB5.out.trans (hbel.out.mono HB5.out.size))
        have hrow := HR5.out.below hbel.out HR5.out.lt
        have hstp := HS5.out.below hbel.out HS5.out.lt
        have HST1 := Lib.hid (StAt.row HPL.out hrow)
        have HStep := Lib.hid (HSt.out wr bs x HBW.out hstp.lt (hstp.cell 0 rfl))
        have hps := HPS.out x
        have hrr := HRR.out x
        obtain ⟨T2, hT2⟩ : ∃ T2, T2 = stG l 0 tt x := ⟨_, rfl⟩
        obtain ⟨rs, hrs⟩ : ∃ rs, rs = rfG l 0 tt x := ⟨_, rfl⟩
        have HT2 := Lib.hid (show T2.length = 12 by rw [hT2]; exact HSL.out x)
        rw [← hT2, ← hrs] at HStep
        rw [← hrs] at hps hrr
        have hsz2 := Lib.hid (show (Tryd.prog.info? 92).map (·.size) = some (encT T2).length by rw [states_size, encT_len, HT2.out])
        have hone := Lib.hid (encT_one T2)
        have hyes := fun (hp : enP l t x = true) => filter_take_yes (p := enP l t) hkl (by rw [← hx]; exact hp)
        have hno := fun (hp : enP l t x = false) => filter_take_no (p := enP l t) hkl (by rw [← hx]; exact hp)
        have hkz : (0 : Int) ≤ (k : Int) := by omega
        have hkm : (k : Int) < (k5 : Int) := by omega
        rw [← hx] at hyes
        clear hc hT2 hrs hrow hstp hx
        go_wp2_with (first | refine wpList_load_mid rfl 92 (.tmp 7) rfl b7 0 rfl (encT tt) _ HST1.out.2 Tryd.underlying92 rfl hsz1.out ?_)
        refine HStep.out.mono ?_
        rintro e w8 ⟨rfl, hb8⟩
        have hold8 := Lib.hid (Row.new w8 (encT zeroT) 92)
        have HB9 := Lib.hid (below_setRow ((Below.refl w8.heap.size w8).alloc (Nat.le_refl _) (.cells (encT zeroT).toArray 92)) (Nat.le_refl _) (encT T2).toArray)
        have HO9 := Lib.hid (own_below (own_below hown.out hb8) HB9.out)
        have HBE := Lib.hid (hbel.out.trans ((hb8.trans (HB9.out.mono hb8.size)).mono hbel.out.size))
        rw [zeroT_enc] at hold8 HO9 HBE
        obtain ⟨mk, hmk⟩ : ∃ mk, mk = maskZ rs := ⟨_, rfl⟩
        rw [← hmk]
        clear hb8 HStep HST1 hown hbel HB9
        rcases hps with ⟨p1, p2, _⟩ | ⟨p1, p2⟩
        · obtain rfl : mk = 0 := by rw [hmk, p1]; rfl
          have HY := Lib.hid (hyes (by rw [enP, p2]; rfl))
          obtain ⟨K, hK⟩ : ∃ K, K = ((alT l).take k).filter (enP l t) := ⟨_, rfl⟩
          rw [← hK] at HO9 HY
          have hKl : K.length ≤ k := by rw [hK]; exact Nat.le_trans (List.length_filter_le _ _) (List.length_take_le _ _)
          clear p1 p2 hmk hyes hno hrr hK
          generalize hW9 : World.setRow (w8.alloc (.cells #[.int .i64 0, .int .i64 0, .int .i64 0, .int .i64 0, .int .i64 0, .int .i64 0, .int .i64 0, .int .i64 0, .int .i64 0, .int .i64 0, .int .i64 0, .int .i64 0] 92)) w8.heap.size (encT T2).toArray = w9 at *
          go_wp2_with (first
            | (refine wpList_store_row rfl 92 (.tmp 12) (.tmp 36) rfl w8.heap.size (encT T2).toArray rfl rfl 92 (encT zeroT).toArray hold8.out (by simpa using hsz2.out) (by simp [encT_len, HT2.out, zeroT]) hone.out ?_; rw [hW9])
            | (at_builtin; refine wpList_append_own _ rfl (.tmp 40) (.tmp 42) 27 rfl w5.heap.size 3 iI (.int .i64 0) 1 8 Tryd.underlying27 iI0 iI1 iI2 iI3 rfl (by decide) _ K.length (K.map (Value.int .i64)) rfl (HO9.out.alloc _) ⟨w9.heap.size, 0, none⟩ 1 1 [.int .i64 x] rfl rfl own_one (by intro u hu; simp at hu; subst hu; rfl) (by unfold maxLen; omega) (by omega) (by have := HBE.out.size; simp; omega) ?_; intro v10 w10 ho10 hg10 _))
          have R := own_app (K' := K ++ [x]) rfl HBE.out HO9.out ho10 hg10 (Nat.le_refl _)
          have R1 := Lib.hid R.1
          have R2 := Lib.hid R.2
          clear R ho10 hg10
          go_wp2_with fail
          go_roundw
          case rel => exact ⟨k + 1, by omega, by go_num, by rw [HY.out]; exact R1, R2⟩
          case measure => simp [intOf] <;> omega
        · have hm0 : (mk == 0) = false := by
            obtain ⟨mm, k1, _, k3⟩ := maskZ_pos rs hrr
            rw [hmk, k1]
            have := k3 p1
            simp; omega
          have HY := Lib.hid (hno (by rw [enP, p2]; rfl))
          clear p1 p2 hmk hyes hno hrr
          go_wp2_with (first
            | refine wpList_store_row rfl 92 (.tmp 12) (.tmp 36) rfl w8.heap.size (encT T2).toArray rfl rfl 92 (encT zeroT).toArray hold8.out (by simpa using hsz2.out) (by simp [encT_len, HT2.out, zeroT]) hone.out ?_)
          go_roundw
          case rel => exact ⟨k + 1, by omega, by go_num, by rw [HY.out]; exact HO9, HBE⟩
          case measure => simp [intOf] <;> omega
      · obtain rfl : k = k5 := by omega
        have hall : ((alT l).take k).filter (enP l t) = (alT l).filter (enP l t) := by rw [List.take_of_length_le (by rw [HK5.out]; exact Nat.le_refl _)]
        rw [hall] at hown
        obtain ⟨A', c', he, hrd, q1, q2⟩ := own_rdc hown.out
        obtain ⟨lz, hlz⟩ : ∃ lz, lz = ((alT l).filter (enP l t)).length := ⟨_, rfl⟩
        have HLZ := Lib.hid hlz
        have HRD := Lib.hid hrd
        have Q1 := Lib.hid q1
        have HBF := Lib.hid (HB5.out.trans (hbel.out.mono HB5.out.size))
        rw [← hlz] at he
        subst he
        clear hall hown hrd q1 hlz hlt hkn
        go_wp2_with fail
        go_ret2
        exact ⟨A', c', by rw [← HLZ.out]; rfl, HRD.out, HBF.out, Q1.out, q2⟩
  · have HR := Lib.hid (show enR6 l t = [] by rw [enR6, if_pos (by rw [← hu]; exact h0)])
    have hb : (u != 0) = true := by simp [h0]
    rw [HR.out]
    clear h hn h2 hm hu HR h0
    go_enter Tryd.func22, Tryd.ntmps22
    go_wp2_with fail
    refine HC.out.mono ?_
    rintro e w1 ⟨rfl, hb1⟩
    have HB1 := Lib.hid hb1
    clear hb1 HC
    go_wp2_with fail
    go_ret2
    exact ⟨none, 0, rfl, RdI.nil _ _ _, HB1.out, Nat.le_refl _, by omega⟩
end Go.Proofs.YtedleffmbddccaaDoor
