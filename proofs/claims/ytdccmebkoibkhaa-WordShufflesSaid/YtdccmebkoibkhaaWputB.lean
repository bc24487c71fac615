/- The contract of the reference's Put. -/
import Derived.Test.YtdccmebkoibkhaaWput
namespace Go.Proofs.Ytdccmebkoibkhaa
open Go.RowKit
set_option linter.unusedVariables false

/-- What a function gives that makes a list of words. -/
def GivesL (w : World) (zs : List (List Int)) (e : Ending) (w' : World) : Prop := ∃ A c, e = .returned (.slice A zs.length c) ∧ RdL w' w'.heap.size A zs ∧ Below w.heap.size w w' ∧ zs.length ≤ c ∧ c ≤ 9223372036854775807
theorem own_litL0 (w : World) (base : Nat) (hb : base ≤ w.heap.size) : (w.alloc (.cells #[] 22)).ownsRow base 22 1 (.slice (some ⟨w.heap.size, 0, none⟩) 0 0) ([] : List Value).length [] :=
  World.ownsRow_lit (e := 22) (size := 1) w #[] 0 hb (by unfold maxLen; omega) rfl
theorem rdL_lit1 {w : World} {v : Value} {z : List Int} {B : Nat} (h : Sl w B v z) (hB : B ≤ w.heap.size) : RdL (w.alloc (.cells #[v] 22)) (w.heap.size + 1) (some ⟨w.heap.size, 0, none⟩) [z] := fun _ => by
  obtain ⟨A, c, rfl, hr, h1, h2⟩ := h
  refine ⟨w.heap.size, 0, rfl, Nat.lt_succ_self _, fun j hj => ?_⟩
  have hj0 : j = 0 := by simp at hj; omega
  subst hj0
  refine ⟨A, c, by rw [World.cell?_alloc_at _ _ _ _ rfl]; rfl, ?_, h1, h2⟩
  exact (hr.below ((Below.refl B w).alloc hB _) (Nat.le_refl _)).more (by omega)
theorem sliceL {w : World} {B b o n k c : Nat} {zs : List (List Int)} (h : RdL w B (some ⟨b, o, none⟩) zs) (hn : zs.length = n) (hk : k ≤ n) (hc : n ≤ c) : RdL w B (if c = k then some ⟨b, o, none⟩ else some ⟨b, o + k, none⟩) (zs.drop k) := by
  by_cases e : c = k
  · rw [List.drop_of_length_le (by omega)]; exact fun h => absurd h (by simp)
  · rw [if_neg e]; exact h.drop k

set_option maxHeartbeats 4000000 in
set_option maxRecDepth 4000 in
theorem put_some (b1 o1 n c : Nat) (zs : List (List Int)) (B : Option Addr) (m d : Nat) (xs : List Int) (w : World) (hx : RdL w w.heap.size (some ⟨b1, o1, none⟩) zs) (hn : zs.length = n) (hnc : n ≤ c) (hct : c ≤ 9223372036854775807) (bn : n ≤ 10000) (h0 : 0 < n) (hl : ∀ z ∈ zs, z.length ≤ 1000)
    (hy : RdI w w.heap.size B xs) (hm : xs.length = m) (hmd : m ≤ d) (hdt : d ≤ 9223372036854775807) (bm : m ≤ 1000) :
    Calls Try.prog 54 #[.slice (some ⟨b1, o1, none⟩) n c, .slice B m d] w (GivesL w (putZ zs xs)) := by
  have HX := Lib.hid hx
  have HY := Lib.hid hy
  have HN := Lib.hid hn
  have HM := Lib.hid hm
  have HL := Lib.hid hl
  obtain ⟨R, hR⟩ : ∃ R, R = putZ zs xs := ⟨_, rfl⟩
  have HR := Lib.hid hR
  rw [← hR]
  have CMP := Lib.hid (fun (C : Option Addr) (k e : Nat) (z : List Int) (q : Nat) (h : RdI w w.heap.size C z) (hz : z.length = k) (hk : k ≤ 1000) =>
    (r2Compare_any C B k m e d _ _ z xs (w.drewN q) (h.dr q) (hy.dr q) hz hm (by omega) (by omega)))
  clear hx hy hn hm hl hR
  go_enter Try.func54, Try.ntmps54
  go_wp2_with fail
  go_loopw [5] (fun i wr => ∃ k : Nat, k ≤ n ∧ i = .int .i64 k ∧ Hid (∀ i, i < k → cmpI (zs.getD i []) xs < 0) ∧ ∃ q, wr = w.drewN q) (fun i _ => n - (intOf i).toNat)
  case atStart => exact ⟨0, Nat.zero_le _, rfl, fun i hi => (by omega), 0, rfl⟩
  case round =>
    obtain ⟨k, hk, rfl, hlow, q, rfl⟩ := hrel
    have kc : (k : Int) ≤ (c : Int) := by omega
    have kn : (k : Int) ≤ (n : Int) := by omega
    by_cases hlt : k < n
    · have k1 : (k : Int) < (n : Int) := by omega
      obtain ⟨b', o', e', _, hc1⟩ := HX.out (by rw [HN.out]; omega)
      cases e'
      obtain ⟨C, e, hcell, hrd, _, _⟩ := hc1 k (by rw [HN.out]; exact hlt)
      obtain ⟨z, hz⟩ : ∃ z, z = zs.getD k [] := ⟨_, rfl⟩
      rw [← hz] at hcell hrd
      have hzl : z.length ≤ 1000 := HL.out z (by rw [hz, List.getD, List.getElem?_eq_getElem (by rw [HN.out]; exact hlt)]; exact List.getElem_mem _)
      have CZ := Lib.hid (fun q => CMP.out C z.length e z q hrd rfl hzl)
      obtain ⟨v, hv⟩ : ∃ v, v = cmpI z xs := ⟨_, rfl⟩
      rw [← hv] at CZ
      have HV := Lib.hid hv
      have HZ := Lib.hid hz
      clear hc1 hrd hv hz
      go_wp2_with fail
      refine (CZ.out q).mono ?_
      rintro e w' ⟨rfl, q1, rfl⟩
      rw [World.drewN_drewN]
      by_cases hv0 : v < 0
      · have hlow2 := Lib.hid (show ∀ i, i < k + 1 → cmpI (zs.getD i []) xs < 0 from fun i hi => by
          rcases Nat.lt_or_eq_of_le (Nat.le_of_lt_succ hi) with h | rfl
          · exact hlow.out i h
          · rw [← HZ.out, ← HV.out]; exact hv0)
        go_wp2_with fail
        go_roundw
        case rel => exact ⟨k + 1, by omega, by go_num, hlow2, _, rfl⟩
        case measure => simp [intOf]; omega
      · by_cases hv1 : v = 0
        · have hres := Lib.hid (show R = zs by
            rw [HR.out, putZ_at xs zs k (by rw [HN.out]; exact hk) hlow.out (fun _ => by rw [← HZ.out, ← HV.out]; exact hv0), if_pos ⟨by rw [HN.out]; exact hlt, by rw [← HZ.out, ← HV.out]; exact hv1⟩])
          subst hv1
          go_wp2_with fail
          refine (CZ.out _).mono ?_
          rintro e w' ⟨rfl, q2, rfl⟩
          go_wp2_with fail
          go_ret
          exact ⟨_, c, by rw [hres.out, HN.out]; rfl, by rw [hres.out]; exact HX.out, below_of_draws (by first | exact ⟨_, rfl⟩ | exact ⟨_, World.drewN_drewN _ _ _⟩), by rw [hres.out, HN.out]; exact hnc, hct⟩
        · have hres := Lib.hid (show R = zs.take k ++ (xs :: zs.drop k) by
            rw [HR.out, putZ_at xs zs k (by rw [HN.out]; exact hk) hlow.out (fun _ => by rw [← HZ.out, ← HV.out]; exact hv0), if_neg (fun e => hv1 (by rw [HV.out, HZ.out]; exact e.2))])
          have hvb : (v == 0) = false := by simpa using hv1
          go_wp2_with fail
          refine (CZ.out _).mono ?_
          rintro e w' ⟨rfl, q2, rfl⟩
          obtain ⟨W, hW⟩ : ∃ W, W = (w.drewN (q + q1)).drewN q2 := ⟨_, rfl⟩
          have HBW := Lib.hid (show Below w.heap.size w W by rw [hW]; exact (below_of_draws (by first | exact ⟨_, rfl⟩ | exact ⟨_, World.drewN_drewN _ _ _⟩)))
          rw [← hW]
          clear hW
          have HXW := Lib.hid ((HX.out.below HBW.out (Nat.le_refl _)).more HBW.out.size)
          have HYW := Lib.hid (show Sl W W.heap.size (.slice B m d) xs from ⟨B, d, by rw [HM.out], (HY.out.below HBW.out (Nat.le_refl _)).more HBW.out.size, by rw [HM.out]; exact hmd, hdt⟩)
          have hkl : k ≤ zs.length := by rw [HN.out]; exact hk
          go_wp2_with (at_builtin; refine wpList_appL rfl (.tmp 36) (.tmp 39) rfl W.heap.size _ [] rfl (own_litL0 W W.heap.size (Nat.le_refl _)) W.heap.size (some ⟨b1, o1, none⟩) k c (zs.take k) rfl ((HXW.out.below ((Below.refl _ _).alloc (Nat.le_refl _) _) (Nat.le_refl _)).take k) (by rw [List.length_take]; omega) (by simp; omega) (by simp) ?_)
          intro v1 w1 r1 hown hrow hgrow
          have HB1 := Lib.hid (show Below W.heap.size W w1 from ((Below.refl _ _).alloc (Nat.le_refl _) (.cells #[] 22)).grown hgrow (by simp) (fun j hj => by cases hj; exact Nat.le_refl _))
          have HR1 := Lib.hid (show Row w1 W.heap.size r1 (zs.take k) from hrow.below ((Below.refl _ _).grown hgrow (by simp) (fun j hj => by cases hj; exact Nat.le_refl _)))
          have hr1l : r1.length = k := by have := hrow.1; rw [List.length_take] at this; omega
          have HO1 := Lib.hid (show w1.ownsRow W.heap.size 22 1 v1 k r1 by have := hown; rw [hr1l] at this; exact this)
          have hws1 := HB1.out.size
          have HXW1 := Lib.hid (HXW.out.below HB1.out (Nat.le_refl _))
          clear hown hrow hgrow
          go_wp2_with (at_builtin; refine wpList_app1 rfl (.tmp 41) (.tmp 43) rfl W.heap.size v1 k r1 rfl (HO1.out.alloc _) ⟨w1.heap.size, 0, none⟩ 1 (.slice B m d) rfl (by simp) rfl (by omega) (by simp; omega) ?_)
          intro v2 w2 hown hgrow
          have HO2 := Lib.hid (show w2.ownsRow W.heap.size 22 1 v2 (r1 ++ [Value.slice B m d]).length (r1 ++ [Value.slice B m d]) by rw [List.length_append, hr1l]; exact hown)
          have hb12 : Below W.heap.size w1 w2 := ((Below.refl _ _).alloc hws1 (.cells #[.slice B m d] 22)).grown hgrow (by simp; omega) (fun j hj => (HO1.out.lt j hj).1)
          have HB2 := Lib.hid (HB1.out.trans hb12)
          have HR12 := Lib.hid (HR1.out.below hb12)
          have hl2 : (r1 ++ [Value.slice B m d] : List Value).length = k + 1 := by rw [List.length_append, hr1l]; rfl
          have hws2 := HB2.out.size
          have HXW2 := Lib.hid (HXW1.out.below hb12 (Nat.le_refl _))
          clear hown hgrow hb12
          go_wp2_with (first | (at_builtin; refine wpList_appL rfl (.tmp 45) (.tmp 48) rfl W.heap.size _ (r1 ++ [Value.slice B m d]) rfl HO2.out W.heap.size (if c = k then some ⟨b1, o1, none⟩ else some ⟨b1, o1 + k, none⟩) (n - k) (c - k) (zs.drop k) rfl (sliceL HXW2.out HN.out hk hnc) (by rw [List.length_drop, HN.out]) (by omega) hws2 ?_) | (at_builtin; refine wpList_appL rfl (.tmp 45) (.tmp 48) rfl W.heap.size _ (r1 ++ [Value.slice B m d]) rfl HO2.out W.heap.size (some ⟨b1, o1 + k, none⟩) (n - k) (c - k) (zs.drop k) rfl (HXW2.out.drop k) (by rw [List.length_drop, HN.out]) (by omega) hws2 ?_))
          all_goals
            intro v3 w3 r3 hown hrow hgrow
            have hb23 : Below W.heap.size w2 w3 := (Below.refl _ _).grown hgrow hws2 (fun j hj => (HO2.out.lt j hj).1)
            have HB3 := Lib.hid (HB2.out.trans hb23)
            have hrows : Row w3 w3.heap.size (r1 ++ Value.slice B m d :: r3) R := by
              rw [hres.out]
              have h1 := HR12.out.below hb23
              have h2 := Row.one (HYW.out.below HB3.out)
              have h3 := hrow.below hb23
              have := ((h1.app h2).app h3).more HB3.out.size
              simpa using this
            have hown2 : w3.ownsRow W.heap.size 22 1 v3 (r1 ++ Value.slice B m d :: r3).length (r1 ++ Value.slice B m d :: r3) := by
              rw [List.length_append, hr1l, List.length_cons]; simpa [hr1l] using hown
            have HF := Lib.hid (row_rdl hown2 hrows)
            clear hown hown2 hrow hgrow hb23 hrows
            go_wp2_with fail
            go_ret
            obtain ⟨A', c', e', hr', h1, h2⟩ := HF.out
            exact ⟨A', c', by rw [← e']; rfl, hr', HBW.out.trans (HB3.out.mono HBW.out.size), h1, h2⟩
    · have k1 : ¬ (k : Int) < (n : Int) := by omega
      have hres := Lib.hid (show R = zs.take k ++ (xs :: zs.drop k) by
        rw [HR.out, putZ_at xs zs k (by rw [HN.out]; exact hk) hlow.out (fun h => absurd h (by rw [HN.out]; exact hlt)), if_neg (fun e => hlt (by rw [← HN.out]; exact e.1))])
      obtain ⟨W, hW⟩ : ∃ W, W = w.drewN q := ⟨_, rfl⟩
      have HBW := Lib.hid (show Below w.heap.size w W by rw [hW]; exact (below_drewN (Below.refl _ _) _))
      rw [← hW]
      clear hW
      have HXW := Lib.hid ((HX.out.below HBW.out (Nat.le_refl _)).more HBW.out.size)
      have HYW := Lib.hid (show Sl W W.heap.size (.slice B m d) xs from ⟨B, d, by rw [HM.out], (HY.out.below HBW.out (Nat.le_refl _)).more HBW.out.size, by rw [HM.out]; exact hmd, hdt⟩)
      have hkl : k ≤ zs.length := by rw [HN.out]; exact hk
      go_wp2_with (at_builtin; refine wpList_appL rfl (.tmp 36) (.tmp 39) rfl W.heap.size _ [] rfl (own_litL0 W W.heap.size (Nat.le_refl _)) W.heap.size (some ⟨b1, o1, none⟩) k c (zs.take k) rfl ((HXW.out.below ((Below.refl _ _).alloc (Nat.le_refl _) _) (Nat.le_refl _)).take k) (by rw [List.length_take]; omega) (by simp; omega) (by simp) ?_)
      intro v1 w1 r1 hown hrow hgrow
      have HB1 := Lib.hid (show Below W.heap.size W w1 from ((Below.refl _ _).alloc (Nat.le_refl _) (.cells #[] 22)).grown hgrow (by simp) (fun j hj => by cases hj; exact Nat.le_refl _))
      have HR1 := Lib.hid (show Row w1 W.heap.size r1 (zs.take k) from hrow.below ((Below.refl _ _).grown hgrow (by simp) (fun j hj => by cases hj; exact Nat.le_refl _)))
      have hr1l : r1.length = k := by have := hrow.1; rw [List.length_take] at this; omega
      have HO1 := Lib.hid (show w1.ownsRow W.heap.size 22 1 v1 k r1 by have := hown; rw [hr1l] at this; exact this)
      have hws1 := HB1.out.size
      have HXW1 := Lib.hid (HXW.out.below HB1.out (Nat.le_refl _))
      clear hown hrow hgrow
      go_wp2_with (at_builtin; refine wpList_app1 rfl (.tmp 41) (.tmp 43) rfl W.heap.size v1 k r1 rfl (HO1.out.alloc _) ⟨w1.heap.size, 0, none⟩ 1 (.slice B m d) rfl (by simp) rfl (by omega) (by simp; omega) ?_)
      intro v2 w2 hown hgrow
      have HO2 := Lib.hid (show w2.ownsRow W.heap.size 22 1 v2 (r1 ++ [Value.slice B m d]).length (r1 ++ [Value.slice B m d]) by rw [List.length_append, hr1l]; exact hown)
      have hb12 : Below W.heap.size w1 w2 := ((Below.refl _ _).alloc hws1 (.cells #[.slice B m d] 22)).grown hgrow (by simp; omega) (fun j hj => (HO1.out.lt j hj).1)
      have HB2 := Lib.hid (HB1.out.trans hb12)
      have HR12 := Lib.hid (HR1.out.below hb12)
      have hl2 : (r1 ++ [Value.slice B m d] : List Value).length = k + 1 := by rw [List.length_append, hr1l]; rfl
      have hws2 := HB2.out.size
      have HXW2 := Lib.hid (HXW1.out.below hb12 (Nat.le_refl _))
      clear hown hgrow hb12
      go_wp2_with (first | (at_builtin; refine wpList_appL rfl (.tmp 45) (.tmp 48) rfl W.heap.size _ (r1 ++ [Value.slice B m d]) rfl HO2.out W.heap.size (if c = k then some ⟨b1, o1, none⟩ else some ⟨b1, o1 + k, none⟩) (n - k) (c - k) (zs.drop k) rfl (sliceL HXW2.out HN.out hk hnc) (by rw [List.length_drop, HN.out]) (by omega) hws2 ?_) | (at_builtin; refine wpList_appL rfl (.tmp 45) (.tmp 48) rfl W.heap.size _ (r1 ++ [Value.slice B m d]) rfl HO2.out W.heap.size (some ⟨b1, o1 + k, none⟩) (n - k) (c - k) (zs.drop k) rfl (HXW2.out.drop k) (by rw [List.length_drop, HN.out]) (by omega) hws2 ?_))
      all_goals
        intro v3 w3 r3 hown hrow hgrow
        have hb23 : Below W.heap.size w2 w3 := (Below.refl _ _).grown hgrow hws2 (fun j hj => (HO2.out.lt j hj).1)
        have HB3 := Lib.hid (HB2.out.trans hb23)
        have hrows : Row w3 w3.heap.size (r1 ++ Value.slice B m d :: r3) R := by
          rw [hres.out]
          have h1 := HR12.out.below hb23
          have h2 := Row.one (HYW.out.below HB3.out)
          have h3 := hrow.below hb23
          have := ((h1.app h2).app h3).more HB3.out.size
          simpa using this
        have hown2 : w3.ownsRow W.heap.size 22 1 v3 (r1 ++ Value.slice B m d :: r3).length (r1 ++ Value.slice B m d :: r3) := by
          rw [List.length_append, hr1l, List.length_cons]; simpa [hr1l] using hown
        have HF := Lib.hid (row_rdl hown2 hrows)
        clear hown hown2 hrow hgrow hb23 hrows
        go_wp2_with fail
        go_ret
        obtain ⟨A', c', e', hr', h1, h2⟩ := HF.out
        exact ⟨A', c', by rw [← e']; rfl, hr', HBW.out.trans (HB3.out.mono HBW.out.size), h1, h2⟩
end Go.Proofs.Ytdccmebkoibkhaa
