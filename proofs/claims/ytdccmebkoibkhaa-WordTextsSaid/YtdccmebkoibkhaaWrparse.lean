/- The contract of the reference's Parse. -/
import Derived.Test.YtdccmebkoibkhaaRparseMath
import Derived.Test.YtdccmebkoibkhaaWconcat
import Derived.Test.YtdccmebkoibkhaaWisshuf
namespace Go.Proofs.Ytdccmebkoibkhaa
open Go.RowKit
set_option linter.unusedVariables false

/-- What Parse gives. -/
def GivesP (ans : PAns) (w : World) (e : Ending) (w' : World) : Prop := ∃ A c, e = .returned (.tuple #[.slice A ans.w.length c, .int .i64 (ans.at_ : Nat), .int .i64 ans.e]) ∧ RdI w' w'.heap.size A ans.w ∧ Below w.heap.size w w'
theorem ext_part (s : ByteArray) (i k : Nat) (h : k = i + stN (s.data.toList.drop i)) (hk : k ≤ s.size) : (s.extract i k).data.toList = partZ s.data.toList i := by
  unfold partZ
  rw [ByteArray.data_extract, Array.toList_extract, List.extract_eq_take_drop, h]
  simp
theorem fnd_ge (l : List Ev) (s : List UInt8) (h : ¬ fndZ l s < 0) : ∃ k : Nat, fndZ l s = (k : Int) ∧ k < l.length := by
  unfold fndZ at h ⊢
  cases e : fidx l s with
  | none => rw [e] at h; simp at h
  | some k => exact ⟨k, rfl, (by
      have := fidx_lt e
      exact this)⟩
theorem getD_data8 (s : ByteArray) (k : Nat) (h : k < s.size) : s.data.toList.getD k 0 = s[k] := by
  rw [← getElem_data s k h, List.getD, List.getElem?_eq_getElem (by rw [size_data]; exact h)]; rfl

set_option maxHeartbeats 4000000 in
set_option maxRecDepth 100000 in
theorem r2Parse_any (A : Option Addr) (n c : Nat) (l : List Ev) (s : ByteArray) (w : World) (hx : RdE w w.heap.size A l) (hn : l.length = n) (hb : n ≤ 1000) (hs : s.size ≤ 1000) :
    Calls Try.prog 42 #[.slice A n c, .string s] w (GivesP (rz l s.data.toList s.size 0 []) w) := by
  have HX := Lib.hid hx
  have HN := Lib.hid hn
  obtain ⟨ans, hans⟩ : ∃ a, a = rz l s.data.toList s.size 0 [] := ⟨_, rfl⟩
  have HA := Lib.hid hans.symm
  rw [← hans]
  have HSZ := Lib.hid (size_data s)
  clear hx hn hans
  go_enter Try.func42, Try.ntmps42
  go_wp2_with fail
  go_loopw [7, 8] (fun v x wr => ∃ (i : Nat) (acc : List Int), i ≤ s.size ∧ x = .int .i64 i ∧ Hid (Own wr w.heap.size v acc) ∧ Hid (rz l s.data.toList (s.size - i) i acc = ans) ∧ Hid (acc.length ≤ i) ∧ Hid (Below w.heap.size w wr)) (fun _ x _ => s.size - (intOf x).toNat)
  case atStart => exact ⟨0, [], Nat.zero_le _, rfl, World.ownsRow_nil _ _ _ _, HA.out, Nat.le_refl _, Below.refl _ _⟩
  case round =>
    obtain ⟨i, acc, hi, rfl, ho, hrz, hlen, hnx⟩ := hrel
    by_cases hlt : i < s.size
    · have i1 : (i : Int) < (s.size : Int) := by omega
      have hm : s.size - i = (s.size - (i + 1)) + 1 := by omega
      by_cases hb0 : s[i] = 32
      · have hd := sp_dec hb0
        have hd2 := sp_nb hb0
        have hr := Lib.hid (show rz l s.data.toList (s.size - (i + 1)) (i + 1) acc = ans by
          have h := hrz.out
          rw [hm, rz, if_pos (by unfold passB; rw [getD_data8 s i hlt, hb0]; rfl)] at h
          exact h)
        have hl2 := Lib.hid (show acc.length ≤ i + 1 by have := hlen.out; omega)
        clear hrz hm hb0
        go_wp2_with fail
        go_roundw
        case rel => exact ⟨i + 1, acc, by omega, by go_num, ho, hr, hl2, hnx⟩
        case measure => simp [intOf]; omega
      · have hd := sp_ndec hb0
        have hd2 := sp_nnb hb0
        rcases Nat.eq_zero_or_pos i with h0 | h0
        · have e0 : ¬ (0 : Int) < (i : Int) := by omega
          have hpf : passB s.data.toList i = false := by unfold passB; rw [getD_data8 s i hlt, show (s[i] == 32) = false from by simpa using hb0, show decide (0 < i) = false from by simp; omega]; rfl
          clear hb0 h0
          have hpass : passB s.data.toList i = false := hpf
          obtain ⟨kk, hkk⟩ : ∃ k, k = i + stN (s.data.toList.drop i) := ⟨_, rfl⟩
          have HKK := Lib.hid hkk.symm
          have hal := hlen.out
          go_wp2_with fail
          go_loop [9] (fun x => ∃ k : Nat, k ≤ s.size ∧ x = .int .i64 k ∧ Hid (k + stN (s.data.toList.drop k) = kk)) (fun x => s.size - (intOf x).toNat)
          case atStart => exact ⟨i, hi, rfl, HKK.out⟩
          case round =>
            obtain ⟨k, hk, rfl, ht⟩ := hrel
            have fin : (hkl : k = kk) → True := fun _ => trivial
            by_cases hlk : k < s.size
            · by_cases hbk : s[k] = 32
              · have hdk := sp_dec hbk
                have hdk2 := sp_nb hbk
                have hkl : k = kk := by have h := ht.out; rw [st_no (by rw [HSZ.out]; exact hlk) (by rw [getElem_data s k hlk]; exact hbk)] at h; exact h
                clear hbk ht fin
                have hik : i ≤ k := by rw [hkl, hkk]; omega
                obtain ⟨nm, hnm⟩ : ∃ nm, nm = s.extract i k := ⟨_, rfl⟩
                have hpz : nm.data.toList = partZ s.data.toList i := by rw [hnm]; exact ext_part s i k (by rw [hkl, hkk]) hk
                have HF := Lib.hid (r2Find_any A n c w.heap.size l nm wr (HX.out.below hnx.out (Nat.le_refl _)) HN.out (by omega))
                rw [hpz] at HF
                obtain ⟨fz, hfz⟩ : ∃ z, z = fndZ l (partZ s.data.toList i) := ⟨_, rfl⟩
                have HFZ := Lib.hid hfz
                rw [← hfz] at HF
                have c1 : (i : Int) ≤ (k : Int) := by omega
                have c2 : (k : Int) ≤ (s.size : Int) := by omega
                have c3 : (acc.length : Int) < 4096 := by omega
                have c4 : ¬ (4096 : Int) ≤ (acc.length : Int) := by omega
                have hrz2 := Lib.hid (show (if fz < 0 then (⟨[], i, 9⟩ : PAns) else rz l s.data.toList (s.size - (i + 1)) (i + 1) (acc ++ [fz])) = ans by
                  have h := hrz.out
                  rw [hm, rz, hpass] at h
                  simp only [Bool.false_eq_true, if_false] at h
                  rw [if_neg (show ¬ 4096 ≤ acc.length by omega), ← hfz] at h
                  exact h)
                have HNM := Lib.hid hnm
                clear hpz hfz hrz hm hpass hkl hkk
                obtain ⟨A7, c7, rfl, hr7, _, _⟩ := own_rdc ho.out
                clear hr7
                go_wp2_with fail
                rw [← HNM.out]
                refine HF.out.mono ?_
                rintro e w' ⟨rfl, rfl⟩
                by_cases hfn : fz < 0
                · have hfin := Lib.hid (show (⟨[], i, 9⟩ : PAns) = ans by have h := hrz2.out; rw [if_pos hfn] at h; exact h)
                  go_wp2_with fail
                  go_ret3
                  exact ⟨none, 0, by rw [← hfin.out]; rfl, by rw [← hfin.out]; exact RdI.nil _ _ _, hnx.out⟩
                · have hfin := Lib.hid (show rz l s.data.toList (s.size - (i + 1)) (i + 1) (acc ++ [fz]) = ans by have h := hrz2.out; rw [if_neg hfn] at h; exact h)
                  have hws := hnx.out.size
                  have hac : acc.length ≤ 2000 := by omega
                  go_wp2_with (at_builtin; refine wpList_app_at rfl (.tmp 58) (.tmp 60) rfl w.heap.size _ _ rfl (ho.out.alloc _) _ _ 1 1 [fz] rfl (rd_lit1 _ _ _ (Nat.lt_succ_self _)) rfl (by omega) (by simp; omega) ?_)
                  intro v' w1 hown hgrow _
                  have HO1 := Lib.hid hown
                  have HB1 := Lib.hid ((hnx.out.alloc hws _).grown hgrow (by simp; omega) (fun j hj => (ho.out.lt j hj).1))
                  have HL1 := Lib.hid (show (acc ++ [fz]).length ≤ i + 1 by simp; omega)
                  clear hown hgrow
                  go_wp2_with fail
                  go_roundw
                  case rel => exact ⟨i + 1, _, by omega, by go_num, HO1, hfin, HL1, HB1⟩
                  case measure => simp [intOf]; omega
              · have hdk := sp_ndec hbk
                have hdk2 := sp_nnb hbk
                have hr := Lib.hid (show k + 1 + stN (s.data.toList.drop (k + 1)) = kk by have h := ht.out; rw [st_yes (by rw [HSZ.out]; exact hlk) (by rw [getElem_data s k hlk]; exact hbk)] at h; exact h)
                clear hbk ht fin
                go_wp2_with fail
                go_round
                case rel => exact ⟨k + 1, by omega, by go_num, hr⟩
                case measure => simp [intOf]; omega
            · have hkl : k = kk := by have h := ht.out; rw [st_end (by rw [HSZ.out]; omega)] at h; exact h
              have hf : ¬ (k : Int) < (s.size : Int) := by omega
              clear ht fin
              have hik : i ≤ k := by rw [hkl, hkk]; omega
              obtain ⟨nm, hnm⟩ : ∃ nm, nm = s.extract i k := ⟨_, rfl⟩
              have hpz : nm.data.toList = partZ s.data.toList i := by rw [hnm]; exact ext_part s i k (by rw [hkl, hkk]) hk
              have HF := Lib.hid (r2Find_any A n c w.heap.size l nm wr (HX.out.below hnx.out (Nat.le_refl _)) HN.out (by omega))
              rw [hpz] at HF
              obtain ⟨fz, hfz⟩ : ∃ z, z = fndZ l (partZ s.data.toList i) := ⟨_, rfl⟩
              have HFZ := Lib.hid hfz
              rw [← hfz] at HF
              have c1 : (i : Int) ≤ (k : Int) := by omega
              have c2 : (k : Int) ≤ (s.size : Int) := by omega
              have c3 : (acc.length : Int) < 4096 := by omega
              have c4 : ¬ (4096 : Int) ≤ (acc.length : Int) := by omega
              have hrz2 := Lib.hid (show (if fz < 0 then (⟨[], i, 9⟩ : PAns) else rz l s.data.toList (s.size - (i + 1)) (i + 1) (acc ++ [fz])) = ans by
                have h := hrz.out
                rw [hm, rz, hpass] at h
                simp only [Bool.false_eq_true, if_false] at h
                rw [if_neg (show ¬ 4096 ≤ acc.length by omega), ← hfz] at h
                exact h)
              have HNM := Lib.hid hnm
              clear hpz hfz hrz hm hpass hkl hkk
              obtain ⟨A7, c7, rfl, hr7, _, _⟩ := own_rdc ho.out
              clear hr7
              go_wp2_with fail
              rw [← HNM.out]
              refine HF.out.mono ?_
              rintro e w' ⟨rfl, rfl⟩
              by_cases hfn : fz < 0
              · have hfin := Lib.hid (show (⟨[], i, 9⟩ : PAns) = ans by have h := hrz2.out; rw [if_pos hfn] at h; exact h)
                go_wp2_with fail
                go_ret3
                exact ⟨none, 0, by rw [← hfin.out]; rfl, by rw [← hfin.out]; exact RdI.nil _ _ _, hnx.out⟩
              · have hfin := Lib.hid (show rz l s.data.toList (s.size - (i + 1)) (i + 1) (acc ++ [fz]) = ans by have h := hrz2.out; rw [if_neg hfn] at h; exact h)
                have hws := hnx.out.size
                have hac : acc.length ≤ 2000 := by omega
                go_wp2_with (at_builtin; refine wpList_app_at rfl (.tmp 58) (.tmp 60) rfl w.heap.size _ _ rfl (ho.out.alloc _) _ _ 1 1 [fz] rfl (rd_lit1 _ _ _ (Nat.lt_succ_self _)) rfl (by omega) (by simp; omega) ?_)
                intro v' w1 hown hgrow _
                have HO1 := Lib.hid hown
                have HB1 := Lib.hid ((hnx.out.alloc hws _).grown hgrow (by simp; omega) (fun j hj => (ho.out.lt j hj).1))
                have HL1 := Lib.hid (show (acc ++ [fz]).length ≤ i + 1 by simp; omega)
                clear hown hgrow
                go_wp2_with fail
                go_roundw
                case rel => exact ⟨i + 1, _, by omega, by go_num, HO1, hfin, HL1, HB1⟩
                case measure => simp [intOf]; omega
        · obtain ⟨j, hij⟩ : ∃ j, i = j + 1 := ⟨i - 1, by omega⟩
          have e1 : ((i : Nat) : Int) - 1 = (j : Int) := by omega
          have e2 : (0 : Int) < (i : Int) := by omega
          have hjl : j < s.size := by omega
          have hj1 : i - 1 = j := by omega
          by_cases hbj : s[j] = 32
          · have hdj := sp_dec hbj
            have hdj2 := sp_nb hbj
            have hpf : passB s.data.toList i = false := by
              unfold passB
              rw [getD_data8 s i hlt, show (s[i] == 32) = false from by simpa using hb0, hj1, getD_data8 s j hjl, hbj]; simp
            clear hb0 hbj hij hj1
            have hpass : passB s.data.toList i = false := hpf
            obtain ⟨kk, hkk⟩ : ∃ k, k = i + stN (s.data.toList.drop i) := ⟨_, rfl⟩
            have HKK := Lib.hid hkk.symm
            have hal := hlen.out
            go_wp2_with fail
            go_loop [9] (fun x => ∃ k : Nat, k ≤ s.size ∧ x = .int .i64 k ∧ Hid (k + stN (s.data.toList.drop k) = kk)) (fun x => s.size - (intOf x).toNat)
            case atStart => exact ⟨i, hi, rfl, HKK.out⟩
            case round =>
              obtain ⟨k, hk, rfl, ht⟩ := hrel
              have fin : (hkl : k = kk) → True := fun _ => trivial
              by_cases hlk : k < s.size
              · by_cases hbk : s[k] = 32
                · have hdk := sp_dec hbk
                  have hdk2 := sp_nb hbk
                  have hkl : k = kk := by have h := ht.out; rw [st_no (by rw [HSZ.out]; exact hlk) (by rw [getElem_data s k hlk]; exact hbk)] at h; exact h
                  clear hbk ht fin
                  have hik : i ≤ k := by rw [hkl, hkk]; omega
                  obtain ⟨nm, hnm⟩ : ∃ nm, nm = s.extract i k := ⟨_, rfl⟩
                  have hpz : nm.data.toList = partZ s.data.toList i := by rw [hnm]; exact ext_part s i k (by rw [hkl, hkk]) hk
                  have HF := Lib.hid (r2Find_any A n c w.heap.size l nm wr (HX.out.below hnx.out (Nat.le_refl _)) HN.out (by omega))
                  rw [hpz] at HF
                  obtain ⟨fz, hfz⟩ : ∃ z, z = fndZ l (partZ s.data.toList i) := ⟨_, rfl⟩
                  have HFZ := Lib.hid hfz
                  rw [← hfz] at HF
                  have c1 : (i : Int) ≤ (k : Int) := by omega
                  have c2 : (k : Int) ≤ (s.size : Int) := by omega
                  have c3 : (acc.length : Int) < 4096 := by omega
                  have c4 : ¬ (4096 : Int) ≤ (acc.length : Int) := by omega
                  have hrz2 := Lib.hid (show (if fz < 0 then (⟨[], i, 9⟩ : PAns) else rz l s.data.toList (s.size - (i + 1)) (i + 1) (acc ++ [fz])) = ans by
                    have h := hrz.out
                    rw [hm, rz, hpass] at h
                    simp only [Bool.false_eq_true, if_false] at h
                    rw [if_neg (show ¬ 4096 ≤ acc.length by omega), ← hfz] at h
                    exact h)
                  have HNM := Lib.hid hnm
                  clear hpz hfz hrz hm hpass hkl hkk
                  obtain ⟨A7, c7, rfl, hr7, _, _⟩ := own_rdc ho.out
                  clear hr7
                  go_wp2_with fail
                  rw [← HNM.out]
                  refine HF.out.mono ?_
                  rintro e w' ⟨rfl, rfl⟩
                  by_cases hfn : fz < 0
                  · have hfin := Lib.hid (show (⟨[], i, 9⟩ : PAns) = ans by have h := hrz2.out; rw [if_pos hfn] at h; exact h)
                    go_wp2_with fail
                    go_ret3
                    exact ⟨none, 0, by rw [← hfin.out]; rfl, by rw [← hfin.out]; exact RdI.nil _ _ _, hnx.out⟩
                  · have hfin := Lib.hid (show rz l s.data.toList (s.size - (i + 1)) (i + 1) (acc ++ [fz]) = ans by have h := hrz2.out; rw [if_neg hfn] at h; exact h)
                    have hws := hnx.out.size
                    have hac : acc.length ≤ 2000 := by omega
                    go_wp2_with (at_builtin; refine wpList_app_at rfl (.tmp 58) (.tmp 60) rfl w.heap.size _ _ rfl (ho.out.alloc _) _ _ 1 1 [fz] rfl (rd_lit1 _ _ _ (Nat.lt_succ_self _)) rfl (by omega) (by simp; omega) ?_)
                    intro v' w1 hown hgrow _
                    have HO1 := Lib.hid hown
                    have HB1 := Lib.hid ((hnx.out.alloc hws _).grown hgrow (by simp; omega) (fun j hj => (ho.out.lt j hj).1))
                    have HL1 := Lib.hid (show (acc ++ [fz]).length ≤ i + 1 by simp; omega)
                    clear hown hgrow
                    go_wp2_with fail
                    go_roundw
                    case rel => exact ⟨i + 1, _, by omega, by go_num, HO1, hfin, HL1, HB1⟩
                    case measure => simp [intOf]; omega
                · have hdk := sp_ndec hbk
                  have hdk2 := sp_nnb hbk
                  have hr := Lib.hid (show k + 1 + stN (s.data.toList.drop (k + 1)) = kk by have h := ht.out; rw [st_yes (by rw [HSZ.out]; exact hlk) (by rw [getElem_data s k hlk]; exact hbk)] at h; exact h)
                  clear hbk ht fin
                  go_wp2_with fail
                  go_round
                  case rel => exact ⟨k + 1, by omega, by go_num, hr⟩
                  case measure => simp [intOf]; omega
              · have hkl : k = kk := by have h := ht.out; rw [st_end (by rw [HSZ.out]; omega)] at h; exact h
                have hf : ¬ (k : Int) < (s.size : Int) := by omega
                clear ht fin
                have hik : i ≤ k := by rw [hkl, hkk]; omega
                obtain ⟨nm, hnm⟩ : ∃ nm, nm = s.extract i k := ⟨_, rfl⟩
                have hpz : nm.data.toList = partZ s.data.toList i := by rw [hnm]; exact ext_part s i k (by rw [hkl, hkk]) hk
                have HF := Lib.hid (r2Find_any A n c w.heap.size l nm wr (HX.out.below hnx.out (Nat.le_refl _)) HN.out (by omega))
                rw [hpz] at HF
                obtain ⟨fz, hfz⟩ : ∃ z, z = fndZ l (partZ s.data.toList i) := ⟨_, rfl⟩
                have HFZ := Lib.hid hfz
                rw [← hfz] at HF
                have c1 : (i : Int) ≤ (k : Int) := by omega
                have c2 : (k : Int) ≤ (s.size : Int) := by omega
                have c3 : (acc.length : Int) < 4096 := by omega
                have c4 : ¬ (4096 : Int) ≤ (acc.length : Int) := by omega
                have hrz2 := Lib.hid (show (if fz < 0 then (⟨[], i, 9⟩ : PAns) else rz l s.data.toList (s.size - (i + 1)) (i + 1) (acc ++ [fz])) = ans by
                  have h := hrz.out
                  rw [hm, rz, hpass] at h
                  simp only [Bool.false_eq_true, if_false] at h
                  rw [if_neg (show ¬ 4096 ≤ acc.length by omega), ← hfz] at h
                  exact h)
                have HNM := Lib.hid hnm
                clear hpz hfz hrz hm hpass hkl hkk
                obtain ⟨A7, c7, rfl, hr7, _, _⟩ := own_rdc ho.out
                clear hr7
                go_wp2_with fail
                rw [← HNM.out]
                refine HF.out.mono ?_
                rintro e w' ⟨rfl, rfl⟩
                by_cases hfn : fz < 0
                · have hfin := Lib.hid (show (⟨[], i, 9⟩ : PAns) = ans by have h := hrz2.out; rw [if_pos hfn] at h; exact h)
                  go_wp2_with fail
                  go_ret3
                  exact ⟨none, 0, by rw [← hfin.out]; rfl, by rw [← hfin.out]; exact RdI.nil _ _ _, hnx.out⟩
                · have hfin := Lib.hid (show rz l s.data.toList (s.size - (i + 1)) (i + 1) (acc ++ [fz]) = ans by have h := hrz2.out; rw [if_neg hfn] at h; exact h)
                  have hws := hnx.out.size
                  have hac : acc.length ≤ 2000 := by omega
                  go_wp2_with (at_builtin; refine wpList_app_at rfl (.tmp 58) (.tmp 60) rfl w.heap.size _ _ rfl (ho.out.alloc _) _ _ 1 1 [fz] rfl (rd_lit1 _ _ _ (Nat.lt_succ_self _)) rfl (by omega) (by simp; omega) ?_)
                  intro v' w1 hown hgrow _
                  have HO1 := Lib.hid hown
                  have HB1 := Lib.hid ((hnx.out.alloc hws _).grown hgrow (by simp; omega) (fun j hj => (ho.out.lt j hj).1))
                  have HL1 := Lib.hid (show (acc ++ [fz]).length ≤ i + 1 by simp; omega)
                  clear hown hgrow
                  go_wp2_with fail
                  go_roundw
                  case rel => exact ⟨i + 1, _, by omega, by go_num, HO1, hfin, HL1, HB1⟩
                  case measure => simp [intOf]; omega
          · have hdj := sp_ndec hbj
            have hdj2 := sp_nnb hbj
            have hr := Lib.hid (show rz l s.data.toList (s.size - (i + 1)) (i + 1) acc = ans by
              have h := hrz.out
              rw [hm, rz, if_pos (by unfold passB; rw [hj1, getD_data8 s j hjl, show (s[j] != 32) = true from by simpa using hbj]; simp; right; exact h0)] at h
              exact h)
            have hl2 := Lib.hid (show acc.length ≤ i + 1 by have := hlen.out; omega)
            clear hrz hm hb0 hbj hij hj1
            go_wp2_with fail
            go_roundw
            case rel => exact ⟨i + 1, acc, by omega, by go_num, ho, hr, hl2, hnx⟩
            case measure => simp [intOf]; omega
    · have i1 : ¬ (i : Int) < (s.size : Int) := by omega
      have hfin := Lib.hid (show (⟨acc, 0, 0⟩ : PAns) = ans by have h := hrz.out; rw [show s.size - i = 0 from by omega, rz] at h; exact h)
      obtain ⟨A7, c7, rfl, hr7, _, _⟩ := own_rdc ho.out
      have HR := Lib.hid hr7
      clear hr7 hrz
      go_wp2_with fail
      go_ret3
      exact ⟨A7, c7, by rw [← hfin.out]; rfl, by rw [← hfin.out]; exact HR.out, hnx.out⟩
end Go.Proofs.Ytdccmebkoibkhaa
