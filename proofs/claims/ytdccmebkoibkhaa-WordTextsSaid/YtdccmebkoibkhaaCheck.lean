/- Contracts of checkEvent and Check of the program: the first error of an alphabet. -/
import Derived.Test.YtdccmebkoibkhaaFirst
namespace Go.Proofs.Ytdccmebkoibkhaa
open Go.RowKit Go.WideMaps Go.Maps

/-- The error of one event, where its name may be taken already. -/
def evE (x : Ev) (taken : Bool) : Int :=
  if nameB x.name.data.toList = false then 7 else if taken = true then 8 else if x.fault < 0 ∨ 4 < x.fault then 2 else if x.fault ≠ 0 ∧ (x.con = true ∨ x.obs = true) then 13 else 0
theorem evE_name {x : Ev} {t : Bool} (h : nameB x.name.data.toList = false) : evE x t = 7 := by rw [evE, if_pos h]
theorem evE_taken {x : Ev} (h : nameB x.name.data.toList = true) : evE x true = 8 := by rw [evE, if_neg (by simp [h]), if_pos rfl]
theorem evE_range {x : Ev} (h : nameB x.name.data.toList = true) (h' : x.fault < 0 ∨ 4 < x.fault) : evE x false = 2 := by rw [evE, if_neg (by simp [h]), if_neg (by simp), if_pos h']
theorem evE_conflict {x : Ev} (h : nameB x.name.data.toList = true) (h0 : ¬ x.fault < 0) (h4 : ¬ 4 < x.fault) (hf : x.fault ≠ 0) (hc : x.con = true ∨ x.obs = true) : evE x false = 13 := by
  rw [evE, if_neg (by simp [h]), if_neg (by simp), if_neg (by omega), if_pos ⟨hf, hc⟩]
theorem evE_ok {x : Ev} (h : nameB x.name.data.toList = true) (h0 : ¬ x.fault < 0) (h4 : ¬ 4 < x.fault) (hc : x.fault = 0 ∨ (x.con = false ∧ x.obs = false)) : evE x false = 0 := by
  rw [evE, if_neg (by simp [h]), if_neg (by simp), if_neg (by omega), if_neg (by
    rintro ⟨hf, h1⟩
    rcases hc with hc | ⟨hc, hc'⟩
    · exact hf hc
    · simp [hc, hc'] at h1)]

set_option maxHeartbeats 1600000 in
theorem checkEvent_any (nm : ByteArray) (cn ob fr : Bool) (fl : Int) (tk : Bool) (w : World) (hs : nm.size ≤ maxLen) :
    Calls Try.prog 74 #[.agg #[.string nm, .bool cn, .bool ob, .bool fr, .int .i64 fl], .bool tk] w fun e w' => e = .returned (.int .i64 (evE ⟨nm, cn, ob, fr, fl⟩ tk)) ∧ Below w.heap.size w w' := by
  have HN := Lib.hid (fun W => aIsName_any nm W hs)
  have HB := Lib.hid (fun o => (Below.refl w.heap.size w).alloc (Nat.le_refl _) o)
  cases hn : nameB nm.data.toList
  · have HE := Lib.hid (evE_name (x := ⟨nm, cn, ob, fr, fl⟩) (t := tk) hn)
    go_enter Try.func74, Try.ntmps74
    go_wp2_with (go_at_call 90; refine (HN.out _).mono ?_; rintro e w' ⟨rfl, rfl⟩)
    go_ret
    exact ⟨ret_int HE.out.symm, HB.out _⟩
  · cases tk
    · by_cases h0 : fl < 0
      · have HE := Lib.hid (evE_range (x := ⟨nm, cn, ob, fr, fl⟩) hn (.inl h0))
        go_enter Try.func74, Try.ntmps74
        go_wp2_with (go_at_call 90; refine (HN.out _).mono ?_; rintro e w' ⟨rfl, rfl⟩)
        go_ret
        exact ⟨ret_int HE.out.symm, HB.out _⟩
      · by_cases h4 : 4 < fl
        · have HE := Lib.hid (evE_range (x := ⟨nm, cn, ob, fr, fl⟩) hn (.inr h4))
          go_enter Try.func74, Try.ntmps74
          go_wp2_with (go_at_call 90; refine (HN.out _).mono ?_; rintro e w' ⟨rfl, rfl⟩)
          go_ret
          exact ⟨ret_int HE.out.symm, HB.out _⟩
        · by_cases hf : fl = 0
          · have HE := Lib.hid (evE_ok (x := ⟨nm, cn, ob, fr, fl⟩) hn h0 h4 (.inl hf))
            have hb : (fl != 0) = false := by simp [hf]
            clear hf
            go_enter Try.func74, Try.ntmps74
            go_wp2_with (go_at_call 90; refine (HN.out _).mono ?_; rintro e w' ⟨rfl, rfl⟩)
            go_ret
            exact ⟨ret_int HE.out.symm, HB.out _⟩
          · have hb : (fl != 0) = true := by simp [hf]
            cases cn
            · cases ob
              · have HE := Lib.hid (evE_ok (x := ⟨nm, false, false, fr, fl⟩) hn h0 h4 (.inr ⟨rfl, rfl⟩))
                clear hf
                go_enter Try.func74, Try.ntmps74
                go_wp2_with (go_at_call 90; refine (HN.out _).mono ?_; rintro e w' ⟨rfl, rfl⟩)
                go_ret
                exact ⟨ret_int HE.out.symm, HB.out _⟩
              · have HE := Lib.hid (evE_conflict (x := ⟨nm, false, true, fr, fl⟩) hn h0 h4 hf (.inr rfl))
                clear hf
                go_enter Try.func74, Try.ntmps74
                go_wp2_with (go_at_call 90; refine (HN.out _).mono ?_; rintro e w' ⟨rfl, rfl⟩)
                go_ret
                exact ⟨ret_int HE.out.symm, HB.out _⟩
            · have HE := Lib.hid (evE_conflict (x := ⟨nm, true, ob, fr, fl⟩) hn h0 h4 hf (.inl rfl))
              clear hf
              go_enter Try.func74, Try.ntmps74
              go_wp2_with (go_at_call 90; refine (HN.out _).mono ?_; rintro e w' ⟨rfl, rfl⟩)
              go_ret
              exact ⟨ret_int HE.out.symm, HB.out _⟩
    · have HE := Lib.hid (evE_taken (x := ⟨nm, cn, ob, fr, fl⟩) hn)
      go_enter Try.func74, Try.ntmps74
      go_wp2_with (go_at_call 90; refine (HN.out _).mono ?_; rintro e w' ⟨rfl, rfl⟩)
      go_ret
      exact ⟨ret_int HE.out.symm, HB.out _⟩
/-- The first error of the events behind those that have been looked at. -/
def chFrom (done : List Ev) : List Ev → Int
  | [] => 0
  | x :: r => if evE x (fidx done x.name.data.toList).isSome ≠ 0 then evE x (fidx done x.name.data.toList).isSome else chFrom (done ++ [x]) r
/-- The first error of an alphabet. -/
def chE (l : List Ev) : Int := if 32 < l.length then 3 else chFrom [] l
theorem chE_long {l : List Ev} (h : 32 < l.length) : chE l = 3 := by rw [chE, if_pos h]
theorem chE_start {l : List Ev} (h : ¬ 32 < l.length) : chFrom (l.take 0) (l.drop 0) = chE l := by rw [chE, if_neg h]; rfl
theorem ch_drop {l : List Ev} {k : Nat} {x : Ev} (h : l[k]? = some x) : l.drop k = x :: l.drop (k + 1) := by
  obtain ⟨hk, e⟩ := List.getElem?_eq_some_iff.1 h
  rw [List.drop_eq_getElem_cons hk, e]
theorem ch_err {l : List Ev} {k : Nat} {x : Ev} {v c : Int} (h : l[k]? = some x) (hv : chFrom (l.take k) (l.drop k) = v) (hc : evE x (fidx (l.take k) x.name.data.toList).isSome = c) (h0 : c ≠ 0) : v = c := by
  rw [← hv, ch_drop h, chFrom, hc, if_pos h0]
theorem ch_next {l : List Ev} {k : Nat} {x : Ev} {v : Int} (h : l[k]? = some x) (hv : chFrom (l.take k) (l.drop k) = v) (hc : evE x (fidx (l.take k) x.name.data.toList).isSome = 0) : chFrom (l.take (k + 1)) (l.drop (k + 1)) = v := by
  rw [← hv, ch_drop h, chFrom, hc, if_neg (by simp), take_snoc_ev h]
theorem ch_end {l : List Ev} {v : Int} (hv : chFrom (l.take l.length) (l.drop l.length) = v) : v = 0 := by
  rw [← hv, List.drop_of_length_le (Nat.le_refl _), chFrom]
theorem fidx_lt {l : List Ev} {s : List UInt8} {i : Nat} (h : fidx l s = some i) : i < l.length := by
  unfold fidx at h
  rw [List.findIdx?_eq_some_iff_findIdx_eq] at h
  exact h.1
theorem fidx_before {l : List Ev} {k : Nat} {x : Ev} (h : l[k]? = some x) : decide ((((fidx l x.name.data.toList).getD 0 : Nat) : Int) < (k : Int)) = (fidx (l.take k) x.name.data.toList).isSome := by
  obtain ⟨hk, e⟩ := List.getElem?_eq_some_iff.1 h
  have hl : l = l.take k ++ x :: l.drop (k + 1) := by rw [← ch_drop h, List.take_append_drop]
  cases hf : fidx (l.take k) x.name.data.toList with
  | some i =>
    have h1 := fidx_lt hf
    have h2 : fidx l x.name.data.toList = some i := by
      rw [hl]; unfold fidx at *; rw [List.findIdx?_append, hf]; rfl
    rw [List.length_take] at h1
    rw [h2]; simp; omega
  | none =>
    have h2 : fidx l x.name.data.toList = some k := by
      rw [hl]; unfold fidx at *; rw [List.findIdx?_append, hf]; simp [List.findIdx?_cons, List.length_take]; omega
    rw [h2]; simp

theorem lit_inj {a b : Int} (h : (DataW.lit (.int .i64 a) : DataW Unit) = .lit (.int .i64 b)) : a = b := by
  injection h with h; injection h
theorem cl_err {l : List Ev} {k j : Nat} {x : Ev} {v cc : Int} {D : DataW Unit} {key : Lit} (hat : D.atKey key (.lit (.int .i64 0)) = .lit (.int .i64 cc)) (hat' : D.atKey key (.lit (.int .i64 0)) = .lit (.int .i64 (j : Int)))
    (hbf : decide ((j : Int) < (k : Int)) = (fidx (l.take k) x.name.data.toList).isSome) (h : l[k]? = some x) (hv : chFrom (l.take k) (l.drop k) = v) (ht : (evE x (decide (cc < (k : Int))) != 0) = true) : evE x (decide (cc < (k : Int))) = v := by
  have e := lit_inj (hat.symm.trans hat')
  subst e
  rw [hbf] at ht ⊢
  exact (ch_err h hv rfl (by simpa using ht)).symm
theorem cl_next {l : List Ev} {k j : Nat} {x : Ev} {v cc : Int} {D : DataW Unit} {key : Lit} (hat : D.atKey key (.lit (.int .i64 0)) = .lit (.int .i64 cc)) (hat' : D.atKey key (.lit (.int .i64 0)) = .lit (.int .i64 (j : Int)))
    (hbf : decide ((j : Int) < (k : Int)) = (fidx (l.take k) x.name.data.toList).isSome) (h : l[k]? = some x) (hv : chFrom (l.take k) (l.drop k) = v) (ht : (evE x (decide (cc < (k : Int))) != 0) = false) : chFrom (l.take (k + 1)) (l.drop (k + 1)) = v := by
  have e := lit_inj (hat.symm.trans hat')
  subst e
  rw [hbf] at ht
  exact ch_next h hv (by simpa using ht)

set_option maxHeartbeats 1600000 in
set_option maxRecDepth 4000 in
theorem aCheck_any (A : Option Addr) (n c : Nat) (l : List Ev) (w : World) (hx : RdE w w.heap.size A l) (hn : l.length = n) (hb : n * 40 ≤ 140737488351232) (hs : ∀ x ∈ l, x.name.size ≤ maxLen) :
    Calls Try.prog 59 #[.slice A n c] w fun e w' => e = .returned (.int .i64 (chE l)) ∧ Below w.heap.size w w' := by
  have H := Lib.hid (first_any A n c l w hx hn hb hs)
  by_cases h32 : 32 < n
  · have HE := Lib.hid (chE_long (l := l) (by omega))
    clear hn hs
    go_enter Try.func59, Try.ntmps59
    go_wp2
    go_ret
    exact ⟨ret_int HE.out.symm, Below.refl _ _⟩
  · have HN := Lib.hid hn
    have HS := Lib.hid hs
    obtain ⟨v, hv⟩ : ∃ v, chE l = v := ⟨_, rfl⟩
    have HV := Lib.hid ((chE_start (l := l) (by omega)).trans hv)
    have HV' := Lib.hid hv
    clear hn hs hv
    go_enter Try.func59, Try.ntmps59
    go_wp2_with (go_at_call 73; refine H.out.mono ?_; rintro e w1 ⟨rfl, hmap, hbel⟩)
    obtain ⟨D, hown, hview⟩ := hmap
    have HW := Lib.hid hview
    have HO := Lib.hid hown
    clear hview hown
    go_loopw [14] (fun i wr => ∃ k : Nat, k ≤ n ∧ i = .int .i64 k ∧ Hid (chFrom (l.take k) (l.drop k) = v) ∧ Below w.heap.size w wr ∧ Below w1.heap.size w1 wr) (fun i _ => n - (intOf i).toNat)
    case atStart => exact ⟨0, Nat.zero_le _, rfl, HV, hbel, Below.refl _ _⟩
    case round =>
      obtain ⟨k, hk, rfl, ht, hnx, hn1⟩ := hrel
      by_cases hlt : k < n
      · obtain ⟨b1, o1, rfl, hbB, hc1⟩ := hx (by rw [HN.out]; omega)
        have hz : k < l.length := by rw [HN.out]; exact hlt
        obtain ⟨x, hxe⟩ : ∃ x, l[k]? = some x := ⟨_, List.getElem?_eq_getElem hz⟩
        have hc := hc1 k x hxe
        clear hc1 hx
        have HX := Lib.hid hxe
        have hnm := HS.out _ (List.mem_of_getElem? hxe)
        clear hxe
        obtain ⟨nm, cn, ob, fr, fl⟩ := x
        obtain ⟨g1, g2, g3, g4, g5⟩ : EvAt wr b1 (o1 + k * 5) ⟨nm, cn, ob, fr, fl⟩ := hc.keep fun o => hnx.cell hbB
        clear hc
        dsimp only at g1 g2 g3 g4 g5 hnm
        have hkey : keyOf Try.prog 9 (.string nm) = some (.string nm.data.toList) := keyOf_string_mk Try.underlying9 hnm
        have hbf := fidx_before HX.out
        have hat0 := (HW.out.2 nm.data.toList).2
        dsimp only at hbf hat0
        obtain ⟨j, hj⟩ : ∃ j, j = (fidx l nm.data.toList).getD 0 := ⟨_, rfl⟩
        rw [← hj] at hbf hat0
        have HAT := Lib.hid hat0
        have HBF := Lib.hid hbf
        have hownr : Hid (wr.ownsMap Try.prog 9 (plainElem Try.prog 3) w.heap.size n D) := by
          have := HO.out.kept (w' := wr) (row := none) ⟨hn1.os, hn1.tape, hn1.output, hn1.size, fun i hi _ => hn1.block i hi⟩ (by simp)
          exact this
        clear hj hbf hat0
        have HC := Lib.hid (fun tk W => checkEvent_any nm cn ob fr fl tk W hnm)
        go_wp2_with (first
          | (at_lookup; refine wpList_lookup_own_int _ rfl _ _ 78 rfl 9 3 .i64 keyLaw Try.underlying78 Try.underlying3 (zeroInt _) w.heap.size n D rfl (hownr.out.alloc _) _ _ rfl hkey ?_; intro cc hat _)
          | (go_at_call 74; refine (HC.out _ _).mono ?_; rintro e w' ⟨rfl, hbel'⟩))
        · have ht' : (evE ⟨nm, cn, ob, fr, fl⟩ (decide (cc < (k : Int))) != 0) = true := by assumption
          have hv := cl_err hat HAT.out HBF.out HX.out ht.out ht'
          go_ret
          exact ⟨ret_int (hv.trans HV'.out.symm), (hnx.alloc hnx.size _).trans (hbel'.mono (by have := hnx.size; simp; omega))⟩
        · have ht' : (evE ⟨nm, cn, ob, fr, fl⟩ (decide (cc < (k : Int))) != 0) = false := by assumption
          have hv := Lib.hid (cl_next hat HAT.out HBF.out HX.out ht.out ht')
          have r1 := (hnx.alloc hnx.size _).trans (hbel'.mono (by have := hnx.size; simp; omega))
          have r2 := (hn1.alloc hn1.size _).trans (hbel'.mono (by have := hn1.size; simp; omega))
          exact ⟨⟨k + 1, by omega, by go_num, hv, r1, r2⟩, by simp [intOf]; omega⟩
      · have hkn : k = l.length := by rw [HN.out]; omega
        rw [hkn] at ht
        have hv := Lib.hid (ch_end ht.out)
        clear hkn ht
        go_wp2
        go_ret
        exact ⟨ret_int (hv.out.symm.trans HV'.out.symm), hnx⟩
end Go.Proofs.Ytdccmebkoibkhaa
