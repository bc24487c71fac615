/- Texts merged: what follows were texts of their own. -/
import Derived.Test.YtedleffmbddccaaDoorZa4
import Derived.DeepKeys4
import Derived.WideKeyArgs
import Derived.Maps.OwnSet
import Derived.Great.BuildSlice
import Derived.Test.YtedleffmbddccaaDoorZa3
import Derived.Maps.OwnOps
import Derived.Great.FillDense
import Derived.Maps.AppendAt
import Derived.Test.YtedleffmbddccaaDoorZa2
import Derived.Test.YtedleffmbddccaaDoorZa1
import Derived.Deep.RegionHeld3
set_option linter.unusedVariables false
set_option linter.unusedSimpArgs false
set_option linter.unusedSectionVars false
/- Layer 6: stepsOf, eventsOf, isMarked, list. -/
namespace Go.Proofs.YtedleffmbddccaaDoor
open Go.RowKit Go.Sort

theorem pStepsOf_any (A : Option Addr) (n c : Nat) (w : World) : Calls Tryd.prog 53 #[.slice A n c] w fun e w' => e = .returned (.func (.func 76) #[] #[.pointer (some ⟨w.heap.size, 0, none⟩)]) ∧ w' = w.alloc (.cells #[.slice A n c] 22) := by
  go_enter Tryd.func53, Tryd.ntmps53
  go_wp2_with fail
  go_ret
  exact ⟨rfl, rfl⟩

theorem alT_take_succ {l : List Au} {k : Nat} {a : Au} (h : l[k]? = some a) : alT (l.take (k + 1)) = un (alT (l.take k)) a.al := by
  unfold alT; rw [take_au h, List.foldl_append]; rfl
theorem take_right {l : List Au} (h : ∀ a ∈ l, RightW a) (k : Nat) : ∀ a ∈ l.take k, RightW a := fun a ha => h a (List.mem_of_mem_take ha)
theorem alT_len {l : List Au} (h : ∀ a ∈ l, RightW a) : (alT l).length ≤ 32 := nodup_len (lt_nodup (alT_sorted h)) fun x hx => by have := alT_range h x hx; omega

set_option maxHeartbeats 2000000 in
set_option maxRecDepth 20000 in
theorem pEvents_own (A : Option Addr) (n c : Nat) (l : List Au) (B : Nat) (w : World) (h : RdAs w B A l) (hB : B ≤ w.heap.size) (hn : l.length = n) (hnb : n ≤ 1000000) (hr : ∀ a ∈ l, RightW a) :
    Calls Tryd.prog 45 #[.slice A n c] w fun e w' => GivesU w (alT l) e w' := by
  have HL := Lib.hid h
  have HN := Lib.hid hn
  have HBw := Lib.hid hB
  have HRI := Lib.hid hr
  clear h hB hn hr
  go_enter Tryd.func45, Tryd.ntmps45
  go_wp2_with fail
  go_loopw [3, 8] (fun v i wr => ∃ (t : Nat) (A1 : Option Addr) (n1 c1 : Nat), t ≤ n ∧ i = .int .i64 t ∧ v = .slice A1 n1 c1 ∧ (alT (l.take t)).length = n1 ∧ n1 ≤ c1 ∧ c1 ≤ 9223372036854775807 ∧ Hid (Own wr w.heap.size (.slice A1 n1 c1) (alT (l.take t))) ∧ Hid (Below w.heap.size w wr)) (fun _ i _ => n - (intOf i).toNat)
  case atStart => exact ⟨0, none, 0, 0, Nat.zero_le _, rfl, rfl, rfl, Nat.le_refl _, by omega, Lib.hid (World.ownsRow_nil _ _ _ _), Lib.hid (Below.refl _ _)⟩
  case round =>
    obtain ⟨t, A1, n1, c1, htn, rfl, rfl, hn1, hnc, hcm, hrd, hbel⟩ := hrel
    have h32 := alT_len (take_right HRI.out t)
    rw [hn1] at h32
    have HN1 := Lib.hid hn1
    clear hn1
    obtain ⟨_, _, he1, hrdx, _, _⟩ := own_rdc hrd.out
    injection he1 with hea heb hec
    subst hea hec
    have hown := hrd
    have hrd := Lib.hid hrdx
    clear hrdx heb
    by_cases hlt : t < n
    · obtain ⟨a, ha⟩ : ∃ a, l[t]? = some a := ⟨_, List.getElem?_eq_getElem (by rw [HN.out]; exact hlt)⟩
      obtain ⟨b, o, rfl, hb, hc⟩ := HL.out (by rw [HN.out]; omega)
      obtain ⟨A2, n2, c2, s2, M2, m2, d2, E2, k2, g2, h0, h1, h2, h3, hr⟩ := hc t a ha
      have hbw : b < w.heap.size := Nat.lt_of_lt_of_le hb HBw.out
      have p0 := (hbel.out.cell (p := ⟨b, o + t * 4, none⟩) hbw).trans h0
      have p1 := (hbel.out.cell (p := ⟨b, o + t * 4 + 1, none⟩) hbw).trans h1
      have p2 := (hbel.out.cell (p := ⟨b, o + t * 4 + 2, none⟩) hbw).trans h2
      have p3 := (hbel.out.cell (p := ⟨b, o + t * 4 + 3, none⟩) hbw).trans h3
      have HR := Lib.hid ((hr.below hbel.out HBw.out).more (Nat.le_trans HBw.out hbel.out.size))
      have HTK := Lib.hid (alT_take_succ ha)
      have hcn2 := HR.out.cn
      have hn2 : n2 ≤ 32 := by have := nodup_len (lt_nodup (HRI.out a (List.mem_of_getElem? ha)).alo) (S := 32) fun x hx => by have := (HRI.out a (List.mem_of_getElem? ha)).alr x hx; omega
                               rw [HR.out.hn] at this; exact this
      have HU := Lib.hid (fun (cs : Array Value) (T : TypeId) => aUnion_own A1 A2 n1 c1 n2 c2 (alT (l.take t)) a.al (wr.alloc (.cells cs T))
        ((hrd.out.below ((Below.refl wr.heap.size wr).alloc (Nat.le_refl _) (.cells cs T)) (Nat.le_refl _)).more (by simp))
        ((HR.out.al.below ((Below.refl wr.heap.size wr).alloc (Nat.le_refl _) (.cells cs T)) (Nat.le_refl _)).more (by simp)) HN1.out HR.out.hn hnc hcn2.1 (by omega) (by omega) hcm hcn2.2)
      have hb1 := Lib.hid (fun (cs : Array Value) (T : TypeId) => hbel.out.alloc hbel.out.size (.cells cs T))
      have w0 : (t : Int) < (n : Int) := by omega
      have w1 : (0 : Int) ≤ (t : Int) := by omega
      clear h0 h1 h2 h3 hc ha hr
      go_wp2_with fail
      refine (HU.out _ _).mono ?_
      rintro e w4 ⟨A4, c4, rfl, ho4, hb4⟩
      obtain ⟨hr4, hc4, hd4⟩ : True ∧ (un (alT (l.take t)) a.al).length ≤ c4 ∧ c4 ≤ 9223372036854775807 := by
        obtain ⟨_, _, e', _, h1, h2⟩ := own_rdc ho4
        injection e' with _ _ e3
        rw [e3]; exact ⟨trivial, h1, h2⟩
      obtain ⟨zs, hzs⟩ : ∃ zs, zs = un (alT (l.take t)) a.al := ⟨_, rfl⟩
      rw [← hzs] at ho4 hc4 ⊢
      have HZ := Lib.hid (show alT (l.take (t + 1)) = zs by rw [HTK.out, hzs])
      have hb5 := Lib.hid ((hb1.out _ _).trans (hb4.mono (hb1.out _ _).size))
      have HR4 := Lib.hid (own_more ho4 (show w.heap.size ≤ _ from (hb1.out _ _).size))
      clear hb4 p0 p1 p2 p3 hr4 hzs ho4
      obtain ⟨n4, hn4⟩ : ∃ n4, n4 = zs.length := ⟨_, rfl⟩
      rw [← hn4] at hc4 HR4 ⊢
      have HN4 := Lib.hid hn4
      clear hn4
      go_wp2_with fail
      go_roundw
      case rel => exact ⟨t + 1, A4, n4, c4, by omega, by go_num, rfl, by rw [HZ.out, HN4.out], hc4, hd4, Lib.hid (by rw [HZ.out]; unfold Own; rw [← HN4.out]; exact HR4.out), hb5⟩
      case measure => simp [intOf]; omega
    · obtain rfl : t = n := by omega
      have HTA := Lib.hid (show l.take t = l from List.take_of_length_le (by rw [HN.out]; exact Nat.le_refl _))
      rw [HTA.out] at hown HN1
      clear hlt htn hrd
      go_wp2_with fail
      go_ret
      exact ⟨_, _, congrArg (fun k : Nat => Ending.returned (.slice _ k _)) HN1.out.symm, by rw [HN1.out]; exact hown.out, hbel.out⟩
theorem pEvents_any (A : Option Addr) (n c : Nat) (l : List Au) (B : Nat) (w : World) (h : RdAs w B A l) (hB : B ≤ w.heap.size) (hn : l.length = n) (hnb : n ≤ 1000000) (hr : ∀ a ∈ l, RightW a) :
    Calls Tryd.prog 45 #[.slice A n c] w fun e w' => GivesC w (alT l) e w' :=
  (pEvents_own A n c l B w h hB hn hnb hr).mono fun _ _ h => h.gc

/-- Whether a tuple is marked, from place i on. -/
def mkG : List Au → Nat → List Int → Bool
  | [], _, _ => true
  | a :: l, i, t => decide (t.getD i 0 ∈ a.mr) && mkG l (i + 1) t

set_option maxHeartbeats 4000000 in
set_option maxRecDepth 20000 in
theorem pMarked_any (A : Option Addr) (n c : Nat) (l : List Au) (t : List Int) (w : World) (h : RdAs w w.heap.size A l) (hn : l.length = n) (hn12 : n ≤ 12) (hr : ∀ a ∈ l, RightW a) (ht : t.length = 12) :
    Calls Tryd.prog 49 #[.slice A n c, .agg (encT t).toArray] w fun e w' => e = .returned (.bool (mkG l 0 t)) ∧ Below w.heap.size w w' := by
  have HL := Lib.hid h
  have HN := Lib.hid hn
  have HRI := Lib.hid hr
  have HT := Lib.hid ht
  have HB0 := Lib.hid ((Below.refl w.heap.size w).alloc (Nat.le_refl _) (.cells (encT t).toArray 92))
  have HR0 := Lib.hid (Row.new w (encT t) 92)
  obtain ⟨v, hv⟩ : ∃ v, v = mkG l 0 t := ⟨_, rfl⟩
  rw [← hv]
  have HV := Lib.hid (show mkG (l.drop 0) 0 t = v by rw [hv]; rfl)
  clear h hn hr ht hv
  go_enter Tryd.func49, Tryd.ntmps49
  go_wp2_with fail
  go_loopw [9] (fun i wr => ∃ k : Nat, k ≤ n ∧ i = .int .i64 k ∧ Hid (mkG (l.drop k) k t = v) ∧ Hid (Below w.heap.size w wr) ∧ Hid (Row wr w.heap.size 92 (encT t))) (fun i _ => n - (intOf i).toNat)
  case atStart => exact ⟨0, Nat.zero_le _, rfl, HV, HB0, HR0⟩
  case round =>
    clear HV HB0 HR0
    obtain ⟨k, hkn, rfl, hv, hbel, hrow⟩ := hrel
    by_cases hlt : k < n
    · obtain ⟨a, ha⟩ : ∃ a, l[k]? = some a := ⟨_, List.getElem?_eq_getElem (by rw [HN.out]; exact hlt)⟩
      have HA := Lib.hid (HRI.out a (List.mem_of_getElem? ha))
      obtain ⟨b, o, rfl, hb, hc⟩ := HL.out (by rw [HN.out]; omega)
      obtain ⟨A1, n1, c1, s1, M1, m1, d1, E1, k1, g1, h0, h1, h2, h3, hr⟩ := hc k a ha
      have p0 := (hbel.out.cell (p := ⟨b, o + k * 4, none⟩) hb).trans h0
      have p1 := (hbel.out.cell (p := ⟨b, o + k * 4 + 1, none⟩) hb).trans h1
      have p2 := (hbel.out.cell (p := ⟨b, o + k * 4 + 2, none⟩) hb).trans h2
      have p3 := (hbel.out.cell (p := ⟨b, o + k * 4 + 3, none⟩) hb).trans h3
      obtain ⟨q, hq⟩ : ∃ q, q = t.getD k 0 := ⟨_, rfl⟩
      obtain ⟨r, hrr⟩ : ∃ r, r = decide (q ∈ a.mr) := ⟨_, rfl⟩
      have hv2 := hv.out
      rw [drop_au ha, mkG, ← hq, ← hrr] at hv2
      have w3 : k < 12 := by omega
      have w0 : (k : Int) < (n : Int) := by omega
      have w1 : (0 : Int) ≤ (k : Int) := by omega
      have w2 : (k : Int) < 12 := by omega
      have hbs := hbel.out.size
      have hz3 := hrow.out.lt
      have HBA := Lib.hid ((Below.refl wr.heap.size wr).alloc (Nat.le_refl _) (.cells #[.slice A1 n1 c1, .int .i64 s1, .slice M1 m1 d1, .slice E1 k1 g1] 34))
      have f2 : (wr.alloc (.cells #[.slice A1 n1 c1, .int .i64 s1, .slice M1 m1 d1, .slice E1 k1 g1] 34)).cell? ⟨wr.heap.size, 2, none⟩ = some (.slice M1 m1 d1) := (Row.new wr [.slice A1 n1 c1, .int .i64 s1, .slice M1 m1 d1, .slice E1 k1 g1] 34).cell 2 rfl
      have fq : (wr.alloc (.cells #[.slice A1 n1 c1, .int .i64 s1, .slice M1 m1 d1, .slice E1 k1 g1] 34)).cell? ⟨w.heap.size, k, none⟩ = some (.int .i64 q) := by
        have := (hrow.out.alloc (.cells #[.slice A1 n1 c1, .int .i64 s1, .slice M1 m1 d1, .slice E1 k1 g1] 34)).cell k (encT_at (by rw [HT.out]; exact w3))
        rw [this, hq]
      have HM := Lib.hid (fun (q' : Nat) => by
        have := aContains_any M1 m1 d1 w.heap.size a.mr q ((wr.alloc (.cells #[.slice A1 n1 c1, .int .i64 s1, .slice M1 m1 d1, .slice E1 k1 g1] 34)).drewN q') (((hr.mr.below hbel.out (Nat.le_refl _)).below (HBA.out.mono hbs) (Nat.le_refl _)).dr q') hr.hm (by have := hr.bm; omega) (up_of HA.out.mro)
        rw [← hrr] at this
        exact this.mono (R' := fun e w' => e = .returned (.bool r) ∧ w' = (wr.alloc (.cells #[.slice A1 n1 c1, .int .i64 s1, .slice M1 m1 d1, .slice E1 k1 g1] 34)).drewN q') fun e w' h => ⟨h.1, h.2.symm⟩)
      have HBN := Lib.hid (fun (q' : Nat) => below_drewN (hbel.out.trans (HBA.out.mono hbs)) q')
      have HRN := Lib.hid (fun (q' : Nat) => show Row ((wr.alloc (.cells #[.slice A1 n1 c1, .int .i64 s1, .slice M1 m1 d1, .slice E1 k1 g1] 34)).drewN q') w.heap.size 92 (encT t) from hrow.out.alloc _)
      clear h0 h1 h2 h3 hc ha hr hq hrr hv
      cases r
      · rw [Bool.false_and] at hv2
        subst hv2
        go_wp2_with fail
        go_quiet ((go_at_call 65; exact Calls.quiet_of_same (HM.out _)))
        go_wp2_with fail
        go_ret
        exact ⟨rfl, HBN.out _⟩
      · rw [Bool.true_and] at hv2
        have HV2 := Lib.hid hv2
        clear hv2
        go_wp2_with fail
        go_quiet ((go_at_call 65; exact Calls.quiet_of_same (HM.out _)))
        go_wp2_with fail
        go_roundw
        case rel => exact ⟨k + 1, by omega, by go_num, HV2, Lib.hid (HBN.out _), Lib.hid (HRN.out _)⟩
        case measure => simp [intOf]; omega
    · obtain rfl : k = n := by omega
      obtain rfl : v = true := by have := hv.out; rw [List.drop_of_length_le (by rw [HN.out]; exact Nat.le_refl _), mkG] at this; exact this.symm
      clear hlt hkn hv
      go_wp2_with fail
      go_ret
      exact ⟨rfl, hbel.out⟩

set_option maxHeartbeats 2000000 in
theorem pList_any (t : List Int) (n : Nat) (w : World) (ht : t.length = 12) (hn : n ≤ 12) :
    Calls Tryd.prog 50 #[.agg (encT t).toArray, .int .i64 (n : Int)] w fun e w' => GivesC w (t.take n) e w' := by
  have HB0 := Lib.hid ((Below.refl w.heap.size w).alloc (Nat.le_refl _) (.cells (encT t).toArray 92))
  have HR0 := Lib.hid (StAt.row ht (Row.new w (encT t) 92))
  have hl : (t.take n).length = n := by rw [List.length_take, ht]; omega
  have HRD := Lib.hid (show RdI (w.alloc (.cells (encT t).toArray 92)) (w.alloc (.cells (encT t).toArray 92)).heap.size (some ⟨w.heap.size, 0, none⟩) (t.take n) from fun _ => ⟨w.heap.size, 0, rfl, by simp, fun j hj => by
    rw [hl] at hj
    rw [HR0.out.cell (by omega)]
    simp [List.getD, show j < n from hj]⟩)
  have HC := Lib.hid (clone_any (some ⟨w.heap.size, 0, none⟩) n 12 (t.take n) _ HRD.out hl (by omega))
  have w0 : (n : Int) ≤ 12 := by omega
  have w1 : (0 : Int) ≤ (n : Int) := by omega
  have HLL := Lib.hid hl
  clear hl ht
  go_enter Tryd.func50, Tryd.ntmps50
  go_wp2_with fail
  refine HC.out.mono ?_
  rintro e w1 ⟨A1, c1, rfl, hr1, hb1, hc1, hc2⟩
  rw [HLL.out] at hc1 ⊢
  have HR1 := Lib.hid hr1
  have HB1 := Lib.hid (HB0.out.trans (hb1.mono HB0.out.size))
  clear hr1 hb1
  go_wp2_with fail
  go_ret
  exact ⟨A1, c1, congrArg (fun k : Nat => Ending.returned (.slice A1 k c1)) HLL.out.symm, HR1.out, HB1.out, Nat.le_trans (Nat.le_of_eq HLL.out) hc1, hc2⟩
end Go.Proofs.YtedleffmbddccaaDoor

/- Layer 6: tuples as keys of a map; the map of the tuples that have been found. -/
namespace Go.Proofs.YtedleffmbddccaaDoor
open Go.RowKit Go.Sort Go.Maps

theorem laidOutP : laidOutB Tryd.prog = true := by kernel_rfl
theorem rowStates : (92 : TypeId) < Tryd.prog.types.size := of_decide_eq_true (by kernel_rfl)
theorem wideStates : (match Tryd.prog.underlying 92 with | some (.array _ _) | some (.struct _) => true | _ => false) = true := by rw [Tryd.underlying92]
set_option maxRecDepth 100000 in
theorem lawStates : Keyed Tryd.prog 92 := Keyed.of_law (deep_law_laid laidOutP (m := 2) (by omega) rowStates (by kernel_rfl) wideStates)
set_option maxRecDepth 100000 in
theorem keyTypeStates : Tryd.prog.keyType 92 = true := by kernel_rfl
theorem cellsStates : Tryd.prog.cellsOf 92 = 12 := by kernel_rfl
theorem cellsInt : Tryd.prog.cellsOf 3 = 1 := by kernel_rfl
theorem sizeTypes : ∃ m, Tryd.prog.types.size = m + 1 := by
  have h : 0 < Tryd.prog.types.size := Nat.lt_of_le_of_lt (Nat.zero_le _) rowStates
  exact ⟨Tryd.prog.types.size - 1, by omega⟩
/-- A tuple that can be a key. -/
def ValT (t : List Int) : Prop := t.length = 12 ∧ ∀ x ∈ t, (Lit.int .i64 x).wf = true
def KL (t : List Int) : Lit := .string (keyBytes (t.map (Lit.int .i64)))
theorem keyLits_int (d : Nat) {x : Int} (h : (Lit.int .i64 x).wf = true) : Tryd.prog.keyLits (d + 1) 3 [.int .i64 x] = some [.int .i64 x] := by
  unfold Program.keyLits
  simp only [Tryd.underlying3, h, and_self, if_true]
theorem keyLits_states (d : Nat) {t : List Int} (h : ValT t) : Tryd.prog.keyLits (d + 2) 92 (encT t) = some (t.map (Lit.int .i64)) := by
  obtain ⟨hl, hw⟩ := h
  unfold Program.keyLits
  simp only [Tryd.underlying92, cellsStates, cellsInt, encT_len, hl, if_true]
  match t, hl, hw with
  | [a0, a1, a2, a3, a4, a5, a6, a7, a8, a9, a10, a11], _, hw =>
    simp only [List.mem_cons, List.not_mem_nil, or_false, forall_eq_or_imp, forall_eq] at hw
    obtain ⟨h0, h1, h2, h3, h4, h5, h6, h7, h8, h9, h10, h11⟩ := hw
    simp [encT, List.range_succ, keyLits_int, h0, h1, h2, h3, h4, h5, h6, h7, h8, h9, h10, h11]
theorem key_states {t : List Int} (h : ValT t) : keyOf Tryd.prog 92 (.agg (encT t).toArray) = some (KL t) := by
  have hf : (Value.agg (encT t).toArray).formed Tryd.prog 92 = true := by simp [Value.formed, Tryd.underlying92, cellsStates, encT_len, h.1]
  obtain ⟨m, hm⟩ : ∃ m, Tryd.prog.types.size + 1 = m + 2 := by obtain ⟨m, hm⟩ := sizeTypes; exact ⟨m, by omega⟩
  unfold keyOf
  rw [Tryd.underlying92, keyTypeStates, hf, hm]
  simp only [Value.cells, keyLits_states m h, Bool.and_self, if_true, Option.map_some, KL]
theorem encT_inj : ∀ {t t' : List Int}, encT t = encT t' → t = t'
  | [], [], _ => rfl
  | [], _ :: _, h => by cases h
  | _ :: _, [], h => by cases h
  | x :: t, y :: t', h => by
    have h1 := List.cons.inj h
    have h2 : x = y := by have := h1.1; injection this
    rw [h2, encT_inj (t := t) (t' := t') h1.2]
theorem KL_inj {t t' : List Int} (h : ValT t) (h' : ValT t') (e : KL t = KL t') : t = t' := by
  have h1 := key_states h
  have h2 := key_states h'
  rw [← e] at h2
  have h3 := lawStates.inj h1 h2
  have h4 : encT t = encT t' := List.toArray_inj (Value.agg.inj h3)
  exact encT_inj h4
theorem KL_key {t : List Int} (h : ValT t) : WideAt.IsKeyLit (KL t) := lawStates.key (key_states h)

/-- The map of the tuples that have been found, with their numbers. -/
def mpT (ts : List (List Int)) : DataW Unit := ts.zipIdx.foldl (fun D p => D.put (KL p.1) (.lit (.int .i64 (p.2 : Int)))) (.map [])
theorem mpT_snoc (ts : List (List Int)) (t : List Int) : mpT (ts ++ [t]) = (mpT ts).put (KL t) (.lit (.int .i64 (ts.length : Int))) := by
  unfold mpT
  rw [List.zipIdx_append, List.foldl_append]
  simp
theorem mpT_isMap (ts : List (List Int)) : IsMap (mpT ts) := by
  have key : ∀ (l : List (List Int × Nat)) (D : DataW Unit), IsMap D → IsMap (l.foldl (fun D p => D.put (KL p.1) (.lit (.int .i64 (p.2 : Int)))) D) := by
    intro l
    induction l with
    | nil => intro D h; exact h
    | cons p l ih =>
      intro D h
      refine ih _ ?_
      obtain ⟨es, rfl⟩ := h
      exact ⟨_, rfl⟩
  exact key _ _ ⟨_, rfl⟩
theorem snocInd {α : Type} {P : List α → Prop} (h0 : P []) (h1 : ∀ l a, P l → P (l ++ [a])) (l : List α) : P l := by
  have : ∀ l : List α, P l.reverse := by
    intro l
    induction l with
    | nil => exact h0
    | cons a l ih => rw [List.reverse_cons]; exact h1 _ _ ih
  have h := this l.reverse
  rwa [List.reverse_reverse] at h
theorem mpT_reads (ts : List (List Int)) : (∀ t ∈ ts, ValT t) → ts.Nodup → ∀ t, ValT t → Maps.has (mpT ts) (KL t) = decide (t ∈ ts) ∧ (mpT ts).atKey (KL t) (.lit (.int .i64 0)) = .lit (.int .i64 (if t ∈ ts then (ts.idxOf t : Int) else 0)) := by
  refine snocInd (P := fun ts => (∀ t ∈ ts, ValT t) → ts.Nodup → ∀ t, ValT t → Maps.has (mpT ts) (KL t) = decide (t ∈ ts) ∧ (mpT ts).atKey (KL t) (.lit (.int .i64 0)) = .lit (.int .i64 (if t ∈ ts then (ts.idxOf t : Int) else 0))) ?_ ?_ ts
  · intro _ _ t _
    exact ⟨rfl, rfl⟩
  · intro ts u ih hv hn t ht
    have hvu : ValT u := hv u (by simp)
    have hn' := List.nodup_append.1 hn
    have hu : u ∉ ts := fun hc => hn'.2.2 u hc u (by simp) rfl
    have := ih (fun t h => hv t (by simp [h])) hn'.1 t ht
    rw [mpT_snoc]
    by_cases htu : t = u
    · subst htu
      refine ⟨?_, ?_⟩
      · rw [has_put_same (mpT_isMap ts) (KL_key hvu)]; simp
      · rw [atKey_put_same (mpT_isMap ts) (KL_key hvu)]
        simp [List.idxOf_append, hu]
    · have hne : KL t ≠ KL u := fun h => htu (KL_inj ht hvu h)
      rw [has_put_other hne, atKey_put_other hne, this.1, this.2]
      by_cases hm : t ∈ ts
      · simp [hm, List.idxOf_append]
      · simp [hm, htu]
end Go.Proofs.YtedleffmbddccaaDoor

/- Layer 6: the tuples that have been found: their list and their numbers; number. -/
namespace Go.Proofs.YtedleffmbddccaaDoor
open Go.RowKit Go.Sort Go.Maps

theorem zeroInt (w : World) : (zeroValue 3).run Tryd.prog w = .ok (.int .i64 0) w := by kernel_rfl
theorem wf_small {x : Int} (h0 : -9223372036854775808 ≤ x) (h : x ≤ 9223372036854775807) : (Lit.int .i64 x).wf = true := by
  show (decide (IntKind.min .i64 ≤ x) && decide (x ≤ IntKind.max .i64)) = true
  rw [show IntKind.min .i64 = -9223372036854775808 from rfl, show IntKind.max .i64 = 9223372036854775807 from rfl]
  simp [h0, h]
theorem info_states : (Tryd.prog.info? 92).map (fun i => (i.zero, i.size, i.bytes)) = some (some (.agg (encT zeroT).toArray), 12, 96) := by kernel_rfl
def encTs (ts : List (List Int)) : List Value := ts.flatMap encT
theorem encTs_len {ts : List (List Int)} (h : ∀ t ∈ ts, ValT t) : (encTs ts).length = ts.length * 12 := by
  induction ts with
  | nil => rfl
  | cons t ts ih =>
    have := ih fun u hu => h u (List.mem_cons_of_mem _ hu)
    have h1 := (h t List.mem_cons_self).1
    unfold encTs at this ⊢
    rw [List.flatMap_cons, List.length_append, encT_len, h1, this, List.length_cons]; omega
theorem encTs_snoc (ts : List (List Int)) (t : List Int) : encTs (ts ++ [t]) = encTs ts ++ encT t := by unfold encTs; simp
abbrev OwnT (w : World) (base : Nat) (v : Value) (ts : List (List Int)) : Prop := w.ownsRow base 92 12 v ts.length (encTs ts)
theorem fill_tuple {t : List Int} (h : t.length = 12) (z : Array Value) (hz : z.size = 12) : Instr.fill (fun i => some (i * 12, 12)) z [(0, .agg (encT t).toArray)] = some (encT t).toArray := by
  have := Great.fill_whole (s := 12) (by decide) [.agg (encT t).toArray] z (by intro v hv; rw [List.mem_singleton.1 hv]; simp [Value.cells, encT_len, h]) (by simp [hz])
  simpa [Value.cells] using this

theorem StAt.news {w : World} {b : Nat} {t : List Int} (h : StAt w b 0 t) : ∀ j u, (encT t)[j]? = some u → w.cell? ((⟨b, 0, none⟩ : Addr).add j) = some u := by
  intro j u hu
  have h1 := h.2 j u hu
  rw [Nat.zero_add] at h1
  have e : (⟨b, 0, none⟩ : Addr).add j = ⟨b, j, none⟩ := by unfold Addr.add; split <;> simp_all
  rw [e]; exact h1
theorem info_statesE : ∃ iS, Tryd.prog.info? 92 = some iS ∧ iS.zero = some (.agg (encT zeroT).toArray) ∧ iS.size = 12 ∧ iS.bytes = 96 := by
  cases hi : Tryd.prog.info? 92 with
  | none => have := info_states; rw [hi] at this; cases this
  | some iS =>
    have := info_states; rw [hi] at this
    simp only [Option.map_some, Option.some.injEq, Prod.mk.injEq] at this
    exact ⟨iS, rfl, this⟩
theorem wpList_buildOne {ops : Array Oper} {rest : List Oper} {o : Oper} {a : Act} {w : World} {Q : Exit → Act → World → Prop} (hg : o.guard = none) (x : Operand) (ho : o.op = .buildSlice 88 1 #[(0, x)]) (t : List Int) (ht : t.length = 12) (hx : a.eval x = .agg (encT t).toArray)
    (h : wpList Tryd.prog ops Q rest (a.put o.dst (.slice (some ⟨w.heap.size, 0, none⟩) 1 1)) (w.alloc (.cells (encT t).toArray 92))) : wpList Tryd.prog ops Q (o :: rest) a w := by
  obtain ⟨iS, h1, h2, h3, _⟩ := info_statesE
  refine wpList_buildSlice hg 88 92 1 #[(0, x)] ho (encT t).toArray iS _ Tryd.underlying88 h1 h2 (by rw [h3]; omega) (by rw [h3]; omega) ?_ h
  rw [h3]
  have e : (#[(0, x)].map fun (p : Nat × Operand) => (p.1, a.eval p.2)).toList = [(0, .agg (encT t).toArray)] := by simp [hx]
  exact (congrArg _ e).trans (fill_tuple ht _ (by simp))

/-- The found tuples: F the box of their list, B the box of their map, M the map. -/
structure Fnd (w : World) (F B M base : Nat) (v : Value) (ts : List (List Int)) : Prop where
  nu : Row w B 113 [.map (some M)]
  fo : Row w F 88 [v]
  mp : w.ownsMap Tryd.prog 92 (plainElem Tryd.prog 3) M ts.length (mpT ts)
  ow : OwnT w base v ts
  ok : ∀ t ∈ ts, ValT t
  nd : ts.Nodup
  hb : base ≤ w.heap.size
/-- What is kept when a tuple is numbered. -/
structure Kp (w w' : World) (F M : Nat) (v : Value) : Prop where
  os : w'.os = w.os
  tape : w'.tape = w.tape
  output : w'.output = w.output
  size : w.heap.size ≤ w'.heap.size
  block : ∀ k, k < w.heap.size → k ≠ F → k ≠ M → v.ownBlock ≠ some k → w'.heap[k]? = w.heap[k]?
def addT (ts : List (List Int)) (t : List Int) : List (List Int) := if t ∈ ts then ts else ts ++ [t]
theorem ownsMap_ne_row {H : Type} {w : World} {P : Program} {k : TypeId} {R : Value → Option (DataW H × List MemPlace)} {M n : Nat} {D : DataW H} {g : Nat} {e : TypeId} {cs : List Value} (h : w.ownsMap P k R M n D) (hr : Row w g e cs) : M ≠ g := by
  rintro rfl
  obtain ⟨es, clock, hb, _⟩ := h
  rw [hr] at hb; cases hb
theorem ownsMap_ne_own {H : Type} {w : World} {P : Program} {k : TypeId} {R : Value → Option (DataW H × List MemPlace)} {M n : Nat} {D : DataW H} {base sz m : Nat} {e : TypeId} {v : Value} {xs : List Value} (h : w.ownsMap P k R M n D) (hr : w.ownsRow base e sz v m xs) : v.ownBlock ≠ some M := by
  rcases hr.2 with ⟨rfl, _⟩ | ⟨g2, _, _, rfl, _, hg2, _⟩
  · simp [Value.ownBlock]
  · intro h'
    obtain ⟨es, clock, hb, _⟩ := h
    simp only [Value.ownBlock, Option.some.injEq] at h'
    rw [h'] at hg2
    rw [hg2] at hb; cases hb
theorem row_ne_row {w : World} {g1 g2 : Nat} {e1 e2 : TypeId} {c1 c2 : List Value} (h1 : Row w g1 e1 c1) (h2 : Row w g2 e2 c2) (he : e1 ≠ e2) : g1 ≠ g2 := by
  rintro rfl
  have h := h1.symm.trans h2
  simp only [Option.some.injEq, Obj.cells.injEq] at h
  exact he h.2.1
theorem own_shapeT {w : World} {base sz n : Nat} {e : TypeId} {v : Value} {xs : List Value} (h : w.ownsRow base e sz v n xs) : ∃ A c, v = .slice A n c := by
  rcases h.2 with ⟨rfl, rfl⟩ | ⟨g, cap, cur, rfl, _⟩
  · exact ⟨none, 0, rfl⟩
  · exact ⟨_, _, rfl⟩
theorem Row.gr {w w' : World} {g : Nat} {e : TypeId} {cs : List Value} {row : Option Nat} (h : Row w g e cs) (hg : w.grownBy w' row) (hne : some g ≠ row) : Row w' g e cs := (hg.block g h.lt hne).trans h

theorem Fnd.push {w w2 w4 : World} {F B M base : Nat} {v v' : Value} {ts : List (List Int)} {t : List Int} {o1 o2 : Obj} (h : Fnd w F B M base v ts) (ht : ValT t) (hn : t ∉ ts)
    (hm : w2.ownsMap Tryd.prog 92 (plainElem Tryd.prog 3) M (ts.length + 1) ((mpT ts).put (KL t) (.lit (.int .i64 (ts.length : Int)))))
    (hg : (w.alloc o1).grownBy w2 (some M)) (ho : w4.ownsRow base 92 12 v' (ts.length + 1) (encTs ts ++ encT t)) (hg4 : (w2.alloc o2).grownBy w4 v.ownBlock) :
    Fnd (w4.setCell ⟨F, 0, none⟩ v') F B M base v' (ts ++ [t]) ∧ Kp w (w4.setCell ⟨F, 0, none⟩ v') F M v := by
  have hMF := ownsMap_ne_row h.mp h.fo
  have hMB := ownsMap_ne_row h.mp h.nu
  have hBF := row_ne_row h.nu h.fo (by decide)
  have hMv := ownsMap_ne_own h.mp h.ow
  have hBv := row_ne_own h.nu h.ow (by decide)
  have hFv := row_ne_own h.fo h.ow (by decide)
  have s1 := hg.size
  have s2 := hg4.size
  have hn2 : Row w2 B 113 [.map (some M)] := (h.nu.alloc o1).gr hg (by simp; exact fun e => hMB e.symm)
  have hf2 : Row w2 F 88 [v] := (h.fo.alloc o1).gr hg (by simp; exact fun e => hMF e.symm)
  have hn4 : Row w4 B 113 [.map (some M)] := (hn2.alloc o2).gr hg4 (fun e => hBv e.symm)
  have hf4 : Row w4 F 88 [v] := (hf2.alloc o2).gr hg4 (fun e => hFv e.symm)
  have hm4 := (hm.alloc o2).kept hg4 (fun e => hMv e.symm)
  have hFv4 := row_ne_own hf4 ho (by decide)
  have hs : ∀ (W : World) (o : Obj), (W.alloc o).heap.size = W.heap.size + 1 := fun W o => by simp
  rw [hs] at s1 s2
  refine ⟨⟨hn4.setOther (p := ⟨F, 0, none⟩) hBF _, hf4.set 0 v', ?_, ?_, ?_, ?_, ?_⟩, ⟨?_, ?_, ?_, ?_, ?_⟩⟩
  · rw [mpT_snoc, List.length_append]; exact hm4.setCell hMF _
  · unfold OwnT; rw [encTs_snoc, List.length_append]; exact ownsRow_setCell_other ho hFv4 _
  · intro u hu
    rcases List.mem_append.1 hu with hu | hu
    · exact h.ok u hu
    · rw [List.mem_singleton.1 hu]; exact ht
  · rw [List.nodup_append]
    exact ⟨h.nd, by simp, fun a ha b hb e => hn (by rw [List.mem_singleton.1 hb] at e; rw [← e]; exact ha)⟩
  · have := h.hb; simp [World.setCell]; omega
  · exact Eq.trans (b := w2.os) hg4.os hg.os
  · exact Eq.trans (b := w2.tape) hg4.tape hg.tape
  · exact Eq.trans (b := w2.output) hg4.output hg.output
  · simp [World.setCell]; omega
  · intro k hk hF hM hv
    rw [Below.heap_setCell _ _ _ _ (show k ≠ (⟨F, 0, none⟩ : Addr).block from hF), hg4.block k (by rw [hs]; omega) (fun e => hv e.symm), Below.heap_alloc _ _ _ (show k < w2.heap.size by omega), hg.block k (by rw [hs]; omega) (by simpa using hM), Below.heap_alloc _ _ _ hk]

set_option maxHeartbeats 4000000 in
set_option maxRecDepth 100000 in
theorem pNumber_any (F B M base : Nat) (v : Value) (ts : List (List Int)) (t : List Int) (w : World) (h : Fnd w F B M base v ts) (ht : ValT t) (hl : ts.length ≤ 1000000) :
    Calls Tryd.prog 73 #[.agg (encT t).toArray, .pointer (some ⟨B, 0, none⟩), .pointer (some ⟨F, 0, none⟩)] w fun e w' => e = .returned (.int .i64 ((addT ts t).idxOf t : Int)) ∧ ∃ v', Fnd w' F B M base v' (addT ts t) ∧ Kp w w' F M v := by
  have H := Lib.hid h
  have HT := Lib.hid ht
  obtain ⟨A, c, hv⟩ := own_shapeT h.ow
  obtain ⟨n, hn⟩ : ∃ n, n = ts.length := ⟨_, rfl⟩
  rw [← hn] at hv hl
  subst hv
  have HN := Lib.hid hn
  have hB := (h.nu.alloc (.cells (encT t).toArray 92)).cell 0 rfl
  have hF := (h.fo.alloc (.cells (encT t).toArray 92)).cell 0 rfl
  have HMP := Lib.hid (h.mp.alloc (.cells (encT t).toArray 92))
  have HR0 := Lib.hid (Row.new w (encT t) 92)
  have hkey := Lib.hid (key_states ht)
  have hrd := Lib.hid (mpT_reads ts h.ok h.nd t ht)
  have hsz' := Lib.hid (show (Tryd.prog.info? 92).map (·.size) = some (encT t).length by rw [states_size, encT_len, ht.1])
  have HST := Lib.hid (StAt.row ht.1 HR0.out)
  have hFl := h.fo.lt
  have hBl := h.nu.lt
  clear h ht hn
  have hhas := Lib.hid hrd.out.1
  have hatk := Lib.hid hrd.out.2
  clear hrd
  by_cases hin : t ∈ ts
  · have hh : has (mpT ts) (KL t) = true := by rw [hhas.out]; exact decide_eq_true hin
    have hadd : addT ts t = ts := by unfold addT; rw [if_pos hin]
    have hat0 := Lib.hid hatk.out
    rw [if_pos hin] at hat0
    rw [hadd]
    clear hhas hatk hadd
    go_enter Tryd.func73, Tryd.ntmps73
    go_wp2_with (first
      | refine wpList_load_mid rfl 92 (.tmp 3) rfl w.heap.size 0 rfl (encT t) _ HST.out.2 Tryd.underlying92 rfl hsz'.out ?_
      | (at_lookup; refine wpList_lookup_own_ok_int _ rfl _ _ 113 rfl 92 3 .i64 lawStates Tryd.underlying113 Tryd.underlying3 (zeroInt _) M ts.length (mpT ts) rfl HMP.out _ _ rfl hkey.out ?_; intro c0 hat hwc; have hat := Lib.hid hat; rw [hh]))
    go_ret
    have hc : c0 = (ts.idxOf t : Int) := by
      have := hat.out.symm.trans hat0.out
      simpa using this
    exact ⟨congrArg (fun k : Int => Ending.returned (.int .i64 k)) hc, _, ⟨H.out.nu.alloc _, H.out.fo.alloc _, HMP.out, H.out.ow.alloc _, H.out.ok, H.out.nd, Nat.le_trans H.out.hb (by simp)⟩, ⟨rfl, rfl, rfl, by simp, fun k hk _ _ _ => Below.heap_alloc _ _ _ hk⟩⟩
  · have hh : has (mpT ts) (KL t) = false := by rw [hhas.out]; exact decide_eq_false hin
    have hadd : addT ts t = ts ++ [t] := by unfold addT; rw [if_neg hin]
    have HIN := Lib.hid hin
    have hidx : (ts ++ [t]).idxOf t = n := by rw [HN.out]; simp [List.idxOf_append, hin]
    rw [hadd, hidx]
    have hval := Lib.hid (plainElem_int (H := Unit) (P := Tryd.prog) (a := (n : Int)) Tryd.underlying3 (wf_small (by omega) (by omega)))
    clear hhas hatk hadd hidx hin
    have hlm : ts.length < maxLen := by unfold maxLen; rw [← HN.out]; omega
    have hlm1 : ts.length + 1 ≤ maxLen := by unfold maxLen; rw [← HN.out]; omega
    have hlm2 : (ts.length + 1) * 96 ≤ 140737488355328 := by rw [← HN.out]; omega
    obtain ⟨iS, hiS⟩ : ∃ iS, Tryd.prog.info? 92 = some iS := by
      cases hi : Tryd.prog.info? 92 with
      | none => have := info_states; rw [hi] at this; cases this
      | some iS => exact ⟨iS, rfl⟩
    have hiS3 : iS.zero = some (.agg (encT zeroT).toArray) ∧ iS.size = 12 ∧ iS.bytes = 96 := by
      have := info_states; rw [hiS] at this
      simp only [Option.map_some, Option.some.injEq, Prod.mk.injEq] at this
      exact this
    have HIS := Lib.hid hiS
    have HIS3 := Lib.hid hiS3
    clear hiS hiS3
    go_enter Tryd.func73, Tryd.ntmps73
    go_wp2_with (first
      | refine wpList_load_mid rfl 92 (.tmp 3) rfl w.heap.size 0 rfl (encT t) _ HST.out.2 Tryd.underlying92 rfl hsz'.out ?_
      | (at_lookup; refine wpList_lookup_own_ok_int _ rfl _ _ 113 rfl 92 3 .i64 lawStates Tryd.underlying113 Tryd.underlying3 (zeroInt _) M ts.length (mpT ts) rfl HMP.out _ _ rfl hkey.out ?_; intro c0 hat hwc; rw [hh]; clear hat hwc)
      | (at_mapUpdate; refine wpList_mapUpdate_own _ rfl _ _ _ 113 rfl 92 3 lawStates Tryd.underlying113 (plainElem Tryd.prog 3) M ts.length (mpT ts) rfl HMP.out hlm _ _ _ rfl rfl hkey.out _ [] hval.out ?_; intro w2 hown2 hgr2
         have HM2 := Lib.hid hown2; have HG2 := Lib.hid hgr2; clear hown2 hgr2
         have hF := ((H.out.fo.alloc _).gr HG2.out (show some F ≠ some M from fun e => ownsMap_ne_row H.out.mp H.out.fo (by injection e with e; exact e.symm))).cell 0 rfl
         have HR2 := Lib.hid ((HR0.out).gr HG2.out (show some w.heap.size ≠ some M from fun e => by have := H.out.mp.lt; injection e with e; omega))
         have HST2 := Lib.hid (StAt.row HT.out.1 HR2.out)
         have HO2 := Lib.hid (((H.out.ow.alloc (.cells (encT t).toArray 92)).kept HG2.out (.inr (ownsMap_ne_own H.out.mp H.out.ow))).alloc (.cells (encT t).toArray 92))
         have hz2 := HG2.out.size
         have HRX := Lib.hid (StAt.row HT.out.1 (Row.new w2 (encT t) 92)))
      | refine wpList_load_mid rfl 92 (.tmp 3) rfl w.heap.size 0 rfl (encT t) _ HST2.out.2 Tryd.underlying92 rfl hsz'.out ?_
      | refine wpList_buildOne rfl (.tmp 21) rfl t HT.out.1 rfl ?_
      | (at_builtin; refine wpList_append_own_at _ rfl (.tmp 20) (.tmp 22) 88 rfl base 92 iS _ 12 96 Tryd.underlying88 HIS.out HIS3.out.1 HIS3.out.2.1 HIS3.out.2.2 (by simp [Value.cells, encT_len, zeroT]) (by decide) _ ts.length (encTs ts) rfl HO2.out ⟨w2.heap.size, 0, none⟩ 1 1 (encT t) rfl (by rw [encT_len, HT.out.1]) HRX.out.news (fun u hu => by obtain ⟨x, _, rfl⟩ := List.mem_map.1 hu; rfl) hlm1 hlm2 (by have := H.out.hb; simp at hz2 ⊢; omega) ?_
         intro v4 w4 ho4 hg4 _ hbl; obtain ⟨A4, c4, hv4⟩ := own_shapeT ho4; subst hv4
         have HO4 := Lib.hid ho4; have HG4 := Lib.hid hg4; clear ho4 hg4 hbl
         have hF4 := (((H.out.fo.alloc _).gr HG2.out (show some F ≠ some M from fun e => ownsMap_ne_row H.out.mp H.out.fo (by injection e with e; exact e.symm))).alloc (.cells (encT t).toArray 92)).gr HG4.out (fun e => row_ne_own H.out.fo H.out.ow (by decide) e.symm)
         have hF := hF4.cell 0 rfl
         have hFf := hF4.frozen 0
         clear hF4))
    go_ret
    rw [HN.out] at HM2
    have hp := H.out.push HT.out HIN.out HM2.out HG2.out HO4.out HG4.out
    exact ⟨rfl, ⟨_, hp.1⟩, hp.2⟩
end Go.Proofs.YtedleffmbddccaaDoor

/- Layer 3: slices.Equal of edges, Equal of the program, Same of the reference, few. -/
namespace Go.Proofs.YtedleffmbddccaaDoor
open Go.RowKit Go.Sort

theorem edAt {l : List Ed} {k : Nat} (h : k < l.length) : ∃ x, l[k]? = some x := ⟨_, List.getElem?_eq_getElem h⟩
theorem eqE_step {xs ys : List Ed} {k : Nat} {x : Ed} (hx : xs[k]? = some x) (hy : ys[k]? = some x) (h : xs.take k = ys.take k) : xs.take (k + 1) = ys.take (k + 1) := by
  rw [take_succ_ed hx, take_succ_ed hy, h]
theorem neE_of {xs ys : List Ed} {k : Nat} {x y : Ed} (hx : xs[k]? = some x) (hy : ys[k]? = some y) (h : ¬ x = y) : decide (xs = ys) = false := by
  simp only [decide_eq_false_iff_not]; rintro rfl; rw [hx] at hy; injection hy with hy; exact h hy
theorem eqE_all {xs ys : List Ed} (hl : ys.length = xs.length) (h : xs.take xs.length = ys.take xs.length) : decide (xs = ys) = true := by
  rw [List.take_of_length_le (Nat.le_refl _), List.take_of_length_le (by omega)] at h
  simpa using h
theorem ed_ne {x y : Ed} (h : ¬ x = y) : ¬ (x.f = y.f ∧ x.e = y.e ∧ x.t = y.t) := fun ⟨h1, h2, h3⟩ => h (by cases x; cases y; simp_all)
set_option maxHeartbeats 800000 in
theorem equalEd_any (A B : Option Addr) (n m c d Bx By : Nat) (xs ys : List Ed) (w : World) (hx : RdG w Bx A xs) (hy : RdG w By B ys) (hn : xs.length = n) (hm : ys.length = m) (hb : n ≤ 1000000) (hb' : m ≤ 1000000) :
    Calls Tryd.prog 61 #[.slice A n c, .slice B m d] w fun e w' => e = .returned (.bool (decide (xs = ys))) ∧ ∃ q, w' = w.drewN q := by
  by_cases hnm : n = m
  · subst hnm
    have HN := Lib.hid hn
    have HM := Lib.hid hm
    clear hn hm
    go_enter Tryd.func61, Tryd.ntmps61
    go_wp2
    go_loopw [13] (fun i wr => ∃ k : Nat, k ≤ n ∧ i = .int .i64 k ∧ Hid (xs.take k = ys.take k) ∧ ∃ q, wr = w.drewN q) (fun i _ => n - (intOf i).toNat)
    case atStart => exact ⟨0, Nat.zero_le _, rfl, rfl, 0, rfl⟩
    case round =>
      obtain ⟨k, hk, rfl, ht, q, rfl⟩ := hrel
      by_cases hlt : k < n
      · obtain ⟨b1, o1, rfl, _, hc1⟩ := hx (by rw [HN.out]; omega)
        obtain ⟨b2, o2, rfl, _, hc2⟩ := hy (by rw [HM.out]; omega)
        obtain ⟨x, hx1⟩ := edAt (l := xs) (k := k) (by rw [HN.out]; exact hlt)
        obtain ⟨y, hy1⟩ := edAt (l := ys) (k := k) (by rw [HM.out]; exact hlt)
        obtain ⟨u0, u1, u2⟩ := hc1 k x hx1
        obtain ⟨v0, v1, v2⟩ := hc2 k y hy1
        clear hc1 hc2 hx hy
        by_cases hxy : x = y
        · subst hxy
          have hs := Lib.hid (eqE_step hx1 hy1 ht.out)
          obtain ⟨xf, xe, xt⟩ := x
          clear hx1 hy1 ht
          go_wp2
          go_quiet (fail)
          go_wp2
          go_roundw
          case rel => exact ⟨k + 1, by omega, by go_num, hs, by first | exact ⟨_, rfl⟩ | exact dr_add _ _ _⟩
          case measure => simp [intOf]; omega
        · have hf := Lib.hid (neE_of hx1 hy1 hxy)
          have hne := ed_ne hxy
          obtain ⟨xf, xe, xt⟩ := x
          obtain ⟨yf, ye, yt⟩ := y
          simp only at hne u0 u1 u2 v0 v1 v2
          clear hx1 hy1 ht hxy
          by_cases h1 : xf = yf
          · by_cases h2 : xe = ye
            · have h3 : ¬ xt = yt := fun h3 => hne ⟨h1, h2, h3⟩
              subst h1; subst h2
              clear hne
              go_wp2
              go_quiet (fail)
              go_wp2
              go_ret
              exact ⟨ret_bool hf.out.symm, by first | exact ⟨_, rfl⟩ | exact dr_add _ _ _⟩
            · subst h1
              clear hne
              go_wp2
              go_quiet (fail)
              go_wp2
              go_ret
              exact ⟨ret_bool hf.out.symm, by first | exact ⟨_, rfl⟩ | exact dr_add _ _ _⟩
          · clear hne
            go_wp2
            go_quiet (fail)
            go_wp2
            go_ret
            exact ⟨ret_bool hf.out.symm, by first | exact ⟨_, rfl⟩ | exact dr_add _ _ _⟩
      · have hkn : k = n := by omega
        have hf := Lib.hid (eqE_all (xs := xs) (ys := ys) (by rw [HN.out, HM.out]) (by rw [HN.out, ← hkn]; exact ht.out))
        clear hkn ht
        go_wp2
        go_ret
        exact ⟨ret_bool hf.out.symm, _, rfl⟩
  · have hf : decide (xs = ys) = false := by simp only [decide_eq_false_iff_not]; rintro rfl; omega
    have hne : ((n : Int) != (m : Int)) = true := by simp; omega
    clear hn hm
    go_enter Tryd.func61, Tryd.ntmps61
    go_wp2
    go_ret
    exact ⟨ret_bool hf.symm, 0, rfl⟩

theorem au_eq (a b : Au) : decide (a = b) = (decide (a.al = b.al) && (decide (a.st = b.st) && (decide (a.mr = b.mr) && decide (a.ed = b.ed)))) := by
  cases a; cases b; simp [Bool.decide_and]
/-- The calls that compare lists, told by Below. -/
theorem equalInt_b (A B : Option Addr) (n m c d Bx : Nat) (xs ys : List Int) (w : World) (hx : RdI w Bx A xs) (hy : RdI w Bx B ys) (hn : xs.length = n) (hm : ys.length = m) (hb : n ≤ 100000) (hb' : m ≤ 100000) :
    Calls Tryd.prog 60 #[.slice A n c, .slice B m d] w fun e w' => e = .returned (.bool (decide (xs = ys))) ∧ Below w.heap.size w w' :=
  (equalInt_any A B n m c d Bx Bx xs ys w hx hy hn hm (by omega) (by omega)).mono fun e w' ⟨h, q, e2⟩ => ⟨h, by rw [e2]; exact below_drewN (Below.refl _ _) q⟩
theorem equalEd_b (A B : Option Addr) (n m c d Bx : Nat) (xs ys : List Ed) (w : World) (hx : RdG w Bx A xs) (hy : RdG w Bx B ys) (hn : xs.length = n) (hm : ys.length = m) (hb : n ≤ 1000000) (hb' : m ≤ 1000000) :
    Calls Tryd.prog 61 #[.slice A n c, .slice B m d] w fun e w' => e = .returned (.bool (decide (xs = ys))) ∧ Below w.heap.size w w' :=
  (equalEd_any A B n m c d Bx Bx xs ys w hx hy hn hm hb hb').mono fun e w' ⟨h, q, e2⟩ => ⟨h, by rw [e2]; exact below_drewN (Below.refl _ _) q⟩

set_option maxHeartbeats 1600000 in
theorem mEqual_any (A : Option Addr) (n c : Nat) (s : Int) (M : Option Addr) (m d : Nat) (E : Option Addr) (k g : Nat) (A2 : Option Addr) (n2 c2 : Nat) (s2 : Int) (M2 : Option Addr) (m2 d2 : Nat) (E2 : Option Addr) (k2 g2 : Nat) (a b : Au) (B : Nat) (w : World) (h : AuR w B A n c s M m d E k g a) (h2 : AuR w B A2 n2 c2 s2 M2 m2 d2 E2 k2 g2 b) (hB : B ≤ w.heap.size) :
    Calls Tryd.prog 30 #[.agg #[.slice A n c, .int .i64 s, .slice M m d, .slice E k g], .agg #[.slice A2 n2 c2, .int .i64 s2, .slice M2 m2 d2, .slice E2 k2 g2]] w fun e w' => e = .returned (.bool (decide (a = b))) ∧ Below w.heap.size w w' := by
  have hb1 := ((Below.refl w.heap.size w).alloc (Nat.le_refl _) (.cells #[.slice A n c, .int .i64 s, .slice M m d, .slice E k g] 34)).alloc (by simp) (.cells #[.slice A2 n2 c2, .int .i64 s2, .slice M2 m2 d2, .slice E2 k2 g2] 34)
  have HB1 := Lib.hid hb1
  have HX := Lib.hid (box_row A n c s M m d E k g ((Row.new w [.slice A n c, .int .i64 s, .slice M m d, .slice E k g] 34).alloc (.cells #[.slice A2 n2 c2, .int .i64 s2, .slice M2 m2 d2, .slice E2 k2 g2] 34)))
  have HX2 := Lib.hid (show BoxA ((w.alloc (.cells #[.slice A n c, .int .i64 s, .slice M m d, .slice E k g] 34)).alloc (.cells #[.slice A2 n2 c2, .int .i64 s2, .slice M2 m2 d2, .slice E2 k2 g2] 34)) (w.heap.size + 1) A2 n2 c2 s2 M2 m2 d2 E2 k2 g2 by
    have := box_row A2 n2 c2 s2 M2 m2 d2 E2 k2 g2 (Row.new (w.alloc (.cells #[.slice A n c, .int .i64 s, .slice M m d, .slice E k g] 34)) [.slice A2 n2 c2, .int .i64 s2, .slice M2 m2 d2, .slice E2 k2 g2] 34)
    simpa using this)
  have HC1 := Lib.hid (equalInt_b A A2 n n2 c c2 B a.al b.al _ (h.al.below hb1 hB) (h2.al.below hb1 hB) h.hn h2.hn h.bn h2.bn)
  have HC2 := Lib.hid (fun W (hW : Below w.heap.size w W) => equalInt_b M M2 m m2 d d2 B a.mr b.mr W (h.mr.below hW hB) (h2.mr.below hW hB) h.hm h2.hm h.bm h2.bm)
  have HC3 := Lib.hid (fun W (hW : Below w.heap.size w W) => equalEd_b E E2 k k2 g g2 B a.ed b.ed W (h.ed.below hW hB) (h2.ed.below hW hB) h.hk h2.hk h.bk h2.bk)
  have HST := Lib.hid h.st
  have HST2 := Lib.hid h2.st
  obtain ⟨r1, hr1⟩ : ∃ r, r = decide (a.al = b.al) := ⟨_, rfl⟩
  obtain ⟨r2, hr2⟩ : ∃ r, r = decide (a.mr = b.mr) := ⟨_, rfl⟩
  obtain ⟨r3, hr3⟩ : ∃ r, r = decide (a.ed = b.ed) := ⟨_, rfl⟩
  rw [← hr1] at HC1
  rw [← hr2] at HC2
  rw [← hr3] at HC3
  obtain ⟨v, hv⟩ : ∃ v, v = decide (a = b) := ⟨_, rfl⟩
  have HV := Lib.hid (show v = (r1 && (decide (s = s2) && (r2 && r3))) by rw [hv, au_eq, ← hr1, ← hr2, ← hr3, HST.out, HST2.out])
  rw [← hv]
  clear h h2 hb1 hr1 hr2 hr3 hv
  cases r1
  · have hf := Lib.hid (show v = false by rw [HV.out]; rfl)
    go_enter Tryd.func30, Tryd.ntmps30
    go_wp2_with fail
    refine HC1.out.mono ?_
    rintro e w1 ⟨rfl, hbw⟩
    have hB := HB1.out.trans (hbw.mono (by simp; omega))
    go_wp2_with fail
    go_ret
    exact ⟨ret_bool hf.out.symm, hB⟩
  · by_cases hs : s = s2
    · have hd : decide (s = s2) = true := by simp [hs]
      subst hs
      cases r2
      · have hf := Lib.hid (show v = false by rw [HV.out, hd]; rfl)
        go_enter Tryd.func30, Tryd.ntmps30
        go_wp2_with fail
        refine HC1.out.mono ?_
        rintro e w1 ⟨rfl, hbw⟩
        have hB := Lib.hid (HB1.out.trans (hbw.mono (by simp; omega)))
        obtain ⟨p0, p1, p2, p3⟩ := HX.out.below hbw (by simp; omega)
        obtain ⟨q0, q1, q2, q3⟩ := HX2.out.below hbw (by simp)
        clear hbw
        go_wp2_with fail
        refine (HC2.out w1 hB.out).mono ?_
        rintro e w2 ⟨rfl, hbw⟩
        have hB2 := Lib.hid (hB.out.trans (hbw.mono hB.out.size))
        go_wp2_with fail
        go_ret
        exact ⟨ret_bool hf.out.symm, hB2.out⟩
      · have hf := Lib.hid (show v = r3 by rw [HV.out, hd]; rfl)
        go_enter Tryd.func30, Tryd.ntmps30
        go_wp2_with fail
        refine HC1.out.mono ?_
        rintro e w1 ⟨rfl, hbw⟩
        have hB := Lib.hid (HB1.out.trans (hbw.mono (by simp; omega)))
        have hX1 := Lib.hid (HX.out.below hbw (by simp; omega))
        have hX2 := Lib.hid (HX2.out.below hbw (by simp))
        have hz := hbw.size
        simp only [World.size_alloc] at hz
        obtain ⟨p0, p1, p2, p3⟩ := hX1.out
        obtain ⟨q0, q1, q2, q3⟩ := hX2.out
        clear hbw
        go_wp2_with fail
        refine (HC2.out w1 hB.out).mono ?_
        rintro e w2 ⟨rfl, hbw⟩
        have hB2 := Lib.hid (hB.out.trans (hbw.mono hB.out.size))
        clear p0 p1 p2 p3 q0 q1 q2 q3
        obtain ⟨p0, p1, p2, p3⟩ := hX1.out.below hbw (by omega)
        obtain ⟨q0, q1, q2, q3⟩ := hX2.out.below hbw (by omega)
        clear hbw
        go_wp2_with fail
        refine (HC3.out w2 hB2.out).mono ?_
        rintro e w3 ⟨rfl, hbw⟩
        have hB3 := Lib.hid (hB2.out.trans (hbw.mono hB2.out.size))
        go_wp2_with fail
        go_ret
        exact ⟨ret_bool hf.out.symm, hB3.out⟩
    · have hd : decide (s = s2) = false := by simp [hs]
      have hf := Lib.hid (show v = false by rw [HV.out, hd]; rfl)
      have hd2 : (s == s2) = false := by simp [hs]
      go_enter Tryd.func30, Tryd.ntmps30
      go_wp2_with fail
      refine HC1.out.mono ?_
      rintro e w1 ⟨rfl, hbw⟩
      have hB := Lib.hid (HB1.out.trans (hbw.mono (by simp; omega)))
      obtain ⟨p0, p1, p2, p3⟩ := HX.out.below hbw (by simp; omega)
      obtain ⟨q0, q1, q2, q3⟩ := HX2.out.below hbw (by simp)
      clear hbw
      go_wp2_with fail
      go_ret
      exact ⟨ret_bool hf.out.symm, hB.out⟩
end Go.Proofs.YtedleffmbddccaaDoor

/- Layer 3: Check of the reference. -/
namespace Go.Proofs.YtedleffmbddccaaDoor
open Go.RowKit Go.Sort

set_option maxHeartbeats 3200000 in
set_option maxRecDepth 100000 in
theorem rCheck_any (A : Option Addr) (n c : Nat) (s : Int) (M : Option Addr) (m d : Nat) (E : Option Addr) (k g : Nat) (a : Au) (B : Nat) (w : World) (h : AuR w B A n c s M m d E k g a) (hB : B ≤ w.heap.size) :
    Calls Tryd.prog 44 #[.agg #[.slice A n c, .int .i64 s, .slice M m d, .slice E k g]] w fun e w' => e = .returned (.int .i64 (chkE a)) ∧ Below w.heap.size w w' := by
  have HB1 := Lib.hid ((Below.refl w.heap.size w).alloc (Nat.le_refl _) (.cells #[.slice A n c, .int .i64 s, .slice M m d, .slice E k g] 34))
  have HR := Lib.hid h
  have HX := Lib.hid (BoxA.made w A n c s M m d E k g 34)
  have HB0 := Lib.hid hB
  have hk1 := h.bk
  have HC1 := Lib.hid (rList_any A n c B a.al 32 _ (h.al.below HB1.out hB) h.hn (by have := h.bn; omega))
  have HC2 := Lib.hid (fun W (hW : Below w.heap.size w W) => rList_any M m d B a.mr s W (h.mr.below hW hB) h.hm (by have := h.bm; omega))
  have HE := Lib.hid (fun x W (hW : Below w.heap.size w W) => rHas_any A n c B a.al x W (h.al.below hW hB) h.hn (by have := h.bn; omega))
  have HST := Lib.hid h.st
  obtain ⟨u, hu⟩ : ∃ u, u = csE 32 a.al := ⟨_, rfl⟩
  rw [← hu] at HC1
  obtain ⟨v, hv⟩ : ∃ v, v = csE s a.mr := ⟨_, rfl⟩
  rw [← hv] at HC2
  have HU := Lib.hid hu
  have HV := Lib.hid hv
  clear h hu hv hB
  by_cases h0 : u = 0
  · have hb0 : (u != 0) = false := by simp [h0]
    have h0' := Lib.hid h0
    clear h0
    by_cases h1 : s < 0
    · have hr := Lib.hid (show chkE a = 2 by rw [chkE, HST.out, ← HU.out, if_neg (by simp [h0'.out]), if_pos h1])
      rw [hr.out]
      go_enter Tryd.func44, Tryd.ntmps44
      go_wp2_with fail
      refine HC1.out.mono ?_
      rintro e w' ⟨rfl, q, rfl⟩
      obtain ⟨p0, p1, p2, p3⟩ := HX.out.drewN q
      go_wp2_with fail
      go_ret
      exact ⟨rfl, below_drewN HB1.out q⟩
    · by_cases h2 : 4096 < s
      · have hr := Lib.hid (show chkE a = 3 by rw [chkE, HST.out, ← HU.out, if_neg (by simp [h0'.out]), if_neg h1, if_pos h2])
        rw [hr.out]
        go_enter Tryd.func44, Tryd.ntmps44
        go_wp2_with fail
        refine HC1.out.mono ?_
        rintro e w' ⟨rfl, q, rfl⟩
        obtain ⟨p0, p1, p2, p3⟩ := HX.out.drewN q
        go_wp2_with fail
        go_ret
        exact ⟨rfl, below_drewN HB1.out q⟩
      · by_cases h3 : v = 0
        · obtain ⟨v2, hv2⟩ : ∃ v2, v2 = egE a := ⟨_, rfl⟩
          have hr := Lib.hid (show chkE a = v2 by rw [hv2, chkE, HST.out, ← HU.out, if_neg (by simp [h0'.out]), if_neg h1, if_neg h2, ← HV.out, if_neg (by simp [h3])])
          have HV2 := Lib.hid (show egGo a.al s (prevE a.ed 0) (a.ed.drop 0) = v2 by rw [hv2, egE, HST.out]; rfl)
          rw [hr.out]
          have hb3 : (v != 0) = false := by simp [h3]
          have hk2 := Lib.hid HR.out.hk
          clear h3 hv2
          go_enter Tryd.func44, Tryd.ntmps44
          go_wp2_with fail
          refine HC1.out.mono ?_
          rintro e w' ⟨rfl, q, rfl⟩
          have HB2 := Lib.hid (below_drewN HB1.out q)
          obtain ⟨p0, p1, p2, p3⟩ := HX.out.drewN q
          go_wp2_with fail
          refine (HC2.out _ HB2.out).mono ?_
          rintro e w' ⟨rfl, q2, rfl⟩
          have HB3 := Lib.hid (below_drewN HB2.out q2)
          have HX3 := Lib.hid ((HX.out.drewN q).drewN q2)
          clear p0 p1 p2 p3
          obtain ⟨p0, p1, p2, p3⟩ := HX3.out
          go_wp2_with fail
          go_loopw [5] (fun i wr => ∃ j : Nat, j ≤ k ∧ i = .int .i64 j ∧ Hid (egGo a.al s (prevE a.ed j) (a.ed.drop j) = v2) ∧ Hid (Below w.heap.size w wr ∧ BoxA wr w.heap.size A n c s M m d E k g ∧ w.heap.size < wr.heap.size)) (fun i _ => k - (intOf i).toNat)
          case atStart => exact ⟨0, Nat.zero_le _, rfl, HV2, below_drewN HB1.out _, HX.out.drewN _, by simp [World.drewN]⟩
          case round =>
            clear p0 p1 p2 p3
            obtain ⟨j, hj, rfl, ht, hbel⟩ := hrel
            obtain ⟨p0, p1, p2, p3⟩ := hbel.out.2.1
            have hwl := hbel.out.2.2
            have hbk := HR.out.bk
            have HXA := Lib.hid (fun (x y z : Int) => hbel.out.2.1.below ((Below.refl _ wr).alloc (Nat.le_refl _) (.cells #[.int .i64 x, .int .i64 y, .int .i64 z] 58)) hwl)
            by_cases hlt : j < k
            · obtain ⟨b1, o1, rfl, hb1, hc1⟩ := HR.out.ed (by rw [hk2.out]; omega)
              obtain ⟨x, hx⟩ := edAt (l := a.ed) (k := j) (by rw [hk2.out]; exact hlt)
              obtain ⟨x0, x1, x2⟩ : EdAt wr b1 (o1 + j * 3) x := (hc1 j x hx).keep fun o => hbel.out.1.cell (p := ⟨b1, o, none⟩) (Nat.lt_of_lt_of_le hb1 HB0.out)
              have HX := Lib.hid hx
              obtain ⟨xf, xe, xt⟩ := x
              simp only at x0 x1 x2
              have hBA := Lib.hid (show Below w.heap.size w (wr.alloc (.cells #[.int .i64 xf, .int .i64 xe, .int .i64 xt] 58)) from hbel.out.1.alloc (by omega) _)
              clear hx
              by_cases c0 : xf < 0
              · have hf := Lib.hid (show (2 : Int) = v2 from (eg_range HX.out ht.out (.inl (by simp [inSt]; omega))).symm)
                clear ht hc1
                go_wp2_with fail
                go_ret
                exact ⟨ret_int hf.out, hBA.out⟩
              by_cases c1 : s ≤ xf
              · have hf := Lib.hid (show (2 : Int) = v2 from (eg_range HX.out ht.out (.inl (by simp [inSt]; omega))).symm)
                clear ht hc1
                go_wp2_with fail
                go_ret
                exact ⟨ret_int hf.out, hBA.out⟩
              by_cases c2 : xt < 0
              · have hf := Lib.hid (show (2 : Int) = v2 from (eg_range HX.out ht.out (.inr (by simp [inSt]; omega))).symm)
                clear ht hc1
                go_wp2_with fail
                go_ret
                exact ⟨ret_int hf.out, hBA.out⟩
              by_cases c3 : s ≤ xt
              · have hf := Lib.hid (show (2 : Int) = v2 from (eg_range HX.out ht.out (.inr (by simp [inSt]; omega))).symm)
                clear ht hc1
                go_wp2_with fail
                go_ret
                exact ⟨ret_int hf.out, hBA.out⟩
              have hu0 := Lib.hid (show inSt s xf = true by simp [inSt]; omega)
              have hu1 := Lib.hid (show inSt s xt = true by simp [inSt]; omega)
              obtain ⟨r, hr0⟩ : ∃ r, decide (xe ∈ a.al) = r := ⟨_, rfl⟩
              have H2 := Lib.hid (fun W (hw : Below w.heap.size w W) => by have h := HE.out xe W hw; rw [hr0] at h; exact h)
              cases r
              · have hf := Lib.hid (show (9 : Int) = v2 from (eg_unknown HX.out ht.out hu0.out hu1.out hr0).symm)
                clear ht hc1 hr0
                go_wp2_with fail
                refine (H2.out _ hBA.out).mono ?_
                rintro e w' ⟨rfl, rfl⟩
                go_wp2_with fail
                go_ret
                exact ⟨ret_int hf.out, hBA.out⟩
              · have hR0 := Lib.hid hr0
                clear hr0
                rcases Nat.eq_zero_or_pos j with hj0 | hj0
                · have hn := Lib.hid (eg_next HX.out ht.out hu0.out hu1.out hR0.out (fun y hy => absurd hy (by omega)))
                  have hd : decide (0 < j) = false := by simp; omega
                  clear hj0 ht hc1
                  go_wp2_with fail
                  refine (H2.out _ hBA.out).mono ?_
                  rintro e w' ⟨rfl, rfl⟩
                  go_wp2_with fail
                  go_quiet (fail)
                  go_wp2_with fail
                  go_roundw
                  case rel => exact ⟨j + 1, by omega, by go_num, hn, by first | exact below_drewN hBA.out _ | exact hBA.out, by first | exact HXA.out _ _ _ | exact (HXA.out _ _ _).drewN _, by first | (simp; omega) | (simp [World.drewN]; omega)⟩
                  case measure => simp [intOf]; omega
                · obtain ⟨y, hy⟩ := edAt (l := a.ed) (k := j - 1) (by rw [hk2.out]; omega)
                  obtain ⟨y0, y1, y2⟩ : EdAt wr b1 (o1 + (j - 1) * 3) y := (hc1 (j - 1) y hy).keep fun o => hbel.out.1.cell (p := ⟨b1, o, none⟩) (Nat.lt_of_lt_of_le hb1 HB0.out)
                  have HY := Lib.hid hy
                  obtain ⟨yf, ye, yt⟩ := y
                  simp only at y0 y1 y2
                  have hd : decide (0 < j) = true := by simp; omega
                  obtain ⟨l, hl⟩ : ∃ l, j - 1 = l := ⟨_, rfl⟩
                  rw [hl] at y0 y1 y2
                  have hl1 : (j : Int) - 1 = (l : Int) := by omega
                  have hl2 : IntKind.i64.wrap (l : Int) = (l : Int) := IntWalk.i64_in _ (by omega)
                  have hlk : (l : Int) < (k : Int) := by omega
                  have hl0 : (0 : Int) ≤ (l : Int) := by omega
                  have hB1l : b1 < wr.heap.size := by have := hbel.out.1.size; have := HB0.out; omega
                  have Y0 := fun cs : Array Value => fun ty => (World.cell?_alloc_lt wr (.cells cs ty) ⟨b1, o1 + l * 3, none⟩ hB1l).trans y0
                  have Y1 := fun cs : Array Value => fun ty => (World.cell?_alloc_lt wr (.cells cs ty) ⟨b1, o1 + l * 3 + 1, none⟩ hB1l).trans y1
                  clear hy hc1 hl
                  by_cases o0 : xf < yf
                  · have hf := Lib.hid (show (5 : Int) = v2 from (eg_order HX.out ht.out hu0.out hu1.out hR0.out hj0 HY.out (by rw [cmpE_le]; unfold ltE; simp; omega)).symm)
                    clear ht hj0
                    go_wp2_with fail
                    refine (H2.out _ hBA.out).mono ?_
                    rintro e w' ⟨rfl, rfl⟩
                    go_wp2_with fail
                    go_quiet (fail)
                    go_wp2_with fail
                    go_ret
                    exact ⟨ret_int hf.out, by first | exact below_drewN hBA.out _ | exact hBA.out⟩
                  have ho0 : decide (xf < yf) = false := by simp; omega
                  by_cases o1' : xf = yf
                  · by_cases o2 : xe ≤ ye
                    · have hf := Lib.hid (show (5 : Int) = v2 from (eg_order HX.out ht.out hu0.out hu1.out hR0.out hj0 HY.out (by rw [cmpE_le]; unfold ltE; simp; omega)).symm)
                      have hq : (xf == yf) = true := by simp [o1']
                      have hle : decide (xe ≤ ye) = true := by simp; omega
                      clear ht hj0 o1'
                      go_wp2_with fail
                      refine (H2.out _ hBA.out).mono ?_
                      rintro e w' ⟨rfl, rfl⟩
                      go_wp2_with fail
                      go_quiet (fail)
                      go_wp2_with fail
                      go_ret
                      exact ⟨ret_int hf.out, by first | exact below_drewN hBA.out _ | exact hBA.out⟩
                    · have hn := Lib.hid (eg_next HX.out ht.out hu0.out hu1.out hR0.out (fun y hj hy => by rw [HY.out] at hy; injection hy with hy; subst hy; rw [cmpE_le]; unfold ltE; simp; omega))
                      have hq : (xf == yf) = true := by simp [o1']
                      have hle : decide (xe ≤ ye) = false := by simp; omega
                      clear ht hj0 o1' o2
                      go_wp2_with fail
                      refine (H2.out _ hBA.out).mono ?_
                      rintro e w' ⟨rfl, rfl⟩
                      go_wp2_with fail
                      go_quiet (fail)
                      go_wp2_with fail
                      go_roundw
                      case rel => exact ⟨j + 1, by omega, by go_num, hn, by first | exact below_drewN hBA.out _ | exact hBA.out, by first | exact HXA.out _ _ _ | exact (HXA.out _ _ _).drewN _, by first | (simp; omega) | (simp [World.drewN]; omega)⟩
                      case measure => simp [intOf]; omega
                  · have hn := Lib.hid (eg_next HX.out ht.out hu0.out hu1.out hR0.out (fun y hj hy => by rw [HY.out] at hy; injection hy with hy; subst hy; rw [cmpE_le]; unfold ltE; simp; omega))
                    have hq : (xf == yf) = false := by simp [o1']
                    clear ht hj0 o1'
                    go_wp2_with fail
                    refine (H2.out _ hBA.out).mono ?_
                    rintro e w' ⟨rfl, rfl⟩
                    go_wp2_with fail
                    go_quiet (fail)
                    go_wp2_with fail
                    go_roundw
                    case rel => exact ⟨j + 1, by omega, by go_num, hn, by first | exact below_drewN hBA.out _ | exact hBA.out, by first | exact HXA.out _ _ _ | exact (HXA.out _ _ _).drewN _, by first | (simp; omega) | (simp [World.drewN]; omega)⟩
                    case measure => simp [intOf]; omega
            · obtain rfl : j = k := by omega
              have hf := Lib.hid (show (0 : Int) = v2 from (eg_end hk2.out ht.out).symm)
              clear ht
              go_wp2_with fail
              go_ret
              exact ⟨ret_int hf.out, hbel.out.1⟩
        · have hr := Lib.hid (show chkE a = v by rw [chkE, HST.out, ← HU.out, if_neg (by simp [h0'.out]), if_neg h1, if_neg h2, ← HV.out, if_pos h3])
          rw [hr.out]
          have hb3 : (v != 0) = true := by simp [h3]
          clear h3
          go_enter Tryd.func44, Tryd.ntmps44
          go_wp2_with fail
          refine HC1.out.mono ?_
          rintro e w' ⟨rfl, q, rfl⟩
          have HB2 := Lib.hid (below_drewN HB1.out q)
          obtain ⟨p0, p1, p2, p3⟩ := HX.out.drewN q
          go_wp2_with fail
          refine (HC2.out _ HB2.out).mono ?_
          rintro e w' ⟨rfl, q2, rfl⟩
          go_wp2_with fail
          go_ret
          exact ⟨rfl, below_drewN HB1.out _⟩
  · have hb0 : (u != 0) = true := by simp [h0]
    have hr := Lib.hid (show chkE a = u by rw [chkE, ← HU.out, if_pos h0])
    rw [hr.out]
    clear h0
    go_enter Tryd.func44, Tryd.ntmps44
    go_wp2_with fail
    refine HC1.out.mono ?_
    rintro e w' ⟨rfl, q, rfl⟩
    go_wp2_with fail
    go_ret
    exact ⟨rfl, below_drewN HB1.out q⟩
end Go.Proofs.YtedleffmbddccaaDoor

/- Layer 3: Step, index, Empty of the reference. -/
namespace Go.Proofs.YtedleffmbddccaaDoor
open Go.RowKit Go.Sort

/-- The state to which an event leads; -1 if it is not possible. -/
def stepI (a : Au) (q ev : Int) : Int := (stepO a q ev).getD (-1)
theorem edge_first {l : List Ed} {k : Nat} {q ev : Int} {x : Ed} (hx : l[k]? = some x) (h : ∀ y ∈ l.take k, ¬ (y.f = q ∧ y.e = ev)) (h1 : x.f = q) (h2 : x.e = ev) : edgeO l q ev = some x := by
  unfold edgeO
  have hl := (List.getElem?_eq_some_iff.1 hx)
  obtain ⟨hk, e⟩ := hl
  have e2 : l = l.take k ++ x :: l.drop (k + 1) := by
    rw [← e, List.getElem_cons_drop, List.take_append_drop]
  conv => lhs; rw [e2]
  rw [List.find?_append, List.find?_eq_none.2 (fun y hy => by simpa using h y hy)]
  simp [h1, h2]
theorem step_first {a : Au} {k : Nat} {q ev : Int} {x : Ed} (hx : a.ed[k]? = some x) (h : ∀ y ∈ a.ed.take k, ¬ (y.f = q ∧ y.e = ev)) (h1 : x.f = q) (h2 : x.e = ev) : stepI a q ev = x.t := by
  rw [stepI, stepO, edge_first hx h h1 h2]; rfl
theorem step_never {a : Au} {q ev : Int} {n : Nat} (hn : a.ed.length = n) (h : ∀ y ∈ a.ed.take n, ¬ (y.f = q ∧ y.e = ev)) : stepI a q ev = -1 := by
  rw [List.take_of_length_le (by omega)] at h
  rw [stepI, stepO, edgeO_none.2 h]; rfl
theorem not_next {l : List Ed} {k : Nat} {q ev : Int} {x : Ed} (hx : l[k]? = some x) (h : ∀ y ∈ l.take k, ¬ (y.f = q ∧ y.e = ev)) (hn : ¬ (x.f = q ∧ x.e = ev)) : ∀ y ∈ l.take (k + 1), ¬ (y.f = q ∧ y.e = ev) := fun y hy => by
  rw [take_succ_ed hx, List.mem_append] at hy
  rcases hy with hy | hy
  · exact h y hy
  · rw [List.mem_singleton] at hy; subst hy; exact hn

set_option maxHeartbeats 1600000 in
theorem rStep_any (A : Option Addr) (n c : Nat) (s : Int) (M : Option Addr) (m d : Nat) (E : Option Addr) (k g : Nat) (a : Au) (q ev : Int) (B : Nat) (w : World) (h : AuR w B A n c s M m d E k g a) (hB : B ≤ w.heap.size) :
    Calls Tryd.prog 95 #[.agg #[.slice A n c, .int .i64 s, .slice M m d, .slice E k g], .int .i64 q, .int .i64 ev] w fun e w' => e = .returned (.int .i64 (stepI a q ev)) ∧ Below w.heap.size w w' := by
  have HB1 := Lib.hid ((Below.refl w.heap.size w).alloc (Nat.le_refl _) (.cells #[.slice A n c, .int .i64 s, .slice M m d, .slice E k g] 34))
  have HR := Lib.hid h
  have HX := Lib.hid (BoxA.made w A n c s M m d E k g 34)
  have HB0 := Lib.hid hB
  have hk1 := h.bk
  have hk2 := Lib.hid h.hk
  obtain ⟨v, hv⟩ : ∃ v, v = stepI a q ev := ⟨_, rfl⟩
  have HV := Lib.hid hv
  rw [← hv]
  clear h hB hv
  go_enter Tryd.func95, Tryd.ntmps95
  go_wp2_with fail
  go_loopw [7] (fun i wr => ∃ j : Nat, j ≤ k ∧ i = .int .i64 j ∧ Hid (∀ y ∈ a.ed.take j, ¬ (y.f = q ∧ y.e = ev)) ∧ Hid (Below w.heap.size w wr ∧ BoxA wr w.heap.size A n c s M m d E k g ∧ w.heap.size < wr.heap.size)) (fun i _ => k - (intOf i).toNat)
  case atStart => exact ⟨0, Nat.zero_le _, rfl, by simp [Hid], HB1.out, HX.out, by simp⟩
  case round =>
    obtain ⟨j, hj, rfl, ht, hbel⟩ := hrel
    obtain ⟨p0, p1, p2, p3⟩ := hbel.out.2.1
    by_cases hlt : j < k
    · obtain ⟨b1, o1, rfl, hb1, hc1⟩ := HR.out.ed (by rw [hk2.out]; omega)
      obtain ⟨x, hx⟩ := edAt (l := a.ed) (k := j) (by rw [hk2.out]; exact hlt)
      obtain ⟨x0, x1, x2⟩ : EdAt wr b1 (o1 + j * 3) x := (hc1 j x hx).keep fun o => hbel.out.1.cell (p := ⟨b1, o, none⟩) (Nat.lt_of_lt_of_le hb1 HB0.out)
      have HX := Lib.hid hx
      obtain ⟨xf, xe, xt⟩ := x
      simp only at x0 x1 x2
      clear hc1 hx
      by_cases h1 : xf = q
      · have hq : (xf == q) = true := by simp [h1]
        by_cases h2 : xe = ev
        · have hq2 : (xe == ev) = true := by simp [h2]
          have hf := Lib.hid (show xt = v by rw [HV.out, step_first HX.out ht.out h1 h2])
          clear h1 h2 ht
          go_wp2_with fail
          go_ret
          exact ⟨ret_int hf.out, by first | exact hbel.out.1 | exact below_drewN hbel.out.1 _⟩
        · have hq2 : (xe == ev) = false := by simp [h2]
          have hn := Lib.hid (not_next HX.out ht.out (fun h => h2 h.2))
          clear h1 h2 ht
          go_wp2_with fail
          go_roundw
          case rel => exact ⟨j + 1, by omega, by go_num, hn, by first | exact hbel.out | exact ⟨below_drewN hbel.out.1 _, hbel.out.2.1.drewN _, hbel.out.2.2⟩⟩
          case measure => simp [intOf]; omega
      · have hq : (xf == q) = false := by simp [h1]
        have hn := Lib.hid (not_next HX.out ht.out (fun h => h1 h.1))
        clear h1 ht
        go_wp2_with fail
        go_roundw
        case rel => exact ⟨j + 1, by omega, by go_num, hn, by first | exact hbel.out | exact ⟨below_drewN hbel.out.1 _, hbel.out.2.1.drewN _, hbel.out.2.2⟩⟩
        case measure => simp [intOf]; omega
    · obtain rfl : j = k := by omega
      have hf := Lib.hid (show (-1 : Int) = v by rw [HV.out, step_never hk2.out ht.out])
      clear ht
      go_wp2_with fail
      go_ret
      exact ⟨ret_int hf.out, hbel.out.1⟩
end Go.Proofs.YtedleffmbddccaaDoor

/- Layer 3: an automaton that is being built in a box. -/
namespace Go.Proofs.YtedleffmbddccaaDoor
open Go.RowKit Go.Sort

/-- An automaton that is being built in box bc: below block b1 all is as it was; its edges and, if mk says so, its marked states lie in rows of its own. -/
structure Bd (w1 : World) (b1 bc : Nat) (mk ke : Bool) (va : Value) (s : Int) (wr : World) (ms : List Int) (vm : Value) (es : List Ed) (ve : Value) : Prop where
  bel : Below b1 w1 wr
  cb : Row wr bc 34 [va, .int .i64 s, vm, ve]
  mo : mk = true → Own wr b1 vm ms
  eo : ke = true → OwnE wr b1 ve es
  h1 : b1 ≤ bc
section
variable {w1 wr w2 : World} {b1 bc : Nat} {mk ke : Bool} {va vm ve vm' ve' : Value} {s : Int} {ms : List Int} {es : List Ed}
theorem Bd.h2 (h : Bd w1 b1 bc mk ke va s wr ms vm es ve) : bc < wr.heap.size := h.cb.lt
theorem Bd.call (h : Bd w1 b1 bc mk ke va s wr ms vm es ve) (hb : Below wr.heap.size wr w2) : Bd w1 b1 bc mk ke va s w2 ms vm es ve :=
  ⟨h.bel.trans (hb.mono (Nat.le_of_lt (Nat.lt_of_le_of_lt h.h1 h.h2))), h.cb.below hb h.h2, fun e => own_below (h.mo e) hb, fun e => own_below (h.eo e) hb, h.h1⟩
theorem Bd.alloc (h : Bd w1 b1 bc mk ke va s wr ms vm es ve) (o : Obj) : Bd w1 b1 bc mk ke va s (wr.alloc o) ms vm es ve := h.call ((Below.refl _ wr).alloc (Nat.le_refl _) o)
theorem Bd.drewN (h : Bd w1 b1 bc mk ke va s wr ms vm es ve) (q : Nat) : Bd w1 b1 bc mk ke va s (wr.drewN q) ms vm es ve := ⟨below_drewN h.bel q, h.cb, h.mo, h.eo, h.h1⟩
theorem Bd.drew (h : Bd w1 b1 bc mk ke va s wr ms vm es ve) : Bd w1 b1 bc mk ke va s wr.drew ms vm es ve := ⟨h.bel.drew, h.cb, h.mo, h.eo, h.h1⟩
theorem Bd.neM (h : Bd w1 b1 bc true ke va s wr ms vm es ve) : some bc ≠ vm.ownBlock := fun e => row_ne_own h.cb (h.mo rfl) (by decide) e.symm
theorem Bd.neE (h : Bd w1 b1 bc mk true va s wr ms vm es ve) : some bc ≠ ve.ownBlock := fun e => row_ne_own h.cb (h.eo rfl) (by decide) e.symm
/-- An edge is appended. -/
theorem Bd.edge {x : Ed} (h : Bd w1 b1 bc mk true va s wr ms vm es ve) (hg : wr.grownBy w2 ve.ownBlock) (ho : OwnE w2 b1 ve' (es ++ [x])) :
    Bd w1 b1 bc mk true va s (w2.setCell ⟨bc, 3, none⟩ ve') ms vm (es ++ [x]) ve' := by
  have g2 := h.h2
  have g1 := h.h1
  have hne := h.neE
  have he := h.eo rfl
  refine ⟨h.bel.trans (((Below.refl b1 wr).grown hg (by omega) (fun k hk => (he.lt k hk).1)).setCell (p := ⟨bc, 3, none⟩) h.h1 _), ?_, fun e => ?_, fun _ => ?_, h.h1⟩
  · exact (h.cb.grown hg (fun e => hne e.symm)).set 3 ve'
  · have h3 := own_row (h.mo e) hg (owns_ne (h.mo e) he (by decide))
    exact ownsRow_setCell_other h3 (a := ⟨bc, 3, none⟩) (row_ne_own (h.cb.grown hg (fun e => hne e.symm)) h3 (by decide)) ve'
  · exact ownsRow_setCell_other ho (a := ⟨bc, 3, none⟩) (row_ne_own (h.cb.grown hg (fun e => hne e.symm)) ho (by decide)) ve'
/-- A number is appended to the marked states. -/
theorem Bd.mark {x : Int} (h : Bd w1 b1 bc true ke va s wr ms vm es ve) (hg : wr.grownBy w2 vm.ownBlock) (ho : Own w2 b1 vm' (ms ++ [x])) :
    Bd w1 b1 bc true ke va s (w2.setCell ⟨bc, 2, none⟩ vm') (ms ++ [x]) vm' es ve := by
  have g2 := h.h2
  have g1 := h.h1
  have hne := h.neM
  have hm := h.mo rfl
  refine ⟨h.bel.trans (((Below.refl b1 wr).grown hg (by omega) (fun k hk => (hm.lt k hk).1)).setCell (p := ⟨bc, 2, none⟩) h.h1 _), ?_, fun e => ?_, fun e => ?_, h.h1⟩
  · exact (h.cb.grown hg (fun e => hne e.symm)).set 2 vm'
  · exact ownsRow_setCell_other ho (a := ⟨bc, 2, none⟩) (row_ne_own (h.cb.grown hg (fun e => hne e.symm)) ho (by decide)) vm'
  · have h3 := own_row (h.eo e) hg (owns_ne (h.eo e) hm (by decide))
    exact ownsRow_setCell_other h3 (a := ⟨bc, 2, none⟩) (row_ne_own (h.cb.grown hg (fun e => hne e.symm)) h3 (by decide)) vm'
/-- The number of the states is stored. -/
theorem Bd.state (h : Bd w1 b1 bc mk ke va s wr ms vm es ve) (s' : Int) : Bd w1 b1 bc mk ke va s' (wr.setCell ⟨bc, 1, none⟩ (.int .i64 s')) ms vm es ve := by
  refine ⟨h.bel.setCell (p := ⟨bc, 1, none⟩) h.h1 _, h.cb.set 1 _, fun e => ownsRow_setCell_other (h.mo e) (a := ⟨bc, 1, none⟩) (row_ne_own h.cb (h.mo e) (by decide)) _, fun e => ownsRow_setCell_other (h.eo e) (a := ⟨bc, 1, none⟩) (row_ne_own h.cb (h.eo e) (by decide)) _, h.h1⟩
end
end Go.Proofs.YtedleffmbddccaaDoor

/- Layer 3: Found and index of the reference. -/
namespace Go.Proofs.YtedleffmbddccaaDoor
open Go.RowKit Go.Sort

/-- Where a number is in a list; -1 if it isn't. -/
def idxI (l : List Int) (x : Int) : Int := if x ∈ l then (l.idxOf x : Int) else -1
theorem idx_yes {zs : List Int} {k : Nat} {x : Int} (h : k < zs.length) (ht : x ∉ zs.take k) (he : zs.getD k 0 = x) : idxI zs x = (k : Int) := by
  have hm : x ∈ zs := by rw [← he]; exact getD_mem h
  rw [idxI, if_pos hm]
  have e : zs = zs.take k ++ zs.drop k := (List.take_append_drop k zs).symm
  rw [e, List.idxOf_append, if_neg ht, drop_step zs k h, he]
  simp; omega
theorem idx_no {zs : List Int} {n : Nat} {x : Int} (hn : zs.length = n) (h : x ∉ zs.take n) : idxI zs x = -1 := by
  rw [List.take_of_length_le (by omega)] at h; rw [idxI, if_neg h]

set_option maxHeartbeats 800000 in
theorem rIndex_any (A : Option Addr) (n c Bx : Nat) (zs : List Int) (x : Int) (w : World) (hx : RdI w Bx A zs) (hn : zs.length = n) (hb : n ≤ 140737488355328) :
    Calls Tryd.prog 96 #[.slice A n c, .int .i64 x] w fun e w' => e = .returned (.int .i64 (idxI zs x)) ∧ w = w' := by
  have HN := Lib.hid hn
  clear hn
  obtain ⟨v, hv⟩ : ∃ v, v = idxI zs x := ⟨_, rfl⟩
  have HV := Lib.hid hv
  rw [← hv]
  clear hv
  go_enter Tryd.func96, Tryd.ntmps96
  go_wp2
  go_loop [5] (fun i => ∃ k : Nat, k ≤ n ∧ i = .int .i64 k ∧ Hid (x ∉ zs.take k)) (fun i => n - (intOf i).toNat)
  case atStart => exact ⟨0, Nat.zero_le _, rfl, by simp [Hid]⟩
  case round =>
    obtain ⟨k, hk, rfl, ht⟩ := hrel
    by_cases hlt : k < n
    · obtain ⟨b1, o1, rfl, _, hc1⟩ := hx (by rw [HN.out]; omega)
      have hz : k < zs.length := by rw [HN.out]; exact hlt
      have h1 := hc1 k hz
      obtain ⟨y, hye⟩ : ∃ y, y = zs.getD k 0 := ⟨_, rfl⟩
      rw [← hye] at h1
      clear hc1 hx
      by_cases hyx : y = x
      · have hr := Lib.hid (show (k : Int) = v by rw [HV.out, idx_yes hz ht.out (by rw [← hye]; exact hyx)])
        have hb1 : (y == x) = true := by simpa using hyx
        clear hyx hye ht hz
        go_wp2
        go_ret
        exact ⟨ret_int hr.out, rfl⟩
      · have hr := Lib.hid (show x ∉ zs.take (k + 1) by rw [mem_snoc_take hz, not_or]; exact ⟨ht.out, by rw [← hye]; exact hyx⟩)
        have hb1 : (y == x) = false := by simpa using hyx
        clear hyx hye ht hz
        go_wp2
        go_round
        case rel => exact ⟨k + 1, by omega, by go_num, hr⟩
        case measure => simp [intOf]; omega
    · have hkn : k = n := by omega
      rw [hkn] at ht
      have hr := Lib.hid (show (-1 : Int) = v by rw [HV.out, idx_no HN.out ht.out])
      clear hkn ht
      go_wp2
      go_ret
      exact ⟨ret_int hr.out, rfl⟩

/-- The edges of a state by the first events. -/
def succK (a : Au) (q : Int) (k : Nat) : List Ed := (a.al.take k).filterMap (edgeO a.ed q)
theorem succK_zero (a : Au) (q : Int) : succK a q 0 = [] := by simp [succK]
theorem take_getD {zs : List Int} {k : Nat} (h : k < zs.length) : zs.take (k + 1) = zs.take k ++ [zs.getD k 0] := by
  rw [List.take_add_one]; simp [List.getD, List.getElem?_eq_getElem h]
theorem succK_some {a : Au} {q : Int} {k : Nat} {x : Ed} (hk : k < a.al.length) (h : edgeO a.ed q (a.al.getD k 0) = some x) : succK a q (k + 1) = succK a q k ++ [x] := by
  unfold succK; rw [take_getD hk, List.filterMap_append]; simp only [List.filterMap_cons, h, List.filterMap_nil, List.append_nil]
theorem succK_none {a : Au} {q : Int} {k : Nat} (hk : k < a.al.length) (h : edgeO a.ed q (a.al.getD k 0) = none) : succK a q (k + 1) = succK a q k := by
  unfold succK; rw [take_getD hk, List.filterMap_append]; simp only [List.filterMap_cons, h, List.filterMap_nil, List.append_nil]
theorem succK_all {a : Au} (h : RightW a) {q : Int} {n : Nat} (hn : a.al.length = n) : succK a q n = succ a.ed q := by
  unfold succK; rw [List.take_of_length_le (by omega), succ_eq h]
theorem succK_pre {a : Au} (h : RightW a) (q : Int) (k : Nat) : succK a q k <+: succ a.ed q := by
  rw [succ_eq h, succK]
  conv => rhs; rw [← List.take_append_drop k a.al, List.filterMap_append]
  exact List.prefix_append _ _
theorem stepI_of {a : Au} {q ev : Int} {x : Ed} (h : edgeO a.ed q ev = some x) : stepI a q ev = x.t := by rw [stepI, stepO, h]; rfl
theorem stepI_no {a : Au} {q ev : Int} (h : edgeO a.ed q ev = none) : stepI a q ev = -1 := by rw [stepI, stepO, h]; rfl

/-- What Found keeps: the call's memory, its list. -/
structure FP (W1 : World) (v : Value) (fl : List Int) (wr : World) : Prop where
  bel : Below W1.heap.size W1 wr
  ow : Own wr W1.heap.size v fl
theorem FP.call {W1 wr w2 : World} {v : Value} {fl : List Int} (h : FP W1 v fl wr) (hb : Below wr.heap.size wr w2) : FP W1 v fl w2 := ⟨h.bel.trans (hb.mono h.bel.size), own_kept h.ow hb⟩
theorem FP.drew {W1 wr : World} {v : Value} {fl : List Int} (h : FP W1 v fl wr) : FP W1 v fl wr.drew := ⟨h.bel.drew, h.ow⟩
/-- The cells that a step's arguments are loaded from. -/
structure StC (H : Nat) (A : Option Addr) (n c : Nat) (s : Int) (M : Option Addr) (m d : Nat) (E : Option Addr) (k g : Nat) (gF j : Nat) (q : Int) (bA iA : Nat) (ev : Int) (wr : World) : Prop where
  bx : BoxA wr H A n c s M m d E k g
  cf : wr.cell? ⟨gF, j, none⟩ = some (.int .i64 q)
  ca : wr.cell? ⟨bA, iA, none⟩ = some (.int .i64 ev)
  l1 : H < wr.heap.size
  l2 : gF < wr.heap.size
  l3 : bA < wr.heap.size
section
variable {H : Nat} {A : Option Addr} {n c : Nat} {s : Int} {M : Option Addr} {m d : Nat} {E : Option Addr} {k g : Nat} {gF j : Nat} {q : Int} {bA iA : Nat} {ev : Int} {wr w2 : World}
theorem StC.call (h : StC H A n c s M m d E k g gF j q bA iA ev wr) (hb : Below wr.heap.size wr w2) : StC H A n c s M m d E k g gF j q bA iA ev w2 :=
  ⟨h.bx.below hb h.l1, (hb.cell (p := ⟨gF, j, none⟩) h.l2).trans h.cf, (hb.cell (p := ⟨bA, iA, none⟩) h.l3).trans h.ca, Nat.lt_of_lt_of_le h.l1 hb.size, Nat.lt_of_lt_of_le h.l2 hb.size, Nat.lt_of_lt_of_le h.l3 hb.size⟩
theorem StC.drew (h : StC H A n c s M m d E k g gF j q bA iA ev wr) : StC H A n c s M m d E k g gF j q bA iA ev wr.drew := ⟨⟨h.bx.c0, h.bx.c1, h.bx.c2, h.bx.c3⟩, h.cf, h.ca, h.l1, h.l2, h.l3⟩
end

set_option maxHeartbeats 4000000 in
set_option maxRecDepth 100000 in
theorem rFound_any (A : Option Addr) (n c : Nat) (s : Int) (M : Option Addr) (m d : Nat) (E : Option Addr) (k g : Nat) (a : Au) (B : Nat) (w : World) (h : AuR w B A n c s M m d E k g a) (hB : B ≤ w.heap.size) (hr : RightW a) (hS : s ≤ 5000) :
    Calls Tryd.prog 94 #[.agg #[.slice A n c, .int .i64 s, .slice M m d, .slice E k g]] w fun e w' => GivesC w (fnd a) e w' := by
  have HB1 := Lib.hid ((Below.refl w.heap.size w).alloc (Nat.le_refl _) (.cells #[.slice A n c, .int .i64 s, .slice M m d, .slice E k g] 34))
  have HBX := Lib.hid (BoxA.made w A n c s M m d E k g 34)
  have HST := Lib.hid h.st
  have HR := Lib.hid h
  have HRI := Lib.hid hr
  have HBw := Lib.hid hB
  have hs0 := hr.st0
  rw [h.st] at hs0
  obtain ⟨i0, hi, hz0, hz1, hz2⟩ := info_parts info_int
  obtain ⟨W1, hW1⟩ : ∃ W1, W1 = w.alloc (.cells #[.slice A n c, .int .i64 s, .slice M m d, .slice E k g] 34) := ⟨_, rfl⟩
  have hsz1 : W1.heap.size = w.heap.size + 1 := by rw [hW1]; simp
  have HB1l := HB1
  have HBXl := HBX
  rw [← hW1] at HB1 HBX
  have HW1 := Lib.hid hW1
  have HSZ := Lib.hid hsz1
  have HBT := Lib.hid (fun W (hW : Below W1.heap.size W1 W) => HB1.out.trans (hW.mono (by omega)))
  clear h hr hsz1 hW1 hB
  by_cases h0 : s = 0
  · subst h0
    have hf := Lib.hid (show fnd a = [] from fnd_zero HST.out)
    rw [hf.out]
    obtain ⟨p0, p1, p2, p3⟩ := HBXl.out
    go_enter Tryd.func94, Tryd.ntmps94
    go_wp2_with fail
    go_loop [3, 4] (fun v i => v = .slice none 0 0 ∧ i = .int .i64 0) (fun _ i => 0)
    case atStart => exact ⟨rfl, rfl⟩
    case round =>
      obtain ⟨rfl, rfl⟩ := hrel
      go_wp2_with fail
      go_ret
      exact ⟨none, 0, rfl, RdI.nil _ _ _, HB1l.out, Nat.le_refl _, by omega⟩
  · have hs1 : 0 < s := by omega
    obtain ⟨S, rfl⟩ : ∃ S : Nat, s = (S : Int) := ⟨s.toNat, by omega⟩
    have hst1 := Lib.hid (show 0 < a.st by rw [HST.out]; exact hs1)
    obtain ⟨p0, p1, p2, p3⟩ := HBXl.out
    go_enter Tryd.func94, Tryd.ntmps94
    go_wp2_with (at_builtin; refine wpList_append_own _ rfl _ _ 27 rfl (w.heap.size + 1) 3 i0 (.int .i64 0) 1 8 Tryd.underlying27 hi hz0 hz1 hz2 rfl (by decide) _ _ _ rfl (World.ownsRow_nil _ _ _ _) ⟨w.heap.size + 1, 0, none⟩ 1 1 [.int .i64 0] rfl rfl ?c1 ?c2 ?c3 ?c4 ?c5 ?_)
    case c1 => exact news_one (by simp)
    case c2 => intro u hu; simp at hu; subst hu; rfl
    case c3 => unfold maxLen; omega
    case c4 => omega
    case c5 => simp
    intro v1 w1 hown1 hgrow1 _
    rw [← HW1.out] at hgrow1
    rw [← HSZ.out] at hown1
    have hO1 := own_app (K := []) (K' := [0]) rfl (Below.refl W1.heap.size W1) (World.ownsRow_nil _ _ _ _) hown1 hgrow1 (Nat.le_refl _)
    have hF1 := Lib.hid (show FP W1 v1 (Fd a 0) w1 from ⟨hO1.2, hO1.1⟩)
    clear hown1 hgrow1 hO1 p0 p1 p2 p3
    go_wp2_with fail
    go_loopw [3, 4] (fun v i wr => ∃ j : Nat, i = .int .i64 j ∧ j ≤ S ∧ Hid (j ≤ (Fd a j).length) ∧ Hid (FP W1 v (Fd a j) wr)) (fun _ i _ => S - (intOf i).toNat)
    case atStart => exact ⟨0, rfl, Nat.zero_le _, Nat.zero_le _, hF1⟩
    case round =>
      clear hF1
      obtain ⟨j, rfl, hjS, hjl, hfp⟩ := hrel
      have hlenS := Fd_len HRI.out hst1.out j
      rw [HST.out, Int.toNat_natCast] at hlenS
      have HPR := Lib.hid (Fd_fnd HRI.out hst1.out j)
      obtain ⟨L, hL⟩ : ∃ L, L = (Fd a j).length := ⟨_, rfl⟩
      have HL := Lib.hid hL
      have hL1 : 1 ≤ L := by have := (Fd_mono a 0 j).length_le; rw [Nat.zero_add, ← hL] at this; simpa [Fd] using this
      rw [← hL] at hlenS
      by_cases hlt : j < L
      · obtain ⟨gF, cF, rfl, hgF, hcF, hcap, hcap2⟩ := own_shape hfp.out.ow hL hL1
        obtain ⟨q, hq⟩ : ∃ q, q = (Fd a j).getD j 0 := ⟨_, rfl⟩
        have HQ := Lib.hid hq
        have HFP := Lib.hid hfp.out
        clear hcF hL hq hfp
        go_wp2_with fail
        go_loopw [3, 5] (fun v i wx => ∃ t : Nat, i = .int .i64 t ∧ t ≤ n ∧ Hid (FP W1 v (visitL (Fd a j) (succK a q t)) wx)) (fun _ i _ => n - (intOf i).toNat)
        case atStart => exact ⟨0, rfl, Nat.zero_le _, by rw [succK_zero, visitL_nil]; exact HFP⟩
        case round =>
          clear hgF hcap hcap2
          obtain ⟨t, rfl, htn, hfp⟩ := hrel
          obtain ⟨p0, p1, p2, p3⟩ := HBX.out.below hfp.out.bel (by have := HSZ.out; omega)
          have hWz := hfp.out.bel.size
          have hSZ := HSZ.out
          by_cases htl : t < n
          · obtain ⟨bA, oA, rfl, hbA, hcA⟩ := HR.out.al (by rw [HR.out.hn]; omega)
            have hz : t < a.al.length := by rw [HR.out.hn]; exact htl
            have ca := hcA t hz
            obtain ⟨ev, hev⟩ : ∃ ev, ev = a.al.getD t 0 := ⟨_, rfl⟩
            rw [← hev] at ca
            have ca' : wr.cell? ⟨bA, oA + t, none⟩ = some (.int .i64 ev) := ((HBT.out wr hfp.out.bel).cell (p := ⟨bA, oA + t, none⟩) (Nat.lt_of_lt_of_le hbA HBw.out)).trans ca
            obtain ⟨fl, hfl⟩ : ∃ fl, fl = visitL (Fd a j) (succK a q t) := ⟨_, rfl⟩
            have hfpre : Fd a j <+: fl := by rw [hfl]; exact visitL_pre _ _
            obtain ⟨L2, hL2⟩ : ∃ L2, L2 = fl.length := ⟨_, rfl⟩
            have HL2 := Lib.hid hL2
            have hLL : L ≤ L2 := by have := hfpre.length_le; rw [← HL.out, ← hL2] at this; exact this
            rw [← hfl] at hfp
            have hflS : L2 ≤ S := by
              have hpre2 : visitL (Fd a j) (succK a q t) <+: fnd a := by
                obtain ⟨r, hr⟩ := succK_pre HRI.out q t
                have h1 : visitL (Fd a j) (succK a q t) <+: visitL (Fd a j) (succ a.ed q) := by
                  rw [← hr, visitL_app]; exact visitL_pre _ _
                rw [HQ.out, ← Fd_go (by rw [← HL.out]; exact hlt), ← HQ.out] at h1
                exact h1.trans (Fd_fnd HRI.out hst1.out (j + 1))
              have h2 := hpre2.length_le
              have h3 := fnd_len HRI.out
              rw [← hfl, ← hL2] at h2
              rw [HST.out, Int.toNat_natCast] at h3
              omega
            obtain ⟨gF2, cF2, rfl, hgF2, hcF2, hcap3, hcap4⟩ := own_shape hfp.out.ow hL2 (by omega)
            have cf : wr.cell? ⟨gF2, j, none⟩ = some (.int .i64 q) := by
              have h1 := hcF2 j (by omega)
              have h2 := getD_pre hfpre (i := j) (by rw [← HL.out]; exact hlt)
              rw [h2, ← HQ.out] at h1
              exact h1
            have z1 : (j : Int) < (L2 : Int) := by omega
            have z2 : (t : Int) < (n : Int) := by omega
            have z3 : (0 : Int) ≤ (j : Int) := by omega
            have z4 : (0 : Int) ≤ (t : Int) := by omega
            have hbn := HR.out.bn
            have HST4 := Lib.hid (show StC w.heap.size (some ⟨bA, oA, none⟩) n c (S : Int) M m d E k g gF2 j q bA (oA + t) ev wr from ⟨⟨p0, p1, p2, p3⟩, cf, ca', by omega, hgF2, by have := HBw.out; omega⟩)
            have HST4d := Lib.hid HST4.out.drew
            have hfpd := Lib.hid hfp.out.drew
            obtain ⟨tt, hto⟩ : ∃ tt, tt = stepI a q ev := ⟨_, rfl⟩
            have HTO := Lib.hid hto
            have HS := Lib.hid (fun W (hF : FP W1 (.slice (some ⟨gF2, 0, none⟩) L2 cF2) fl W) (hC : StC w.heap.size (some ⟨bA, oA, none⟩) n c (S : Int) M m d E k g gF2 j q bA (oA + t) ev W) => (rStep_any (some ⟨bA, oA, none⟩) n c (S : Int) M m d E k g a q ev B W (HR.out.below (HBT.out W hF.bel) HBw.out) (Nat.le_trans HBw.out (HBT.out W hF.bel).size)).mono (R' := fun e w'' => e = .returned (.int .i64 tt) ∧ FP W1 (.slice (some ⟨gF2, 0, none⟩) L2 cF2) fl w'' ∧ StC w.heap.size (some ⟨bA, oA, none⟩) n c (S : Int) M m d E k g gF2 j q bA (oA + t) ev w'') fun e w'' hh => ⟨by rw [hh.1, hto], hF.call hh.2, hC.call hh.2⟩)
            have HEV := Lib.hid hev
            have HFL := Lib.hid hfl
            clear hto hcF2 hcA ca hev hfl hL2
            go_wp2_with fail
            go_region_held3 (fun w' => w'.cell? ⟨w.heap.size, 0, none⟩ = some (.slice (some ⟨bA, oA, none⟩) n c) ∧ w'.cell? ⟨w.heap.size, 1, none⟩ = some (.int .i64 (S : Int)) ∧ w'.cell? ⟨w.heap.size, 2, none⟩ = some (.slice M m d) ∧ w'.cell? ⟨w.heap.size, 3, none⟩ = some (.slice E k g) ∧ w'.cell? ⟨gF2, j, none⟩ = some (.int .i64 q) ∧ w'.cell? ⟨bA, oA + t, none⟩ = some (.int .i64 ev)) (first | with_reducible exact ⟨p0, p1, p2, p3, cf, ca'⟩ | go_keep)
              (first
              | (go_simp; go_at_call 95; (first | with_reducible refine (HS.out _ hfp.out HST4.out).mono ?_ | with_reducible refine (HS.out _ hfpd.out HST4d.out).mono ?_); rintro e w4 ⟨rfl, hF4, hC4⟩
                 have HF4 := Lib.hid hF4
                 have HC4 := Lib.hid hC4
                 obtain ⟨⟨p0, p1, p2, p3⟩, cf, ca', _, _, _⟩ := hC4
                 clear hF4))
            all_goals
              cases he : edgeO a.ed q ev with
              | none =>
                have hto := stepI_no he
                rw [← HTO.out] at hto
                subst hto
                have hnx := Lib.hid (show visitL (Fd a j) (succK a q (t + 1)) = fl by rw [succK_none hz (by rw [← HEV.out]; exact he), HFL.out])
                clear he
                go_wp2_with fail
                go_roundw
                case rel => exact ⟨t + 1, by go_num, by omega, by rw [hnx.out]; first | exact HF4 | exact Lib.hid HF4.out.drew⟩
                case measure => simp [intOf]; omega
              | some x =>
                have hto := stepI_of he
                rw [← HTO.out] at hto
                have hxr := (HRI.out.edr x ((edgeO_some HRI.out.edo).1 he).1).2.1
                rw [← hto] at hxr
                have hnx := Lib.hid (show visitL (Fd a j) (succK a q (t + 1)) = visit fl tt by rw [succK_some hz (by rw [← HEV.out]; exact he), visitL_snoc, ← HFL.out, hto])
                have hto0 : 0 ≤ tt := hxr.1
                obtain ⟨A', c', e', hrd, _, _⟩ := own_rdc HF4.out.ow
                rw [← HL2.out] at e'
                injection e' with e1 e2 e3
                subst e1; subst e3
                have HRD := Lib.hid hrd
                clear he hxr hto hrd
                obtain ⟨r, hr⟩ : ∃ r, r = decide (tt ∈ fl) := ⟨_, rfl⟩
                have HH := Lib.hid (fun W (hW : RdI W W.heap.size (some ⟨gF2, 0, none⟩) fl) => by
                  have := rHas_any (some ⟨gF2, 0, none⟩) L2 cF2 W.heap.size fl tt W hW HL2.out.symm (by omega)
                  rw [← hr] at this; exact this)
                have HRr := Lib.hid hr
                clear hr
                have HRDd := Lib.hid (HRD.out.dr 1)
                cases r
                · have hni := Lib.hid (show tt ∉ fl by have := HRr.out; simpa using this.symm)
                  go_wp2_with fail
                  refine (HH.out _ (by first | exact HRD.out | exact HRDd.out)).mono ?_
                  rintro e w5 ⟨rfl, rfl⟩
                  have HO4 := Lib.hid (show w4.ownsRow W1.heap.size 3 1 (.slice (some ⟨gF2, 0, none⟩) L2 cF2) L2 (fl.map (Value.int .i64)) by have := HF4.out.ow; unfold Own at this; rwa [← HL2.out] at this)
                  have hb4 := HF4.out.bel.size
                  go_wp2_with (at_builtin; refine wpList_append_own _ rfl _ _ 27 rfl W1.heap.size 3 i0 (.int .i64 0) 1 8 Tryd.underlying27 hi hz0 hz1 hz2 rfl (by decide) _ _ _ rfl (HO4.out.alloc _) ⟨w4.heap.size, 0, none⟩ 1 1 [.int .i64 tt] rfl rfl ?c1 ?c2 ?c3 ?c4 ?c5 ?_)
                  case c1 => exact own_one
                  case c2 => intro u hu; simp at hu; subst hu; rfl
                  case c3 => unfold maxLen; omega
                  case c4 => omega
                  case c5 => simp; omega
                  intro v5 w5 hown5 hgrow5 _
                  rw [HL2.out, ← HSZ.out] at hown5
                  have hO5 := own_app (K' := fl ++ [tt]) rfl HF4.out.bel HF4.out.ow hown5 hgrow5 (Nat.le_refl _)
                  have hF6 := Lib.hid (show FP W1 v5 (fl ++ [tt]) w5 from ⟨hO5.2, hO5.1⟩)
                  clear hown5 hgrow5 hO5
                  go_wp2_with fail
                  go_roundw
                  case rel => exact ⟨t + 1, by go_num, by omega, by rw [hnx.out, visit_new hni.out]; exact hF6⟩
                  case measure => simp [intOf]; omega
                · have hin := Lib.hid (show tt ∈ fl by have := HRr.out; simpa using this.symm)
                  go_wp2_with fail
                  refine (HH.out _ (by first | exact HRD.out | exact HRDd.out)).mono ?_
                  rintro e w5 ⟨rfl, rfl⟩
                  go_wp2_with fail
                  go_roundw
                  case rel => exact ⟨t + 1, by go_num, by omega, by rw [hnx.out, visit_in hin.out]; first | exact HF4 | exact Lib.hid HF4.out.drew⟩
                  case measure => simp [intOf]; omega
          · obtain rfl : t = n := by omega
            have hFs : visitL (Fd a j) (succK a q t) = Fd a (j + 1) := by
              rw [succK_all HRI.out HR.out.hn, Fd_go (by rw [← HL.out]; exact hlt), HQ.out]
            rw [hFs] at hfp
            have hln := Lib.hid (show j + 1 ≤ (Fd a (j + 1)).length by have := (Fd_pre a j).length_le; rw [← HL.out] at this; omega)
            clear hFs
            go_wp2_with fail
            go_roundw
            case rel => exact ⟨j + 1, by go_num, by omega, hln, hfp⟩
            case measure => simp [intOf]; omega
      · obtain rfl : j = L := by have := hjl.out; rw [← HL.out] at this; omega
        have hfn : fnd a = Fd a j := fnd_at HRI.out hst1.out (by rw [← HL.out]; exact Nat.le_refl _) (by rw [HST.out]; simp; omega)
        rw [← hfn] at hfp HL
        obtain ⟨A', c', rfl, hrd, hc1, hc2⟩ := own_rdc hfp.out.ow
        have HF := Lib.hid hfp.out
        have HRD := Lib.hid hrd
        rw [← HL.out] at HF hc1
        clear hfp hrd hfn hL
        have HL9 := Lib.hid HL.out.symm
        rw [HL9.out]
        go_wp2_with fail
        go_ret
        exact ⟨A', c', by rw [HL9.out]; rfl, HRD.out, HBT.out _ HF.out.bel, by rw [HL9.out]; exact hc1, hc2⟩
end Go.Proofs.YtedleffmbddccaaDoor
