/- Texts merged: what follows were texts of their own. -/
import Derived.Test.YtceldgcmjmfjfaaZa7
import Derived.Test.YtceldgcmjmfjfaaZa4
set_option linter.unusedVariables false
set_option linter.unusedSimpArgs false
set_option linter.unusedSectionVars false
/- Layer 4: has and add of the reference. -/
namespace Go.Proofs.Ytceldgcmjmfjfaa
open Go.RowKit Go.Sort

set_option maxHeartbeats 800000 in
theorem r4has_any (A : Option Addr) (n c Bx : Nat) (zs : List Int) (x : Int) (w : World) (hx : RdI w Bx A zs) (hn : zs.length = n) (hb : n ≤ 140737488355328) :
    Calls Try.prog 53 #[.slice A n c, .int .i64 x] w fun e w' => e = .returned (.bool (decide (x ∈ zs))) ∧ w = w' := by
  have HN := Lib.hid hn
  clear hn
  go_enter Try.func53, Try.ntmps53
  go_wp2
  go_loop [5] (fun i => ∃ k : Nat, k ≤ n ∧ i = .int .i64 k ∧ Hid (x ∉ zs.take k)) (fun i => n - (intOf i).toNat)
  case atStart => exact ⟨0, Nat.zero_le _, rfl, by simp [Hid]⟩
  case round =>
    obtain ⟨k, hk, rfl, ht⟩ := hrel
    by_cases hlt : k < n
    · obtain ⟨b1, o1, rfl, _, hc1⟩ := hx (by rw [HN.out]; omega)
      have hz : k < zs.length := by rw [HN.out]; exact hlt
      have h1 := hc1 k hz
      obtain ⟨y, hye⟩ : ∃ y, y = zs.getD k 0 := ⟨_, rfl⟩
      rw [← hye] at h1
      clear hc1 hx
      by_cases hyx : y = x
      · have hr := Lib.hid (con_yes (x := x) hz (by rw [← hye]; exact hyx))
        have hb1 : (y == x) = true := by simpa using hyx
        clear hyx hye ht hz
        go_wp2
        go_ret
        exact ⟨ret_bool hr.out.symm, rfl⟩
      · have hr := Lib.hid (show x ∉ zs.take (k + 1) by rw [mem_snoc_take hz, not_or]; exact ⟨ht.out, by rw [← hye]; exact hyx⟩)
        have hb1 : (y == x) = false := by simpa using hyx
        clear hyx hye ht hz
        go_wp2
        go_round
        case rel => exact ⟨k + 1, by omega, by go_num, hr⟩
        case measure => simp [intOf]; omega
    · have hkn : k = n := by omega
      rw [hkn] at ht
      have hr := Lib.hid (con_no HN.out ht.out)
      clear hkn ht
      go_wp2
      go_ret
      exact ⟨ret_bool hr.out.symm, rfl⟩

/-- A list that can be read. -/
def LsI (w : World) (v : Value) (zs : List Int) : Prop := ∃ A c, v = .slice A zs.length c ∧ RdI w w.heap.size A zs ∧ (zs.length ≤ c ∧ c ≤ 9223372036854775807) ∧ (A = none → c = 0)
theorem LsI.nil (w : World) : LsI w (.slice none 0 0) [] := ⟨none, 0, rfl, fun h => by simp at h, ⟨Nat.le_refl _, by omega⟩, fun _ => rfl⟩
theorem LsI.below {w w' : World} {v : Value} {zs : List Int} (h : LsI w v zs) (hb : Below w.heap.size w w') : LsI w' v zs := by
  obtain ⟨A, c, e, hr, hc, hn⟩ := h
  exact ⟨A, c, e, (hr.below hb (Nat.le_refl _)).more hb.size, hc, hn⟩
theorem LsI.own {w : World} {B : Nat} {v : Value} {zs : List Int} (h : Own w B v zs) : LsI w v zs := by
  obtain ⟨A, c, rfl, hr, hc⟩ := own_rdc h
  refine ⟨A, c, rfl, hr, hc, ?_⟩
  rintro rfl
  rcases h.2 with ⟨e, h0⟩ | ⟨g, cap, cur, e, _⟩
  · injection e
  · injection e with e1; cases e1
/-- A number put into an increasing list, if it is new. -/
def insI (x : Int) : List Int → List Int
  | [] => [x]
  | y :: l => if y < x then y :: insI x l else if y = x then y :: l else x :: y :: l
theorem insI_at (x : Int) : ∀ (zs : List Int) (k : Nat), k ≤ zs.length → (∀ y ∈ zs.take k, y < x) → (k < zs.length → ¬ zs.getD k 0 < x) → insI x zs = if k < zs.length ∧ zs.getD k 0 = x then zs else zs.take k ++ [x] ++ zs.drop k
  | [], k, hk, _, _ => by
    obtain rfl : k = 0 := by simpa using hk
    simp [insI]
  | y :: l, 0, _, _, h2 => by
    have h := h2 (by simp)
    simp at h
    rw [insI, if_neg (by omega)]
    by_cases e : y = x
    · simp [e]
    · simp [e]
  | y :: l, k + 1, hk, h1, h2 => by
    have hy : y < x := h1 y (by simp)
    rw [insI, if_pos hy, insI_at x l k (by simpa using hk) (fun z hz => h1 z (by simp [hz])) (fun h => by simpa using h2 (by simpa using h))]
    by_cases e : k < l.length ∧ l.getD k 0 = x
    · rw [if_pos e, if_pos (by simpa using e)]
    · rw [if_neg e, if_neg (by simpa using e)]; simp
theorem mem_insI {x z : Int} : ∀ {zs : List Int}, z ∈ insI x zs ↔ z = x ∨ z ∈ zs
  | [] => by simp [insI]
  | y :: l => by
    rw [insI]
    split
    · rw [List.mem_cons, mem_insI, List.mem_cons]
      exact ⟨fun h => by rcases h with h | h | h <;> simp [h], fun h => by rcases h with h | h | h <;> simp [h]⟩
    · split
      · next h => subst h; simp
      · simp
theorem insI_lt {x : Int} : ∀ {zs : List Int}, zs.Pairwise (· < ·) → (insI x zs).Pairwise (· < ·)
  | [], _ => by simp [insI]
  | y :: l, h => by
    rw [List.pairwise_cons] at h
    rw [insI]
    split
    · next hy =>
      rw [List.pairwise_cons]
      refine ⟨fun z hz => ?_, insI_lt h.2⟩
      rcases mem_insI.1 hz with rfl | hz
      · exact hy
      · exact h.1 z hz
    · next hy =>
      split
      · exact List.pairwise_cons.2 h
      · next hne =>
        rw [List.pairwise_cons]
        refine ⟨fun z hz => ?_, List.pairwise_cons.2 h⟩
        rcases List.mem_cons.1 hz with rfl | hz
        · omega
        · have := h.1 z hz; omega
theorem insI_len (x : Int) : ∀ zs : List Int, (insI x zs).length = zs.length ∨ (insI x zs).length = zs.length + 1
  | [] => .inr rfl
  | y :: l => by
    rw [insI]
    split
    · rcases insI_len x l with h | h <;> simp [h]
    · split
      · exact .inl rfl
      · exact .inr (by simp)
theorem insI_id {x : Int} : ∀ {zs : List Int}, zs.Pairwise (· < ·) → ((insI x zs).length = zs.length ↔ x ∈ zs)
  | [], _ => by simp [insI]
  | y :: l, h => by
    rw [List.pairwise_cons] at h
    have ih := insI_id (x := x) h.2
    rw [insI]
    split
    · next hy =>
      simp only [List.length_cons, List.mem_cons]
      rw [Nat.add_right_cancel_iff, ih]
      exact ⟨fun h => .inr h, fun h => h.elim (fun e => by omega) id⟩
    · next hy =>
      split
      · next e => subst e; simp
      · next hne =>
        simp only [List.length_cons, List.mem_cons]
        refine ⟨fun h => by omega, fun h' => ?_⟩
        rcases h' with rfl | h'
        · exact absurd rfl hne
        · have := h.1 x h'; omega
end Go.Proofs.Ytceldgcmjmfjfaa

/- Layer 4: add of the reference. -/
namespace Go.Proofs.Ytceldgcmjmfjfaa
open Go.RowKit Go.Sort Go.Maps

theorem getD_take {zs : List Int} {k : Nat} (h : k < zs.length) : zs.take (k + 1) = zs.take k ++ [zs.getD k 0] := by
  rw [List.take_succ_eq_append_getElem h]; simp [List.getD, List.getElem?_eq_getElem h]
theorem own_emp (w : World) : Own (w.alloc (.cells #[] 3)) w.heap.size (.slice (some ⟨w.heap.size, 0, none⟩) 0 0) [] :=
  World.ownsRow_lit (e := 3) (size := 1) w #[] 0 (Nat.le_refl _) (by unfold maxLen; omega) rfl
theorem addr_addG (b o j : Nat) : (⟨b, o, none⟩ : Addr).add j = ⟨b, o + j, none⟩ := by unfold Addr.add; split <;> simp_all
theorem news_at {w : World} {b o : Nat} {l : List Int} (h : ∀ j, j < l.length → w.cell? ⟨b, o + j, none⟩ = some (.int .i64 (l.getD j 0))) : ∀ j u, (l.map (Value.int .i64))[j]? = some u → w.cell? ((⟨b, o, none⟩ : Addr).add j) = some u := fun j u hu => by
  rw [List.getElem?_map] at hu
  cases hj : l[j]? with
  | none => rw [hj] at hu; cases hu
  | some y =>
    rw [hj] at hu
    have hl := (List.getElem?_eq_some_iff.1 hj).1
    have := h j hl
    rw [addr_addG, this]
    rw [← hu]
    simp [List.getD, hj]
theorem ints_one {l : List Int} : ∀ u ∈ l.map (Value.int .i64), u.oneCell' = true := fun u hu => by
  obtain ⟨y, _, rfl⟩ := List.mem_map.1 hu; rfl
set_option maxHeartbeats 4000000 in
set_option maxRecDepth 100000 in
theorem r4add_any (A : Option Addr) (n c : Nat) (zs : List Int) (x : Int) (w : World) (hx : RdI w w.heap.size A zs) (hn : zs.length = n) (hc : n ≤ c ∧ c ≤ 9223372036854775807) (hA : A = none → c = 0) (hE : n = 0 → A = none) (hb : n ≤ 100000) :
    Calls Try.prog 54 #[.slice A n c, .int .i64 x] w fun e w' => ∃ v, e = .returned v ∧ LsI w' v (insI x zs) ∧ Below w.heap.size w w' := by
  have HX := Lib.hid hx
  have HN := Lib.hid hn
  have HIA := Lib.hid (insI_at x zs)
  obtain ⟨iI, iI0, iI1, iI2, iI3⟩ := info_parts info_int
  have HLS := Lib.hid (show LsI w (.slice A n c) zs from by subst hn; exact ⟨A, c, rfl, hx, hc, hA⟩)
  have H0 := Lib.hid (show ∀ y ∈ zs.take 0, y < x from fun y hy => by simp at hy)
  clear hx hn
  go_enter Try.func54, Try.ntmps54
  go_wp2_with fail
  go_loop [5] (fun i => ∃ k : Nat, k ≤ n ∧ i = .int .i64 k ∧ Hid (∀ y ∈ zs.take k, y < x)) (fun i => n - (intOf i).toNat)
  case atStart => exact ⟨0, Nat.zero_le _, rfl, H0⟩
  case round =>
    clear H0
    obtain ⟨k, hk, rfl, ht⟩ := hrel
    have z0 : (0 : Int) ≤ (k : Int) := by omega
    by_cases hlt : k < n
    · obtain ⟨b1, o1, rfl, hb1, hc1⟩ := HX.out (by rw [HN.out]; omega)
      have hz : k < zs.length := by rw [HN.out]; exact hlt
      have h1 := hc1 k hz
      obtain ⟨y, hye⟩ : ∃ y, y = zs.getD k 0 := ⟨_, rfl⟩
      rw [← hye] at h1
      have z1 : (k : Int) < (n : Int) := by omega
      by_cases hyx : y < x
      · have hr := Lib.hid (show ∀ u ∈ zs.take (k + 1), u < x from fun u hu => by
          rw [getD_take hz, ← hye] at hu
          rcases List.mem_append.1 hu with hu | hu
          · exact ht.out u hu
          · rw [List.mem_singleton.1 hu]; exact hyx)
        clear hc1 ht hye hz
        go_wp2_with fail
        go_round
        case rel => exact ⟨k + 1, by omega, by go_num, hr⟩
        case measure => simp [intOf]; omega
      · have hins := HIA.out k (by rw [HN.out]; exact hk) ht.out (fun _ => by rw [← hye]; omega)
        rw [← hye] at hins
        by_cases he : y = x
        · rw [if_pos ⟨hz, he⟩] at hins
          have HIN := Lib.hid hins
          have hb2 : (y == x) = true := by simpa using he
          clear hc1 ht hye hz hins he
          go_wp2_with fail
          go_ret
          exact ⟨_, rfl, by rw [HIN.out]; exact HLS.out, Below.refl _ _⟩
        · rw [if_neg (fun h => he h.2)] at hins
          have HIN := Lib.hid hins
          have hb2 : (y == x) = false := by simpa using he
          have HC1 := Lib.hid hc1
          clear hc1 ht hye hz hins he
          obtain ⟨W1, hW1⟩ : ∃ W, W = w.alloc (.cells #[] 3) := ⟨_, rfl⟩
          have hbw : Below w.heap.size w W1 := by rw [hW1]; exact (Below.refl _ _).alloc (Nat.le_refl _) _
          have HO1 := Lib.hid (show Own W1 w.heap.size (.slice (some ⟨w.heap.size, 0, none⟩) 0 0) [] from by rw [hW1]; exact own_emp w)
          have HBW := Lib.hid hbw
          have HW1 := Lib.hid hW1
          have HN1 := Lib.hid (news_at (w := W1) (b := b1) (o := o1) (l := zs.take k) fun j hj => by
            have hj' : j < k ∧ j < zs.length := by simp at hj; omega
            rw [hbw.cell (p := ⟨b1, o1 + j, none⟩) hb1, HC1.out j hj'.2]
            simp [List.getD, List.getElem?_take, hj'.1])
          have hl1 : (zs.take k).length = k := by rw [List.length_take, HN.out]; omega
          have hl2 : (zs.drop k).length = n - k := by rw [List.length_drop, HN.out]
          clear hW1 hbw
          go_upto_region 6 with fail
          go_wp2_with (at_builtin; rw [← HW1.out]; refine wpList_append_own_at _ rfl _ _ 27 rfl w.heap.size 3 iI (.int .i64 0) 1 8 Try.underlying27 iI0 iI1 iI2 iI3 rfl (by decide) _ 0 [] rfl HO1.out ⟨b1, o1, none⟩ k c ((zs.take k).map (Value.int .i64)) rfl (by rw [List.length_map, hl1, Nat.mul_one]) HN1.out ints_one (by unfold maxLen; omega) (by omega) (by have := HBW.out.size; omega) ?_)
          intro v2 w2 hown2 hgr2 _ _
          have HB2 := Lib.hid (HBW.out.grown hgr2 HBW.out.size (fun i hi => (HO1.out.lt i hi).1))
          have HO2 := Lib.hid (show Own w2 w.heap.size v2 (zs.take k) from by unfold Own; rw [hl1]; simpa using hown2)
          clear hown2 hgr2
          have HO2k := Lib.hid (show w2.ownsRow w.heap.size 3 1 v2 k ((zs.take k).map (Value.int .i64)) from by have := HO2.out; unfold Own at this; rwa [hl1] at this)
          go_wp2_with (at_builtin; refine wpList_append_own_at _ rfl _ _ 27 rfl w.heap.size 3 iI (.int .i64 0) 1 8 Try.underlying27 iI0 iI1 iI2 iI3 rfl (by decide) _ k ((zs.take k).map (Value.int .i64)) rfl (HO2k.out.alloc _) ⟨w2.heap.size, 0, none⟩ 1 1 [.int .i64 x] rfl rfl (news_one rfl) (by intro u hu; simp at hu; subst hu; rfl) (by unfold maxLen; omega) (by omega) (by have := HB2.out.size; simp; omega) ?_)
          intro v3 w3 hown3 hgr3 _ _
          have HB3 := Lib.hid ((HB2.out.alloc HB2.out.size (.cells #[.int .i64 x] 3)).grown hgr3 (by have := HB2.out.size; simp; omega) (fun i hi => (HO2k.out.lt i hi).1))
          have HO3 := Lib.hid hown3
          have HN3 := Lib.hid (news_at (w := w3) (b := b1) (o := o1 + k) (l := zs.drop k) fun j hj => by
            have hj' : k + j < zs.length := by simp at hj; omega
            rw [HB3.out.cell (p := ⟨b1, o1 + k + j, none⟩) hb1, show o1 + k + j = o1 + (k + j) by omega, HC1.out (k + j) hj']
            simp [List.getD])
          clear hown3 hgr3
          have z5 : (k : Int) ≤ (n : Int) := by omega
          go_wp2_with (at_builtin; refine wpList_append_own_at _ rfl _ _ 27 rfl w.heap.size 3 iI (.int .i64 0) 1 8 Try.underlying27 iI0 iI1 iI2 iI3 rfl (by decide) _ (k + 1) _ rfl HO3.out ⟨b1, o1 + k, none⟩ (n - k) (c - k) ((zs.drop k).map (Value.int .i64)) rfl (by rw [List.length_map, hl2, Nat.mul_one]) HN3.out ints_one (by unfold maxLen; omega) (by omega) (by have := HB3.out.size; omega) ?_)
          intro v4 w4 hown4 hgr4 _ _
          have HB4 := HB3.out.grown hgr4 HB3.out.size (fun i hi => (HO3.out.lt i hi).1)
          go_wp2_with fail
          go_ret
          refine ⟨_, rfl, ?_, HB4⟩
          rw [HIN.out]
          refine LsI.own (B := w.heap.size) ?_
          have h9 : (zs.take k ++ [x] ++ zs.drop k).length = k + 1 + (n - k) := by simp [HN.out]; omega
          unfold Own
          rw [h9]
          simpa using hown4
    · obtain rfl : n = k := by omega
      have hins := HIA.out n (by rw [HN.out]; exact Nat.le_refl _) ht.out (fun h => absurd h (by rw [HN.out]; exact Nat.lt_irrefl _))
      rw [if_neg (fun h => absurd h.1 (by rw [HN.out]; exact Nat.lt_irrefl _))] at hins
      have HIN := Lib.hid hins
      have hl1 : (zs.take n).length = n := by rw [List.length_take, HN.out]; omega
      have hl2 : (zs.drop n).length = 0 := by rw [List.length_drop, HN.out]; omega
      obtain ⟨W1, hW1⟩ : ∃ W, W = w.alloc (.cells #[] 3) := ⟨_, rfl⟩
      have hbw : Below w.heap.size w W1 := by rw [hW1]; exact (Below.refl _ _).alloc (Nat.le_refl _) _
      have HO1 := Lib.hid (show Own W1 w.heap.size (.slice (some ⟨w.heap.size, 0, none⟩) 0 0) [] from by rw [hW1]; exact own_emp w)
      have HBW := Lib.hid hbw
      have HW1 := Lib.hid hW1
      have z5 : ¬ ((n : Int) < (n : Int)) := by omega
      by_cases h0 : n = 0
      · obtain rfl := hE h0
        obtain rfl := hA rfl
        subst h0
        have HSZ := Lib.hid (show W1.heap.size = w.heap.size + 1 from by rw [hW1]; simp)
        clear hW1 hbw
        go_upto_region 7 with fail
        go_wp2_with (at_builtin; rw [← HW1.out]; refine wpList_append_own_at _ rfl _ _ 27 rfl w.heap.size 3 iI (.int .i64 0) 1 8 Try.underlying27 iI0 iI1 iI2 iI3 rfl (by decide) _ 0 [] rfl (HO1.out.alloc _) ⟨w.heap.size + 1, 0, none⟩ 1 1 [.int .i64 x] rfl rfl (news_one HSZ.out) (by intro u hu; simp at hu; subst hu; rfl) (by unfold maxLen; omega) (by omega) (by have := HBW.out.size; simp; omega) ?_)
        intro v3 w3 hown3 hgr3 _ _
        have HB3 := Lib.hid ((HBW.out.alloc HBW.out.size (.cells #[.int .i64 x] 3)).grown hgr3 (by have := HBW.out.size; simp; omega) (fun i hi => (HO1.out.lt i hi).1))
        have ho3 : Own w3 w.heap.size v3 [x] := by unfold Own; simpa using hown3
        have h8 : zs = [] := List.eq_nil_of_length_eq_zero HN.out
        rcases ho3.2 with ⟨_, h0⟩ | ⟨g, cap, cur, rfl, hg, hh, hnc, hcap, hsz, htake⟩
        · simp at h0
        · have hnc' : 1 ≤ cap := by simpa using hnc
          have HO3 := Lib.hid ho3
          have hm : cap ≤ 9223372036854775807 := by unfold maxLen at hcap; omega
          clear hown3 hgr3 ho3 hh hnc hcap hsz htake hins hl1 hl2
          go_wp2_with fail
          go_ret
          refine ⟨_, rfl, ?_, HB3.out⟩
          rw [HIN.out, h8]
          exact LsI.own HO3.out
      · obtain ⟨b1, o1, rfl, hb1, hc1⟩ := HX.out (by rw [HN.out]; omega)
        have HC1 := Lib.hid hc1
        have HN1 := Lib.hid (news_at (w := W1) (b := b1) (o := o1) (l := zs.take n) fun j hj => by
          have hj' : j < n ∧ j < zs.length := by simp at hj; omega
          rw [hbw.cell (p := ⟨b1, o1 + j, none⟩) hb1, HC1.out j hj'.2]
          simp [List.getD, hj'.1])
        clear hW1 hbw hc1
        go_upto_region 6 with fail
        go_wp2_with (at_builtin; rw [← HW1.out]; refine wpList_append_own_at _ rfl _ _ 27 rfl w.heap.size 3 iI (.int .i64 0) 1 8 Try.underlying27 iI0 iI1 iI2 iI3 rfl (by decide) _ 0 [] rfl HO1.out ⟨b1, o1, none⟩ n c ((zs.take n).map (Value.int .i64)) rfl (by rw [List.length_map, hl1, Nat.mul_one]) HN1.out ints_one (by unfold maxLen; omega) (by omega) (by have := HBW.out.size; omega) ?_)
        intro v2 w2 hown2 hgr2 _ _
        have HB2 := Lib.hid (HBW.out.grown hgr2 HBW.out.size (fun i hi => (HO1.out.lt i hi).1))
        have HO2 := Lib.hid (show Own w2 w.heap.size v2 (zs.take n) from by unfold Own; rw [hl1]; simpa using hown2)
        clear hown2 hgr2
        have HO2k := Lib.hid (show w2.ownsRow w.heap.size 3 1 v2 n ((zs.take n).map (Value.int .i64)) from by have := HO2.out; unfold Own at this; rwa [hl1] at this)
        go_wp2_with (at_builtin; refine wpList_append_own_at _ rfl _ _ 27 rfl w.heap.size 3 iI (.int .i64 0) 1 8 Try.underlying27 iI0 iI1 iI2 iI3 rfl (by decide) _ n ((zs.take n).map (Value.int .i64)) rfl (HO2k.out.alloc _) ⟨w2.heap.size, 0, none⟩ 1 1 [.int .i64 x] rfl rfl (news_one rfl) (by intro u hu; simp at hu; subst hu; rfl) (by unfold maxLen; omega) (by omega) (by have := HB2.out.size; simp; omega) ?_)
        intro v3 w3 hown3 hgr3 _ _
        have HB3 := Lib.hid ((HB2.out.alloc HB2.out.size (.cells #[.int .i64 x] 3)).grown hgr3 (by have := HB2.out.size; simp; omega) (fun i hi => (HO2k.out.lt i hi).1))
        have HO3 := Lib.hid hown3
        clear hown3 hgr3
        by_cases hcn : c = n
        · subst hcn
          go_wp2_with (at_builtin; refine wpList_append_own_at _ rfl _ _ 27 rfl w.heap.size 3 iI (.int .i64 0) 1 8 Try.underlying27 iI0 iI1 iI2 iI3 rfl (by decide) _ (c + 1) _ rfl HO3.out ⟨b1, o1, none⟩ 0 0 [] rfl rfl (by simp) (by simp) (by unfold maxLen; omega) (by omega) (by have := HB3.out.size; omega) ?_)
          intro v4 w4 hown4 hgr4 _ _
          have HB4 := HB3.out.grown hgr4 HB3.out.size (fun i hi => (HO3.out.lt i hi).1)
          go_wp2_with fail
          go_ret
          refine ⟨_, rfl, ?_, HB4⟩
          rw [HIN.out]
          refine LsI.own (B := w.heap.size) ?_
          have h9 : (zs.take c ++ [x] ++ zs.drop c).length = c + 1 + 0 := by simp [HN.out]
          have h8 : zs.drop c = [] := List.eq_nil_of_length_eq_zero hl2
          unfold Own
          rw [h9]
          simpa [h8] using hown4
        · go_wp2_with (at_builtin; refine wpList_append_own_at _ rfl _ _ 27 rfl w.heap.size 3 iI (.int .i64 0) 1 8 Try.underlying27 iI0 iI1 iI2 iI3 rfl (by decide) _ (n + 1) _ rfl HO3.out ⟨b1, o1 + n, none⟩ 0 (c - n) [] rfl rfl (by simp) (by simp) (by unfold maxLen; omega) (by omega) (by have := HB3.out.size; omega) ?_)
          intro v4 w4 hown4 hgr4 _ _
          have HB4 := HB3.out.grown hgr4 HB3.out.size (fun i hi => (HO3.out.lt i hi).1)
          go_wp2_with fail
          go_ret
          refine ⟨_, rfl, ?_, HB4⟩
          rw [HIN.out]
          refine LsI.own (B := w.heap.size) ?_
          have h9 : (zs.take n ++ [x] ++ zs.drop n).length = n + 1 + 0 := by simp [HN.out]
          have h8 : zs.drop n = [] := List.eq_nil_of_length_eq_zero hl2
          unfold Own
          rw [h9]
          simpa [h8] using hown4
end Go.Proofs.Ytceldgcmjmfjfaa

/- Layer 4: closures of sets of states under edges, as mathematics; All. -/
namespace Go.Proofs.Ytceldgcmjmfjfaa
open Go.RowKit Go.Sort Go.Maps

inductive Cl (es : List Ed) (src dst : Ed → Int) (ok : Ed → Bool) (P : Int → Prop) : Int → Prop
  | base {q : Int} : P q → Cl es src dst ok P q
  | step {x : Ed} : x ∈ es → Cl es src dst ok P (src x) → ok x = true → Cl es src dst ok P (dst x)
structure FrI (S : Nat) (es : List Ed) (src dst : Ed → Int) (ok : Ed → Bool) (P : Int → Prop) (out : List Int) : Prop where
  up : out.Pairwise (· < ·)
  rg : ∀ q ∈ out, 0 ≤ q ∧ q < (S : Int)
  sd : ∀ q ∈ out, Cl es src dst ok P q
theorem up_len {S : Nat} {l : List Int} (h : l.Pairwise (· < ·)) (hr : ∀ q ∈ l, 0 ≤ q ∧ q < (S : Int)) : l.length ≤ S :=
  nodup_len (h.imp fun h => by omega) hr
theorem FrI.len {S : Nat} {es : List Ed} {src dst : Ed → Int} {ok : Ed → Bool} {P : Int → Prop} {out : List Int} (h : FrI S es src dst ok P out) : out.length ≤ S := up_len h.up h.rg
theorem FrI.add {S : Nat} {es : List Ed} {src dst : Ed → Int} {ok : Ed → Bool} {P : Int → Prop} {out : List Int} (h : FrI S es src dst ok P out) {q : Int} (hq : 0 ≤ q ∧ q < (S : Int)) (hc : Cl es src dst ok P q) : FrI S es src dst ok P (insI q out) :=
  ⟨insI_lt h.up, fun z hz => (mem_insI.1 hz).elim (fun e => e ▸ hq) (h.rg z), fun z hz => (mem_insI.1 hz).elim (fun e => e ▸ hc) (h.sd z)⟩
theorem insI_mem {x : Int} : ∀ {zs : List Int}, zs.Pairwise (· < ·) → x ∈ zs → insI x zs = zs
  | [], _, h => by cases h
  | y :: l, h, hx => by
    rw [List.pairwise_cons] at h
    rw [insI]
    rcases List.mem_cons.1 hx with rfl | hx
    · rw [if_neg (by omega), if_pos rfl]
    · rw [if_pos (h.1 x hx), insI_mem h.2 hx]
/-- Some edges lead nowhere new. -/
def Clo (es : List Ed) (src dst : Ed → Int) (ok : Ed → Bool) (out : List Int) : Prop := ∀ x ∈ es, src x ∈ out → ok x = true → dst x ∈ out
theorem cl_iff {S : Nat} {es : List Ed} {src dst : Ed → Int} {ok : Ed → Bool} {P : Int → Prop} {out : List Int} (h : FrI S es src dst ok P out) (hb : ∀ q, P q → q ∈ out) (hc : Clo es src dst ok out) (q : Int) : q ∈ out ↔ Cl es src dst ok P q := by
  refine ⟨h.sd q, fun hq => ?_⟩
  induction hq with
  | base hp => exact hb _ hp
  | step hx _ ho ih => exact hc _ hx ih ho
/-- What one pass over the edges keeps. -/
structure PaI (S : Nat) (es : List Ed) (src dst : Ed → Int) (ok : Ed → Bool) (P : Int → Prop) (n0 t : Nat) (out : List Int) : Prop where
  fr : FrI S es src dst ok P out
  bs : ∀ q, P q → q ∈ out
  le : n0 ≤ out.length
  cl : out.length = n0 → Clo (es.take t) src dst ok out
theorem PaI.skip {S : Nat} {es : List Ed} {src dst : Ed → Int} {ok : Ed → Bool} {P : Int → Prop} {n0 t : Nat} {out : List Int} (h : PaI S es src dst ok P n0 t out) {x : Ed} (hx : es[t]? = some x) (hn : ¬ (src x ∈ out ∧ ok x = true)) : PaI S es src dst ok P n0 (t + 1) out :=
  ⟨h.fr, h.bs, h.le, fun e y hy h1 h2 => by
    rw [List.take_add_one, hx] at hy
    rcases List.mem_append.1 hy with hy | hy
    · exact h.cl e y hy h1 h2
    · simp at hy; subst hy; exact absurd ⟨h1, h2⟩ hn⟩
theorem PaI.go {S : Nat} {es : List Ed} {src dst : Ed → Int} {ok : Ed → Bool} {P : Int → Prop} {n0 t : Nat} {out : List Int} (h : PaI S es src dst ok P n0 t out) {x : Ed} (hx : es[t]? = some x) (h1 : src x ∈ out) (h2 : ok x = true) (hr : 0 ≤ dst x ∧ dst x < (S : Int)) : PaI S es src dst ok P n0 (t + 1) (insI (dst x) out) :=
  ⟨h.fr.add hr (.step (List.mem_of_getElem? hx) (h.fr.sd _ h1) h2), fun q hq => mem_insI.2 (.inr (h.bs q hq)), by rcases insI_len (dst x) out with e | e <;> (have := h.le; omega), fun e y hy g1 g2 => by
    have hle := h.le
    have hl : (insI (dst x) out).length = out.length := by rcases insI_len (dst x) out with e' | e' <;> omega
    have hm := (insI_id h.fr.up).1 hl
    rw [insI_mem h.fr.up hm] at e g1 ⊢
    rw [List.take_add_one, hx] at hy
    rcases List.mem_append.1 hy with hy | hy
    · exact h.cl e y hy g1 g2
    · simp at hy; subst hy; exact hm⟩
def LsE (w : World) (v : Value) (zs : List Int) : Prop := LsI w v zs ∧ (zs = [] → v = .slice none 0 0)
theorem LsE.nil (w : World) : LsE w (.slice none 0 0) [] := ⟨LsI.nil w, fun _ => rfl⟩
theorem LsE.below {w w' : World} {v : Value} {zs : List Int} (h : LsE w v zs) (hb : Below w.heap.size w w') : LsE w' v zs := ⟨h.1.below hb, h.2⟩
theorem r4add_ls (v : Value) (zs : List Int) (x : Int) (w : World) (h : LsE w v zs) (hb : zs.length ≤ 100000) : Calls Try.prog 54 #[v, .int .i64 x] w fun e w' => ∃ v', e = .returned v' ∧ LsE w' v' (insI x zs) ∧ Below w.heap.size w w' := by
  obtain ⟨⟨A, c, rfl, hr, hc, hA⟩, he⟩ := h
  refine (r4add_any A zs.length c zs x w hr rfl hc hA (fun h0 => ?_) hb).mono ?_
  · have := he (List.eq_nil_of_length_eq_zero h0)
    injection this
  · rintro e w' ⟨v', rfl, h1, h2⟩
    refine ⟨v', rfl, ⟨h1, fun h0 => ?_⟩, h2⟩
    have := (mem_insI (x := x) (z := x) (zs := zs)).2 (.inl rfl)
    rw [h0] at this; cases this
set_option maxHeartbeats 1000000 in
theorem r4All_any (S : Nat) (w : World) (hS : S ≤ 100000) : Calls Try.prog 39 #[.int .i64 (S : Int)] w fun e w' => ∃ v, e = .returned v ∧ Own w' w.heap.size v (rngF S fun _ => true) ∧ Below w.heap.size w w' := by
  obtain ⟨iI, iI0, iI1, iI2, iI3⟩ := info_parts info_int
  have HO0 := Lib.hid (show Own w w.heap.size (.slice none 0 0) (rngF 0 fun _ => true) from World.ownsRow_nil _ _ _ _)
  have HB0 := Lib.hid (Below.refl w.heap.size w)
  go_enter Try.func39, Try.ntmps39
  go_wp2_with fail
  go_loopw [3, 4] (fun v iv wr => ∃ t : Nat, t ≤ S ∧ iv = .int .i64 t ∧ Hid (Own wr w.heap.size v (rngF t fun _ => true)) ∧ Hid (Below w.heap.size w wr)) (fun _ iv _ => S - (intOf iv).toNat)
  case atStart => exact ⟨0, Nat.zero_le _, rfl, HO0, HB0⟩
  case round =>
    clear HO0 HB0
    obtain ⟨t, ht, rfl, hown, hbel⟩ := hrel
    by_cases hlt : t < S
    · have z1 : (t : Int) < (S : Int) := by omega
      have hll := rngF_len t (fun _ => true)
      obtain ⟨L, hL⟩ : ∃ L, L = (rngF t fun _ => true).length := ⟨_, rfl⟩
      rw [← hL] at hll
      have HL := Lib.hid hL
      have hz := hbel.out.size
      have hO := hown.out
      unfold Own at hO
      rw [← hL] at hO
      have HOL := Lib.hid hO
      clear hL hO
      go_wp2_with (at_builtin; refine wpList_append_own_at _ rfl _ _ 27 rfl w.heap.size 3 iI (.int .i64 0) 1 8 Try.underlying27 iI0 iI1 iI2 iI3 rfl (by decide) _ L ((rngF t fun _ => true).map (Value.int .i64)) rfl (HOL.out.alloc _) ⟨wr.heap.size, 0, none⟩ 1 1 [.int .i64 (t : Int)] rfl rfl (news_one rfl) (by intro u hu; simp at hu; subst hu; rfl) (by unfold maxLen; omega) (by omega) (by simp; omega) ?_)
      intro v6 w6 hown6 hgrow6 _ _
      have hO6 := Lib.hid (show Own w6 w.heap.size v6 (rngF (t + 1) fun _ => true) by rw [rngF_yes rfl]; unfold Own; rw [List.length_append, List.map_append, ← HL.out]; exact hown6)
      have hB6 := Lib.hid ((hbel.out.alloc hz (.cells #[.int .i64 (t : Int)] 3)).grown hgrow6 (by simp; omega) (fun i hi => (HOL.out.lt i hi).1))
      clear hown6 hgrow6
      go_wp2_with fail
      go_roundw
      case rel => exact ⟨t + 1, by omega, by go_num, hO6, hB6⟩
      case measure => simp [intOf]; omega
    · obtain rfl : S = t := by omega
      go_wp2_with fail
      go_ret
      exact ⟨_, rfl, hown.out, hbel.out⟩
end Go.Proofs.Ytceldgcmjmfjfaa

/- Layer 4: Coreachable of the reference. -/
namespace Go.Proofs.Ytceldgcmjmfjfaa
open Go.RowKit Go.Sort Go.Maps

theorem box_lt {w : World} {b : Nat} {A : Option Addr} {n c : Nat} {s : Int} {M : Option Addr} {m d : Nat} {E : Option Addr} {k g : Nat} (h : BoxA w b A n c s M m d E k g) : b < w.heap.size := by
  obtain ⟨p0, _⟩ := h
  rcases Nat.lt_or_ge b w.heap.size with h | h
  · exact h
  · simp [World.cell?, Array.getElem?_eq_none h] at p0
def vln : Value → Nat
  | .slice _ n _ => n
  | _ => 0
def msr (S : Nat) (v nv : Value) : Nat := 2 * (S - vln v) + (if intOf nv = (vln v : Int) then 0 else 1)
theorem msr_lt {S l l2 : Nat} {A A2 : Option Addr} {c c2 : Nat} {z : Int} (h1 : l ≤ l2) (h2 : l2 ≤ S) (h3 : ¬ z = (l : Int)) : msr S (.slice A2 l2 c2) (.int .i64 (l : Int)) < msr S (.slice A l c) (.int .i64 z) := by
  have e : ∀ A c l (z : Int), msr S (.slice A l c) (.int .i64 z) = 2 * (S - l) + (if z = (l : Int) then 0 else 1) := fun _ _ _ _ => rfl
  rw [e, e, if_neg h3]
  by_cases e : l = l2
  · subst e; simp
  · rw [if_neg (by omega)]; omega
theorem r4add_li (v : Value) (zs : List Int) (x : Int) (w : World) (h : LsI w v zs) (hne : zs ≠ []) (hb : zs.length ≤ 100000) : Calls Try.prog 54 #[v, .int .i64 x] w fun e w' => ∃ v', e = .returned v' ∧ LsI w' v' (insI x zs) ∧ Below w.heap.size w w' := by
  obtain ⟨A, c, rfl, hr, hc, hA⟩ := h
  exact r4add_any A zs.length c zs x w hr rfl hc hA (fun h0 => absurd (List.eq_nil_of_length_eq_zero h0) hne) hb
theorem r4has_li (v : Value) (zs : List Int) (x : Int) (w : World) (h : LsI w v zs) (hb : zs.length ≤ 100000) : Calls Try.prog 53 #[v, .int .i64 x] w fun e w' => e = .returned (.bool (decide (x ∈ zs))) ∧ w = w' := by
  obtain ⟨A, c, rfl, hr, hc, hA⟩ := h
  exact r4has_any A zs.length c _ zs x w hr rfl (by omega)
set_option maxHeartbeats 8000000 in
set_option maxRecDepth 100000 in
theorem r4Co_any (A : Option Addr) (n c : Nat) (s : Int) (M : Option Addr) (m d : Nat) (E : Option Addr) (k g : Nat) (a : Au) (S : Nat) (w : World) (h : AuR w w.heap.size A n c s M m d E k g a) (hS : s = (S : Int)) (hSb : S ≤ 4096) (he : EdOk S a.ed) (hm : ∀ q ∈ a.mr, 0 ≤ q ∧ q < (S : Int)) (hu : a.mr.Pairwise (· < ·)) (hM : M = none → m = 0 ∧ d = 0) :
    Calls Try.prog 18 #[.agg #[.slice A n c, .int .i64 s, .slice M m d, .slice E k g]] w fun e w' => ∃ v out, e = .returned v ∧ LsI w' v out ∧ Below w.heap.size w w' ∧ out.Pairwise (· < ·) ∧ (∀ q ∈ out, 0 ≤ q ∧ q < (S : Int)) ∧ ∀ q, q ∈ out ↔ Cl a.ed Ed.t Ed.f (fun _ => true) (· ∈ a.mr) q := by
  subst hS
  have hb1 := (Below.refl w.heap.size w).alloc (Nat.le_refl _) (.cells #[.slice A n c, .int .i64 (S : Int), .slice M m d, .slice E k g] 30)
  have HX := Lib.hid (BoxA.made w A n c (S : Int) M m d E k g 30)
  obtain ⟨iI, iI0, iI1, iI2, iI3⟩ := info_parts info_int
  have HR := Lib.hid h
  have HK := Lib.hid h.hk
  have hml := h.hm
  have hbm := h.bm
  have hbk := h.bk
  have HE := Lib.hid he
  have HF0 := Lib.hid (show FrI S a.ed Ed.t Ed.f (fun _ => true) (· ∈ a.mr) a.mr from ⟨hu, hm, fun q hq => .base hq⟩)
  have hmS := HF0.out.len
  obtain ⟨W1, hW1⟩ : ∃ W, W = (w.alloc (.cells #[.slice A n c, .int .i64 (S : Int), .slice M m d, .slice E k g] 30)).alloc (.cells #[] 3) := ⟨_, rfl⟩
  have hB1 : Below w.heap.size w W1 := by rw [hW1]; exact hb1.alloc hb1.size _
  have HX1 := Lib.hid (show BoxA W1 w.heap.size A n c (S : Int) M m d E k g from by rw [hW1]; exact HX.out.allocG (by simp) _)
  have HO1 := Lib.hid (show Own W1 (w.heap.size + 1) (.slice (some ⟨w.heap.size + 1, 0, none⟩) 0 0) [] from by
    have := own_emp (w.alloc (.cells #[.slice A n c, .int .i64 (S : Int), .slice M m d, .slice E k g] 30))
    rw [World.size_alloc] at this
    rw [hW1]; exact this)
  have HB1 := Lib.hid hB1
  have HW1 := Lib.hid hW1
  have hsz1 : w.heap.size + 1 < W1.heap.size := by rw [hW1]; simp
  have HS1 : ∃ ad, M = some ad ∨ (M = none ∧ m = 0 ∧ d = 0) := by
    cases M with
    | none => exact ⟨⟨0, 0, none⟩, .inr ⟨rfl, hM rfl⟩⟩
    | some ad => exact ⟨ad, .inl rfl⟩
  have HA4 := Lib.hid (HR.out.mr)
  obtain ⟨p0, p1, p2, p3⟩ := HX.out
  clear h hb1 hu hm he hW1 hB1
  go_enter Try.func18, Try.ntmps18
  go_upto_region 1 with fail
  go_cut [3] from 6 to 9 (fun v wx => Hid (LsI wx v a.mr) ∧ Hid (Below w.heap.size w wx) ∧ Hid (BoxA wx w.heap.size A n c (S : Int) M m d E k g))
  case first =>
    obtain ⟨ad, HM⟩ := HS1
    rcases HM with rfl | ⟨rfl, rfl, rfl⟩
    · have HN1 := Lib.hid (show ∀ j u, (a.mr.map (Value.int .i64))[j]? = some u → W1.cell? (ad.add j) = some u from by
        by_cases h0 : 0 < a.mr.length
        · obtain ⟨b, off, e, hb, hc⟩ := HA4.out h0
          injection e with e
          subst e
          exact news_at fun j hj => (HB1.out.cell (p := ⟨b, off + j, none⟩) hb).trans (hc j hj)
        · intro j u hu
          have : a.mr = [] := List.eq_nil_of_length_eq_zero (by omega)
          rw [this] at hu; simp at hu)
      go_wp2_with (at_builtin; rw [← HW1.out]; refine wpList_append_own_at _ rfl _ _ 27 rfl (w.heap.size + 1) 3 iI (.int .i64 0) 1 8 Try.underlying27 iI0 iI1 iI2 iI3 rfl (by decide) _ 0 [] rfl HO1.out ad m d (a.mr.map (Value.int .i64)) rfl (by rw [List.length_map, hml, Nat.mul_one]) HN1.out ints_one (by unfold maxLen; omega) (by omega) (by omega) ?_)
      intro v2 w2 hown2 hgr2 _ _
      have HB2 := Lib.hid (HB1.out.grown hgr2 HB1.out.size (fun i hi => by have := (HO1.out.lt i hi).1; omega))
      have HO2 := Lib.hid (show Own w2 (w.heap.size + 1) v2 a.mr from by unfold Own; rw [hml]; simpa using hown2)
      have HX2 := Lib.hid (HX1.out.below ((Below.refl (w.heap.size + 1) W1).grown hgr2 (by omega) (fun i hi => (HO1.out.lt i hi).1)) (by omega))
      clear hown2 hgr2
      go_wp2_with fail
      go_meet
      exact ⟨Lib.hid (LsI.own HO2.out), HB2, HX2⟩
    · have h0 : a.mr = [] := List.eq_nil_of_length_eq_zero hml
      go_wp2_with fail
      rw [← HW1.out]
      go_meet
      exact ⟨Lib.hid (by rw [h0]; exact LsI.own HO1.out), HB1, HX1⟩
  case rest =>
    clear HS1 HX1 HO1 HW1 HB1 HX p0 p1 p2 p3
    obtain ⟨hls, hbel, hbx⟩ := hcut
    have HPA := Lib.hid (show PaI S a.ed Ed.t Ed.f (fun _ => true) (· ∈ a.mr) 0 0 a.mr from ⟨HF0.out, fun q hq => hq, Nat.zero_le _, fun _ => fun x hx => by simp at hx⟩)
    clear HF0 HA4 hM
    go_wp2_with fail
    go_loopw [3, 4, 5] (fun v nv _ wr => ∃ (out : List Int) (n0 t : Nat) (z : Int), nv = .int .i64 z ∧ Hid (PaI S a.ed Ed.t Ed.f (fun _ => true) (· ∈ a.mr) n0 t out) ∧ (z = -1 ∨ (z = (n0 : Int) ∧ t = k)) ∧ Hid (LsI wr v out) ∧ Hid (Below w.heap.size w wr) ∧ Hid (BoxA wr w.heap.size A n c (S : Int) M m d E k g)) (fun v nv _ _ => msr S v nv)
    case atStart => exact ⟨a.mr, 0, 0, -1, rfl, HPA, .inl rfl, hls, hbel, hbx⟩
    case round =>
      clear HPA hls hbel hbx
      obtain ⟨out, n0, t, z, rfl, hpa, hz, hls, hbel, hbx⟩ := hrel
      have hlS := hpa.out.fr.len
      obtain ⟨Ao, co, rfl, hro, hco, hao⟩ := hls.out
      have HLS := hls
      clear hls hro hao
      obtain ⟨l, hl⟩ : ∃ l, l = out.length := ⟨_, rfl⟩
      rw [← hl] at hlS hco HLS ⊢
      have HLE := Lib.hid hl
      by_cases hzl : z = (l : Int)
      · have hbz : (z != (l : Int)) = false := by simp [hzl]
        have hcl : Clo a.ed Ed.t Ed.f (fun _ => true) out := by
          rcases hz with hz | ⟨hz, ht⟩
          · omega
          · have := hpa.out.cl (by omega)
            rwa [ht, List.take_of_length_le (by rw [HK.out]; exact Nat.le_refl _)] at this
        have HCL := Lib.hid hcl
        clear hcl hl hz
        subst hzl
        go_wp2_with fail
        go_ret
        exact ⟨_, out, rfl, HLS.out, hbel.out, hpa.out.fr.up, hpa.out.fr.rg, cl_iff hpa.out.fr hpa.out.bs HCL.out⟩
      · have hbz : (z != (l : Int)) = true := by simp [hzl]
        have HP0 := Lib.hid (show PaI S a.ed Ed.t Ed.f (fun _ => true) (· ∈ a.mr) l 0 out from ⟨hpa.out.fr, hpa.out.bs, by omega, fun _ => fun x hx => by simp at hx⟩)
        have HBX := hbx
        obtain ⟨q0, q1, q2, q3⟩ := hbx.out
        clear hl hz hpa hbx
        go_wp2_with fail
        go_loopw [3, 5] (fun v iv wr => ∃ (out : List Int) (t : Nat), t ≤ k ∧ iv = .int .i64 t ∧ Hid (PaI S a.ed Ed.t Ed.f (fun _ => true) (· ∈ a.mr) l t out) ∧ Hid (LsI wr v out) ∧ Hid (Below w.heap.size w wr) ∧ Hid (BoxA wr w.heap.size A n c (S : Int) M m d E k g)) (fun _ iv _ => k - (intOf iv).toNat)
        case atStart => exact ⟨out, 0, Nat.zero_le _, rfl, HP0, HLS, hbel, HBX⟩
        case round =>
          clear HP0 HLS hbel HBX q0 q1 q2 q3 hlS HLE out
          obtain ⟨out, t, ht, rfl, hpa, hls, hbel, hbx⟩ := hrel
          have hlS := hpa.out.fr.len
          have HOV := hls
          obtain ⟨Ao, co, rfl, hro, hco, hao⟩ := hls.out
          clear hls hro hao
          obtain ⟨l2, hl2⟩ : ∃ l2, l2 = out.length := ⟨_, rfl⟩
          have hle2 := hpa.out.le
          rw [← hl2] at hlS hco HOV hle2 ⊢
          have HLE := Lib.hid hl2
          obtain ⟨q0, q1, q2, q3⟩ := hbx.out
          by_cases hlt : t < k
          · obtain ⟨be, oe, rfl, hbe, hce⟩ := HR.out.ed (by rw [HK.out]; omega)
            obtain ⟨x, hx⟩ : ∃ x, a.ed[t]? = some x := ⟨_, List.getElem?_eq_getElem (by rw [HK.out]; exact hlt)⟩
            obtain ⟨e0, e1, e2⟩ := hce t x hx
            have d0 := (hbel.out.cell (p := ⟨be, oe + t * 3, none⟩) hbe).trans e0
            have d2 := (hbel.out.cell (p := ⟨be, oe + t * 3 + 2, none⟩) hbe).trans e2
            have HXR := Lib.hid (HE.out x (List.mem_of_getElem? hx)).1
            have HXX := Lib.hid hx
            have z0 : (0 : Int) ≤ (t : Int) := by omega
            have z1 : (t : Int) < (k : Int) := by omega
            have HHA := Lib.hid (r4has_li _ out x.t wr HOV.out (by rw [← HLE.out]; omega))
            clear hce e0 e1 e2 hx hl2
            by_cases hin : x.t ∈ out
            · rw [decide_eq_true hin] at HHA
              have HP2 := Lib.hid (hpa.out.go HXX.out hin rfl HXR.out)
              have hne : out ≠ [] := by rintro rfl; cases hin
              have HAD := Lib.hid (r4add_li _ out x.f wr HOV.out hne (by rw [← HLE.out]; omega))
              clear hin hne hpa
              go_wp2_with fail
              refine HHA.out.mono ?_
              rintro e w5 ⟨rfl, rfl⟩
              go_wp2_with fail
              refine HAD.out.mono ?_
              rintro e w5 ⟨v5, rfl, hl5, hb5⟩
              have HB5 := Lib.hid (hbel.out.trans (hb5.mono hbel.out.size))
              have HX5 := Lib.hid (hbx.out.below hb5 (box_lt hbx.out))
              have HL5 := Lib.hid hl5
              clear hl5 hb5 q0 q1 q2 q3 d0 d2
              go_wp2_with fail
              go_roundw
              case rel => exact ⟨_, t + 1, by omega, by go_num, HP2, HL5, HB5, HX5⟩
              case measure => simp [intOf]; omega
            · rw [decide_eq_false hin] at HHA
              have HP2 := Lib.hid (hpa.out.skip HXX.out (fun h => hin h.1))
              clear hin hpa
              go_wp2_with fail
              refine HHA.out.mono ?_
              rintro e w5 ⟨rfl, rfl⟩
              go_wp2_with fail
              go_roundw
              case rel => exact ⟨out, t + 1, by omega, by go_num, HP2, HOV, hbel, hbx⟩
              case measure => simp [intOf]; omega
          · obtain rfl : k = t := by omega
            go_wp2_with fail
            go_roundw
            case rel => exact ⟨out, l, k, l, rfl, hpa, .inr ⟨rfl, rfl⟩, HOV, hbel, hbx⟩
            case measure => exact msr_lt hle2 hlS hzl
end Go.Proofs.Ytceldgcmjmfjfaa

/- Layer 4: From of the reference. -/
namespace Go.Proofs.Ytceldgcmjmfjfaa
open Go.RowKit Go.Sort Go.Maps

def okF (within ev : List Int) (x : Ed) : Bool := decide (x.t ∈ within) && decide (x.e ∈ ev)
set_option maxHeartbeats 8000000 in
set_option maxRecDepth 100000 in
theorem r4From_any (A : Option Addr) (n c : Nat) (s : Int) (M : Option Addr) (m d : Nat) (E : Option Addr) (k g : Nat) (a : Au) (S : Nat) (v1 v2 v3 : Value) (st wi ev : List Int) (w : World) (h : AuR w w.heap.size A n c s M m d E k g a) (hSb : S ≤ 4096) (h1 : LsI w v1 st) (h2 : LsI w v2 wi) (h3 : LsI w v3 ev) (l1 : st.length ≤ 100000) (l2 : wi.length ≤ 100000) (l3 : ev.length ≤ 100000) (hw : ∀ q ∈ wi, 0 ≤ q ∧ q < (S : Int)) :
    Calls Try.prog 52 #[.agg #[.slice A n c, .int .i64 s, .slice M m d, .slice E k g], v1, v2, v3] w fun e w' => ∃ v out, e = .returned v ∧ LsI w' v out ∧ Below w.heap.size w w' ∧ out.Pairwise (· < ·) ∧ (∀ q ∈ out, 0 ≤ q ∧ q < (S : Int)) ∧ ∀ q, q ∈ out ↔ Cl a.ed Ed.f Ed.t (okF wi ev) (fun q => q ∈ st ∧ q ∈ wi) q := by
  have HB1 := Lib.hid ((Below.refl w.heap.size w).alloc (Nat.le_refl _) (.cells #[.slice A n c, .int .i64 s, .slice M m d, .slice E k g] 30))
  have HX := Lib.hid (BoxA.made w A n c s M m d E k g 30)
  have HR := Lib.hid h
  have HK := Lib.hid h.hk
  have hbk := h.bk
  have H1 := Lib.hid h1
  have H2 := Lib.hid h2
  have H3 := Lib.hid h3
  have HWI := Lib.hid hw
  obtain ⟨A1, c1, rfl, hr1, hc1, ha1⟩ := h1
  have HR1 := Lib.hid hr1
  obtain ⟨n1, hn1⟩ : ∃ n1, n1 = st.length := ⟨_, rfl⟩
  rw [← hn1] at hc1 H1 l1 ⊢
  have HN1 := Lib.hid hn1
  have HF0 := Lib.hid (show FrI S a.ed Ed.f Ed.t (okF wi ev) (fun q => q ∈ st ∧ q ∈ wi) [] from ⟨List.Pairwise.nil, fun q hq => (by cases hq), fun q hq => (by cases hq)⟩)
  have HS0 := Lib.hid (show ∀ q ∈ st.take 0, q ∈ wi → q ∈ ([] : List Int) from fun q hq => by simp at hq)
  have HL0 := Lib.hid (LsE.nil (w.alloc (.cells #[.slice A n c, .int .i64 s, .slice M m d, .slice E k g] 30)))
  clear h h2 h3 hw hr1 ha1 hn1
  go_enter Try.func52, Try.ntmps52
  go_wp2_with fail
  go_loopw [9, 10] (fun v iv wr => ∃ (out : List Int) (t : Nat), t ≤ n1 ∧ iv = .int .i64 t ∧ Hid (FrI S a.ed Ed.f Ed.t (okF wi ev) (fun q => q ∈ st ∧ q ∈ wi) out) ∧ Hid (∀ q ∈ st.take t, q ∈ wi → q ∈ out) ∧ Hid (LsE wr v out) ∧ Hid (Below w.heap.size w wr) ∧ Hid (BoxA wr w.heap.size A n c s M m d E k g)) (fun _ iv _ => n1 - (intOf iv).toNat)
  case atStart => exact ⟨[], 0, Nat.zero_le _, rfl, HF0, HS0, HL0, HB1, HX⟩
  case round =>
    clear HF0 HS0 HL0 HB1 HX
    obtain ⟨out, t, ht, rfl, hfr, hsd, hls, hbel, hbx⟩ := hrel
    have hlS := hfr.out.len
    by_cases hlt : t < n1
    · obtain ⟨b1, o1, rfl, hb1, hcc⟩ := HR1.out (by rw [← HN1.out]; omega)
      have hz : t < st.length := by rw [← HN1.out]; exact hlt
      have e1 := (hbel.out.cell (p := ⟨b1, o1 + t, none⟩) hb1).trans (hcc t hz)
      obtain ⟨y, hy⟩ : ∃ y, y = st.getD t 0 := ⟨_, rfl⟩
      rw [← hy] at e1
      have z0 : (0 : Int) ≤ (t : Int) := by omega
      have z1 : (t : Int) < (n1 : Int) := by omega
      have HHW := Lib.hid (r4has_li v2 wi y wr (H2.out.below (hbel.out.mono (by exact Nat.le_refl _))) l2)
      have HTK := Lib.hid (show st.take (t + 1) = st.take t ++ [y] from by rw [hy]; exact getD_take hz)
      have HYM := Lib.hid (show y ∈ st from by rw [hy]; exact getD_mem hz)
      clear hcc hz hy
      by_cases hin : y ∈ wi
      · rw [decide_eq_true hin] at HHW
        have HF2 := Lib.hid (hfr.out.add (HWI.out y hin) (.base ⟨HYM.out, hin⟩))
        have HS2 := Lib.hid (show ∀ q ∈ st.take (t + 1), q ∈ wi → q ∈ insI y out from fun q hq h9 => by
          rw [HTK.out] at hq
          rcases List.mem_append.1 hq with hq | hq
          · exact mem_insI.2 (.inr (hsd.out q hq h9))
          · exact mem_insI.2 (.inl (List.mem_singleton.1 hq)))
        have HAD := Lib.hid (r4add_ls _ out y wr hls.out (by omega))
        clear hfr hsd hin
        go_wp2_with fail
        refine HHW.out.mono ?_
        rintro e w5 ⟨rfl, rfl⟩
        go_wp2_with fail
        refine HAD.out.mono ?_
        rintro e w5 ⟨v5, rfl, hl5, hb5⟩
        have HB5 := Lib.hid (hbel.out.trans (hb5.mono hbel.out.size))
        have HX5 := Lib.hid (hbx.out.below hb5 (box_lt hbx.out))
        have HL5 := Lib.hid hl5
        clear hl5 hb5
        go_wp2_with fail
        go_roundw
        case rel => exact ⟨_, t + 1, by omega, by go_num, HF2, HS2, HL5, HB5, HX5⟩
        case measure => simp [intOf]; omega
      · rw [decide_eq_false hin] at HHW
        have HS2 := Lib.hid (show ∀ q ∈ st.take (t + 1), q ∈ wi → q ∈ out from fun q hq h9 => by
          rw [HTK.out] at hq
          rcases List.mem_append.1 hq with hq | hq
          · exact hsd.out q hq h9
          · rw [List.mem_singleton.1 hq] at h9; exact absurd h9 hin)
        clear hsd hin
        go_wp2_with fail
        refine HHW.out.mono ?_
        rintro e w5 ⟨rfl, rfl⟩
        go_wp2_with fail
        go_roundw
        case rel => exact ⟨out, t + 1, by omega, by go_num, hfr, HS2, hls, hbel, hbx⟩
        case measure => simp [intOf]; omega
    · have HBS := Lib.hid (show ∀ q, (q ∈ st ∧ q ∈ wi) → q ∈ out from fun q hq => hsd.out q (by rw [List.take_of_length_le (by rw [← HN1.out]; omega)]; exact hq.1) hq.2)
      have HPA := Lib.hid (show PaI S a.ed Ed.f Ed.t (okF wi ev) (fun q => q ∈ st ∧ q ∈ wi) 0 0 out from ⟨hfr.out, HBS.out, Nat.zero_le _, fun _ => fun x hx => by simp at hx⟩)
      clear hfr hsd HBS
      obtain ⟨lh, he⟩ := hls.out
      have HE := Lib.hid he
      have HLH := Lib.hid lh
      clear hls lh he
      go_wp2_with fail
      go_loopw [9, 11, 12, 13] (fun v nv _ _ wr => ∃ (out : List Int) (n0 t : Nat) (z : Int), nv = .int .i64 z ∧ Hid (PaI S a.ed Ed.f Ed.t (okF wi ev) (fun q => q ∈ st ∧ q ∈ wi) n0 t out) ∧ (z = -1 ∨ (z = (n0 : Int) ∧ t = k)) ∧ Hid (LsE wr v out) ∧ Hid (Below w.heap.size w wr) ∧ Hid (BoxA wr w.heap.size A n c s M m d E k g)) (fun v nv _ _ _ => msr S v nv)
      case atStart => exact ⟨out, 0, 0, -1, rfl, HPA, .inl rfl, Lib.hid ⟨HLH.out, HE.out⟩, hbel, hbx⟩
      case round =>
        clear HPA HLH HE hbel hbx hlS out
        obtain ⟨out, n0, t, z, rfl, hpa, hz, hls, hbel, hbx⟩ := hrel
        have hlS := hpa.out.fr.len
        have HLS := hls
        obtain ⟨Ao, co, rfl, hro, hco, hao⟩ := hls.out.1
        clear hls hro hao
        obtain ⟨l, hl⟩ : ∃ l, l = out.length := ⟨_, rfl⟩
        rw [← hl] at hlS hco HLS ⊢
        have HLE := Lib.hid hl
        by_cases hzl : z = (l : Int)
        · have hbz : (z != (l : Int)) = false := by simp [hzl]
          have hcl : Clo a.ed Ed.f Ed.t (okF wi ev) out := by
            rcases hz with hz | ⟨hz, ht⟩
            · omega
            · have := hpa.out.cl (by omega)
              rwa [ht, List.take_of_length_le (by rw [HK.out]; exact Nat.le_refl _)] at this
          have HCL := Lib.hid hcl
          clear hcl hl hz
          subst hzl
          go_wp2_with fail
          go_ret
          exact ⟨_, out, rfl, HLS.out.1, hbel.out, hpa.out.fr.up, hpa.out.fr.rg, cl_iff hpa.out.fr hpa.out.bs HCL.out⟩
        · have hbz : (z != (l : Int)) = true := by simp [hzl]
          have HP0 := Lib.hid (show PaI S a.ed Ed.f Ed.t (okF wi ev) (fun q => q ∈ st ∧ q ∈ wi) l 0 out from ⟨hpa.out.fr, hpa.out.bs, by omega, fun _ => fun x hx => by simp at hx⟩)
          have HBX := hbx
          obtain ⟨q0, q1, q2, q3⟩ := hbx.out
          clear hl hz hpa hbx
          go_wp2_with fail
          go_loopw [9, 12, 13] (fun v iv _ wr => ∃ (out : List Int) (t : Nat), t ≤ k ∧ iv = .int .i64 t ∧ Hid (PaI S a.ed Ed.f Ed.t (okF wi ev) (fun q => q ∈ st ∧ q ∈ wi) l t out) ∧ Hid (LsE wr v out) ∧ Hid (Below w.heap.size w wr) ∧ Hid (BoxA wr w.heap.size A n c s M m d E k g)) (fun _ iv _ _ => k - (intOf iv).toNat)
          case atStart => exact ⟨out, 0, Nat.zero_le _, rfl, HP0, HLS, hbel, HBX⟩
          case round =>
            clear HP0 HLS hbel HBX q0 q1 q2 q3 hlS HLE out
            obtain ⟨out, t, ht, rfl, hpa, hls, hbel, hbx⟩ := hrel
            have hlS := hpa.out.fr.len
            have HOV := hls
            obtain ⟨Ao, co, rfl, hro, hco, hao⟩ := hls.out.1
            clear hls hro hao
            obtain ⟨l2', hl2⟩ : ∃ l2, l2 = out.length := ⟨_, rfl⟩
            have hle2 := hpa.out.le
            rw [← hl2] at hlS hco HOV hle2 ⊢
            have HLE := Lib.hid hl2
            obtain ⟨q0, q1, q2, q3⟩ := hbx.out
            by_cases hlt : t < k
            · obtain ⟨be, oe, rfl, hbe, hce⟩ := HR.out.ed (by rw [HK.out]; omega)
              obtain ⟨x, hx⟩ : ∃ x, a.ed[t]? = some x := ⟨_, List.getElem?_eq_getElem (by rw [HK.out]; exact hlt)⟩
              obtain ⟨e0, e1, e2⟩ := hce t x hx
              have d0 := (hbel.out.cell (p := ⟨be, oe + t * 3, none⟩) hbe).trans e0
              have d1 := (hbel.out.cell (p := ⟨be, oe + t * 3 + 1, none⟩) hbe).trans e1
              have d2 := (hbel.out.cell (p := ⟨be, oe + t * 3 + 2, none⟩) hbe).trans e2
              have HXX := Lib.hid hx
              have z0 : (0 : Int) ≤ (t : Int) := by omega
              have z1 : (t : Int) < (k : Int) := by omega
              obtain ⟨Wx, hWx⟩ : ∃ W, W = wr.alloc (.cells #[.int .i64 x.f, .int .i64 x.e, .int .i64 x.t] 70) := ⟨_, rfl⟩
              obtain ⟨Bx, hBx⟩ : ∃ g, g = wr.heap.size := ⟨_, rfl⟩
              have hbw : Below wr.heap.size wr Wx := by rw [hWx]; exact (Below.refl _ _).alloc (Nat.le_refl _) _
              have HBX := Lib.hid (show Row Wx Bx 70 [.int .i64 x.f, .int .i64 x.e, .int .i64 x.t] from by rw [hWx, hBx]; exact Row.new _ _ _)
              have HBL := Lib.hid (hbel.out.trans (hbw.mono hbel.out.size))
              have HXB := Lib.hid (hbx.out.below hbw (box_lt hbx.out))
              have HOW := Lib.hid (HOV.out.below hbw)
              have HH1 := Lib.hid (r4has_li _ out x.f Wx HOW.out.1 (by rw [← HLE.out]; omega))
              have HH2 := Lib.hid (r4has_li _ wi x.t Wx (H2.out.below HBL.out) l2)
              have HH3 := Lib.hid (r4has_li _ ev x.e Wx (H3.out.below HBL.out) l3)
              have b0 := HBX.out.cell 0 rfl
              have b1 := HBX.out.cell 1 rfl
              have b2 := HBX.out.cell 2 rfl
              have HWX := Lib.hid hWx
              have HBXE := Lib.hid hBx
              obtain ⟨xf, hxf⟩ : ∃ y, y = x.f := ⟨_, rfl⟩
              obtain ⟨xe, hxe⟩ : ∃ y, y = x.e := ⟨_, rfl⟩
              obtain ⟨xt, hxt⟩ : ∃ y, y = x.t := ⟨_, rfl⟩
              have HXF := Lib.hid hxf
              have HXE := Lib.hid hxe
              have HXT := Lib.hid hxt
              have HAD := Lib.hid (r4add_ls _ out x.t Wx HOW.out (by rw [← HLE.out]; omega))
              rw [← hxf] at HWX HBX HH1 d0 b0
              rw [← hxe] at HWX HBX HH3 d1 b1
              rw [← hxt] at HWX HBX HH2 HAD d2 b2
              clear hce e0 e1 e2 hx hl2 hWx hBx hbw hxf hxe hxt
              go_upto_region 14 with fail
              rw [← HWX.out, ← HBXE.out]
              by_cases g1 : xf ∈ out
              · rw [decide_eq_true g1] at HH1
                by_cases g2 : xt ∈ wi
                · rw [decide_eq_true g2] at HH2
                  by_cases g3 : xe ∈ ev
                  · rw [decide_eq_true g3] at HH3
                    have HP2 := Lib.hid (hpa.out.go HXX.out (by rw [← HXF.out]; exact g1) (by unfold okF; rw [← HXT.out, ← HXE.out, decide_eq_true g2, decide_eq_true g3]; rfl) (by rw [← HXT.out]; exact HWI.out _ g2))
                    rw [← HXT.out] at HP2
                    clear g1 g2 g3 hpa
                    go_wp2_with fail
                    refine HH1.out.mono ?_
                    rintro e w5 ⟨rfl, rfl⟩
                    go_wp2_with fail
                    refine HH2.out.mono ?_
                    rintro e w5 ⟨rfl, rfl⟩
                    go_wp2_with fail
                    refine HH3.out.mono ?_
                    rintro e w5 ⟨rfl, rfl⟩
                    go_wp2_with fail
                    refine HAD.out.mono ?_
                    rintro e w5 ⟨v5, rfl, hl5, hb5⟩
                    have HB5 := Lib.hid (HBL.out.trans (hb5.mono HBL.out.size))
                    have HX5 := Lib.hid (HXB.out.below hb5 (box_lt HXB.out))
                    have HL5 := Lib.hid hl5
                    clear hl5 hb5 q0 q1 q2 q3 d0 d1 d2 b0 b1 b2
                    go_wp2_with fail
                    go_roundw
                    case rel => exact ⟨_, t + 1, by omega, by go_num, HP2, HL5, HB5, HX5⟩
                    case measure => simp [intOf]; omega
                  · rw [decide_eq_false g3] at HH3
                    have HP2 := Lib.hid (hpa.out.skip HXX.out (fun h => by have := h.2; unfold okF at this; rw [← HXE.out, decide_eq_false g3, Bool.and_false] at this; cases this))
                    clear g1 g2 g3 hpa
                    go_wp2_with fail
                    refine HH1.out.mono ?_
                    rintro e w5 ⟨rfl, rfl⟩
                    go_wp2_with fail
                    refine HH2.out.mono ?_
                    rintro e w5 ⟨rfl, rfl⟩
                    go_wp2_with fail
                    refine HH3.out.mono ?_
                    rintro e w5 ⟨rfl, rfl⟩
                    go_wp2_with fail
                    go_roundw
                    case rel => exact ⟨out, t + 1, by omega, by go_num, HP2, HOW, HBL, HXB⟩
                    case measure => simp [intOf]; omega
                · rw [decide_eq_false g2] at HH2
                  have HP2 := Lib.hid (hpa.out.skip HXX.out (fun h => by have := h.2; unfold okF at this; rw [← HXT.out, decide_eq_false g2, Bool.false_and] at this; cases this))
                  clear g1 g2 hpa
                  go_wp2_with fail
                  refine HH1.out.mono ?_
                  rintro e w5 ⟨rfl, rfl⟩
                  go_wp2_with fail
                  refine HH2.out.mono ?_
                  rintro e w5 ⟨rfl, rfl⟩
                  go_wp2_with fail
                  go_roundw
                  case rel => exact ⟨out, t + 1, by omega, by go_num, HP2, HOW, HBL, HXB⟩
                  case measure => simp [intOf]; omega
              · rw [decide_eq_false g1] at HH1
                have HP2 := Lib.hid (hpa.out.skip HXX.out (fun h => g1 (by rw [HXF.out]; exact h.1)))
                clear g1 hpa
                go_wp2_with fail
                refine HH1.out.mono ?_
                rintro e w5 ⟨rfl, rfl⟩
                go_wp2_with fail
                go_roundw
                case rel => exact ⟨out, t + 1, by omega, by go_num, HP2, HOW, HBL, HXB⟩
                case measure => simp [intOf]; omega
            · obtain rfl : k = t := by omega
              go_wp2_with fail
              go_roundw
              case rel => exact ⟨out, l, k, l, rfl, hpa, .inr ⟨rfl, rfl⟩, HOV, hbel, hbx⟩
              case measure => exact msr_lt hle2 hlS hzl
end Go.Proofs.Ytceldgcmjmfjfaa

/- Layer 4: Reachable of the reference. -/
namespace Go.Proofs.Ytceldgcmjmfjfaa
open Go.RowKit Go.Sort Go.Maps

theorem lsI_row {W : World} {b : Nat} {x : Int} (h : Row W b 3 [.int .i64 x]) : LsI W (.slice (some ⟨b, 0, none⟩) 1 1) [x] :=
  ⟨_, 1, rfl, Row.rd (zs := [x]) h, ⟨by simp, by omega⟩, fun e => by cases e⟩
theorem lsI_al {w : World} {A : Option Addr} {n c : Nat} {zs : List Int} (h : RdI w w.heap.size A zs) (hn : zs.length = n) (hc : n ≤ c ∧ c ≤ 9223372036854775807) (hA : A = none → c = 0) : LsI w (.slice A n c) zs := by
  subst hn; exact ⟨A, c, rfl, h, hc, hA⟩
set_option maxHeartbeats 8000000 in
set_option maxRecDepth 100000 in
theorem r4Re_any (A : Option Addr) (n c : Nat) (s : Int) (M : Option Addr) (m d : Nat) (E : Option Addr) (k g : Nat) (a : Au) (S : Nat) (w : World) (h : AuR w w.heap.size A n c s M m d E k g a) (hS : s = (S : Int)) (hS1 : 1 ≤ S) (hSb : S ≤ 4096) (hA : A = none → c = 0) :
    Calls Try.prog 17 #[.agg #[.slice A n c, .int .i64 s, .slice M m d, .slice E k g]] w fun e w' => ∃ v out, e = .returned v ∧ LsI w' v out ∧ Below w.heap.size w w' ∧ out.Pairwise (· < ·) ∧ (∀ q ∈ out, 0 ≤ q ∧ q < (S : Int)) ∧ ∀ q, q ∈ out ↔ Cl a.ed Ed.f Ed.t (okF (rngF S fun _ => true) a.al) (fun q => q ∈ [(0 : Int)] ∧ q ∈ rngF S fun _ => true) q := by
  subst hS
  have hb1 := (Below.refl w.heap.size w).alloc (Nat.le_refl _) (.cells #[.slice A n c, .int .i64 (S : Int), .slice M m d, .slice E k g] 30)
  have HB1 := Lib.hid hb1
  have HB1d := Lib.hid HB1.out.drew
  have HX := Lib.hid (BoxA.made w A n c (S : Int) M m d E k g 30)
  have HWR := Lib.hid (show ∀ q ∈ rngF S fun _ => true, 0 ≤ q ∧ q < (S : Int) from fun q hq => by obtain ⟨j, hj, _, rfl⟩ := mem_rngF.1 hq; omega)
  have hwl := rngF_len S (fun _ => true)
  have HFR := Lib.hid (fun W b v2 (hW : Below w.heap.size w W) (hr : Row W b 3 [.int .i64 0]) (h2 : LsI W v2 (rngF S fun _ => true)) => r4From_any A n c (S : Int) M m d E k g a S (.slice (some ⟨b, 0, none⟩) 1 1) v2 (.slice A n c) [0] (rngF S fun _ => true) a.al W ((h.below hW (Nat.le_refl _)).more hW.size) hSb (lsI_row hr) h2 (lsI_al ((h.al.below hW (Nat.le_refl _)).more hW.size) h.hn h.cn hA) (by simp) (by omega) (by rw [h.hn]; exact h.bn) HWR.out)
  have HAL := Lib.hid (fun W => r4All_any S W (by omega))
  have HRF0 := Lib.hid (show Row ((w.alloc (.cells #[.slice A n c, .int .i64 (S : Int), .slice M m d, .slice E k g] 30)).alloc (.cells #[.int .i64 0] 3)) (w.heap.size + 1) 3 [.int .i64 0] from Row.newE _ [.int .i64 0] _ (by simp))
  have HRF1 := Lib.hid (show Row ((w.alloc (.cells #[.slice A n c, .int .i64 (S : Int), .slice M m d, .slice E k g] 30)).alloc (.cells #[.int .i64 0] 3)).drew (w.heap.size + 1) 3 [.int .i64 0] from HRF0.out)
  have hs0 : ((S : Int) == 0) = false := by simp; omega
  obtain ⟨p0, p1, p2, p3⟩ := HX.out
  clear h hb1
  go_enter Try.func17, Try.ntmps17
  go_wp2_with fail
  go_region_held3 (fun w' => w'.cell? ⟨w.heap.size, 0, none⟩ = some (.slice A n c) ∧ w'.cell? ⟨w.heap.size, 1, none⟩ = some (.int .i64 (S : Int)) ∧ w'.cell? ⟨w.heap.size, 2, none⟩ = some (.slice M m d) ∧ w'.cell? ⟨w.heap.size, 3, none⟩ = some (.slice E k g)) (first | with_reducible exact ⟨p0, p1, p2, p3⟩ | go_keep)
    (first
    | (go_simp; go_at_call 39; (with_reducible refine (HAL.out _).mono ?_); rintro e w2 ⟨vw, rfl, how, hb2⟩
       have HB2 := Lib.hid (show Below w.heap.size w w2 by first | exact HB1.out.trans (hb2.mono HB1.out.size) | exact HB1d.out.trans (hb2.mono HB1d.out.size) | exact (HB1d.out.alloc HB1d.out.size _).trans (hb2.mono (HB1d.out.alloc HB1d.out.size _).size) | exact (HB1d.out.alloc HB1d.out.size _).drew.trans (hb2.mono (HB1d.out.alloc HB1d.out.size _).drew.size))
       have HX2 := Lib.hid (show BoxA w2 w.heap.size A n c (S : Int) M m d E k g by first | exact HX.out.below hb2 (by simp) | exact (HX.out.drewN 1).below hb2 (by simp) | exact ((HX.out.drewN 1).allocG (by simp) _).below hb2 (by simp; omega))
       have hsz2 : w.heap.size < w2.heap.size := by have h9 := hb2.size; simp at h9; omega
       have HLW := Lib.hid (LsI.own how)
       have HBK := Lib.hid hb2
       obtain ⟨p0, p1, p2, p3⟩ := HX2.out
       clear hb2 how)
    | (go_simp; go_at_call 52; (with_reducible refine (HFR.out _ _ _ (by first | exact HB2.out | exact HB2.out.drew | exact HB2.out.alloc HB2.out.size _ | exact HB2.out.drew.alloc HB2.out.drew.size _ | exact (HB2.out.alloc HB2.out.size _).drew | exact (HB2.out.drew.alloc HB2.out.drew.size _).drew) (by first | exact Row.new _ [_] _ | exact HRF0.out.below HBK.out (by simp) | exact HRF1.out.below HBK.out (by simp)) (by first | exact HLW.out | exact HLW.out.below ((Below.refl _ _).alloc (Nat.le_refl _) _))).mono ?_); rintro e w3 ⟨vr, out, rfl, hlr, hb3', hc1, hc2, hc3⟩
       have HB3 := Lib.hid (show Below w.heap.size w w3 by first | exact HB2.out.trans (hb3'.mono HB2.out.size) | exact HB2.out.drew.trans (hb3'.mono HB2.out.drew.size) | exact (HB2.out.alloc HB2.out.size _).trans (hb3'.mono (HB2.out.alloc HB2.out.size _).size) | exact (HB2.out.drew.alloc HB2.out.drew.size _).trans (hb3'.mono (HB2.out.drew.alloc HB2.out.drew.size _).size) | exact (HB2.out.alloc HB2.out.size _).drew.trans (hb3'.mono (HB2.out.alloc HB2.out.size _).drew.size))
       have HX3 := Lib.hid (show BoxA w3 w.heap.size A n c (S : Int) M m d E k g by first | exact HX2.out.below hb3' hsz2 | exact (HX2.out.drewN 1).below hb3' hsz2 | exact (HX2.out.allocG hsz2 _).below hb3' (by simp; omega) | exact ((HX2.out.drewN 1).allocG hsz2 _).below hb3' (by simp; omega))
       obtain ⟨p0, p1, p2, p3⟩ := HX3.out
       have HC := Lib.hid (And.intro hlr (And.intro hc1 (And.intro hc2 hc3)))
       clear hlr hb3' hc1 hc2 hc3))
  all_goals
    go_wp2_with fail
    go_ret
    exact ⟨_, out, rfl, HC.out.1, HB3.out, HC.out.2.1, HC.out.2.2.1, HC.out.2.2.2⟩
end Go.Proofs.Ytceldgcmjmfjfaa

/- Layer 4: Dead of the reference. -/
namespace Go.Proofs.Ytceldgcmjmfjfaa
open Go.RowKit Go.Sort Go.Maps

def allD (q : Int) (l : List Ed) : Bool := l.all fun x => decide (x.f ≠ q)
theorem allD_snoc (q : Int) (l : List Ed) (x : Ed) : allD q (l ++ [x]) = (allD q l && decide (x.f ≠ q)) := by simp [allD]
theorem allD_nd (es : List Ed) (q : Nat) : allD (q : Int) es = ndF es q := by
  unfold allD ndF
  rw [Bool.eq_iff_iff]
  simp only [List.all_eq_true, decide_eq_true_eq]
  constructor
  · intro h
    apply Nat.eq_zero_of_not_pos
    intro h0
    obtain ⟨x, hx⟩ := List.exists_mem_of_length_pos h0
    have := mem_succ.1 hx
    exact h x this.1 this.2
  · intro h x hx e
    have : x ∈ succ es (q : Int) := mem_succ.2 ⟨hx, e⟩
    rw [List.eq_nil_of_length_eq_zero h] at this; cases this
set_option maxHeartbeats 8000000 in
set_option maxRecDepth 100000 in
theorem r4De_any (A : Option Addr) (n c : Nat) (s : Int) (M : Option Addr) (m d : Nat) (E : Option Addr) (k g : Nat) (a : Au) (S : Nat) (w : World) (h : AuR w w.heap.size A n c s M m d E k g a) (hS : s = (S : Int)) (hSb : S ≤ 4096) :
    Calls Try.prog 19 #[.agg #[.slice A n c, .int .i64 s, .slice M m d, .slice E k g]] w fun e w' => ∃ v, e = .returned v ∧ Own w' w.heap.size v (rngF S (ndF a.ed)) ∧ Below w.heap.size w w' := by
  subst hS
  have HB1 := Lib.hid ((Below.refl w.heap.size w).alloc (Nat.le_refl _) (.cells #[.slice A n c, .int .i64 (S : Int), .slice M m d, .slice E k g] 30))
  have HX := Lib.hid (BoxA.made w A n c (S : Int) M m d E k g 30)
  obtain ⟨iI, iI0, iI1, iI2, iI3⟩ := info_parts info_int
  have HR := Lib.hid h
  have HK := Lib.hid h.hk
  have hbk := h.bk
  have HO0 := Lib.hid (show Own (w.alloc (.cells #[.slice A n c, .int .i64 (S : Int), .slice M m d, .slice E k g] 30)) (w.heap.size + 1) (.slice none 0 0) (rngF 0 (ndF a.ed)) from World.ownsRow_nil _ _ _ _)
  clear h
  go_enter Try.func19, Try.ntmps19
  go_wp2_with fail
  go_loopw [3, 4, 5, 6] (fun v iv _ _ wr => ∃ t : Nat, t ≤ S ∧ iv = .int .i64 t ∧ Hid (Own wr (w.heap.size + 1) v (rngF t (ndF a.ed))) ∧ Hid (Below w.heap.size w wr) ∧ Hid (BoxA wr w.heap.size A n c (S : Int) M m d E k g)) (fun _ iv _ _ _ => S - (intOf iv).toNat)
  case atStart => exact ⟨0, Nat.zero_le _, rfl, HO0, HB1, HX⟩
  case round =>
    clear HO0 HB1 HX
    obtain ⟨t, ht, rfl, hown, hbel, hbx⟩ := hrel
    obtain ⟨q0, q1, q2, q3⟩ := hbx.out
    by_cases hlt : t < S
    · have z0 : (0 : Int) ≤ (t : Int) := by omega
      have z1 : (t : Int) < (S : Int) := by omega
      have HD0 := Lib.hid (show true = allD (t : Int) (a.ed.take 0) from rfl)
      go_wp2_with fail
      go_loopw [5, 6] (fun b iv wq => ∃ j : Nat, j ≤ k ∧ iv = .int .i64 j ∧ wq = wr ∧ ∃ u, b = .bool u ∧ Hid (u = allD (t : Int) (a.ed.take j))) (fun _ iv _ => k - (intOf iv).toNat)
      case atStart => exact ⟨0, Nat.zero_le _, rfl, rfl, true, rfl, HD0⟩
      case round =>
        clear HD0
        obtain ⟨j, hj, rfl, rfl, u, rfl, hu⟩ := hrel
        by_cases hjk : j < k
        · obtain ⟨be, oe, rfl, hbe, hce⟩ := HR.out.ed (by rw [HK.out]; omega)
          obtain ⟨x, hx⟩ : ∃ x, a.ed[j]? = some x := ⟨_, List.getElem?_eq_getElem (by rw [HK.out]; exact hjk)⟩
          obtain ⟨e0, e1, e2⟩ := hce j x hx
          have d0 := (hbel.out.cell (p := ⟨be, oe + j * 3, none⟩) hbe).trans e0
          have y0 : (0 : Int) ≤ (j : Int) := by omega
          have y1 : (j : Int) < (k : Int) := by omega
          have HTK := Lib.hid (show allD (t : Int) (a.ed.take (j + 1)) = (u && decide (x.f ≠ (t : Int))) from by rw [List.take_add_one, hx, hu.out]; exact allD_snoc _ _ _)
          obtain ⟨xf, hxf⟩ : ∃ y, y = x.f := ⟨_, rfl⟩
          rw [← hxf] at d0 HTK
          clear hce e0 e1 e2 hx hxf hu
          cases u
          · have HU := Lib.hid (show false = allD (t : Int) (a.ed.take (j + 1)) from by rw [HTK.out]; rfl)
            clear HTK
            go_wp2_with fail
            go_roundw
            case rel => exact ⟨j + 1, by omega, by go_num, by trivial, false, rfl, HU⟩
            case measure => simp [intOf]; omega
          · by_cases hxt : xf = (t : Int)
            · have HU := Lib.hid (show false = allD (t : Int) (a.ed.take (j + 1)) from by rw [HTK.out]; simp [hxt])
              have hb9 : (xf != (t : Int)) = false := by simp [hxt]
              clear HTK hxt
              go_wp2_with fail
              go_roundw
              case rel => exact ⟨j + 1, by omega, by go_num, by trivial, false, rfl, HU⟩
              case measure => simp [intOf]; omega
            · have HU := Lib.hid (show true = allD (t : Int) (a.ed.take (j + 1)) from by rw [HTK.out]; simp [hxt])
              have hb9 : (xf != (t : Int)) = true := by simp [hxt]
              clear HTK hxt
              go_wp2_with fail
              go_roundw
              case rel => exact ⟨j + 1, by omega, by go_num, by trivial, true, rfl, HU⟩
              case measure => simp [intOf]; omega
        · obtain rfl : k = j := by omega
          have HND := Lib.hid (show u = ndF a.ed t from by
            rw [hu.out, List.take_of_length_le (by rw [HK.out]; exact Nat.le_refl _)]; exact allD_nd _ _)
          have hll := rngF_len t (ndF a.ed)
          obtain ⟨L, hL⟩ : ∃ L, L = (rngF t (ndF a.ed)).length := ⟨_, rfl⟩
          rw [← hL] at hll
          have HL := Lib.hid hL
          have hz := hbel.out.size
          have hO := hown.out
          unfold Own at hO
          rw [← hL] at hO
          have HOL := Lib.hid hO
          clear hL hO hu
          cases u
          · go_wp2_with fail
            go_roundw
            case rel => exact ⟨t + 1, by omega, by go_num, Lib.hid (by rw [rngF_no HND.out.symm]; exact hown.out), hbel, hbx⟩
            case measure => simp [intOf]; omega
          · go_wp2_with (at_builtin; refine wpList_append_own_at _ rfl _ _ 27 rfl (w.heap.size + 1) 3 iI (.int .i64 0) 1 8 Try.underlying27 iI0 iI1 iI2 iI3 rfl (by decide) _ L ((rngF t (ndF a.ed)).map (Value.int .i64)) rfl (HOL.out.alloc _) ⟨wr.heap.size, 0, none⟩ 1 1 [.int .i64 (t : Int)] rfl rfl (news_one rfl) (by intro u hu; simp at hu; subst hu; rfl) (by unfold maxLen; omega) (by omega) (by have := box_lt hbx.out; simp; omega) ?_)
            intro v6 w6 hown6 hgrow6 _ _
            have hO6 := Lib.hid (show Own w6 (w.heap.size + 1) v6 (rngF (t + 1) (ndF a.ed)) by rw [rngF_yes HND.out.symm]; unfold Own; rw [List.length_append, List.map_append, ← HL.out]; exact hown6)
            have hB6 := Lib.hid ((hbel.out.alloc hz (.cells #[.int .i64 (t : Int)] 3)).grown hgrow6 (by simp; omega) (fun i hi => by have := (HOL.out.lt i hi).1; omega))
            have hX6 := Lib.hid ((hbx.out.allocG (box_lt hbx.out) (.cells #[.int .i64 (t : Int)] 3)).below ((Below.refl (w.heap.size + 1) _).grown hgrow6 (by have := box_lt hbx.out; simp; omega) (fun i hi => (HOL.out.lt i hi).1)) (by omega))
            clear hown6 hgrow6
            go_wp2_with fail
            go_roundw
            case rel => exact ⟨t + 1, by omega, by go_num, hO6, hB6, hX6⟩
            case measure => simp [intOf]; omega
    · obtain rfl : S = t := by omega
      go_wp2_with fail
      go_ret
      exact ⟨_, rfl, own_moreG hown.out (by omega), hbel.out⟩
end Go.Proofs.Ytceldgcmjmfjfaa

/- Layer 4: Make of the law. -/
namespace Go.Proofs.Ytceldgcmjmfjfaa
open Go.RowKit Go.Sort Go.Maps

/-- Some events below n, in increasing order. -/
structure Ev5 (n : Int) (zs : List Int) : Prop where
  r : ∀ x ∈ zs, 0 ≤ x ∧ x < n
  o : zs.Pairwise (· < ·)
theorem Ev5.nil (n : Int) : Ev5 n [] := ⟨by simp, List.Pairwise.nil⟩
theorem Ev5.more {n : Int} {zs : List Int} (h : Ev5 n zs) : Ev5 (n + 1) zs := ⟨fun x hx => by have := h.r x hx; omega, h.o⟩
theorem Ev5.snoc {n : Int} {zs : List Int} (h : Ev5 n zs) (h0 : 0 ≤ n) : Ev5 (n + 1) (zs ++ [n]) :=
  ⟨fun x hx => by
    rcases List.mem_append.1 hx with hx | hx
    · have := h.r x hx; omega
    · simp at hx; subst hx; omega,
   List.pairwise_append.2 ⟨h.o, by simp, fun x hx y hy => by simp at hy; subst hy; exact (h.r x hx).2⟩⟩
theorem Ev5.len {n : Nat} {zs : List Int} (h : Ev5 (n : Int) zs) : zs.length ≤ n := nodup_len (lt_nodup h.o) h.r

/-- The edges that are made: those of the states before t, and those of t by the first k events. -/
structure EdI (S : Nat) (al : List Int) (t k : Nat) (es : List Ed) : Prop where
  r : ∀ x ∈ es, 0 ≤ x.f ∧ (x.f < (t : Int) ∨ x.f = (t : Int) ∧ x.e ∈ al.take k) ∧ 0 ≤ x.t ∧ x.t < (S : Int) ∧ x.e ∈ al
  o : es.Pairwise ltE
  l : es.length ≤ t * 5 + k
theorem EdI.nil (S : Nat) (al : List Int) : EdI S al 0 0 [] := ⟨by simp, List.Pairwise.nil, by simp⟩
theorem EdI.more {S : Nat} {al : List Int} {t k : Nat} {es : List Ed} (h : EdI S al t k es) (hk : k < al.length) : EdI S al t (k + 1) es :=
  ⟨fun x hx => by
    obtain ⟨h1, h2, h3⟩ := h.r x hx
    refine ⟨h1, h2.imp id fun h => ⟨h.1, (mem_snoc_take hk).2 (.inl h.2)⟩, h3⟩, h.o, by have := h.l; omega⟩
theorem EdI.snoc {S : Nat} {al : List Int} {t k : Nat} {es : List Ed} (h : EdI S al t k es) (hk : k < al.length) (ho : al.Pairwise (· < ·)) {u : Int} (h0 : 0 ≤ u) (h1 : u < (S : Int)) : EdI S al t (k + 1) (es ++ [⟨(t : Int), al.getD k 0, u⟩]) :=
  ⟨fun x hx => by
    rcases List.mem_append.1 hx with hx | hx
    · exact (h.more hk).r x hx
    · rw [List.mem_singleton] at hx; subst hx
      exact ⟨by simp, .inr ⟨rfl, (mem_snoc_take hk).2 (.inr rfl)⟩, h0, h1, getD_mem hk⟩,
   List.pairwise_append.2 ⟨h.o, by simp, fun x hx y hy => by
    rw [List.mem_singleton] at hy; subst hy
    rcases (h.r x hx).2.1 with h2 | ⟨h2, h3⟩
    · exact .inl h2
    · refine .inr ⟨h2, ?_⟩
      obtain ⟨i, hi, he⟩ := mem_getD h3
      rw [List.length_take] at hi
      have h4 := up_of ho i k (by omega) hk
      have h5 : (al.take k).getD i 0 = al.getD i 0 := by simp [List.getD, show i < k by omega]
      show x.e < al.getD k 0
      rw [← he, h5]; exact h4⟩, by have := h.l; rw [List.length_append]; simp; omega⟩
theorem EdI.next {S : Nat} {al : List Int} {t k : Nat} {es : List Ed} (h : EdI S al t k es) (hk : k ≤ 5) : EdI S al (t + 1) 0 es :=
  ⟨fun x hx => by
    obtain ⟨h1, h2, h3⟩ := h.r x hx
    exact ⟨h1, .inl (by rcases h2 with h2 | h2 <;> omega), h3⟩, h.o, by have := h.l; omega⟩
theorem int_app4 {w : World} {b1 l : Nat} {v : Value} {K : List Int} {x : Int} (hl : l = K.length) (hown : w.ownsRow b1 3 1 v (l + 1) (K.map (Value.int .i64) ++ [.int .i64 x])) : ∃ A c, v = .slice A (l + 1) c ∧ Own w b1 v (K ++ [x]) := by
  subst hl
  have h : Own w b1 v (K ++ [x]) := by simpa [Own] using hown
  obtain ⟨A, c, e, _, _, _⟩ := own_rdc h
  exact ⟨A, c, by simpa using e, h⟩
theorem ed_app4 {w : World} {b1 l : Nat} {v : Value} {K : List Ed} {x : Ed} (hl : l = K.length) (hown : w.ownsRow b1 70 3 v (l + 1) (encE K ++ [.int .i64 x.f, .int .i64 x.e, .int .i64 x.t])) : ∃ A c, v = .slice A (l + 1) c ∧ OwnE w b1 v (K ++ [x]) := by
  subst hl
  have h : OwnE w b1 v (K ++ [x]) := by unfold OwnE; rw [encE_app, List.length_append]; exact hown
  obtain ⟨A, c, e, _, _, _⟩ := ownE_rd h
  exact ⟨A, c, by simpa using e, h⟩

/-- The cells of a description. -/
structure SmC (cs : Array Value) : Prop where
  sz : cs.size = 26
  ce : ∀ i : Nat, i < 26 → ∃ x : Int, cs[i]? = some (.int .u8 x) ∧ 0 ≤ x ∧ x < 256
def al4 : List Int := [0, 1, 2, 3]
/-- What Make hands back. -/
structure OkM4 (S : Nat) (a : Au) : Prop where
  r : Right a
  al : a.al = al4
  st : a.st = (S : Int)
  s1 : 1 ≤ S
  s6 : S ≤ 6
def MkG4 (w : World) (e : Ending) (w' : World) : Prop := ∃ (S : Nat) (a : Au) (A : Option Addr) (c : Nat) (M : Option Addr) (m d : Nat) (E : Option Addr) (k g : Nat), OkM4 S a ∧ e = .returned (.agg #[.slice A 4 c, .int .i64 (S : Int), .slice M m d, .slice E k g]) ∧ AuR w' w'.heap.size A 4 c (S : Int) M m d E k g a ∧ (A = none → c = 0) ∧ (M = none → m = 0 ∧ d = 0) ∧ Below w.heap.size w w'
theorem own_nil {w : World} {B n c m : Nat} {A : Option Addr} {xs : List Value} {e : TypeId} {sz : Nat} (h : w.ownsRow B e sz (.slice A n c) m xs) (hA : A = none) : n = 0 ∧ c = 0 := by
  subst hA
  rcases h.2 with ⟨e, h0⟩ | ⟨g, cap, cur, e, _⟩
  · injection e with e1 e2 e3; exact ⟨e2, e3⟩
  · injection e with e1; cases e1
set_option maxHeartbeats 8000000 in
set_option maxRecDepth 100000 in
theorem make4_any (cs : Array Value) (w : World) (hg : SmC cs) : Calls Try.prog 12 #[.agg cs] w fun e w' => MkG4 w e w' := by
  obtain ⟨st, hst, hst0, hst1⟩ := hg.ce 0 (by omega)
  obtain ⟨mk, hmk, hmk0, hmk1⟩ := hg.ce 1 (by omega)
  obtain ⟨S, hS⟩ : ∃ S : Nat, 1 + st % 6 = (S : Int) := ⟨(1 + st % 6).toNat, by omega⟩
  have hS6 : S ≤ 6 := by omega
  have hS1 : 1 ≤ S := by omega
  have hm5 := Lib.hid (show IntKind.u8.wrap (st % 6) = st % 6 by simp [IntKind.wrap, IntKind.signed, IntKind.bits]; omega)
  have HG := Lib.hid hg
  have hG := (Row.new w cs.toList 25)
  rw [show cs.toList.toArray = cs from rfl] at hG
  have g0 := hG.cell 0 (v := .int .u8 st) (by simpa using hst)
  obtain ⟨iI, iI0, iI1, iI2, iI3⟩ := info_parts info_int
  obtain ⟨iE, iE0, iE1, iE2, iE3⟩ := info_parts info_edge
  go_enter Try.func12, Try.ntmps12
  go_upto_region 2 with fail
  obtain ⟨bc, hbc⟩ : ∃ b, b = w.heap.size + 1 + 1 + 1 := ⟨_, rfl⟩
  obtain ⟨ba, hba⟩ : ∃ b, b = w.heap.size + 1 + 1 := ⟨_, rfl⟩
  obtain ⟨W0, hW0⟩ : ∃ W, W = ((w.alloc (.cells cs 25)).alloc (.cells #[.slice none 0 0, .int .i64 0, .slice none 0 0, .slice none 0 0] 30)).alloc (.cells #[.int .i64 0, .int .i64 1, .int .i64 2, .int .i64 3] 3) := ⟨_, rfl⟩
  have hsz0 : W0.heap.size = bc := by rw [hW0, hbc]; simp
  have HAL := Lib.hid (show Row W0 ba 3 [.int .i64 0, .int .i64 1, .int .i64 2, .int .i64 3] from by rw [hW0, hba]; exact Row.newE _ [.int .i64 0, .int .i64 1, .int .i64 2, .int .i64 3] _ (by simp))
  have HGW := Lib.hid (show Row W0 w.heap.size 25 cs.toList from by rw [hW0]; exact (hG.alloc _).alloc _)
  have HRS := Lib.hid (show Row W0 (w.heap.size + 1) 30 [.slice none 0 0, .int .i64 0, .slice none 0 0, .slice none 0 0] from by rw [hW0]; exact (Row.newE _ [.slice none 0 0, .int .i64 0, .slice none 0 0, .slice none 0 0] _ (by simp)).alloc _)
  have HBW := Lib.hid (show Below w.heap.size w W0 from by rw [hW0]; exact (((Below.refl _ _).alloc (Nat.le_refl _) _).alloc (by simp) _).alloc (by simp; omega) _)
  obtain ⟨W1, hW1⟩ : ∃ W, W = W0.alloc (.cells #[.slice (some ⟨ba, 0, none⟩) 4 4, .int .i64 (S : Int), .slice none 0 0, .slice none 0 0] 30) := ⟨_, rfl⟩
  have hbd0 := Lib.hid (show Bd W0 bc bc true true (.slice (some ⟨ba, 0, none⟩) 4 4) (S : Int) W1 [] (.slice none 0 0) [] (.slice none 0 0) from by
    rw [hW1]
    have hr := Row.new W0 [.slice (some ⟨ba, 0, none⟩) 4 4, .int .i64 (S : Int), .slice none 0 0, .slice none 0 0] 30
    rw [hsz0] at hr
    exact ⟨(Below.refl _ _).alloc (by omega) _, hr, fun _ => World.ownsRow_nil _ _ _ _, fun _ => World.ownsRow_nil _ _ _ _, Nat.le_refl _⟩)
  rw [← hbc, ← hba, ← hW0, ← hW1]
  have HW := Lib.hid hsz0
  have hwb : w.heap.size + 2 < bc := by omega
  have hwa : ba < bc := by omega
  have hwa2 : w.heap.size + 1 < ba := by omega
  clear hbc hba hW0 hW1 hG g0 hst hmk hg
  go_wp2_with fail
  go_loopw [4] (fun i wr => ∃ (t : Nat) (vm ve : Value) (ms : List Int) (es : List Ed), t ≤ S ∧ i = .int .i64 t ∧ Hid (Bd W0 bc bc true true (.slice (some ⟨ba, 0, none⟩) 4 4) (S : Int) wr ms vm es ve) ∧ Hid (Ev5 (t : Int) ms) ∧ Hid (EdI S al4 t 0 es)) (fun i _ => S - (intOf i).toNat)
  case atStart => exact ⟨0, _, _, _, _, Nat.zero_le _, rfl, hbd0, Ev5.nil _, EdI.nil _ _⟩
  case round =>
    clear hbd0
    obtain ⟨t, vm, ve, ms, es, htS, rfl, hbd, hev, hei⟩ := hrel
    by_cases htl : t < S
    · obtain ⟨mk, hmk, hmk0, hmk1⟩ := HG.out.ce 1 (by omega)
      have gm := (HGW.out.below hbd.out.bel (by omega)).cell 1 (v := .int .u8 mk) (by simpa using hmk)
      have s1 := hbd.out.cb.cell 1 rfl
      have z0 : (0 : Int) ≤ (t : Int) := by omega
      have z1 : (t : Int) < (S : Int) := by omega
      have hml := hev.out.len
      have HMO := Lib.hid hev.out.more
      have HSN := Lib.hid (hev.out.snoc (by omega))
      clear hmk
      go_upto_if 25 with fail
      generalize (bits BinOp.and IntKind.u8 (mk / 2 ^ t) 1 == 1) = cb
      go_cut [4] from 14 to 61 (fun i wx => i = .int .i64 (t : Int) ∧ ∃ vm ms', Hid (Bd W0 bc bc true true (.slice (some ⟨ba, 0, none⟩) 4 4) (S : Int) wx ms' vm es ve) ∧ Hid (Ev5 ((t + 1 : Nat) : Int) ms'))
      case first =>
        cases cb
        · go_wp2_with fail
          go_meet
          case rel => exact ⟨rfl, vm, ms, hbd, by simpa using HMO⟩
        · have hmo := Lib.hid (hbd.out.mo rfl)
          have c2' := hbd.out.cb.cell 2 rfl
          have f2' := hbd.out.cb.frozen 2
          have hs4 := hbd.out.h2
          go_wp2_with (at_builtin; refine wpList_append_own _ rfl _ _ 27 rfl bc 3 iI (.int .i64 0) 1 8 Try.underlying27 iI0 iI1 iI2 iI3 rfl (by decide) _ _ _ rfl (hmo.out.alloc _) ⟨wr.heap.size, 0, none⟩ 1 1 [.int .i64 (t : Int)] rfl rfl (news_one (by simp)) (by intro u hu; simp at hu; subst hu; rfl) (by unfold maxLen; omega) (by omega) (by simp; omega) ?_)
          intro v5 w5 hown5 hgrow5 _
          have hown6 : Own w5 bc v5 (ms ++ [(t : Int)]) := by unfold Own; rw [List.length_append]; simpa using hown5
          obtain ⟨A5, c5, hv5, _, _, _⟩ := own_rdc hown6
          rw [show (ms ++ [(t : Int)]).length = ms.length + 1 by simp] at hv5
          subst hv5
          have hba := hbd.out.alloc (.cells #[.int .i64 (t : Int)] 3)
          have hcb := Lib.hid (hba.cb.grown hgrow5 (fun e => hba.neM e.symm))
          have hbd6 := Lib.hid (Bd.mark hba hgrow5 hown6)
          have c2' := hcb.out.cell 2 rfl
          have f2' := hcb.out.frozen 2
          clear hown5 hown6 hgrow5 hba
          go_wp2_with fail
          go_meet
          case rel => exact ⟨rfl, _, _, hbd6, by simpa using HSN⟩
      case rest =>
        clear hbd hev s1 gm hml HMO HSN
        obtain ⟨rfl, vm, ms', hbd, hev⟩ := hcut
        go_wp2_with fail
        go_loopw [5, 6] (fun i _ wr => ∃ (k : Nat) (ve : Value) (es : List Ed), k ≤ 4 ∧ i = .int .i64 k ∧ Hid (Bd W0 bc bc true true (.slice (some ⟨ba, 0, none⟩) 4 4) (S : Int) wr ms' vm es ve) ∧ Hid (EdI S al4 t k es)) (fun i _ _ => 4 - (intOf i).toNat)
        case atStart => exact ⟨0, _, _, Nat.zero_le _, rfl, hbd, hei⟩
        case round =>
          clear hbd hei
          obtain ⟨k, ve, es, hkn, rfl, hbd, hei⟩ := hrel
          have s1 := hbd.out.cb.cell 1 rfl
          by_cases hkl : k < 4
          · obtain ⟨x, hx, hx0, hx1⟩ := HG.out.ce (2 + t * 4 + k) (by omega)
            have gx := (HGW.out.below hbd.out.bel (by omega)).cell (2 + t * 4 + k) (v := .int .u8 x) (by simpa using hx)
            have e0 : 0 ≤ x % 7 ∧ x % 7 < 7 := by omega
            have z2 : (0 : Int) ≤ (k : Int) := by omega
            have z3 : (k : Int) < 4 := by omega
            have z5 : (t : Int) < 6 := by omega
            have hw7 := Lib.hid (show IntKind.u8.wrap (x % 7) = x % 7 by simp [IntKind.wrap, IntKind.signed, IntKind.bits]; omega)
            clear hx
            go_upto_region 11 with fail
            obtain ⟨u, hu⟩ : ∃ u, u = x % 7 - 1 := ⟨_, rfl⟩
            have hu7 : -1 ≤ u ∧ u < 6 := by omega
            rw [← hu]
            have hkl4 : k < al4.length := hkl
            clear hu gx hw7 e0
            by_cases h1 : 0 ≤ u
            · by_cases h2 : u < (S : Int)
              · have hka : al4.getD k 0 = (k : Int) := by
                  match k, hkl with
                  | 0, _ => rfl
                  | 1, _ => rfl
                  | 2, _ => rfl
                  | 3, _ => rfl
                have hsn := Lib.hid (hei.out.snoc (u := u) hkl4 (by decide) h1 h2)
                rw [hka] at hsn
                have hel := hei.out.l
                have heo := hbd.out.eo rfl
                obtain ⟨L, hL⟩ : ∃ L, L = es.length := ⟨_, rfl⟩
                have HL := Lib.hid hL
                unfold OwnE at heo
                rw [← hL] at heo hel
                have HEO := Lib.hid heo
                have c3 := hbd.out.cb.cell 3 rfl
                have f3 := hbd.out.cb.frozen 3
                have hs4 := hbd.out.h2
                clear hL heo hka
                go_wp2_with (at_builtin; refine wpList_append_own _ rfl _ _ 28 rfl bc 70 iE (.agg #[.int .i64 0, .int .i64 0, .int .i64 0]) 3 24 Try.underlying28 iE0 iE1 iE2 iE3 rfl (by decide) _ L (encE es) rfl (HEO.out.alloc _) ⟨wr.heap.size, 0, none⟩ 1 1 [.int .i64 (t : Int), .int .i64 (k : Int), .int .i64 u] rfl rfl (news_three (by simp)) (by intro u hu; simp at hu; rcases hu with rfl | rfl | rfl <;> rfl) (by unfold maxLen; omega) (by omega) (by simp; omega) ?_)
                intro v6 w6 hown6 hgrow6 _
                obtain ⟨A6, c6, rfl, ho6⟩ := ed_app4 (x := ⟨(t : Int), (k : Int), u⟩) HL.out hown6
                have hb6 := hbd.out.alloc (.cells #[.int .i64 (t : Int), .int .i64 (k : Int), .int .i64 u] 70)
                have hcb6 := Lib.hid (hb6.cb.grown hgrow6 (fun e => hb6.neE e.symm))
                have hbd7 := Lib.hid (Bd.edge hb6 hgrow6 ho6)
                have c3 := hcb6.out.cell 3 rfl
                have f3 := hcb6.out.frozen 3
                clear hown6 hgrow6 ho6 hb6
                go_wp2_with fail
                go_roundw
                case rel => exact ⟨k + 1, _, _, by omega, by go_num, hbd7, hsn⟩
                case measure => simp [intOf]; omega
              · have hno := Lib.hid (hei.out.more hkl4)
                go_wp2_with fail
                go_roundw
                case rel => exact ⟨k + 1, _, _, by omega, by go_num, hbd, hno⟩
                case measure => simp [intOf]; omega
            · have hno := Lib.hid (hei.out.more hkl4)
              go_wp2_with fail
              go_roundw
              case rel => exact ⟨k + 1, _, _, by omega, by go_num, hbd, hno⟩
              case measure => simp [intOf]; omega
          · obtain rfl : k = 4 := by omega
            have hnx := Lib.hid (hei.out.next (by omega))
            go_wp2_with fail
            go_roundw
            case rel => exact ⟨t + 1, _, _, _, _, by omega, by go_num, hbd, hev, hnx⟩
            case measure => simp [intOf]; omega
    · obtain rfl : S = t := by omega
      have hmo := hbd.out.mo rfl
      have heo := hbd.out.eo rfl
      obtain ⟨M3, d3, rfl, hM1, hM2, hM3⟩ := own_rdc hmo
      obtain ⟨E3, g3, rfl, hE1, hE2, hE3⟩ := ownE_rd heo
      have s0 := hbd.out.cb.cell 0 rfl
      have s1 := hbd.out.cb.cell 1 rfl
      have s2 := hbd.out.cb.cell 2 rfl
      have s3 := hbd.out.cb.cell 3 rfl
      have hml := hev.out.len
      have hel := hei.out.l
      have HRi := Lib.hid (show Right ⟨al4, (S : Int), ms, es⟩ from { alr := fun x hx => by simp [al4] at hx; omega, alo := (show al4.Pairwise (· < ·) by decide), st0 := by simp, mrr := hev.out.r, mro := hev.out.o, edr := (fun x hx => by
        obtain ⟨h1, h2, h3, h4, h5⟩ := hei.out.r x hx
        exact ⟨⟨h1, h2.resolve_right (fun h => by simpa using h.2)⟩, ⟨h3, h4⟩, h5⟩), edo := hei.out.o, st1 := by show (S : Int) ≤ 4096; omega })
      have hra := HAL.out.below hbd.out.bel (by omega)
      have HAu := Lib.hid (show AuR wr wr.heap.size (some ⟨ba, 0, none⟩) 4 4 (S : Int) M3 ms.length d3 E3 es.length g3 ⟨al4, (S : Int), ms, es⟩ from
        { al := Row.rd (zs := al4) hra, mr := hM1, ed := hE1, hn := rfl, hm := rfl, hk := rfl, st := rfl, cn := by omega, cm := ⟨hM2, hM3⟩, ck := ⟨hE2, hE3⟩, bn := by omega, bm := by omega, bk := by omega })
      have hMn := Lib.hid (fun e : M3 = none => own_nil hmo e)
      have HF := Lib.hid (show AuF ⟨al4, (S : Int), ms, es⟩ (.agg #[.slice (some ⟨ba, 0, none⟩) 4 4, .int .i64 (S : Int), .slice M3 ms.length d3, .slice E3 es.length g3]) wr (w.heap.size + 2) from
        ⟨_, _, _, _, _, _, _, _, _, _, rfl, HAu.out, fun b o f e => by injection e with e; injection e with e1; omega, fun b o f e => by have := own_from hmo b o f e; omega, fun b o f e => by have := own_from heo b o f e; omega⟩)
      have hrs := HRS.out.below hbd.out.bel (by omega)
      have r0 := hrs.cell 0 rfl
      have r1 := hrs.cell 1 rfl
      have r2 := hrs.cell 2 rfl
      have r3 := hrs.cell 3 rfl
      have y0 := hrs.frozen 0
      have y1 := hrs.frozen 1
      have y2 := hrs.frozen 2
      have y3 := hrs.frozen 3
      have HBF := Lib.hid (HBW.out.trans (hbd.out.bel.mono (by omega)))
      clear hM1 hE1 hmo heo hra hrs
      go_wp2_with fail
      (try simp only [Exit.inBlock, Exit.then])
      obtain ⟨A9, n9, c9, s9, M9, m9, d9, E9, k9, g9, e9, hr9, _⟩ := HF.out.set4 (X := w.heap.size + 1) (by omega) (.slice (some ⟨ba, 0, none⟩) 4 4) (.int .i64 (S : Int)) (.slice M3 ms.length d3) (.slice E3 es.length g3)
      simp at e9
      obtain ⟨⟨rfl, rfl, rfl⟩, rfl, ⟨rfl, rfl, rfl⟩, rfl, rfl, rfl⟩ := e9
      refine bodyPost_ret (v := .agg #[.slice (some ⟨ba, 0, none⟩) 4 4, .int .i64 (S : Int), .slice M3 ms.length d3, .slice E3 es.length g3]) ?_ rfl ⟨S, ⟨al4, (S : Int), ms, es⟩, _, _, _, _, _, _, _, _, ⟨HRi.out, rfl, rfl, hS1, hS6⟩, rfl, hr9, fun e => (by cases e), hMn.out, ?_⟩
      · rw [results_cell1 rfl]
        go_simp
      · exact below_set4 HBF.out (by omega) _ _ _ _
end Go.Proofs.Ytceldgcmjmfjfaa

/- Layer 4: the searches find what the reference's closures find. -/
namespace Go.Proofs.Ytceldgcmjmfjfaa
open Go.RowKit Go.Sort

theorem rch_eq {S : Nat} {es : List Ed} {fr out : List Int} (he : EdOk S es) (hf : ∀ q ∈ fr, 0 ≤ q ∧ q < (S : Int)) (hu : out.Pairwise (· < ·)) (hr : ∀ q ∈ out, 0 ≤ q ∧ q < (S : Int)) (h : ∀ q, q ∈ out ↔ Rb noF es fr q) : rchS S es fr = out := by
  refine lt_ext (rngF_up _ _) hu fun x => ?_
  unfold rchS
  rw [mem_rngF]
  constructor
  · rintro ⟨q, hq, hs, rfl⟩
    rw [h]
    have : ((q : Int)) ∈ sts (spV noF S es fr) := by
      unfold seenF at hs
      rw [show noF q = false from rfl, Bool.false_or] at hs
      exact of_decide_eq_true hs
    exact (spV_mem he hf _).1 this
  · intro hx
    have hxr := hr x hx
    refine ⟨x.toNat, by omega, ?_, by omega⟩
    unfold seenF
    have : x ∈ sts (spV noF S es fr) := (spV_mem he hf _).2 ((h x).1 hx)
    rw [show ((x.toNat : Nat) : Int) = x by omega, show noF x.toNat = false from rfl, Bool.false_or]
    exact decide_eq_true this
theorem rb_fwd {S : Nat} {a : Au} (hr : Right a) (hS : a.st = (S : Int)) (h1 : 1 ≤ S) (q : Int) : Cl a.ed Ed.f Ed.t (okF (rngF S fun _ => true) a.al) (fun q => q ∈ [(0 : Int)] ∧ q ∈ rngF S fun _ => true) q ↔ Rb noF a.ed [0] q := by
  constructor
  · intro h
    induction h with
    | base h => exact .base h.1 rfl
    | step hx _ _ ih => exact .step ih hx rfl
  · intro h
    induction h with
    | base h _ =>
      refine .base ⟨h, ?_⟩
      rw [List.mem_singleton.1 h]
      exact mem_rngF.2 ⟨0, by omega, rfl, rfl⟩
    | @step x _ hx _ ih =>
      refine .step hx ih ?_
      have he := hr.edr x hx
      rw [hS] at he
      unfold okF
      have h2 : x.t ∈ rngF S fun _ => true := mem_rngF.2 ⟨x.t.toNat, by omega, rfl, by omega⟩
      rw [decide_eq_true h2, decide_eq_true he.2.2]; rfl
theorem rb_back {S : Nat} {a : Au} (he : EdOk S a.ed) (q : Int) : Cl a.ed Ed.t Ed.f (fun _ => true) (· ∈ a.mr) q ↔ Rb noF (trnE S a.ed) a.mr q := by
  constructor
  · intro h
    induction h with
    | base h => exact .base h rfl
    | @step x hx _ _ ih =>
      have hm : rvE x ∈ trnE S a.ed := mem_trnE.2 ⟨x, hx, (he x hx).1, rfl⟩
      exact Rb.step (x := rvE x) ih hm rfl
  · intro h
    induction h with
    | base h _ => exact .base h
    | @step x _ hx _ ih =>
      obtain ⟨y, hy, _, rfl⟩ := mem_trnE.1 hx
      exact Cl.step (x := y) hy ih rfl
theorem states_fwd {S : Nat} {a : Au} {out : List Int} (hr : Right a) (hS : a.st = (S : Int)) (h1 : 1 ≤ S) (hu : out.Pairwise (· < ·)) (hg : ∀ q ∈ out, 0 ≤ q ∧ q < (S : Int)) (h : ∀ q, q ∈ out ↔ Cl a.ed Ed.f Ed.t (okF (rngF S fun _ => true) a.al) (fun q => q ∈ [(0 : Int)] ∧ q ∈ rngF S fun _ => true) q) : rchR a = out := by
  unfold rchR
  rw [hS, show ((S : Int)).toNat = S by omega, show iniL (S : Int) = [0] by unfold iniL; rw [if_neg (by omega)]]
  exact rch_eq (edOk_of hr hS) (fun q hq => by rw [List.mem_singleton.1 hq]; omega) hu hg fun q => (h q).trans (rb_fwd hr hS h1 q)
theorem states_back {S : Nat} {a : Au} {out : List Int} (hr : Right a) (hS : a.st = (S : Int)) (hu : out.Pairwise (· < ·)) (hg : ∀ q ∈ out, 0 ≤ q ∧ q < (S : Int)) (h : ∀ q, q ∈ out ↔ Cl a.ed Ed.t Ed.f (fun _ => true) (· ∈ a.mr) q) : corR a = out := by
  unfold corR
  rw [hS, show ((S : Int)).toNat = S by omega]
  have he := edOk_of hr hS
  exact rch_eq (trnE_ok he) (fun q hq => by have := hr.mrr q hq; rw [hS] at this; exact this) hu hg fun q => (h q).trans (rb_back he q)
theorem states_dead {S : Nat} {a : Au} (hS : a.st = (S : Int)) : dedR a = rngF S (ndF a.ed) := by
  unfold dedR; rw [hS]; simp
end Go.Proofs.Ytceldgcmjmfjfaa
