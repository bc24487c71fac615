/- Texts merged: what follows were texts of their own. -/
import Derived.Test.YtmghngehpgolgaaZa11
import Derived.Test.YtmghngehpgolgaaZa4
import Derived.Sort.OwnSortedInts
import Derived.Test.YtmghngehpgolgaaZa2
import Derived.Test.YtmghngehpgolgaaZa5
import Derived.Test.YtmghngehpgolgaaZa3
import Derived.Deep.RegionHeld3
import Derived.Deep.CutRange
set_option linter.unusedVariables false
set_option linter.unusedSimpArgs false
set_option linter.unusedSectionVars false
/- Layer 7: slices.Compact of a list in order; slices.Clone of edges; edges sorted by projection's own order. -/
namespace Go.Proofs.Ytmghngehpgolgaa
open Go.RowKit Go.Sort Go.Lib

theorem comp_up {d : Array Int} (hm : ∀ i j, i ≤ j → j < d.size → d[i]! ≤ d[j]!) : ∀ m, m ≤ d.size → (compactUpTo d m).Pairwise (· < ·) ∧ ∀ x, x ∈ compactUpTo d m ↔ ∃ j, j < m ∧ d[j]! = x
  | 0, _ => ⟨by simp [compactUpTo], fun x => by simp [compactUpTo]⟩
  | m + 1, h => by
    obtain ⟨h1, h2⟩ := comp_up hm m (by omega)
    rw [compactUpTo_succ]
    by_cases hk : keeps d m = true
    · rw [if_pos hk]
      refine ⟨?_, fun x => ?_⟩
      · rw [List.pairwise_append]
        refine ⟨h1, by simp, fun x hx y hy => ?_⟩
        rw [List.mem_singleton] at hy
        subst hy
        obtain ⟨j, hj, rfl⟩ := (h2 x).1 hx
        have hk2 : m = 0 ∨ d[m]! ≠ d[m - 1]! := by simpa [keeps] using hk
        have a1 := hm j (m - 1) (by omega) (by omega)
        have a2 := hm (m - 1) m (by omega) (by omega)
        rcases hk2 with h0 | h0
        · omega
        · omega
      · rw [List.mem_append, h2, List.mem_singleton]
        constructor
        · rintro (⟨j, hj, e⟩ | rfl)
          · exact ⟨j, by omega, e⟩
          · exact ⟨m, by omega, rfl⟩
        · rintro ⟨j, hj, rfl⟩
          by_cases e : j = m
          · subst e; exact .inr rfl
          · exact .inl ⟨j, by omega, rfl⟩
    · rw [if_neg hk, List.append_nil]
      refine ⟨h1, fun x => ?_⟩
      rw [h2]
      constructor
      · rintro ⟨j, hj, e⟩; exact ⟨j, by omega, e⟩
      · rintro ⟨j, hj, rfl⟩
        by_cases e : j = m
        · subst e
          have hk2 : ¬ (j = 0 ∨ d[j]! ≠ d[j - 1]!) := by simpa [keeps] using hk
          have h3 : d[j]! = d[j - 1]! := Decidable.not_not.1 fun h => hk2 (.inr h)
          exact ⟨j - 1, by omega, h3.symm⟩
        · exact ⟨j, by omega, rfl⟩
theorem oneCell_int : OneCell (Value.int .i64) := fun _ => rfl
theorem compact_own {base : Nat} {v : Value} {zs : List Int} (w : World) (h : Own w base v zs) (hl : zs.length ≤ 100000) (hs : zs.Pairwise (· ≤ ·)) :
    Calls Try.prog 29 #[v] w fun e w' => ∃ A c zs', e = .returned (.slice A zs'.length c) ∧ zs'.Pairwise (· < ·) ∧ (∀ x, x ∈ zs' ↔ x ∈ zs) ∧ Own w' base (.slice A zs'.length c) zs' ∧ w.grownBy w' v.ownBlock := by
  rcases h.2 with ⟨rfl, h0⟩ | ⟨g, cap, cur, rfl, hb, hh, hn, hcap, hsz, htake⟩
  · have hz : zs = [] := List.eq_nil_of_length_eq_zero h0
    subst hz
    go_enter Try.func29, Try.ntmps29
    go_wp2
    go_ret
    exact ⟨none, 0, [], rfl, List.Pairwise.nil, fun x => Iff.rfl, World.ownsRow_nil _ _ _ _, World.grownBy.refl _ _⟩
  · rw [Nat.mul_one] at htake hsz
    have hH := holds_of_blockI (ss := zs) hh htake
    have hzl : zs.toArray.size = zs.length := by simp
    have hcon := AnyE.slices_Compact layCo (Value.int .i64) oneCell_int (EqlAt.intD _ _ .i64) (NeqAt.intD _ _ .i64) 0 (fun w => Try.zeroValue3 w) g 0 cap zs.toArray w hH (by rw [hzl]; omega) (by rw [hzl]; exact hn)
    refine Calls.mono (show Calls Try.prog 29 _ w _ from hcon) ?_
    have hmono : ∀ i j, i ≤ j → j < zs.toArray.size → zs.toArray[i]! ≤ zs.toArray[j]! := fun i j hij hj => by
      have hj' : j < zs.length := by simpa using hj
      have hi' : i < zs.length := by omega
      by_cases e : i = j
      · subst e; exact Int.le_refl _
      · have := List.pairwise_iff_getElem.1 hs i j hi' hj' (by omega)
        simpa [hi', hj'] using this
    obtain ⟨c1, c2⟩ := comp_up hmono zs.toArray.size (Nat.le_refl _)
    have hcl : (compactUpTo zs.toArray zs.toArray.size).length ≤ zs.toArray.size := by
      unfold compactUpTo
      rw [List.length_map]
      exact Nat.le_trans (List.length_filter_le _ _) (by simp)
    rintro e w' ⟨rfl, q, rfl⟩
    obtain ⟨L, hL⟩ : ∃ L, L = compactUpTo zs.toArray zs.toArray.size := ⟨_, rfl⟩
    rw [← hL] at c1 c2 hcl ⊢
    have hdz : (L ++ List.replicate (zs.toArray.size - L.length) (0 : Int)).toArray.size = zs.toArray.size := by simp; simp at hcl; omega
    have ho : (putRow (Value.int .i64) (Sort.ahead w q) g 0 (L ++ List.replicate (zs.toArray.size - L.length) (0 : Int)).toArray).ownsRow base 3 1 (.slice (some ⟨g, 0, none⟩) zs.length cap) zs.length ((L ++ List.replicate (zs.toArray.size - L.length) (0 : Int)).map (Value.int .i64)) := by
      have := ownsRow_sortedI (base := base) (n := q) (os := #[]) (ss := zs) (ts := L ++ List.replicate (zs.toArray.size - L.length) (0 : Int)) (by rw [← List.size_toArray, hdz, hzl]) hb hh hn hcap (by omega)
      have e0 : ∀ W : World, grow W #[] = W := fun W => by unfold grow; simp
      rw [e0] at this
      exact this
    have hL2 : L.length ≤ zs.length := by rw [hzl] at hcl; exact hcl
    have hown : (putRow (Value.int .i64) (Sort.ahead w q) g 0 (L ++ List.replicate (zs.toArray.size - L.length) (0 : Int)).toArray).ownsRow base 3 1 (.slice (some ⟨g, 0, none⟩) L.length cap) L.length (L.map (Value.int .i64)) := by
      rcases ho.2 with ⟨h0, _⟩ | ⟨g', cap', cur', e', hb', hh', hn', hcap', hsz', htake'⟩
      · cases h0
      · injection e' with e1 e2 e3
        injection e1 with e1
        injection e1 with e1
        subst e1 e3
        refine ⟨by simp, .inr ⟨g, cap, cur', rfl, hb', hh', by omega, hcap', hsz', ?_⟩⟩
        rw [Nat.mul_one] at htake' ⊢
        have := congrArg (List.take L.length) htake'
        rw [List.take_take, Nat.min_eq_left hL2, List.map_append, List.take_left' (by simp)] at this
        exact this
    refine ⟨some ⟨g, 0, none⟩, cap, L, rfl, c1, fun x => ?_, hown, ⟨rfl, rfl, rfl, by simp [putRow, mapBlock, Sort.ahead], fun k hk hne => ?_⟩⟩
    · rw [c2]
      constructor
      · rintro ⟨j, hj, rfl⟩
        have hj' : j < zs.length := by simpa using hj
        have : zs.toArray[j]! = zs[j] := by simp [hj']
        rw [this]; exact List.getElem_mem hj'
      · intro hx
        obtain ⟨j, hj, rfl⟩ := List.getElem_of_mem hx
        exact ⟨j, by simpa using hj, by simp [hj]⟩
    · have : g ≠ k := fun e => hne (by rw [e]; rfl)
      simp [putRow, mapBlock, Sort.ahead, Array.getElem?_modify, this]
set_option maxHeartbeats 800000 in
theorem cmpOrI_any (A : Option Addr) (n c B : Nat) (xs : List Int) (w : World) (hx : RdI w B A xs) (hn : xs.length = n) (hb : n ≤ 100000) :
    Calls Try.prog 63 #[.slice A n c] w fun e w' => e = .returned (.int .i64 (fstE xs)) ∧ w = w' := by
  have HX := Lib.hid hx
  have HN := Lib.hid hn
  obtain ⟨u, hu⟩ : ∃ u, u = fstE xs := ⟨_, rfl⟩
  rw [← hu]
  have HU := Lib.hid (show u = fstE (xs.drop 0) by rw [List.drop_zero]; exact hu)
  clear hx hn hu
  go_enter Try.func63, Try.ntmps63
  go_wp2_with fail
  go_loopw [5, 8] (fun _ i wr => ∃ k : Nat, k ≤ n ∧ i = .int .i64 k ∧ w = wr ∧ Hid (u = fstE (xs.drop k))) (fun _ i _ => n - (intOf i).toNat)
  case atStart => exact ⟨0, Nat.zero_le _, rfl, rfl, HU⟩
  case round =>
    obtain ⟨k, hk, rfl, rfl, hf⟩ := hrel
    by_cases hlt : k < n
    · obtain ⟨b, o, rfl, _, hc⟩ := HX.out (by rw [HN.out]; omega)
      have hz : k < xs.length := by rw [HN.out]; exact hlt
      have hc1 := hc k hz
      obtain ⟨x, hxe⟩ : ∃ x, x = xs.getD k 0 := ⟨_, rfl⟩
      have hd := fst_drop hz
      rw [← hxe] at hc1 hd
      have HD := Lib.hid hd
      have z0 : (k : Int) < (n : Int) := by omega
      have z1 : (0 : Int) ≤ (k : Int) := by omega
      clear hc hz hxe hd
      by_cases h0 : x = 0
      · have hb : (x != 0) = false := by simp [h0]
        have hg := Lib.hid (show u = fstE (xs.drop (k + 1)) by rw [hf.out, HD.out, if_neg (by simp [h0])])
        clear h0
        go_wp2_with fail
        go_roundw
        case rel => exact ⟨k + 1, by omega, by go_num, by first | rfl | trivial, hg⟩
        case measure => simp [intOf]; omega
      · have hb : (x != 0) = true := by simp [h0]
        have hg := Lib.hid (show u = x by rw [hf.out, HD.out, if_pos h0])
        clear h0
        go_wp2_with fail
        go_ret
        exact ⟨by rw [hg.out]; rfl, rfl⟩
    · have hg := Lib.hid (show u = 0 by rw [hf.out, List.drop_of_length_le (by rw [HN.out]; omega)]; rfl)
      have z0 : (n : Int) ≤ (k : Int) := by omega
      go_wp2_with fail
      go_ret
      exact ⟨by rw [hg.out]; rfl, rfl⟩
theorem rd_twoI {w : World} {x y : Int} : RdI (w.alloc (.cells #[.int .i64 x, .int .i64 y] 3)) (w.alloc (.cells #[.int .i64 x, .int .i64 y] 3)).heap.size (some ⟨w.heap.size, 0, none⟩) [x, y] := fun _ => ⟨w.heap.size, 0, rfl, by simp, fun j hj => by
  match j, hj with
  | 0, _ => rw [World.cell?_alloc_at _ _ _ _ rfl]; rfl
  | 1, _ => rw [World.cell?_alloc_at _ _ _ _ rfl]; rfl
  | j + 2, hj => (simp at hj) <;> omega⟩
theorem rd_twoD {w : World} {x y : Int} : RdI (w.alloc (.cells #[.int .i64 x, .int .i64 y] 3)).drew (w.alloc (.cells #[.int .i64 x, .int .i64 y] 3)).heap.size (some ⟨w.heap.size, 0, none⟩) [x, y] := rd_twoI
set_option maxHeartbeats 1000000 in
set_option maxRecDepth 100000 in
theorem jCompareEdges_any (f1 e1 t1 f2 e2 t2 : Int) (w : World) :
    Calls Try.prog 35 #[.agg #[.int .i64 f1, .int .i64 e1, .int .i64 t1], .agg #[.int .i64 f2, .int .i64 e2, .int .i64 t2]] w fun e w' => e = .returned (.int .i64 (cmpE ⟨f1, e1, t1⟩ ⟨f2, e2, t2⟩)) ∧ ∃ q os', w' = grow (w.drewN q) os' := by
  have H := Lib.hid cmpCompare_any
  obtain ⟨u, hu⟩ : ∃ u, u = cmp1 f1 f2 := ⟨_, rfl⟩
  obtain ⟨v, hv⟩ : ∃ v, v = cmp1 e1 e2 := ⟨_, rfl⟩
  have H1 := Lib.hid (fun W => by have h := H.out f1 f2 W; rw [← hu] at h; exact h)
  have H2 := Lib.hid (fun W => by have h := H.out e1 e2 W; rw [← hv] at h; exact h)
  obtain ⟨r, hr⟩ : ∃ r, r = cmpE ⟨f1, e1, t1⟩ ⟨f2, e2, t2⟩ := ⟨_, rfl⟩
  rw [← hr]
  have HRR := Lib.hid (show fstE [u, v] = r by
    rw [hr, hu, hv]
    by_cases h0 : cmp1 f1 f2 = 0 <;> by_cases h1 : cmp1 e1 e2 = 0 <;> simp [fstE, cmpE, h0, h1])
  obtain ⟨W, hW⟩ : ∃ W, W = (w.alloc (.cells #[.int .i64 f1, .int .i64 e1, .int .i64 t1] 55)).alloc (.cells #[.int .i64 f2, .int .i64 e2, .int .i64 t2] 55) := ⟨_, rfl⟩
  have x0 := (Row.new w [.int .i64 f1, .int .i64 e1, .int .i64 t1] 55).alloc (.cells #[.int .i64 f2, .int .i64 e2, .int .i64 t2] 55)
  have x1 := Row.new (w.alloc (.cells #[.int .i64 f1, .int .i64 e1, .int .i64 t1] 55)) [.int .i64 f2, .int .i64 e2, .int .i64 t2] 55
  rw [World.size_alloc] at x1
  have p0 : W.cell? ⟨w.heap.size, 0, none⟩ = some (.int .i64 f1) := by rw [hW]; exact x0.cell 0 rfl
  have p1 : W.cell? ⟨w.heap.size, 1, none⟩ = some (.int .i64 e1) := by rw [hW]; exact x0.cell 1 rfl
  have p2 : W.cell? ⟨w.heap.size + 1, 0, none⟩ = some (.int .i64 f2) := by rw [hW]; exact x1.cell 0 rfl
  have p3 : W.cell? ⟨w.heap.size + 1, 1, none⟩ = some (.int .i64 e2) := by rw [hW]; exact x1.cell 1 rfl
  have HW := Lib.hid hW
  have HO := Lib.hid (fun (B : Nat) (W : World) (h : RdI W B (some ⟨B - 1, 0, none⟩) [u, v]) => cmpOrI_any (some ⟨B - 1, 0, none⟩) 2 2 B [u, v] W h rfl (by omega))
  clear hu hv hr x0 x1 hW
  go_enter Try.func35, Try.ntmps35
  go_upto_region 1 with fail
  rw [← HW.out]
  go_region_held3 (fun w' => w'.cell? ⟨w.heap.size, 0, none⟩ = some (.int .i64 f1) ∧ w'.cell? ⟨w.heap.size, 1, none⟩ = some (.int .i64 e1) ∧ w'.cell? ⟨w.heap.size + 1, 0, none⟩ = some (.int .i64 f2) ∧ w'.cell? ⟨w.heap.size + 1, 1, none⟩ = some (.int .i64 e2)) (first | with_reducible exact ⟨p0, p1, p2, p3⟩ | go_keep)
    (first
    | (go_simp; go_at_call 64; with_reducible refine (H1.out _).mono ?_; rintro e w2 ⟨rfl, rfl⟩)
    | (go_simp; go_at_call 64; with_reducible refine (H2.out _).mono ?_; rintro e w2 ⟨rfl, rfl⟩)
    | (go_simp; go_at_call 63; (first | with_reducible refine (cmpOrI_any _ 2 2 _ [u, v] _ rd_twoI rfl (by omega)).mono ?_ | with_reducible refine (cmpOrI_any _ 2 2 _ [u, v] _ (rd_twoI.dr 1) rfl (by omega)).mono ?_ | refine (cmpOrI_any _ 2 2 _ [u, v] _ rd_twoD rfl (by omega)).mono ?_); rintro e w6 ⟨rfl, rfl⟩))
  all_goals
    go_wp2_with fail
    go_ret
    refine ⟨by rw [HRR.out]; rfl, 1, #[.cells #[.int .i64 f1, .int .i64 e1, .int .i64 t1] 55, .cells #[.int .i64 f2, .int .i64 e2, .int .i64 t2] 55, .cells #[.int .i64 u, .int .i64 v] 3], ?_⟩
    rw [HW.out, alloc_eq_grow, alloc_eq_grow]
    first | rfl | (rw [alloc_eq_grow]; rfl) | (simp only [alloc_eq_grow, grow_grow]; rfl)
theorem jcmp_lays (blk off size : Nat) (w : World) : CmpLays Try.prog 35 #[] encEd 3 cmpE blk off size w :=
  fun _ _ _ _ x y => jCompareEdges_any x.f x.e x.t y.f y.e y.t _
theorem jSortEd_any {base : Nat} {v : Value} {l : List Ed} (w : World) (h : OwnE w base v l) (hl : l.length ≤ 1000000) :
    Calls Try.prog 34 #[v, .func (.func 35) #[] #[]] w fun e w' => e = .returned (.tuple #[]) ∧ ∃ A c l', v = .slice A l'.length c ∧ l'.Perm l ∧ l'.Pairwise (fun x y => ¬ ltE y x) ∧ RdG w' w'.heap.size A l' ∧ w.grownBy w' v.ownBlock ∧ l'.length ≤ c ∧ c ≤ 9223372036854775807 := by
  rcases h.2 with ⟨rfl, h0⟩ | ⟨g, cap, cur, rfl, hg, hh, hn, hcap, hsz, htake⟩
  · have hz : l = [] := List.eq_nil_of_length_eq_zero h0
    subst hz
    refine Calls.mono (show Calls Try.prog 34 _ w _ from AnyF.slices_SortFunc_none layEd none 0 _ w) ?_
    rintro e w' ⟨rfl, rfl⟩
    exact ⟨rfl, none, 0, [], rfl, List.Perm.refl _, List.Pairwise.nil, RdG.nil _ _ _, World.grownBy.refl _ _, Nat.le_refl _, by omega⟩
  · have hgl := (h.lt g rfl).2
    have hH : HoldsK encEd 3 w g 0 l.toArray := fun t ht => by
      rw [size_flatK] at ht
      have ht3 : t < l.length * 3 := by simpa using ht
      have hj : t / 3 < l.length := by omega
      refine ⟨?_, ?_⟩
      · rw [Nat.zero_add, World.ownsRow.cellAt (cap := cap) h t (by omega), get_flatK _ _ _ t (by simpa using ht3)]
        obtain ⟨e0, e1, e2⟩ := encE_at l (t / 3) _ (List.getElem?_eq_getElem hj)
        have hg : l.toArray[t / 3]! = l[t / 3] := by simp [hj]
        rw [hg]
        rcases (show t % 3 = 0 ∨ t % 3 = 1 ∨ t % 3 = 2 by omega) with hm | hm | hm
        · rw [hm]; have ht : t = t / 3 * 3 := by omega
          conv => lhs; rw [ht]
          rw [e0]; rfl
        · rw [hm]; have ht : t = t / 3 * 3 + 1 := by omega
          conv => lhs; rw [ht]
          rw [e1]; rfl
        · rw [hm]; have ht : t = t / 3 * 3 + 2 := by omega
          conv => lhs; rw [ht]
          rw [e2]; rfl
      · rw [Nat.zero_add]
        exact World.ownsRow.frozenAt (cap := cap) h t
    have eg : ∀ args w, (callFunc 35 args).run Try.prog w = .ok (.enter 35 args) w := enters_of Try.func35 (by kernel_rfl) rfl
    refine Calls.mono (show Calls Try.prog 34 _ w _ from AnyQ.slices_SortFunc layEd 3 Try.isAgg55 Try.sizeOf55 encEd (fun _ => rfl) (fun x v hv => by simp [encEd] at hv; rcases hv with rfl | rfl | rfl <;> rfl) cmpE cmp_swo 35 #[] g 0 cap l.toArray w eg (jcmp_lays _ _ _ _) hH hgl (by simp; omega)) ?_
    rintro e w' ⟨rfl, d', nn, os, hp, hs, rfl⟩
    have hsz2 : d'.size = l.length := by have := hp.1; simpa using this
    have hH2 := holdsK_sortWorldK encEd 3 w g 0 nn l.toArray d' os hgl hH (by simpa using hsz2)
    have hlen2 : d'.toList.length = l.length := by simpa using hsz2
    have hperm : d'.toList.Perm l := by
      have := hp.2.2
      simpa [hsz2, Array.extract_eq_self_of_le] using this
    refine ⟨rfl, some ⟨g, 0, none⟩, cap, d'.toList, by rw [hlen2], hperm, ?_, ?_, grown_sort id w g 0 nn _ os, by rw [hlen2]; exact hn, by unfold maxLen at hcap; omega⟩
    · rw [List.pairwise_iff_getElem]
      intro i j hi hj hij
      have h1 := hs i j (Nat.zero_le _) hij (by simp; omega)
      have h2 : i < d'.size := by simpa using hi
      have h3 : j < d'.size := by simpa using hj
      unfold Go.Proofs.ltOf at h1
      simp only [decide_eq_false_iff_not] at h1
      rw [cmpE_lt] at h1
      simpa [h2, h3] using h1
    · intro h0
      refine ⟨g, 0, rfl, lt_sortWorldK encEd 3 w g 0 nn d' os hgl, fun j x hj => ?_⟩
      have hj2 : j < d'.size := by have := (List.getElem?_eq_some_iff.1 hj).1; simpa using this
      have hx : d'[j]! = x := by
        have := (List.getElem?_eq_some_iff.1 hj).2
        simpa [hj2] using this
      have c0 := (hH2.cell (i := j) (c := 0) hj2 (by omega)).1
      have c1 := (hH2.cell (i := j) (c := 1) hj2 (by omega)).1
      have c2 := (hH2.cell (i := j) (c := 2) hj2 (by omega)).1
      rw [hx] at c0 c1 c2
      exact ⟨c0, c1, c2⟩
end Go.Proofs.Ytmghngehpgolgaa

/- Layer 7: slices.Clone of edges. -/
namespace Go.Proofs.Ytmghngehpgolgaa
open Go.RowKit Go.Sort

theorem cloNil_yes (n c : Nat) (W : World) : (binOp .eql 23 (.slice none n c) (.slice none 0 0)).run Try.prog W = .ok (.bool true) W := by kernel_rfl
theorem cloNil_no (ad : Addr) (n c : Nat) (W : World) : (binOp .eql 23 (.slice (some ad) n c) (.slice none 0 0)).run Try.prog W = .ok (.bool false) W := by kernel_rfl
theorem rdG_at {w : World} {B : Nat} {A : Option Addr} {l : List Ed} (h : RdG w B A l) {ad : Addr} (hA : A = some ad) : ∀ j u, (encE l)[j]? = some u → w.cell? (ad.add j) = some u := fun j u hu => by
  have hj : j < (encE l).length := (List.getElem?_eq_some_iff.1 hu).1
  rw [encE_len] at hj
  obtain ⟨b, o, e, _, hc⟩ := h (by omega)
  rw [hA] at e
  injection e with e
  subst e
  rw [show ((⟨b, o, none⟩ : Addr).add j) = ⟨b, o + j, none⟩ from by unfold Addr.add; split <;> simp_all]
  have hq : j / 3 < l.length := by omega
  obtain ⟨k0, k1, k2⟩ := hc (j / 3) _ (List.getElem?_eq_getElem hq)
  obtain ⟨m0, m1, m2⟩ := encE_at l (j / 3) _ (List.getElem?_eq_getElem hq)
  rcases (show j % 3 = 0 ∨ j % 3 = 1 ∨ j % 3 = 2 by omega) with hm | hm | hm
  · have hj3 : j = j / 3 * 3 := by omega
    rw [hj3] at hu ⊢
    rw [m0] at hu
    rw [← hu, ← Nat.add_zero (o + j / 3 * 3)]
    simpa using k0
  · have hj3 : j = j / 3 * 3 + 1 := by omega
    rw [hj3] at hu ⊢
    rw [m1] at hu
    rw [← hu]; simpa [Nat.add_assoc] using k1
  · have hj3 : j = j / 3 * 3 + 2 := by omega
    rw [hj3] at hu ⊢
    rw [m2] at hu
    rw [← hu]; simpa [Nat.add_assoc] using k2
theorem run_app_rdG {w : World} {base : Nat} {v : Value} {l0 : List Ed} (hown : OwnE w base v l0) {B : Nat} {ad : Addr} {m c : Nat} {l : List Ed} (hr : RdG w B (some ad) l) (hm : l.length = m)
    (h63 : l0.length + m ≤ maxLen) (hbytes : (l0.length + m) * 24 ≤ 140737488355328) (hbase : base ≤ w.heap.size) (ty : TypeId) :
    ∃ v' w', (Builtin.append_ #[23, 23] ty #[v, .slice (some ad) m c]).run Try.prog w = .ok v' w' ∧ w'.ownsRow base 55 3 v' (l0.length + m) (encE l0 ++ encE l) ∧ w.grownBy w' v.ownBlock := by
  obtain ⟨i0, hi, hz0, hz1, hz2⟩ := info_parts info_edge
  obtain ⟨v', w', hrun, h2, h3, _⟩ := run_append_own (P := Try.prog) w base 23 ty 55 i0 (.agg #[.int .i64 0, .int .i64 0, .int .i64 0]) 3 24 Try.underlying23 hi hz0 hz1 hz2 rfl (by decide) v l0.length _ hown ad m c (encE l) (by rw [encE_len, hm]) (rdG_at hr rfl)
      (fun u hu => by
        unfold encE at hu
        obtain ⟨x, _, hx⟩ := List.mem_flatMap.1 hu
        simp at hx
        rcases hx with rfl | rfl | rfl <;> rfl) h63 hbytes hbase
  exact ⟨v', w', hrun, h2, h3⟩
theorem wpList_app_rdG {w : World} {ops : Array Oper} {rest : List Oper} {o : Oper} {a : Act} {Q : Exit → Act → World → Prop} (hgd : o.guard = none) (s x : Operand)
    (ho : o.op = .call { callee := .builtin .append, args := #[s, x], argTypes := #[23, 23] }) (base : Nat) (v : Value) (l0 : List Ed) (hs : a.eval s = v) (hown : OwnE w base v l0)
    (B : Nat) (ad : Addr) (m c : Nat) (l : List Ed) (hx : a.eval x = .slice (some ad) m c) (hr : RdG w B (some ad) l) (hm : l.length = m) (h63 : l0.length + m ≤ maxLen) (hbytes : (l0.length + m) * 24 ≤ 140737488355328) (hbase : base ≤ w.heap.size)
    (h : ∀ v' w', w'.ownsRow base 55 3 v' (l0.length + m) (encE l0 ++ encE l) → w.grownBy w' v.ownBlock → wpList Try.prog ops Q rest (a.put o.dst v') w') : wpList Try.prog ops Q (o :: rest) a w := by
  refine wpList_plain hgd fun K hK => ?_
  obtain ⟨v', w', hrun, h2, h3⟩ := run_app_rdG hown hr hm h63 hbytes hbase o.type (c := c)
  unfold Oper.wp execOp
  simp only [ho, resolve, invoke, builtin, Sem.run_bind, Sem.run_pure, Result.andThen_ok, List.map_toArray, List.map_cons, List.map_nil, hs, hx, hrun]
  exact hK _ _ (h v' w' h2 h3)
set_option maxHeartbeats 800000 in
set_option maxRecDepth 4000 in
theorem cloneEd_any (A : Option Addr) (n c : Nat) (l : List Ed) (w : World) (hx : RdG w w.heap.size A l) (hn : l.length = n) (hb : n ≤ 1000000) :
    Calls Try.prog 33 #[.slice A n c] w fun e w' => ∃ v, e = .returned v ∧ OwnE w' w.heap.size v l ∧ Below w.heap.size w w' := by
  rcases A with _ | ad
  · have hz : l = [] := by
      rcases Nat.eq_zero_or_pos l.length with h | h
      · exact List.eq_nil_of_length_eq_zero h
      · obtain ⟨b, o, e, _⟩ := hx h; cases e
    subst hz
    obtain rfl : n = 0 := hn.symm
    clear hx hn
    have hq := cloNil_yes 0 c
    go_enter Try.func33, Try.ntmps33
    go_wp2_with fail
    go_ret
    exact ⟨_, rfl, World.ownsRow_nil _ _ _ _, Below.refl _ _⟩
  · have HX := Lib.hid hx
    have HN := Lib.hid hn
    clear hx hn
    have hq := cloNil_no ad n c
    go_enter Try.func33, Try.ntmps33
    have hb1 : Below w.heap.size w (w.alloc (.cells #[] 55)) := (Below.refl _ _).alloc (Nat.le_refl _) _
    have hown0 : OwnE (w.alloc (.cells #[] 55)) w.heap.size (.slice (some ⟨w.heap.size, 0, none⟩) 0 0) [] := World.ownsRow_lit (e := 55) (size := 3) w #[] 0 (Nat.le_refl w.heap.size) (by unfold maxLen; omega) rfl
    have HO := Lib.hid hown0
    have HB1 := Lib.hid hb1
    clear hb1 hown0
    go_wp2_with (at_builtin; refine wpList_app_rdG rfl (.tmp 5) (.tmp 6) rfl w.heap.size _ [] rfl HO.out w.heap.size ad n c l rfl (HX.out.below HB1.out (Nat.le_refl _)) HN.out (by unfold maxLen; simp; omega) (by simp; omega) (by simp) ?_)
    intro v' w1 hown1 hgrow
    have R := HB1.out.trans ((Below.refl w.heap.size _).grown hgrow (by simp) (fun k hk => (HO.out.lt k hk).1))
    have R1 := Lib.hid (show OwnE w1 w.heap.size v' l by unfold OwnE; rw [HN.out]; simpa [encE] using hown1)
    clear hown1 hgrow
    go_wp2_with fail
    go_ret
    exact ⟨v', rfl, R1.out, R⟩
end Go.Proofs.Ytmghngehpgolgaa

/- Layer 7: the inverse projection as the program makes it: loops behind the edges, then sorted. -/
namespace Go.Proofs.Ytmghngehpgolgaa

theorem pw_ext {α : Type} {r : α → α → Prop} (ir : ∀ x, ¬ r x x) (asy : ∀ x y, r x y → ¬ r y x) : ∀ l1 l2 : List α, l1.Pairwise r → l2.Pairwise r → (∀ x, x ∈ l1 ↔ x ∈ l2) → l1 = l2
  | [], [], _, _, _ => rfl
  | [], y :: l2, _, _, h => absurd ((h y).2 (by simp)) (by simp)
  | x :: l1, [], _, _, h => absurd ((h x).1 (by simp)) (by simp)
  | x :: l1, y :: l2, h1, h2, h => by
    rw [List.pairwise_cons] at h1 h2
    have e : x = y := by
      rcases List.mem_cons.1 ((h x).1 (by simp)) with e | hx
      · exact e
      · rcases List.mem_cons.1 ((h y).2 (by simp)) with e | hy
        · exact e.symm
        · exact absurd (h1.1 y hy) (asy _ _ (h2.1 x hx))
    subst e
    rw [pw_ext ir asy l1 l2 h1.2 h2.2 fun z => ?_]
    constructor
    · intro hz
      rcases List.mem_cons.1 ((h z).1 (List.mem_cons_of_mem _ hz)) with e | hz2
      · subst e; exact absurd (h1.1 z hz) (ir z)
      · exact hz2
    · intro hz
      rcases List.mem_cons.1 ((h z).2 (List.mem_cons_of_mem _ hz)) with e | hz2
      · subst e; exact absurd (h2.1 z hz) (ir z)
      · exact hz2
/-- Loops by an event. -/
def lpsL (x : Int) (k : Nat) : List Ed := (List.range k).map fun (s : Nat) => ⟨(s : Int), x, (s : Int)⟩
def addL (a : Au) (zs : List Int) : List Ed := zs.flatMap fun x => if x ∈ a.al then [] else lpsL x a.st.toNat
theorem lps_succ (x : Int) (k : Nat) : lpsL x (k + 1) = lpsL x k ++ [⟨(k : Int), x, (k : Int)⟩] := by
  unfold lpsL; rw [List.range_succ, List.map_append]; rfl
theorem lps_len (x : Int) (k : Nat) : (lpsL x k).length = k := by simp [lpsL]
theorem add_snoc (a : Au) (zs : List Int) (x : Int) : addL a (zs ++ [x]) = addL a zs ++ (if x ∈ a.al then [] else lpsL x a.st.toNat) := by simp [addL]
theorem mem_addL {a : Au} {zs : List Int} {y : Ed} : y ∈ addL a zs ↔ y.e ∈ zs ∧ y.e ∉ a.al ∧ y.t = y.f ∧ ∃ s : Nat, s < a.st.toNat ∧ y.f = (s : Int) := by
  unfold addL
  rw [List.mem_flatMap]
  constructor
  · rintro ⟨x, hx, hy⟩
    split at hy
    · cases hy
    · next hn =>
      obtain ⟨s, hs, rfl⟩ := List.mem_map.1 hy
      exact ⟨hx, hn, rfl, s, List.mem_range.1 hs, rfl⟩
  · rintro ⟨hx, hn, ht, s, hs, hf⟩
    refine ⟨y.e, hx, ?_⟩
    rw [if_neg hn]
    exact List.mem_map.2 ⟨s, List.mem_range.2 hs, by obtain ⟨f, e, t⟩ := y; simp only at ht hf ⊢; rw [ht, hf]⟩
theorem add_len (a : Au) : ∀ zs, (addL a zs).length ≤ zs.length * a.st.toNat
  | [] => by simp [addL]
  | x :: r => by
    have ih := add_len a r
    have e : addL a (x :: r) = (if x ∈ a.al then [] else lpsL x a.st.toNat) ++ addL a r := by simp [addL]
    rw [e, List.length_append, List.length_cons, Nat.succ_mul]
    have : (if x ∈ a.al then [] else lpsL x a.st.toNat).length ≤ a.st.toNat := by split <;> simp [lps_len]
    omega
theorem ltE_or {x y : Ed} (h : x.e ≠ y.e) : ltE x y ∨ ltE y x := by unfold ltE; omega
theorem ltE_as {x y : Ed} (h : ltE x y) : ¬ ltE y x := by unfold ltE at *; omega
theorem add_keys {a : Au} (h : RightW a) {zs : List Int} (hz : zs.Pairwise (· < ·)) : (a.ed ++ addL a zs).Pairwise fun x y => ltE x y ∨ ltE y x := by
  rw [List.pairwise_append]
  refine ⟨h.edo.imp fun h => .inl h, ?_, fun x hx y hy => ltE_or fun e => (mem_addL.1 hy).2.1 (by rw [← e]; exact (h.edr x hx).2.2)⟩
  unfold addL
  rw [List.pairwise_flatMap]
  refine ⟨fun x _ => ?_, hz.imp fun {x x'} hlt y hy z hz => ?_⟩
  · split
    · exact List.Pairwise.nil
    · unfold lpsL
      rw [List.pairwise_map]
      exact List.pairwise_lt_range.imp fun hab => .inl (.inl (Int.ofNat_lt.2 hab))
  · split at hy
    · cases hy
    · split at hz
      · cases hz
      · obtain ⟨_, _, rfl⟩ := List.mem_map.1 hy
        obtain ⟨_, _, rfl⟩ := List.mem_map.1 hz
        exact ltE_or (by show x ≠ x'; omega)
/-- What the program makes is the inverse projection. -/
theorem inv_eq {a : Au} (h : RightW a) {al2 zs : List Int} (h2 : ∀ x ∈ al2, 0 ≤ x ∧ x < 32) {L : List Ed} (hz : zs.Pairwise (· < ·)) (hm : ∀ x, x ∈ zs ↔ x ∈ a.al ∨ x ∈ al2) (hp : L.Perm (a.ed ++ addL a zs)) (hs : L.Pairwise fun x y => ¬ ltE y x) :
    (⟨zs, a.st, a.mr, L⟩ : Au) = invA a al2 := by
  have hst := h.st0
  have hr := inv_right h al2
  have e1 : zs = (invA a al2).al := pw_ext (r := fun x y : Int => x < y) (fun x => Int.lt_irrefl x) (fun x y h => by omega) _ _ hz hr.alo fun x => by rw [hm, mem_inv_al h h2]
  have e2 : a.st = (invA a al2).st := (inv_st h al2).symm
  have e3 : a.mr = (invA a al2).mr := pw_ext (r := fun x y : Int => x < y) (fun x => Int.lt_irrefl x) (fun x y h => by omega) _ _ h.mro hr.mro fun x => by
    show x ∈ a.mr ↔ x ∈ ((List.range a.st.toNat).filter fun (y : Nat) => decide ((y : Int) ∈ a.mr)).map fun (y : Nat) => (y : Int)
    rw [List.mem_map]
    constructor
    · intro hx
      have := h.mrr x hx
      exact ⟨x.toNat, List.mem_filter.2 ⟨List.mem_range.2 (by omega), by rw [show ((x.toNat : Nat) : Int) = x by omega]; simpa using hx⟩, by omega⟩
    · rintro ⟨y, hy, rfl⟩
      simpa using (List.mem_filter.1 hy).2
  have e4 : L = (invA a al2).ed := by
    refine pw_ext (r := ltE) (fun x => by unfold ltE; omega) (fun x y => ltE_as) _ _ ?_ hr.edo fun y => ?_
    · have hk := (hp.pairwise_iff (R := fun x y => ltE x y ∨ ltE y x) (fun h => h.symm)).2 (add_keys h hz)
      exact (hk.and hs).imp fun h => h.1.resolve_right h.2
    · rw [hp.mem_iff, List.mem_append, mem_addL]
      show _ ↔ y ∈ (codA (invC a al2)).ed
      rw [cod_edge]
      show _ ↔ ∃ x : Nat, x < a.st.toNat ∧ y.f = (x : Int) ∧ y.e ∈ (invA a al2).al ∧ ∃ t, (if y.e ∈ a.al then stepO a (x : Int) y.e else some (x : Int)) = some t ∧ y.t = t
      rw [← e1]
      constructor
      · rintro (hy | ⟨hz1, hn, ht, s, hs1, hf⟩)
        · obtain ⟨hf, ht, he⟩ := h.edr y hy
          refine ⟨y.f.toNat, by omega, by omega, (hm _).2 (.inl he), y.t, ?_, rfl⟩
          rw [if_pos he, show ((y.f.toNat : Nat) : Int) = y.f by omega, stepO, (edgeO_some h.edo).2 ⟨hy, rfl, rfl⟩]; rfl
        · exact ⟨s, hs1, hf, hz1, (s : Int), by rw [if_neg hn], by rw [ht, hf]⟩
      · rintro ⟨x, hx, hf, he, t, ht, htt⟩
        split at ht
        · next hin =>
          left
          cases hy : edgeO a.ed (x : Int) y.e with
          | none => rw [stepO, hy] at ht; cases ht
          | some z =>
            rw [stepO, hy] at ht
            injection ht with ht
            obtain ⟨k1, k2, k3⟩ := (edgeO_some h.edo).1 hy
            have : y = z := by
              obtain ⟨f, e, t'⟩ := y
              obtain ⟨f', e', t''⟩ := z
              simp only at hf k2 k3 ht htt ⊢
              rw [hf, k2, k3, htt, ht]
            rw [this]; exact k1
        · next hin =>
          injection ht with ht
          exact .inr ⟨he, hin, by rw [htt, hf, ht], x, hx, hf⟩
  have : (⟨zs, a.st, a.mr, L⟩ : Au) = ⟨(invA a al2).al, (invA a al2).st, (invA a al2).mr, (invA a al2).ed⟩ := by rw [← e1, ← e2, ← e3, ← e4]
  exact this
end Go.Proofs.Ytmghngehpgolgaa

/- Layer 3: an automaton that is being built in a box, its alphabet too. -/
namespace Go.Proofs.Ytmghngehpgolgaa
open Go.RowKit Go.Sort

/-- An automaton that is being built in box bc: below block b1 all is as it was; its alphabet and its edges lie in rows of its own. -/
structure Ba (w1 : World) (b1 bc : Nat) (s : Int) (vm : Value) (wr : World) (al : List Int) (va : Value) (es : List Ed) (ve : Value) : Prop where
  bel : Below b1 w1 wr
  cb : Row wr bc 25 [va, .int .i64 s, vm, ve]
  ao : Own wr b1 va al
  eo : OwnE wr b1 ve es
  h1 : b1 ≤ bc
section
variable {w1 wr w2 : World} {b1 bc : Nat} {va vm ve va' ve' : Value} {s : Int} {al : List Int} {es : List Ed}
theorem Ba.h2 (h : Ba w1 b1 bc s vm wr al va es ve) : bc < wr.heap.size := h.cb.lt
theorem Ba.call (h : Ba w1 b1 bc s vm wr al va es ve) (hb : Below wr.heap.size wr w2) : Ba w1 b1 bc s vm w2 al va es ve :=
  ⟨h.bel.trans (hb.mono (Nat.le_of_lt (Nat.lt_of_le_of_lt h.h1 h.h2))), h.cb.below hb h.h2, own_below h.ao hb, own_below h.eo hb, h.h1⟩
theorem Ba.alloc (h : Ba w1 b1 bc s vm wr al va es ve) (o : Obj) : Ba w1 b1 bc s vm (wr.alloc o) al va es ve := h.call ((Below.refl _ wr).alloc (Nat.le_refl _) o)
theorem Ba.drew (h : Ba w1 b1 bc s vm wr al va es ve) : Ba w1 b1 bc s vm wr.drew al va es ve := ⟨h.bel.drew, h.cb, h.ao, h.eo, h.h1⟩
theorem Ba.drewN (h : Ba w1 b1 bc s vm wr al va es ve) (q : Nat) : Ba w1 b1 bc s vm (wr.drewN q) al va es ve := ⟨below_drewN h.bel q, h.cb, h.ao, h.eo, h.h1⟩
theorem Ba.neA (h : Ba w1 b1 bc s vm wr al va es ve) : some bc ≠ va.ownBlock := fun e => row_ne_own h.cb h.ao (by decide) e.symm
theorem Ba.neE (h : Ba w1 b1 bc s vm wr al va es ve) : some bc ≠ ve.ownBlock := fun e => row_ne_own h.cb h.eo (by decide) e.symm
/-- An edge is appended. -/
theorem Ba.edge {x : Ed} (h : Ba w1 b1 bc s vm wr al va es ve) (hg : wr.grownBy w2 ve.ownBlock) (ho : OwnE w2 b1 ve' (es ++ [x])) :
    Ba w1 b1 bc s vm (w2.setCell ⟨bc, 3, none⟩ ve') al va (es ++ [x]) ve' := by
  have g2 := h.h2
  have g1 := h.h1
  have hne := h.neE
  refine ⟨h.bel.trans (((Below.refl b1 wr).grown hg (by omega) (fun k hk => (h.eo.lt k hk).1)).setCell (p := ⟨bc, 3, none⟩) h.h1 _), ?_, ?_, ?_, h.h1⟩
  · exact (h.cb.grown hg (fun e => hne e.symm)).set 3 ve'
  · have h3 := own_row h.ao hg (owns_ne h.ao h.eo (by decide))
    exact ownsRow_setCell_other h3 (a := ⟨bc, 3, none⟩) (row_ne_own (h.cb.grown hg (fun e => hne e.symm)) h3 (by decide)) ve'
  · exact ownsRow_setCell_other ho (a := ⟨bc, 3, none⟩) (row_ne_own (h.cb.grown hg (fun e => hne e.symm)) ho (by decide)) ve'
/-- An event is appended. -/
theorem Ba.event {x : Int} (h : Ba w1 b1 bc s vm wr al va es ve) (hg : wr.grownBy w2 va.ownBlock) (ho : Own w2 b1 va' (al ++ [x])) :
    Ba w1 b1 bc s vm (w2.setCell ⟨bc, 0, none⟩ va') (al ++ [x]) va' es ve := by
  have g2 := h.h2
  have g1 := h.h1
  have hne := h.neA
  refine ⟨h.bel.trans (((Below.refl b1 wr).grown hg (by omega) (fun k hk => (h.ao.lt k hk).1)).setCell (p := ⟨bc, 0, none⟩) h.h1 _), ?_, ?_, ?_, h.h1⟩
  · exact (h.cb.grown hg (fun e => hne e.symm)).set 0 va'
  · exact ownsRow_setCell_other ho (a := ⟨bc, 0, none⟩) (row_ne_own (h.cb.grown hg (fun e => hne e.symm)) ho (by decide)) va'
  · have h3 := own_row h.eo hg (owns_ne h.eo h.ao (by decide))
    exact ownsRow_setCell_other h3 (a := ⟨bc, 0, none⟩) (row_ne_own (h.cb.grown hg (fun e => hne e.symm)) h3 (by decide)) va'
end
/-- The values of a number's append, laid open. -/
theorem int_app {w : World} {b1 l : Nat} {v : Value} {K : List Int} {x : Int} (hl : l = K.length) (hown : w.ownsRow b1 3 1 v (l + 1) (K.map (Value.int .i64) ++ [.int .i64 x])) : ∃ A c, v = .slice A (l + 1) c ∧ Own w b1 v (K ++ [x]) := by
  subst hl
  have h : Own w b1 v (K ++ [x]) := by simpa [Own] using hown
  obtain ⟨A, c, e, _, _, _⟩ := own_rdc h
  exact ⟨A, c, by simpa using e, h⟩
theorem ed_app {w : World} {b1 l : Nat} {v : Value} {K : List Ed} {x : Ed} (hl : l = K.length) (hown : w.ownsRow b1 55 3 v (l + 1) (encE K ++ [.int .i64 x.f, .int .i64 x.e, .int .i64 x.t])) : ∃ A c, v = .slice A (l + 1) c ∧ OwnE w b1 v (K ++ [x]) := by
  subst hl
  have h : OwnE w b1 v (K ++ [x]) := by unfold OwnE; rw [encE_app, List.length_append]; exact hown
  obtain ⟨A, c, e, _, _, _⟩ := ownE_rd h
  exact ⟨A, c, by simpa using e, h⟩
end Go.Proofs.Ytmghngehpgolgaa

/- Layer 7: Inverse. -/
namespace Go.Proofs.Ytmghngehpgolgaa
open Go.RowKit Go.Sort

theorem own_dr1 {w : World} {base n : Nat} {e : TypeId} {sz : Nat} {v : Value} {xs : List Value} (h : w.ownsRow base e sz v n xs) : w.drew.ownsRow base e sz v n xs := h
/-- The box of an automaton that is made. -/
def RowX (b1 : Nat) (W : World) (g : Nat) : Prop := Row W g 25 [.slice none 0 0, .int .i64 0, .slice none 0 0, .slice none 0 0] ∧ b1 ≤ g
theorem RowX.new {b1 : Nat} {X : World} (h : b1 ≤ X.heap.size) : RowX b1 (X.alloc (.cells #[.slice none 0 0, .int .i64 0, .slice none 0 0, .slice none 0 0] 25)) X.heap.size := ⟨Row.new X [.slice none 0 0, .int .i64 0, .slice none 0 0, .slice none 0 0] 25, h⟩
theorem RowX.alloc {b1 g : Nat} {X : World} (h : RowX b1 X g) (o : Obj) : RowX b1 (X.alloc o) g := ⟨h.1.alloc o, h.2⟩
theorem RowX.drew {b1 g : Nat} {X : World} (h : RowX b1 X g) : RowX b1 X.drew g := ⟨h.1, h.2⟩
/-- What a call keeps. -/
structure KpX (b1 : Nat) (w0 W w' : World) : Prop where
  bel : Below b1 w0 w'
  rows : ∀ g e cs, Row W g e cs → e ≠ 3 → Row w' g e cs
  own : ∀ v l, OwnE W b1 v l → OwnE w' b1 v l
structure KpY (b1 : Nat) (w0 W w' : World) : Prop extends KpX b1 w0 W w' where
  ownI : ∀ v l, Own W b1 v l → Own w' b1 v l
theorem KpX.rowX {b1 : Nat} {w0 W w' : World} (h : KpX b1 w0 W w') {g : Nat} (hr : RowX b1 W g) : RowX b1 w' g := ⟨h.rows _ _ _ hr.1 (by decide), hr.2⟩
theorem kpy_of {b1 : Nat} {w0 W w' : World} (hW : Below b1 w0 W) (hz : b1 ≤ W.heap.size) (hb : Below W.heap.size W w') : KpY b1 w0 W w' :=
  ⟨⟨hW.trans (hb.mono hz), fun _ _ _ hr _ => hr.below hb hr.lt, fun _ _ h => own_below h hb⟩, fun _ _ h => own_below h hb⟩
theorem kpx_grown {b1 : Nat} {w0 W w' : World} {v : Value} {zs : List Int} (hW : Below b1 w0 W) (hz : b1 ≤ W.heap.size) (ho : Own W b1 v zs) (hg : W.grownBy w' v.ownBlock) : KpX b1 w0 W w' :=
  ⟨hW.trans ((Below.refl b1 W).grown hg hz fun k hk => (ho.lt k hk).1), fun _ _ _ hr he => hr.grown hg fun e' => row_ne_own hr ho (fun e'' => he (by first | exact e'' | exact e''.symm)) (by first | exact e'.symm | exact e'),
    fun _ _ h => own_row h hg (owns_ne h ho (by decide))⟩
theorem Row.newE (w : World) (cs : List Value) (e : TypeId) {p : Nat} (hp : w.heap.size = p) : Row (w.alloc (.cells cs.toArray e)) p e cs := hp ▸ Row.new w cs e
theorem cell_s4 {W : World} {X b i : Nat} {v0 v1 v2 v3 : Value} (h : b ≠ X) : ((((W.setCell ⟨X, 0, none⟩ v0).setCell ⟨X, 1, none⟩ v1).setCell ⟨X, 2, none⟩ v2).setCell ⟨X, 3, none⟩ v3).cell? ⟨b, i, none⟩ = W.cell? ⟨b, i, none⟩ := World.cell?_of_block (a := ⟨b, i, none⟩) (heap_set4 W _ _ _ _ h)
theorem ba_fin {w2 W : World} {b1 g : Nat} {va ve vm : Value} {s : Int} {zs : List Int} {l : List Ed} (hB : Below b1 w2 W) (hX : RowX b1 W g) (hZ : Own W b1 va zs) (hE : OwnE W b1 ve l) :
    Ba w2 b1 g s vm ((((W.setCell ⟨g, 0, none⟩ va).setCell ⟨g, 1, none⟩ (.int .i64 s)).setCell ⟨g, 2, none⟩ vm).setCell ⟨g, 3, none⟩ ve) zs va l ve :=
  ⟨below_s4 _ _ _ _ hB hX.2, hX.1.set4 _ _ _ _, ownsRow_same' hZ fun k hk => heap_set4 W _ _ _ _ fun e => row_ne_own hX.1 hZ (by decide) (by rw [hk, e]),
    ownsRow_same' hE fun k hk => heap_set4 W _ _ _ _ fun e => row_ne_own hX.1 hE (by decide) (by rw [hk, e]), hX.2⟩
theorem al_le {a : Au} (h : RightW a) : a.al.length ≤ 32 := nodup_len (S := 32) (h.alo.imp fun h => by omega) (fun x hx => h.alr x hx)
theorem ba_new {w2 X : World} {b1 : Nat} {va ve vm : Value} {s : Int} {zs : List Int} {l : List Ed} (hB : Below b1 w2 X) (hz : b1 ≤ X.heap.size) (hZ : Own X b1 va zs) (hE : OwnE X b1 ve l) :
    Ba w2 b1 X.heap.size s vm (X.alloc (.cells #[va, .int .i64 s, vm, ve] 25)) zs va l ve :=
  ⟨hB.alloc hz _, Row.new X [va, .int .i64 s, vm, ve] 25, hZ.alloc _, hE.alloc _, hz⟩
theorem ed_le {a : Au} (h : RightW a) {S : Nat} (hS : a.st = (S : Int)) : a.ed.length ≤ S * 32 := by
  have h1 : (a.ed.map fun x => x.f * 32 + x.e).length ≤ S * 32 := by
    refine nodup_len ?_ fun y hy => ?_
    · rw [List.nodup_iff_pairwise_ne, List.pairwise_map]
      exact h.edo.imp_of_mem fun {x y} hx hy hlt => by
        have h1 := h.alr _ (h.edr x hx).2.2
        have h2 := h.alr _ (h.edr y hy).2.2
        unfold ltE at hlt
        omega
    · obtain ⟨x, hx, rfl⟩ := List.mem_map.1 hy
      have h1 := h.alr _ (h.edr x hx).2.2
      have h2 := (h.edr x hx).1
      rw [hS] at h2
      omega
  rwa [List.length_map] at h1
/-- What Inverse hands back. -/
noncomputable def invR (a : Au) (al2 : List Int) : Au × Int := if cweE a al2 = 0 then canR (invA a al2) else (zeroA, cweE a al2)
set_option maxHeartbeats 32000000 in
set_option maxRecDepth 100000 in
theorem jInverse_any (A : Option Addr) (n c : Nat) (s : Int) (M : Option Addr) (m d : Nat) (E : Option Addr) (k g : Nat) (A3 : Option Addr) (n3 c3 : Nat) (a : Au) (al2 : List Int) (w : World) (h : AuR w w.heap.size A n c s M m d E k g a) (ho : RdI w w.heap.size A3 al2) (hn : al2.length = n3) (hc3 : n3 ≤ c3 ∧ c3 ≤ 9223372036854775807) (hb3 : n3 ≤ 10000) :
    Calls Try.prog 9 #[.agg #[.slice A n c, .int .i64 s, .slice M m d, .slice E k g], .slice A3 n3 c3] w fun e w' => GivesA w (invR a al2) e w' := by
  have hb1 := ((Below.refl w.heap.size w).alloc (Nat.le_refl _) (.cells #[.slice A n c, .int .i64 s, .slice M m d, .slice E k g] 25)).alloc (by simp) (.cells #[.slice none 0 0, .int .i64 0, .slice none 0 0, .slice none 0 0] 25)
  obtain ⟨W1, hW1⟩ : ∃ W, W = (w.alloc (.cells #[.slice A n c, .int .i64 s, .slice M m d, .slice E k g] 25)).alloc (.cells #[.slice none 0 0, .int .i64 0, .slice none 0 0, .slice none 0 0] 25) := ⟨_, rfl⟩
  have HA := Lib.hid (show Row W1 w.heap.size 25 [.slice A n c, .int .i64 s, .slice M m d, .slice E k g] from by rw [hW1]; exact (Row.new w _ _).alloc _)
  have HR1 := Lib.hid (show Row W1 (w.heap.size + 1) 25 [.slice none 0 0, .int .i64 0, .slice none 0 0, .slice none 0 0] from by
    rw [hW1]
    have := Row.new (w.alloc (.cells #[.slice A n c, .int .i64 s, .slice M m d, .slice E k g] 25)) [.slice none 0 0, .int .i64 0, .slice none 0 0, .slice none 0 0] 25
    rw [World.size_alloc] at this; exact this)
  rw [← hW1] at hb1
  have HB1 := Lib.hid hb1
  have HCE := Lib.hid (jCheckEvents_any A n c s M m d E k g a A3 n3 c3 al2 W1 ((h.below hb1 (Nat.le_refl _)).more hb1.size) ((ho.below hb1 (Nat.le_refl _)).more hb1.size) hn hc3 (by omega))
  have HH := Lib.hid h
  have HO := Lib.hid ho
  have HN := Lib.hid hn
  have q0 := HA.out.cell 0 rfl
  have q1 := HA.out.cell 1 rfl
  have q2 := HA.out.cell 2 rfl
  have q3 := HA.out.cell 3 rfl
  obtain ⟨u, hu⟩ : ∃ u, u = cweE a al2 := ⟨_, rfl⟩
  rw [← hu] at HCE
  have HU := Lib.hid hu
  have HW1 := Lib.hid hW1
  clear h ho hn hb1 hu hW1
  go_enter Try.func9, Try.ntmps9
  go_wp2_with fail
  rw [← HW1.out]
  clear HW1
  go_wp2_with fail
  refine HCE.out.mono ?_
  rintro e w2 ⟨rfl, hb2⟩
  have HB2 := Lib.hid (HB1.out.trans (hb2.mono HB1.out.size))
  have HA2 := Lib.hid (HA.out.below hb2 HA.out.lt)
  have HR2 := Lib.hid (HR1.out.below hb2 HR1.out.lt)
  have hz1 := HB1.out.size
  have hz2 := hb2.size
  have hl1 := HR1.out.lt
  clear hb2 HCE HA HR1 q0 q1 q2 q3 HB1
  by_cases h0 : u = 0
  · have hb0 : (u != 0) = false := by simp [h0]
    have hcw := cwe_zero (show cweE a al2 = 0 by rw [← HU.out]; exact h0)
    have hri := hcw.1
    have hst := HH.out.st
    have hc0 : cweE a al2 = 0 := by rw [← HU.out]; exact h0
    have HC0 := Lib.hid hc0
    have HRI := Lib.hid hri
    have HEV := Lib.hid hcw.2
    have HST := Lib.hid hst
    have hzw : w.heap.size ≤ w2.heap.size := by omega
    have HC1 := Lib.hid (fun (W : World) (p : Nat) (hW : Below w2.heap.size w2 W) (hp : Row W p 22 [.slice A n c, .slice A3 n3 c3]) => (concat_any p 0 2 A n c A3 n3 c3 a.al al2 W ⟨hp.cell 0 rfl, hp.cell 1 rfl, ((HH.out.al.below (HB2.out.trans (hW.mono hzw)) (Nat.le_refl _)).more (Nat.le_trans hzw hW.size)), ((HO.out.below (HB2.out.trans (hW.mono hzw)) (Nat.le_refl _)).more (Nat.le_trans hzw hW.size)), HH.out.hn, HN.out, hp.lt⟩ (by have := HH.out.bn; have := al_le HRI.out.toRightW; have := HH.out.hn; omega) (by omega)).mono (R' := fun e w' => ∃ A c, e = .returned (.slice A (n + n3) c) ∧ Own w' w2.heap.size (.slice A (n + n3) c) (a.al ++ al2) ∧ KpY w2.heap.size w2 W w') fun e w' ⟨A', c', e1, e2, e3⟩ => ⟨A', c', e1, own_more e2 hW.size, kpy_of hW hW.size e3⟩)
    have HC2 := Lib.hid (fun (W : World) (A' : Option Addr) (c' : Nat) (hW : Below w2.heap.size w2 W) => (values_any A' (n + n3) c' W).mono (R' := fun e w' => ∃ Bs, e = .returned (.func (.func 59) #[] #[.pointer (some ⟨Bs, 0, none⟩)]) ∧ Row w' Bs 22 [.slice A' (n + n3) c'] ∧ KpY w2.heap.size w2 W w') fun e w' ⟨e1, e2⟩ => ⟨W.heap.size, e1, by rw [e2]; exact Row.new W [.slice A' (n + n3) c'] 22, by rw [e2]; exact kpy_of hW hW.size ((Below.refl _ W).alloc (Nat.le_refl _) _)⟩)
    have hN : (a.al ++ al2).length = n + n3 := by rw [List.length_append, HH.out.hn, HN.out]
    have HC3 := Lib.hid (fun (W : World) (Bs : Nat) (A' : Option Addr) (c' : Nat) (hW : Below w2.heap.size w2 W) (hp : Row W Bs 22 [.slice A' (n + n3) c']) (ho : Own W w2.heap.size (.slice A' (n + n3) c') (a.al ++ al2)) => (sorted_any Bs A' (n + n3) c' (a.al ++ al2) hN (by have := al_le HRI.out.toRightW; have := HH.out.hn; omega) W hp.lt (hp.cell 0 rfl) (by obtain ⟨A9, c9, e9, hr9, _, _⟩ := own_rdc ho; injection e9 with e9; subst e9; exact hr9)).mono (R' := fun e w' => ∃ A c, e = .returned (.slice A (n + n3) c) ∧ Own w' w2.heap.size (.slice A (n + n3) c) (srtI (a.al ++ al2)) ∧ KpY w2.heap.size w2 W w') fun e w' ⟨A', c', e1, e2, e3⟩ => ⟨A', c', e1, own_more e2 hW.size, kpy_of hW hW.size e3⟩)
    have HC4 := Lib.hid (fun (W : World) (A' : Option Addr) (c' : Nat) (hW : Below w2.heap.size w2 W) (ho : Own W w2.heap.size (.slice A' (n + n3) c') (srtI (a.al ++ al2))) => (compact_own W ho (by rw [srtI_len, hN]; have := al_le HRI.out.toRightW; have := HH.out.hn; omega) (srtI_sorted _)).mono (R' := fun e w' => ∃ Az lz cz zs, e = .returned (.slice Az lz cz) ∧ Own w' w2.heap.size (.slice Az lz cz) zs ∧ (zs.Pairwise (· < ·) ∧ ∀ x, x ∈ zs ↔ x ∈ a.al ∨ x ∈ al2) ∧ KpX w2.heap.size w2 W w') fun e w' ⟨A', c', zs, e1, e2, e3, e4, e5⟩ => ⟨A', zs.length, c', zs, e1, e4, ⟨e2, fun x => by rw [e3, (srtI_perm _).mem_iff, List.mem_append]⟩, kpx_grown hW hW.size ho e5⟩)
    have HC5 := Lib.hid (fun (W : World) (hW : Below w2.heap.size w2 W) => (cloneEd_any E k g a.ed W ((HH.out.ed.below (HB2.out.trans (hW.mono hzw)) (Nat.le_refl _)).more (Nat.le_trans hzw hW.size)) HH.out.hk HH.out.bk).mono (R' := fun e w' => ∃ Ae le ce, e = .returned (.slice Ae le ce) ∧ OwnE w' w2.heap.size (.slice Ae le ce) a.ed ∧ KpY w2.heap.size w2 W w') fun e w' ⟨v, e1, e2, e3⟩ => by
      obtain ⟨Ae, ce, rfl, _⟩ := ownE_rd e2
      exact ⟨Ae, a.ed.length, ce, e1, own_more e2 hW.size, kpy_of hW hW.size e3⟩)
    have HB := Lib.hid (Below.refl w2.heap.size w2)
    have hw2l : w.heap.size < w2.heap.size := HA2.out.lt
    have q0 := HA2.out.cell 0 rfl
    have q1 := HA2.out.cell 1 rfl
    have q2 := HA2.out.cell 2 rfl
    have q3 := HA2.out.cell 3 rfl
    have hlw := HA2.out.lt
    have a0 := fun cs : Array Value => fun ty => (World.cell?_alloc_lt w2 (.cells cs ty) ⟨w.heap.size, 0, none⟩ hlw).trans q0
    have a1 := fun cs : Array Value => fun ty => (World.cell?_alloc_lt w2 (.cells cs ty) ⟨w.heap.size, 1, none⟩ hlw).trans q1
    have a2 := fun cs : Array Value => fun ty => (World.cell?_alloc_lt w2 (.cells cs ty) ⟨w.heap.size, 2, none⟩ hlw).trans q2
    have a3 := fun cs : Array Value => fun ty => (World.cell?_alloc_lt w2 (.cells cs ty) ⟨w.heap.size, 3, none⟩ hlw).trans q3
    clear hcw hri hst h0 hc0 hN
    go_upto_region 4 with fail
    go_cut [7] from 18 to 33 (fun v7 wx => ∃ (bc : Nat) (va ve : Value) (zs : List Int), v7 = .pointer (some ⟨bc, 0, none⟩) ∧ Hid (Ba w2 w2.heap.size bc s (.slice M m d) wx zs va a.ed ve) ∧ Hid (zs.Pairwise (· < ·) ∧ ∀ x, x ∈ zs ↔ x ∈ a.al ∨ x ∈ al2))
    case first =>
      go_region_held3 (fun w' => w'.cell? ⟨w.heap.size, 0, none⟩ = some (.slice A n c) ∧ w'.cell? ⟨w.heap.size, 1, none⟩ = some (.int .i64 s) ∧ w'.cell? ⟨w.heap.size, 2, none⟩ = some (.slice M m d) ∧ w'.cell? ⟨w.heap.size, 3, none⟩ = some (.slice E k g)) (first | with_reducible exact ⟨q0, q1, q2, q3⟩ | with_reducible exact ⟨a0 _ _, a1 _ _, a2 _ _, a3 _ _⟩ | with_reducible exact ⟨(cell_s4 (by first | omega | (have h9 := HB.out.size; omega))).trans q0, (cell_s4 (by first | omega | (have h9 := HB.out.size; omega))).trans q1, (cell_s4 (by first | omega | (have h9 := HB.out.size; omega))).trans q2, (cell_s4 (by first | omega | (have h9 := HB.out.size; omega))).trans q3⟩ | with_reducible exact ⟨(cell_s4 (by first | omega | (have h9 := HB.out.size; omega))).trans (a0 _ _), (cell_s4 (by first | omega | (have h9 := HB.out.size; omega))).trans (a1 _ _), (cell_s4 (by first | omega | (have h9 := HB.out.size; omega))).trans (a2 _ _), (cell_s4 (by first | omega | (have h9 := HB.out.size; omega))).trans (a3 _ _)⟩ | go_keep)
        (first
        | (go_simp; go_at_call 32; refine (HC1.out _ _ (by repeat (first | exact HB.out | refine Below.drew ?_ | refine Below.alloc ?_ (by have h9 := HB.out.size; first | exact h9 | (simp; done) | (simp; omega) | (simp at h9 ⊢; omega)) _)) (by first | exact HP.out | exact HP.out.alloc _ | exact Row.new _ _ _ | exact (Row.new _ _ _).alloc _ | exact (Row.new _ _ _).drewN 1 | exact ((Row.new _ _ _).alloc _).drewN 1 | exact Row.newE _ _ _ (by simp) | exact (Row.newE _ _ _ (by simp)).alloc _ | exact (Row.newE _ _ _ (by simp)).drewN 1 | exact ((Row.newE _ _ _ (by simp)).alloc _).drewN 1)).mono ?_; rintro e w4 ⟨Ac, cc, rfl, hown, hk⟩
           have HK := Lib.hid hk
           have HC := Lib.hid hown
           clear hown hk
           (try have HP := Lib.hid (HK.out.rows _ _ _ (by first | exact HP.out | exact HP.out.alloc _ | exact Row.new _ _ _ | exact (Row.new _ _ _).alloc _ | exact (Row.new _ _ _).drewN 1 | exact ((Row.new _ _ _).alloc _).drewN 1 | exact Row.newE _ _ _ (by simp) | exact (Row.newE _ _ _ (by simp)).alloc _ | exact (Row.newE _ _ _ (by simp)).drewN 1 | exact ((Row.newE _ _ _ (by simp)).alloc _).drewN 1) (by decide)))
           (try have HV := Lib.hid (HK.out.rows _ _ _ (by first | exact HV.out | exact HV.out.alloc _ | exact HV.out.drewN 1 | exact (HV.out.alloc _).drewN 1) (by decide)))
           (try have HC := Lib.hid (HK.out.ownI _ _ (by first | exact HC.out | exact HC.out.alloc _ | exact (HC.out.alloc _).alloc _ | exact own_dr1 HC.out | exact own_dr1 (HC.out.alloc _) | exact own_dr1 ((HC.out.alloc _).alloc _))))
           (try have HS := Lib.hid (HK.out.ownI _ _ (by first | exact HS.out | exact HS.out.alloc _ | exact (HS.out.alloc _).alloc _ | exact own_dr1 HS.out | exact own_dr1 (HS.out.alloc _) | exact own_dr1 ((HS.out.alloc _).alloc _))))
           (try have HZ := Lib.hid (HK.out.ownI _ _ (by first | exact HZ.out | exact HZ.out.alloc _ | exact (HZ.out.alloc _).alloc _ | exact own_dr1 HZ.out | exact own_dr1 (HZ.out.alloc _) | exact own_dr1 ((HZ.out.alloc _).alloc _))))
           (try have HE := Lib.hid (HK.out.own _ _ (by first | exact HE.out | exact HE.out.alloc _ | exact (HE.out.alloc _).alloc _ | exact own_dr1 HE.out | exact own_dr1 (HE.out.alloc _) | exact own_dr1 ((HE.out.alloc _).alloc _))))
           (try have HX := Lib.hid (HK.out.rowX (by first | exact HX.out | exact HX.out.alloc _ | exact HX.out.drew | exact (HX.out.alloc _).drew | exact RowX.new (by have h9 := HB.out.size; first | exact h9 | (simp; done) | (simp; omega) | (simp at h9 ⊢; omega)) | exact (RowX.new (by have h9 := HB.out.size; first | exact h9 | (simp; done) | (simp; omega) | (simp at h9 ⊢; omega))).alloc _ | exact (RowX.new (by have h9 := HB.out.size; first | exact h9 | (simp; done) | (simp; omega) | (simp at h9 ⊢; omega))).drew | exact ((RowX.new (by have h9 := HB.out.size; first | exact h9 | (simp; done) | (simp; omega) | (simp at h9 ⊢; omega))).alloc _).drew)))
           (try simp only [World.size_alloc] at HX)
           have HB := Lib.hid HK.out.bel
           have q0 := (HA2.out.below HB.out HA2.out.lt).cell 0 rfl
           have q1 := (HA2.out.below HB.out HA2.out.lt).cell 1 rfl
           have q2 := (HA2.out.below HB.out HA2.out.lt).cell 2 rfl
           have q3 := (HA2.out.below HB.out HA2.out.lt).cell 3 rfl
           have hlw := (HA2.out.below HB.out HA2.out.lt).lt
           have a0 := fun cs : Array Value => fun ty => (World.cell?_alloc_lt _ (.cells cs ty) ⟨w.heap.size, 0, none⟩ hlw).trans q0
           have a1 := fun cs : Array Value => fun ty => (World.cell?_alloc_lt _ (.cells cs ty) ⟨w.heap.size, 1, none⟩ hlw).trans q1
           have a2 := fun cs : Array Value => fun ty => (World.cell?_alloc_lt _ (.cells cs ty) ⟨w.heap.size, 2, none⟩ hlw).trans q2
           have a3 := fun cs : Array Value => fun ty => (World.cell?_alloc_lt _ (.cells cs ty) ⟨w.heap.size, 3, none⟩ hlw).trans q3
           (try have z0 := HX.out.1.cell 0 rfl)
           (try have z1 := HX.out.1.cell 1 rfl)
           (try have z2 := HX.out.1.cell 2 rfl)
           (try have z3 := HX.out.1.cell 3 rfl)
           (try have f0 := HX.out.1.frozen 0)
           (try have f1 := HX.out.1.frozen 1)
           (try have f2 := HX.out.1.frozen 2)
           (try have f3 := HX.out.1.frozen 3)
           (try have hltX := HX.out.1.lt)
           (try have hgX := HX.out.2)
           have y0 := (Row.new w4 [.slice none 0 0, .int .i64 0, .slice none 0 0, .slice none 0 0] 25).cell 0 rfl
           have y1 := (Row.new w4 [.slice none 0 0, .int .i64 0, .slice none 0 0, .slice none 0 0] 25).cell 1 rfl
           have y2 := (Row.new w4 [.slice none 0 0, .int .i64 0, .slice none 0 0, .slice none 0 0] 25).cell 2 rfl
           have y3 := (Row.new w4 [.slice none 0 0, .int .i64 0, .slice none 0 0, .slice none 0 0] 25).cell 3 rfl
           have g0 := (Row.new w4 [.slice none 0 0, .int .i64 0, .slice none 0 0, .slice none 0 0] 25).frozen 0
           have g1 := (Row.new w4 [.slice none 0 0, .int .i64 0, .slice none 0 0, .slice none 0 0] 25).frozen 1
           have g2 := (Row.new w4 [.slice none 0 0, .int .i64 0, .slice none 0 0, .slice none 0 0] 25).frozen 2
           have g3 := (Row.new w4 [.slice none 0 0, .int .i64 0, .slice none 0 0, .slice none 0 0] 25).frozen 3)
        | (go_simp; go_at_call 31; refine (HC2.out _ _ _ (by repeat (first | exact HB.out | refine Below.drew ?_ | refine Below.alloc ?_ (by have h9 := HB.out.size; first | exact h9 | (simp; done) | (simp; omega) | (simp at h9 ⊢; omega)) _))).mono ?_; rintro e w4 ⟨Bs, rfl, hrow, hk⟩
           have HK := Lib.hid hk
           have HV := Lib.hid hrow
           clear hrow hk
           (try have HP := Lib.hid (HK.out.rows _ _ _ (by first | exact HP.out | exact HP.out.alloc _ | exact Row.new _ _ _ | exact (Row.new _ _ _).alloc _ | exact (Row.new _ _ _).drewN 1 | exact ((Row.new _ _ _).alloc _).drewN 1 | exact Row.newE _ _ _ (by simp) | exact (Row.newE _ _ _ (by simp)).alloc _ | exact (Row.newE _ _ _ (by simp)).drewN 1 | exact ((Row.newE _ _ _ (by simp)).alloc _).drewN 1) (by decide)))
           (try have HV := Lib.hid (HK.out.rows _ _ _ (by first | exact HV.out | exact HV.out.alloc _ | exact HV.out.drewN 1 | exact (HV.out.alloc _).drewN 1) (by decide)))
           (try have HC := Lib.hid (HK.out.ownI _ _ (by first | exact HC.out | exact HC.out.alloc _ | exact (HC.out.alloc _).alloc _ | exact own_dr1 HC.out | exact own_dr1 (HC.out.alloc _) | exact own_dr1 ((HC.out.alloc _).alloc _))))
           (try have HS := Lib.hid (HK.out.ownI _ _ (by first | exact HS.out | exact HS.out.alloc _ | exact (HS.out.alloc _).alloc _ | exact own_dr1 HS.out | exact own_dr1 (HS.out.alloc _) | exact own_dr1 ((HS.out.alloc _).alloc _))))
           (try have HZ := Lib.hid (HK.out.ownI _ _ (by first | exact HZ.out | exact HZ.out.alloc _ | exact (HZ.out.alloc _).alloc _ | exact own_dr1 HZ.out | exact own_dr1 (HZ.out.alloc _) | exact own_dr1 ((HZ.out.alloc _).alloc _))))
           (try have HE := Lib.hid (HK.out.own _ _ (by first | exact HE.out | exact HE.out.alloc _ | exact (HE.out.alloc _).alloc _ | exact own_dr1 HE.out | exact own_dr1 (HE.out.alloc _) | exact own_dr1 ((HE.out.alloc _).alloc _))))
           (try have HX := Lib.hid (HK.out.rowX (by first | exact HX.out | exact HX.out.alloc _ | exact HX.out.drew | exact (HX.out.alloc _).drew | exact RowX.new (by have h9 := HB.out.size; first | exact h9 | (simp; done) | (simp; omega) | (simp at h9 ⊢; omega)) | exact (RowX.new (by have h9 := HB.out.size; first | exact h9 | (simp; done) | (simp; omega) | (simp at h9 ⊢; omega))).alloc _ | exact (RowX.new (by have h9 := HB.out.size; first | exact h9 | (simp; done) | (simp; omega) | (simp at h9 ⊢; omega))).drew | exact ((RowX.new (by have h9 := HB.out.size; first | exact h9 | (simp; done) | (simp; omega) | (simp at h9 ⊢; omega))).alloc _).drew)))
           (try simp only [World.size_alloc] at HX)
           have HB := Lib.hid HK.out.bel
           have q0 := (HA2.out.below HB.out HA2.out.lt).cell 0 rfl
           have q1 := (HA2.out.below HB.out HA2.out.lt).cell 1 rfl
           have q2 := (HA2.out.below HB.out HA2.out.lt).cell 2 rfl
           have q3 := (HA2.out.below HB.out HA2.out.lt).cell 3 rfl
           have hlw := (HA2.out.below HB.out HA2.out.lt).lt
           have a0 := fun cs : Array Value => fun ty => (World.cell?_alloc_lt _ (.cells cs ty) ⟨w.heap.size, 0, none⟩ hlw).trans q0
           have a1 := fun cs : Array Value => fun ty => (World.cell?_alloc_lt _ (.cells cs ty) ⟨w.heap.size, 1, none⟩ hlw).trans q1
           have a2 := fun cs : Array Value => fun ty => (World.cell?_alloc_lt _ (.cells cs ty) ⟨w.heap.size, 2, none⟩ hlw).trans q2
           have a3 := fun cs : Array Value => fun ty => (World.cell?_alloc_lt _ (.cells cs ty) ⟨w.heap.size, 3, none⟩ hlw).trans q3
           (try have z0 := HX.out.1.cell 0 rfl)
           (try have z1 := HX.out.1.cell 1 rfl)
           (try have z2 := HX.out.1.cell 2 rfl)
           (try have z3 := HX.out.1.cell 3 rfl)
           (try have f0 := HX.out.1.frozen 0)
           (try have f1 := HX.out.1.frozen 1)
           (try have f2 := HX.out.1.frozen 2)
           (try have f3 := HX.out.1.frozen 3)
           (try have hltX := HX.out.1.lt)
           (try have hgX := HX.out.2)
           have y0 := (Row.new w4 [.slice none 0 0, .int .i64 0, .slice none 0 0, .slice none 0 0] 25).cell 0 rfl
           have y1 := (Row.new w4 [.slice none 0 0, .int .i64 0, .slice none 0 0, .slice none 0 0] 25).cell 1 rfl
           have y2 := (Row.new w4 [.slice none 0 0, .int .i64 0, .slice none 0 0, .slice none 0 0] 25).cell 2 rfl
           have y3 := (Row.new w4 [.slice none 0 0, .int .i64 0, .slice none 0 0, .slice none 0 0] 25).cell 3 rfl
           have g0 := (Row.new w4 [.slice none 0 0, .int .i64 0, .slice none 0 0, .slice none 0 0] 25).frozen 0
           have g1 := (Row.new w4 [.slice none 0 0, .int .i64 0, .slice none 0 0, .slice none 0 0] 25).frozen 1
           have g2 := (Row.new w4 [.slice none 0 0, .int .i64 0, .slice none 0 0, .slice none 0 0] 25).frozen 2
           have g3 := (Row.new w4 [.slice none 0 0, .int .i64 0, .slice none 0 0, .slice none 0 0] 25).frozen 3)
        | (go_simp; go_at_call 30; refine (HC3.out _ _ _ _ (by repeat (first | exact HB.out | refine Below.drew ?_ | refine Below.alloc ?_ (by have h9 := HB.out.size; first | exact h9 | (simp; done) | (simp; omega) | (simp at h9 ⊢; omega)) _)) (by first | exact HV.out | exact HV.out.alloc _ | exact HV.out.drewN 1 | exact (HV.out.alloc _).drewN 1) (by first | exact HC.out | exact HC.out.alloc _ | exact (HC.out.alloc _).alloc _ | exact own_dr1 HC.out | exact own_dr1 (HC.out.alloc _) | exact own_dr1 ((HC.out.alloc _).alloc _))).mono ?_; rintro e w4 ⟨As, cs, rfl, hown, hk⟩
           have HK := Lib.hid hk
           have HS := Lib.hid hown
           clear hown hk
           (try have HP := Lib.hid (HK.out.rows _ _ _ (by first | exact HP.out | exact HP.out.alloc _ | exact Row.new _ _ _ | exact (Row.new _ _ _).alloc _ | exact (Row.new _ _ _).drewN 1 | exact ((Row.new _ _ _).alloc _).drewN 1 | exact Row.newE _ _ _ (by simp) | exact (Row.newE _ _ _ (by simp)).alloc _ | exact (Row.newE _ _ _ (by simp)).drewN 1 | exact ((Row.newE _ _ _ (by simp)).alloc _).drewN 1) (by decide)))
           (try have HV := Lib.hid (HK.out.rows _ _ _ (by first | exact HV.out | exact HV.out.alloc _ | exact HV.out.drewN 1 | exact (HV.out.alloc _).drewN 1) (by decide)))
           (try have HC := Lib.hid (HK.out.ownI _ _ (by first | exact HC.out | exact HC.out.alloc _ | exact (HC.out.alloc _).alloc _ | exact own_dr1 HC.out | exact own_dr1 (HC.out.alloc _) | exact own_dr1 ((HC.out.alloc _).alloc _))))
           (try have HS := Lib.hid (HK.out.ownI _ _ (by first | exact HS.out | exact HS.out.alloc _ | exact (HS.out.alloc _).alloc _ | exact own_dr1 HS.out | exact own_dr1 (HS.out.alloc _) | exact own_dr1 ((HS.out.alloc _).alloc _))))
           (try have HZ := Lib.hid (HK.out.ownI _ _ (by first | exact HZ.out | exact HZ.out.alloc _ | exact (HZ.out.alloc _).alloc _ | exact own_dr1 HZ.out | exact own_dr1 (HZ.out.alloc _) | exact own_dr1 ((HZ.out.alloc _).alloc _))))
           (try have HE := Lib.hid (HK.out.own _ _ (by first | exact HE.out | exact HE.out.alloc _ | exact (HE.out.alloc _).alloc _ | exact own_dr1 HE.out | exact own_dr1 (HE.out.alloc _) | exact own_dr1 ((HE.out.alloc _).alloc _))))
           (try have HX := Lib.hid (HK.out.rowX (by first | exact HX.out | exact HX.out.alloc _ | exact HX.out.drew | exact (HX.out.alloc _).drew | exact RowX.new (by have h9 := HB.out.size; first | exact h9 | (simp; done) | (simp; omega) | (simp at h9 ⊢; omega)) | exact (RowX.new (by have h9 := HB.out.size; first | exact h9 | (simp; done) | (simp; omega) | (simp at h9 ⊢; omega))).alloc _ | exact (RowX.new (by have h9 := HB.out.size; first | exact h9 | (simp; done) | (simp; omega) | (simp at h9 ⊢; omega))).drew | exact ((RowX.new (by have h9 := HB.out.size; first | exact h9 | (simp; done) | (simp; omega) | (simp at h9 ⊢; omega))).alloc _).drew)))
           (try simp only [World.size_alloc] at HX)
           have HB := Lib.hid HK.out.bel
           have q0 := (HA2.out.below HB.out HA2.out.lt).cell 0 rfl
           have q1 := (HA2.out.below HB.out HA2.out.lt).cell 1 rfl
           have q2 := (HA2.out.below HB.out HA2.out.lt).cell 2 rfl
           have q3 := (HA2.out.below HB.out HA2.out.lt).cell 3 rfl
           have hlw := (HA2.out.below HB.out HA2.out.lt).lt
           have a0 := fun cs : Array Value => fun ty => (World.cell?_alloc_lt _ (.cells cs ty) ⟨w.heap.size, 0, none⟩ hlw).trans q0
           have a1 := fun cs : Array Value => fun ty => (World.cell?_alloc_lt _ (.cells cs ty) ⟨w.heap.size, 1, none⟩ hlw).trans q1
           have a2 := fun cs : Array Value => fun ty => (World.cell?_alloc_lt _ (.cells cs ty) ⟨w.heap.size, 2, none⟩ hlw).trans q2
           have a3 := fun cs : Array Value => fun ty => (World.cell?_alloc_lt _ (.cells cs ty) ⟨w.heap.size, 3, none⟩ hlw).trans q3
           (try have z0 := HX.out.1.cell 0 rfl)
           (try have z1 := HX.out.1.cell 1 rfl)
           (try have z2 := HX.out.1.cell 2 rfl)
           (try have z3 := HX.out.1.cell 3 rfl)
           (try have f0 := HX.out.1.frozen 0)
           (try have f1 := HX.out.1.frozen 1)
           (try have f2 := HX.out.1.frozen 2)
           (try have f3 := HX.out.1.frozen 3)
           (try have hltX := HX.out.1.lt)
           (try have hgX := HX.out.2)
           have y0 := (Row.new w4 [.slice none 0 0, .int .i64 0, .slice none 0 0, .slice none 0 0] 25).cell 0 rfl
           have y1 := (Row.new w4 [.slice none 0 0, .int .i64 0, .slice none 0 0, .slice none 0 0] 25).cell 1 rfl
           have y2 := (Row.new w4 [.slice none 0 0, .int .i64 0, .slice none 0 0, .slice none 0 0] 25).cell 2 rfl
           have y3 := (Row.new w4 [.slice none 0 0, .int .i64 0, .slice none 0 0, .slice none 0 0] 25).cell 3 rfl
           have g0 := (Row.new w4 [.slice none 0 0, .int .i64 0, .slice none 0 0, .slice none 0 0] 25).frozen 0
           have g1 := (Row.new w4 [.slice none 0 0, .int .i64 0, .slice none 0 0, .slice none 0 0] 25).frozen 1
           have g2 := (Row.new w4 [.slice none 0 0, .int .i64 0, .slice none 0 0, .slice none 0 0] 25).frozen 2
           have g3 := (Row.new w4 [.slice none 0 0, .int .i64 0, .slice none 0 0, .slice none 0 0] 25).frozen 3)
        | (go_simp; go_at_call 29; refine (HC4.out _ _ _ (by repeat (first | exact HB.out | refine Below.drew ?_ | refine Below.alloc ?_ (by have h9 := HB.out.size; first | exact h9 | (simp; done) | (simp; omega) | (simp at h9 ⊢; omega)) _)) (by first | exact HS.out | exact HS.out.alloc _ | exact (HS.out.alloc _).alloc _ | exact own_dr1 HS.out | exact own_dr1 (HS.out.alloc _) | exact own_dr1 ((HS.out.alloc _).alloc _))).mono ?_; rintro e w4 ⟨Az, lz, cz, zs, rfl, hown, hzp, hk⟩
           have HK := Lib.hid hk
           have HZ := Lib.hid hown
           have HZP := Lib.hid hzp
           clear hown hk hzp
           (try have HE := Lib.hid (HK.out.own _ _ (by first | exact HE.out | exact HE.out.alloc _ | exact (HE.out.alloc _).alloc _ | exact own_dr1 HE.out | exact own_dr1 (HE.out.alloc _) | exact own_dr1 ((HE.out.alloc _).alloc _))))
           (try have HX := Lib.hid (HK.out.rowX (by first | exact HX.out | exact HX.out.alloc _ | exact HX.out.drew | exact (HX.out.alloc _).drew | exact RowX.new (by have h9 := HB.out.size; first | exact h9 | (simp; done) | (simp; omega) | (simp at h9 ⊢; omega)) | exact (RowX.new (by have h9 := HB.out.size; first | exact h9 | (simp; done) | (simp; omega) | (simp at h9 ⊢; omega))).alloc _ | exact (RowX.new (by have h9 := HB.out.size; first | exact h9 | (simp; done) | (simp; omega) | (simp at h9 ⊢; omega))).drew | exact ((RowX.new (by have h9 := HB.out.size; first | exact h9 | (simp; done) | (simp; omega) | (simp at h9 ⊢; omega))).alloc _).drew)))
           (try simp only [World.size_alloc] at HX)
           have HB := Lib.hid HK.out.bel
           have q0 := (HA2.out.below HB.out HA2.out.lt).cell 0 rfl
           have q1 := (HA2.out.below HB.out HA2.out.lt).cell 1 rfl
           have q2 := (HA2.out.below HB.out HA2.out.lt).cell 2 rfl
           have q3 := (HA2.out.below HB.out HA2.out.lt).cell 3 rfl
           have hlw := (HA2.out.below HB.out HA2.out.lt).lt
           have a0 := fun cs : Array Value => fun ty => (World.cell?_alloc_lt _ (.cells cs ty) ⟨w.heap.size, 0, none⟩ hlw).trans q0
           have a1 := fun cs : Array Value => fun ty => (World.cell?_alloc_lt _ (.cells cs ty) ⟨w.heap.size, 1, none⟩ hlw).trans q1
           have a2 := fun cs : Array Value => fun ty => (World.cell?_alloc_lt _ (.cells cs ty) ⟨w.heap.size, 2, none⟩ hlw).trans q2
           have a3 := fun cs : Array Value => fun ty => (World.cell?_alloc_lt _ (.cells cs ty) ⟨w.heap.size, 3, none⟩ hlw).trans q3
           (try have z0 := HX.out.1.cell 0 rfl)
           (try have z1 := HX.out.1.cell 1 rfl)
           (try have z2 := HX.out.1.cell 2 rfl)
           (try have z3 := HX.out.1.cell 3 rfl)
           (try have f0 := HX.out.1.frozen 0)
           (try have f1 := HX.out.1.frozen 1)
           (try have f2 := HX.out.1.frozen 2)
           (try have f3 := HX.out.1.frozen 3)
           (try have hltX := HX.out.1.lt)
           (try have hgX := HX.out.2)
           have y0 := (Row.new w4 [.slice none 0 0, .int .i64 0, .slice none 0 0, .slice none 0 0] 25).cell 0 rfl
           have y1 := (Row.new w4 [.slice none 0 0, .int .i64 0, .slice none 0 0, .slice none 0 0] 25).cell 1 rfl
           have y2 := (Row.new w4 [.slice none 0 0, .int .i64 0, .slice none 0 0, .slice none 0 0] 25).cell 2 rfl
           have y3 := (Row.new w4 [.slice none 0 0, .int .i64 0, .slice none 0 0, .slice none 0 0] 25).cell 3 rfl
           have g0 := (Row.new w4 [.slice none 0 0, .int .i64 0, .slice none 0 0, .slice none 0 0] 25).frozen 0
           have g1 := (Row.new w4 [.slice none 0 0, .int .i64 0, .slice none 0 0, .slice none 0 0] 25).frozen 1
           have g2 := (Row.new w4 [.slice none 0 0, .int .i64 0, .slice none 0 0, .slice none 0 0] 25).frozen 2
           have g3 := (Row.new w4 [.slice none 0 0, .int .i64 0, .slice none 0 0, .slice none 0 0] 25).frozen 3)
        | (go_simp; go_at_call 33; refine (HC5.out _ (by repeat (first | exact HB.out | refine Below.drew ?_ | refine Below.alloc ?_ (by have h9 := HB.out.size; first | exact h9 | (simp; done) | (simp; omega) | (simp at h9 ⊢; omega)) _))).mono ?_; rintro e w4 ⟨Ae, le, ce, rfl, hown, hk⟩
           have HK := Lib.hid hk
           have HE := Lib.hid hown
           clear hown hk
           (try have HP := Lib.hid (HK.out.rows _ _ _ (by first | exact HP.out | exact HP.out.alloc _ | exact Row.new _ _ _ | exact (Row.new _ _ _).alloc _ | exact (Row.new _ _ _).drewN 1 | exact ((Row.new _ _ _).alloc _).drewN 1 | exact Row.newE _ _ _ (by simp) | exact (Row.newE _ _ _ (by simp)).alloc _ | exact (Row.newE _ _ _ (by simp)).drewN 1 | exact ((Row.newE _ _ _ (by simp)).alloc _).drewN 1) (by decide)))
           (try have HV := Lib.hid (HK.out.rows _ _ _ (by first | exact HV.out | exact HV.out.alloc _ | exact HV.out.drewN 1 | exact (HV.out.alloc _).drewN 1) (by decide)))
           (try have HC := Lib.hid (HK.out.ownI _ _ (by first | exact HC.out | exact HC.out.alloc _ | exact (HC.out.alloc _).alloc _ | exact own_dr1 HC.out | exact own_dr1 (HC.out.alloc _) | exact own_dr1 ((HC.out.alloc _).alloc _))))
           (try have HS := Lib.hid (HK.out.ownI _ _ (by first | exact HS.out | exact HS.out.alloc _ | exact (HS.out.alloc _).alloc _ | exact own_dr1 HS.out | exact own_dr1 (HS.out.alloc _) | exact own_dr1 ((HS.out.alloc _).alloc _))))
           (try have HZ := Lib.hid (HK.out.ownI _ _ (by first | exact HZ.out | exact HZ.out.alloc _ | exact (HZ.out.alloc _).alloc _ | exact own_dr1 HZ.out | exact own_dr1 (HZ.out.alloc _) | exact own_dr1 ((HZ.out.alloc _).alloc _))))
           (try have HE := Lib.hid (HK.out.own _ _ (by first | exact HE.out | exact HE.out.alloc _ | exact (HE.out.alloc _).alloc _ | exact own_dr1 HE.out | exact own_dr1 (HE.out.alloc _) | exact own_dr1 ((HE.out.alloc _).alloc _))))
           (try have HX := Lib.hid (HK.out.rowX (by first | exact HX.out | exact HX.out.alloc _ | exact HX.out.drew | exact (HX.out.alloc _).drew | exact RowX.new (by have h9 := HB.out.size; first | exact h9 | (simp; done) | (simp; omega) | (simp at h9 ⊢; omega)) | exact (RowX.new (by have h9 := HB.out.size; first | exact h9 | (simp; done) | (simp; omega) | (simp at h9 ⊢; omega))).alloc _ | exact (RowX.new (by have h9 := HB.out.size; first | exact h9 | (simp; done) | (simp; omega) | (simp at h9 ⊢; omega))).drew | exact ((RowX.new (by have h9 := HB.out.size; first | exact h9 | (simp; done) | (simp; omega) | (simp at h9 ⊢; omega))).alloc _).drew)))
           (try simp only [World.size_alloc] at HX)
           have HB := Lib.hid HK.out.bel
           have q0 := (HA2.out.below HB.out HA2.out.lt).cell 0 rfl
           have q1 := (HA2.out.below HB.out HA2.out.lt).cell 1 rfl
           have q2 := (HA2.out.below HB.out HA2.out.lt).cell 2 rfl
           have q3 := (HA2.out.below HB.out HA2.out.lt).cell 3 rfl
           have hlw := (HA2.out.below HB.out HA2.out.lt).lt
           have a0 := fun cs : Array Value => fun ty => (World.cell?_alloc_lt _ (.cells cs ty) ⟨w.heap.size, 0, none⟩ hlw).trans q0
           have a1 := fun cs : Array Value => fun ty => (World.cell?_alloc_lt _ (.cells cs ty) ⟨w.heap.size, 1, none⟩ hlw).trans q1
           have a2 := fun cs : Array Value => fun ty => (World.cell?_alloc_lt _ (.cells cs ty) ⟨w.heap.size, 2, none⟩ hlw).trans q2
           have a3 := fun cs : Array Value => fun ty => (World.cell?_alloc_lt _ (.cells cs ty) ⟨w.heap.size, 3, none⟩ hlw).trans q3
           (try have z0 := HX.out.1.cell 0 rfl)
           (try have z1 := HX.out.1.cell 1 rfl)
           (try have z2 := HX.out.1.cell 2 rfl)
           (try have z3 := HX.out.1.cell 3 rfl)
           (try have f0 := HX.out.1.frozen 0)
           (try have f1 := HX.out.1.frozen 1)
           (try have f2 := HX.out.1.frozen 2)
           (try have f3 := HX.out.1.frozen 3)
           (try have hltX := HX.out.1.lt)
           (try have hgX := HX.out.2)
           have y0 := (Row.new w4 [.slice none 0 0, .int .i64 0, .slice none 0 0, .slice none 0 0] 25).cell 0 rfl
           have y1 := (Row.new w4 [.slice none 0 0, .int .i64 0, .slice none 0 0, .slice none 0 0] 25).cell 1 rfl
           have y2 := (Row.new w4 [.slice none 0 0, .int .i64 0, .slice none 0 0, .slice none 0 0] 25).cell 2 rfl
           have y3 := (Row.new w4 [.slice none 0 0, .int .i64 0, .slice none 0 0, .slice none 0 0] 25).cell 3 rfl
           have g0 := (Row.new w4 [.slice none 0 0, .int .i64 0, .slice none 0 0, .slice none 0 0] 25).frozen 0
           have g1 := (Row.new w4 [.slice none 0 0, .int .i64 0, .slice none 0 0, .slice none 0 0] 25).frozen 1
           have g2 := (Row.new w4 [.slice none 0 0, .int .i64 0, .slice none 0 0, .slice none 0 0] 25).frozen 2
           have g3 := (Row.new w4 [.slice none 0 0, .int .i64 0, .slice none 0 0, .slice none 0 0] 25).frozen 3))
      all_goals
        go_wp2_with fail
        go_meet
        case rel => exact ⟨_, .slice Az lz cz, .slice Ae le ce, zs, rfl, Lib.hid (by first | exact ba_fin (by repeat (first | exact HB.out | refine Below.drew ?_ | refine Below.alloc ?_ (by have h9 := HB.out.size; first | exact h9 | (simp; done) | (simp; omega) | (simp at h9 ⊢; omega)) _)) (by first | exact HX.out | exact HX.out.alloc _ | exact HX.out.drew | exact (HX.out.alloc _).drew | exact RowX.new (by have h9 := HB.out.size; first | exact h9 | (simp; done) | (simp; omega) | (simp at h9 ⊢; omega)) | exact (RowX.new (by have h9 := HB.out.size; first | exact h9 | (simp; done) | (simp; omega) | (simp at h9 ⊢; omega))).alloc _ | exact (RowX.new (by have h9 := HB.out.size; first | exact h9 | (simp; done) | (simp; omega) | (simp at h9 ⊢; omega))).drew | exact ((RowX.new (by have h9 := HB.out.size; first | exact h9 | (simp; done) | (simp; omega) | (simp at h9 ⊢; omega))).alloc _).drew) (by first | exact HZ.out | exact HZ.out.alloc _ | exact (HZ.out.alloc _).alloc _ | exact own_dr1 HZ.out | exact own_dr1 (HZ.out.alloc _) | exact own_dr1 ((HZ.out.alloc _).alloc _)) (by first | exact HE.out | exact HE.out.alloc _ | exact (HE.out.alloc _).alloc _ | exact own_dr1 HE.out | exact own_dr1 (HE.out.alloc _) | exact own_dr1 ((HE.out.alloc _).alloc _)) | exact ba_new (by repeat (first | exact HB.out | refine Below.drew ?_ | refine Below.alloc ?_ (by have h9 := HB.out.size; first | exact h9 | (simp; done) | (simp; omega) | (simp at h9 ⊢; omega)) _)) (by have h9 := HB.out.size; first | exact h9 | (simp; done) | (simp; omega) | (simp at h9 ⊢; omega)) (by first | exact HZ.out | exact HZ.out.alloc _ | exact (HZ.out.alloc _).alloc _ | exact own_dr1 HZ.out | exact own_dr1 (HZ.out.alloc _) | exact own_dr1 ((HZ.out.alloc _).alloc _)) (by first | exact HE.out | exact HE.out.alloc _ | exact (HE.out.alloc _).alloc _ | exact own_dr1 HE.out | exact own_dr1 (HE.out.alloc _) | exact own_dr1 ((HE.out.alloc _).alloc _)) | exact (ba_new (by repeat (first | exact HB.out | refine Below.drew ?_ | refine Below.alloc ?_ (by have h9 := HB.out.size; first | exact h9 | (simp; done) | (simp; omega) | (simp at h9 ⊢; omega)) _)) (by have h9 := HB.out.size; first | exact h9 | (simp; done) | (simp; omega) | (simp at h9 ⊢; omega)) (by first | exact HZ.out | exact HZ.out.alloc _ | exact (HZ.out.alloc _).alloc _ | exact own_dr1 HZ.out | exact own_dr1 (HZ.out.alloc _) | exact own_dr1 ((HZ.out.alloc _).alloc _)) (by first | exact HE.out | exact HE.out.alloc _ | exact (HE.out.alloc _).alloc _ | exact own_dr1 HE.out | exact own_dr1 (HE.out.alloc _) | exact own_dr1 ((HE.out.alloc _).alloc _))).drew), HZP⟩
    case rest =>
      obtain ⟨bc, va, ve, zs, rfl, hba, HZP⟩ := hcut
      obtain ⟨S, hS⟩ : ∃ S : Nat, s = (S : Int) := ⟨s.toNat, by have h1 := HRI.out.st0; have h2 := HST.out; omega⟩
      have hS4 : S ≤ 4096 := by have h1 := HRI.out.st1; have h2 := HST.out; omega
      subst hS
      have hz32 : zs.length ≤ 32 := nodup_len (S := 32) (HZP.out.1.imp fun h => by omega) (fun x hx => by
        rcases (HZP.out.2 x).1 hx with h | h
        · exact HRI.out.toRightW.alr x h
        · exact HEV.out x h)
      have hed := ed_le HRI.out.toRightW HST.out
      have hsN : a.st.toNat = S := by rw [HST.out]; simp
      have HSN := Lib.hid hsN
      obtain ⟨lz, hlz⟩ : ∃ l, l = zs.length := ⟨_, rfl⟩
      have HLZ := Lib.hid hlz
      obtain ⟨Az, cz, rfl, hrz, hcz, hmz⟩ := own_rdc hba.out.ao
      rw [← hlz] at hba hz32 hcz
      have c0 := hba.out.cb.cell 0 rfl
      have HBA0 := Lib.hid (show Ba w2 w2.heap.size bc (S : Int) (.slice M m d) wc zs (.slice Az lz cz) (a.ed ++ addL a (zs.take 0)) ve from by rw [List.take_zero]; simpa [addL] using hba.out)
      have HUA := Lib.hid (show Up a.al from up_of HRI.out.toRightW.alo)
      obtain ⟨iE, iE0, iE1, iE2, iE3⟩ := info_parts info_edge
      clear q0 q1 q2 q3 a0 a1 a2 a3 HC1 HC2 HC3 HC4 HC5 HB hba hrz hlz hsN
      go_wp2_with fail
      clear c0
      go_loopw [37] (fun iv wr => ∃ (t : Nat) (ve : Value), t ≤ lz ∧ iv = .int .i64 t ∧ Hid (Ba w2 w2.heap.size bc (S : Int) (.slice M m d) wr zs (.slice Az lz cz) (a.ed ++ addL a (zs.take t)) ve)) (fun i _ => lz - (intOf i).toNat)
      case atStart => exact ⟨0, ve, Nat.zero_le _, rfl, HBA0⟩
      case round =>
        clear HBA0
        obtain ⟨t, ve, htl, rfl, hba⟩ := hrel
        have hbz := hba.out.bel.size
        have hAw := HA2.out.below hba.out.bel HA2.out.lt
        have p0 := hAw.cell 0 rfl
        have p1 := hAw.cell 1 rfl
        have hzw2 : w.heap.size ≤ w2.heap.size := by omega
        by_cases hlt : t < lz
        · obtain ⟨A', c', e', hrz, _, _⟩ := own_rdc hba.out.ao
          injection e' with e1 e2 e3
          subst e1 e3
          obtain ⟨b, o, rfl, hbA, hcA⟩ := hrz (by rw [← HLZ.out]; omega)
          have hz : t < zs.length := by rw [← HLZ.out]; exact hlt
          have hc1 := hcA t hz
          obtain ⟨x, hx⟩ : ∃ x, x = zs.getD t 0 := ⟨_, rfl⟩
          rw [← hx] at hc1
          have HTK := Lib.hid (show zs.take (t + 1) = zs.take t ++ [x] by rw [take_getD hz, hx])
          have HCO := Lib.hid (jContains_any A n c wr.heap.size a.al x wr ((HH.out.al.below (HB2.out.trans (hba.out.bel.mono hzw2)) (Nat.le_refl _)).more (Nat.le_trans hzw2 hbz)) HH.out.hn (by have := HH.out.bn; omega) HUA.out)
          have hadl := add_len a (zs.take t)
          rw [List.length_take, HSN.out] at hadl
          have hadl2 : min t zs.length * S ≤ 32 * 4096 := Nat.mul_le_mul (by rw [← HLZ.out]; omega) hS4
          have hes0 : (a.ed ++ addL a (zs.take t)).length ≤ 300000 := by
            rw [List.length_append]
            have : S * 32 ≤ 4096 * 32 := Nat.mul_le_mul hS4 (Nat.le_refl _)
            omega
          have z4 : (t : Int) < (lz : Int) := by omega
          have z5 : (0 : Int) ≤ (t : Int) := by omega
          clear hrz e2 hcA hz hx hadl hadl2 hAw
          by_cases hin : x ∈ a.al
          · rw [decide_eq_true hin] at HCO
            have HNX := Lib.hid (show Ba w2 w2.heap.size bc (S : Int) (.slice M m d) wr zs (.slice (some ⟨b, o, none⟩) lz cz) (a.ed ++ addL a (zs.take (t + 1))) ve from by rw [HTK.out, add_snoc, if_pos hin, List.append_nil]; exact hba.out)
            clear hin hba
            go_wp2_with fail
            refine HCO.out.mono ?_
            rintro e w4 ⟨rfl, rfl⟩
            go_wp2_with fail
            go_roundw
            case rel => exact ⟨t + 1, ve, by omega, by go_num, HNX⟩
            case measure => simp [intOf]; omega
          · rw [decide_eq_false hin] at HCO
            have HNI := Lib.hid hin
            have HBA1 := Lib.hid (show Ba w2 w2.heap.size bc (S : Int) (.slice M m d) wr zs (.slice (some ⟨b, o, none⟩) lz cz) ((a.ed ++ addL a (zs.take t)) ++ lpsL x 0) ve from by simpa [lpsL] using hba.out)
            clear hin hba
            go_wp2_with fail
            refine HCO.out.mono ?_
            rintro e w4 ⟨rfl, rfl⟩
            go_wp2_with fail
            clear p0 p1 hc1 HCO
            go_loopw [47] (fun jv wx => ∃ (j : Nat) (ve : Value), j ≤ S ∧ jv = .int .i64 j ∧ Hid (Ba w2 w2.heap.size bc (S : Int) (.slice M m d) wx zs (.slice (some ⟨b, o, none⟩) lz cz) ((a.ed ++ addL a (zs.take t)) ++ lpsL x j) ve)) (fun jv _ => S - (intOf jv).toNat)
            case atStart => exact ⟨0, ve, Nat.zero_le _, rfl, HBA1⟩
            case round =>
              clear HBA1 hbz
              obtain ⟨j, ve, hj, rfl, hba⟩ := hrel
              have hbz := hba.out.bel.size
              by_cases h1 : j < S
              · obtain ⟨es, hes⟩ : ∃ es, es = (a.ed ++ addL a (zs.take t)) ++ lpsL x j := ⟨_, rfl⟩
                have HNX := Lib.hid (show es ++ [⟨(j : Int), x, (j : Int)⟩] = (a.ed ++ addL a (zs.take t)) ++ lpsL x (j + 1) by rw [hes, lps_succ, List.append_assoc])
                have hesl : es.length ≤ 310000 := by rw [hes, List.length_append, lps_len]; omega
                rw [← hes] at hba
                obtain ⟨E1, g1, rfl, _, hE2, hE3⟩ := ownE_rd hba.out.eo
                obtain ⟨le, hle⟩ : ∃ l, l = es.length := ⟨_, rfl⟩
                have heo := Lib.hid (show wr.ownsRow w2.heap.size 55 3 (.slice E1 es.length g1) es.length (encE es) from hba.out.eo)
                rw [← hle] at hba heo hE2 hesl
                have HLE := Lib.hid hle
                have e3 := hba.out.cb.cell 3 rfl
                have e3' := hba.out.cb.frozen 3
                have hbcl := hba.out.h2
                have z6 : (j : Int) < (S : Int) := by omega
                clear hes hle
                go_wp2_with (at_builtin; refine wpList_append_own _ rfl _ _ 23 rfl w2.heap.size 55 iE (.agg #[.int .i64 0, .int .i64 0, .int .i64 0]) 3 24 Try.underlying23 iE0 iE1 iE2 iE3 rfl (by decide) _ _ _ rfl (heo.out.alloc _) ⟨wr.heap.size, 0, none⟩ 1 1 [.int .i64 (j : Int), .int .i64 x, .int .i64 (j : Int)] rfl rfl (news_three (by simp)) (by intro u hu; simp at hu; rcases hu with rfl | rfl | rfl <;> rfl) (by unfold maxLen; omega) (by omega) (by simp; omega) ?_)
                intro v5 w5 hown5 hgrow5 _
                obtain ⟨A5, c5, rfl, ho5⟩ := ed_app (x := ⟨(j : Int), x, (j : Int)⟩) HLE.out hown5
                have hb5 := hba.out.alloc (.cells #[.int .i64 (j : Int), .int .i64 x, .int .i64 (j : Int)] 55)
                have hcb := Lib.hid (hb5.cb.grown hgrow5 (fun e => hb5.neE e.symm))
                have hba6 := Lib.hid (Ba.edge hb5 hgrow5 ho5)
                rw [HNX.out] at hba6
                have e3 := hcb.out.cell 3 rfl
                have e3' := hcb.out.frozen 3
                clear hown5 hgrow5 ho5 hb5
                go_wp2_with fail
                go_roundw
                case rel => exact ⟨j + 1, _, by omega, by go_num, hba6⟩
                case measure => simp [intOf]; omega
              · obtain rfl : j = S := by omega
                have HNX := Lib.hid (show Ba w2 w2.heap.size bc (j : Int) (.slice M m d) wr zs (.slice (some ⟨b, o, none⟩) lz cz) (a.ed ++ addL a (zs.take (t + 1))) ve from by rw [HTK.out, add_snoc, if_neg HNI.out, HSN.out, ← List.append_assoc]; exact hba.out)
                clear hba
                go_wp2_with fail
                go_roundw
                case rel => exact ⟨t + 1, ve, by omega, by go_num, HNX⟩
                case measure => simp [intOf]; omega
        · have hzall : zs.take t = zs := List.take_of_length_le (by rw [← HLZ.out]; omega)
          rw [hzall] at hba
          have hadl := add_len a zs
          rw [HSN.out] at hadl
          have hadl2 : zs.length * S ≤ 32 * 4096 := Nat.mul_le_mul (by rw [← HLZ.out]; omega) hS4
          have hesl : (a.ed ++ addL a zs).length ≤ 300000 := by
            rw [List.length_append]
            have : S * 32 ≤ 4096 * 32 := Nat.mul_le_mul hS4 (Nat.le_refl _)
            omega
          obtain ⟨E1, g1, rfl, _, hE2, hE3⟩ := ownE_rd hba.out.eo
          have HSO := Lib.hid (jSortEd_any wr hba.out.eo (by omega))
          obtain ⟨le, hle⟩ : ∃ l, l = (a.ed ++ addL a zs).length := ⟨_, rfl⟩
          rw [← hle] at HSO hba hesl
          have HLE := Lib.hid hle
          have e3 := hba.out.cb.cell 3 rfl
          have z9 : ¬ ((t : Int) < (lz : Int)) := by omega
          clear hzall hadl hadl2 hle hAw p0 p1
          go_wp2_with fail
          refine HSO.out.mono ?_
          rintro e w9 ⟨rfl, E9, g9, l9, hv9, hp9, hs9, hr9, hg9, hc9, hm9⟩
          injection hv9 with v1 v2 v3
          subst v1 v3
          have hcb9 := hba.out.cb.grown hg9 (fun e => hba.out.neE e.symm)
          have hao9 := own_row hba.out.ao hg9 (owns_ne hba.out.ao hba.out.eo (by decide))
          have hbel9 : Below w2.heap.size w2 w9 := hba.out.bel.trans ((Below.refl w2.heap.size wr).grown hg9 hbz fun k hk => (hba.out.eo.lt k hk).1)
          have hinv := inv_eq HRI.out.toRightW HEV.out HZP.out.1 HZP.out.2 hp9 hs9
          obtain ⟨A', c', e', hrz, hcz', hmz'⟩ := own_rdc hao9
          injection e' with e1 e2 e3
          subst e1 e3
          have hb29 := HB2.out.trans (hbel9.mono hzw2)
          have HAU := Lib.hid (show AuR w9 w9.heap.size Az lz cz (S : Int) M m d E1 le g1 (invA a al2) from by
            rw [← hinv]
            exact { al := hrz, mr := (HH.out.mr.below hb29 (Nat.le_refl _)).more hb29.size, ed := hr9, hn := HLZ.out.symm, hm := HH.out.hm, hk := v2.symm, st := HST.out, cn := ⟨hcz, hmz⟩, cm := HH.out.cm, ck := ⟨by omega, hm9⟩, bn := by omega, bm := HH.out.bm, bk := by omega })
          have hchk : chkE (invA a al2) = 0 := Right.chk { inv_right HRI.out.toRightW al2 with st1 := by rw [inv_st HRI.out.toRightW]; exact HRI.out.st1 }
          have HCR := Lib.hid (show canR (invA a al2) = (canA (invA a al2), 0) by unfold canR; rw [if_neg (by rw [hchk]; simp)])
          have HCA := Lib.hid (mCanonical_any Az lz cz (S : Int) M m d E1 le g1 (invA a al2) w9 HAU.out)
          rw [HCR.out] at HCA
          have hr := Lib.hid (show invR a al2 = (canA (invA a al2), 0) by unfold invR; rw [if_pos HC0.out, HCR.out])
          have HB9 := Lib.hid hbel9
          have HB29 := Lib.hid hb29
          have b0 := hcb9.cell 0 rfl
          have b1 := hcb9.cell 1 rfl
          have b2 := hcb9.cell 2 rfl
          have b3 := hcb9.cell 3 rfl
          have hz9 := hbel9.size
          clear hp9 hs9 hr9 hg9 hc9 hm9 v2 hcb9 hao9 hbel9 hinv e2 hrz hcz' hmz' hb29 hchk e3 hba HSO
          go_wp2_with fail
          refine HCA.out.mono ?_
          rintro e w10 ⟨v, rfl, hau, hb10⟩
          obtain ⟨A2, n2, c2, s2, M2, m2, d2, E2, k2, g2, rfl, hrest⟩ := hau
          have hau2 := Lib.hid (show AuF (canA (invA a al2)) (.agg #[.slice A2 n2 c2, .int .i64 s2, .slice M2 m2 d2, .slice E2 k2 g2]) w10 w9.heap.size from ⟨_, _, _, _, _, _, _, _, _, _, rfl, hrest⟩)
          have hB10 := Lib.hid (HB29.out.trans (hb10.mono HB29.out.size))
          have hB210 := HB9.out.trans (hb10.mono HB9.out.size)
          have hRa := HR2.out.below hB210 HR2.out.lt
          have r0 := hRa.cell 0 rfl
          have r1 := hRa.cell 1 rfl
          have r2 := hRa.cell 2 rfl
          have r3 := hRa.cell 3 rfl
          have s0 := hRa.frozen 0
          have s1 := hRa.frozen 1
          have s2' := hRa.frozen 2
          have s3 := hRa.frozen 3
          have hlR := HR2.out.lt
          clear hrest hRa hb10 hB210 b0 b1 b2 b3
          go_wp2_with fail
          (try simp only [Exit.inBlock, Exit.then])
          refine bodyPost_ret (v := .tuple #[.agg #[.slice A2 n2 c2, .int .i64 s2, .slice M2 m2 d2, .slice E2 k2 g2], .int .i64 0]) ?_ rfl ⟨.agg #[.slice A2 n2 c2, .int .i64 s2, .slice M2 m2 d2, .slice E2 k2 g2], by rw [hr.out], ?_, ?_⟩
          · rw [results_cell_tmp1 rfl]
            go_simp
          · rw [hr.out]
            exact (hau2.out.set4 (by omega) _ _ _ _).more (by omega)
          · exact below_set4 hB10.out (by omega) _ _ _ _
  · have hb0 : (u != 0) = true := by simp [h0]
    have hr := Lib.hid (show invR a al2 = (zeroA, u) by unfold invR; rw [← HU.out, if_neg h0])
    have r0 := HR2.out.cell 0 rfl
    have r1 := HR2.out.cell 1 rfl
    have r2 := HR2.out.cell 2 rfl
    have r3 := HR2.out.cell 3 rfl
    have s0 := HR2.out.frozen 0
    have s1 := HR2.out.frozen 1
    have s2 := HR2.out.frozen 2
    have s3 := HR2.out.frozen 3
    clear h0
    go_wp2_with fail
    (try simp only [Exit.inBlock, Exit.then])
    refine bodyPost_ret (v := .tuple #[.agg #[.slice none 0 0, .int .i64 0, .slice none 0 0, .slice none 0 0], .int .i64 u]) ?_ rfl ⟨_, by rw [hr.out], ?_, ?_⟩
    · rw [results_cell_tmp1 rfl]
      go_simp
    · rw [hr.out]; exact AuF.zero _ _
    · exact below_set4 HB2.out (by omega) _ _ _ _
end Go.Proofs.Ytmghngehpgolgaa
