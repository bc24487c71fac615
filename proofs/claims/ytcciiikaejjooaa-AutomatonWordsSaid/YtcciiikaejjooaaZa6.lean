/- Texts merged: what follows were texts of their own. -/
import Derived.RangeFuncBox
import Derived.RangeFuncLeaves
import Derived.Shelf.Abstract
import Derived.OwnWalkIn
import Derived.TacticsInMore
import Derived.LoopNIn
import Derived.LoopIn
import Derived.Maps.AppendAt
import Derived.Test.YtcciiikaejjooaaZa3
import Derived.Shelf.SlSortCmp.WholeK
import Derived.Shelf.SlSortCmp.NoneTotal
import Derived.Test.YtcciiikaejjooaaProg
import Derived.Test.YtcciiikaejjooaaZa5
import Derived.Test.YtcciiikaejjooaaZa4
import Derived.Test.YtcciiikaejjooaaZa2
/- Layer 3: slices.Sorted(slices.Values(l)): the numbers of a list in increasing order, in new memory. -/
namespace Go.Proofs.Ytcciiikaejjooaa
open Go.RowKit Go.Shelf

attribute [local go_sem] Oper.semAt_some

def uptoF {α : Type} (f : Nat → α) (k : Nat) : List α := (List.range k).map f
theorem uptoF_succ {α : Type} (f : Nat → α) (k : Nat) : uptoF f (k + 1) = uptoF f k ++ [f k] := by simp [uptoF, List.range_succ]
theorem uptoF_length {α : Type} (f : Nat → α) (k : Nat) : (uptoF f k).length = k := by simp [uptoF]
theorem uptoF_all (zs : List Int) : uptoF (fun j => zs[j]?.getD 0) zs.length = zs := by
  apply List.ext_getElem
  · simp [uptoF]
  · intro i h1 h2
    simp [uptoF, h2]
theorem uptoF_take (zs : List Int) {k : Nat} (hk : k ≤ zs.length) : uptoF (fun j => zs[j]?.getD 0) k = zs.take k := by
  apply List.ext_getElem
  · simp [uptoF, hk]
  · intro i h1 h2
    have : i < zs.length := by simp [uptoF] at h1; omega
    simp [uptoF, this]

set_option maxRecDepth 100000 in
set_option maxHeartbeats 2000000 in
/-- The iterator of slices.Values: each number in its turn, for every round that keeps what lay below n₀. -/
theorem values1_in (F : Fence) (n : Nat) (hf : F.fn 78) (hro : F.round = none) (hn : 1 ≤ n) (l Bs n₀ b off len cap : Nat) (zs : List Int) (hreach : len * 8 ≤ 140737488351232) (hb : b < n₀) (J Jx : List Int → World → Prop)
    (hY : ∀ pre x W, J pre W → pre.length < len → YieldAt F (n - 1) Try.prog l #[.int .i64 x] W fun e W' =>
      (e = .returned (.bool true) ∧ J (pre ++ [x]) W' ∧ Below n₀ W W') ∨ (e = .returned (.bool false) ∧ Jx (pre ++ [x]) W'))
    (W : World) (hBs : W.cell? ⟨Bs, 0, none⟩ = some (.slice (some ⟨b, off, none⟩) len cap)) (hc : ∀ j, j < len → W.cell? ⟨b, off + j, none⟩ = some (.int .i64 (zs[j]?.getD 0))) (h0 : J [] W) :
    CallsIn F n Try.prog 78 #[.func (.yield l) #[] #[], .pointer (some ⟨Bs, 0, none⟩)] W fun e W' => (∃ v, e = .returned v) ∧
      ((∃ ys, ys = uptoF (fun j => zs[j]?.getD 0) len ∧ J ys W') ∨ (∃ pre, (∃ k, k ≤ len ∧ pre = uptoF (fun j => zs[j]?.getD 0) k) ∧ Jx pre W')) := by
  refine callsIn_of_wp Try.func78 rfl hf ?_ hro
  simp only [Try.ntmps78, List.size_toArray, List.length_cons, List.length_nil, Nat.reduceAdd, Nat.reduceSub, Array.replicate_succ, Array.replicate_zero, List.push_toArray, List.append_toArray, List.nil_append, List.cons_append]
  gi_wp2
  gi_loopw [7] (fun i wr => ∃ k : Nat, k ≤ len ∧ i = .int .i64 k ∧ J (uptoF (fun j => zs[j]?.getD 0) k) wr ∧ Below n₀ W wr)
    (fun i _ => len - (intOf i).toNat)
  case atStart => exact ⟨0, Nat.zero_le _, rfl, h0, Below.refl _ _⟩
  case round =>
    obtain ⟨k, hk, rfl, hJs, hnx⟩ := hrel
    have hcx : k < len → wr.cell? ⟨b, off + k, none⟩ = some (.int .i64 (zs[k]?.getD 0)) := fun h => (hnx.cell (p := ⟨b, off + k, none⟩) hb).trans (hc k h)
    by_cases hlt : k < len
    · obtain ⟨fn, tmps, assign, body, hy, hR⟩ := hY _ (zs[k]?.getD 0) wr hJs (by rw [uptoF_length]; exact hlt)
      have hcx' := hcx hlt
      gi_wp2
      refine hR.mono ?_
      rintro e W3 (⟨rfl, hJ3, hk3⟩ | ⟨rfl, hJx3⟩)
      · gi_wp2
        go_roundw
        case rel => exact ⟨k + 1, by omega, by simp, by rw [uptoF_succ]; exact hJ3, hnx.trans hk3⟩
        case measure => simp [intOf]; omega
      · gi_wp2
        refine bodyPost_ret (results_none rfl _ _ _) rfl ?_
        exact ⟨⟨_, rfl⟩, .inr ⟨_, ⟨k + 1, by omega, (uptoF_succ _ _).symm⟩, hJx3⟩⟩
    · obtain rfl : k = len := by omega
      gi_wp2
      go_end0
      exact ⟨⟨_, rfl⟩, .inl ⟨_, rfl, hJs⟩⟩

set_option maxRecDepth 100000 in
set_option maxHeartbeats 1000000 in
theorem values1_nil_in (F : Fence) (n : Nat) (hf : F.fn 78) (hro : F.round = none) (l Bs : Nat) (ad : Option Addr) (cap : Nat) (J : List Int → World → Prop) (W : World) (hBs : W.cell? ⟨Bs, 0, none⟩ = some (.slice ad 0 cap)) (h0 : J [] W) :
    CallsIn F n Try.prog 78 #[.func (.yield l) #[] #[], .pointer (some ⟨Bs, 0, none⟩)] W fun e W' => (∃ v, e = .returned v) ∧ J [] W' := by
  refine callsIn_of_wp Try.func78 rfl hf ?_ hro
  simp only [Try.ntmps78, List.size_toArray, List.length_cons, List.length_nil, Nat.reduceAdd, Nat.reduceSub, Array.replicate_succ, Array.replicate_zero, List.push_toArray, List.append_toArray, List.nil_append, List.cons_append]
  gi_wp2
  gi_loopw [7] (fun i wr => i = .int .i64 0 ∧ J [] wr) (fun _ _ => 0)
  case atStart => exact ⟨rfl, h0⟩
  case round =>
    obtain ⟨rfl, hJs⟩ := hrel
    gi_wp2
    go_end0
    exact ⟨⟨_, rfl⟩, hJs⟩

theorem values_stops (F : Fence) (n : Nat) (hf : F.fn 78) (hro : F.round = none) (hn : 1 ≤ n) (Bs n₀ : Nat) (ad : Option Addr) (len cap : Nat) (zs : List Int) (hlen : zs.length = len) (hreach : len * 8 ≤ 140737488351232) (w : World) (hBs : Bs < w.heap.size) (hn₀ : n₀ ≤ w.heap.size)
    (hc : w.cell? ⟨Bs, 0, none⟩ = some (.slice ad len cap)) (hI : RdI w n₀ ad zs) :
    SeqStopsK F n Try.prog 78 #[.pointer (some ⟨Bs, 0, none⟩)] (fun x : Int => #[Value.int .i64 x]) (Below n₀) (fun ys => ys = zs) (fun pre => pre <+: zs) zs.length w := fun l J Jx W hW _ _ hY h0 => by
  have hc' := (hW.cell (p := ⟨Bs, 0, none⟩) hBs).trans hc
  have hI' := hI.below (hW.mono hn₀) (Nat.le_refl _)
  rcases Nat.eq_zero_or_pos len with h | h
  · subst h
    have hz : zs = [] := List.eq_nil_of_length_eq_zero hlen
    subst hz
    exact (values1_nil_in F n hf hro l Bs ad cap J W hc' h0).mono fun e W' ⟨he, hj⟩ => ⟨he, .inl ⟨_, rfl, hj⟩⟩
  · obtain ⟨b, off, rfl, hb, hcs⟩ := hI' (by omega)
    refine (values1_in F n hf hro hn l Bs n₀ b off len cap zs hreach hb J Jx (by rw [← hlen]; exact hY) W hc' (fun j hj => by rw [hcs j (by omega)]; rfl) h0).mono ?_
    rintro e W' ⟨he, ⟨ys, rfl, hj⟩ | ⟨pre, ⟨k, hk, rfl⟩, hj⟩⟩
    · exact ⟨he, .inl ⟨_, by rw [← hlen]; exact uptoF_all zs, hj⟩⟩
    · exact ⟨he, .inr ⟨_, by rw [uptoF_take zs (by omega)]; exact List.take_prefix _ _, hj⟩⟩

set_option maxRecDepth 100000 in
set_option maxHeartbeats 2000000 in
theorem appendSeq_in (F : Fence) (n : Nat) (hf : F.fn 87) (hf2 : F.fn 78) (hro : F.round = none) (hn : 3 ≤ n) (Bs : Nat) (ad : Option Addr) (len cap : Nat) (zs : List Int) (hl : zs.length = len) (hlen : len ≤ 100000) (w : World) (hBs : Bs < w.heap.size)
    (hc0 : w.cell? ⟨Bs, 0, none⟩ = some (.slice ad len cap)) (hI : RdI w w.heap.size ad zs) :
    CallsIn F n Try.prog 87 #[.slice none 0 0, .func (.func 78) #[] #[.pointer (some ⟨Bs, 0, none⟩)]] w fun e W' => ∃ v, e = .returned v ∧ W'.ownsRow w.heap.size 3 1 v zs.length (zs.map (Value.int .i64)) ∧ Below w.heap.size w W' := by
  have h1 : 1 ≤ n := by omega
  obtain ⟨i0, hi, hz0, hz1, hz2⟩ := info_parts info_int
  refine callsIn_of_wp_marks Try.func87 rfl hf ?_ hro
  simp only [Try.ntmps87, List.size_toArray, List.length_cons, List.length_nil, Nat.reduceAdd, Nat.reduceSub, Array.replicate_succ, Array.replicate_zero, List.push_toArray, List.append_toArray, List.nil_append, List.cons_append]
  gi_wp2
  have bO := Boxed.new w 22 (.slice none 0 0)
  have hB0 : Below w.heap.size w (w.alloc (.cells #[.slice none 0 0] 22)) := (Below.refl _ w).alloc (Nat.le_refl _) _
  refine wpIn_rangeFunc_ownG hro h1 (gf := 78) (lb := #[.pointer (some ⟨Bs, 0, none⟩)]) rfl hf2 (enters_of Try.func78 (by kernel_rfl) rfl)
    (values_stops F (n - 1) hf2 hro (by omega) Bs w.heap.size ad len cap zs hl (by omega) _ (by simp; omega) (by simp) ((hB0.cell (p := ⟨Bs, 0, none⟩) hBs).trans hc0) (hI.below hB0 (Nat.le_refl _))) belowK_t (belowK_b (by simp)) (Below.refl _ _) (fun _ => rfl)
    (fun pre W => (∃ v, Boxed W w.heap.size 22 v ∧ W.ownsRow w.heap.size 3 1 v pre.length (pre.map (Value.int .i64)) ∧ (v = .slice none 0 0 ↔ pre = [])) ∧ Below w.heap.size w W)
    (fun _ _ _ => False)
    (OwnFrom.and (Own.from (holdsRow_own w.heap.size w.heap.size 22 3 1 (fun pre => pre.length) (fun pre => pre.map (Value.int .i64)) (fun pre v => v = .slice none 0 0 ↔ pre = [])) _) (ownFrom_below (Nat.le_refl _) (by simp)))
    (fun _ _ _ _ _ hs _ _ => hs)
    ⟨⟨_, bO, World.ownsRow_nil _ _ _ _, by simp⟩, hB0⟩
    (fun x => { tmps := #[.slice none 0 0, .func (.func 78) #[] #[.pointer (some ⟨Bs, 0, none⟩)], .pointer (some ⟨w.heap.size, 0, none⟩), undef, .slice none 0 0, .int .i64 x, .func (.func 78) #[] #[.pointer (some ⟨Bs, 0, none⟩)], .int .i64 x, undef, undef, undef, undef, undef], defers := [] }) ?assign ?body ?done ?stop
  case assign =>
    intro l x W K hK
    gi_wp2
    exact hK
  case body =>
    rintro l pre x W ⟨⟨v, hv, hrow, hnil⟩, hB⟩ hlt
    have hc := hv.cell
    gi_wp2_with (gi_at_builtin; refine wpListIn_append_own _ rfl _ _ 22 rfl w.heap.size 3 i0 (.int .i64 0) 1 8 Try.underlying22 hi hz0 hz1 hz2 rfl (by decide) _ _ _ rfl (hrow.alloc _) ⟨W.heap.size, 0, none⟩ 1 1 [.int .i64 x] rfl rfl (cell_one_new _ _ _) (by simp [Value.oneCell']) (by unfold maxLen; omega) (by omega) (by have := hB.size; simp; omega) ?_; intro v' w1 hown' hgrow _; obtain ⟨g', cap', rfl⟩ := ownsRow_succ hown'; obtain ⟨hv1, hv2, hr2, hk2, hb2⟩ := hv.appended (by decide) hrow hB.size (Nat.le_refl _) hown' hgrow; have hc1 := hv1.cell; have hf1 := hv1.frozen)
    exact ⟨hk2.from _, hb2, ⟨_, hv2, by simpa using hr2, by simp⟩, hB.trans hb2⟩
  case done =>
    rintro D ys W hD rfl ⟨⟨v, hv, hrow, hnil⟩, hB⟩ hK
    have hc := hv.cell
    gi_wp2
    refine ⟨by simp, .inl ⟨_, _, rfl, run_takeDeferred hK, ?_⟩⟩
    exact ⟨_, results_tmp rfl _ _ _, v, rfl, ownsRow_putObj hrow _ hK rfl, hB.trans (belowK_b (w := w) (Nat.le_refl _) W D _ _ (by simp at hD; omega) hK rfl rfl)⟩
  case stop =>
    rintro D c pre W _ _ h _
    exact h.elim
end Go.Proofs.Ytcciiikaejjooaa

/- Contracts of the library at this program, laid in plain words. -/
namespace Go.Proofs.Ytcciiikaejjooaa
open Go.Shelf
def layEd_ren : Go.Shelf.Ren := ⟨fun | 6 => 63 | 15 => 82 | 14 => 81 | 28 => 97 | 29 => 98 | 20 => 89 | 21 => 90 | 22 => 91 | 23 => 92 | 24 => 93 | 25 => 94 | 26 => 95 | 27 => 96 | 46 => 107 | 47 => 108 | 48 => 109 | 49 => 110 | 50 => 111 | 57 => 115 | n => n, fun | 22 => 23 | 24 => 67 | 25 => 88 | 3 => 3 | 39 => 98 | 0 => 0 | 53 => 114 | 55 => 116 | 4 => 4 | 46 => 108 | 45 => 107 | 50 => 76 | 5 => 5 | 9 => 9 | 66 => 122 | 70 => 126 | 76 => 130 | 77 => 60 | n => n, fun | n => n⟩
theorem layEd : Go.Proofs.SlLaysF0.n6 Try.prog layEd_ren := {
  mixed := by kernel_rfl
  f6 := ⟨Try.f63.name, by decide, Try.func63.trans (congrArg some (by kernel_rfl))⟩
  f14 := ⟨Try.f81.name, by decide, Try.func81.trans (congrArg some (by kernel_rfl))⟩
  f15 := Try.func82.trans (congrArg some (by kernel_rfl))
  f20 := ⟨Try.f89.name, by decide, Try.func89.trans (congrArg some (by kernel_rfl))⟩
  f21 := ⟨Try.f90.name, by decide, Try.func90.trans (congrArg some (by kernel_rfl))⟩
  f22 := ⟨Try.f91.name, by decide, Try.func91.trans (congrArg some (by kernel_rfl))⟩
  f23 := ⟨Try.f92.name, by decide, Try.func92.trans (congrArg some (by kernel_rfl))⟩
  f24 := ⟨Try.f93.name, by decide, Try.func93.trans (congrArg some (by kernel_rfl))⟩
  f25 := ⟨Try.f94.name, by decide, Try.func94.trans (congrArg some (by kernel_rfl))⟩
  f26 := ⟨Try.f95.name, by decide, Try.func95.trans (congrArg some (by kernel_rfl))⟩
  f27 := ⟨Try.f96.name, by decide, Try.func96.trans (congrArg some (by kernel_rfl))⟩
  f28 := Try.func97.trans (congrArg some (by kernel_rfl))
  f29 := Try.func98.trans (congrArg some (by kernel_rfl))
  f46 := ⟨Try.f107.name, by decide, Try.func107.trans (congrArg some (by kernel_rfl))⟩
  f47 := Try.func108.trans (congrArg some (by kernel_rfl))
  f48 := Try.func109.trans (congrArg some (by kernel_rfl))
  f49 := ⟨Try.f110.name, by decide, Try.func110.trans (congrArg some (by kernel_rfl))⟩
  f50 := ⟨Try.f111.name, by decide, Try.func111.trans (congrArg some (by kernel_rfl))⟩
  f57 := ⟨Try.f115.name, by decide, Try.func115.trans (congrArg some (by kernel_rfl))⟩
  t0 := Try.underlying0
  a0 := Try.isAgg0
  z0 := Try.sizeOf0
  v0 := Try.zeroValue0
  t3 := Try.underlying3
  a3 := Try.isAgg3
  z3 := Try.sizeOf3
  v3 := Try.zeroValue3
  t4 := Try.underlying4
  a4 := Try.isAgg4
  z4 := Try.sizeOf4
  v4 := Try.zeroValue4
  t5 := Try.underlying5
  a5 := Try.isAgg5
  z5 := Try.sizeOf5
  v5 := Try.zeroValue5
  t9 := Try.underlying9
  a9 := Try.isAgg9
  z9 := Try.sizeOf9
  v9 := Try.zeroValue9
  t22 := Try.underlying23
  a22 := Try.isAgg23
  z22 := Try.sizeOf23
  v22 := Try.zeroValue23
  t25 := Try.underlying88
  a25 := Try.isAgg88
  z25 := Try.sizeOf88
  v25 := Try.zeroValue88
  t39 := Try.underlying98
  a39 := Try.isAgg98
  z39 := Try.sizeOf98
  v39 := Try.zeroValue98
  t45 := Try.underlying107
  a45 := Try.isAgg107
  z45 := Try.sizeOf107
  v45 := Try.zeroValue107
  t46 := Try.underlying108
  a46 := Try.isAgg108
  z46 := Try.sizeOf108
  v46 := Try.zeroValue108
  t50 := Try.underlying76
  a50 := Try.isAgg76
  z50 := Try.sizeOf76
  v50 := Try.zeroValue76
  t53 := Try.underlying114
  a53 := Try.isAgg114
  z53 := Try.sizeOf114
  v53 := Try.zeroValue114
  t55 := Try.underlying116
  a55 := Try.isAgg116
  z55 := Try.sizeOf116
  v55 := Try.zeroValue116
  t66 := Try.underlying122
  a66 := Try.isAgg122
  z66 := Try.sizeOf122
  v66 := Try.zeroValue122
  t70 := Try.underlying126
  a70 := Try.isAgg126
  z70 := Try.sizeOf126
  v70 := Try.zeroValue126
  t76 := Try.underlying130
  a76 := Try.isAgg130
  z76 := Try.sizeOf130
  v76 := Try.zeroValue130
  t77 := Try.underlying60
  a77 := Try.isAgg60
  z77 := Try.sizeOf60
  v77 := Try.zeroValue60 }
end Go.Proofs.Ytcciiikaejjooaa

/- Layer 3: slices.Sorted, checkNewEvents, slices.SortFunc of edges. -/
namespace Go.Proofs.Ytcciiikaejjooaa
open Go.RowKit Go.Sort

set_option maxHeartbeats 400000 in
theorem collect_any (Bs : Nat) (ad : Option Addr) (len cap : Nat) (zs : List Int) (hl : zs.length = len) (hlen : len ≤ 100000) (w : World) (hBs : Bs < w.heap.size)
    (hc0 : w.cell? ⟨Bs, 0, none⟩ = some (.slice ad len cap)) (hI : RdI w w.heap.size ad zs) :
    Calls Try.prog 77 #[.func (.func 78) #[] #[.pointer (some ⟨Bs, 0, none⟩)]] w fun e W' => ∃ v, e = .returned v ∧ Own W' w.heap.size v zs ∧ Below w.heap.size w W' := by
  have H := Lib.hid ((callsIn_wide (n := 5)).1 (appendSeq_in Fence.wide 5 trivial trivial rfl (by omega) Bs ad len cap zs hl hlen w hBs hc0 hI))
  clear hl hc0 hI hBs
  go_enter Try.func77, Try.ntmps77
  go_wp2_with (go_at_call 87; refine H.out.mono ?_; rintro e w1 ⟨v, rfl, ho, hb⟩)
  go_ret
  exact ⟨v, rfl, ho, hb⟩
set_option maxHeartbeats 400000 in
theorem sorted_any (Bs : Nat) (ad : Option Addr) (len cap : Nat) (zs : List Int) (hl : zs.length = len) (hlen : len ≤ 100000) (w : World) (hBs : Bs < w.heap.size)
    (hc0 : w.cell? ⟨Bs, 0, none⟩ = some (.slice ad len cap)) (hI : RdI w w.heap.size ad zs) :
    Calls Try.prog 60 #[.func (.func 78) #[] #[.pointer (some ⟨Bs, 0, none⟩)]] w fun e W' => ∃ A c, e = .returned (.slice A len c) ∧ Own W' w.heap.size (.slice A len c) (srtI zs) ∧ Below w.heap.size w W' := by
  have H := Lib.hid (collect_any Bs ad len cap zs hl hlen w hBs hc0 hI)
  have HL := Lib.hid hl
  clear hl hc0 hI hBs
  go_enter Try.func60, Try.ntmps60
  go_wp2_with fail
  refine H.out.mono ?_
  rintro e w1 ⟨v, rfl, ho, hb⟩
  have HO := Lib.hid ho
  have HB := Lib.hid hb
  have HS := Lib.hid (sort_own w1 ho (by rw [HL.out]; exact hlen))
  clear ho hb
  go_wp2_with fail
  refine HS.out.mono ?_
  rintro e w2 ⟨rfl, ho2, hg2⟩
  have HB2 := Lib.hid (HB.out.grown hg2 HB.out.size (fun k hk => (HO.out.lt k hk).1))
  obtain ⟨A', c', rfl, _⟩ := own_rd ho2
  have e1 : (srtI zs).length = len := by rw [srtI_len, HL.out]
  have HO2 := Lib.hid ho2
  rw [e1] at HO2
  have HE := Lib.hid e1
  clear ho2 hg2 e1
  go_wp2_with fail
  go_ret
  exact ⟨A', c', congrArg (fun k : Nat => Ending.returned (.slice A' k c')) HE.out, HO2.out, HB2.out⟩
theorem values_any (A : Option Addr) (n c : Nat) (w : World) : Calls Try.prog 61 #[.slice A n c] w fun e w' => e = .returned (.func (.func 78) #[] #[.pointer (some ⟨w.heap.size, 0, none⟩)]) ∧ w' = w.alloc (.cells #[.slice A n c] 22) := by
  go_enter Try.func61, Try.ntmps61
  go_wp2
  go_ret
  exact ⟨rfl, rfl⟩

theorem idx_none {zs : List Int} {x : Int} {k : Nat} (hk : k = zs.length) (h : x ∉ zs.take k) : x ∉ zs := by
  rwa [List.take_of_length_le (by omega)] at h
set_option maxHeartbeats 400000 in
theorem index_any (A : Option Addr) (n c Bx : Nat) (zs : List Int) (x : Int) (w : World) (hx : RdI w Bx A zs) (hn : zs.length = n) (hb : n ≤ 140737488355328) :
    Calls Try.prog 86 #[.slice A n c, .int .i64 x] w fun e w' => (∃ i : Int, e = .returned (.int .i64 i) ∧ (x ∈ zs ↔ 0 ≤ i)) ∧ w = w' := by
  have HN := Lib.hid hn
  clear hn
  go_enter Try.func86, Try.ntmps86
  go_wp2
  go_loop [8] (fun i => ∃ k : Nat, k ≤ n ∧ i = .int .i64 k ∧ Hid (x ∉ zs.take k)) (fun i => n - (intOf i).toNat)
  case atStart => exact ⟨0, Nat.zero_le _, rfl, by simp [Hid]⟩
  case round =>
    obtain ⟨k, hk, rfl, ht⟩ := hrel
    by_cases hlt : k < n
    · obtain ⟨b1, o1, rfl, _, hc1⟩ := hx (by rw [HN.out]; omega)
      have hz : k < zs.length := by rw [HN.out]; exact hlt
      have h1 := hc1 k hz
      obtain ⟨y, hye⟩ : ∃ y, y = zs.getD k 0 := ⟨_, rfl⟩
      rw [← hye] at h1
      clear hc1 hx
      by_cases hyx : x = y
      · have hr := Lib.hid (show x ∈ zs by rw [hyx, hye]; exact getD_mem hz)
        have hb1 : (x == y) = true := by simpa using hyx
        clear hyx hye ht hz
        go_wp2
        go_ret
        exact ⟨⟨k, rfl, fun _ => by omega, fun _ => hr.out⟩, rfl⟩
      · have hr := Lib.hid (show x ∉ zs.take (k + 1) by rw [mem_snoc_take hz, not_or]; exact ⟨ht.out, by rw [← hye]; exact fun e => hyx e.symm⟩)
        have hb1 : (x == y) = false := by simpa using hyx
        clear hyx hye ht hz
        go_wp2
        go_round
        case rel => exact ⟨k + 1, by omega, by go_num, hr⟩
        case measure => simp [intOf]; omega
    · have hr := Lib.hid (idx_none (by rw [HN.out]; omega) ht.out)
      go_wp2
      go_ret
      exact ⟨⟨-1, rfl, fun h => absurd h hr.out, fun h => by omega⟩, rfl⟩
theorem containsInt_any (A : Option Addr) (n c Bx : Nat) (zs : List Int) (x : Int) (w : World) (hx : RdI w Bx A zs) (hn : zs.length = n) (hb : n ≤ 140737488355328) :
    Calls Try.prog 76 #[.slice A n c, .int .i64 x] w fun e w' => e = .returned (.bool (decide (x ∈ zs))) ∧ w = w' := by
  have H := Lib.hid (index_any A n c Bx zs x w hx hn hb)
  clear hx hn
  go_enter Try.func76, Try.ntmps76
  go_wp2_with fail
  refine H.out.mono ?_
  rintro e w' ⟨⟨i, rfl, hi⟩, rfl⟩
  have hd := Lib.hid (show decide (0 ≤ i) = decide (x ∈ zs) by rw [decide_eq_decide]; exact hi.symm)
  clear hi
  go_wp2_with fail
  go_ret
  exact ⟨ret_bool hd.out, rfl⟩

/-- The first error of a list of new events. -/
def neGo : List Int → List Int → Int
  | _, [] => 0
  | seen, x :: r => if x < 0 ∨ 32 ≤ x then 2 else if x ∈ seen then 8 else neGo (seen ++ [x]) r
def neE (zs : List Int) : Int := neGo [] zs
theorem ne_range {zs : List Int} {k : Nat} {v : Int} (h : k < zs.length) (hv : neGo (zs.take k) (zs.drop k) = v) (hx : zs.getD k 0 < 0 ∨ 32 ≤ zs.getD k 0) : v = 2 := by
  rw [← hv, drop_step zs k h, neGo, if_pos hx]
theorem ne_dup {zs : List Int} {k : Nat} {v : Int} (h : k < zs.length) (hv : neGo (zs.take k) (zs.drop k) = v) (hx : ¬ (zs.getD k 0 < 0 ∨ 32 ≤ zs.getD k 0)) (hm : zs.getD k 0 ∈ zs.take k) : v = 8 := by
  rw [← hv, drop_step zs k h, neGo, if_neg hx, if_pos hm]
theorem ne_next {zs : List Int} {k : Nat} {v : Int} (h : k < zs.length) (hv : neGo (zs.take k) (zs.drop k) = v) (hx : ¬ (zs.getD k 0 < 0 ∨ 32 ≤ zs.getD k 0)) (hm : zs.getD k 0 ∉ zs.take k) : neGo (zs.take (k + 1)) (zs.drop (k + 1)) = v := by
  rw [← hv, drop_step zs k h, neGo, if_neg hx, if_neg hm]
  congr 1
  rw [List.take_succ_eq_append_getElem h]; simp [List.getD, List.getElem?_eq_getElem h]
theorem ne_end {zs : List Int} {k : Nat} {v : Int} (hk : k = zs.length) (hv : neGo (zs.take k) (zs.drop k) = v) : v = 0 := by
  rw [← hv, hk, List.drop_of_length_le (Nat.le_refl _), neGo]

set_option maxHeartbeats 800000 in
theorem checkNew_any (A : Option Addr) (n c : Nat) (zs : List Int) (w : World) (hx : RdI w w.heap.size A zs) (hn : zs.length = n) (hnc : n ≤ c) (hb : n ≤ 100000) :
    Calls Try.prog 59 #[.slice A n c] w fun e w' => e = .returned (.int .i64 (neE zs)) ∧ w = w' := by
  have HN := Lib.hid hn
  obtain ⟨v, hv⟩ : ∃ v, v = neE zs := ⟨_, rfl⟩
  rw [← hv]
  have HV := Lib.hid hv
  clear hn hv
  go_enter Try.func59, Try.ntmps59
  go_wp2
  go_loop [7] (fun i => ∃ k : Nat, k ≤ n ∧ i = .int .i64 k ∧ Hid (neGo (zs.take k) (zs.drop k) = v)) (fun i => n - (intOf i).toNat)
  case atStart => exact ⟨0, Nat.zero_le _, rfl, HV.out.symm⟩
  case round =>
    obtain ⟨k, hk, rfl, ht⟩ := hrel
    by_cases hlt : k < n
    · have hz : k < zs.length := by rw [HN.out]; exact hlt
      have HC := Lib.hid (fun y => containsInt_any A k c w.heap.size (zs.take k) y w (hx.take k) (by rw [List.length_take]; omega) (by omega))
      obtain ⟨b1, o1, rfl, _, hc1⟩ := hx (by rw [HN.out]; omega)
      have h1 := hc1 k hz
      obtain ⟨x, hxe⟩ : ∃ x, x = zs.getD k 0 := ⟨_, rfl⟩
      rw [← hxe] at h1
      by_cases hx0 : x < 0 ∨ 32 ≤ x
      · have hr := Lib.hid (ne_range hz ht.out (by rw [← hxe]; exact hx0))
        clear ht hxe hc1 hx hz
        rcases hx0 with hx1 | hx1
        · go_wp2_with fail
          go_ret
          exact ⟨ret_int hr.out.symm, rfl⟩
        · have hx2 : ¬ x < 0 := by omega
          go_wp2_with fail
          go_ret
          exact ⟨ret_int hr.out.symm, rfl⟩
      · have hx1 : ¬ x < 0 := by omega
        have hx2 : ¬ 32 ≤ x := by omega
        obtain ⟨r, hr⟩ : ∃ r, decide (x ∈ zs.take k) = r := ⟨_, rfl⟩
        have HC1 := Lib.hid (by have h := HC.out x; rw [hr] at h; exact h)
        cases r
        · have hf := Lib.hid (ne_next hz ht.out (by rw [← hxe]; exact hx0) (by rw [← hxe]; simpa using hr))
          clear ht hxe hc1 hx hz hr hx0
          go_wp2_with fail
          refine HC1.out.mono ?_
          rintro e w' ⟨rfl, rfl⟩
          go_wp2_with fail
          go_round
          case rel => exact ⟨k + 1, by omega, by go_num, hf⟩
          case measure => simp [intOf]; omega
        · have hf := Lib.hid (ne_dup hz ht.out (by rw [← hxe]; exact hx0) (by rw [← hxe]; simpa using hr))
          clear ht hxe hc1 hx hz hr hx0
          go_wp2_with fail
          refine HC1.out.mono ?_
          rintro e w' ⟨rfl, rfl⟩
          go_wp2_with fail
          go_ret
          exact ⟨ret_int hf.out.symm, rfl⟩
    · have hr := Lib.hid (ne_end (by rw [HN.out]; omega) ht.out)
      go_wp2_with fail
      go_ret
      exact ⟨ret_int hr.out.symm, rfl⟩

theorem grown_sort {α : Type} [Inhabited α] (enc : α → Value) (w : World) (blk off m : Nat) (dk : Array α) (os : Array Obj) : w.grownBy (Go.Sort.grow (putRow enc (Go.Sort.ahead w m) blk off dk) os) (some blk) := by
  refine ⟨rfl, rfl, rfl, by simp, fun k hk hne => ?_⟩
  rw [heap_grow_old _ _ (by simpa using hk)]
  have hne' : blk ≠ k := fun e => hne (by rw [e])
  simp only [putRow, mapBlock, Array.getElem?_modify, if_neg hne']
  rfl
instance : Inhabited Ed := ⟨⟨0, 0, 0⟩⟩
def encEd (x : Ed) : List Value := [.int .i64 x.f, .int .i64 x.e, .int .i64 x.t]
theorem cmp_swo : SWO (Go.Proofs.ltOf cmpE) where
  irrefl x := by unfold Go.Proofs.ltOf; simp only [decide_eq_false_iff_not]; rw [cmpE_lt]; exact ltE_irrefl x
  trans x y z h1 h2 := by unfold Go.Proofs.ltOf at *; simp only [decide_eq_true_eq] at *; rw [cmpE_lt] at *; exact ltE_trans h1 h2
  ntrans x y z h1 h2 := by unfold Go.Proofs.ltOf at *; simp only [decide_eq_false_iff_not] at *; rw [cmpE_lt] at *; unfold ltE at *; omega
theorem cmp_lays (blk off size : Nat) (w : World) : CmpLays Try.prog 64 #[] encEd 3 cmpE blk off size w :=
  fun _ _ _ _ x y => compareEdges_any x.f x.e x.t y.f y.e y.t _
theorem sortEd_any {base : Nat} {v : Value} {l : List Ed} (w : World) (h : OwnE w base v l) (hl : l.length ≤ 1000000) :
    Calls Try.prog 63 #[v, .func (.func 64) #[] #[]] w fun e w' => e = .returned (.tuple #[]) ∧ ∃ A c l', v = .slice A l'.length c ∧ l'.Perm l ∧ l'.Pairwise (fun x y => ¬ ltE y x) ∧ RdG w' w'.heap.size A l' ∧ w.grownBy w' v.ownBlock ∧ l'.length ≤ c ∧ c ≤ 9223372036854775807 := by
  rcases h.2 with ⟨rfl, h0⟩ | ⟨g, cap, cur, rfl, hg, hh, hn, hcap, hsz, htake⟩
  · have hz : l = [] := List.eq_nil_of_length_eq_zero h0
    subst hz
    refine Calls.mono (show Calls Try.prog 63 _ w _ from AnyF.slices_SortFunc_none layEd none 0 _ w) ?_
    rintro e w' ⟨rfl, rfl⟩
    exact ⟨rfl, none, 0, [], rfl, List.Perm.refl _, List.Pairwise.nil, RdG.nil _ _ _, World.grownBy.refl _ _, Nat.le_refl _, by omega⟩
  · have hgl := (h.lt g rfl).2
    have hH : HoldsK encEd 3 w g 0 l.toArray := fun t ht => by
      rw [size_flatK] at ht
      have ht3 : t < l.length * 3 := by simpa using ht
      have hj : t / 3 < l.length := by omega
      refine ⟨?_, ?_⟩
      · rw [Nat.zero_add, World.ownsRow.cellAt (cap := cap) h t (by omega), get_flatK _ _ _ t (by simpa using ht3)]
        obtain ⟨e0, e1, e2⟩ := encE_at l (t / 3) _ (List.getElem?_eq_getElem hj)
        have hg : l.toArray[t / 3]! = l[t / 3] := by simp [hj]
        rw [hg]
        rcases (show t % 3 = 0 ∨ t % 3 = 1 ∨ t % 3 = 2 by omega) with hm | hm | hm
        · rw [hm]; have ht : t = t / 3 * 3 := by omega
          conv => lhs; rw [ht]
          rw [e0]; rfl
        · rw [hm]; have ht : t = t / 3 * 3 + 1 := by omega
          conv => lhs; rw [ht]
          rw [e1]; rfl
        · rw [hm]; have ht : t = t / 3 * 3 + 2 := by omega
          conv => lhs; rw [ht]
          rw [e2]; rfl
      · rw [Nat.zero_add]
        exact World.ownsRow.frozenAt (cap := cap) h t
    have eg : ∀ args w, (callFunc 64 args).run Try.prog w = .ok (.enter 64 args) w := enters_of Try.func64 (by kernel_rfl) rfl
    refine Calls.mono (show Calls Try.prog 63 _ w _ from AnyQ.slices_SortFunc layEd 3 Try.isAgg67 Try.sizeOf67 encEd (fun _ => rfl) (fun x v hv => by simp [encEd] at hv; rcases hv with rfl | rfl | rfl <;> rfl) cmpE cmp_swo 64 #[] g 0 cap l.toArray w eg (cmp_lays _ _ _ _) hH hgl (by simp; omega)) ?_
    rintro e w' ⟨rfl, d', nn, os, hp, hs, rfl⟩
    have hsz2 : d'.size = l.length := by have := hp.1; simpa using this
    have hH2 := holdsK_sortWorldK encEd 3 w g 0 nn l.toArray d' os hgl hH (by simpa using hsz2)
    have hlen2 : d'.toList.length = l.length := by simpa using hsz2
    have hperm : d'.toList.Perm l := by
      have := hp.2.2
      simpa [hsz2, Array.extract_eq_self_of_le] using this
    refine ⟨rfl, some ⟨g, 0, none⟩, cap, d'.toList, by rw [hlen2], hperm, ?_, ?_, grown_sort id w g 0 nn _ os, by rw [hlen2]; exact hn, by unfold maxLen at hcap; omega⟩
    · rw [List.pairwise_iff_getElem]
      intro i j hi hj hij
      have h1 := hs i j (Nat.zero_le _) hij (by simp; omega)
      have h2 : i < d'.size := by simpa using hi
      have h3 : j < d'.size := by simpa using hj
      unfold Go.Proofs.ltOf at h1
      simp only [decide_eq_false_iff_not] at h1
      rw [cmpE_lt] at h1
      simpa [h2, h3] using h1
    · intro h0
      refine ⟨g, 0, rfl, lt_sortWorldK encEd 3 w g 0 nn d' os hgl, fun j x hj => ?_⟩
      have hj2 : j < d'.size := by have := (List.getElem?_eq_some_iff.1 hj).1; simpa using this
      have hx : d'[j]! = x := by
        have := (List.getElem?_eq_some_iff.1 hj).2
        simpa [hj2] using this
      have c0 := (hH2.cell (i := j) (c := 0) hj2 (by omega)).1
      have c1 := (hH2.cell (i := j) (c := 1) hj2 (by omega)).1
      have c2 := (hH2.cell (i := j) (c := 2) hj2 (by omega)).1
      rw [hx] at c0 c1 c2
      exact ⟨c0, c1, c2⟩
end Go.Proofs.Ytcciiikaejjooaa

/- Layer 3, the mathematics of relabelling. -/
namespace Go.Proofs.Ytcciiikaejjooaa
open Go.RowKit Go.Sort

/-- An edge with its event replaced. -/
def relE (al tl : List Int) (x : Ed) : Ed := ⟨x.f, tl.getD (al.idxOf x.e) 0, x.t⟩
/-- Edges in increasing order. -/
def srtE (l : List Ed) : List Ed := l.mergeSort fun x y => !decide (ltE y x)
theorem srtE_perm (l : List Ed) : (srtE l).Perm l := List.mergeSort_perm l _
theorem srtE_sorted (l : List Ed) : (srtE l).Pairwise fun x y => ¬ ltE y x := by
  have := List.pairwise_mergeSort (le := fun x y : Ed => !decide (ltE y x)) (fun x y z h1 h2 => by simp at *; unfold ltE at *; omega) (fun x y => by simp; unfold ltE; omega) l
  exact this.imp fun h => by simpa using h
/-- No two edges have one state and one event. -/
def KeyD (l : List Ed) : Prop := l.Pairwise fun x y => ¬ (x.f = y.f ∧ x.e = y.e)
theorem keyD_perm {l r : List Ed} (h : KeyD l) (hp : r.Perm l) : KeyD r :=
  (hp.pairwise_iff (R := fun x y : Ed => ¬ (x.f = y.f ∧ x.e = y.e)) (fun {x y} h h' => h ⟨h'.1.symm, h'.2.symm⟩)).2 h
theorem strict_of {l : List Ed} (h : l.Pairwise fun x y => ¬ ltE y x) (hk : KeyD l) : l.Pairwise ltE := by
  refine (h.and hk).imp fun h => ?_
  obtain ⟨h1, h2⟩ := h
  unfold ltE at *; omega
theorem srtE_eq {l r : List Ed} (hk : KeyD l) (hp : r.Perm l) (hs : r.Pairwise fun x y => ¬ ltE y x) : r = srtE l :=
  sorted_ext (r := ltE) ltE_irrefl (fun x y z => ltE_trans) _ _ (strict_of hs (keyD_perm hk hp)) (strict_of (srtE_sorted l) (keyD_perm hk (srtE_perm l))) fun x => by rw [hp.mem_iff, (srtE_perm l).mem_iff]
/-- The automaton with other events, ahead of its canonical form. -/
def relA (a : Au) (tl : List Int) : Au := ⟨srtI tl, a.st, a.mr, srtE (a.ed.map (relE a.al tl))⟩
theorem neGo_ok : ∀ (zs seen : List Int), neGo seen zs = 0 → (∀ x ∈ zs, 0 ≤ x ∧ x < 32) ∧ zs.Nodup ∧ ∀ x ∈ zs, x ∉ seen
  | [], seen, _ => ⟨by simp, List.nodup_nil, by simp⟩
  | x :: r, seen, h => by
    rw [neGo] at h
    by_cases h1 : x < 0 ∨ 32 ≤ x
    · rw [if_pos h1] at h; omega
    · rw [if_neg h1] at h
      by_cases h2 : x ∈ seen
      · rw [if_pos h2] at h; omega
      · rw [if_neg h2] at h
        obtain ⟨a, b, c⟩ := neGo_ok r (seen ++ [x]) h
        refine ⟨fun y hy => ?_, ?_, fun y hy => ?_⟩
        · rcases List.mem_cons.1 hy with rfl | hy
          · omega
          · exact a y hy
        · rw [List.nodup_cons]
          exact ⟨fun hm => c x hm (by simp), b⟩
        · rcases List.mem_cons.1 hy with rfl | hy
          · exact h2
          · exact fun hm => c y hy (by simp [hm])
theorem neE_ok {zs : List Int} (h : neE zs = 0) : (∀ x ∈ zs, 0 ≤ x ∧ x < 32) ∧ zs.Nodup := ⟨(neGo_ok zs [] h).1, (neGo_ok zs [] h).2.1⟩
theorem getD_inj {zs : List Int} (hd : zs.Nodup) {i j : Nat} (hi : i < zs.length) (hj : j < zs.length) (h : zs.getD i 0 = zs.getD j 0) : i = j := by
  rw [← idxOf_getD hd hi, h, idxOf_getD hd hj]
theorem rel_keys {a : Au} (h : RightW a) {tl : List Int} (hl : tl.length = a.al.length) (hd : tl.Nodup) : KeyD (a.ed.map (relE a.al tl)) := by
  unfold KeyD
  rw [List.pairwise_map]
  refine h.edo.imp_of_mem fun {x y} hx hy hlt => ?_
  rintro ⟨h1, h2⟩
  simp only [relE] at h1 h2
  have mx := (h.edr x hx).2.2
  have my := (h.edr y hy).2.2
  have e1 := getD_inj hd (by rw [hl]; exact List.idxOf_lt_length_iff.2 mx) (by rw [hl]; exact List.idxOf_lt_length_iff.2 my) h2
  have e2 := idx_inj mx my e1
  unfold ltE at hlt; omega
theorem rel_right {a : Au} (h : RightW a) {tl : List Int} (hl : tl.length = a.al.length) (hr : ∀ x ∈ tl, 0 ≤ x ∧ x < 32) (hd : tl.Nodup) : RightW (relA a tl) where
  alr x hx := hr x ((srtI_perm tl).mem_iff.1 hx)
  alo := srtI_lt hd
  st0 := h.st0
  mrr := h.mrr
  mro := h.mro
  edr x hx := by
    obtain ⟨y, hy, rfl⟩ := List.mem_map.1 ((srtE_perm _).mem_iff.1 hx)
    have := h.edr y hy
    exact ⟨this.1, this.2.1, (srtI_perm tl).mem_iff.2 (getD_mem (by rw [hl]; exact List.idxOf_lt_length_iff.2 this.2.2))⟩
  edo := strict_of (srtE_sorted _) (keyD_perm (rel_keys h hl hd) (srtE_perm _))
/-- What Relabel hands back. -/
def relR (a : Au) (tl : List Int) : Au × Int :=
  if chkE a ≠ 0 then (zeroA, chkE a) else if tl.length ≠ a.al.length then (zeroA, 4) else if neE tl ≠ 0 then (zeroA, neE tl) else (canA (relA a tl), 0)
theorem at_idx {zs : List Int} (hup : Up zs) {x : Int} {i : Nat} (h : At zs x i) (hm : x ∈ zs) : i = zs.idxOf x ∧ i < zs.length := by
  have hlt := List.idxOf_lt_length_iff.2 hm
  have hx := getD_idxOf hm
  obtain ⟨h1, h2, h3⟩ := h
  rcases Nat.lt_trichotomy i (zs.idxOf x) with hi | hi | hi
  · have := hup i _ hi hlt
    have := h3 (by omega)
    omega
  · exact ⟨hi, by omega⟩
  · have := h2 _ hi; omega

theorem grown_set {w : World} {blk i : Nat} (u : Value) : w.grownBy (w.setCell ⟨blk, i, none⟩ u) (some blk) :=
  ⟨rfl, rfl, rfl, by simp [World.setCell], fun k _ hne => Below.heap_setCell _ _ _ _ (fun e => hne (by rw [e]))⟩
/-- Relabel's new automaton while its edges are made. -/
structure RB (w1 : World) (bb : Nat) (As : Option Addr) (n cs : Nat) (s : Int) (M : Option Addr) (m d : Nat) (al : List Int) (wr : World) (es : List Ed) (ve : Value) : Prop where
  bel : Below w1.heap.size w1 wr
  row : Row wr bb 25 [.slice As n cs, .int .i64 s, .slice M m d, ve]
  so : Own wr w1.heap.size (.slice As n cs) al
  eo : OwnE wr w1.heap.size ve es
  h1 : w1.heap.size ≤ bb
section
variable {w1 : World} {bb : Nat} {As : Option Addr} {n cs : Nat} {s : Int} {M : Option Addr} {m d : Nat} {al : List Int} {wr w2 w3 : World} {es : List Ed} {ve ve' : Value}
theorem RB.alloc (h : RB w1 bb As n cs s M m d al wr es ve) (o : Obj) : RB w1 bb As n cs s M m d al (wr.alloc o) es ve :=
  ⟨h.bel.alloc h.bel.size o, h.row.alloc o, h.so.alloc o, h.eo.alloc o, h.h1⟩
theorem RB.drew (h : RB w1 bb As n cs s M m d al wr es ve) : RB w1 bb As n cs s M m d al wr.drew es ve := ⟨h.bel.drew, h.row, h.so, h.eo, h.h1⟩
theorem RB.below (h : RB w1 bb As n cs s M m d al wr es ve) (hb : Below wr.heap.size wr w2) : RB w1 bb As n cs s M m d al w2 es ve :=
  ⟨h.bel.trans (hb.mono h.bel.size), h.row.below hb h.row.lt, own_below h.so hb, own_below h.eo hb, h.h1⟩
theorem RB.grown (h : RB w1 bb As n cs s M m d al wr es ve) (hg : wr.grownBy w2 ve.ownBlock) : Below w1.heap.size w1 w2 ∧ Row w2 bb 25 [.slice As n cs, .int .i64 s, .slice M m d, ve] ∧ Own w2 w1.heap.size (.slice As n cs) al :=
  ⟨h.bel.grown hg h.bel.size (fun k hk => (h.eo.lt k hk).1), h.row.grown hg (row_ne_own h.row h.eo (by decide)), own_row h.so hg (owns_ne h.so h.eo (by decide))⟩
theorem RB.edge {x : Ed} (h : RB w1 bb As n cs s M m d al wr es ve) (hg : wr.grownBy w2 ve.ownBlock) (ho : OwnE w2 w1.heap.size ve' (es ++ [x])) :
    RB w1 bb As n cs s M m d al (w2.setCell ⟨bb, 3, none⟩ ve') (es ++ [x]) ve' := by
  obtain ⟨b1, b2, b3⟩ := h.grown hg
  exact ⟨b1.setCell (p := ⟨bb, 3, none⟩) h.h1 _, b2.set 3 ve', own_row b3 (grown_set ve') (.inr (row_ne_own b2 b3 (by decide))), own_row ho (grown_set ve') (.inr (row_ne_own b2 ho (by decide))), h.h1⟩
theorem RB.start1 (hb : Below w1.heap.size w1 w3) (ho : Own w3 w1.heap.size (.slice As n cs) al) : RB w1 w3.heap.size As n cs s M m d al (w3.alloc (.cells #[.slice As n cs, .int .i64 s, .slice M m d, .slice none 0 0] 25)) [] (.slice none 0 0) :=
  ⟨hb.alloc hb.size _, Row.new w3 [.slice As n cs, .int .i64 s, .slice M m d, .slice none 0 0] 25, ho.alloc _, World.ownsRow_nil _ _ _ _, hb.size⟩
theorem own_set4 {X base N : Nat} {v v0 v1 v2 v3 : Value} {xs : List Value} (h : w3.ownsRow base 3 1 v N xs) (hr : v.ownBlock ≠ some X) :
    ((((w3.setCell ⟨X, 0, none⟩ v0).setCell ⟨X, 1, none⟩ v1).setCell ⟨X, 2, none⟩ v2).setCell ⟨X, 3, none⟩ v3).ownsRow base 3 1 v N xs :=
  own_row (own_row (own_row (own_row h (grown_set v0) (.inr hr)) (grown_set v1) (.inr hr)) (grown_set v2) (.inr hr)) (grown_set v3) (.inr hr)
theorem RB.start2 (hb : Below w1.heap.size w1 w3) (ho : Own w3 w1.heap.size (.slice As n cs) al) {X : Nat} (hr : Row w3 X 25 [.slice none 0 0, .int .i64 0, .slice none 0 0, .slice none 0 0]) (hX : w1.heap.size ≤ X) :
    RB w1 X As n cs s M m d al ((((w3.setCell ⟨X, 0, none⟩ (.slice As n cs)).setCell ⟨X, 1, none⟩ (.int .i64 s)).setCell ⟨X, 2, none⟩ (.slice M m d)).setCell ⟨X, 3, none⟩ (.slice none 0 0)) [] (.slice none 0 0) :=
  ⟨below_set4 hb hX _ _ _ _, (((hr.set 0 (.slice As n cs)).set 1 (.int .i64 s)).set 2 (.slice M m d)).set 3 (.slice none 0 0), own_set4 ho (row_ne_own hr ho (by decide)), World.ownsRow_nil _ _ _ _, hX⟩
end
end Go.Proofs.Ytcciiikaejjooaa

/- Layer 3, the mathematics of automata whose states or events have other names. -/
namespace Go.Proofs.Ytcciiikaejjooaa
open Go.RowKit Go.Sort

theorem edge_step {a : Au} (h : RightW a) (q ev : Int) : edgeO a.ed q ev = (stepO a q ev).map fun t => ⟨q, ev, t⟩ := by
  unfold stepO
  cases he : edgeO a.ed q ev with
  | none => rfl
  | some x =>
    obtain ⟨_, h1, h2⟩ := (edgeO_some h.edo).1 he
    subst h1 h2; rfl
theorem succ_step {a : Au} (h : RightW a) (q : Int) : succ a.ed q = a.al.filterMap fun ev => (stepO a q ev).map fun t => ⟨q, ev, t⟩ := by
  rw [succ_eq h]
  exact congrArg (fun f => a.al.filterMap f) (funext fun ev => edge_step h q ev)
/-- The second automaton is the first one with other names for the states that are found. -/
structure IsoA (b b' : Au) (f : Int → Int) : Prop where
  h : RightW b
  h' : RightW b'
  al : b'.al = b.al
  z : f 0 = 0
  p : 0 < b.st
  p' : 0 < b'.st
  inj : ∀ x y, x ∈ fnd b → y ∈ fnd b → f x = f y → x = y
  st : ∀ q ∈ fnd b, ∀ ev, stepO b' (f q) ev = (stepO b q ev).map f
  mq : ∀ q ∈ fnd b, (f q ∈ b'.mr ↔ q ∈ b.mr)
section
variable {b b' : Au} {f : Int → Int}
theorem iso_succ (H : IsoA b b' f) {q : Int} (hq : q ∈ fnd b) : succ b'.ed (f q) = (succ b.ed q).map fun x => ⟨f q, x.e, f x.t⟩ := by
  rw [succ_step H.h', succ_step H.h, H.al, List.map_filterMap]
  refine congrArg (fun g => b.al.filterMap g) (funext fun ev => ?_)
  rw [H.st q hq ev]
  cases stepO b q ev <;> rfl
theorem getD_map0 {l : List Int} {f : Int → Int} {i : Nat} (h : i < l.length) : (l.map f).getD i 0 = f (l.getD i 0) := by
  simp [List.getD, List.getElem?_eq_getElem h]
theorem Fd_iso (H : IsoA b b' f) : ∀ n, Fd b' n = (Fd b n).map f
  | 0 => by simp [Fd, H.z]
  | n + 1 => by
    have ih := Fd_iso H n
    have hp := Fd_fnd H.h H.p n
    by_cases hn : n < (Fd b n).length
    · rw [Fd_go hn, Fd_go (by rw [ih, List.length_map]; exact hn), ih, getD_map0 hn]
      have hnl : n < (fnd b).length := Nat.lt_of_lt_of_le hn hp.length_le
      have hq : (Fd b n).getD n 0 ∈ fnd b := hp.subset (getD_mem hn)
      rw [iso_succ H hq]
      refine visitL_map (fl := fnd b) H.inj _ _ hp.subset fun x hx => ⟨?_, rfl⟩
      rw [← getD_pre hp hn] at hx
      exact fnd_closed H.h hnl hx
    · rw [Fd_stop hn, Fd_stop (by rw [ih, List.length_map]; exact hn), ih]
theorem fnd_far {a : Au} (h : RightW a) (h0 : 0 < a.st) {n : Nat} (hn : a.st.toNat ≤ n) : Fd a n = fnd a := by
  have := Fd_still (a := a) (n := a.st.toNat) (Fd_len h h0 _) (n - a.st.toNat)
  rw [show a.st.toNat + (n - a.st.toNat) = n by omega] at this
  rw [this, fnd_pos h0]
theorem fnd_iso (H : IsoA b b' f) : fnd b' = (fnd b).map f := by
  rw [← fnd_far H.h' H.p' (n := b.st.toNat + b'.st.toNat) (by omega), ← fnd_far H.h H.p (n := b.st.toNat + b'.st.toNat) (by omega), Fd_iso H]
theorem idxOf_map {f : Int → Int} : ∀ {l : List Int} {x : Int}, (∀ a c, a ∈ l → c ∈ l → f a = f c → a = c) → x ∈ l → (l.map f).idxOf (f x) = l.idxOf x
  | [], x, _, h => by simp at h
  | y :: l, x, hi, h => by
    rw [List.map_cons, List.idxOf_cons, List.idxOf_cons]
    by_cases e : y = x
    · subst e; simp
    · have h1 : x ∈ l := (List.mem_cons.1 h).resolve_left fun h => e h.symm
      have h2 : ¬ f y = f x := fun e2 => e (hi y x (by simp) (by simp [h1]) e2)
      have e1 : (y == x) = false := by simpa using e
      have e2 : (f y == f x) = false := by simpa using h2
      rw [e1, e2, cond_false, cond_false, idxOf_map (fun a c ha hc => hi a c (by simp [ha]) (by simp [hc])) h1]
/-- The canonical forms are one. -/
theorem can_iso (H : IsoA b b' f) : canA b' = canA b := by
  have hf := fnd_iso H
  have hlen : (fnd b').length = (fnd b).length := by rw [hf, List.length_map]
  have hM : canM b' = canM b := by
    unfold canM
    rw [hlen]
    refine congrArg _ (List.filter_congr fun i hi => ?_)
    have hi' : i < (fnd b).length := List.mem_range.1 hi
    rw [hf, getD_map0 hi']
    exact decide_eq_decide.2 (H.mq _ (getD_mem hi'))
  have hE : canEn b' (fnd b').length = canEn b (fnd b).length := by
    unfold canEn
    rw [hlen, List.flatMap_def, List.flatMap_def]
    refine congrArg List.flatten (List.map_congr_left fun i hi => ?_)
    have hi' : i < (fnd b).length := List.mem_range.1 hi
    unfold outE
    rw [hf, getD_map0 hi', iso_succ H (getD_mem hi'), List.map_map]
    refine List.map_congr_left fun x hx => ?_
    rw [Function.comp_apply, idxOf_map H.inj (fnd_closed H.h hi' hx)]
  unfold canA
  rw [hlen, hM, H.al]
  rw [hlen] at hE
  rw [hE]
end
theorem can_zero {a : Au} (h : a.st = 0) : canA a = ⟨a.al, 0, [], []⟩ := by
  have hf : fnd a = [] := by rw [fnd, if_pos (by omega)]
  simp [canA, canM, canEn, hf]
/-- What is found is the least closed set. -/
theorem fnd_least {a : Au} (h : RightW a) (h0 : 0 < a.st) {S : List Int} (hz : (0 : Int) ∈ S) (hs : ∀ q ∈ S, ∀ ev t, stepO a q ev = some t → t ∈ S) : ∀ q ∈ fnd a, q ∈ S := by
  have : ∀ n, ∀ q ∈ Fd a n, q ∈ S := fun n => by
    induction n with
    | zero => intro q hq; simp [Fd] at hq; subst hq; exact hz
    | succ n ih =>
      intro q hq
      by_cases hn : n < (Fd a n).length
      · rw [Fd_go hn, mem_visitL] at hq
        rcases hq with hq | ⟨x, hx, rfl⟩
        · exact ih q hq
        · obtain ⟨h1, h2⟩ := mem_succ.1 hx
          exact hs _ (ih _ (getD_mem hn)) x.e x.t (stepO_some ((edgeO_some h.edo).2 ⟨h1, h2, rfl⟩))
      · rw [Fd_stop hn] at hq; exact ih q hq
  rw [fnd_pos h0]; exact this _

/-- The event that stands where a new one comes from. -/
def oldE (al tl : List Int) (e : Int) : Int := al.getD (tl.idxOf e) 0
section
variable {a : Au} {tl : List Int}
theorem mem_relE (h : RightW a) (hl : tl.length = a.al.length) (hd : tl.Nodup) {y : Ed} : y ∈ (relA a tl).ed ↔ y.e ∈ tl ∧ stepO a y.f (oldE a.al tl y.e) = some y.t := by
  show y ∈ srtE _ ↔ _
  rw [(srtE_perm _).mem_iff, List.mem_map]
  constructor
  · rintro ⟨x, hx, rfl⟩
    have hm := (h.edr x hx).2.2
    have hi : a.al.idxOf x.e < tl.length := by rw [hl]; exact List.idxOf_lt_length_iff.2 hm
    refine ⟨getD_mem hi, ?_⟩
    show stepO a x.f (a.al.getD (tl.idxOf (tl.getD (a.al.idxOf x.e) 0)) 0) = some x.t
    rw [idxOf_getD hd hi, getD_idxOf hm]
    exact stepO_some ((edgeO_some h.edo).2 ⟨hx, rfl, rfl⟩)
  · rintro ⟨h1, h2⟩
    have hi : tl.idxOf y.e < a.al.length := by rw [← hl]; exact List.idxOf_lt_length_iff.2 h1
    unfold stepO at h2
    cases he : edgeO a.ed y.f (oldE a.al tl y.e) with
    | none => rw [he] at h2; simp at h2
    | some x =>
      rw [he] at h2
      obtain ⟨g1, g2, g3⟩ := (edgeO_some h.edo).1 he
      refine ⟨x, g1, ?_⟩
      have e3 : tl.getD (a.al.idxOf x.e) 0 = y.e := by rw [g3]; unfold oldE; rw [idxOf_getD (lt_nodup h.alo) hi, getD_idxOf h1]
      have e2 : x.t = y.t := by simpa using h2
      unfold relE
      rw [e3, g2, e2]
theorem rel_step (h : RightW a) (hl : tl.length = a.al.length) (hr : ∀ x ∈ tl, 0 ≤ x ∧ x < 32) (hd : tl.Nodup) (q e : Int) : stepO (relA a tl) q e = if e ∈ tl then stepO a q (oldE a.al tl e) else none := by
  have hR := rel_right h hl hr hd
  by_cases he : e ∈ tl
  · rw [if_pos he]
    cases hs : stepO a q (oldE a.al tl e) with
    | some t => exact stepO_some (x := ⟨q, e, t⟩) ((edgeO_some hR.edo).2 ⟨(mem_relE h hl hd).2 ⟨he, hs⟩, rfl, rfl⟩)
    | none =>
      refine stepO_none (edgeO_none.2 fun y hy ⟨h1, h2⟩ => ?_)
      have := ((mem_relE h hl hd).1 hy).2
      rw [h1, h2, hs] at this; cases this
  · rw [if_neg he]
    refine stepO_none (edgeO_none.2 fun y hy ⟨h1, h2⟩ => ?_)
    have := ((mem_relE h hl hd).1 hy).1
    rw [h2] at this; exact he this
/-- The events that lead back. -/
def backL (al tl : List Int) : List Int := (srtI tl).map (oldE al tl)
theorem oldE_mem (hl : tl.length = a.al.length) {e : Int} (he : e ∈ tl) : oldE a.al tl e ∈ a.al := getD_mem (by rw [← hl]; exact List.idxOf_lt_length_iff.2 he)
theorem oldE_inj (h : RightW a) (hl : tl.length = a.al.length) {x y : Int} (hx : x ∈ tl) (hy : y ∈ tl) (e : oldE a.al tl x = oldE a.al tl y) : x = y := by
  have h1 : tl.idxOf x < a.al.length := by rw [← hl]; exact List.idxOf_lt_length_iff.2 hx
  have h2 : tl.idxOf y < a.al.length := by rw [← hl]; exact List.idxOf_lt_length_iff.2 hy
  exact idx_inj hx hy (getD_inj (lt_nodup h.alo) h1 h2 e)
theorem oldE_of (hl : tl.length = a.al.length) (hd : tl.Nodup) {ev : Int} (he : ev ∈ a.al) : ∃ e ∈ tl, oldE a.al tl e = ev := by
  have hi : a.al.idxOf ev < tl.length := by rw [hl]; exact List.idxOf_lt_length_iff.2 he
  refine ⟨tl.getD (a.al.idxOf ev) 0, getD_mem hi, ?_⟩
  unfold oldE
  rw [idxOf_getD hd hi, getD_idxOf he]
theorem back_nodup (h : RightW a) (hl : tl.length = a.al.length) (hd : tl.Nodup) : (backL a.al tl).Nodup := by
  unfold backL
  rw [List.nodup_iff_pairwise_ne, List.pairwise_map]
  refine (List.nodup_iff_pairwise_ne.1 (lt_nodup (srtI_lt hd))).imp_of_mem fun hx hy hne e => hne ?_
  exact oldE_inj h hl ((srtI_perm tl).mem_iff.1 hx) ((srtI_perm tl).mem_iff.1 hy) e
theorem mem_back (hl : tl.length = a.al.length) (hd : tl.Nodup) {ev : Int} : ev ∈ backL a.al tl ↔ ev ∈ a.al := by
  unfold backL
  rw [List.mem_map]
  constructor
  · rintro ⟨e, he, rfl⟩; exact oldE_mem hl ((srtI_perm tl).mem_iff.1 he)
  · intro h
    obtain ⟨e, he, rfl⟩ := oldE_of hl hd h
    exact ⟨e, (srtI_perm tl).mem_iff.2 he, rfl⟩
theorem back_len {al tl : List Int} : (backL al tl).length = (srtI tl).length := by unfold backL; rw [List.length_map]
theorem neE_mk : ∀ {zs seen : List Int}, (∀ x ∈ zs, 0 ≤ x ∧ x < 32) → zs.Nodup → (∀ x ∈ zs, x ∉ seen) → neGo seen zs = 0
  | [], seen, _, _, _ => by rw [neGo]
  | x :: r, seen, h1, h2, h3 => by
    rw [List.nodup_cons] at h2
    rw [neGo, if_neg (by have := h1 x (by simp); omega), if_neg (h3 x (by simp))]
    refine neE_mk (fun y hy => h1 y (by simp [hy])) h2.2 fun y hy hm => ?_
    first
    | (rcases List.mem_append.1 hm with hm | hm
       · exact h3 y (by simp [hy]) hm
       · simp at hm; subst hm; exact h2.1 hy)
    | (rcases List.mem_cons.1 hm with hm | hm
       · subst hm; exact h2.1 hy
       · exact h3 y (by simp [hy]) hm)
/-- The event that stands for an old one. -/
theorem oldE_back (h : RightW a) (hl : tl.length = a.al.length) (hd : tl.Nodup) {e : Int} (he : e ∈ tl) : oldE (srtI tl) (backL a.al tl) (oldE a.al tl e) = e := by
  have hm : e ∈ srtI tl := (srtI_perm tl).mem_iff.2 he
  have := idxOf_map (f := oldE a.al tl) (l := srtI tl) (x := e) (fun x y hx hy e => oldE_inj h hl ((srtI_perm tl).mem_iff.1 hx) ((srtI_perm tl).mem_iff.1 hy) e) hm
  show (srtI tl).getD ((backL a.al tl).idxOf (oldE a.al tl e)) 0 = e
  unfold backL
  rw [this, getD_idxOf hm]
/-- Relabelling back gives the automaton. -/
theorem rel_back (h : Right a) (hc : canA a = a) (hl : tl.length = a.al.length) (hr : ∀ x ∈ tl, 0 ≤ x ∧ x < 32) (hd : tl.Nodup) : relR (canA (relA a tl)) (backL a.al tl) = (a, 0) := by
  have hw := h.toRightW
  have hA1 := rel_right hw hl hr hd
  have hRi : Right (relA a tl) := { hA1 with st1 := h.st1 }
  have hR := hRi.can
  have hbl : (backL a.al tl).length = (canA (relA a tl)).al.length := back_len
  have hbd := back_nodup hw hl hd
  have hbr : ∀ x ∈ backL a.al tl, 0 ≤ x ∧ x < 32 := fun x hx => h.alr x ((mem_back hl hd).1 hx)
  have hB := rel_right hR.toRightW hbl hbr hbd
  have hal : (relA (canA (relA a tl)) (backL a.al tl)).al = a.al := lt_ext (srtI_lt hbd) h.alo fun x => (srtI_perm (backL a.al tl)).mem_iff.trans (mem_back hl hd)
  rw [relR, if_neg (by rw [hR.chk]; simp), if_neg (by rw [hbl]; simp), if_neg (by unfold neE; rw [neE_mk hbr hbd (by simp)]; simp)]
  congr 1
  by_cases h0 : a.st = 0
  · have h1 : (relA a tl).st = 0 := h0
    have h2 : (canA (relA a tl)).st = 0 := by rw [can_zero h1]
    rw [can_zero (a := relA (canA (relA a tl)) (backL a.al tl)) h2, hal]
    rw [← hc, can_zero h0]
  · have hp : 0 < a.st := by have := h.st0; omega
    have hp1 : 0 < (relA a tl).st := hp
    have hst : ∀ q e, stepO (relA a tl) q e = if e ∈ tl then stepO a q (oldE a.al tl e) else none := rel_step hw hl hr hd
    have hsub : ∀ q ∈ fnd a, q ∈ fnd (relA a tl) := fnd_least hw hp (zero_fnd hA1 hp1).1 fun q hq ev t hs => by
      obtain ⟨e, he, hoe⟩ := oldE_of hl hd (step_event hw hs).1
      refine step_in hA1 hq (ev := e) ?_
      rw [hst, if_pos he, hoe]; exact hs
    have hlen := List.length_pos_of_mem (zero_fnd hA1 hp1).1
    have hH : IsoA a (relA (canA (relA a tl)) (backL a.al tl)) (fun q => ((fnd (relA a tl)).idxOf q : Int)) := by
      refine { h := hw, h' := hB, al := hal, z := by rw [(zero_fnd hA1 hp1).2]; rfl, p := hp, p' := ?_, inj := fun x y hx hy e => idx_inj (hsub x hx) (hsub y hy) (by omega), st := fun q hq ev => ?_, mq := fun q hq => ?_ }
      · show (0 : Int) < ((fnd (relA a tl)).length : Int); omega
      · have hqi := List.idxOf_lt_length_iff.2 (hsub q hq)
        rw [rel_step hR.toRightW hbl hbr hbd]
        by_cases hev : ev ∈ a.al
        · rw [if_pos ((mem_back hl hd).2 hev)]
          obtain ⟨e, he, hoe⟩ := oldE_of hl hd hev
          have h3 : oldE (canA (relA a tl)).al (backL a.al tl) ev = e := by rw [← hoe]; exact oldE_back hw hl hd he
          rw [h3, step_can hA1 hqi, getD_idxOf (hsub q hq), hst, if_pos he, hoe]
        · rw [if_neg (fun hm => hev ((mem_back hl hd).1 hm))]
          cases hs : stepO a q ev with
          | none => rfl
          | some t => exact absurd (step_event hw hs).1 hev
      · show ((fnd (relA a tl)).idxOf q : Int) ∈ canM (relA a tl) ↔ q ∈ a.mr
        rw [mem_canM]
        have hqm := hsub q hq
        constructor
        · rintro ⟨i, h1, h2, h3⟩
          have : i = (fnd (relA a tl)).idxOf q := by omega
          rw [this, getD_idxOf hqm] at h2; exact h2
        · intro h1
          exact ⟨_, List.idxOf_lt_length_iff.2 hqm, by rw [getD_idxOf hqm]; exact h1, rfl⟩
    rw [can_iso hH, hc]
end
/-- The reference's edges of the first states, with the new events. -/
def relK (a : Au) (tl : List Int) (q : Int) : List Ed := (srtI tl).filterMap fun e => (stepO a q (oldE a.al tl e)).map fun t => ⟨q, e, t⟩
theorem relK_eq {a : Au} {tl : List Int} (h : RightW a) (hl : tl.length = a.al.length) (hr : ∀ x ∈ tl, 0 ≤ x ∧ x < 32) (hd : tl.Nodup) (q : Int) : relK a tl q = succ (relA a tl).ed q := by
  rw [succ_step (rel_right h hl hr hd)]
  have key : ∀ l : List Int, (∀ e ∈ l, e ∈ tl) → (l.filterMap fun e => (stepO a q (oldE a.al tl e)).map fun t => (⟨q, e, t⟩ : Ed)) = l.filterMap fun e => (stepO (relA a tl) q e).map fun t => ⟨q, e, t⟩ := fun l => by
    induction l with
    | nil => intro _; rfl
    | cons x l ih =>
      intro hm
      rw [List.filterMap_cons, List.filterMap_cons, ih fun e he => hm e (by simp [he]), rel_step h hl hr hd, if_pos (hm x (by simp))]
  exact key _ fun e he => (srtI_perm tl).mem_iff.1 he
/-- All edges, state by state. -/
theorem all_succ {a : Au} (h : RightW a) : a.ed = (List.range a.st.toNat).flatMap fun q : Nat => succ a.ed (q : Int) := by
  refine sorted_ext (r := ltE) ltE_irrefl (fun x y z => ltE_trans) _ _ h.edo ?_ fun x => ?_
  · rw [List.pairwise_flatMap]
    refine ⟨fun q _ => h.edo.sublist List.filter_sublist, ?_⟩
    refine List.pairwise_lt_range.imp fun hlt x hx y hy => ?_
    have h1 := (mem_succ.1 hx).2
    have h2 := (mem_succ.1 hy).2
    exact .inl (by omega)
  · rw [List.mem_flatMap]
    constructor
    · intro hx
      have := (h.edr x hx).1
      exact ⟨x.f.toNat, List.mem_range.2 (by omega), mem_succ.2 ⟨hx, by omega⟩⟩
    · rintro ⟨q, _, hx⟩; exact (mem_succ.1 hx).1

section
variable {a : Au}
theorem comp_step (h : RightW a) {q ev : Int} (hq : 0 ≤ q ∧ q ≤ a.st) (he : ev ∈ a.al) : stepO (compA a) q ev = some (toC a q ev) := by
  have hR := comp_right h
  refine stepO_some (x := ⟨q, ev, toC a q ev⟩) ((edgeO_some hR.edo).2 ⟨?_, rfl, rfl⟩)
  exact mem_compE.2 ⟨q.toNat, by omega, ev, he, by rw [show (q.toNat : Int) = q by omega]⟩
/-- In the further state a word stays. -/
theorem comp_sink (h : RightW a) : ∀ (ws : List Int), inB a.al ws = true → runE (compA a) a.st ws = (a.st, ws.length)
  | [], _ => by rw [runE_nil]; rfl
  | x :: r, hi => by
    unfold inB at hi
    rw [List.all_cons, Bool.and_eq_true] at hi
    have hx : x ∈ a.al := by simpa using hi.1
    have ht : toC a a.st x = a.st := by
      unfold toC
      cases hs : stepO a a.st x with
      | none => rfl
      | some t => have := step_event h hs; omega
    rw [runE_go (comp_step h ⟨h.st0, by omega⟩ hx), ht, comp_sink h r hi.2]; simp
theorem comp_run (h : RightW a) : ∀ (ws : List Int) (q : Int), 0 ≤ q → q < a.st → inB a.al ws = true → runE (compA a) q ws = (if (runE a q ws).2 = ws.length then (runE a q ws).1 else a.st, ws.length)
  | [], q, _, _, _ => by rw [runE_nil, runE_nil]; simp
  | x :: r, q, h0, h1, hi => by
    have hi0 := hi
    unfold inB at hi
    rw [List.all_cons, Bool.and_eq_true] at hi
    have hx : x ∈ a.al := by simpa using hi.1
    rw [runE_go (comp_step h ⟨h0, by omega⟩ hx)]
    unfold toC
    cases hs : stepO a q x with
    | none =>
      rw [runE_stop hs]
      show ((runE (compA a) a.st r).1, (runE (compA a) a.st r).2 + 1) = _
      rw [comp_sink h r hi.2, if_neg (by simp)]; simp
    | some t =>
      have ht := step_range h hs
      rw [runE_go hs]
      show ((runE (compA a) t r).1, (runE (compA a) t r).2 + 1) = _
      rw [comp_run h r t ht.1 ht.2 hi.2]
      simp
theorem comp_gen (h : RightW a) {ws : List Int} (hi : inB a.al ws = true) : genB (compA a) ws = true := by
  have h0 := h.st0
  have hs : ¬ (compA a).st = 0 := by show ¬ a.st + 1 = 0; omega
  unfold genB
  by_cases hz : a.st = 0
  · have := comp_sink h ws hi
    rw [hz] at this
    rw [this]; simp [hs]
  · rw [comp_run h ws 0 (by omega) (by omega) hi]; simp [hs]
theorem comp_acc (h : RightW a) {ws : List Int} (hi : inB a.al ws = true) : accB (compA a) ws = accB a ws := by
  have h0 := h.st0
  have hnm : a.st ∉ a.mr := fun hm => by have := h.mrr _ hm; omega
  unfold accB
  rw [comp_gen h hi]
  by_cases hz : a.st = 0
  · have := comp_sink h ws hi
    rw [hz] at this hnm
    rw [this]
    have hg : genB a ws = false := by simp [genB, hz]
    rw [hg]
    show (true && decide ((0 : Int) ∈ a.mr)) = (false && _)
    simp [hnm]
  · rw [comp_run h ws 0 (by omega) (by omega) hi]
    show (true && decide (_ ∈ a.mr)) = _
    by_cases hr : (runE a 0 ws).2 = ws.length
    · rw [if_pos hr]
      simp [genB, hz, hr]
    · rw [if_neg hr]
      simp [genB, hr, hnm]
theorem runE_ed {b : Au} (he : a.ed = b.ed) : ∀ (ws : List Int) (q : Int), runE a q ws = runE b q ws
  | [], q => by rw [runE_nil, runE_nil]
  | x :: r, q => by
    have hs : stepO a q x = stepO b q x := by unfold stepO; rw [he]
    cases e : stepO b q x with
    | none => rw [runE_stop (hs.trans e), runE_stop e]
    | some t => rw [runE_go (hs.trans e), runE_go e, runE_ed he r t]
theorem cls_acc (h : RightW a) (ws : List Int) : accB (clsA a) ws = genB a ws := by
  have hr := runE_ed (a := clsA a) (b := canA a) rfl ws 0
  have hg : genB (clsA a) ws = genB a ws := by rw [← gen_can h]; unfold genB; rw [hr]; rfl
  unfold accB
  rw [hg]
  by_cases hz : a.st = 0
  · simp [genB, hz]
  · have h0 := h.st0
    obtain ⟨hm, hi⟩ := zero_fnd h (by omega)
    obtain ⟨h1, h2⟩ := run_can h ws 0 hm
    rw [hi] at h2
    have h3 : (runE (clsA a) 0 ws).1 ∈ (clsA a).mr := by
      rw [hr, show ((0 : Int)) = ((0 : Nat) : Int) from rfl, h2]
      show _ ∈ rng _
      unfold rng
      exact List.mem_map.2 ⟨_, List.mem_range.2 (List.idxOf_lt_length_iff.2 h1), rfl⟩
    simp [h3]
end
end Go.Proofs.Ytcciiikaejjooaa

/- Layer 3: Events of the law's sets; Make of the law's package. -/
namespace Go.Proofs.Ytcciiikaejjooaa

section
open Go.RowKit Go.Sort
/-- Some events below n, in increasing order. -/
structure Ev5 (n : Int) (zs : List Int) : Prop where
  r : ∀ x ∈ zs, 0 ≤ x ∧ x < n
  o : zs.Pairwise (· < ·)
theorem Ev5.nil (n : Int) : Ev5 n [] := ⟨by simp, List.Pairwise.nil⟩
theorem Ev5.more {n : Int} {zs : List Int} (h : Ev5 n zs) : Ev5 (n + 1) zs := ⟨fun x hx => by have := h.r x hx; omega, h.o⟩
theorem Ev5.snoc {n : Int} {zs : List Int} (h : Ev5 n zs) (h0 : 0 ≤ n) : Ev5 (n + 1) (zs ++ [n]) :=
  ⟨fun x hx => by
    rcases List.mem_append.1 hx with hx | hx
    · have := h.r x hx; omega
    · simp at hx; subst hx; omega,
   List.pairwise_append.2 ⟨h.o, by simp, fun x hx y hy => by simp at hy; subst hy; exact (h.r x hx).2⟩⟩
theorem Ev5.len {n : Nat} {zs : List Int} (h : Ev5 (n : Int) zs) : zs.length ≤ n := nodup_len (lt_nodup h.o) h.r

set_option maxHeartbeats 2000000 in
set_option maxRecDepth 100000 in
theorem events_any (x : Int) (w : World) (hx : (Lit.int .u8 x).wf = true) :
    Calls Try.prog 33 #[.int .u8 x] w fun e w' => ∃ zs, Ev5 5 zs ∧ GivesC w zs e w' := by
  obtain ⟨i0, hi, hz0, hz1, hz2⟩ := info_parts info_int
  go_enter Try.func33, Try.ntmps33
  go_wp2_with fail
  go_loopw [3, 4] (fun v i wr => ∃ (t : Nat) (zs : List Int), t ≤ 5 ∧ i = .int .i64 t ∧ Hid (Ev5 (t : Int) zs) ∧ Hid (FP w v zs wr)) (fun _ i _ => 5 - (intOf i).toNat)
  case atStart => exact ⟨0, [], Nat.zero_le _, rfl, Ev5.nil _, ⟨Below.refl _ _, World.ownsRow_nil _ _ _ _⟩⟩
  case round =>
    obtain ⟨t, zs, ht5, rfl, hev, hfp⟩ := hrel
    by_cases hlt : t < 5
    · have hl := hev.out.len
      have z0 : (0 : Int) ≤ (t : Int) := by omega
      have hsz := hfp.out.bel.size
      have hm := Lib.hid (hev.out.more)
      have hs := Lib.hid (hev.out.snoc (by omega))
      go_upto_if 13 with fail
      generalize (bits BinOp.and IntKind.u8 (x / 2 ^ t) 1 == 1) = cb
      cases cb
      · go_wp2_with fail
        go_roundw
        case rel => exact ⟨t + 1, zs, by omega, by go_num, by simpa using hm, hfp⟩
        case measure => simp [intOf]; omega
      · go_wp2_with (at_builtin; refine wpList_append_own _ rfl _ _ 22 rfl w.heap.size 3 i0 (.int .i64 0) 1 8 Try.underlying22 hi hz0 hz1 hz2 rfl (by decide) _ _ _ rfl (hfp.out.ow.alloc _) ⟨wr.heap.size, 0, none⟩ 1 1 [.int .i64 (t : Int)] rfl rfl (news_one (by simp)) (by intro u hu; simp at hu; subst hu; rfl) (by unfold maxLen; omega) (by omega) (by simp; omega) ?_)
        intro v5 w5 hown5 hgrow5 _
        have hO5 := own_app (K' := zs ++ [(t : Int)]) rfl hfp.out.bel hfp.out.ow hown5 hgrow5 (Nat.le_refl _)
        have hF6 := Lib.hid (show FP w v5 (zs ++ [(t : Int)]) w5 from ⟨hO5.2, hO5.1⟩)
        clear hown5 hgrow5 hO5
        go_wp2_with fail
        go_roundw
        case rel => exact ⟨t + 1, zs ++ [(t : Int)], by omega, by go_num, by simpa using hs, hF6⟩
        case measure => simp [intOf]; omega
    · obtain rfl : t = 5 := by omega
      obtain ⟨A', c', rfl, hrd, hc1, hc2⟩ := own_rdc hfp.out.ow
      have HRD := Lib.hid hrd
      have HF := Lib.hid hfp.out
      clear hfp hrd
      go_wp2_with fail
      go_ret
      exact ⟨zs, hev.out, A', c', rfl, HRD.out, HF.out.bel, hc1, hc2⟩
end

section
open Go.RowKit Go.Sort
/-- The cells of a graph. -/
structure GrC (cs : Array Value) : Prop where
  sz : cs.size = 27
  ce : ∀ i : Nat, i < 27 → ∃ x : Int, cs[i]? = some (.int .u8 x) ∧ 0 ≤ x ∧ x < 256
/-- What the law's automata are. -/
structure OkM (al : List Int) (a : Au) : Prop where
  r : Right a
  c : canA a = a
  al : a.al = al
  st : a.st ≤ 5
/-- The edges that are made: those of the states before t, and those of t by the first k events. -/
structure EdI (S : Nat) (al : List Int) (t k : Nat) (es : List Ed) : Prop where
  r : ∀ x ∈ es, 0 ≤ x.f ∧ (x.f < (t : Int) ∨ x.f = (t : Int) ∧ x.e ∈ al.take k) ∧ 0 ≤ x.t ∧ x.t < (S : Int) ∧ x.e ∈ al
  o : es.Pairwise ltE
  l : es.length ≤ t * 5 + k
theorem EdI.nil (S : Nat) (al : List Int) : EdI S al 0 0 [] := ⟨by simp, List.Pairwise.nil, by simp⟩
theorem EdI.more {S : Nat} {al : List Int} {t k : Nat} {es : List Ed} (h : EdI S al t k es) (hk : k < al.length) : EdI S al t (k + 1) es :=
  ⟨fun x hx => by
    obtain ⟨h1, h2, h3⟩ := h.r x hx
    refine ⟨h1, h2.imp id fun h => ⟨h.1, (mem_snoc_take hk).2 (.inl h.2)⟩, h3⟩, h.o, by have := h.l; omega⟩
theorem EdI.snoc {S : Nat} {al : List Int} {t k : Nat} {es : List Ed} (h : EdI S al t k es) (hk : k < al.length) (ho : al.Pairwise (· < ·)) {u : Int} (h0 : 0 ≤ u) (h1 : u < (S : Int)) : EdI S al t (k + 1) (es ++ [⟨(t : Int), al.getD k 0, u⟩]) :=
  ⟨fun x hx => by
    rcases List.mem_append.1 hx with hx | hx
    · exact (h.more hk).r x hx
    · rw [List.mem_singleton] at hx; subst hx
      exact ⟨by simp, .inr ⟨rfl, (mem_snoc_take hk).2 (.inr rfl)⟩, h0, h1, getD_mem hk⟩,
   List.pairwise_append.2 ⟨h.o, by simp, fun x hx y hy => by
    rw [List.mem_singleton] at hy; subst hy
    rcases (h.r x hx).2.1 with h2 | ⟨h2, h3⟩
    · exact .inl h2
    · refine .inr ⟨h2, ?_⟩
      obtain ⟨i, hi, he⟩ := mem_getD h3
      rw [List.length_take] at hi
      have h4 := up_of ho i k (by omega) hk
      have h5 : (al.take k).getD i 0 = al.getD i 0 := by simp [List.getD, show i < k by omega]
      show x.e < al.getD k 0
      rw [← he, h5]; exact h4⟩, by have := h.l; rw [List.length_append]; simp; omega⟩
theorem EdI.next {S : Nat} {al : List Int} {t k : Nat} {es : List Ed} (h : EdI S al t k es) (hk : k ≤ 5) : EdI S al (t + 1) 0 es :=
  ⟨fun x hx => by
    obtain ⟨h1, h2, h3⟩ := h.r x hx
    exact ⟨h1, .inl (by rcases h2 with h2 | h2 <;> omega), h3⟩, h.o, by have := h.l; omega⟩
theorem far1 {w w6 : World} {cs : Array Value} {T : TypeId} {row : Option Nat} {b o : Nat} {v : Value} (h : (w.alloc (.cells cs T)).grownBy w6 row) (hlt : b < w.heap.size) (hne : some b ≠ row) (hc : w.cell? ⟨b, o, none⟩ = some v) : w6.cell? ⟨b, o, none⟩ = some v :=
  (h.cell_far ⟨b, o, none⟩ (by simp; omega) hne).trans ((World.cell?_alloc_lt w _ ⟨b, o, none⟩ hlt).trans hc)
theorem far2 {w w6 : World} {cs : Array Value} {T : TypeId} {row : Option Nat} {b o : Nat} {v : Value} (h : (w.alloc (.cells cs T)).drew.grownBy w6 row) (hlt : b < w.heap.size) (hne : some b ≠ row) (hc : w.cell? ⟨b, o, none⟩ = some v) : w6.cell? ⟨b, o, none⟩ = some v :=
  (h.cell_far ⟨b, o, none⟩ (by simp; omega) hne).trans ((World.cell?_alloc_lt w _ ⟨b, o, none⟩ hlt).trans hc)
theorem far1f {w w6 : World} {cs : Array Value} {T : TypeId} {row : Option Nat} {b o : Nat} (h : (w.alloc (.cells cs T)).grownBy w6 row) (hlt : b < w.heap.size) (hne : some b ≠ row) (hc : w.frozen? ⟨b, o, none⟩ = false) : w6.frozen? ⟨b, o, none⟩ = false :=
  (h.frozen_far ⟨b, o, none⟩ (by simp; omega) hne).trans ((frozen?_alloc_cells w cs T ⟨b, o, none⟩).trans hc)
theorem far2f {w w6 : World} {cs : Array Value} {T : TypeId} {row : Option Nat} {b o : Nat} (h : (w.alloc (.cells cs T)).drew.grownBy w6 row) (hlt : b < w.heap.size) (hne : some b ≠ row) (hc : w.frozen? ⟨b, o, none⟩ = false) : w6.frozen? ⟨b, o, none⟩ = false :=
  (h.frozen_far ⟨b, o, none⟩ (by simp; omega) hne).trans ((frozen?_alloc_cells w cs T ⟨b, o, none⟩).trans hc)
theorem far12 {w w5 w6 : World} {cs : Array Value} {T : TypeId} {row : Option Nat} {b o : Nat} {v : Value} (h : w5.grownBy w6 row) (hlt : b < w.heap.size) (hne : some b ≠ row) (hc : w.cell? ⟨b, o, none⟩ = some v) (h5 : w5 = w.alloc (.cells cs T) ∨ w5 = (w.alloc (.cells cs T)).drew := by first | exact .inl rfl | exact .inr rfl) : w6.cell? ⟨b, o, none⟩ = some v := by
  rcases h5 with rfl | rfl
  · exact far1 h hlt hne hc
  · exact far2 h hlt hne hc
theorem far12f {w w5 w6 : World} {cs : Array Value} {T : TypeId} {row : Option Nat} {b o : Nat} (h : w5.grownBy w6 row) (hlt : b < w.heap.size) (hne : some b ≠ row) (hc : w.frozen? ⟨b, o, none⟩ = false) (h5 : w5 = w.alloc (.cells cs T) ∨ w5 = (w.alloc (.cells cs T)).drew := by first | exact .inl rfl | exact .inr rfl) : w6.frozen? ⟨b, o, none⟩ = false := by
  rcases h5 with rfl | rfl
  · exact far1f h hlt hne hc
  · exact far2f h hlt hne hc
/-- What Make hands back. -/
def MkG (w : World) (al : List Int) (e : Ending) (w' : World) : Prop := ∃ a v, OkM al a ∧ e = .returned v ∧ AuF a v w' w.heap.size ∧ Below w.heap.size w w'

set_option maxHeartbeats 8000000 in
set_option maxRecDepth 100000 in
theorem make_any (A : Option Addr) (n c B : Nat) (al : List Int) (cs : Array Value) (w : World) (hx : RdI w B A al) (hB : B ≤ w.heap.size) (hn : al.length = n) (hnc : n ≤ c) (hev : Ev5 5 al) (hg : GrC cs) :
    Calls Try.prog 32 #[.slice A n c, .agg cs] w fun e w' => MkG w al e w' := by
  have hsz := hg.sz
  obtain ⟨st, hst, hst0, hst1⟩ := hg.ce 0 (by omega)
  have hn5 : n ≤ 5 := by have := Ev5.len (n := 5) hev; omega
  have hb1 := ((Below.refl w.heap.size w).alloc (Nat.le_refl _) (.cells cs 50)).alloc (by simp) (.cells #[.slice none 0 0, .int .i64 0, .slice none 0 0, .slice none 0 0] 25)
  have HB1 := Lib.hid hb1
  have hG := Lib.hid (show Row ((w.alloc (.cells cs 50)).alloc (.cells #[.slice none 0 0, .int .i64 0, .slice none 0 0, .slice none 0 0] 25)) w.heap.size 50 cs.toList from (Row.new w cs.toList 50).alloc _)
  have hRes := Lib.hid (show Row ((w.alloc (.cells cs 50)).alloc (.cells #[.slice none 0 0, .int .i64 0, .slice none 0 0, .slice none 0 0] 25)) (w.heap.size + 1) 25 [.slice none 0 0, .int .i64 0, .slice none 0 0, .slice none 0 0] by
    have := Row.new (w.alloc (.cells cs 50)) [.slice none 0 0, .int .i64 0, .slice none 0 0, .slice none 0 0] 25
    simpa using this)
  have HE := Lib.hid (rEmpty_any A n c B al _ (hx.below hb1 hB) (Nat.le_trans hB hb1.size) hn (by omega))
  have g0 := hG.out.cell 0 (by simpa using hst)
  have HX := Lib.hid hx
  have HBw := Lib.hid hB
  have HN := Lib.hid hn
  have HEV := Lib.hid hev
  have HG0 := Lib.hid hg
  have HST := Lib.hid (show cs.toList[0]? = some (.int .u8 st) by simpa using hst)
  clear hst hb1 hx hB hn hev hg hsz
  by_cases h250 : 250 ≤ st
  · go_enter Try.func32, Try.ntmps32
    go_wp2_with fail
    refine HE.out.mono ?_
    rintro e w1 ⟨A', c', rfl, ho, hbw, hc1, hc2⟩
    have hR1 := Lib.hid (hRes.out.below hbw (by simp))
    have hB1 := Lib.hid (HB1.out.trans (hbw.mono HB1.out.size))
    have r0 := hR1.out.cell 0 rfl
    have r1 := hR1.out.cell 1 rfl
    have r2 := hR1.out.cell 2 rfl
    have r3 := hR1.out.cell 3 rfl
    have z0 := hR1.out.frozen 0
    have z1 := hR1.out.frozen 1
    have z2 := hR1.out.frozen 2
    have z3 := hR1.out.frozen 3
    obtain ⟨_, _, he, hrd, _, _⟩ := own_rdc ho
    injection he with he1 he2 he3
    subst he1 he3
    have hAu := Lib.hid (show AuF ⟨al, 0, [], []⟩ (.agg #[.slice A' n c', .int .i64 0, .slice none 0 0, .slice none 0 0]) w1 (w.heap.size + 2) from
      ⟨A', n, c', 0, none, 0, 0, none, 0, 0, rfl, { al := hrd, mr := RdI.nil _ _ _, ed := RdG.nil _ _ _, hn := HN.out, hm := rfl, hk := rfl, st := rfl, cn := ⟨hc1, hc2⟩, cm := by omega, ck := by omega, bn := by omega, bm := by omega, bk := by omega },
        own_from (by simpa using ho), fun b o f e => (by cases e), fun b o f e => (by cases e)⟩)
    clear hbw ho hrd he2
    go_wp2_with fail
    (try simp only [Exit.inBlock, Exit.then])
    refine bodyPost_ret (v := .agg #[.slice A' n c', .int .i64 0, .slice none 0 0, .slice none 0 0]) ?_ rfl ⟨⟨al, 0, [], []⟩, _, ?_, rfl, ?_, ?_⟩
    · rw [results_cell1 rfl]
      go_simp
    · refine ⟨⟨⟨fun x hx => ?_, HEV.out.o, by simp, by simp, by simp, by simp, by simp⟩, by simp⟩, can_zero rfl, rfl, by simp⟩
      have := HEV.out.r x hx
      omega
    · exact (hAu.out.set4 (by omega) _ _ _ _).more (by omega)
    · exact below_set4 hB1.out (by omega) _ _ _ _
  · go_enter Try.func32, Try.ntmps32
    go_wp2_with fail
    refine HE.out.mono ?_
    rintro e w1 ⟨A', c', rfl, ho, hbw, hc1, hc2⟩
    have hR1 := Lib.hid (hRes.out.below hbw (by simp))
    have hG1 := Lib.hid (hG.out.below hbw (by simp; omega))
    have hB1 := Lib.hid (HB1.out.trans (hbw.mono HB1.out.size))
    have g0 := hG1.out.cell 0 HST.out
    have hw1 : w.heap.size < w1.heap.size := hG1.out.lt
    have g1 := fun (cs : Array Value) ty => (World.cell?_alloc_lt w1 (.cells cs ty) ⟨w.heap.size, 0, none⟩ hw1).trans g0
    obtain ⟨iI, iI0, iI1, iI2, iI3⟩ := info_parts info_int
    obtain ⟨iE, iE0, iE1, iE2, iE3⟩ := info_parts info_edge
    obtain ⟨S, hS⟩ : ∃ S : Nat, 1 + st % 5 = (S : Int) := ⟨(1 + st % 5).toNat, by omega⟩
    have hS5 : S ≤ 5 := by omega
    have hS1 : 1 ≤ S := by omega
    have hm5 := Lib.hid (show IntKind.u8.wrap (st % 5) = st % 5 by simp [IntKind.wrap, IntKind.signed, IntKind.bits]; omega)
    have hbd0 := Lib.hid (show Bd w1 w1.heap.size w1.heap.size true true (.slice A' n c') (S : Int) (w1.alloc (.cells #[.slice A' n c', .int .i64 (S : Int), .slice none 0 0, .slice none 0 0] 25)) [] (.slice none 0 0) [] (.slice none 0 0) from
      ⟨(Below.refl _ _).alloc (Nat.le_refl _) _, Row.new w1 [.slice A' n c', .int .i64 (S : Int), .slice none 0 0, .slice none 0 0] 25, fun _ => World.ownsRow_nil _ _ _ _, fun _ => World.ownsRow_nil _ _ _ _, Nat.le_refl _⟩)
    have CG := Lib.hid (fun W (hW : Below w1.heap.size w1 W) (j : Nat) (x : Int) (h : cs[j]? = some (.int .u8 x)) => (hG1.out.below hW hw1).cell j (v := .int .u8 x) (by simpa using h))
    have CA := Lib.hid (fun W (hW : Below w1.heap.size w1 W) => HX.out.below (hB1.out.trans (hW.mono hB1.out.size)) HBw.out)
    have HRd := Lib.hid (show RdI w1 w1.heap.size A' al by
      obtain ⟨_, _, he, hrd, _, _⟩ := own_rdc ho
      injection he with he1 he2 he3
      subst he1; exact hrd)
    have HFr := Lib.hid (own_from ho)
    clear ho hbw
    go_wp2_with fail
    go_loopw [6] (fun i wr => ∃ (t : Nat) (vm ve : Value) (ms : List Int) (es : List Ed), t ≤ S ∧ i = .int .i64 t ∧ Hid (Bd w1 w1.heap.size w1.heap.size true true (.slice A' n c') (S : Int) wr ms vm es ve) ∧ Hid (Ev5 (t : Int) ms) ∧ Hid (EdI S al t 0 es)) (fun i _ => S - (intOf i).toNat)
    case atStart => exact ⟨0, _, _, _, _, Nat.zero_le _, rfl, hbd0, Ev5.nil _, EdI.nil _ _⟩
    case round =>
      clear hbd0 g0 g1
      obtain ⟨t, vm, ve, ms, es, htS, rfl, hbd, hev, hei⟩ := hrel
      by_cases htl : t < S
      · obtain ⟨mk, hmk, hmk0, hmk1⟩ := HG0.out.ce 1 (by omega)
        have gm := CG.out wr hbd.out.bel 1 mk hmk
        have s1 := hbd.out.cb.cell 1 rfl
        have z0 : (0 : Int) ≤ (t : Int) := by omega
        have z1 : (t : Int) < (S : Int) := by omega
        have hml := hev.out.len
        have HMO := Lib.hid hev.out.more
        have HSN := Lib.hid (hev.out.snoc (by omega))
        clear hmk
        go_upto_if 33 with fail
        generalize (bits BinOp.and IntKind.u8 (mk / 2 ^ t) 1 == 1) = cb
        go_cut [6] from 22 to 76 (fun i wx => i = .int .i64 (t : Int) ∧ ∃ vm ms', Hid (Bd w1 w1.heap.size w1.heap.size true true (.slice A' n c') (S : Int) wx ms' vm es ve) ∧ Hid (Ev5 ((t + 1 : Nat) : Int) ms'))
        case first =>
          cases cb
          · go_wp2_with fail
            go_meet
            case rel => exact ⟨rfl, vm, ms, hbd, by simpa using HMO⟩
          · have hmo := Lib.hid (hbd.out.mo rfl)
            have c2' := hbd.out.cb.cell 2 rfl
            have f2' := hbd.out.cb.frozen 2
            have hs4 := hbd.out.h2
            go_wp2_with (at_builtin; refine wpList_append_own _ rfl _ _ 22 rfl w1.heap.size 3 iI (.int .i64 0) 1 8 Try.underlying22 iI0 iI1 iI2 iI3 rfl (by decide) _ _ _ rfl (hmo.out.alloc _) ⟨wr.heap.size, 0, none⟩ 1 1 [.int .i64 (t : Int)] rfl rfl (news_one (by simp)) (by intro u hu; simp at hu; subst hu; rfl) (by unfold maxLen; omega) (by omega) (by simp; omega) ?_)
            intro v5 w5 hown5 hgrow5 _
            have hown6 : Own w5 w1.heap.size v5 (ms ++ [(t : Int)]) := by unfold Own; rw [List.length_append]; simpa using hown5
            obtain ⟨A5, c5, hv5, _, _, _⟩ := own_rdc hown6
            rw [show (ms ++ [(t : Int)]).length = ms.length + 1 by simp] at hv5
            subst hv5
            have hba := hbd.out.alloc (.cells #[.int .i64 (t : Int)] 3)
            have hcb := Lib.hid (hba.cb.grown hgrow5 (fun e => hba.neM e.symm))
            have hbd6 := Lib.hid (Bd.mark hba hgrow5 hown6)
            have c2' := hcb.out.cell 2 rfl
            have f2' := hcb.out.frozen 2
            clear hown5 hown6 hgrow5 hba
            go_wp2_with fail
            go_meet
            case rel => exact ⟨rfl, _, _, hbd6, by simpa using HSN⟩
        case rest =>
          clear hbd hev s1 gm hml HMO HSN
          obtain ⟨rfl, vm, ms', hbd, hev⟩ := hcut
          go_wp2_with fail
          go_loopw [7] (fun i wr => ∃ (k : Nat) (ve : Value) (es : List Ed), k ≤ n ∧ i = .int .i64 k ∧ Hid (Bd w1 w1.heap.size w1.heap.size true true (.slice A' n c') (S : Int) wr ms' vm es ve) ∧ Hid (EdI S al t k es)) (fun i _ => n - (intOf i).toNat)
          case atStart => exact ⟨0, _, _, Nat.zero_le _, rfl, hbd, hei⟩
          case round =>
            clear hbd hei
            obtain ⟨k, ve, es, hkn, rfl, hbd, hei⟩ := hrel
            have s1 := hbd.out.cb.cell 1 rfl
            by_cases hkl : k < n
            · obtain ⟨x, hx, hx0, hx1⟩ := HG0.out.ce (2 + t * 5 + k) (by omega)
              have gx := CG.out wr hbd.out.bel _ x hx
              have e0 := Int.emod_nonneg x (show (S : Int) + 2 ≠ 0 by omega)
              have z2 : (0 : Int) ≤ (k : Int) := by omega
              have z3 : (k : Int) < (n : Int) := by omega
              have z4 : (k : Int) < 5 := by omega
              have z5 : (t : Int) < 5 := by omega
              clear hx
              go_wp2_with fail
              go_quiet (fail)
              have hbdq := Lib.hid (hbd.out.drewN nq)
              have s1q := hbdq.out.cb.cell 1 rfl
              clear hbd s1 gx
              generalize wr.drewN nq = wq at *
              have hbd := Lib.hid hbdq.out
              have hsq := hbdq.out.h2
              clear hbdq
              by_cases z6 : x % ((S : Int) + 2) < (S : Int)
              · obtain ⟨bA, oA, rfl, hbA, hcA⟩ := HX.out (by rw [HN.out]; omega)
                obtain ⟨ev, hevv⟩ : ∃ ev, ev = al.getD k 0 := ⟨_, rfl⟩
                have ca : wq.cell? ⟨bA, oA + k, none⟩ = some (.int .i64 ev) := by
                  obtain ⟨b2, o2, e2, hb2, hc2⟩ := CA.out wq hbd.out.bel (by rw [HN.out]; omega)
                  injection e2 with e2; injection e2 with e3 e4; subst e3 e4
                  rw [hevv]; exact hc2 k (by rw [HN.out]; omega)
                have hsn := Lib.hid (hei.out.snoc (u := x % ((S : Int) + 2)) (by rw [HN.out]; exact hkl) HEV.out.o (by omega) z6)
                rw [← hevv] at hsn
                have hel := hei.out.l
                have heo := Lib.hid (hbd.out.eo rfl)
                have c3 := hbd.out.cb.cell 3 rfl
                have f3 := hbd.out.cb.frozen 3
                clear hcA hevv
                have hbs := hbd.out.bel.size
                have hneV := hbd.out.neE
                have hneA : some bA ≠ ve.ownBlock := fun e => by have h1 := (heo.out.lt bA e.symm).1; have h2 := hB1.out.size; have h3 := HBw.out; omega
                have hbAq : bA < wq.heap.size := by have h2 := hB1.out.size; have h3 := HBw.out; omega
                have v3 := fun cs : Array Value => (World.cell?_alloc_lt wq (.cells cs 67) ⟨w1.heap.size, 3, none⟩ hsq).trans c3
                have v4 := fun cs : Array Value => (World.cell?_alloc_lt wq (.cells cs 67) ⟨bA, oA + k, none⟩ hbAq).trans ca
                have v5 := fun cs : Array Value => (frozen?_alloc_cells wq cs 67 ⟨w1.heap.size, 3, none⟩).trans f3
                go_wp2_with fail
                go_region_law (refine step_append_lies _ (by rfl) (.tmp 66) (.tmp 74) _ (by rfl) w1.heap.size 67 iE (.agg #[.int .i64 0, .int .i64 0, .int .i64 0]) 3 24 Try.underlying23 iE0 iE1 iE2 iE3 rfl (by omega) ve es.length (encE es) (by rfl) (by first | exact (heo.out.alloc _).drew | exact (heo.out.alloc _)) ⟨wq.heap.size, 0, none⟩ 1 1 [.int .i64 (t : Int), .int .i64 ev, .int .i64 (x % ((S : Int) + 2))] (by rfl) (by rfl) (World.news_of_block (cs := #[.int .i64 (t : Int), .int .i64 ev, .int .i64 (x % ((S : Int) + 2))]) (t := 67) (fr := (0, 0)) (heap_alloc_new wq _)) (by simp [Value.oneCell']) (by omega) (by unfold maxLen; omega) (by omega) (by simp; omega) (wq.heap.size + 1) (by simp) ?_; intro gg cap w6 hown6 hgrow hat hlt1; have c6 := far12 hgrow hsq hneV c3; have f6 := far12f hgrow hsq hneV f3)
                all_goals
                  have hown7 : OwnE w6 w1.heap.size (.slice (some ⟨gg, 0, none⟩) (es.length + 1) cap) (es ++ [⟨(t : Int), ev, x % ((S : Int) + 2)⟩]) := by
                    unfold OwnE; rw [encE_app, List.length_append]; exact hown6
                  have hbd7 := Lib.hid (show Bd w1 w1.heap.size w1.heap.size true true (.slice A' n c') (S : Int) (w6.setCell ⟨w1.heap.size, 3, none⟩ (.slice (some ⟨gg, 0, none⟩) (es.length + 1) cap)) ms' vm (es ++ [⟨(t : Int), ev, x % ((S : Int) + 2)⟩]) (.slice (some ⟨gg, 0, none⟩) (es.length + 1) cap) from by
                    first
                    | exact Bd.edge (hbd.out.alloc _) hgrow hown7
                    | exact Bd.edge ((hbd.out.alloc _).drew) hgrow hown7
                    | exact Bd.edge (hbd.out.drew.alloc _) hgrow hown7)
                  clear hown7 hown6 hgrow hat
                  go_wp2_with fail
                  go_roundw
                  case measure => simp [intOf]; omega
                  case rel => exact ⟨k + 1, _, _, by omega, by go_num, by first | exact hbd7 | exact Lib.hid hbd7.out.drew, hsn⟩
              · have z7 : (S : Int) ≤ x % ((S : Int) + 2) := by omega
                have hno := Lib.hid (hei.out.more (by rw [HN.out]; exact hkl))
                go_wp2_with fail
                go_roundw
                case rel => exact ⟨k + 1, _, _, by omega, by go_num, hbd, hno⟩
                case measure => simp [intOf]; omega
            · obtain rfl : k = n := by omega
              have hnx := Lib.hid (hei.out.next hn5)
              go_wp2_with fail
              go_roundw
              case rel => exact ⟨t + 1, _, _, _, _, by omega, by go_num, hbd, hev, hnx⟩
              case measure => simp [intOf]; omega
      · obtain rfl : t = S := by omega
        obtain ⟨M3, d3, rfl, hM1, hM2, hM3⟩ := own_rdc (hbd.out.mo rfl)
        obtain ⟨E3, g3, rfl, hE1, hE2, hE3⟩ := ownE_rd (hbd.out.eo rfl)
        have s0 := hbd.out.cb.cell 0 rfl
        have s1 := hbd.out.cb.cell 1 rfl
        have s2 := hbd.out.cb.cell 2 rfl
        have s3 := hbd.out.cb.cell 3 rfl
        have hml := hev.out.len
        have hel := hei.out.l
        have HRi := Lib.hid (show Right ⟨al, (t : Int), ms, es⟩ from { alr := fun x hx => by have := HEV.out.r x hx; omega, alo := HEV.out.o, st0 := by simp, mrr := hev.out.r, mro := hev.out.o, edr := (fun x hx => by
          obtain ⟨h1, h2, h3, h4, h5⟩ := hei.out.r x hx
          exact ⟨⟨h1, h2.resolve_right (fun h => by simpa using h.2)⟩, ⟨h3, h4⟩, h5⟩), edo := hei.out.o, st1 := by show (t : Int) ≤ 4096; omega })
        have HAu := Lib.hid (show AuR wr wr.heap.size A' n c' (t : Int) M3 ms.length d3 E3 es.length g3 ⟨al, (t : Int), ms, es⟩ from
          { al := (HRd.out.below hbd.out.bel (Nat.le_refl _)).more hbd.out.bel.size, mr := hM1, ed := hE1, hn := HN.out, hm := rfl, hk := rfl, st := rfl, cn := ⟨hc1, hc2⟩, cm := ⟨hM2, hM3⟩, ck := ⟨hE2, hE3⟩, bn := by omega, bm := by omega, bk := by omega })
        have HC := Lib.hid (rCanonical_any A' n c' (t : Int) M3 ms.length d3 E3 es.length g3 _ wr.heap.size wr HAu.out (Nat.le_refl _) HRi.out.toRightW (by omega))
        have hR2 := Lib.hid (hR1.out.below hbd.out.bel hR1.out.lt)
        have hB2 := Lib.hid (hB1.out.trans (hbd.out.bel.mono hB1.out.size))
        have hgt := hG1.out.lt
        have hbs := hbd.out.bel.size
        have hst5 := Lib.hid (fnd_len HRi.out.toRightW)
        clear hM1 hE1 hbd
        go_wp2_with fail
        refine HC.out.mono ?_
        rintro e w9 ⟨v9, rfl, hau9, hb9⟩
        obtain ⟨A9, n9, c9, s9, M9, m9, d9, E9, k9, g9, rfl, hr9, hf9⟩ := hau9
        have hAu9 := Lib.hid (show AuF _ _ w9 wr.heap.size from ⟨A9, n9, c9, s9, M9, m9, d9, E9, k9, g9, rfl, hr9, hf9⟩)
        have hR9 := Lib.hid (hR2.out.below hb9 hR2.out.lt)
        have hB9 := Lib.hid (hB2.out.trans (hb9.mono hB2.out.size))
        have hlt1 := hR1.out.lt
        have r0 := hR9.out.cell 0 rfl
        have r1 := hR9.out.cell 1 rfl
        have r2 := hR9.out.cell 2 rfl
        have r3 := hR9.out.cell 3 rfl
        have y0 := hR9.out.frozen 0
        have y1 := hR9.out.frozen 1
        have y2 := hR9.out.frozen 2
        have y3 := hR9.out.frozen 3
        clear hb9 hr9 hf9
        go_wp2_with fail
        (try simp only [Exit.inBlock, Exit.then])
        refine bodyPost_ret (v := .agg #[.slice A9 n9 c9, .int .i64 s9, .slice M9 m9 d9, .slice E9 k9 g9]) ?_ rfl ⟨canA ⟨al, (t : Int), ms, es⟩, _, ?_, rfl, ?_, ?_⟩
        · rw [results_cell1 rfl]
          go_simp
        · refine ⟨HRi.out.can, can_can HRi.out.toRightW, rfl, ?_⟩
          have := hst5.out
          show ((fnd _).length : Int) ≤ 5
          simp only [Int.toNat_natCast] at this
          omega
        · exact (hAu9.out.set4 (by omega) _ _ _ _).more (by omega)
        · exact below_set4 hB9.out (by omega) _ _ _ _
end
end Go.Proofs.Ytcciiikaejjooaa

/- Layer 3: few of the law's package. -/
namespace Go.Proofs.Ytcciiikaejjooaa
open Go.RowKit Go.Sort

def fewB (n m k : Nat) : Bool := decide (n ≤ 12) && (decide (m ≤ 12) && decide (k ≤ 12))
theorem few_yes {n m k : Nat} (h : fewB n m k = true) : n ≤ 12 ∧ m ≤ 12 ∧ k ≤ 12 := by simpa [fewB] using h
set_option maxHeartbeats 800000 in
theorem few_any (A : Option Addr) (n c : Nat) (s : Int) (M : Option Addr) (m d : Nat) (E : Option Addr) (k g : Nat) (w : World) : Calls Try.prog 14 #[.agg #[.slice A n c, .int .i64 s, .slice M m d, .slice E k g]] w fun e w' => e = .returned (.bool (fewB n m k)) ∧ Below w.heap.size w w' := by
  obtain ⟨v, hv⟩ : ∃ v, v = fewB n m k := ⟨_, rfl⟩
  have HV := Lib.hid hv
  rw [← hv]
  clear hv
  by_cases h1 : n ≤ 12
  · by_cases h2 : m ≤ 12
    · by_cases h3 : k ≤ 12
      · have hf := Lib.hid (show v = true by rw [HV.out]; simp [fewB, h1, h2, h3])
        go_enter Try.func14, Try.ntmps14
        go_wp2
        go_ret
        exact ⟨ret_bool (by first | exact hf.out.symm | (rw [hf.out]; simp; omega) | (rw [hf.out]; simp)), (Below.refl _ _).alloc (Nat.le_refl _) _⟩
      · have hf := Lib.hid (show v = false by rw [HV.out]; simp [fewB, h3])
        go_enter Try.func14, Try.ntmps14
        go_wp2
        go_ret
        exact ⟨ret_bool (by first | exact hf.out.symm | (rw [hf.out]; simp; omega) | (rw [hf.out]; simp)), (Below.refl _ _).alloc (Nat.le_refl _) _⟩
    · have hf := Lib.hid (show v = false by rw [HV.out]; simp [fewB, h2])
      go_enter Try.func14, Try.ntmps14
      go_wp2
      go_ret
      exact ⟨ret_bool (by first | exact hf.out.symm | (rw [hf.out]; simp; omega) | (rw [hf.out]; simp)), (Below.refl _ _).alloc (Nat.le_refl _) _⟩
  · have hf := Lib.hid (show v = false by rw [HV.out]; simp [fewB, h1])
    go_enter Try.func14, Try.ntmps14
    go_wp2
    go_ret
    exact ⟨ret_bool (by first | exact hf.out.symm | (rw [hf.out]; simp; omega) | (rw [hf.out]; simp)), (Below.refl _ _).alloc (Nat.le_refl _) _⟩
end Go.Proofs.Ytcciiikaejjooaa
