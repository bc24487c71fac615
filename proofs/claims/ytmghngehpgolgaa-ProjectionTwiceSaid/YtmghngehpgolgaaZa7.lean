/- Texts merged: what follows were texts of their own. -/
import Derived.Test.YtmghngehpgolgaaZa6
import Derived.Test.YtmghngehpgolgaaZa4
import Derived.Test.YtmghngehpgolgaaZa2
import Derived.Maps.OwnOps
import Derived.Great.FillDense
import Derived.Maps.AppendAt
import Derived.Deep.MidRow
import Derived.Laws.Tables
import Derived.Laws.CopyOwn
import Derived.Test.YtmghngehpgolgaaZa5
import Derived.Test.YtmghngehpgolgaaZa3
set_option linter.unusedVariables false
set_option linter.unusedSimpArgs false
set_option linter.unusedSectionVars false
/- Layer 7: textOf: the text of a set of states. -/
namespace Go.Proofs.Ytmghngehpgolgaa
open Go.RowKit Go.Sort Go.Maps

theorem info_u8j : (Try.prog.info? 5).map (fun i => (i.zero, i.size, i.bytes)) = some (some (.int .u8 0), 1, 1) := by kernel_rfl
abbrev OwnBy (w : World) (base : Nat) (v : Value) (zs : List Int) : Prop := w.ownsRow base 5 1 v zs.length (zs.map (Value.int .u8))
theorem make_bytes0 (N : Nat) (hN : N ≤ 1000000) (w : World) :
    (Instr.makeSlice 124 (.int .i64 0) (.int .i64 (N : Int))).run Try.prog w = .ok (.slice (some ⟨w.heap.size, 0, none⟩) 0 N) (w.alloc (.cells (List.replicate N (Value.int .u8 0)).toArray 5)) := by
  obtain ⟨i0, hi, hz0, hz1, hz2⟩ := info_parts info_u8j
  have := run_make_rowN 124 5 i0 (.int .u8 0) Try.underlying124 hi hz0 .i64 .i64 0 N (Nat.zero_le _) (by rw [hz2]; omega) (by omega) w
  rw [show (((0 : Nat) : Int)) = 0 from rfl] at this
  rw [this, hz1, Nat.mul_one]
  have e : madeCells (Value.int .u8 0).cells N = (List.replicate N (Value.int .u8 0)).toArray := by
    rw [← toList_madeCells_one (.int .u8 0) N]; simp [Value.cells]
  rw [e]
theorem own_shapeS {w : World} {base sz n : Nat} {e : TypeId} {v : Value} {xs : List Value} (h : w.ownsRow base e sz v n xs) : ∃ A c, v = .slice A n c := by
  rcases h.2 with ⟨rfl, rfl⟩ | ⟨g, cap, cur, rfl, _⟩
  · exact ⟨none, 0, rfl⟩
  · exact ⟨_, _, rfl⟩
theorem keyL_take {zs : List Int} {k : Nat} (h : k < zs.length) : keyL (zs.take (k + 1)) = keyL (zs.take k) ++ [zs.getD k 0 / 256, zs.getD k 0 % 256] := by
  rw [List.take_succ_eq_append_getElem h, keyL_snoc]
  simp [List.getD, List.getElem?_eq_getElem h]
set_option maxRecDepth 100000 in
theorem conv_text {W : World} {base : Nat} {A : Option Addr} {n c : Nat} {ks : List Int} (h : W.ownsRow base 5 1 (.slice A n c) n (ks.map (Value.int .u8))) (hA : A ≠ none) : (convert 124 9 (.slice A n c)).run Try.prog W = .ok (.string (strOfNums ks)) W := by
  have hl : ks.length = n := by have := h.1; simpa using this
  rcases h.2 with ⟨h1, _⟩ | ⟨g, cap, cur, h1, hb, hg, hn, hcap, hsz, htake⟩
  · injection h1 with h1; exact absurd h1 hA
  · injection h1 with h1 _ h2; subst h1 h2
    refine run_convert_bytes_arg W 124 5 Try.underlying124 Try.underlying5 g 0 n c ks hl (fun i hi => ?_) 9 Try.underlying9
    rw [Nat.zero_add, World.ownsRow.cellAt h i (by omega), List.getElem?_map, List.getElem?_eq_getElem (by omega)]
    simp [List.getD, List.getElem?_eq_getElem (show i < ks.length by omega)]
set_option maxHeartbeats 4000000 in
set_option maxRecDepth 100000 in
theorem jText_any (A : Option Addr) (n c : Nat) (zs : List Int) (w : World) (hx : RdI w w.heap.size A zs) (hn : zs.length = n) (hb : n ≤ 100000) (hok : OkK zs) :
    Calls Try.prog 53 #[.slice A n c] w fun e w' => e = .returned (.string (strOfNums (keyL zs))) ∧ Below w.heap.size w w' := by
  have hmk := make_bytes0 (2 * n) (by omega)
  have hm2 : IntKind.i64.wrap (2 * (n : Int)) = ((2 * n : Nat) : Int) := by
    rw [show (2 * (n : Int)) = ((2 * n : Nat) : Int) by omega]; simp [IntKind.wrap, IntKind.bits, IntKind.signed]; omega
  obtain ⟨N, hN⟩ : ∃ N, N = 2 * n := ⟨_, rfl⟩
  rw [← hN] at hmk hm2
  have HN2 := Lib.hid hN
  have HX := Lib.hid hx
  have HN := Lib.hid hn
  have HK := Lib.hid hok
  have HB0 := Lib.hid ((Below.refl w.heap.size w).alloc (Nat.le_refl _) (.cells (List.replicate N (Value.int .u8 0)).toArray 5))
  have HO0 := Lib.hid (World.ownsRow_made (e := 5) (size := 1) w (List.replicate N (Value.int .u8 0)).toArray N (Nat.le_refl w.heap.size) (by unfold maxLen; omega) (by simp))
  obtain ⟨i0, hi, hz0, hz1, hz2⟩ := info_parts info_u8j
  have HI := Lib.hid hi
  have HZ := Lib.hid (show i0.zero = some (.int .u8 0) ∧ i0.size = 1 ∧ i0.bytes = 1 from ⟨hz0, hz1, hz2⟩)
  clear hx hn hok hN hi hz0 hz1 hz2
  simp only [List.toArray_replicate] at hmk HB0 HO0
  go_enter Try.func53, Try.ntmps53
  go_wp2_with fail
  go_loopw [3, 12] (fun tv iv wr => ∃ (k : Nat) (A' : Option Addr) (c' : Nat), k ≤ n ∧ iv = .int .i64 k ∧ tv = .slice A' (2 * k) c' ∧ A' ≠ none ∧ Hid (wr.ownsRow w.heap.size 5 1 (.slice A' (2 * k) c') (2 * k) ((keyL (zs.take k)).map (Value.int .u8))) ∧ Hid (Below w.heap.size w wr)) (fun _ i _ => n - (intOf i).toNat)
  case atStart => exact ⟨0, _, _, Nat.zero_le _, rfl, rfl, by simp, HO0, HB0⟩
  case round =>
    clear HO0 HB0 hmk
    obtain ⟨k, A', c', hk, rfl, rfl, hA, ho, hbel⟩ := hrel
    by_cases hlt : k < n
    · obtain ⟨b, o, rfl, hb, hc⟩ := HX.out (by rw [HN.out]; omega)
      have hz : k < zs.length := by rw [HN.out]; exact hlt
      have hc1 := (hbel.out.cell (p := ⟨b, o + k, none⟩) hb).trans (hc k hz)
      have hxk := HK.out _ (getD_mem hz)
      have hsn := Lib.hid (keyL_take hz)
      obtain ⟨x, hx⟩ : ∃ x, x = zs.getD k 0 := ⟨_, rfl⟩
      rw [← hx] at hc1 hxk hsn
      have z0 : (k : Int) < (n : Int) := by omega
      have z1 : (0 : Int) ≤ (k : Int) := by omega
      clear hc hz hx
      have hkz : (keyL (zs.take k)).length = 2 * k := by rw [keyL_len, List.length_take, HN.out]; omega
      go_wp2_with (at_builtin; refine wpList_append_own _ rfl (.tmp 16) (.tmp 22) 124 rfl w.heap.size 5 i0 (.int .u8 0) 1 1 Try.underlying124 HI.out HZ.out.1 HZ.out.2.1 HZ.out.2.2 rfl (by omega) _ (2 * k) ((keyL (zs.take k)).map (Value.int .u8)) rfl (ho.out.alloc _) ⟨wr.heap.size, 0, none⟩ 2 2 [.int .u8 (x / 256), .int .u8 (x % 256)] rfl rfl (World.news_of_block (cs := #[.int .u8 (x / 256), .int .u8 (x % 256)]) (t := 5) (fr := (0, 0)) (heap_alloc_new wr _)) (by simp [Value.oneCell']) (by unfold maxLen; omega) (by omega) (by have := hbel.out.size; simp; omega) ?_; intro v4 w4 ho4 hg4 hnil)
      obtain ⟨A4, c4, hv4⟩ := own_shapeS ho4
      subst hv4
      have HO4 := Lib.hid ho4
      have HG4 := Lib.hid (show (wr.alloc (.cells #[.int .u8 (x / 256), .int .u8 (x % 256)] 5)).grownBy w4 (Value.slice A' (2 * k) c').ownBlock from hg4)
      have hA4 : A4 ≠ none := fun e => by
        subst e
        rcases ho4.2 with ⟨h1, h2⟩ | ⟨g, _, _, h1, _⟩
        · omega
        · cases h1
      clear ho4 hg4 hnil
      go_wp2_with fail
      go_roundw
      case rel =>
        refine ⟨k + 1, A4, c4, by omega, by go_num, by rw [show 2 * (k + 1) = 2 * k + 2 by omega], hA4, ?_, Lib.hid ?_⟩
        · have h1 := HO4.out
          rw [show (keyL (zs.take k)).map (Value.int .u8) ++ [Value.int .u8 (x / 256), Value.int .u8 (x % 256)] = (keyL (zs.take (k + 1))).map (Value.int .u8) by rw [hsn.out]; simp] at h1
          exact Lib.hid h1
        · exact (hbel.out.alloc hbel.out.size _).grown HG4.out (by have := hbel.out.size; simp; omega) (fun j hj => (ho.out.lt j hj).1)
      case measure => simp [intOf]; omega
    · obtain rfl : k = n := by omega
      have hF0 : zs.take k = zs := List.take_of_length_le (by rw [HN.out]; exact Nat.le_refl _)
      rw [hF0] at ho
      have hcv := conv_text ho.out hA
      clear hF0
      go_wp2_with fail
      go_ret
      exact ⟨rfl, hbel.out⟩
end Go.Proofs.Ytmghngehpgolgaa

/- Layer 3: generated of the program makes the words in their order. -/
namespace Go.Proofs.Ytmghngehpgolgaa
open Go.RowKit Go.Sort

/-- What generated hands back. -/
def GenR (w : World) (R : Option (List (List Int × Int))) (e : Ending) (w' : World) : Prop :=
  (R = none ∧ e = .returned (.tuple #[.slice none 0 0, .slice none 0 0, .int .i64 3])) ∨
  (∃ vw ve hs es L, R = some L ∧ e = .returned (.tuple #[vw, ve, .int .i64 0]) ∧ GL w' w.heap.size vw hs ve es ∧ hs.map Hd.z = L.map Prod.fst ∧ es = L.map Prod.snd ∧ L.length ≤ 1024 ∧ (∀ x ∈ hs, x.z.length ≤ 4096))
theorem wordmap_at {hs : List Hd} {L : List (List Int × Int)} (h : hs.map Hd.z = L.map Prod.fst) {j : Nat} {x : Hd} (hx : hs[j]? = some x) : x.z = (L.getD j ([], 0)).1 := by
  have h1 : (hs.map Hd.z)[j]? = some x.z := by rw [List.getElem?_map, hx]; rfl
  rw [h, List.getElem?_map] at h1
  cases hL : L[j]? with
  | none => rw [hL] at h1; simp at h1
  | some p => rw [hL] at h1; simp at h1; simp [List.getD, hL, h1]
theorem endmap_at {es : List Int} {L : List (List Int × Int)} (h : es = L.map Prod.snd) (j : Nat) (hj : j < L.length) : es.getD j 0 = (L.getD j ([], 0)).2 := by
  subst h
  simp [List.getD, List.getElem?_eq_getElem hj]
theorem getD_memP {L : List (List Int × Int)} {j : Nat} (h : j < L.length) : L.getD j ([], 0) ∈ L := by
  simp [List.getD, List.getElem?_eq_getElem h]
theorem ext_take {a : Au} {p : List Int × Int} {t : Nat} {x : Ed} (h : (succ a.ed p.2)[t]? = some x) : (extW a p).take (t + 1) = (extW a p).take t ++ [(p.1 ++ [x.e], x.t)] := by
  unfold extW
  rw [← List.map_take, ← List.map_take, take_succ_ed h, List.map_append]; rfl

end Go.Proofs.Ytmghngehpgolgaa

/- Layer 3: Words of the program. -/
namespace Go.Proofs.Ytmghngehpgolgaa
open Go.RowKit Go.Sort

theorem genO_zero {a : Au} {most : Int} (h : a.st = 0) : genO a most = some [] := by rw [genO, if_pos h]
/-- A slice's address leads, below block B, to slices that hold these words (asked only where there are any). -/
def RdL (w : World) (B : Nat) (A : Option Addr) (hs : List Hd) : Prop :=
  0 < hs.length → ∃ b off, A = some ⟨b, off, none⟩ ∧ b < B ∧ ∀ j x, hs[j]? = some x → w.cell? ⟨b, off + j, none⟩ = some x.enc ∧ RdI w B x.A x.z ∧ x.z.length ≤ x.c ∧ x.c ≤ 9223372036854775807
theorem RdL.nil (w : World) (B : Nat) (A : Option Addr) : RdL w B A [] := fun h => absurd h (by simp)
theorem RdL.below {w w' : World} {B B' : Nat} {A : Option Addr} {hs : List Hd} (h : RdL w B A hs) (hb : Below B' w w') (hB : B ≤ B') : RdL w' B A hs := fun h0 => by
  obtain ⟨b, o, e, hlt, hc⟩ := h h0
  exact ⟨b, o, e, hlt, fun j x hx => ⟨(hb.cell (p := ⟨b, o + j, none⟩) (Nat.lt_of_lt_of_le hlt hB)).trans (hc j x hx).1, (hc j x hx).2.1.below hb hB, (hc j x hx).2.2⟩⟩
theorem RdL.more {w : World} {B B' : Nat} {A : Option Addr} {hs : List Hd} (h : RdL w B A hs) (hB : B ≤ B') : RdL w B' A hs := fun h0 => by
  obtain ⟨b, o, e, hlt, hc⟩ := h h0
  exact ⟨b, o, e, by omega, fun j x hx => ⟨(hc j x hx).1, (hc j x hx).2.1.more hB, (hc j x hx).2.2⟩⟩
/-- The words that are kept. -/
def selW (mr : List Int) (mk : Bool) (ps : List (Hd × Int)) : List Hd := (ps.filter fun p => !mk || decide (p.2 ∈ mr)).map Prod.fst
def selL (mr : List Int) (mk : Bool) (L : List (List Int × Int)) : List (List Int) := (L.filter fun p => !mk || decide (p.2 ∈ mr)).map Prod.fst
theorem selW_step {mr : List Int} {mk : Bool} {ps : List (Hd × Int)} {t : Nat} {x : Hd} {q : Int} (h : ps[t]? = some (x, q)) : selW mr mk (ps.take (t + 1)) = selW mr mk (ps.take t) ++ (if (!mk || decide (q ∈ mr)) = true then [x] else []) := by
  have hl := (List.getElem?_eq_some_iff.1 h).1
  have he := (List.getElem?_eq_some_iff.1 h).2
  unfold selW
  rw [List.take_succ_eq_append_getElem hl, he, List.filter_append, List.map_append]
  congr 1
  by_cases hc : (!mk || decide (q ∈ mr)) = true
  · rw [List.filter_cons_of_pos (by exact hc), if_pos hc]; rfl
  · rw [List.filter_cons_of_neg (by exact hc), if_neg hc]; rfl
theorem zip_words {hs : List Hd} {es : List Int} {L : List (List Int × Int)} (h1 : hs.map Hd.z = L.map Prod.fst) (h2 : es = L.map Prod.snd) : (hs.zip es).map (fun p => (p.1.z, p.2)) = L := by
  have : (hs.zip es).map (fun p => (p.1.z, p.2)) = (hs.map Hd.z).zip es := by
    rw [List.zip_map_left]; rfl
  rw [this, h1, h2]
  apply List.ext_getElem
  · simp
  · intro i h1 h2; simp
theorem selW_words {mr : List Int} {mk : Bool} {hs : List Hd} {es : List Int} {L : List (List Int × Int)} (h1 : hs.map Hd.z = L.map Prod.fst) (h2 : es = L.map Prod.snd) : (selW mr mk (hs.zip es)).map Hd.z = selL mr mk L := by
  rw [selL, ← zip_words h1 h2, selW, List.filter_map, List.map_map, List.map_map]; rfl
theorem selW_mem {mr : List Int} {mk : Bool} {hs : List Hd} {es : List Int} {x : Hd} {t : Nat} (h : x ∈ selW mr mk ((hs.zip es).take t)) : x ∈ hs := by
  obtain ⟨p, hp, rfl⟩ := List.mem_map.1 h
  exact (List.of_mem_zip (List.mem_of_mem_take (List.mem_filter.1 hp).1)).1
theorem selW_len (mr : List Int) (mk : Bool) (ps : List (Hd × Int)) (t : Nat) : (selW mr mk (ps.take t)).length ≤ t := by
  unfold selW; rw [List.length_map]
  exact Nat.le_trans (List.length_filter_le _ _) (List.length_take_le _ _)

theorem ownL_rd {w : World} {base B : Nat} {v : Value} {hs : List Hd} (h : w.ownsRow base 22 1 v hs.length (hs.map Hd.enc)) (ho : ∀ x ∈ hs, Own w B x.enc x.z) : ∃ A c, v = .slice A hs.length c ∧ RdL w w.heap.size A hs ∧ hs.length ≤ c ∧ c ≤ 9223372036854775807 := by
  rcases h.2 with ⟨rfl, h0⟩ | ⟨g, cap, cur, rfl, hg, hh, hn, hcap, hsz, htake⟩
  · have : hs = [] := List.eq_nil_of_length_eq_zero h0
    subst this
    exact ⟨none, 0, rfl, RdL.nil _ _ _, Nat.le_refl _, by omega⟩
  · refine ⟨some ⟨g, 0, none⟩, cap, rfl, fun _ => ⟨g, 0, rfl, (h.lt g rfl).2, fun j x hj => ?_⟩, hn, by unfold maxLen at hcap; omega⟩
    have hl := (List.getElem?_eq_some_iff.1 hj).1
    refine ⟨by rw [Nat.zero_add, World.ownsRow.cellAt (cap := cap) h j (by omega), List.getElem?_map, hj]; rfl, ?_⟩
    obtain ⟨A', c', e, hrd, h1, h2⟩ := own_rdc (ho x (List.mem_of_getElem? hj))
    unfold Hd.enc at e
    injection e with e1 e2 e3
    subst e1; subst e3
    exact ⟨hrd, h1, h2⟩
/-- What Words hands back. -/
def wordsR (a : Au) (most : Int) (mk : Bool) : List (List Int) × Int :=
  if chkE a ≠ 0 then ([], chkE a) else if most < 0 ∨ 4096 < most then ([], 2) else match genO a most with | none => ([], 3) | some L => (selL a.mr mk L, 0)
def WdsR (r : List (List Int) × Int) (e : Ending) (w' : World) : Prop := ∃ A c hs, e = .returned (.tuple #[.slice A hs.length c, .int .i64 r.2]) ∧ hs.map Hd.z = r.1 ∧ RdL w' w'.heap.size A hs ∧ hs.length ≤ c ∧ c ≤ 9223372036854775807 ∧ hs.length ≤ 1024
theorem WdsR.nil {r : List (List Int) × Int} {x : Int} (w' : World) (h : r = ([], x)) : WdsR r (.returned (.tuple #[.slice none 0 0, .int .i64 x])) w' := by
  subst h; exact ⟨none, 0, [], rfl, rfl, RdL.nil _ _ _, Nat.le_refl _, by omega, by simp⟩

end Go.Proofs.Ytmghngehpgolgaa

/- Layer 7: the estimates that have been found: their list and their numbers; number. -/
namespace Go.Proofs.Ytmghngehpgolgaa
open Go.RowKit Go.Sort Go.Maps Go.WideMaps

theorem zeroIntJ (w : World) : (zeroValue 3).run Try.prog w = .ok (.int .i64 0) w := by kernel_rfl
theorem wf_smallJ {x : Int} (h0 : -9223372036854775808 ≤ x) (h : x ≤ 9223372036854775807) : (Lit.int .i64 x).wf = true := by
  show (decide (IntKind.min .i64 ≤ x) && decide (x ≤ IntKind.max .i64)) = true
  rw [show IntKind.min .i64 = -9223372036854775808 from rfl, show IntKind.max .i64 = 9223372036854775807 from rfl]
  simp [h0, h]
/-- The found estimates: F the box of their list, B the box of their map, M the map. -/
structure FS (w : World) (F B M base : Nat) (v : Value) (hs : List Hd) : Prop where
  nu : Row w B 93 [.map (some M)]
  fo : Row w F 30 [v]
  mp : w.ownsMap Try.prog 9 (plainElem Try.prog 3) M hs.length (mpS (hs.map Hd.z))
  ow : w.ownsRow base 22 1 v hs.length (hs.map Hd.enc)
  rw : ∀ x ∈ hs, Own w base x.enc x.z
  ok : ∀ x ∈ hs, SKey x.z
  nd : (hs.map Hd.z).Nodup
  hb : base ≤ w.heap.size
/-- What is kept when an estimate is numbered. -/
structure KpS (w w' : World) (F M : Nat) (v : Value) : Prop where
  os : w'.os = w.os
  tape : w'.tape = w.tape
  output : w'.output = w.output
  size : w.heap.size ≤ w'.heap.size
  block : ∀ k, k < w.heap.size → k ≠ F → k ≠ M → v.ownBlock ≠ some k → w'.heap[k]? = w.heap[k]?
def addS (hs : List Hd) (x : Hd) : List Hd := if x.z ∈ hs.map Hd.z then hs else hs ++ [x]
theorem ownsMap_ne_rowS {H : Type} {w : World} {P : Program} {k : TypeId} {R : Value → Option (DataW H × List MemPlace)} {M n : Nat} {D : DataW H} {g : Nat} {e : TypeId} {cs : List Value} (h : w.ownsMap P k R M n D) (hr : Row w g e cs) : M ≠ g := by
  rintro rfl
  obtain ⟨es, clock, hb, _⟩ := h
  rw [hr] at hb; cases hb
theorem ownsMap_ne_ownS {H : Type} {w : World} {P : Program} {k : TypeId} {R : Value → Option (DataW H × List MemPlace)} {M n : Nat} {D : DataW H} {base sz m : Nat} {e : TypeId} {v : Value} {xs : List Value} (h : w.ownsMap P k R M n D) (hr : w.ownsRow base e sz v m xs) : v.ownBlock ≠ some M := by
  rcases hr.2 with ⟨rfl, _⟩ | ⟨g2, _, _, rfl, _, hg2, _⟩
  · simp [Value.ownBlock]
  · intro h'
    obtain ⟨es, clock, hb, _⟩ := h
    simp only [Value.ownBlock, Option.some.injEq] at h'
    rw [h'] at hg2
    rw [hg2] at hb; cases hb
theorem row_ne_rowS {w : World} {g1 g2 : Nat} {e1 e2 : TypeId} {c1 c2 : List Value} (h1 : Row w g1 e1 c1) (h2 : Row w g2 e2 c2) (he : e1 ≠ e2) : g1 ≠ g2 := by
  rintro rfl
  have h := h1.symm.trans h2
  simp only [Option.some.injEq, Obj.cells.injEq] at h
  exact he h.2.1
theorem gr_of_belowS {w w' : World} (hb : Below w.heap.size w w') : w.grownBy w' none := ⟨hb.os, hb.tape, hb.output, hb.size, fun i hi _ => hb.block i hi⟩
theorem FS.below {w w' : World} {F B M base : Nat} {v : Value} {hs : List Hd} (h : FS w F B M base v hs) (hb : Below w.heap.size w w') : FS w' F B M base v hs :=
  ⟨h.nu.below hb h.nu.lt, h.fo.below hb h.fo.lt, h.mp.kept (gr_of_belowS hb) (by simp), own_below h.ow hb, fun x hx => own_below (h.rw x hx) hb, h.ok, h.nd, Nat.le_trans h.hb hb.size⟩
theorem FS.push {w w2 w4 : World} {F B M base : Nat} {v v' : Value} {hs : List Hd} {x : Hd} {o2 : Obj} (h : FS w F B M base v hs) (hx : Own w base x.enc x.z) (hk : SKey x.z) (hn : x.z ∉ hs.map Hd.z)
    (hm : w2.ownsMap Try.prog 9 (plainElem Try.prog 3) M (hs.length + 1) ((mpS (hs.map Hd.z)).put (KS x.z) (.lit (.int .i64 (hs.length : Int)))))
    (hg : w.grownBy w2 (some M)) (ho : w4.ownsRow base 22 1 v' (hs.length + 1) (hs.map Hd.enc ++ [x.enc])) (hg4 : (w2.alloc o2).grownBy w4 v.ownBlock) :
    FS (w4.setCell ⟨F, 0, none⟩ v') F B M base v' (hs ++ [x]) ∧ KpS w (w4.setCell ⟨F, 0, none⟩ v') F M v := by
  have hMF := ownsMap_ne_rowS h.mp h.fo
  have hMB := ownsMap_ne_rowS h.mp h.nu
  have hBF := row_ne_rowS h.nu h.fo (by decide)
  have hMv := ownsMap_ne_ownS h.mp h.ow
  have hBv := row_ne_own h.nu h.ow (by decide)
  have hFv := row_ne_own h.fo h.ow (by decide)
  have s1 := hg.size
  have s2 := hg4.size
  have hn2 : Row w2 B 93 [.map (some M)] := h.nu.grown hg (by simp; exact fun e => hMB e)
  have hf2 : Row w2 F 30 [v] := h.fo.grown hg (by simp; exact fun e => hMF e)
  have hn4 : Row w4 B 93 [.map (some M)] := (hn2.alloc o2).grown hg4 hBv
  have hf4 : Row w4 F 30 [v] := (hf2.alloc o2).grown hg4 hFv
  have hm4 := (hm.alloc o2).kept hg4 (fun e => hMv e.symm)
  have hFv4 := row_ne_own hf4 ho (by decide)
  have hr4 : ∀ y ∈ hs ++ [x], Own w4 base y.enc y.z := fun y hy => by
    have h0 : Own w base y.enc y.z := by
      rcases List.mem_append.1 hy with hy | hy
      · exact h.rw y hy
      · rw [List.mem_singleton.1 hy]; exact hx
    have h1 : Own w2 base y.enc y.z := World.ownsRow.kept h0 hg (.inr (ownsMap_ne_ownS h.mp h0))
    exact World.ownsRow.kept (h1.alloc o2) hg4 (owns_ne h0 h.ow (by decide))
  have hsz : ∀ (W : World) (o : Obj), (W.alloc o).heap.size = W.heap.size + 1 := fun W o => by simp
  rw [hsz] at s2
  refine ⟨⟨hn4.setOther (p := ⟨F, 0, none⟩) hBF _, hf4.set 0 v', ?_, ?_, ?_, ?_, ?_, ?_⟩, ⟨?_, ?_, ?_, ?_, ?_⟩⟩
  · rw [List.map_append, List.map_singleton, mpS_snoc, List.length_append, List.length_map]; exact hm4.setCell hMF _
  · rw [List.length_append, List.map_append]; exact ownsRow_setCell_other ho hFv4 _
  · exact fun y hy => ownsRow_setCell_other (hr4 y hy) (row_ne_own hf4 (hr4 y hy) (by decide)) _
  · intro y hy
    rcases List.mem_append.1 hy with hy | hy
    · exact h.ok y hy
    · rw [List.mem_singleton.1 hy]; exact hk
  · rw [List.map_append, List.nodup_append]
    exact ⟨h.nd, by simp, fun a ha b hb e => hn (by simp at hb; rw [hb] at e; rw [← e]; exact ha)⟩
  · have := h.hb; simp [World.setCell]; omega
  · exact Eq.trans (b := w2.os) hg4.os hg.os
  · exact Eq.trans (b := w2.tape) hg4.tape hg.tape
  · exact Eq.trans (b := w2.output) hg4.output hg.output
  · simp [World.setCell]; omega
  · intro k hk hF hM hv
    rw [Below.heap_setCell _ _ _ _ (show k ≠ (⟨F, 0, none⟩ : Addr).block from hF), hg4.block k (by rw [hsz]; omega) (fun e => hv e.symm), Below.heap_alloc _ _ _ (show k < w2.heap.size by omega), hg.block k (by omega) (by simpa using hM)]
theorem info_intsE : ∃ iS, Try.prog.info? 22 = some iS ∧ iS.zero = some (.slice none 0 0) ∧ iS.size = 1 ∧ iS.bytes = 24 := by
  obtain ⟨i0, hi, hz0, hz1, hz2⟩ := info_parts info_ints
  exact ⟨i0, hi, hz0, hz1, hz2⟩
set_option maxHeartbeats 4000000 in
set_option maxRecDepth 100000 in
theorem jNumber_any (F B M base : Nat) (v : Value) (hs : List Hd) (x : Hd) (w : World) (h : FS w F B M base v hs) (hx : Own w base x.enc x.z) (hk : SKey x.z) (hl : hs.length ≤ 1000000) :
    Calls Try.prog 52 #[.slice x.A x.z.length x.c, .pointer (some ⟨B, 0, none⟩), .pointer (some ⟨F, 0, none⟩)] w fun e w' => e = .returned (.int .i64 ((((addS hs x).map Hd.z).idxOf x.z : Nat) : Int)) ∧ ∃ v', FS w' F B M base v' (addS hs x) ∧ KpS w w' F M v := by
  have HT := Lib.hid (jText_any x.A x.z.length x.c x.z w (by obtain ⟨A, c, e, hr, _⟩ := own_rdc hx; injection e with e1 _ _; rw [e1]; exact hr) rfl hk.2 hk.1)
  have H := Lib.hid h
  have HX := Lib.hid hx
  have HK := Lib.hid hk
  obtain ⟨n, hn⟩ : ∃ n, n = hs.length := ⟨_, rfl⟩
  have HN := Lib.hid hn
  have hl' : n ≤ 1000000 := by omega
  have hkey := Lib.hid (key_set hk.2)
  have hrd := Lib.hid (mpS_reads (hs.map Hd.z) (fun t ht => by obtain ⟨y, hy, rfl⟩ := List.mem_map.1 ht; exact h.ok y hy) h.nd x.z hk)
  obtain ⟨xl, hxl⟩ : ∃ l, l = x.z.length := ⟨_, rfl⟩
  obtain ⟨A, c, hv⟩ := own_shapeS h.ow
  rw [← hn] at hv
  subst hv
  rw [← hxl] at HT ⊢
  clear h hx hk
  by_cases hin : x.z ∈ hs.map Hd.z
  · have hh : has (mpS (hs.map Hd.z)) (KS x.z) = true := by rw [hrd.out.1]; exact decide_eq_true hin
    have hat0 := Lib.hid hrd.out.2
    rw [if_pos hin] at hat0
    have hadd : addS hs x = hs := by unfold addS; rw [if_pos hin]
    rw [hadd]
    clear hrd hadd hn hxl
    go_enter Try.func52, Try.ntmps52
    go_wp2_with fail
    refine HT.out.mono ?_
    rintro e w2 ⟨rfl, hb2⟩
    have H2 := Lib.hid (H.out.below hb2)
    have HB2 := Lib.hid hb2
    have hB := H2.out.nu.cell 0 rfl
    have hF := H2.out.fo.cell 0 rfl
    have HMP := Lib.hid H2.out.mp
    clear hb2
    go_wp2_with (first
      | (at_lookup; refine wpList_lookup_own_ok_int _ rfl _ _ 93 rfl 9 3 .i64 lawStr Try.underlying93 Try.underlying3 (zeroIntJ _) M hs.length (mpS (hs.map Hd.z)) rfl HMP.out _ _ rfl hkey.out ?_; intro c0 hat hwc; have hat := Lib.hid hat; rw [hh]))
    go_ret
    have hc : c0 = ((hs.map Hd.z).idxOf x.z : Int) := by
      have := hat.out.symm.trans hat0.out
      simpa using this
    exact ⟨congrArg (fun k : Int => Ending.returned (.int .i64 k)) hc, _, H2.out, ⟨HB2.out.os, HB2.out.tape, HB2.out.output, HB2.out.size, fun k hk _ _ _ => HB2.out.block k hk⟩⟩
  · have hh : has (mpS (hs.map Hd.z)) (KS x.z) = false := by rw [hrd.out.1]; exact decide_eq_false hin
    have hadd : addS hs x = hs ++ [x] := by unfold addS; rw [if_neg hin]
    have HIN := Lib.hid hin
    have hidx : ((hs ++ [x]).map Hd.z).idxOf x.z = n := by rw [hn]; simp [List.idxOf_append, hin]
    rw [hadd, hidx]
    have hval := Lib.hid (plainElem_int (H := Unit) (P := Try.prog) (a := (n : Int)) Try.underlying3 (wf_smallJ (by omega) (by omega)))
    have hlm : hs.length < maxLen := by unfold maxLen; omega
    have hlm1 : hs.length + 1 ≤ maxLen := by unfold maxLen; omega
    have hlm2 : (hs.length + 1) * 24 ≤ 140737488355328 := by omega
    obtain ⟨iS, iS0, iS1, iS2, iS3⟩ := info_intsE
    have hxe : Hd.enc x = .slice x.A xl x.c := by rw [hxl]; rfl
    have HXE := Lib.hid hxe
    clear hrd hadd hidx hin hn hxl hxe
    go_enter Try.func52, Try.ntmps52
    go_wp2_with fail
    refine HT.out.mono ?_
    rintro e w2 ⟨rfl, hb2⟩
    have H2 := Lib.hid (H.out.below hb2)
    have HX2 := Lib.hid (own_below HX.out hb2)
    have HB2 := Lib.hid hb2
    have hB := H2.out.nu.cell 0 rfl
    have hF := H2.out.fo.cell 0 rfl
    have HMP := Lib.hid H2.out.mp
    clear hb2
    go_wp2_with (first
      | (at_lookup; refine wpList_lookup_own_ok_int _ rfl _ _ 93 rfl 9 3 .i64 lawStr Try.underlying93 Try.underlying3 (zeroIntJ _) M hs.length (mpS (hs.map Hd.z)) rfl HMP.out _ _ rfl hkey.out ?_; intro c0 hat hwc; rw [hh]; clear hat hwc)
      | (at_mapUpdate; refine wpList_mapUpdate_own _ rfl _ _ _ 93 rfl 9 3 lawStr Try.underlying93 (plainElem Try.prog 3) M hs.length (mpS (hs.map Hd.z)) rfl HMP.out hlm _ _ _ rfl rfl hkey.out _ [] hval.out ?_; intro w3 hown3 hgr3
         have HM3 := Lib.hid hown3; have HG3 := Lib.hid hgr3; clear hown3 hgr3
         have hF := (H2.out.fo.grown HG3.out (fun e => ownsMap_ne_rowS H2.out.mp H2.out.fo (by injection e with e))).cell 0 rfl
         have HO3 := Lib.hid (World.ownsRow.kept H2.out.ow HG3.out (.inr (ownsMap_ne_ownS H2.out.mp H2.out.ow)))
         have hz3 := HG3.out.size)
      | (at_builtin; refine wpList_append_own_at _ rfl (.tmp 23) (.tmp 25) 30 rfl base 22 iS _ 1 24 Try.underlying30 iS0 iS1 iS2 iS3 rfl (by decide) _ hs.length (hs.map Hd.enc) rfl (HO3.out.alloc (.cells #[.slice x.A xl x.c] 22)) ⟨w3.heap.size, 0, none⟩ 1 1 [.slice x.A xl x.c] rfl rfl (World.news_of_block (cs := #[.slice x.A xl x.c]) (t := 22) (fr := (0, 0)) (heap_alloc_new w3 _)) (by simp [Value.oneCell']) hlm1 hlm2 (by have := H2.out.hb; simp; omega) ?_
         intro v4 w4 ho4 hg4 _ hbl; obtain ⟨A4, c4, hv4⟩ := own_shapeS ho4; subst hv4
         have HO4 := Lib.hid ho4; have HG4 := Lib.hid hg4; clear ho4 hg4 hbl
         have hF4 := ((H2.out.fo.grown HG3.out (fun e => ownsMap_ne_rowS H2.out.mp H2.out.fo (by injection e with e))).alloc (.cells #[.slice x.A xl x.c] 22)).grown HG4.out (row_ne_own H2.out.fo H2.out.ow (by decide))
         have hF := hF4.cell 0 rfl
         have hFf := hF4.frozen 0
         clear hF4))
    go_ret
    rw [HN.out] at HM3
    have hp := H2.out.push (x := x) HX2.out HK.out HIN.out HM3.out HG3.out (by rw [HXE.out]; exact HO4.out) HG4.out
    refine ⟨rfl, ⟨_, hp.1, ?_⟩⟩
    have hk := hp.2
    have hb := HB2.out
    exact ⟨hk.os.trans hb.os, hk.tape.trans hb.tape, hk.output.trans hb.output, Nat.le_trans hb.size hk.size, fun k hk0 hk1 hk2 hk3 => (hk.block k (Nat.lt_of_lt_of_le hk0 hb.size) hk1 hk2 hk3).trans (hb.block k hk0)⟩
end Go.Proofs.Ytmghngehpgolgaa

/- Layer 7: flagsOf; Reach. -/
namespace Go.Proofs.Ytmghngehpgolgaa
open Go.RowKit Go.Sort

theorem fl_len (ev : List Int) : (flR ev).length = 32 := by simp [flR]
theorem fl_set {ev : List Int} {e : Nat} : (flR ev).set e (.bool true) = flR (ev ++ [(e : Int)]) := by
  unfold flR
  apply List.ext_getElem
  · simp
  · intro i h1 h2
    rw [List.getElem_set]
    simp only [List.getElem_map, List.getElem_range]
    by_cases h : e = i
    · subst h; simp
    · rw [if_neg h]
      congr 1
      have : ¬ (i : Int) = (e : Int) := by omega
      simp [this]
theorem fl_nil : flR [] = [.bool false, .bool false, .bool false, .bool false, .bool false, .bool false, .bool false, .bool false, .bool false, .bool false, .bool false, .bool false, .bool false, .bool false, .bool false, .bool false, .bool false, .bool false, .bool false, .bool false, .bool false, .bool false, .bool false, .bool false, .bool false, .bool false, .bool false, .bool false, .bool false, .bool false, .bool false, .bool false] := rfl
theorem flags_size : (Try.prog.info? 62).map (·.size) = some 32 := by kernel_rfl
theorem fl_one (ev : List Int) : ((flR ev).toArray).all (·.oneCell') = true := by
  rw [List.all_toArray, List.all_eq_true]
  intro x hx
  obtain ⟨e, _, rfl⟩ := List.mem_map.1 hx
  rfl
theorem fl_range {w : World} {b : Nat} {ev : List Int} (h : Row w b 62 (flR ev)) : w.rangeAt b 0 (flR ev) := fun i v hi => by rw [Nat.zero_add]; exact h.cell i hi
set_option maxHeartbeats 4000000 in
set_option maxRecDepth 100000 in
theorem jFlags_any (A : Option Addr) (n c : Nat) (zs : List Int) (w : World) (hx : RdI w w.heap.size A zs) (hn : zs.length = n) (hnb : n ≤ 100000) (hf : ∀ x ∈ zs, 0 ≤ x ∧ x < 32) :
    Calls Try.prog 41 #[.slice A n c] w fun e w' => e = .returned (.agg (flR zs).toArray) ∧ Below w.heap.size w w' := by
  have HX := Lib.hid hx
  have HN := Lib.hid hn
  have HF := Lib.hid hf
  clear hx hn hf
  have HB0 := Lib.hid (((Below.refl w.heap.size w).alloc (Nat.le_refl _) (.cells #[.bool false, .bool false, .bool false, .bool false, .bool false, .bool false, .bool false, .bool false, .bool false, .bool false, .bool false, .bool false, .bool false, .bool false, .bool false, .bool false, .bool false, .bool false, .bool false, .bool false, .bool false, .bool false, .bool false, .bool false, .bool false, .bool false, .bool false, .bool false, .bool false, .bool false, .bool false, .bool false] 62)).alloc (by simp) (.cells #[.bool false, .bool false, .bool false, .bool false, .bool false, .bool false, .bool false, .bool false, .bool false, .bool false, .bool false, .bool false, .bool false, .bool false, .bool false, .bool false, .bool false, .bool false, .bool false, .bool false, .bool false, .bool false, .bool false, .bool false, .bool false, .bool false, .bool false, .bool false, .bool false, .bool false, .bool false, .bool false] 62))
  have HR0 := Lib.hid (show Row ((w.alloc (.cells #[.bool false, .bool false, .bool false, .bool false, .bool false, .bool false, .bool false, .bool false, .bool false, .bool false, .bool false, .bool false, .bool false, .bool false, .bool false, .bool false, .bool false, .bool false, .bool false, .bool false, .bool false, .bool false, .bool false, .bool false, .bool false, .bool false, .bool false, .bool false, .bool false, .bool false, .bool false, .bool false] 62)).alloc (.cells #[.bool false, .bool false, .bool false, .bool false, .bool false, .bool false, .bool false, .bool false, .bool false, .bool false, .bool false, .bool false, .bool false, .bool false, .bool false, .bool false, .bool false, .bool false, .bool false, .bool false, .bool false, .bool false, .bool false, .bool false, .bool false, .bool false, .bool false, .bool false, .bool false, .bool false, .bool false, .bool false] 62)) w.heap.size 62 (flR []) from (Row.new w (flR []) 62).alloc _)
  have HR1 := Lib.hid (show Row ((w.alloc (.cells #[.bool false, .bool false, .bool false, .bool false, .bool false, .bool false, .bool false, .bool false, .bool false, .bool false, .bool false, .bool false, .bool false, .bool false, .bool false, .bool false, .bool false, .bool false, .bool false, .bool false, .bool false, .bool false, .bool false, .bool false, .bool false, .bool false, .bool false, .bool false, .bool false, .bool false, .bool false, .bool false] 62)).alloc (.cells #[.bool false, .bool false, .bool false, .bool false, .bool false, .bool false, .bool false, .bool false, .bool false, .bool false, .bool false, .bool false, .bool false, .bool false, .bool false, .bool false, .bool false, .bool false, .bool false, .bool false, .bool false, .bool false, .bool false, .bool false, .bool false, .bool false, .bool false, .bool false, .bool false, .bool false, .bool false, .bool false] 62)) (w.heap.size + 1) 62 (flR ([] : List Int)) by
    have := Row.new (w.alloc (.cells #[.bool false, .bool false, .bool false, .bool false, .bool false, .bool false, .bool false, .bool false, .bool false, .bool false, .bool false, .bool false, .bool false, .bool false, .bool false, .bool false, .bool false, .bool false, .bool false, .bool false, .bool false, .bool false, .bool false, .bool false, .bool false, .bool false, .bool false, .bool false, .bool false, .bool false, .bool false, .bool false] 62)) (flR []) 62
    rw [World.size_alloc] at this
    exact this)
  go_enter Try.func41, Try.ntmps41
  go_wp2_with fail
  go_loopw [5, 8] (fun _ iv wr => ∃ k : Nat, k ≤ n ∧ iv = .int .i64 k ∧ Hid (Row wr (w.heap.size + 1) 62 (flR (zs.take k))) ∧ Hid (Row wr w.heap.size 62 (flR [])) ∧ Hid (Below w.heap.size w wr)) (fun _ i _ => n - (intOf i).toNat)
  case atStart => exact ⟨0, Nat.zero_le _, rfl, HR1, HR0, HB0⟩
  case round =>
    clear HR0 HR1 HB0
    obtain ⟨k, hk, rfl, hr1, hr0, hbel⟩ := hrel
    by_cases hlt : k < n
    · obtain ⟨b, o, rfl, hb, hc⟩ := HX.out (by rw [HN.out]; omega)
      have hz : k < zs.length := by rw [HN.out]; exact hlt
      have hc1 := (hbel.out.cell (p := ⟨b, o + k, none⟩) hb).trans (hc k hz)
      have hf := HF.out _ (getD_mem hz)
      obtain ⟨e, he⟩ : ∃ e : Nat, zs.getD k 0 = (e : Int) := ⟨(zs.getD k 0).toNat, by omega⟩
      rw [he] at hc1 hf
      have he32 : e < 32 := by omega
      have hs := hr1.out.set e (.bool true)
      rw [fl_set, ← he, ← take_getD hz] at hs
      have HS := Lib.hid hs
      have c1 := hr1.out.cell e (flR_at _ he32)
      have f1 := hr1.out.frozen e
      have hs0 := Lib.hid (hr0.out.setOther (p := ⟨w.heap.size + 1, e, none⟩) (by show w.heap.size ≠ w.heap.size + 1; omega) (.bool true))
      have hb1 := Lib.hid (hbel.out.setCell (p := ⟨w.heap.size + 1, e, none⟩) (by simp) (.bool true))
      have z0 : (k : Int) < (n : Int) := by omega
      have z1 : (0 : Int) ≤ (k : Int) := by omega
      have z2 : (0 : Int) ≤ (e : Int) := by omega
      have z3 : (e : Int) < 32 := by omega
      clear hc hz he hf hs
      go_wp2_with fail
      go_roundw
      case rel => exact ⟨k + 1, by omega, by go_num, HS, hs0, hb1⟩
      case measure => simp [intOf]; omega
    · have hF0 : zs.take k = zs := List.take_of_length_le (by rw [HN.out]; omega)
      rw [hF0] at hr1
      have z0 : (n : Int) ≤ (k : Int) := by omega
      have hrg := Lib.hid (fl_range hr1.out)
      have hsz := Lib.hid (show (Try.prog.info? 62).map (·.size) = some (flR zs).length by rw [flags_size, fl_len])
      have hone := Lib.hid (fl_one zs)
      clear hF0
      go_wp2_with (first
        | refine wpList_load_mid rfl 62 (.tmp 3) rfl (w.heap.size + 1) 0 rfl (flR zs) _ hrg.out Try.underlying62 rfl hsz.out ?_
        | refine wpList_store_row rfl 62 (.tmp 2) (.tmp 15) rfl w.heap.size (flR zs).toArray rfl rfl 62 (flR []).toArray hr0.out (by simpa using hsz.out) (by simp [fl_len]) hone.out ?_)
      have hrow2 := setRow_heap wr w.heap.size _ (flR zs).toArray _ _ hr0.out
      refine bodyPost_ret (v := .agg (flR zs).toArray) ?_ rfl ⟨rfl, below_setRow hbel.out (Nat.le_refl _) _⟩
      rw [results_cell1 rfl]
      have hld := run_loadVar_mid (P := Try.prog) (wr.setRow w.heap.size (flR zs).toArray) w.heap.size 0 62 (flR zs) _ (fl_range (show Row _ _ _ _ from hrow2)) Try.underlying62 rfl hsz.out
      show ((asAddr (Value.pointer (some ⟨w.heap.size, 0, none⟩))).run Try.prog (wr.setRow w.heap.size (flR zs).toArray)).andThen (fun a w₁ => (loadVar 62 a).run Try.prog w₁) = _
      simp [asAddr, hld, Result.andThen]
end Go.Proofs.Ytmghngehpgolgaa

/- Layer 3: Empty of the reference. -/
namespace Go.Proofs.Ytmghngehpgolgaa
open Go.RowKit Go.Sort

theorem own_off4 {X base N : Nat} {v v0 v1 v2 v3 : Value} {w3 : World} {e : TypeId} {sz : Nat} {xs : List Value} (h : w3.ownsRow base e sz v N xs) (hr : v.ownBlock ≠ some X) :
    ((((w3.setCell ⟨X, 0, none⟩ v0).setCell ⟨X, 1, none⟩ v1).setCell ⟨X, 2, none⟩ v2).setCell ⟨X, 3, none⟩ v3).ownsRow base e sz v N xs :=
  ownsRow_setCell_other (a := ⟨X, 3, none⟩) (ownsRow_setCell_other (a := ⟨X, 2, none⟩) (ownsRow_setCell_other (a := ⟨X, 1, none⟩) (ownsRow_setCell_other (a := ⟨X, 0, none⟩) h hr v0) hr v1) hr v2) hr v3

set_option maxHeartbeats 2000000 in
set_option maxRecDepth 100000 in
theorem rEmpty_any (A : Option Addr) (n c B : Nat) (zs : List Int) (w : World) (hx : RdI w B A zs) (hB : B ≤ w.heap.size) (hn : zs.length = n) (hb : n ≤ 100000) :
    Calls Try.prog 47 #[.slice A n c] w fun e w' => ∃ A' c', e = .returned (.agg #[.slice A' n c', .int .i64 0, .slice none 0 0, .slice none 0 0]) ∧ Own w' w.heap.size (.slice A' n c') zs ∧ Below w.heap.size w w' ∧ n ≤ c' ∧ c' ≤ 9223372036854775807 := by
  have HN := Lib.hid hn
  have hRes := Lib.hid ((Row.new w [.slice none 0 0, .int .i64 0, .slice none 0 0, .slice none 0 0] 25).alloc (.cells #[] 3))
  have HB2 := Lib.hid (((Below.refl w.heap.size w).alloc (Nat.le_refl _) (.cells #[.slice none 0 0, .int .i64 0, .slice none 0 0, .slice none 0 0] 25)).alloc (by simp) (.cells #[] 3))
  have HX := Lib.hid (hx.below HB2.out hB)
  have HO := Lib.hid (show ((w.alloc (.cells #[.slice none 0 0, .int .i64 0, .slice none 0 0, .slice none 0 0] 25)).alloc (.cells #[] 3)).ownsRow (w.heap.size + 1) 3 1 (.slice (some ⟨w.heap.size + 1, 0, none⟩) 0 0) 0 (([] : List Int).map (Value.int .i64)) by
    have := World.ownsRow_lit (base := w.heap.size + 1) (size := 1) (e := 3) (w.alloc (.cells #[.slice none 0 0, .int .i64 0, .slice none 0 0, .slice none 0 0] 25)) #[] 0 (by simp) (by unfold maxLen; omega) rfl
    simpa using this)
  clear hx hn
  go_enter Try.func47, Try.ntmps47
  go_wp2_with (at_builtin; refine wpList_app_rd rfl (.tmp 3) (.tmp 4) rfl (w.heap.size + 1) _ 0 [] rfl HO.out B A n c zs rfl HX.out HN.out (by unfold maxLen; omega) (by omega) (by simp) ?_)
  intro v1 w1 hown hgrow
  have hown1 : Own w1 (w.heap.size + 1) v1 zs := by unfold Own; rw [HN.out]; simpa using hown
  obtain ⟨A', c', hv, _, hc1, hc2⟩ := own_rdc hown1
  rw [HN.out] at hv hc1
  subst hv
  have hr1 := Lib.hid (hRes.out.grown hgrow (by simp [Value.ownBlock]))
  have hb1 := Lib.hid (HB2.out.grown hgrow (by simp; omega) (fun k hk => by simp [Value.ownBlock] at hk; omega))
  have HO1 := Lib.hid hown1
  have r0 := hr1.out.cell 0 rfl
  have r1 := hr1.out.cell 1 rfl
  have r2 := hr1.out.cell 2 rfl
  have r3 := hr1.out.cell 3 rfl
  have z0 := hr1.out.frozen 0
  have z1 := hr1.out.frozen 1
  have z2 := hr1.out.frozen 2
  have z3 := hr1.out.frozen 3
  clear hown hown1 hgrow
  go_wp2_with fail
  (try simp only [Exit.inBlock, Exit.then])
  refine bodyPost_ret (v := .agg #[.slice A' n c', .int .i64 0, .slice none 0 0, .slice none 0 0]) ?_ rfl ⟨A', c', rfl, ?_, ?_, hc1, hc2⟩
  · rw [results_cell1 rfl]
    go_simp
  · exact own_more (own_off4 (X := w.heap.size) HO1.out (fun e => by have := (HO1.out.lt _ e).1; omega)) (by omega)
  · exact below_set4 hb1.out (Nat.le_refl _) _ _ _ _
end Go.Proofs.Ytmghngehpgolgaa

/- Layer 3: Canonical of the reference. -/
namespace Go.Proofs.Ytmghngehpgolgaa
open Go.RowKit Go.Sort

/-- The marked states among the first ones found. -/
def canMn (a : Au) (j : Nat) : List Int := ((List.range j).filter fun i => decide ((fnd a).getD i 0 ∈ a.mr)).map fun (i : Nat) => (i : Int)
theorem canMn_yes {a : Au} {j : Nat} (h : (fnd a).getD j 0 ∈ a.mr) : canMn a (j + 1) = canMn a j ++ [(j : Int)] := by
  unfold canMn; rw [List.range_succ, List.filter_append]
  rw [List.filter_cons_of_pos (by simpa using h)]; simp
theorem canMn_no {a : Au} {j : Nat} (h : (fnd a).getD j 0 ∉ a.mr) : canMn a (j + 1) = canMn a j := by
  unfold canMn; rw [List.range_succ, List.filter_append]
  rw [List.filter_cons_of_neg (by simpa using h)]; simp
theorem canMn_len (a : Au) (j : Nat) : (canMn a j).length ≤ j := by
  unfold canMn; rw [List.length_map]; exact Nat.le_trans (List.length_filter_le _ _) (by simp)
/-- The edges of a found state by the first events. -/
def outK (a : Au) (j t : Nat) : List Ed := (succK a ((fnd a).getD j 0) t).map fun x => ⟨(j : Int), x.e, ((fnd a).idxOf x.t : Int)⟩
theorem outK_zero (a : Au) (j : Nat) : outK a j 0 = [] := by simp [outK, succK_zero]
theorem outK_some {a : Au} {j t : Nat} {x : Ed} (hk : t < a.al.length) (h : edgeO a.ed ((fnd a).getD j 0) (a.al.getD t 0) = some x) : outK a j (t + 1) = outK a j t ++ [⟨(j : Int), x.e, ((fnd a).idxOf x.t : Int)⟩] := by
  unfold outK; rw [succK_some hk h, List.map_append]; rfl
theorem outK_none {a : Au} {j t : Nat} (hk : t < a.al.length) (h : edgeO a.ed ((fnd a).getD j 0) (a.al.getD t 0) = none) : outK a j (t + 1) = outK a j t := by
  unfold outK; rw [succK_none hk h]
theorem outK_all {a : Au} (h : RightW a) {j n : Nat} (hn : a.al.length = n) : canEn a j ++ outK a j n = canEn a (j + 1) := by
  rw [canEn_succ]; unfold outK outE; rw [succK_all h hn]
theorem outK_len {a : Au} (h : RightW a) {j t : Nat} (hj : j < (fnd a).length) : (canEn a j ++ outK a j t).length ≤ a.ed.length := by
  have h1 := canEn_len a (show j + 1 ≤ (fnd a).length by omega)
  rw [canEn_succ, List.length_append] at h1
  have h2 := (succK_pre h ((fnd a).getD j 0) t).length_le
  rw [List.length_append]
  unfold outK outE at *
  rw [List.length_map] at h1 ⊢
  omega
theorem idxI_in {l : List Int} {x : Int} (h : x ∈ l) : idxI l x = (l.idxOf x : Int) := by rw [idxI, if_pos h]

set_option maxHeartbeats 16000000 in
set_option maxRecDepth 100000 in
theorem rCanonical_any (A : Option Addr) (n c : Nat) (s : Int) (M : Option Addr) (m d : Nat) (E : Option Addr) (k g : Nat) (a : Au) (B : Nat) (w : World) (h : AuR w B A n c s M m d E k g a) (hB : B ≤ w.heap.size) (hr : RightW a) (hS : s ≤ 5000) :
    Calls Try.prog 48 #[.agg #[.slice A n c, .int .i64 s, .slice M m d, .slice E k g]] w fun e w' => ∃ v, e = .returned v ∧ AuF (canA a) v w' w.heap.size ∧ Below w.heap.size w w' := by
  have hb1 := ((Below.refl w.heap.size w).alloc (Nat.le_refl _) (.cells #[.slice A n c, .int .i64 s, .slice M m d, .slice E k g] 25)).alloc (by simp) (.cells #[.slice none 0 0, .int .i64 0, .slice none 0 0, .slice none 0 0] 25)
  have HB1 := Lib.hid hb1
  have HBw := Lib.hid hB
  have HFn := Lib.hid (rFound_any A n c s M m d E k g a B _ (h.below hb1 hB) (Nat.le_trans hB hb1.size) hr hS)
  have HA := Lib.hid ((Row.new w [.slice A n c, .int .i64 s, .slice M m d, .slice E k g] 25).alloc (.cells #[.slice none 0 0, .int .i64 0, .slice none 0 0, .slice none 0 0] 25))
  have HRes := Lib.hid (show Row ((w.alloc (.cells #[.slice A n c, .int .i64 s, .slice M m d, .slice E k g] 25)).alloc (.cells #[.slice none 0 0, .int .i64 0, .slice none 0 0, .slice none 0 0] 25)) (w.heap.size + 1) 25 [.slice none 0 0, .int .i64 0, .slice none 0 0, .slice none 0 0] by
    have := Row.new (w.alloc (.cells #[.slice A n c, .int .i64 s, .slice M m d, .slice E k g] 25)) [.slice none 0 0, .int .i64 0, .slice none 0 0, .slice none 0 0] 25
    simpa using this)
  have HR := Lib.hid h
  have HRI := Lib.hid hr
  have HST := Lib.hid h.st
  have hbn := h.bn
  have hbk := h.bk
  have hnc := h.cn.1
  obtain ⟨iI, iI0, iI1, iI2, iI3⟩ := info_parts info_int
  obtain ⟨iE, iE0, iE1, iE2, iE3⟩ := info_parts info_edge
  obtain ⟨fl, hfl⟩ : ∃ fl, fl = fnd a := ⟨_, rfl⟩
  obtain ⟨L, hL⟩ : ∃ L, L = fl.length := ⟨_, rfl⟩
  have HFL := Lib.hid hfl
  have HLn := Lib.hid hL
  have hL5 : L ≤ 5000 := by have h1 := fnd_len hr; have h2 := hr.st0; rw [h.st] at h1 h2; rw [hL, hfl]; omega
  rw [← hfl] at HFn
  clear h hr hb1 hfl hL hB
  go_enter Try.func48, Try.ntmps48
  go_wp2_with fail
  refine HFn.out.mono ?_
  rintro e w1 ⟨Af, cF, rfl, hrf, hbw, hcf, _⟩
  rw [← HLn.out] at hcf ⊢
  have hA1 := Lib.hid (HA.out.below hbw (by simp; omega))
  have hR1 := Lib.hid (HRes.out.below hbw (by simp))
  have hB1 := Lib.hid (HB1.out.trans (hbw.mono (by simp; omega)))
  have HRF := Lib.hid hrf
  have HE := Lib.hid (rEmpty_any A n c B a.al w1 (HR.out.al.below hB1.out HBw.out) (Nat.le_trans HBw.out hB1.out.size) HR.out.hn hbn)
  have hz := hbw.size
  simp only [World.size_alloc] at hz
  clear hbw hrf
  have p0 := hA1.out.cell 0 rfl
  go_wp2_with fail
  refine HE.out.mono ?_
  rintro e w2 ⟨Ac, cc, rfl, hoc, hbw, hc1, hc2⟩
  have hA2 := Lib.hid (hA1.out.below hbw (by omega))
  have hR2 := Lib.hid (hR1.out.below hbw (by omega))
  have hB2 := Lib.hid (hB1.out.trans (hbw.mono hB1.out.size))
  have HRF2 := Lib.hid ((HRF.out.below hbw (Nat.le_refl _)).more hbw.size)
  have HCL := Lib.hid (show RdI w2 w2.heap.size Ac a.al by
    obtain ⟨A', c', e, hrd, _, _⟩ := own_rdc hoc
    injection e with e1 e2 e3
    subst e1; exact hrd)
  have HAC := Lib.hid (own_from hoc)
  have hz2 := hbw.size
  have hbd0 := Lib.hid (show Bd w2 w2.heap.size w2.heap.size true true (.slice Ac n cc) (L : Int) (w2.alloc (.cells #[.slice Ac n cc, .int .i64 (L : Int), .slice none 0 0, .slice none 0 0] 25)) (canMn a 0) (.slice none 0 0) (canEn a 0) (.slice none 0 0) from
      ⟨(Below.refl _ _).alloc (Nat.le_refl _) _, Row.new w2 [.slice Ac n cc, .int .i64 (L : Int), .slice none 0 0, .slice none 0 0] 25, fun _ => World.ownsRow_nil _ _ _ _, fun _ => World.ownsRow_nil _ _ _ _, Nat.le_refl _⟩)
  clear hbw hoc p0
  go_wp2_with fail
  go_loopw [5] (fun i wr => ∃ (j : Nat) (vm ve : Value), j ≤ L ∧ i = .int .i64 j ∧ Hid (Bd w2 w2.heap.size w2.heap.size true true (.slice Ac n cc) (L : Int) wr (canMn a j) vm (canEn a j) ve)) (fun i _ => L - (intOf i).toNat)
  case atStart => exact ⟨0, _, _, Nat.zero_le _, rfl, hbd0⟩
  case round =>
    clear hbd0
    obtain ⟨j, vm, ve, hjL, rfl, hbd⟩ := hrel
    by_cases hjl : j < L
    · obtain ⟨q, hq⟩ : ∃ q, q = fl.getD j 0 := ⟨_, rfl⟩
      have HQ := Lib.hid hq
      obtain ⟨bF, oF, rfl, hbF, hcF⟩ := HRF2.out (by rw [← HLn.out]; omega)
      have cF0 : w2.cell? ⟨bF, oF + j, none⟩ = some (.int .i64 q) := by rw [hq]; exact hcF j (by rw [← HLn.out]; exact hjl)
      have CF := Lib.hid (fun W (hW : Below w2.heap.size w2 W) => (hW.cell (p := ⟨bF, oF + j, none⟩) hbF).trans cF0)
      have CB := Lib.hid (fun W (hW : Below w2.heap.size w2 W) => box_row A n c s M m d E k g (hA2.out.below hW (by omega)))
      have hjz : (0 : Int) ≤ (j : Int) := by omega
      have hjL2 : (j : Int) < (L : Int) := by omega
      obtain ⟨r, hr⟩ : ∃ r, r = decide (q ∈ a.mr) := ⟨_, rfl⟩
      have HM := Lib.hid (fun W (hG : Bd w2 w2.heap.size w2.heap.size true true (.slice Ac n cc) (L : Int) W (canMn a j) vm (canEn a j) ve) => (rHas_any M m d B a.mr q W (HR.out.mr.below (hB2.out.trans (hG.bel.mono hB2.out.size)) HBw.out) HR.out.hm (by have := HR.out.bm; omega)).mono (R' := fun e w' => e = .returned (.bool r) ∧ Bd w2 w2.heap.size w2.heap.size true true (.slice Ac n cc) (L : Int) w' (canMn a j) vm (canEn a j) ve) fun e w' hh => ⟨by rw [hh.1, hr], hh.2 ▸ hG⟩)
      have HRr := Lib.hid hr
      have hbdd := Lib.hid hbd.out.drew
      obtain ⟨p0, p1, p2, p3⟩ := CB.out wr hbd.out.bel
      have cf := CF.out wr hbd.out.bel
      have hml := canMn_len a j
      clear hq hcF cF0 hr
      go_wp2_with fail
      go_region_held3 (fun w' => w'.cell? ⟨w.heap.size, 2, none⟩ = some (.slice M m d) ∧ w'.cell? ⟨bF, oF + j, none⟩ = some (.int .i64 q)) (first | with_reducible exact ⟨p2, cf⟩ | go_keep)
        (first
        | (go_simp; go_at_call 22; (first | with_reducible refine (HM.out _ hbd.out).mono ?_ | with_reducible refine (HM.out _ hbdd.out).mono ?_); rintro e w4 ⟨rfl, hG⟩
           have HG := Lib.hid hG
           have HGd := Lib.hid hG.drew
           have p2 := (CB.out _ hG.bel).c2
           have cf := CF.out _ hG.bel
           clear hG))
      all_goals
        go_upto_if 28 with fail
        go_cut [5] from 16 to 69 (fun i wx => i = .int .i64 (j : Int) ∧ ∃ vm, Hid (Bd w2 w2.heap.size w2.heap.size true true (.slice Ac n cc) (L : Int) wx (canMn a (j + 1)) vm (canEn a j) ve))
        case first =>
          cases r
          · have hno := Lib.hid (show canMn a (j + 1) = canMn a j from canMn_no (by have := HRr.out; rw [HQ.out, HFL.out] at this; simpa using this.symm))
            go_wp2_with fail
            go_meet
            case rel => exact ⟨rfl, vm, by rw [hno.out]; first | exact HG | exact HGd⟩
          · obtain ⟨K0, hK0⟩ : ∃ K0, K0 = canMn a j := ⟨_, rfl⟩
            obtain ⟨l0, hl0⟩ : ∃ l0, l0 = K0.length := ⟨_, rfl⟩
            have hyes := Lib.hid (show canMn a (j + 1) = K0 ++ [(j : Int)] by rw [hK0]; exact canMn_yes (by have := HRr.out; rw [HQ.out, HFL.out] at this; simpa using this.symm))
            have HL0 := Lib.hid hl0
            rw [← hK0] at HG hml
            rw [← hl0] at hml
            have hmo := Lib.hid (HG.out.mo rfl)
            have c2' := HG.out.cb.cell 2 rfl
            have f2' := HG.out.cb.frozen 2
            have hs4 := HG.out.h2
            have hmo2 := Lib.hid (show w4.ownsRow w2.heap.size 3 1 vm l0 (K0.map (Value.int .i64)) by rw [HL0.out]; exact hmo.out)
            clear hK0 hl0
            go_wp2_with (at_builtin; refine wpList_append_own _ rfl _ _ 22 rfl w2.heap.size 3 iI (.int .i64 0) 1 8 Try.underlying22 iI0 iI1 iI2 iI3 rfl (by decide) _ _ _ rfl (hmo2.out.alloc _) ⟨w4.heap.size, 0, none⟩ 1 1 [.int .i64 (j : Int)] rfl rfl (news_one (by simp)) (by intro u hu; simp at hu; subst hu; rfl) (by unfold maxLen; omega) (by omega) (by simp; omega) ?_)
            intro v5 w5 hown5 hgrow5 _
            have hown6 : Own w5 w2.heap.size v5 (K0 ++ [(j : Int)]) := by unfold Own; rw [List.length_append, ← HL0.out]; simpa using hown5
            obtain ⟨A5, c5, hv5, _, _, _⟩ := own_rdc hown6
            rw [show (K0 ++ [(j : Int)]).length = l0 + 1 by simp [HL0.out]] at hv5
            subst hv5
            have hba := HG.out.alloc (.cells #[.int .i64 (j : Int)] 3)
            have hcb := Lib.hid (hba.cb.grown hgrow5 (fun e => hba.neM e.symm))
            have hbd6 := Lib.hid (Bd.mark hba hgrow5 hown6)
            rw [← hyes.out] at hbd6
            have c2' := hcb.out.cell 2 rfl
            have f2' := hcb.out.frozen 2
            clear hown5 hown6 hgrow5 hba
            go_wp2_with fail
            go_meet
            case rel => exact ⟨rfl, _, hbd6⟩
        case rest =>
          clear hbd hbdd p0 p1 p2 p3 cf hml HM
          obtain ⟨rfl, vm, hbd⟩ := hcut
          go_wp2_with fail
          go_loopw [6] (fun i wx => ∃ (t : Nat) (ve : Value), t ≤ n ∧ i = .int .i64 t ∧ Hid (Bd w2 w2.heap.size w2.heap.size true true (.slice Ac n cc) (L : Int) wx (canMn a (j + 1)) vm (canEn a j ++ outK a j t) ve)) (fun i _ => n - (intOf i).toNat)
          case atStart => exact ⟨0, ve, Nat.zero_le _, rfl, by rw [outK_zero, List.append_nil]; exact hbd⟩
          case round =>
            clear hbd
            obtain ⟨t, ve, htn, rfl, hbd⟩ := hrel
            obtain ⟨p0, p1, p2, p3⟩ := CB.out wr hbd.out.bel
            have cf := CF.out wr hbd.out.bel
            by_cases htl : t < n
            · obtain ⟨bA, oA, rfl, hbA, hcA⟩ := HR.out.al (by rw [HR.out.hn]; omega)
              have hz' : t < a.al.length := by rw [HR.out.hn]; exact htl
              obtain ⟨ev, hev⟩ : ∃ ev, ev = a.al.getD t 0 := ⟨_, rfl⟩
              have CA := Lib.hid (fun W (hW : Below w2.heap.size w2 W) => by
                have := ((hB2.out.trans (hW.mono hB2.out.size)).cell (p := ⟨bA, oA + t, none⟩) (Nat.lt_of_lt_of_le hbA HBw.out)).trans (hcA t hz')
                rw [← hev] at this; exact this)
              have ca := CA.out wr hbd.out.bel
              obtain ⟨es, hes⟩ : ∃ es, es = canEn a j ++ outK a j t := ⟨_, rfl⟩
              have hel : es.length ≤ k := by rw [hes, ← HR.out.hk]; exact outK_len HRI.out (by rw [← HFL.out, ← HLn.out]; exact hjl)
              rw [← hes] at hbd
              have HES := Lib.hid hes
              have HEV := Lib.hid hev
              obtain ⟨tt, htt⟩ : ∃ tt, tt = stepI a q ev := ⟨_, rfl⟩
              have HTT := Lib.hid htt
              have HS := Lib.hid (fun W (hG : Bd w2 w2.heap.size w2.heap.size true true (.slice Ac n cc) (L : Int) W (canMn a (j + 1)) vm es ve) => (rStep_any (some ⟨bA, oA, none⟩) n c s M m d E k g a q ev B W (HR.out.below (hB2.out.trans (hG.bel.mono hB2.out.size)) HBw.out) (Nat.le_trans HBw.out (hB2.out.trans (hG.bel.mono hB2.out.size)).size)).mono (R' := fun e w' => e = .returned (.int .i64 tt) ∧ Bd w2 w2.heap.size w2.heap.size true true (.slice Ac n cc) (L : Int) w' (canMn a (j + 1)) vm es ve) fun e w' hh => ⟨by rw [hh.1, htt], hG.call hh.2⟩)
              have hbdd := Lib.hid hbd.out.drew
              have htz : (0 : Int) ≤ (t : Int) := by omega
              have htn2 : (t : Int) < (n : Int) := by omega
              have hqf : q = (fnd a).getD j 0 := by rw [HQ.out, HFL.out]
              have HQF := Lib.hid hqf
              clear hes hev htt hcA hqf
              go_wp2_with fail
              go_region_held3 (fun w' => w'.cell? ⟨w.heap.size, 0, none⟩ = some (.slice (some ⟨bA, oA, none⟩) n c) ∧ w'.cell? ⟨w.heap.size, 1, none⟩ = some (.int .i64 s) ∧ w'.cell? ⟨w.heap.size, 2, none⟩ = some (.slice M m d) ∧ w'.cell? ⟨w.heap.size, 3, none⟩ = some (.slice E k g) ∧ w'.cell? ⟨bF, oF + j, none⟩ = some (.int .i64 q) ∧ w'.cell? ⟨bA, oA + t, none⟩ = some (.int .i64 ev)) (first | with_reducible exact ⟨p0, p1, p2, p3, cf, ca⟩ | go_keep)
                (first
                | (go_simp; go_at_call 50; (first | with_reducible refine (HS.out _ hbd.out).mono ?_ | with_reducible refine (HS.out _ hbdd.out).mono ?_); rintro e w4 ⟨rfl, hG⟩
                   have HG := Lib.hid hG
                   have HGd := Lib.hid hG.drew
                   obtain ⟨p0, p1, p2, p3⟩ := CB.out _ hG.bel
                   have cf := CF.out _ hG.bel
                   have ca := CA.out _ hG.bel
                   clear hG))
              all_goals
                cases he : edgeO a.ed q ev with
                | none =>
                  have hto := stepI_no he
                  rw [← HTT.out] at hto
                  subst hto
                  have hnx := Lib.hid (show canEn a j ++ outK a j (t + 1) = es by rw [outK_none hz' (by rw [← HEV.out, ← HQF.out]; exact he), HES.out])
                  clear he
                  go_wp2_with fail
                  go_roundw
                  case rel => exact ⟨t + 1, _, by omega, by go_num, by rw [hnx.out]; first | exact HG | exact HGd⟩
                  case measure => simp [intOf]; omega
                | some x =>
                  have hto := stepI_of he
                  rw [← HTT.out] at hto
                  obtain ⟨hxm, hxf, hxe⟩ := (edgeO_some HRI.out.edo).1 he
                  have hxr := (HRI.out.edr x hxm).2.1
                  rw [← hto] at hxr
                  have hin : tt ∈ fl := by
                    rw [hto, HFL.out]
                    refine fnd_closed HRI.out (i := j) (by rw [← HFL.out, ← HLn.out]; exact hjl) (mem_succ.2 ⟨hxm, ?_⟩)
                    rw [hxf, HQF.out]
                  obtain ⟨ix, hix⟩ : ∃ ix, ix = fl.idxOf tt := ⟨_, rfl⟩
                  have hnx := Lib.hid (show canEn a j ++ outK a j (t + 1) = es ++ [⟨(j : Int), ev, (ix : Int)⟩] by rw [outK_some hz' (by rw [← HEV.out, ← HQF.out]; exact he), hxe, ← hto, ← HFL.out, ← hix, HES.out, List.append_assoc])
                  have hto0 : 0 ≤ tt := hxr.1
                  have HI := Lib.hid (fun W (hW : RdI W w2.heap.size (some ⟨bF, oF, none⟩) fl) => by
                    have := rIndex_any (some ⟨bF, oF, none⟩) L cF w2.heap.size fl tt W hW HLn.out.symm (by omega)
                    rw [idxI_in hin, ← hix] at this; exact this)
                  have HRF4 := Lib.hid (HRF2.out.below HG.out.bel (Nat.le_refl _))
                  have HRF4d := Lib.hid (show RdI w4.drew w2.heap.size (some ⟨bF, oF, none⟩) fl from RdI.keep HRF4.out fun b o _ => rfl)
                  have u0 := HG.out.cb.cell 3 rfl
                  have u3 := HG.out.cb.frozen 3
                  have hbl : w2.heap.size < w4.heap.size := HG.out.h2
                  have v0 := fun cs : Array Value => (World.cell?_alloc_lt w4 (.cells cs 55) ⟨w2.heap.size, 3, none⟩ hbl).trans u0
                  have v1 := fun cs : Array Value => (frozen?_alloc_cells w4 cs 55 ⟨w2.heap.size, 3, none⟩).trans u3
                  have hneV := HG.out.neE
                  have heo := Lib.hid (HG.out.eo rfl)
                  clear he hto hxm hxf hxe hxr hin hix
                  go_wp2_with fail
                  go_region_law (first
                    | (go_simp; go_at_call 71; (first | refine (HI.out w4.drew HRF4d.out).mono ?_ | refine (HI.out w4 HRF4.out).mono ?_); rintro e w7 ⟨rfl, rfl⟩)
                    | (refine step_append_lies _ (by rfl) (.tmp 56) (.tmp 67) _ (by rfl) w2.heap.size 55 iE (.agg #[.int .i64 0, .int .i64 0, .int .i64 0]) 3 24 Try.underlying23 iE0 iE1 iE2 iE3 rfl (by omega) ve es.length (encE es) (by rfl) (by first | exact (heo.out.alloc _).drew | exact (heo.out.alloc _)) ⟨w4.heap.size, 0, none⟩ 1 1 [.int .i64 (j : Int), .int .i64 ev, .int .i64 (ix : Int)] (by rfl) (by rfl) (World.news_of_block (cs := #[.int .i64 (j : Int), .int .i64 ev, .int .i64 (ix : Int)]) (t := 55) (fr := (0, 0)) (heap_alloc_new w4 _)) (by simp [Value.oneCell']) (by omega) (by unfold maxLen; omega) (by omega) (by simp; omega) (w4.heap.size + 1) (by simp) ?_; intro gG capG w6 hown6 hgrow6 hat6 hlt6; have hc6 := (hgrow6.cell_far ⟨w2.heap.size, 3, none⟩ (by simp; omega) hneV).trans (v0 _); have hf6 := (hgrow6.frozen_far ⟨w2.heap.size, 3, none⟩ (by simp; omega) hneV).trans (v1 _)))
                  all_goals
                    have hown7 : OwnE w6 w2.heap.size (.slice (some ⟨gG, 0, none⟩) (es.length + 1) capG) (es ++ [⟨(j : Int), ev, (ix : Int)⟩]) := by
                      unfold OwnE; rw [encE_app, List.length_append]; exact hown6
                    have hbd7 := Lib.hid (show Bd w2 w2.heap.size w2.heap.size true true (.slice Ac n cc) (L : Int) (w6.setCell ⟨w2.heap.size, 3, none⟩ (.slice (some ⟨gG, 0, none⟩) (es.length + 1) capG)) (canMn a (j + 1)) vm (es ++ [⟨(j : Int), ev, (ix : Int)⟩]) (.slice (some ⟨gG, 0, none⟩) (es.length + 1) capG) from by
                      first
                      | exact Bd.edge (HG.out.alloc _) hgrow6 hown7
                      | exact Bd.edge ((HG.out.alloc _).drew) hgrow6 hown7
                      | exact Bd.edge (HG.out.drew.alloc _) hgrow6 hown7)
                    rw [← hnx.out] at hbd7
                    clear hown7 hown6 hgrow6 hat6 hc6 hf6 hlt6
                    go_wp2_with fail
                    go_roundw
                    case measure => simp [intOf]; omega
                    case rel => exact ⟨t + 1, _, by omega, by go_num, by first | exact hbd7 | exact Lib.hid hbd7.out.drew⟩
            · obtain rfl : t = n := by omega
              rw [outK_all HRI.out HR.out.hn] at hbd
              go_wp2_with fail
              go_roundw
              case rel => exact ⟨j + 1, _, _, by omega, by go_num, hbd⟩
              case measure => simp [intOf]; omega
    · obtain rfl : j = L := by omega
      obtain ⟨M3, d3, rfl, hM1, hM2, hM3⟩ := own_rdc (hbd.out.mo rfl)
      obtain ⟨E3, g3, rfl, hE1, hE2, hE3⟩ := ownE_rd (hbd.out.eo rfl)
      have hMo := Lib.hid (own_from (hbd.out.mo rfl))
      have hEo := Lib.hid (own_from (hbd.out.eo rfl))
      have hRr := Lib.hid (hR2.out.below hbd.out.bel (by omega))
      have hjl2 := Lib.hid (show (fnd a).length = j by rw [HLn.out, HFL.out])
      have hml := canMn_len a j
      have hel := canEn_len a (n := j) (by rw [hjl2.out]; exact Nat.le_refl _)
      rw [HR.out.hk] at hel
      have hfin := Lib.hid (show AuF (canA a) (.agg #[.slice Ac n cc, .int .i64 (j : Int), .slice M3 (canMn a j).length d3, .slice E3 (canEn a j).length g3]) wr w1.heap.size from by
        have hca : canA a = ⟨a.al, (j : Int), canMn a j, canEn a j⟩ := by unfold canA canM; rw [hjl2.out]; rfl
        rw [hca]
        exact ⟨Ac, n, cc, (j : Int), M3, _, d3, E3, _, g3, rfl,
          { al := (HCL.out.below hbd.out.bel (Nat.le_refl _)).more hbd.out.bel.size, mr := hM1, ed := hE1, hn := HR.out.hn, hm := rfl, hk := rfl, st := rfl, cn := ⟨hc1, hc2⟩, cm := ⟨hM2, hM3⟩, ck := ⟨hE2, hE3⟩, bn := HR.out.bn, bm := by omega, bk := by omega },
          HAC.out, fun b o f e => by have := hMo.out b o f e; omega, fun b o f e => by have := hEo.out b o f e; omega⟩)
      have d0 := hbd.out.cb.cell 0 rfl
      have d1 := hbd.out.cb.cell 1 rfl
      have d2' := hbd.out.cb.cell 2 rfl
      have d3' := hbd.out.cb.cell 3 rfl
      have r0 := hRr.out.cell 0 rfl
      have r1 := hRr.out.cell 1 rfl
      have r2 := hRr.out.cell 2 rfl
      have r3 := hRr.out.cell 3 rfl
      have z0 := hRr.out.frozen 0
      have z1 := hRr.out.frozen 1
      have z2 := hRr.out.frozen 2
      have z3 := hRr.out.frozen 3
      clear hM1 hE1
      go_wp2_with fail
      (try simp only [Exit.inBlock, Exit.then])
      refine bodyPost_ret (v := .agg #[.slice Ac n cc, .int .i64 (j : Int), .slice M3 (canMn a j).length d3, .slice E3 (canEn a j).length g3]) ?_ rfl ⟨_, rfl, ?_, ?_⟩
      · rw [results_cell1 rfl]
        go_simp
      · exact (hfin.out.set4 (by omega) _ _ _ _).more (by omega)
      · exact below_set4 (hB2.out.trans (hbd.out.bel.mono hB2.out.size)) (by omega) _ _ _ _
end Go.Proofs.Ytmghngehpgolgaa

/- Layer 3: Events of the law's sets; Make of the law's package. -/
namespace Go.Proofs.Ytmghngehpgolgaa

section
open Go.RowKit Go.Sort
/-- Some events below n, in increasing order. -/
structure Ev5 (n : Int) (zs : List Int) : Prop where
  r : ∀ x ∈ zs, 0 ≤ x ∧ x < n
  o : zs.Pairwise (· < ·)
theorem Ev5.nil (n : Int) : Ev5 n [] := ⟨by simp, List.Pairwise.nil⟩
theorem Ev5.more {n : Int} {zs : List Int} (h : Ev5 n zs) : Ev5 (n + 1) zs := ⟨fun x hx => by have := h.r x hx; omega, h.o⟩
theorem Ev5.snoc {n : Int} {zs : List Int} (h : Ev5 n zs) (h0 : 0 ≤ n) : Ev5 (n + 1) (zs ++ [n]) :=
  ⟨fun x hx => by
    rcases List.mem_append.1 hx with hx | hx
    · have := h.r x hx; omega
    · simp at hx; subst hx; omega,
   List.pairwise_append.2 ⟨h.o, by simp, fun x hx y hy => by simp at hy; subst hy; exact (h.r x hx).2⟩⟩
theorem Ev5.len {n : Nat} {zs : List Int} (h : Ev5 (n : Int) zs) : zs.length ≤ n := nodup_len (lt_nodup h.o) h.r

set_option maxHeartbeats 2000000 in
set_option maxRecDepth 100000 in
theorem events_any (x : Int) (w : World) (hx : (Lit.int .u8 x).wf = true) :
    Calls Try.prog 16 #[.int .u8 x] w fun e w' => ∃ zs, Ev5 5 zs ∧ GivesC w zs e w' := by
  obtain ⟨i0, hi, hz0, hz1, hz2⟩ := info_parts info_int
  go_enter Try.func16, Try.ntmps16
  go_wp2_with fail
  go_loopw [3, 4] (fun v i wr => ∃ (t : Nat) (zs : List Int), t ≤ 5 ∧ i = .int .i64 t ∧ Hid (Ev5 (t : Int) zs) ∧ Hid (FP w v zs wr)) (fun _ i _ => 5 - (intOf i).toNat)
  case atStart => exact ⟨0, [], Nat.zero_le _, rfl, Ev5.nil _, ⟨Below.refl _ _, World.ownsRow_nil _ _ _ _⟩⟩
  case round =>
    obtain ⟨t, zs, ht5, rfl, hev, hfp⟩ := hrel
    by_cases hlt : t < 5
    · have hl := hev.out.len
      have z0 : (0 : Int) ≤ (t : Int) := by omega
      have hsz := hfp.out.bel.size
      have hm := Lib.hid (hev.out.more)
      have hs := Lib.hid (hev.out.snoc (by omega))
      go_upto_if 13 with fail
      generalize (bits BinOp.and IntKind.u8 (x / 2 ^ t) 1 == 1) = cb
      cases cb
      · go_wp2_with fail
        go_roundw
        case rel => exact ⟨t + 1, zs, by omega, by go_num, by simpa using hm, hfp⟩
        case measure => simp [intOf]; omega
      · go_wp2_with (at_builtin; refine wpList_append_own _ rfl _ _ 22 rfl w.heap.size 3 i0 (.int .i64 0) 1 8 Try.underlying22 hi hz0 hz1 hz2 rfl (by decide) _ _ _ rfl (hfp.out.ow.alloc _) ⟨wr.heap.size, 0, none⟩ 1 1 [.int .i64 (t : Int)] rfl rfl (news_one (by simp)) (by intro u hu; simp at hu; subst hu; rfl) (by unfold maxLen; omega) (by omega) (by simp; omega) ?_)
        intro v5 w5 hown5 hgrow5 _
        have hO5 := own_app (K' := zs ++ [(t : Int)]) rfl hfp.out.bel hfp.out.ow hown5 hgrow5 (Nat.le_refl _)
        have hF6 := Lib.hid (show FP w v5 (zs ++ [(t : Int)]) w5 from ⟨hO5.2, hO5.1⟩)
        clear hown5 hgrow5 hO5
        go_wp2_with fail
        go_roundw
        case rel => exact ⟨t + 1, zs ++ [(t : Int)], by omega, by go_num, by simpa using hs, hF6⟩
        case measure => simp [intOf]; omega
    · obtain rfl : t = 5 := by omega
      obtain ⟨A', c', rfl, hrd, hc1, hc2⟩ := own_rdc hfp.out.ow
      have HRD := Lib.hid hrd
      have HF := Lib.hid hfp.out
      clear hfp hrd
      go_wp2_with fail
      go_ret
      exact ⟨zs, hev.out, A', c', rfl, HRD.out, HF.out.bel, hc1, hc2⟩
end

section
open Go.RowKit Go.Sort
/-- The cells of a graph. -/
structure GrC (cs : Array Value) : Prop where
  sz : cs.size = 27
  ce : ∀ i : Nat, i < 27 → ∃ x : Int, cs[i]? = some (.int .u8 x) ∧ 0 ≤ x ∧ x < 256
/-- What the law's automata are. -/
structure OkM (al : List Int) (a : Au) : Prop where
  r : Right a
  c : canA a = a
  al : a.al = al
  st : a.st ≤ 5
/-- The edges that are made: those of the states before t, and those of t by the first k events. -/
structure EdI (S : Nat) (al : List Int) (t k : Nat) (es : List Ed) : Prop where
  r : ∀ x ∈ es, 0 ≤ x.f ∧ (x.f < (t : Int) ∨ x.f = (t : Int) ∧ x.e ∈ al.take k) ∧ 0 ≤ x.t ∧ x.t < (S : Int) ∧ x.e ∈ al
  o : es.Pairwise ltE
  l : es.length ≤ t * 5 + k
theorem EdI.nil (S : Nat) (al : List Int) : EdI S al 0 0 [] := ⟨by simp, List.Pairwise.nil, by simp⟩
theorem EdI.more {S : Nat} {al : List Int} {t k : Nat} {es : List Ed} (h : EdI S al t k es) (hk : k < al.length) : EdI S al t (k + 1) es :=
  ⟨fun x hx => by
    obtain ⟨h1, h2, h3⟩ := h.r x hx
    refine ⟨h1, h2.imp id fun h => ⟨h.1, (mem_snoc_take hk).2 (.inl h.2)⟩, h3⟩, h.o, by have := h.l; omega⟩
theorem EdI.snoc {S : Nat} {al : List Int} {t k : Nat} {es : List Ed} (h : EdI S al t k es) (hk : k < al.length) (ho : al.Pairwise (· < ·)) {u : Int} (h0 : 0 ≤ u) (h1 : u < (S : Int)) : EdI S al t (k + 1) (es ++ [⟨(t : Int), al.getD k 0, u⟩]) :=
  ⟨fun x hx => by
    rcases List.mem_append.1 hx with hx | hx
    · exact (h.more hk).r x hx
    · rw [List.mem_singleton] at hx; subst hx
      exact ⟨by simp, .inr ⟨rfl, (mem_snoc_take hk).2 (.inr rfl)⟩, h0, h1, getD_mem hk⟩,
   List.pairwise_append.2 ⟨h.o, by simp, fun x hx y hy => by
    rw [List.mem_singleton] at hy; subst hy
    rcases (h.r x hx).2.1 with h2 | ⟨h2, h3⟩
    · exact .inl h2
    · refine .inr ⟨h2, ?_⟩
      obtain ⟨i, hi, he⟩ := mem_getD h3
      rw [List.length_take] at hi
      have h4 := up_of ho i k (by omega) hk
      have h5 : (al.take k).getD i 0 = al.getD i 0 := by simp [List.getD, show i < k by omega]
      show x.e < al.getD k 0
      rw [← he, h5]; exact h4⟩, by have := h.l; rw [List.length_append]; simp; omega⟩
theorem EdI.next {S : Nat} {al : List Int} {t k : Nat} {es : List Ed} (h : EdI S al t k es) (hk : k ≤ 5) : EdI S al (t + 1) 0 es :=
  ⟨fun x hx => by
    obtain ⟨h1, h2, h3⟩ := h.r x hx
    exact ⟨h1, .inl (by rcases h2 with h2 | h2 <;> omega), h3⟩, h.o, by have := h.l; omega⟩
theorem far1 {w w6 : World} {cs : Array Value} {T : TypeId} {row : Option Nat} {b o : Nat} {v : Value} (h : (w.alloc (.cells cs T)).grownBy w6 row) (hlt : b < w.heap.size) (hne : some b ≠ row) (hc : w.cell? ⟨b, o, none⟩ = some v) : w6.cell? ⟨b, o, none⟩ = some v :=
  (h.cell_far ⟨b, o, none⟩ (by simp; omega) hne).trans ((World.cell?_alloc_lt w _ ⟨b, o, none⟩ hlt).trans hc)
theorem far2 {w w6 : World} {cs : Array Value} {T : TypeId} {row : Option Nat} {b o : Nat} {v : Value} (h : (w.alloc (.cells cs T)).drew.grownBy w6 row) (hlt : b < w.heap.size) (hne : some b ≠ row) (hc : w.cell? ⟨b, o, none⟩ = some v) : w6.cell? ⟨b, o, none⟩ = some v :=
  (h.cell_far ⟨b, o, none⟩ (by simp; omega) hne).trans ((World.cell?_alloc_lt w _ ⟨b, o, none⟩ hlt).trans hc)
theorem far1f {w w6 : World} {cs : Array Value} {T : TypeId} {row : Option Nat} {b o : Nat} (h : (w.alloc (.cells cs T)).grownBy w6 row) (hlt : b < w.heap.size) (hne : some b ≠ row) (hc : w.frozen? ⟨b, o, none⟩ = false) : w6.frozen? ⟨b, o, none⟩ = false :=
  (h.frozen_far ⟨b, o, none⟩ (by simp; omega) hne).trans ((frozen?_alloc_cells w cs T ⟨b, o, none⟩).trans hc)
theorem far2f {w w6 : World} {cs : Array Value} {T : TypeId} {row : Option Nat} {b o : Nat} (h : (w.alloc (.cells cs T)).drew.grownBy w6 row) (hlt : b < w.heap.size) (hne : some b ≠ row) (hc : w.frozen? ⟨b, o, none⟩ = false) : w6.frozen? ⟨b, o, none⟩ = false :=
  (h.frozen_far ⟨b, o, none⟩ (by simp; omega) hne).trans ((frozen?_alloc_cells w cs T ⟨b, o, none⟩).trans hc)
theorem far12 {w w5 w6 : World} {cs : Array Value} {T : TypeId} {row : Option Nat} {b o : Nat} {v : Value} (h : w5.grownBy w6 row) (hlt : b < w.heap.size) (hne : some b ≠ row) (hc : w.cell? ⟨b, o, none⟩ = some v) (h5 : w5 = w.alloc (.cells cs T) ∨ w5 = (w.alloc (.cells cs T)).drew := by first | exact .inl rfl | exact .inr rfl) : w6.cell? ⟨b, o, none⟩ = some v := by
  rcases h5 with rfl | rfl
  · exact far1 h hlt hne hc
  · exact far2 h hlt hne hc
theorem far12f {w w5 w6 : World} {cs : Array Value} {T : TypeId} {row : Option Nat} {b o : Nat} (h : w5.grownBy w6 row) (hlt : b < w.heap.size) (hne : some b ≠ row) (hc : w.frozen? ⟨b, o, none⟩ = false) (h5 : w5 = w.alloc (.cells cs T) ∨ w5 = (w.alloc (.cells cs T)).drew := by first | exact .inl rfl | exact .inr rfl) : w6.frozen? ⟨b, o, none⟩ = false := by
  rcases h5 with rfl | rfl
  · exact far1f h hlt hne hc
  · exact far2f h hlt hne hc
/-- What Make hands back. -/
def MkG (w : World) (al : List Int) (e : Ending) (w' : World) : Prop := ∃ a v, OkM al a ∧ e = .returned v ∧ AuF a v w' w.heap.size ∧ Below w.heap.size w w'

set_option maxHeartbeats 8000000 in
set_option maxRecDepth 100000 in
theorem make_any (A : Option Addr) (n c B : Nat) (al : List Int) (cs : Array Value) (w : World) (hx : RdI w B A al) (hB : B ≤ w.heap.size) (hn : al.length = n) (hnc : n ≤ c) (hev : Ev5 5 al) (hg : GrC cs) :
    Calls Try.prog 15 #[.slice A n c, .agg cs] w fun e w' => MkG w al e w' := by
  have hsz := hg.sz
  obtain ⟨st, hst, hst0, hst1⟩ := hg.ce 0 (by omega)
  have hn5 : n ≤ 5 := by have := Ev5.len (n := 5) hev; omega
  have hb1 := ((Below.refl w.heap.size w).alloc (Nat.le_refl _) (.cells cs 47)).alloc (by simp) (.cells #[.slice none 0 0, .int .i64 0, .slice none 0 0, .slice none 0 0] 25)
  have HB1 := Lib.hid hb1
  have hG := Lib.hid (show Row ((w.alloc (.cells cs 47)).alloc (.cells #[.slice none 0 0, .int .i64 0, .slice none 0 0, .slice none 0 0] 25)) w.heap.size 47 cs.toList from (Row.new w cs.toList 47).alloc _)
  have hRes := Lib.hid (show Row ((w.alloc (.cells cs 47)).alloc (.cells #[.slice none 0 0, .int .i64 0, .slice none 0 0, .slice none 0 0] 25)) (w.heap.size + 1) 25 [.slice none 0 0, .int .i64 0, .slice none 0 0, .slice none 0 0] by
    have := Row.new (w.alloc (.cells cs 47)) [.slice none 0 0, .int .i64 0, .slice none 0 0, .slice none 0 0] 25
    simpa using this)
  have HE := Lib.hid (rEmpty_any A n c B al _ (hx.below hb1 hB) (Nat.le_trans hB hb1.size) hn (by omega))
  have g0 := hG.out.cell 0 (by simpa using hst)
  have HX := Lib.hid hx
  have HBw := Lib.hid hB
  have HN := Lib.hid hn
  have HEV := Lib.hid hev
  have HG0 := Lib.hid hg
  have HST := Lib.hid (show cs.toList[0]? = some (.int .u8 st) by simpa using hst)
  clear hst hb1 hx hB hn hev hg hsz
  by_cases h250 : 250 ≤ st
  · go_enter Try.func15, Try.ntmps15
    go_wp2_with fail
    refine HE.out.mono ?_
    rintro e w1 ⟨A', c', rfl, ho, hbw, hc1, hc2⟩
    have hR1 := Lib.hid (hRes.out.below hbw (by simp))
    have hB1 := Lib.hid (HB1.out.trans (hbw.mono HB1.out.size))
    have r0 := hR1.out.cell 0 rfl
    have r1 := hR1.out.cell 1 rfl
    have r2 := hR1.out.cell 2 rfl
    have r3 := hR1.out.cell 3 rfl
    have z0 := hR1.out.frozen 0
    have z1 := hR1.out.frozen 1
    have z2 := hR1.out.frozen 2
    have z3 := hR1.out.frozen 3
    obtain ⟨_, _, he, hrd, _, _⟩ := own_rdc ho
    injection he with he1 he2 he3
    subst he1 he3
    have hAu := Lib.hid (show AuF ⟨al, 0, [], []⟩ (.agg #[.slice A' n c', .int .i64 0, .slice none 0 0, .slice none 0 0]) w1 (w.heap.size + 2) from
      ⟨A', n, c', 0, none, 0, 0, none, 0, 0, rfl, { al := hrd, mr := RdI.nil _ _ _, ed := RdG.nil _ _ _, hn := HN.out, hm := rfl, hk := rfl, st := rfl, cn := ⟨hc1, hc2⟩, cm := by omega, ck := by omega, bn := by omega, bm := by omega, bk := by omega },
        own_from (by simpa using ho), fun b o f e => (by cases e), fun b o f e => (by cases e)⟩)
    clear hbw ho hrd he2
    go_wp2_with fail
    (try simp only [Exit.inBlock, Exit.then])
    refine bodyPost_ret (v := .agg #[.slice A' n c', .int .i64 0, .slice none 0 0, .slice none 0 0]) ?_ rfl ⟨⟨al, 0, [], []⟩, _, ?_, rfl, ?_, ?_⟩
    · rw [results_cell1 rfl]
      go_simp
    · refine ⟨⟨⟨fun x hx => ?_, HEV.out.o, by simp, by simp, by simp, by simp, by simp⟩, by simp⟩, can_zero rfl, rfl, by simp⟩
      have := HEV.out.r x hx
      omega
    · exact (hAu.out.set4 (by omega) _ _ _ _).more (by omega)
    · exact below_set4 hB1.out (by omega) _ _ _ _
  · go_enter Try.func15, Try.ntmps15
    go_wp2_with fail
    refine HE.out.mono ?_
    rintro e w1 ⟨A', c', rfl, ho, hbw, hc1, hc2⟩
    have hR1 := Lib.hid (hRes.out.below hbw (by simp))
    have hG1 := Lib.hid (hG.out.below hbw (by simp; omega))
    have hB1 := Lib.hid (HB1.out.trans (hbw.mono HB1.out.size))
    have g0 := hG1.out.cell 0 HST.out
    have hw1 : w.heap.size < w1.heap.size := hG1.out.lt
    have g1 := fun (cs : Array Value) ty => (World.cell?_alloc_lt w1 (.cells cs ty) ⟨w.heap.size, 0, none⟩ hw1).trans g0
    obtain ⟨iI, iI0, iI1, iI2, iI3⟩ := info_parts info_int
    obtain ⟨iE, iE0, iE1, iE2, iE3⟩ := info_parts info_edge
    obtain ⟨S, hS⟩ : ∃ S : Nat, 1 + st % 5 = (S : Int) := ⟨(1 + st % 5).toNat, by omega⟩
    have hS5 : S ≤ 5 := by omega
    have hS1 : 1 ≤ S := by omega
    have hm5 := Lib.hid (show IntKind.u8.wrap (st % 5) = st % 5 by simp [IntKind.wrap, IntKind.signed, IntKind.bits]; omega)
    have hbd0 := Lib.hid (show Bd w1 w1.heap.size w1.heap.size true true (.slice A' n c') (S : Int) (w1.alloc (.cells #[.slice A' n c', .int .i64 (S : Int), .slice none 0 0, .slice none 0 0] 25)) [] (.slice none 0 0) [] (.slice none 0 0) from
      ⟨(Below.refl _ _).alloc (Nat.le_refl _) _, Row.new w1 [.slice A' n c', .int .i64 (S : Int), .slice none 0 0, .slice none 0 0] 25, fun _ => World.ownsRow_nil _ _ _ _, fun _ => World.ownsRow_nil _ _ _ _, Nat.le_refl _⟩)
    have CG := Lib.hid (fun W (hW : Below w1.heap.size w1 W) (j : Nat) (x : Int) (h : cs[j]? = some (.int .u8 x)) => (hG1.out.below hW hw1).cell j (v := .int .u8 x) (by simpa using h))
    have CA := Lib.hid (fun W (hW : Below w1.heap.size w1 W) => HX.out.below (hB1.out.trans (hW.mono hB1.out.size)) HBw.out)
    have HRd := Lib.hid (show RdI w1 w1.heap.size A' al by
      obtain ⟨_, _, he, hrd, _, _⟩ := own_rdc ho
      injection he with he1 he2 he3
      subst he1; exact hrd)
    have HFr := Lib.hid (own_from ho)
    clear ho hbw
    go_wp2_with fail
    go_loopw [6] (fun i wr => ∃ (t : Nat) (vm ve : Value) (ms : List Int) (es : List Ed), t ≤ S ∧ i = .int .i64 t ∧ Hid (Bd w1 w1.heap.size w1.heap.size true true (.slice A' n c') (S : Int) wr ms vm es ve) ∧ Hid (Ev5 (t : Int) ms) ∧ Hid (EdI S al t 0 es)) (fun i _ => S - (intOf i).toNat)
    case atStart => exact ⟨0, _, _, _, _, Nat.zero_le _, rfl, hbd0, Ev5.nil _, EdI.nil _ _⟩
    case round =>
      clear hbd0 g0 g1
      obtain ⟨t, vm, ve, ms, es, htS, rfl, hbd, hev, hei⟩ := hrel
      by_cases htl : t < S
      · obtain ⟨mk, hmk, hmk0, hmk1⟩ := HG0.out.ce 1 (by omega)
        have gm := CG.out wr hbd.out.bel 1 mk hmk
        have s1 := hbd.out.cb.cell 1 rfl
        have z0 : (0 : Int) ≤ (t : Int) := by omega
        have z1 : (t : Int) < (S : Int) := by omega
        have hml := hev.out.len
        have HMO := Lib.hid hev.out.more
        have HSN := Lib.hid (hev.out.snoc (by omega))
        clear hmk
        go_upto_if 33 with fail
        generalize (bits BinOp.and IntKind.u8 (mk / 2 ^ t) 1 == 1) = cb
        go_cut [6] from 22 to 76 (fun i wx => i = .int .i64 (t : Int) ∧ ∃ vm ms', Hid (Bd w1 w1.heap.size w1.heap.size true true (.slice A' n c') (S : Int) wx ms' vm es ve) ∧ Hid (Ev5 ((t + 1 : Nat) : Int) ms'))
        case first =>
          cases cb
          · go_wp2_with fail
            go_meet
            case rel => exact ⟨rfl, vm, ms, hbd, by simpa using HMO⟩
          · have hmo := Lib.hid (hbd.out.mo rfl)
            have c2' := hbd.out.cb.cell 2 rfl
            have f2' := hbd.out.cb.frozen 2
            have hs4 := hbd.out.h2
            go_wp2_with (at_builtin; refine wpList_append_own _ rfl _ _ 22 rfl w1.heap.size 3 iI (.int .i64 0) 1 8 Try.underlying22 iI0 iI1 iI2 iI3 rfl (by decide) _ _ _ rfl (hmo.out.alloc _) ⟨wr.heap.size, 0, none⟩ 1 1 [.int .i64 (t : Int)] rfl rfl (news_one (by simp)) (by intro u hu; simp at hu; subst hu; rfl) (by unfold maxLen; omega) (by omega) (by simp; omega) ?_)
            intro v5 w5 hown5 hgrow5 _
            have hown6 : Own w5 w1.heap.size v5 (ms ++ [(t : Int)]) := by unfold Own; rw [List.length_append]; simpa using hown5
            obtain ⟨A5, c5, hv5, _, _, _⟩ := own_rdc hown6
            rw [show (ms ++ [(t : Int)]).length = ms.length + 1 by simp] at hv5
            subst hv5
            have hba := hbd.out.alloc (.cells #[.int .i64 (t : Int)] 3)
            have hcb := Lib.hid (hba.cb.grown hgrow5 (fun e => hba.neM e.symm))
            have hbd6 := Lib.hid (Bd.mark hba hgrow5 hown6)
            have c2' := hcb.out.cell 2 rfl
            have f2' := hcb.out.frozen 2
            clear hown5 hown6 hgrow5 hba
            go_wp2_with fail
            go_meet
            case rel => exact ⟨rfl, _, _, hbd6, by simpa using HSN⟩
        case rest =>
          clear hbd hev s1 gm hml HMO HSN
          obtain ⟨rfl, vm, ms', hbd, hev⟩ := hcut
          go_wp2_with fail
          go_loopw [7] (fun i wr => ∃ (k : Nat) (ve : Value) (es : List Ed), k ≤ n ∧ i = .int .i64 k ∧ Hid (Bd w1 w1.heap.size w1.heap.size true true (.slice A' n c') (S : Int) wr ms' vm es ve) ∧ Hid (EdI S al t k es)) (fun i _ => n - (intOf i).toNat)
          case atStart => exact ⟨0, _, _, Nat.zero_le _, rfl, hbd, hei⟩
          case round =>
            clear hbd hei
            obtain ⟨k, ve, es, hkn, rfl, hbd, hei⟩ := hrel
            have s1 := hbd.out.cb.cell 1 rfl
            by_cases hkl : k < n
            · obtain ⟨x, hx, hx0, hx1⟩ := HG0.out.ce (2 + t * 5 + k) (by omega)
              have gx := CG.out wr hbd.out.bel _ x hx
              have e0 := Int.emod_nonneg x (show (S : Int) + 2 ≠ 0 by omega)
              have z2 : (0 : Int) ≤ (k : Int) := by omega
              have z3 : (k : Int) < (n : Int) := by omega
              have z4 : (k : Int) < 5 := by omega
              have z5 : (t : Int) < 5 := by omega
              clear hx
              go_wp2_with fail
              go_quiet (fail)
              have hbdq := Lib.hid (hbd.out.drewN nq)
              have s1q := hbdq.out.cb.cell 1 rfl
              clear hbd s1 gx
              generalize wr.drewN nq = wq at *
              have hbd := Lib.hid hbdq.out
              have hsq := hbdq.out.h2
              clear hbdq
              by_cases z6 : x % ((S : Int) + 2) < (S : Int)
              · obtain ⟨bA, oA, rfl, hbA, hcA⟩ := HX.out (by rw [HN.out]; omega)
                obtain ⟨ev, hevv⟩ : ∃ ev, ev = al.getD k 0 := ⟨_, rfl⟩
                have ca : wq.cell? ⟨bA, oA + k, none⟩ = some (.int .i64 ev) := by
                  obtain ⟨b2, o2, e2, hb2, hc2⟩ := CA.out wq hbd.out.bel (by rw [HN.out]; omega)
                  injection e2 with e2; injection e2 with e3 e4; subst e3 e4
                  rw [hevv]; exact hc2 k (by rw [HN.out]; omega)
                have hsn := Lib.hid (hei.out.snoc (u := x % ((S : Int) + 2)) (by rw [HN.out]; exact hkl) HEV.out.o (by omega) z6)
                rw [← hevv] at hsn
                have hel := hei.out.l
                have heo := Lib.hid (hbd.out.eo rfl)
                have c3 := hbd.out.cb.cell 3 rfl
                have f3 := hbd.out.cb.frozen 3
                clear hcA hevv
                have hbs := hbd.out.bel.size
                have hneV := hbd.out.neE
                have hneA : some bA ≠ ve.ownBlock := fun e => by have h1 := (heo.out.lt bA e.symm).1; have h2 := hB1.out.size; have h3 := HBw.out; omega
                have hbAq : bA < wq.heap.size := by have h2 := hB1.out.size; have h3 := HBw.out; omega
                have v3 := fun cs : Array Value => (World.cell?_alloc_lt wq (.cells cs 55) ⟨w1.heap.size, 3, none⟩ hsq).trans c3
                have v4 := fun cs : Array Value => (World.cell?_alloc_lt wq (.cells cs 55) ⟨bA, oA + k, none⟩ hbAq).trans ca
                have v5 := fun cs : Array Value => (frozen?_alloc_cells wq cs 55 ⟨w1.heap.size, 3, none⟩).trans f3
                go_wp2_with fail
                go_region_law (refine step_append_lies _ (by rfl) (.tmp 66) (.tmp 74) _ (by rfl) w1.heap.size 55 iE (.agg #[.int .i64 0, .int .i64 0, .int .i64 0]) 3 24 Try.underlying23 iE0 iE1 iE2 iE3 rfl (by omega) ve es.length (encE es) (by rfl) (by first | exact (heo.out.alloc _).drew | exact (heo.out.alloc _)) ⟨wq.heap.size, 0, none⟩ 1 1 [.int .i64 (t : Int), .int .i64 ev, .int .i64 (x % ((S : Int) + 2))] (by rfl) (by rfl) (World.news_of_block (cs := #[.int .i64 (t : Int), .int .i64 ev, .int .i64 (x % ((S : Int) + 2))]) (t := 55) (fr := (0, 0)) (heap_alloc_new wq _)) (by simp [Value.oneCell']) (by omega) (by unfold maxLen; omega) (by omega) (by simp; omega) (wq.heap.size + 1) (by simp) ?_; intro gg cap w6 hown6 hgrow hat hlt1; have c6 := far12 hgrow hsq hneV c3; have f6 := far12f hgrow hsq hneV f3)
                all_goals
                  have hown7 : OwnE w6 w1.heap.size (.slice (some ⟨gg, 0, none⟩) (es.length + 1) cap) (es ++ [⟨(t : Int), ev, x % ((S : Int) + 2)⟩]) := by
                    unfold OwnE; rw [encE_app, List.length_append]; exact hown6
                  have hbd7 := Lib.hid (show Bd w1 w1.heap.size w1.heap.size true true (.slice A' n c') (S : Int) (w6.setCell ⟨w1.heap.size, 3, none⟩ (.slice (some ⟨gg, 0, none⟩) (es.length + 1) cap)) ms' vm (es ++ [⟨(t : Int), ev, x % ((S : Int) + 2)⟩]) (.slice (some ⟨gg, 0, none⟩) (es.length + 1) cap) from by
                    first
                    | exact Bd.edge (hbd.out.alloc _) hgrow hown7
                    | exact Bd.edge ((hbd.out.alloc _).drew) hgrow hown7
                    | exact Bd.edge (hbd.out.drew.alloc _) hgrow hown7)
                  clear hown7 hown6 hgrow hat
                  go_wp2_with fail
                  go_roundw
                  case measure => simp [intOf]; omega
                  case rel => exact ⟨k + 1, _, _, by omega, by go_num, by first | exact hbd7 | exact Lib.hid hbd7.out.drew, hsn⟩
              · have z7 : (S : Int) ≤ x % ((S : Int) + 2) := by omega
                have hno := Lib.hid (hei.out.more (by rw [HN.out]; exact hkl))
                go_wp2_with fail
                go_roundw
                case rel => exact ⟨k + 1, _, _, by omega, by go_num, hbd, hno⟩
                case measure => simp [intOf]; omega
            · obtain rfl : k = n := by omega
              have hnx := Lib.hid (hei.out.next hn5)
              go_wp2_with fail
              go_roundw
              case rel => exact ⟨t + 1, _, _, _, _, by omega, by go_num, hbd, hev, hnx⟩
              case measure => simp [intOf]; omega
      · obtain rfl : t = S := by omega
        obtain ⟨M3, d3, rfl, hM1, hM2, hM3⟩ := own_rdc (hbd.out.mo rfl)
        obtain ⟨E3, g3, rfl, hE1, hE2, hE3⟩ := ownE_rd (hbd.out.eo rfl)
        have s0 := hbd.out.cb.cell 0 rfl
        have s1 := hbd.out.cb.cell 1 rfl
        have s2 := hbd.out.cb.cell 2 rfl
        have s3 := hbd.out.cb.cell 3 rfl
        have hml := hev.out.len
        have hel := hei.out.l
        have HRi := Lib.hid (show Right ⟨al, (t : Int), ms, es⟩ from { alr := fun x hx => by have := HEV.out.r x hx; omega, alo := HEV.out.o, st0 := by simp, mrr := hev.out.r, mro := hev.out.o, edr := (fun x hx => by
          obtain ⟨h1, h2, h3, h4, h5⟩ := hei.out.r x hx
          exact ⟨⟨h1, h2.resolve_right (fun h => by simpa using h.2)⟩, ⟨h3, h4⟩, h5⟩), edo := hei.out.o, st1 := by show (t : Int) ≤ 4096; omega })
        have HAu := Lib.hid (show AuR wr wr.heap.size A' n c' (t : Int) M3 ms.length d3 E3 es.length g3 ⟨al, (t : Int), ms, es⟩ from
          { al := (HRd.out.below hbd.out.bel (Nat.le_refl _)).more hbd.out.bel.size, mr := hM1, ed := hE1, hn := HN.out, hm := rfl, hk := rfl, st := rfl, cn := ⟨hc1, hc2⟩, cm := ⟨hM2, hM3⟩, ck := ⟨hE2, hE3⟩, bn := by omega, bm := by omega, bk := by omega })
        have HC := Lib.hid (rCanonical_any A' n c' (t : Int) M3 ms.length d3 E3 es.length g3 _ wr.heap.size wr HAu.out (Nat.le_refl _) HRi.out.toRightW (by omega))
        have hR2 := Lib.hid (hR1.out.below hbd.out.bel hR1.out.lt)
        have hB2 := Lib.hid (hB1.out.trans (hbd.out.bel.mono hB1.out.size))
        have hgt := hG1.out.lt
        have hbs := hbd.out.bel.size
        have hst5 := Lib.hid (fnd_len HRi.out.toRightW)
        clear hM1 hE1 hbd
        go_wp2_with fail
        refine HC.out.mono ?_
        rintro e w9 ⟨v9, rfl, hau9, hb9⟩
        obtain ⟨A9, n9, c9, s9, M9, m9, d9, E9, k9, g9, rfl, hr9, hf9⟩ := hau9
        have hAu9 := Lib.hid (show AuF _ _ w9 wr.heap.size from ⟨A9, n9, c9, s9, M9, m9, d9, E9, k9, g9, rfl, hr9, hf9⟩)
        have hR9 := Lib.hid (hR2.out.below hb9 hR2.out.lt)
        have hB9 := Lib.hid (hB2.out.trans (hb9.mono hB2.out.size))
        have hlt1 := hR1.out.lt
        have r0 := hR9.out.cell 0 rfl
        have r1 := hR9.out.cell 1 rfl
        have r2 := hR9.out.cell 2 rfl
        have r3 := hR9.out.cell 3 rfl
        have y0 := hR9.out.frozen 0
        have y1 := hR9.out.frozen 1
        have y2 := hR9.out.frozen 2
        have y3 := hR9.out.frozen 3
        clear hb9 hr9 hf9
        go_wp2_with fail
        (try simp only [Exit.inBlock, Exit.then])
        refine bodyPost_ret (v := .agg #[.slice A9 n9 c9, .int .i64 s9, .slice M9 m9 d9, .slice E9 k9 g9]) ?_ rfl ⟨canA ⟨al, (t : Int), ms, es⟩, _, ?_, rfl, ?_, ?_⟩
        · rw [results_cell1 rfl]
          go_simp
        · refine ⟨HRi.out.can, can_can HRi.out.toRightW, rfl, ?_⟩
          have := hst5.out
          show ((fnd _).length : Int) ≤ 5
          simp only [Int.toNat_natCast] at this
          omega
        · exact (hAu9.out.set4 (by omega) _ _ _ _).more (by omega)
        · exact below_set4 hB9.out (by omega) _ _ _ _
end
end Go.Proofs.Ytmghngehpgolgaa
