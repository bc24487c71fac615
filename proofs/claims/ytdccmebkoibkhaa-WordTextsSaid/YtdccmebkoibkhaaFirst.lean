/- The contract of firstIndices: a new map that leads from each name to the first event that has it. -/
import Derived.Test.YtdccmebkoibkhaaEvents
namespace Go.Proofs.Ytdccmebkoibkhaa
open Go.RowKit Go.WideMaps Go.Maps

theorem run_makeMapHint {P : Program} (t k e : TypeId) (kd : IntKind) (n : Int) (ht : P.underlying t = some (.map k e)) (w : World) :
    (Instr.makeMap t (some (.int kd n))).run P w = .ok (.map (some w.heap.size)) (w.alloc (.map #[] 0)) := by
  simp [Instr.makeMap, run_underlying ht]; rfl
theorem nat_wf (n : Nat) (h : n ≤ 9223372036854775807) : (Lit.int .i64 (n : Int)).wf = true := by
  have h1 : IntKind.i64.min = -9223372036854775808 := rfl
  have h2 : IntKind.i64.max = 9223372036854775807 := rfl
  simp only [Lit.wf, Bool.and_eq_true, decide_eq_true_eq]
  omega
theorem take_snoc_ev {l : List Ev} {k : Nat} {x : Ev} (h : l[k]? = some x) : l.take (k + 1) = l.take k ++ [x] := by
  obtain ⟨hk, e⟩ := List.getElem?_eq_some_iff.1 h
  rw [List.take_succ_eq_append_getElem hk, e]
theorem take_len {l : List Ev} {k : Nat} (h : k ≤ l.length) : (l.take k).length = k := by rw [List.length_take]; omega

set_option maxHeartbeats 1600000 in
theorem first_any (A : Option Addr) (n c : Nat) (l : List Ev) (w : World) (hx : RdE w w.heap.size A l) (hn : l.length = n) (hb : n * 40 ≤ 140737488351232) (hs : ∀ x ∈ l, x.name.size ≤ maxLen) :
    Calls Try.prog 73 #[.slice A n c] w fun e w' => e = .returned (.map (some w.heap.size)) ∧ MapIs w' w.heap.size n l ∧ Below w.heap.size w w' := by
  have hmm := run_makeMapHint (P := Try.prog) 78 9 3 .i64 n Try.underlying78
  have HN := Lib.hid hn
  have HS := Lib.hid hs
  clear hn hs
  obtain ⟨B, hB⟩ : ∃ B, B = w.heap.size := ⟨_, rfl⟩
  rw [← hB] at hx
  have HB := Lib.hid hB
  have hBw : B ≤ w.heap.size := by omega
  clear hB
  go_enter Try.func73, Try.ntmps73
  go_wp2
  go_loopw [13] (fun i wr => ∃ k : Nat, k ≤ n ∧ i = .int .i64 k ∧ Hid (MapIs wr w.heap.size k (l.take k)) ∧ Below w.heap.size w wr) (fun i _ => n - (intOf i).toNat)
  case atStart => exact ⟨0, Nat.zero_le _, rfl, ⟨_, World.ownsMap_made _ _ _ _, View.start⟩, (Below.refl _ _).alloc (Nat.le_refl _) _⟩
  case round =>
    obtain ⟨k, hk, rfl, hmap, hnx⟩ := hrel
    by_cases hlt : k < n
    · obtain ⟨b1, o1, rfl, hbB, hc1⟩ := hx (by rw [HN.out]; omega)
      have hz : k < l.length := by rw [HN.out]; exact hlt
      obtain ⟨x, hxe⟩ : ∃ x, l[k]? = some x := ⟨_, List.getElem?_eq_getElem hz⟩
      have hc := hc1 k x hxe
      clear hc1
      have HX := Lib.hid hxe
      clear hxe
      obtain ⟨D, hown, hview⟩ := hmap.out
      clear hmap
      obtain ⟨nm, cn, ob, fr, fl⟩ := x
      obtain ⟨g1, g2, g3, g4, g5⟩ : EvAt wr b1 (o1 + k * 5) ⟨nm, cn, ob, fr, fl⟩ := hc.keep fun o => hnx.cell (by exact Nat.lt_of_lt_of_le hbB hBw)
      clear hc
      dsimp only at g1 g2 g3 g4 g5
      have hkey : keyOf Try.prog 9 (.string nm) = some (.string nm.data.toList) := keyOf_string_mk Try.underlying9 (HS.out _ (List.mem_of_getElem? HX.out))
      have hv := (hview.2 nm.data.toList).1
      cases hf : fidx (l.take k) nm.data.toList with
      | some i =>
        rw [hf] at hv
        have hnew : View D (l.take (k + 1)) := by rw [take_snoc_ev HX.out]; exact hview.old (by rw [hf]; rfl)
        have hb1 : Maps.has D (.string nm.data.toList) = true := hv
        have HV := Lib.hid hnew
        clear hv hview hnew hf
        go_wp2_with (at_lookup; refine wpList_lookup_own_ok_int _ rfl _ _ 78 rfl 9 3 .i64 keyLaw Try.underlying78 Try.underlying3 (zeroInt _) w.heap.size k D rfl (hown.alloc _) _ _ rfl hkey ?_; intro cc _ _)
        go_roundw
        case rel => exact ⟨k + 1, by omega, by go_num, ⟨D, (hown.alloc _).mono (by omega), HV.out⟩, hnx.alloc hnx.size _⟩
        case measure => simp [intOf]; omega
      | none =>
        rw [hf] at hv
        have hnew : View (D.put (.string nm.data.toList) (.lit (.int .i64 (k : Int)))) (l.take (k + 1)) := by
          have h := hview.new (x := ⟨nm, cn, ob, fr, fl⟩) hf
          rw [take_len (by omega)] at h
          rw [take_snoc_ev HX.out]; exact h
        have hb1 : Maps.has D (.string nm.data.toList) = false := hv
        have HV := Lib.hid hnew
        clear hv hview hnew hf
        go_wp2_with (first
          | (at_lookup; refine wpList_lookup_own_ok_int _ rfl _ _ 78 rfl 9 3 .i64 keyLaw Try.underlying78 Try.underlying3 (zeroInt _) w.heap.size k D rfl (hown.alloc _) _ _ rfl hkey ?_; intro cc _ _)
          | (at_mapUpdate; refine wpList_mapUpdate_own _ rfl _ _ _ 78 rfl 9 3 keyLaw Try.underlying78 _ w.heap.size k D rfl (hown.alloc _) (by unfold maxLen; omega) _ _ _ rfl rfl hkey (.lit (.int .i64 (k : Int))) [] (plainElem_int Try.underlying3 ?cwf) ?_))
        case cwf => exact nat_wf k (by omega)
        · intro w1 hown1 hgrow1
          go_wp2
          go_roundw
          case rel => exact ⟨k + 1, by omega, by go_num, ⟨_, hown1, HV.out⟩, (hnx.alloc hnx.size _).grown hgrow1 (hnx.alloc hnx.size _).size (fun j hj => by cases hj; exact Nat.le_refl _)⟩
          case measure => simp [intOf]; omega
    · have hkn : k = l.length := by rw [HN.out]; omega
      have hn := HN.out
      rw [hkn] at hmap
      rw [List.take_of_length_le (Nat.le_refl _), hn] at hmap
      clear hn hkn
      go_wp2
      go_ret
      exact ⟨rfl, hmap.out, hnx⟩
end Go.Proofs.Ytdccmebkoibkhaa
