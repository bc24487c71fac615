/- Layer 6: word.Project in this seat. -/
import Derived.Test.YtedleffmbddccaaDoorZlM
import Derived.Deep.RegionHeld3
set_option linter.unusedVariables false
set_option linter.unusedSimpArgs false
set_option linter.unusedSectionVars false
namespace Go.Proofs.YtedleffmbddccaaDoor.prj
open Go.RowKit

theorem info_int : (Tryd.prog.info? 3).map (fun i => (i.zero, i.size, i.bytes)) = some (some (.int .i64 0), 1, 8) := by kernel_rfl

/-- The slice value owns, among the blocks from base on, these ints. -/
abbrev Own (w : World) (base : Nat) (v : Value) (zs : List Int) : Prop := w.ownsRow base 3 1 v zs.length (zs.map (Value.int .i64))

theorem filter_take_yes {p : Int → Bool} {zs : List Int} {k : Nat} (h : k < zs.length) (hp : p (zs.getD k 0) = true) : (zs.take (k + 1)).filter p = (zs.take k).filter p ++ [zs.getD k 0] := by
  rw [List.take_succ_eq_append_getElem h, List.filter_append]
  have e : zs.getD k 0 = zs[k] := by simp [List.getD, List.getElem?_eq_getElem h]
  rw [e] at hp ⊢
  simp [hp]
theorem filter_take_no {p : Int → Bool} {zs : List Int} {k : Nat} (h : k < zs.length) (hp : p (zs.getD k 0) = false) : (zs.take (k + 1)).filter p = (zs.take k).filter p := by
  rw [List.take_succ_eq_append_getElem h, List.filter_append]
  have e : zs.getD k 0 = zs[k] := by simp [List.getD, List.getElem?_eq_getElem h]
  rw [e] at hp
  simp [hp]
theorem filter_take_le (p : Int → Bool) (zs : List Int) (k : Nat) : ((zs.take k).filter p).length ≤ k := Nat.le_trans (List.length_filter_le _ _) (List.length_take_le _ _)
theorem filter_take_all {p : Int → Bool} {zs : List Int} {k : Nat} (h : zs.length = k) : (zs.take k).filter p = zs.filter p := by
  rw [List.take_of_length_le (by omega)]
/-- What an append of one number, which first lies in a new block, leaves. -/
theorem own_app {B : Nat} {K K' : List Int} {x : Int} {w wr w1 : World} {u v' : Value} {o : Obj} (hK : K' = K ++ [x]) (hnx : Below B w wr) (hown : Own wr B u K)
    (hown' : w1.ownsRow B 3 1 v' (K.length + 1) (K.map (Value.int .i64) ++ [.int .i64 x])) (hgrow : (wr.alloc o).grownBy w1 u.ownBlock) (hB : B ≤ w.heap.size) : Own w1 B v' K' ∧ Below B w w1 := by
  subst hK
  have := hnx.size
  exact ⟨by simpa [Own] using hown', (hnx.alloc (by omega) o).grown hgrow (by simp; omega) (fun j hj => by have := (hown.lt j hj).1; omega)⟩
theorem own_one {w : World} {x : Int} : ∀ j u, [Value.int .i64 x][j]? = some u → (w.alloc (.cells #[.int .i64 x] 3)).cell? ((⟨w.heap.size, 0, none⟩ : Addr).add j) = some u := by
  intro j u hj
  match j, hj with
  | 0, hj => simp at hj; subst hj; simp [Addr.add]

theorem own_rd {w : World} {base : Nat} {v : Value} {zs : List Int} (h : Own w base v zs) : ∃ A c, v = .slice A zs.length c ∧ RdI w w.heap.size A zs := by
  rcases h.2 with ⟨rfl, h0⟩ | ⟨g, cap, cur, rfl, hg, hh, hn, hcap, hsz, htake⟩
  · rw [h0]; exact ⟨none, 0, rfl, fun h => by omega⟩
  · refine ⟨some ⟨g, 0, none⟩, cap, rfl, fun _ => ⟨g, 0, rfl, (h.lt g rfl).2, fun j hj => ?_⟩⟩
    rw [Nat.zero_add, World.ownsRow.cellAt (cap := cap) h j (by omega), List.getElem?_map, List.getElem?_eq_getElem hj]
    simp [List.getD, List.getElem?_eq_getElem hj]

/-- What a function hands back that makes a list of ints in new memory, the capacity told. -/
def GivesC (w : World) (zs : List Int) (e : Ending) (w' : World) : Prop := ∃ A c, e = .returned (.slice A zs.length c) ∧ RdI w' w'.heap.size A zs ∧ Below w.heap.size w w' ∧ zs.length ≤ c ∧ c ≤ 9223372036854775807
theorem own_rdc {w : World} {base : Nat} {v : Value} {zs : List Int} (h : Own w base v zs) : ∃ A c, v = .slice A zs.length c ∧ RdI w w.heap.size A zs ∧ zs.length ≤ c ∧ c ≤ 9223372036854775807 := by
  obtain ⟨A, c, e, hr⟩ := own_rd h
  refine ⟨A, c, e, hr, ?_⟩
  rcases h.2 with ⟨rfl, h0⟩ | ⟨g, cap, cur, rfl, hg, hh, hn, hcap, hsz, htake⟩
  · injection e with _ e1 e2; omega
  · injection e with _ e1 e2; unfold maxLen at hcap; omega
theorem own_kept {w w' : World} {B : Nat} {v : Value} {zs : List Int} (h : Own w B v zs) (hb : Below w.heap.size w w') : Own w' B v zs :=
  World.ownsRow.kept (row := none) h ⟨hb.os, hb.tape, hb.output, hb.size, fun i hi _ => hb.block i hi⟩ (Classical.em _)
set_option maxHeartbeats 1600000 in
theorem wProject_any (A C : Option Addr) (n c m d : Nat) (xs ys : List Int) (w : World) (hx : RdI w w.heap.size A xs) (hy : RdI w w.heap.size C ys) (hn : xs.length = n) (hm : ys.length = m) (hb : n * 8 ≤ 140737488351232) (hb' : m * 8 ≤ 140737488351232) (hup : Up ys) :
    Calls Tryd.prog 40 #[.slice A n c, .slice C m d] w fun e w' => GivesC w (xs.filter fun x => decide (x ∈ ys)) e w' := by
  obtain ⟨i0, hi, hz0, hz1, hz2⟩ := info_parts info_int
  have HC := Lib.hid (fun x W (h : RdI W w.heap.size C ys) => aContains_any C m d w.heap.size ys x W h hm (by omega) hup)
  have HY := Lib.hid hy
  have HN := Lib.hid hn
  clear hn hm hy hup
  obtain ⟨p, hpd⟩ : ∃ p : Int → Bool, p = (fun x => decide (x ∈ ys)) := ⟨_, rfl⟩
  have HP := Lib.hid hpd
  rw [← hpd]
  clear hpd
  obtain ⟨B, hB⟩ : ∃ B, B = w.heap.size := ⟨_, rfl⟩
  rw [← hB] at hx
  have HB := Lib.hid hB
  have hBw : B ≤ w.heap.size := by omega
  have hBw' : w.heap.size ≤ B := by omega
  clear hB
  go_enter Tryd.func40, Tryd.ntmps40
  go_wp2
  go_loopw [5, 10] (fun v i wr => ∃ k : Nat, k ≤ n ∧ i = .int .i64 k ∧ Hid (Own wr B v ((xs.take k).filter p)) ∧ Below B w wr) (fun _ i _ => n - (intOf i).toNat)
  case atStart => exact ⟨0, Nat.zero_le _, rfl, World.ownsRow_nil _ _ _ _, Below.refl _ _⟩
  case round =>
    obtain ⟨k, hk, rfl, hown, hnx⟩ := hrel
    have hsz := hnx.size
    by_cases hlt : k < n
    · obtain ⟨b1, o1, rfl, hbB, hc1⟩ := hx (by rw [HN.out]; omega)
      have hz : k < xs.length := by rw [HN.out]; exact hlt
      obtain ⟨x, hxe⟩ : ∃ x, x = xs.getD k 0 := ⟨_, rfl⟩
      have hc : wr.cell? ⟨b1, o1 + k, none⟩ = some (.int .i64 x) := by rw [hxe]; exact (hnx.cell (by exact hbB)).trans (hc1 k hz)
      have HX := Lib.hid hxe
      have HCC := Lib.hid (HC.out x wr (HY.out.below hnx (by omega)))
      have hlen := filter_take_le p xs k
      clear hc1 hx hxe
      obtain ⟨r, hr⟩ : ∃ r, decide (x ∈ ys) = r := ⟨_, rfl⟩
      rw [hr] at HCC
      have hpx : p x = r := by rw [HP.out, ← hr]
      clear hr
      cases r
      · have hp : p x = false := hpx
        clear hpx
        have hN := Lib.hid (filter_take_no (p := p) hz (by rw [← HX.out]; exact hp))
        clear hz hp
        go_wp2_with (go_at_call 65; refine HCC.out.mono ?_; rintro e w' ⟨rfl, rfl⟩)
        go_roundw
        case rel => exact ⟨k + 1, by omega, by go_num, by rw [hN.out]; exact hown, hnx⟩
        case measure => simp [intOf]; omega
      · have hp : p x = true := hpx
        clear hpx
        have hY := Lib.hid (filter_take_yes (p := p) hz (by rw [← HX.out]; exact hp))
        clear hz hp
        go_wp2_with (first
          | (go_at_call 65; refine HCC.out.mono ?_; rintro e w' ⟨rfl, rfl⟩)
          | (at_builtin; refine wpList_append_own _ rfl _ _ 27 rfl B 3 i0 (.int .i64 0) 1 8 Tryd.underlying27 hi hz0 hz1 hz2 rfl (by decide) _ _ _ rfl (hown.out.alloc _) ⟨wr.heap.size, 0, none⟩ 1 1 [.int .i64 x] rfl rfl ?c1 ?c2 ?c3 ?c4 ?c5 ?_))
        case c1 => exact own_one
        case c2 => intro u hu; simp at hu; subst hu; rfl
        case c3 => unfold maxLen; omega
        case c4 => omega
        case c5 => simp; omega
        intro v' w1 hown' hgrow _
        have R := own_app (hY.out.trans (by rw [← HX.out])) hnx hown.out hown' hgrow hBw
        have R1 := Lib.hid R.1
        have R2 := R.2
        clear R hown' hgrow hY
        go_wp2
        go_roundw
        case rel => exact ⟨k + 1, by omega, by go_num, R1, R2⟩
        case measure => simp [intOf]; omega
    · have hkn : k = n := by omega
      have e := Lib.hid (filter_take_all (p := p) (zs := xs) (k := k) (by rw [HN.out, hkn]))
      rw [e.out] at hown
      have hf := Lib.hid (own_rdc hown.out)
      have hnx' : Below w.heap.size w wr := by rw [← HB.out]; exact hnx
      clear hkn hown
      go_wp2
      go_ret
      obtain ⟨A', c', e', hr, hq1, hq2⟩ := hf.out
      exact ⟨A', c', by rw [← e']; rfl, hr, hnx', hq1, hq2⟩
end Go.Proofs.YtedleffmbddccaaDoor.prj
