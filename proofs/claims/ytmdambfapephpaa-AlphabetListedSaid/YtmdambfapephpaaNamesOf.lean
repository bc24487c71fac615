/- What it means that CheckSet finds no error; the contract of Names: the names of a set of events, or the first error. -/
import Derived.Test.YtmdambfapephpaaLfaults
namespace Go.Proofs.Ytmdambfapephpaa
open Go.RowKit Go.WideMaps Go.Maps

theorem csGo_ok {m : Int} : ∀ (zs : List Int) (p : Option Int), csGo m p zs = 0 → (∀ x ∈ zs, 0 ≤ x ∧ x < m) ∧ zs.Pairwise (· < ·) ∧ ∀ y, p = some y → ∀ x ∈ zs, y < x
  | [], p, _ => ⟨by simp, List.Pairwise.nil, by simp⟩
  | x :: r, p, h => by
    rw [csGo] at h
    by_cases h1 : x < 0 ∨ m ≤ x
    · rw [if_pos h1] at h; omega
    · rw [if_neg h1] at h
      by_cases h2 : ordB p x = true
      · rw [if_pos h2] at h; omega
      · rw [if_neg h2] at h
        obtain ⟨a, b, c⟩ := csGo_ok r (some x) h
        have hlt : ∀ z ∈ r, x < z := c x rfl
        refine ⟨fun z hz => ?_, List.pairwise_cons.2 ⟨hlt, b⟩, fun y hy z hz => ?_⟩
        · rcases List.mem_cons.1 hz with rfl | hz
          · omega
          · exact a z hz
        · subst hy
          have hyx : y < x := by simpa [ordB] using h2
          rcases List.mem_cons.1 hz with rfl | hz
          · exact hyx
          · have := hlt z hz; omega
theorem cs_range_ok {m : Int} {zs : List Int} (h : csE m zs = 0) : ∀ t, t < zs.length → 0 ≤ zs.getD t 0 ∧ zs.getD t 0 < m := fun t ht => by
  have := (csGo_ok zs none h).1 (zs.getD t 0) (getD_mem ht)
  exact this
theorem cs_up {m : Int} {zs : List Int} (h : csE m zs = 0) : Up zs := fun s t hst ht => by
  have := (List.pairwise_iff_getElem.1 (csGo_ok zs none h).2.1) s t (by omega) ht hst
  simpa [List.getD, List.getElem?_eq_getElem ht, List.getElem?_eq_getElem (show s < zs.length by omega)] using this

theorem info_str : (Try.prog.info? 9).map (fun i => (i.zero, i.size, i.bytes)) = some (some (.string ByteArray.empty), 1, 16) := by kernel_rfl
abbrev OwnS (w : World) (base : Nat) (v : Value) (ss : List ByteArray) : Prop := w.ownsRow base 9 1 v ss.length (ss.map Value.string)
/-- A slice's address leads, below block B, to cells that hold these strings (asked only where there are any). -/
def RdS (w : World) (B : Nat) (A : Option Addr) (ss : List ByteArray) : Prop :=
  0 < ss.length → ∃ b off, A = some ⟨b, off, none⟩ ∧ b < B ∧ ∀ j, j < ss.length → w.cell? ⟨b, off + j, none⟩ = some (.string (ss.getD j ByteArray.empty))
theorem RdS.keep {w w' : World} {B : Nat} {A : Option Addr} {zs : List ByteArray} (h : RdS w B A zs) (hk : ∀ b o, b < B → w'.cell? ⟨b, o, none⟩ = w.cell? ⟨b, o, none⟩) : RdS w' B A zs := fun h0 => by
  obtain ⟨b, off, e, hb, hc⟩ := h h0
  exact ⟨b, off, e, hb, fun j hj => (hk b _ hb).trans (hc j hj)⟩
theorem RdS.below {w w' : World} {B B' : Nat} {A : Option Addr} {zs : List ByteArray} (h : RdS w B A zs) (hb : Below B' w w') (hB : B ≤ B') : RdS w' B A zs :=
  h.keep fun _ _ hlt => hb.cell (by exact Nat.lt_of_lt_of_le hlt hB)
theorem RdS.nil (w : World) (B : Nat) (A : Option Addr) : RdS w B A [] := fun h => absurd h (by simp)
theorem owns_rd {w : World} {base : Nat} {v : Value} {ss : List ByteArray} (h : OwnS w base v ss) : ∃ A c, v = .slice A ss.length c ∧ RdS w w.heap.size A ss := by
  rcases h.2 with ⟨rfl, h0⟩ | ⟨g, cap, cur, rfl, hg, hh, hn, hcap, hsz, htake⟩
  · rw [h0]; exact ⟨none, 0, rfl, fun h => by omega⟩
  · refine ⟨some ⟨g, 0, none⟩, cap, rfl, fun _ => ⟨g, 0, rfl, (h.lt g rfl).2, fun j hj => ?_⟩⟩
    rw [Nat.zero_add, World.ownsRow.cellAt (cap := cap) h j (by omega), List.getElem?_map, List.getElem?_eq_getElem hj]
    simp [List.getD, List.getElem?_eq_getElem hj]
theorem owns_app {B : Nat} {K K' : List ByteArray} {x : ByteArray} {w wr w1 : World} {u v' : Value} {o : Obj} (hK : K' = K ++ [x]) (hnx : Below B w wr) (hown : OwnS wr B u K)
    (hown' : w1.ownsRow B 9 1 v' (K.length + 1) (K.map Value.string ++ [.string x])) (hgrow : (wr.alloc o).grownBy w1 u.ownBlock) (hB : B ≤ w.heap.size) : OwnS w1 B v' K' ∧ Below B w w1 := by
  subst hK
  have := hnx.size
  exact ⟨by simpa [OwnS] using hown', (hnx.alloc (by omega) o).grown hgrow (by simp; omega) (fun j hj => by have := (hown.lt j hj).1; omega)⟩
theorem owns_one {w : World} {x : ByteArray} : ∀ j u, [Value.string x][j]? = some u → (w.alloc (.cells #[.string x] 9)).cell? ((⟨w.heap.size, 0, none⟩ : Addr).add j) = some u := by
  intro j u hj
  match j, hj with
  | 0, hj => simp at hj; subst hj; simp [Addr.add]

/-- The names of the events with these indices. -/
def nmOf (l : List Ev) (zs : List Int) : List ByteArray := zs.map fun z => match l[z.toNat]? with | some x => x.name | none => ByteArray.empty
theorem nm_step {l : List Ev} {zs : List Int} {k j : Nat} {x : Ev} (h : k < zs.length) (hz : zs.getD k 0 = (j : Int)) (hx : l[j]? = some x) : nmOf l (zs.take (k + 1)) = nmOf l (zs.take k) ++ [x.name] := by
  have e : zs.getD k 0 = zs[k] := by simp [List.getD, List.getElem?_eq_getElem h]
  unfold nmOf
  rw [List.take_succ_eq_append_getElem h, List.map_append, ← e, hz]
  simp [hx]
theorem nm_len (l : List Ev) (zs : List Int) (k : Nat) (h : k ≤ zs.length) : (nmOf l (zs.take k)).length = k := by
  unfold nmOf; rw [List.length_map, List.length_take]; omega
theorem nm_all (l : List Ev) (zs : List Int) (n : Nat) (h : zs.length = n) : nmOf l (zs.take n) = nmOf l zs := by rw [List.take_of_length_le (by omega)]

/-- What a function hands back that makes a list of strings in new memory, and an error. -/
def GivesS (w : World) (ss : List ByteArray) (err : Int) (e : Ending) (w' : World) : Prop := ∃ A c, e = .returned (.tuple #[.slice A ss.length c, .int .i64 err]) ∧ RdS w' w'.heap.size A ss ∧ Below w.heap.size w w'

set_option maxHeartbeats 1600000 in
theorem aNames_ok (A C : Option Addr) (n c m d : Nat) (l : List Ev) (zs : List Int) (w : World) (hx : RdE w w.heap.size A l) (hy : RdI w w.heap.size C zs) (hn : l.length = n) (hm : zs.length = m) (hb : n * 40 ≤ 140737488351232) (hb' : m * 16 ≤ 140737488351232) (hs : ∀ x ∈ l, x.name.size ≤ maxLen)
    (h0 : chE l = 0) (h1 : csE n zs = 0) :
    Calls Try.prog 39 #[.slice A n c, .slice C m d] w fun e w' => GivesS w (nmOf l zs) 0 e w' := by
  obtain ⟨i0, hi, hz0, hz1, hz2⟩ := info_parts info_str
  have HC := Lib.hid (aCheck_any A n c l w hx hn hb hs)
  rw [h0] at HC
  have HS := Lib.hid (fun w1 (h : RdI w1 w.heap.size C zs) => aCheckSet_any C m d w.heap.size zs n w1 h hm (by omega))
  rw [h1] at HS
  have HR := Lib.hid (cs_range_ok h1)
  have HN := Lib.hid hn
  have HM := Lib.hid hm
  obtain ⟨B, hB⟩ : ∃ B, B = w.heap.size := ⟨_, rfl⟩
  have HX := Lib.hid hx
  have HY := Lib.hid hy
  have HB := Lib.hid hB
  have hBw : B ≤ w.heap.size := by omega
  have hBw' : w.heap.size ≤ B := by omega
  clear hn hm h0 h1 hs hB hx hy
  go_enter Try.func39, Try.ntmps39
  go_wp2_with (first
    | (go_at_call 16; refine HC.out.mono ?_; rintro e w1 ⟨rfl, hbel⟩)
    | (go_at_call 22; refine (HS.out _ (HY.out.below hbel (Nat.le_refl _))).mono ?_; rintro e w2 ⟨rfl, rfl⟩))
  have hbB : Below B w w1 := hbel.mono hBw
  go_loopw [8, 25] (fun v i wr => ∃ k : Nat, k ≤ m ∧ i = .int .i64 k ∧ Hid (OwnS wr B v (nmOf l (zs.take k))) ∧ Below B w wr) (fun _ i _ => m - (intOf i).toNat)
  case atStart => exact ⟨0, Nat.zero_le _, rfl, World.ownsRow_nil _ _ _ _, hbB⟩
  case round =>
    obtain ⟨k, hk, rfl, hown, hnx⟩ := hrel
    by_cases hlt : k < m
    · have hz : k < zs.length := by rw [HM.out]; exact hlt
      obtain ⟨b2, o2, rfl, hbB2, hc2⟩ := HY.out (by omega)
      have hzr := HR.out k hz
      obtain ⟨z, hzz⟩ : ∃ z, z = zs.getD k 0 := ⟨_, rfl⟩
      have hcz : wr.cell? ⟨b2, o2 + k, none⟩ = some (.int .i64 z) := by rw [hzz]; exact (hnx.cell (by show b2 < B; omega)).trans (hc2 k hz)
      rw [← hzz] at hzr
      obtain ⟨j, rfl⟩ := Int.eq_ofNat_of_zero_le hzr.1
      have HZ := Lib.hid hzz
      have hjn : j < n := by omega
      clear hc2 hzz hzr
      have hjl : j < l.length := by rw [HN.out]; exact hjn
      obtain ⟨b1, o1, rfl, hbB1, hc1⟩ := HX.out (by omega)
      obtain ⟨x, hxe⟩ : ∃ x, l[j]? = some x := ⟨_, List.getElem?_eq_getElem hjl⟩
      have hg := (hc1 j x hxe).1
      obtain ⟨nm, hnm⟩ : ∃ nm, nm = x.name := ⟨_, rfl⟩
      have g1 : wr.cell? ⟨b1, o1 + j * 5, none⟩ = some (.string nm) := by rw [hnm]; exact (hnx.cell (by show b1 < B; omega)).trans hg
      have hY := Lib.hid (nm_step hz HZ.out.symm hxe)
      rw [← hnm] at hY
      have hlen := nm_len l zs k (by omega)
      have HL := Lib.hid hlen
      have hlen' : (nmOf l (zs.take k)).length ≤ k := by omega
      have hsz := hnx.size
      clear hg hc1 hxe hnm hz hjl hlen
      go_wp2_with (at_builtin; refine wpList_append_own _ rfl _ _ 49 rfl B 9 i0 (.string ByteArray.empty) 1 16 Try.underlying49 hi hz0 hz1 hz2 rfl (by decide) _ _ _ rfl (hown.out.alloc _) ⟨wr.heap.size, 0, none⟩ 1 1 [.string nm] rfl rfl ?c1 ?c2 ?c3 ?c4 ?c5 ?_)
      case c1 => exact owns_one
      case c2 => intro u hu; simp at hu; subst hu; rfl
      case c3 => unfold maxLen; omega
      case c4 => omega
      case c5 => simp; omega
      intro v' w3 hown' hgrow _
      have R := owns_app hY.out hnx hown.out hown' hgrow hBw
      have R1 := Lib.hid R.1
      have R2 := R.2
      clear R hown' hgrow hY
      go_wp2
      go_roundw
      case rel => exact ⟨k + 1, by omega, by go_num, R1, R2⟩
      case measure => simp [intOf]; omega
    · have hkm : k = m := by omega
      have e := Lib.hid (nm_all l zs m HM.out)
      rw [hkm] at hown
      rw [e.out] at hown
      have hf := Lib.hid (owns_rd hown.out)
      have hnx' : Below w.heap.size w wr := by rw [← HB.out]; exact hnx
      clear hkm hown
      go_wp2
      go_ret2
      obtain ⟨A', c', e', hr⟩ := hf.out
      exact ⟨A', c', by rw [← e']; rfl, hr, hnx'⟩
end Go.Proofs.Ytmdambfapephpaa
