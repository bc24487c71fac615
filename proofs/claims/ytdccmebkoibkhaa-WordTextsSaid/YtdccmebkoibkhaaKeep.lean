/- Contracts of keep, Intersect and Minus: they return, in new memory, the elements of the first list that the second one has, or does not have; nothing that was there changes. -/
import Derived.Test.YtdccmebkoibkhaaSearch
namespace Go.Proofs.Ytdccmebkoibkhaa
open Go.RowKit

theorem info_int : (Try.prog.info? 3).map (fun i => (i.zero, i.size, i.bytes)) = some (some (.int .i64 0), 1, 8) := by kernel_rfl

/-- The slice value owns, among the blocks from base on, these ints. -/
abbrev Own (w : World) (base : Nat) (v : Value) (zs : List Int) : Prop := w.ownsRow base 3 1 v zs.length (zs.map (Value.int .i64))

theorem filter_take_yes {p : Int → Bool} {zs : List Int} {k : Nat} (h : k < zs.length) (hp : p (zs.getD k 0) = true) : (zs.take (k + 1)).filter p = (zs.take k).filter p ++ [zs.getD k 0] := by
  rw [List.take_succ_eq_append_getElem h, List.filter_append]
  have e : zs.getD k 0 = zs[k] := by simp [List.getD, List.getElem?_eq_getElem h]
  rw [e] at hp ⊢
  simp [hp]
theorem filter_take_no {p : Int → Bool} {zs : List Int} {k : Nat} (h : k < zs.length) (hp : p (zs.getD k 0) = false) : (zs.take (k + 1)).filter p = (zs.take k).filter p := by
  rw [List.take_succ_eq_append_getElem h, List.filter_append]
  have e : zs.getD k 0 = zs[k] := by simp [List.getD, List.getElem?_eq_getElem h]
  rw [e] at hp
  simp [hp]
theorem filter_take_le (p : Int → Bool) (zs : List Int) (k : Nat) : ((zs.take k).filter p).length ≤ k := Nat.le_trans (List.length_filter_le _ _) (List.length_take_le _ _)
theorem filter_take_all {p : Int → Bool} {zs : List Int} {k : Nat} (h : zs.length = k) : (zs.take k).filter p = zs.filter p := by
  rw [List.take_of_length_le (by omega)]
/-- What an append of one number, which first lies in a new block, leaves. -/
theorem own_app {B : Nat} {K K' : List Int} {x : Int} {w wr w1 : World} {u v' : Value} {o : Obj} (hK : K' = K ++ [x]) (hnx : Below B w wr) (hown : Own wr B u K)
    (hown' : w1.ownsRow B 3 1 v' (K.length + 1) (K.map (Value.int .i64) ++ [.int .i64 x])) (hgrow : (wr.alloc o).grownBy w1 u.ownBlock) (hB : B ≤ w.heap.size) : Own w1 B v' K' ∧ Below B w w1 := by
  subst hK
  have := hnx.size
  exact ⟨by simpa [Own] using hown', (hnx.alloc (by omega) o).grown hgrow (by simp; omega) (fun j hj => by have := (hown.lt j hj).1; omega)⟩
theorem own_one {w : World} {x : Int} : ∀ j u, [Value.int .i64 x][j]? = some u → (w.alloc (.cells #[.int .i64 x] 3)).cell? ((⟨w.heap.size, 0, none⟩ : Addr).add j) = some u := by
  intro j u hj
  match j, hj with
  | 0, hj => simp at hj; subst hj; simp [Addr.add]

set_option maxHeartbeats 1600000 in
theorem keep_any (F : FuncId) (cp : Value) (p : Int → Bool) (S : World → Prop) (A : Option Addr) (n c : Nat) (zs : List Int) (w : World) (hx : RdI w w.heap.size A zs) (hn : zs.length = n) (hb : n * 8 ≤ 140737488351232)
    (hS : S w) (hSB : ∀ W W', S W → Below w.heap.size W W' → S W')
    (hcf : ∀ args W, (callFunc F args).run Try.prog W = .ok (.enter F args) W)
    (hF : ∀ x W, S W → Calls Try.prog F #[.int .i64 x, cp] W fun e w' => e = .returned (.bool (p x)) ∧ W = w') :
    Calls Try.prog 69 #[.slice A n c, .func (.func F) #[] #[cp]] w fun e w' => ∃ v, e = .returned v ∧ Own w' w.heap.size v (zs.filter p) ∧ Below w.heap.size w w' := by
  obtain ⟨i0, hi, hz0, hz1, hz2⟩ := info_parts info_int
  have HN := Lib.hid hn
  have HF := Lib.hid hF
  have HSB := Lib.hid hSB
  clear hn hF hSB
  obtain ⟨B, hB⟩ : ∃ B, B = w.heap.size := ⟨_, rfl⟩
  rw [← hB] at hx HSB
  rw [← hB]
  have HB := Lib.hid hB
  have hBw : B ≤ w.heap.size := by omega
  clear hB
  go_enter Try.func69, Try.ntmps69
  go_wp2
  go_loopw [5, 10] (fun v i wr => ∃ k : Nat, k ≤ n ∧ i = .int .i64 k ∧ Hid (Own wr B v ((zs.take k).filter p)) ∧ Below B w wr ∧ Hid (S wr)) (fun _ i _ => n - (intOf i).toNat)
  case atStart => exact ⟨0, Nat.zero_le _, rfl, World.ownsRow_nil _ _ _ _, Below.refl _ _, hS⟩
  case round =>
    obtain ⟨k, hk, rfl, hown, hnx, hSr⟩ := hrel
    by_cases hlt : k < n
    · obtain ⟨b1, o1, rfl, hbB, hc1⟩ := hx (by rw [HN.out]; omega)
      have hz : k < zs.length := by rw [HN.out]; exact hlt
      obtain ⟨x, hxe⟩ : ∃ x, x = zs.getD k 0 := ⟨_, rfl⟩
      have hc : wr.cell? ⟨b1, o1 + k, none⟩ = some (.int .i64 x) := by rw [hxe]; exact (hnx.cell (by exact hbB)).trans (hc1 k hz)
      have HX := Lib.hid hxe
      clear hc1 hxe
      cases hp : p x
      · have hN := Lib.hid (filter_take_no (p := p) hz (by rw [← HX.out]; exact hp))
        clear hz
        go_wp2_with ((with_reducible refine (HF.out _ _ hSr.out).mono ?_); rintro e w' ⟨rfl, rfl⟩)
        go_roundw
        case rel => exact ⟨k + 1, by omega, by go_num, by rw [hN.out]; exact hown, hnx, hSr⟩
        case measure => simp [intOf]; omega
      · have hY := Lib.hid (filter_take_yes (p := p) hz (by rw [← HX.out]; exact hp))
        have hlen := filter_take_le p zs k
        clear hz
        go_wp2_with (first
          | ((with_reducible refine (HF.out _ _ hSr.out).mono ?_); rintro e w' ⟨rfl, rfl⟩)
          | (at_builtin; refine wpList_append_own _ rfl _ _ 22 rfl B 3 i0 (.int .i64 0) 1 8 Try.underlying22 hi hz0 hz1 hz2 rfl (by decide) _ _ _ rfl (hown.out.alloc _) ⟨wr.heap.size, 0, none⟩ 1 1 [.int .i64 x] rfl rfl ?c1 ?c2 ?c3 ?c4 ?c5 ?_))
        case c1 => exact own_one
        case c2 => intro u hu; simp at hu; subst hu; rfl
        case c3 => unfold maxLen; omega
        case c4 => omega
        case c5 => have := hnx.size; simp; omega
        intro v' w1 hown' hgrow _
        have R := own_app (hY.out.trans (by rw [← HX.out])) hnx hown.out hown' hgrow hBw
        have R1 := Lib.hid R.1
        have R2 := R.2
        clear R hown' hgrow hY
        have hSn := Lib.hid (HSB.out _ _ hS R2)
        go_wp2
        go_roundw
        case rel => exact ⟨k + 1, by omega, by go_num, R1, R2, hSn⟩
        case measure => simp [intOf]; omega
    · have hkn : k = n := by omega
      have e := Lib.hid (filter_take_all (p := p) (k := k) (by rw [HN.out, hkn]))
      clear hkn
      go_wp2
      go_ret
      exact ⟨_, rfl, by rw [← e.out]; exact hown.out, hnx⟩

/-- Captured: the slice b lies in a cell of a block of its own. -/
theorem interFn_any (bb : Nat) (A : Option Addr) (n c Bx : Nat) (ys : List Int) (x : Int) (w : World) (hcell : w.cell? ⟨bb, 0, none⟩ = some (.slice A n c)) (hx : RdI w Bx A ys) (hn : ys.length = n) (hb : n ≤ 140737488355328) (hup : Up ys) :
    Calls Try.prog 70 #[.int .i64 x, .pointer (some ⟨bb, 0, none⟩)] w fun e w' => e = .returned (.bool (decide (x ∈ ys))) ∧ w = w' := by
  have H := Lib.hid (aContains_any A n c Bx ys x w hx hn hb hup)
  clear hn hup hx
  go_enter Try.func70, Try.ntmps70
  go_wp2_with (go_at_call 49; refine H.out.mono ?_; rintro e w' ⟨rfl, rfl⟩)
  go_ret
  exact ⟨rfl, rfl⟩
theorem callInterFn (args : Array Value) (W : World) : (callFunc 70 args).run Try.prog W = .ok (.enter 70 args) W := by
  go_simp

theorem own_rd {w : World} {base : Nat} {v : Value} {zs : List Int} (h : Own w base v zs) : ∃ A c, v = .slice A zs.length c ∧ RdI w w.heap.size A zs := by
  rcases h.2 with ⟨rfl, h0⟩ | ⟨g, cap, cur, rfl, hg, hh, hn, hcap, hsz, htake⟩
  · rw [h0]; exact ⟨none, 0, rfl, fun h => by omega⟩
  · refine ⟨some ⟨g, 0, none⟩, cap, rfl, fun _ => ⟨g, 0, rfl, (h.lt g rfl).2, fun j hj => ?_⟩⟩
    rw [Nat.zero_add, World.ownsRow.cellAt (cap := cap) h j (by omega), List.getElem?_map, List.getElem?_eq_getElem hj]
    simp [List.getD, List.getElem?_eq_getElem hj]

/-- What a function hands back that makes a list of ints in new memory. -/
def Gives (w : World) (zs : List Int) (e : Ending) (w' : World) : Prop := ∃ A c, e = .returned (.slice A zs.length c) ∧ RdI w' w'.heap.size A zs ∧ Below w.heap.size w w'

theorem aIntersect_any (A Bd : Option Addr) (n c m d : Nat) (xs ys : List Int) (w : World) (hx : RdI w w.heap.size A xs) (hy : RdI w w.heap.size Bd ys) (hn : xs.length = n) (hm : ys.length = m) (hb : n * 8 ≤ 140737488351232) (hb' : m * 8 ≤ 140737488351232) (hup : Up ys) :
    Calls Try.prog 57 #[.slice A n c, .slice Bd m d] w fun e w' => Gives w (xs.filter fun x => decide (x ∈ ys)) e w' := by
  have hmf : ∀ (fn : Fn) (first cap : Array Value) (w : World), (Instr.makeFunc fn first cap).run Try.prog w = .ok (.func fn first cap) w := fun _ _ _ _ => rfl
  have hB1 : Below w.heap.size w (w.alloc (.cells #[.slice Bd m d] 22)) := (Below.refl _ _).alloc (Nat.le_refl _) _
  have hC1 : (w.alloc (.cells #[.slice Bd m d] 22)).cell? ⟨w.heap.size, 0, none⟩ = some (.slice Bd m d) := by
    rw [World.cell?_alloc_at _ _ _ _ rfl]; rfl
  have H := Lib.hid (keep_any 70 (.pointer (some ⟨w.heap.size, 0, none⟩)) (fun x => decide (x ∈ ys)) (fun W => W.cell? ⟨w.heap.size, 0, none⟩ = some (.slice Bd m d) ∧ RdI W w.heap.size Bd ys) A n c xs (w.alloc (.cells #[.slice Bd m d] 22))
    ((hx.below hB1 (Nat.le_refl _)).more (by simp)) hn hb ⟨hC1, hy.below hB1 (Nat.le_refl _)⟩ (fun W W' hW hbel => ⟨(hbel.cell (by simp)).trans hW.1, hW.2.below hbel (by simp)⟩) callInterFn
    (fun x W hW => interFn_any w.heap.size Bd m d w.heap.size ys x W hW.1 hW.2 hm (by omega) hup))
  have HB1 := Lib.hid hB1
  clear hn hm hup hx hy hB1 hC1
  go_enter Try.func57, Try.ntmps57
  go_wp2_with (go_at_call 69; refine H.out.mono ?_; rintro e w' ⟨v, rfl, hown, hbel⟩)
  have hf := own_rd hown
  have hbel' := HB1.out.trans (hbel.mono (by simp))
  clear hown hbel
  obtain ⟨A', c', rfl, hrd⟩ := hf
  go_ret
  exact ⟨A', c', rfl, hrd, hbel'⟩
end Go.Proofs.Ytdccmebkoibkhaa
