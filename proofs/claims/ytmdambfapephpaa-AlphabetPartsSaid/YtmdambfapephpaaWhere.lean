/- The contracts of where, of the tests of kinds, and of Select and Faults: the indices of the events of a kind or of a class. -/
import Derived.Test.YtmdambfapephpaaCheck
import Derived.Test.YtmdambfapephpaaKeep
namespace Go.Proofs.Ytmdambfapephpaa
open Go.RowKit Go.WideMaps Go.Maps

def evV (x : Ev) : Value := .agg #[.string x.name, .bool x.con, .bool x.obs, .bool x.frc, .int .i64 x.fault]
/-- The indices, from i on, of the events for which p holds. -/
def whFrom (p : Ev → Bool) : Nat → List Ev → List Int
  | _, [] => []
  | i, x :: r => if p x = true then (i : Int) :: whFrom p (i + 1) r else whFrom p (i + 1) r
def wh (p : Ev → Bool) (l : List Ev) : List Int := whFrom p 0 l
theorem whFrom_snoc (p : Ev → Bool) (x : Ev) : ∀ (l : List Ev) (i : Nat), whFrom p i (l ++ [x]) = whFrom p i l ++ (if p x = true then [((i + l.length : Nat) : Int)] else [])
  | [], i => by by_cases h : p x = true <;> simp [whFrom, h]
  | y :: r, i => by
    have ih := whFrom_snoc p x r (i + 1)
    have e : i + 1 + r.length = i + (y :: r).length := by simp; omega
    rw [e] at ih
    by_cases h : p y = true
    · simp only [List.cons_append, whFrom, if_pos h, ih]
    · simp only [List.cons_append, whFrom, if_neg h, ih]
theorem wh_yes {p : Ev → Bool} {l : List Ev} {k : Nat} {x : Ev} (h : l[k]? = some x) (hp : p x = true) : wh p (l.take (k + 1)) = wh p (l.take k) ++ [(k : Int)] := by
  have hk := (List.getElem?_eq_some_iff.1 h).1
  rw [take_snoc_ev h, wh, whFrom_snoc, if_pos hp, take_len (by omega)]; simp [wh]
theorem wh_no {p : Ev → Bool} {l : List Ev} {k : Nat} {x : Ev} (h : l[k]? = some x) (hp : p x = false) : wh p (l.take (k + 1)) = wh p (l.take k) := by
  rw [take_snoc_ev h, wh, whFrom_snoc, if_neg (by simp [hp])]; simp [wh]
theorem whFrom_le (p : Ev → Bool) : ∀ (l : List Ev) (i : Nat), (whFrom p i l).length ≤ l.length
  | [], _ => by simp [whFrom]
  | y :: r, i => by
    have ih := whFrom_le p r (i + 1)
    by_cases h : p y = true
    · simp only [whFrom, if_pos h, List.length_cons]; omega
    · simp only [whFrom, if_neg h, List.length_cons]; omega
theorem wh_le (p : Ev → Bool) (l : List Ev) (k : Nat) : (wh p (l.take k)).length ≤ k := Nat.le_trans (whFrom_le p _ 0) (List.length_take_le _ _)
theorem wh_all {p : Ev → Bool} {l : List Ev} {n : Nat} (h : l.length = n) : wh p (l.take n) = wh p l := by rw [List.take_of_length_le (by omega)]

theorem own_kept {w w' : World} {B : Nat} {v : Value} {zs : List Int} (h : Own w B v zs) (hb : Below w.heap.size w w') : Own w' B v zs :=
  World.ownsRow.kept (row := none) h ⟨hb.os, hb.tape, hb.output, hb.size, fun i hi _ => hb.block i hi⟩ (Classical.em _)

set_option maxHeartbeats 1600000 in
theorem where_any (F : FuncId) (caps : Array Value) (p : Ev → Bool) (S : World → Prop) (A : Option Addr) (n c : Nat) (l : List Ev) (w : World) (hx : RdE w w.heap.size A l) (hn : l.length = n) (hb : n * 40 ≤ 140737488351232)
    (hS : S w) (hSB : ∀ W W', S W → Below w.heap.size W W' → S W')
    (hcf : ∀ args W, (callFunc F args).run Try.prog W = .ok (.enter F args) W)
    (hF : ∀ x W, S W → Calls Try.prog F (#[evV x] ++ caps) W fun e w' => e = .returned (.bool (p x)) ∧ Below W.heap.size W w') :
    Calls Try.prog 53 #[.slice A n c, .func (.func F) #[] caps] w fun e w' => Gives w (wh p l) e w' := by
  obtain ⟨i0, hi, hz0, hz1, hz2⟩ := info_parts info_int
  have HN := Lib.hid hn
  have HF := Lib.hid (fun nm cn ob fr fl W => hF ⟨nm, cn, ob, fr, fl⟩ W)
  have HSB := Lib.hid hSB
  simp only [evV] at HF
  clear hn hF hSB
  obtain ⟨B, hB⟩ : ∃ B, B = w.heap.size := ⟨_, rfl⟩
  rw [← hB] at hx HSB
  have HB := Lib.hid hB
  have hBw : B ≤ w.heap.size := by omega
  clear hB
  go_enter Try.func53, Try.ntmps53
  go_wp2
  go_loopw [5, 10] (fun v i wr => ∃ k : Nat, k ≤ n ∧ i = .int .i64 k ∧ Hid (Own wr B v (wh p (l.take k))) ∧ Below B w wr ∧ Hid (S wr)) (fun _ i _ => n - (intOf i).toNat)
  case atStart => exact ⟨0, Nat.zero_le _, rfl, World.ownsRow_nil _ _ _ _, Below.refl _ _, hS⟩
  case round =>
    obtain ⟨k, hk, rfl, hown, hnx, hSr⟩ := hrel
    by_cases hlt : k < n
    · obtain ⟨b1, o1, rfl, hbB, hc1⟩ := hx (by rw [HN.out]; omega)
      have hz : k < l.length := by rw [HN.out]; exact hlt
      obtain ⟨x, hxe⟩ : ∃ x, l[k]? = some x := ⟨_, List.getElem?_eq_getElem hz⟩
      have hc := hc1 k x hxe
      clear hc1 hx
      have HX := Lib.hid hxe
      clear hxe
      obtain ⟨nm, cn, ob, fr, fl⟩ := x
      obtain ⟨g1, g2, g3, g4, g5⟩ : EvAt wr b1 (o1 + k * 5) ⟨nm, cn, ob, fr, fl⟩ := hc.keep fun o => hnx.cell hbB
      clear hc
      dsimp only at g1 g2 g3 g4 g5
      have hSw := Lib.hid (fun o => HSB.out wr (wr.alloc o) hSr.out ((Below.refl _ _).alloc (Nat.le_trans hBw (by have := hnx.size; omega)) o))
      have hsz := hnx.size
      cases hp : p ⟨nm, cn, ob, fr, fl⟩
      · have hN := Lib.hid (wh_no HX.out hp)
        clear hz
        go_wp2_with ((with_reducible refine (HF.out _ _ _ _ _ _ (hSw.out _)).mono ?_); rintro e w' ⟨rfl, hbel⟩)
        have r1 : Below B w w' := (hnx.alloc (by omega) _).trans (hbel.mono (by simp; omega))
        have r2 : Own w' B u5 (wh p (l.take (k + 1))) := by rw [hN.out]; exact own_kept (hown.out.alloc _) hbel
        have r3 : S w' := HSB.out _ _ (hSw.out _) (hbel.mono (by simp; omega))
        exact ⟨⟨k + 1, by omega, by go_num, r2, r1, r3⟩, by simp [intOf]; omega⟩
      · have hY := Lib.hid (wh_yes HX.out hp)
        have hlen := wh_le p l k
        clear hz
        go_wp2_with (first
          | ((with_reducible refine (HF.out _ _ _ _ _ _ (hSw.out _)).mono ?_); rintro e w' ⟨rfl, hbel⟩; have hown2 := Lib.hid (own_kept (hown.out.alloc _) hbel))
          | (at_builtin; refine wpList_append_own _ rfl _ _ 37 rfl B 3 i0 (.int .i64 0) 1 8 Try.underlying37 hi hz0 hz1 hz2 rfl (by decide) _ _ _ rfl (hown2.out.alloc _) ⟨w'.heap.size, 0, none⟩ 1 1 [.int .i64 k] rfl rfl ?c1 ?c2 ?c3 ?c4 ?c5 ?_))
        case c1 => exact own_one
        case c2 => intro u hu; simp at hu; subst hu; rfl
        case c3 => unfold maxLen; omega
        case c4 => omega
        case c5 => have := hbel.size; simp at this; simp; omega
        intro v' w1 hown' hgrow _
        have r1 : Below B w w' := (hnx.alloc (by omega) _).trans (hbel.mono (by simp; omega))
        have r3 : S w' := HSB.out _ _ (hSw.out _) (hbel.mono (by simp; omega))
        have R := own_app hY.out r1 hown2.out hown' hgrow hBw
        have R1 := Lib.hid R.1
        have R2 := R.2
        have hSn := Lib.hid (HSB.out _ _ hS (R2.mono (by omega)))
        clear R hown' hgrow hY r1 r3
        go_wp2
        go_roundw
        case rel => exact ⟨k + 1, by omega, by go_num, R1, R2, hSn⟩
        case measure => simp [intOf]; omega
    · have hkn : k = n := by omega
      have e := Lib.hid (wh_all (p := p) HN.out)
      rw [hkn] at hown
      rw [e.out] at hown
      have hf := Lib.hid (own_rd hown.out)
      have hnx' : Below w.heap.size w wr := by rw [← HB.out]; exact hnx
      clear hkn hown
      go_wp2
      go_ret
      obtain ⟨A', c', e', hr⟩ := hf.out
      exact ⟨A', c', by rw [← e']; rfl, hr, hnx'⟩
end Go.Proofs.Ytmdambfapephpaa
