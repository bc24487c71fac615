/- The contract of the examples of layer 1: they hold, and nothing that was there changes. -/
import Derived.Test.YtmdambfapephpaaSelect
import Derived.Test.YtmdambfapephpaaMask
namespace Go.Proofs.Ytmdambfapephpaa
open Go.RowKit Go.WideMaps Go.Maps

def exEv : List Ev := [⟨⟨#[115, 116, 97, 114, 116]⟩, true, true, false, 0⟩, ⟨⟨#[102, 105, 110, 105, 115, 104]⟩, false, true, false, 0⟩, ⟨⟨#[98, 114, 101, 97, 107]⟩, false, false, false, 1⟩]

theorem example_any (w : World) : Calls Try.prog 40 #[] w fun e w' => ∃ A c, e = .returned (.slice A 3 c) ∧ RdE w' w'.heap.size A exEv ∧ Below w.heap.size w w' := by
  go_enter Try.func40, Try.ntmps40
  go_wp2
  go_ret
  refine ⟨_, _, rfl, fun _ => ⟨_, _, rfl, by simp, fun j x hj => ?_⟩, (Below.refl _ _).alloc (Nat.le_refl _) _⟩
  obtain rfl | rfl | rfl | hj' : j = 0 ∨ j = 1 ∨ j = 2 ∨ 3 ≤ j := by omega
  · simp [exEv] at hj; subst hj; refine ⟨?_, ?_, ?_, ?_, ?_⟩ <;> (rw [World.cell?_alloc_at _ _ _ _ rfl]; rfl)
  · simp [exEv] at hj; subst hj; refine ⟨?_, ?_, ?_, ?_, ?_⟩ <;> (rw [World.cell?_alloc_at _ _ _ _ rfl]; rfl)
  · simp [exEv] at hj; subst hj; refine ⟨?_, ?_, ?_, ?_, ?_⟩ <;> (rw [World.cell?_alloc_at _ _ _ _ rfl]; rfl)
  · rw [List.getElem?_eq_none (by simp [exEv]; omega)] at hj; cases hj
theorem ex_sel2 : selZ exEv 2 = [1, 2] ∧ selE exEv 2 = 0 := by decide +kernel
theorem ex_sel6 : selZ exEv 6 = [2] ∧ selE exEv 6 = 0 := by decide +kernel
theorem ex_mask : csE 32 [0, 2] = 0 ∧ maskZ [0, 2] = 5 := by decide +kernel
theorem ex_name : nameB (⟨#[95, 98]⟩ : ByteArray).data.toList = true ∧ nameB (⟨#[49, 97]⟩ : ByteArray).data.toList = false := by decide +kernel
theorem ex_minus : ([0, 2, 5] : List Int).filter (fun x => !decide (x ∈ ([2, 3] : List Int))) = [0, 5] := by decide +kernel

theorem rdI_lit (w : World) (cs : Array Value) (zs : List Int) (h : cs.toList = zs.map (Value.int .i64)) : RdI (w.alloc (.cells cs 3)) (w.heap.size + 1) (some ⟨w.heap.size, 0, none⟩) zs := fun _ =>
  ⟨_, _, rfl, by omega, fun j hj => by
    rw [World.cell?_alloc_at _ _ _ _ rfl]
    have e : cs[0 + j]? = cs.toList[j]? := by rw [Nat.zero_add, Array.getElem?_toList]
    simp only [e, h, List.getElem?_map, List.getElem?_eq_getElem hj, Option.map_some]
    simp [List.getD, List.getElem?_eq_getElem hj]⟩
theorem rdI_lit' (w : World) (g : Nat) (hg : g = w.heap.size) (cs : Array Value) (zs : List Int) (h : cs.toList = zs.map (Value.int .i64)) : RdI (w.alloc (.cells cs 3)) (g + 1) (some ⟨g, 0, none⟩) zs := by
  subst hg; exact rdI_lit w cs zs h
theorem below_new (w : World) (o : Obj) : Below w.heap.size w (w.alloc o) := (Below.refl _ _).alloc (Nat.le_refl _) o
theorem up23 : Up [2, 3] := by
  intro s t h1 h2
  have ht : t < 2 := h2
  obtain ⟨rfl, rfl⟩ : s = 0 ∧ t = 1 := by omega
  decide
theorem exEv_small : ∀ x ∈ exEv, x.name.size ≤ maxLen := by
  intro x hx
  simp only [exEv, List.mem_cons, List.mem_nil_iff, or_false] at hx
  rcases hx with rfl | rfl | rfl <;> (unfold maxLen; decide)

theorem same_yes (A B : Option Addr) (n m c d Bx By : Nat) (xs ys : List Int) (w : World) (hx : RdI w Bx A xs) (hy : RdI w By B ys) (hn : xs.length = n) (hm : ys.length = m) (hb : n ≤ 140737488355328) (hb' : m ≤ 140737488355328) (he : xs = ys) :
    Calls Try.prog 25 #[.slice A n c, .slice B m d] w fun e w' => e = .returned (.bool true) ∧ Below w.heap.size w w' :=
  (same_any A B n m c d Bx By xs ys w hx hy hn hm hb hb').mono fun _ _ ⟨h1, h2⟩ => ⟨by rw [h1, he]; simp, below_of_draws h2⟩

set_option maxHeartbeats 1600000 in
theorem known_any (w : World) : Calls Try.prog 12 #[] w fun e w' => e = .returned (.bool true) ∧ Below w.heap.size w w' := by
  have HE := Lib.hid example_any
  have HS := Lib.hid (fun A c w1 (h : RdE w1 w1.heap.size A exEv) kind => aSelect_any A 3 c exEv kind w1 h rfl (by omega) exEv_small)
  go_enter Try.func12, Try.ntmps12
  go_wp2_with fail
  refine (HE.out _).mono ?_
  rintro e w1 ⟨A1, c1, rfl, hr1, hb1⟩
  go_wp2_with fail
  refine (HS.out _ _ _ hr1 2).mono ?_
  rw [ex_sel2.1, ex_sel2.2]
  rintro e w2 ⟨A2, c2, rfl, hr2, hb2⟩
  have hb2' := hb1.trans (hb2.mono hb1.size)
  clear hr1
  go_wp2_with fail
  refine (HE.out _).mono ?_
  rintro e w3 ⟨A3, c3, rfl, hr3, hb3⟩
  go_wp2_with fail
  refine (HS.out _ _ _ hr3 6).mono ?_
  rw [ex_sel6.1, ex_sel6.2]
  rintro e w4 ⟨A4, c4, rfl, hr4, hb4⟩
  have hb24 : Below w2.heap.size w2 w4 := hb3.trans (hb4.mono hb3.size)
  have hr2' := hr2.below hb24 (Nat.le_refl _)
  have hb4' := hb2'.trans (hb24.mono hb2'.size)
  clear hr3 hr2 hb1 hb2 hb3 hb4
  have hb5 : ∀ o, Below w4.heap.size w4 (w4.alloc o) := fun o => (Below.refl _ _).alloc (Nat.le_refl _) o
  have HB5 := Lib.hid hb5
  clear hb5
  have HM := Lib.hid (aMask_ok (some ⟨w4.heap.size, 0, none⟩) 2 2 (w4.heap.size + 1) [0, 2] _ (rdI_lit w4 #[.int .i64 0, .int .i64 2] [0, 2] rfl) rfl (by omega) ex_mask.1 (fun t ht => by
    have : t = 0 ∨ t = 1 := by simp at ht; omega
    rcases this with rfl | rfl <;> decide))
  rw [ex_mask.2] at HM
  go_wp2_with fail
  refine HM.out.mono ?_
  rintro e w5 ⟨rfl, rfl⟩
  clear HM
  have hl2 := rdI_lit' (w4.alloc (.cells #[.int .i64 0, .int .i64 2] 3)) (w4.heap.size + 1) (by simp) #[.int .i64 1, .int .i64 2] [1, 2] rfl
  have hb45 := Lib.hid ((HB5.out (.cells #[.int .i64 0, .int .i64 2] 3)).alloc (by simp) (.cells #[.int .i64 1, .int .i64 2] 3))
  have HM := Lib.hid (same_yes A2 (some ⟨w4.heap.size + 1, 0, none⟩) 2 2 c2 2 w2.heap.size _ [1, 2] [1, 2] _ (hr2'.below hb45.out hb24.size) hl2 rfl rfl (by omega) (by omega) rfl)
  clear hl2
  go_wp2_with fail
  refine HM.out.mono ?_
  rintro e w6 ⟨rfl, hb6⟩
  have hb46 : Below w4.heap.size w4 w6 := hb45.out.trans (hb6.mono (by simp; omega))
  clear HM hb6 hb45 hr2'
  have hl2 := rdI_lit w6 #[.int .i64 2] [2] rfl
  have HM := Lib.hid (same_yes A4 (some ⟨w6.heap.size, 0, none⟩) 1 1 c4 1 w4.heap.size _ [2] [2] _ (hr4.below (hb46.trans ((below_new w6 (.cells #[.int .i64 2] 3)).mono hb46.size)) (Nat.le_refl _)) hl2 rfl rfl (by omega) (by omega) rfl)
  clear hl2 hr4
  go_wp2_with fail
  refine HM.out.mono ?_
  rintro e w7 ⟨rfl, hb7⟩
  have hb67 : Below w6.heap.size w6 w7 := (below_new w6 _).trans (hb7.mono (by simp))
  clear HM hb7
  have HM := Lib.hid (aIsName_any ⟨#[95, 98]⟩ w7 (by unfold maxLen; decide))
  rw [ex_name.1] at HM
  go_wp2_with fail
  refine HM.out.mono ?_
  rintro e w8 ⟨rfl, rfl⟩
  clear HM
  have HM := Lib.hid (aIsName_any ⟨#[49, 97]⟩ w7 (by unfold maxLen; decide))
  rw [ex_name.2] at HM
  go_wp2_with fail
  refine HM.out.mono ?_
  rintro e w8 ⟨rfl, rfl⟩
  clear HM
  have hlx := rdI_lit w7 #[.int .i64 0, .int .i64 2, .int .i64 5] [0, 2, 5] rfl
  have hly := rdI_lit' (w7.alloc (.cells #[.int .i64 0, .int .i64 2, .int .i64 5] 3)) (w7.heap.size + 1) (by simp) #[.int .i64 2, .int .i64 3] [2, 3] rfl
  have hlb := Lib.hid ((below_new w7 (.cells #[.int .i64 0, .int .i64 2, .int .i64 5] 3)).alloc (by simp) (.cells #[.int .i64 2, .int .i64 3] 3))
  have HM := Lib.hid (aMinus_any (some ⟨w7.heap.size, 0, none⟩) (some ⟨w7.heap.size + 1, 0, none⟩) 3 3 2 2 [0, 2, 5] [2, 3] _ ((hlx.below (below_new _ (.cells #[.int .i64 2, .int .i64 3] 3)) (by simp)).more (by simp)) (hly.more (by simp)) rfl rfl (by omega) (by omega) up23)
  rw [ex_minus] at HM
  clear hlx hly
  go_wp2_with fail
  refine HM.out.mono ?_
  rintro e w9 ⟨A9, c9, rfl, hr9, hb9⟩
  have hb79 : Below w7.heap.size w7 w9 := hlb.out.trans (hb9.mono (by simp; omega))
  clear HM hb9 hlb
  have hl2 := rdI_lit w9 #[.int .i64 0, .int .i64 5] [0, 5] rfl
  have HM := Lib.hid (same_yes A9 (some ⟨w9.heap.size, 0, none⟩) 2 2 c9 2 w9.heap.size _ [0, 5] [0, 5] _ (hr9.below (below_new w9 (.cells #[.int .i64 0, .int .i64 5] 3)) (Nat.le_refl _)) hl2 rfl rfl (by omega) (by omega) rfl)
  clear hl2 hr9
  go_wp2_with fail
  refine HM.out.mono ?_
  rintro e w10 ⟨rfl, hb10⟩
  have hb910 : Below w9.heap.size w9 w10 := (below_new w9 _).trans (hb10.mono (by simp))
  clear HM hb10
  go_wp2
  go_ret
  have s4 := hb4'.size
  have s6 := hb46.size
  have s7 := hb67.size
  have s9 := hb79.size
  exact ⟨rfl, hb4'.trans ((hb46.mono (by omega)).trans ((hb67.mono (by omega)).trans ((hb79.mono (by omega)).trans (hb910.mono (by omega)))))⟩
end Go.Proofs.Ytmdambfapephpaa
