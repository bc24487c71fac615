/- Layer 3: Empty of the reference. -/
import Derived.Test.YtcciiikaejjooaaaRFnd
import Derived.Test.YtcciiikaejjooaaaLang
import Derived.Test.YtcciiikaejjooaaaWl
namespace Go.Proofs.Ytcciiikaejjooaa
open Go.RowKit Go.Sort

theorem own_off4 {X base N : Nat} {v v0 v1 v2 v3 : Value} {w3 : World} {e : TypeId} {sz : Nat} {xs : List Value} (h : w3.ownsRow base e sz v N xs) (hr : v.ownBlock ≠ some X) :
    ((((w3.setCell ⟨X, 0, none⟩ v0).setCell ⟨X, 1, none⟩ v1).setCell ⟨X, 2, none⟩ v2).setCell ⟨X, 3, none⟩ v3).ownsRow base e sz v N xs :=
  ownsRow_setCell_other (a := ⟨X, 3, none⟩) (ownsRow_setCell_other (a := ⟨X, 2, none⟩) (ownsRow_setCell_other (a := ⟨X, 1, none⟩) (ownsRow_setCell_other (a := ⟨X, 0, none⟩) h hr v0) hr v1) hr v2) hr v3

set_option maxHeartbeats 2000000 in
set_option maxRecDepth 100000 in
theorem rEmpty_any (A : Option Addr) (n c B : Nat) (zs : List Int) (w : World) (hx : RdI w B A zs) (hB : B ≤ w.heap.size) (hn : zs.length = n) (hb : n ≤ 100000) :
    Calls Try.prog 66 #[.slice A n c] w fun e w' => ∃ A' c', e = .returned (.agg #[.slice A' n c', .int .i64 0, .slice none 0 0, .slice none 0 0]) ∧ Own w' w.heap.size (.slice A' n c') zs ∧ Below w.heap.size w w' ∧ n ≤ c' ∧ c' ≤ 9223372036854775807 := by
  have HN := Lib.hid hn
  have hRes := Lib.hid ((Row.new w [.slice none 0 0, .int .i64 0, .slice none 0 0, .slice none 0 0] 25).alloc (.cells #[] 3))
  have HB2 := Lib.hid (((Below.refl w.heap.size w).alloc (Nat.le_refl _) (.cells #[.slice none 0 0, .int .i64 0, .slice none 0 0, .slice none 0 0] 25)).alloc (by simp) (.cells #[] 3))
  have HX := Lib.hid (hx.below HB2.out hB)
  have HO := Lib.hid (show ((w.alloc (.cells #[.slice none 0 0, .int .i64 0, .slice none 0 0, .slice none 0 0] 25)).alloc (.cells #[] 3)).ownsRow (w.heap.size + 1) 3 1 (.slice (some ⟨w.heap.size + 1, 0, none⟩) 0 0) 0 (([] : List Int).map (Value.int .i64)) by
    have := World.ownsRow_lit (base := w.heap.size + 1) (size := 1) (e := 3) (w.alloc (.cells #[.slice none 0 0, .int .i64 0, .slice none 0 0, .slice none 0 0] 25)) #[] 0 (by simp) (by unfold maxLen; omega) rfl
    simpa using this)
  clear hx hn
  go_enter Try.func66, Try.ntmps66
  go_wp2_with (at_builtin; refine wpList_app_rd rfl (.tmp 3) (.tmp 4) rfl (w.heap.size + 1) _ 0 [] rfl HO.out B A n c zs rfl HX.out HN.out (by unfold maxLen; omega) (by omega) (by simp) ?_)
  intro v1 w1 hown hgrow
  have hown1 : Own w1 (w.heap.size + 1) v1 zs := by unfold Own; rw [HN.out]; simpa using hown
  obtain ⟨A', c', hv, _, hc1, hc2⟩ := own_rdc hown1
  rw [HN.out] at hv hc1
  subst hv
  have hr1 := Lib.hid (hRes.out.grown hgrow (by simp [Value.ownBlock]))
  have hb1 := Lib.hid (HB2.out.grown hgrow (by simp; omega) (fun k hk => by simp [Value.ownBlock] at hk; omega))
  have HO1 := Lib.hid hown1
  have r0 := hr1.out.cell 0 rfl
  have r1 := hr1.out.cell 1 rfl
  have r2 := hr1.out.cell 2 rfl
  have r3 := hr1.out.cell 3 rfl
  have z0 := hr1.out.frozen 0
  have z1 := hr1.out.frozen 1
  have z2 := hr1.out.frozen 2
  have z3 := hr1.out.frozen 3
  clear hown hown1 hgrow
  go_wp2_with fail
  (try simp only [Exit.inBlock, Exit.then])
  refine bodyPost_ret (v := .agg #[.slice A' n c', .int .i64 0, .slice none 0 0, .slice none 0 0]) ?_ rfl ⟨A', c', rfl, ?_, ?_, hc1, hc2⟩
  · rw [results_cell1 rfl]
    go_simp
  · exact own_more (own_off4 (X := w.heap.size) HO1.out (fun e => by have := (HO1.out.lt _ e).1; omega)) (by omega)
  · exact below_set4 hb1.out (Nat.le_refl _) _ _ _ _
end Go.Proofs.Ytcciiikaejjooaa
