/- Layer 4: Closed. -/
import Derived.Test.YtceldgcmjmfjfaaZgBi
import Derived.Laws.EntriesVeiled
set_option linter.unusedVariables false
set_option linter.unusedSimpArgs false
set_option linter.unusedSectionVars false
namespace Go.Proofs.Ytceldgcmjmfjfaa
open Go.RowKit Go.Sort Go.Maps

def edV4 (x : Ed) : Value := edL x
theorem efi_yes {p : Ed → Bool} {V : List Ed} {t : Nat} {x : Ed} (hx : V[t]? = some x) (hp : p x = true) : V.any p = true := List.any_eq_true.2 ⟨x, List.mem_of_getElem? hx, hp⟩
set_option maxHeartbeats 4000000 in
set_option maxRecDepth 100000 in
theorem gIdxE_any (A : Option Addr) (L c : Nat) (V : List Ed) (fn : Nat) (caps : Array Value) (p : Ed → Bool) (w : World) (hcf : ∀ args W, (callFunc fn args).run Try.prog W = .ok (.enter fn args) W)
    (hp : ∀ x ∈ V, ∀ W, Below w.heap.size w W → Calls Try.prog fn (#[edL x] ++ caps) W fun e w' => e = .returned (.bool (p x)) ∧ Below W.heap.size W w')
    (hr : RdG w w.heap.size A V) (hl : V.length = L) (hL : L ≤ 1000000) :
    Calls Try.prog 94 #[.slice A L c, .func (.func fn) #[] caps] w fun e w' => ∃ r : Int, e = .returned (.int .i64 r) ∧ (decide (0 ≤ r) = V.any p) ∧ Below w.heap.size w w' := by
  have HR := Lib.hid hr
  have HL := Lib.hid hl
  have HP := Lib.hid hp
  have HB0 := Lib.hid (Below.refl w.heap.size w)
  have HF0 := Lib.hid (show ∀ y ∈ V.take 0, p y = false from fun y hy => by simp at hy)
  obtain ⟨r, hr'⟩ : ∃ r, r = V.any p := ⟨_, rfl⟩
  rw [← hr']
  have HRE := Lib.hid hr'
  clear hr hl hp hr'
  go_enter Try.func94, Try.ntmps94
  go_wp2_with fail
  go_loopw [5, 8] (fun _ iv wr => ∃ t : Nat, t ≤ L ∧ iv = .int .i64 t ∧ Hid (∀ y ∈ V.take t, p y = false) ∧ Hid (Below w.heap.size w wr)) (fun _ iv _ => L - (intOf iv).toNat)
  case atStart => exact ⟨0, Nat.zero_le _, rfl, HF0, HB0⟩
  case round =>
    clear HB0 HF0
    obtain ⟨t, ht, rfl, hf, hbel⟩ := hrel
    by_cases hlt : t < L
    · obtain ⟨b, off, rfl, hb, hvv⟩ := HR.out (by rw [HL.out]; omega)
      obtain ⟨x, hx⟩ : ∃ x, V[t]? = some x := ⟨_, List.getElem?_eq_getElem (by rw [HL.out]; exact hlt)⟩
      obtain ⟨e0, e1, e2⟩ := hvv t x hx
      have d0 := (hbel.out.cell (p := ⟨b, off + t * 3, none⟩) hb).trans e0
      have d1 := (hbel.out.cell (p := ⟨b, off + t * 3 + 1, none⟩) hb).trans e1
      have d2 := (hbel.out.cell (p := ⟨b, off + t * 3 + 2, none⟩) hb).trans e2
      have HC := Lib.hid (HP.out x (List.mem_of_getElem? hx) wr hbel.out)
      obtain ⟨q, hq⟩ : ∃ q, p x = q := ⟨_, rfl⟩
      rw [hq] at HC
      have HQ := Lib.hid hq
      have HXX := Lib.hid hx
      obtain ⟨xs, xd, xe⟩ := x
      simp only at d0 d1 d2
      unfold edL at HC
      simp only at HC
      have z0 : (0 : Int) ≤ (t : Int) := by omega
      have z1 : (t : Int) < (L : Int) := by omega
      clear e0 e1 e2 hvv hx hq
      go_wp2_with fail
      refine HC.out.mono ?_
      rintro e w5 ⟨rfl, hb5⟩
      have HB5 := Lib.hid (hbel.out.trans (hb5.mono hbel.out.size))
      clear hb5 d0 d1 d2
      cases q
      · have HF := Lib.hid (show ∀ y ∈ V.take (t + 1), p y = false from fun y hy => by
          rw [List.take_add_one, HXX.out] at hy
          rcases List.mem_append.1 hy with hy | hy
          · exact hf.out y hy
          · simp at hy; subst hy; exact HQ.out)
        go_wp2_with fail
        go_roundw
        case rel => exact ⟨t + 1, by omega, by go_num, HF, HB5⟩
        case measure => simp [intOf]; omega
      · have HE := Lib.hid (show decide ((0 : Int) ≤ (t : Int)) = r from by rw [HRE.out, efi_yes HXX.out HQ.out]; simp)
        go_wp2_with fail
        go_ret
        exact ⟨(t : Int), rfl, HE.out, HB5.out⟩
    · obtain rfl : L = t := by omega
      have HE := Lib.hid (show decide ((0 : Int) ≤ -1) = r from by
        rw [HRE.out]
        symm
        rw [show decide ((0 : Int) ≤ -1) = false from rfl, List.any_eq_false]
        intro y hy
        rw [hf.out y (by rw [List.take_of_length_le (by rw [HL.out]; exact Nat.le_refl _)]; exact hy)]
        simp)
      go_wp2_with fail
      go_ret
      exact ⟨-1, rfl, HE.out, hbel.out⟩
set_option maxHeartbeats 1000000 in
theorem gConE_any (A : Option Addr) (L c : Nat) (V : List Ed) (fn : Nat) (caps : Array Value) (p : Ed → Bool) (w : World) (hcf : ∀ args W, (callFunc fn args).run Try.prog W = .ok (.enter fn args) W)
    (hp : ∀ x ∈ V, ∀ W, Below w.heap.size w W → Calls Try.prog fn (#[edL x] ++ caps) W fun e w' => e = .returned (.bool (p x)) ∧ Below W.heap.size W w')
    (hr : RdG w w.heap.size A V) (hl : V.length = L) (hL : L ≤ 1000000) :
    Calls Try.prog 72 #[.slice A L c, .func (.func fn) #[] caps] w fun e w' => e = .returned (.bool (V.any p)) ∧ Below w.heap.size w w' := by
  have HI := Lib.hid (gIdxE_any A L c V fn caps p w hcf hp hr hl hL)
  obtain ⟨q, hq⟩ : ∃ q, q = V.any p := ⟨_, rfl⟩
  rw [← hq] at HI ⊢
  clear hp hr hl hq
  go_enter Try.func72, Try.ntmps72
  go_wp2_with fail
  refine HI.out.mono ?_
  rintro e w5 ⟨r, rfl, hr, hb⟩
  have HB := Lib.hid hb
  have HR := Lib.hid hr
  clear hr hb
  go_wp2_with fail
  go_ret
  exact ⟨by rw [← HR.out]; rfl, HB.out⟩
def clE (set ev : List Int) (x : Ed) : Bool := byF ev x && inF set x.f.toNat && !inF set x.t.toNat
theorem cfCl : ∀ args W, (callFunc 71 args).run Try.prog W = .ok (.enter 71 args) W := fun args W => by go_simp
set_option maxHeartbeats 2000000 in
theorem gCl1_any (bf bx bi : Nat) (A : Option Addr) (n c : Nat) (set ev : List Int) (x : Ed) (w : World) (hf : Row w bf 81 [.func (.func 92) #[] #[.pointer (some ⟨bx, 0, none⟩)]]) (h : Row w bx 27 [.slice A n c]) (hi : Row w bi 76 (flV (inF set)))
    (hx : RdI w w.heap.size A ev) (hn : ev.length = n) (hb : n ≤ 100000) (hxr : (0 ≤ x.f ∧ x.f < 4096) ∧ 0 ≤ x.t ∧ x.t < 4096) :
    Calls Try.prog 71 #[edL x, .pointer (some ⟨bf, 0, none⟩), .pointer (some ⟨bi, 0, none⟩)] w fun e w' => e = .returned (.bool (clE set ev x)) ∧ Below w.heap.size w w' := by
  obtain ⟨xf, xe, xt⟩ := x
  simp only at hxr
  obtain ⟨⟨f0, f1⟩, t0, t1⟩ := hxr
  obtain ⟨qf, rfl⟩ : ∃ q : Nat, xf = (q : Int) := ⟨xf.toNat, by omega⟩
  obtain ⟨qt, rfl⟩ : ∃ q : Nat, xt = (q : Int) := ⟨xt.toNat, by omega⟩
  obtain ⟨Wx, hWx⟩ : ∃ W, W = w.alloc (.cells #[.int .i64 (qf : Int), .int .i64 xe, .int .i64 (qt : Int)] 70) := ⟨_, rfl⟩
  obtain ⟨Bx, hBx⟩ : ∃ g, g = w.heap.size := ⟨_, rfl⟩
  have hbw : Below w.heap.size w Wx := by rw [hWx]; exact (Below.refl _ _).alloc (Nat.le_refl _) _
  have HBX := Lib.hid (show Row Wx Bx 70 [.int .i64 (qf : Int), .int .i64 xe, .int .i64 (qt : Int)] from by rw [hWx, hBx]; exact Row.new _ _ _)
  have HFX := hf.below hbw hf.lt
  have hix := hi.below hbw hi.lt
  have c0 := HFX.cell 0 rfl
  have b0 := HBX.out.cell 0 rfl
  have b1 := HBX.out.cell 1 rfl
  have b2 := HBX.out.cell 2 rfl
  have HB := Lib.hid hbw
  have HC := Lib.hid (gBy1_any bx A n c ev ⟨(qf : Int), xe, (qt : Int)⟩ Wx (h.below hbw h.lt) ((hx.below hbw (Nat.le_refl _)).more hbw.size) hn hb)
  obtain ⟨q, hq⟩ : ∃ q, q = byF ev ⟨(qf : Int), xe, (qt : Int)⟩ := ⟨_, rfl⟩
  rw [← hq] at HC
  have HR := Lib.hid (show clE set ev ⟨(qf : Int), xe, (qt : Int)⟩ = (q && inF set qf && !inF set qt) from by unfold clE; rw [← hq]; simp)
  rw [HR.out]
  have HIX := Lib.hid hix
  have HBX9 := HBX
  have HWX := Lib.hid hWx
  have HBXE := Lib.hid hBx
  unfold edL at HC ⊢
  simp only at HC ⊢
  obtain ⟨g1, hg1⟩ : ∃ g, g = inF set qf := ⟨_, rfl⟩
  obtain ⟨g2, hg2⟩ : ∃ g, g = inF set qt := ⟨_, rfl⟩
  rw [← hg1, ← hg2]
  have HG1 := Lib.hid hg1
  have HG2 := Lib.hid hg2
  clear hf h hi hx hn hix HFX hWx hBx hbw hq HR hg1 hg2
  go_enter Try.func71, Try.ntmps71
  go_upto_region 1 with fail
  rw [← HWX.out, ← HBXE.out]
  go_wp2_with fail
  refine HC.out.mono ?_
  rintro e w5 ⟨rfl, hb5⟩
  have HB5 := Lib.hid (HB.out.trans (hb5.mono HB.out.size))
  have b0 := (HBX.out.below hb5 HBX.out.lt).cell 0 rfl
  have b2 := (HBX.out.below hb5 HBX.out.lt).cell 2 rfl
  have hi5 := HIX.out.below hb5 HIX.out.lt
  have c1 := flag_cell hi5 (show qf < 4096 by omega)
  have c2 := flag_cell hi5 (show qt < 4096 by omega)
  rw [← HG1.out] at c1
  rw [← HG2.out] at c2
  have z0 : (0 : Int) ≤ (qf : Int) := by omega
  have z1 : (qf : Int) < 4096 := by omega
  have z2 : (0 : Int) ≤ (qt : Int) := by omega
  have z3 : (qt : Int) < 4096 := by omega
  clear hb5 hi5
  cases q <;> cases g1 <;> cases g2
  all_goals
    go_wp2_with fail
    go_ret
    exact ⟨rfl, HB5.out⟩
end Go.Proofs.Ytceldgcmjmfjfaa
