/- The walk of WordRefuses. -/
import Derived.Test.YtdccmebkoibkhaaWknown
import Derived.Test.YtdccmebkoibkhaaWmatchE
import Derived.Test.YtdccmebkoibkhaaOpenA
namespace Go.Proofs.Ytdccmebkoibkhaa
open Go.RowKit

/-- Two arrays of two slices that lie in blocks of their own. -/
structure Arr22 (w W : World) (p0 p1 q0 q1 : Value) : Prop where
  c0 : W.cell? ⟨w.heap.size, 0, none⟩ = some p0
  c1 : W.cell? ⟨w.heap.size, 1, none⟩ = some p1
  d0 : W.cell? ⟨w.heap.size + 1, 0, none⟩ = some q0
  d1 : W.cell? ⟨w.heap.size + 1, 1, none⟩ = some q1
  below : Below w.heap.size w W
  size : w.heap.size + 2 ≤ W.heap.size
theorem Arr22.start (w W : World) (p0 p1 q0 q1 : Value) (t u : TypeId) (hb : Below ((w.alloc (.cells #[p0, p1] t)).alloc (.cells #[q0, q1] u)).heap.size ((w.alloc (.cells #[p0, p1] t)).alloc (.cells #[q0, q1] u)) W) : Arr22 w W p0 p1 q0 q1 := by
  have h1 : ∀ o, W.cell? ⟨w.heap.size, o, none⟩ = (w.alloc (.cells #[p0, p1] t)).cell? ⟨w.heap.size, o, none⟩ := fun o => by
    rw [hb.cell (by simp; omega), World.cell?_alloc_lt _ _ _ (by simp)]
  have h2 : ∀ o, W.cell? ⟨w.heap.size + 1, o, none⟩ = (#[q0, q1] : Array Value)[o]? := fun o => by
    rw [hb.cell (by simp), World.cell?_alloc_at _ _ _ _ (by simp)]
  have h3 : ∀ o, W.cell? ⟨w.heap.size, o, none⟩ = (#[p0, p1] : Array Value)[o]? := fun o => by
    rw [h1, World.cell?_alloc_at _ _ _ _ rfl]
  refine ⟨h3 0, h3 1, h2 0, h2 1, (((Below.refl w.heap.size w).alloc (Nat.le_refl _) _).alloc (by simp) _).trans (hb.mono (by simp; omega)), by have := hb.size; simp at this; exact this⟩
theorem Arr22.step {w W W' : World} {p0 p1 q0 q1 : Value} (h : Arr22 w W p0 p1 q0 q1) (hb : Below W.heap.size W W') : Arr22 w W' p0 p1 q0 q1 := by
  have hs := h.size
  have hc : ∀ o, W'.cell? ⟨w.heap.size, o, none⟩ = W.cell? ⟨w.heap.size, o, none⟩ := fun o => hb.cell (by simp; omega)
  have hd : ∀ o, W'.cell? ⟨w.heap.size + 1, o, none⟩ = W.cell? ⟨w.heap.size + 1, o, none⟩ := fun o => hb.cell (by simp; omega)
  exact ⟨(hc 0).trans h.c0, (hc 1).trans h.c1, (hd 0).trans h.d0, (hd 1).trans h.d1, h.below.trans (hb.mono (by omega)), Nat.le_trans h.size hb.size⟩

set_option maxHeartbeats 8000000 in
set_option maxRecDepth 100000 in
theorem lawRefuses (p0 p1 q0 q1 : Value) (A B F S : Option Addr) (n1 c1 n3 c3 n2 c2 n4 c4 : Nat) (a b f s : List Int) (w : World) (h1 : SlI w p0 A n1 c1 a) (h2 : SlI w p1 B n3 c3 b) (h3 : SlI w q0 F n2 c2 f) (h4 : SlI w q1 S n4 c4 s) :
    Calls Try.prog 11 #[.agg #[p0, p1], .agg #[q0, q1]] w fun e w' => e = .returned (.bool true) ∧ Below w.heap.size w w' := by
  have HK := Lib.hid known_any
  have H1 := Lib.hid h1
  have H2 := Lib.hid h2
  have H3 := Lib.hid h3
  have H4 := Lib.hid h4
  obtain rfl := h1.eq
  obtain rfl := h2.eq
  obtain rfl := h3.eq
  obtain rfl := h4.eq
  clear h1 h2 h3 h4
  by_cases hg_n1 : 10 < n1
  · have hi_n1 : (10 : Int) < (n1 : Int) := by omega
    go_enter Try.func11, Try.ntmps11
    go_wp2_with fail
    refine (HK.out _).mono ?_
    rintro e w1 ⟨rfl, hb1⟩
    have HA1 := Lib.hid (Arr22.start _ _ _ _ _ _ _ _ hb1)
    clear hb1
    have g0 := HA1.out.c0
    have g1 := HA1.out.c1
    have g2 := HA1.out.d0
    have g3 := HA1.out.d1
    go_wp2_with fail
    refine (HK.out _).mono ?_
    rintro e w2 ⟨rfl, hb2⟩
    have HB2 := Lib.hid (HA1.out.step hb2).below
    clear hb2
    go_wp2_with fail
    go_ret
    exact ⟨rfl, HB2.out⟩
  by_cases hg_n3 : 10 < n3
  · have hi_n3 : (10 : Int) < (n3 : Int) := by omega
    have hi_n1 : ¬ (10 : Int) < (n1 : Int) := by omega
    go_enter Try.func11, Try.ntmps11
    go_wp2_with fail
    refine (HK.out _).mono ?_
    rintro e w1 ⟨rfl, hb1⟩
    have HA1 := Lib.hid (Arr22.start _ _ _ _ _ _ _ _ hb1)
    clear hb1
    have g0 := HA1.out.c0
    have g1 := HA1.out.c1
    have g2 := HA1.out.d0
    have g3 := HA1.out.d1
    go_wp2_with fail
    refine (HK.out _).mono ?_
    rintro e w2 ⟨rfl, hb2⟩
    have HB2 := Lib.hid (HA1.out.step hb2).below
    clear hb2
    go_wp2_with fail
    go_ret
    exact ⟨rfl, HB2.out⟩
  by_cases hg_n2 : 10 < n2
  · have hi_n2 : (10 : Int) < (n2 : Int) := by omega
    have hi_n1 : ¬ (10 : Int) < (n1 : Int) := by omega
    have hi_n3 : ¬ (10 : Int) < (n3 : Int) := by omega
    go_enter Try.func11, Try.ntmps11
    go_wp2_with fail
    refine (HK.out _).mono ?_
    rintro e w1 ⟨rfl, hb1⟩
    have HA1 := Lib.hid (Arr22.start _ _ _ _ _ _ _ _ hb1)
    clear hb1
    have g0 := HA1.out.c0
    have g1 := HA1.out.c1
    have g2 := HA1.out.d0
    have g3 := HA1.out.d1
    go_wp2_with fail
    refine (HK.out _).mono ?_
    rintro e w2 ⟨rfl, hb2⟩
    have HB2 := Lib.hid (HA1.out.step hb2).below
    clear hb2
    go_wp2_with fail
    go_ret
    exact ⟨rfl, HB2.out⟩
  by_cases hg_n4 : 10 < n4
  · have hi_n4 : (10 : Int) < (n4 : Int) := by omega
    have hi_n1 : ¬ (10 : Int) < (n1 : Int) := by omega
    have hi_n3 : ¬ (10 : Int) < (n3 : Int) := by omega
    have hi_n2 : ¬ (10 : Int) < (n2 : Int) := by omega
    go_enter Try.func11, Try.ntmps11
    go_wp2_with fail
    refine (HK.out _).mono ?_
    rintro e w1 ⟨rfl, hb1⟩
    have HA1 := Lib.hid (Arr22.start _ _ _ _ _ _ _ _ hb1)
    clear hb1
    have g0 := HA1.out.c0
    have g1 := HA1.out.c1
    have g2 := HA1.out.d0
    have g3 := HA1.out.d1
    go_wp2_with fail
    refine (HK.out _).mono ?_
    rintro e w2 ⟨rfl, hb2⟩
    have HB2 := Lib.hid (HA1.out.step hb2).below
    clear hb2
    go_wp2_with fail
    go_ret
    exact ⟨rfl, HB2.out⟩
  have hi_n1 : ¬ (10 : Int) < (n1 : Int) := by omega
  have hi_n3 : ¬ (10 : Int) < (n3 : Int) := by omega
  have hi_n2 : ¬ (10 : Int) < (n2 : Int) := by omega
  have hi_n4 : ¬ (10 : Int) < (n4 : Int) := by omega
  have C1 := Lib.hid (fun (W : World) (h : Below w.heap.size w W) => r2Check_any A F n1 c1 n2 c2 _ _ a f W (H1.out.rd.below h (Nat.le_refl _)) (H3.out.rd.below h (Nat.le_refl _)) H1.out.len H3.out.len (by omega) (by omega))
  have C2 := Lib.hid (fun (W : World) (h : Below w.heap.size w W) => r2Check_any B S n3 c3 n4 c4 _ _ b s W (H2.out.rd.below h (Nat.le_refl _)) (H4.out.rd.below h (Nat.le_refl _)) H2.out.len H4.out.len (by omega) (by omega))
  by_cases he1 : wcE f a = 0
  · by_cases he2 : wcE s b = 0
    · obtain ⟨R, hR, hRl, M1, M2⟩ := match_both A F B S n1 n2 n3 n4 c1 c2 c3 c4 a f b s w H1.out.rd H3.out.rd H2.out.rd H4.out.rd H1.out.len H3.out.len H2.out.len H4.out.len H1.out.cap H1.out.top H2.out.cap H2.out.top (by omega) (by omega) (by omega) (by omega) he1 he2
      have HM1 := Lib.hid M1
      have HM2 := Lib.hid M2
      rw [he1] at C1
      rw [he2] at C2
      clear hR M1 M2
      go_enter Try.func11, Try.ntmps11
      go_wp2_with fail
      refine (HK.out _).mono ?_
      rintro e w1 ⟨rfl, hb1⟩
      have HA1 := Lib.hid (Arr22.start _ _ _ _ _ _ _ _ hb1)
      clear hb1
      have g0 := HA1.out.c0
      have g1 := HA1.out.c1
      have g2 := HA1.out.d0
      have g3 := HA1.out.d1
      go_wp2_with fail
      refine (C1.out _ HA1.out.below).mono ?_
      rintro e w2 ⟨rfl, hq⟩
      have hb := below_of_draws (B := w1.heap.size) hq
      clear hq
      have HA2 := Lib.hid (HA1.out.step hb)
      clear hb g0 g1 g2 g3
      have g0 := HA2.out.c0
      have g1 := HA2.out.c1
      have g2 := HA2.out.d0
      have g3 := HA2.out.d1
      go_wp2_with fail
      refine (C2.out _ HA2.out.below).mono ?_
      rintro e w3 ⟨rfl, hq⟩
      have hb := below_of_draws (B := w2.heap.size) hq
      clear hq
      have HA3 := Lib.hid (HA2.out.step hb)
      clear hb g0 g1 g2 g3
      have g0 := HA3.out.c0
      have g1 := HA3.out.c1
      have g2 := HA3.out.d0
      have g3 := HA3.out.d1
      go_wp2_with fail
      refine (HM1.out _ HA3.out.below).mono ?_
      rintro e w4 ⟨C, c, rfl, hr, hb⟩
      have HR4 := Lib.hid hr
      clear hr
      have HA4 := Lib.hid (HA3.out.step hb)
      clear hb g0 g1 g2 g3
      have g0 := HA4.out.c0
      have g1 := HA4.out.c1
      have g2 := HA4.out.d0
      have g3 := HA4.out.d1
      go_wp2_with fail
      refine (HM2.out _ HA4.out.below).mono ?_
      rintro e w5 ⟨D, d, rfl, hr, hb⟩
      have HR5 := Lib.hid hr
      have HR45 := Lib.hid ((HR4.out.below hb (Nat.le_refl _)).more hb.size)
      clear hr
      have HA5 := Lib.hid (HA4.out.step hb)
      clear hb g0 g1 g2 g3
      have g0 := HA5.out.c0
      have g1 := HA5.out.c1
      have g2 := HA5.out.d0
      have g3 := HA5.out.d1
      go_wp2_with fail
      refine (l2same_any C D _ _ c d _ _ R.1 R.1 _ HR45.out HR5.out rfl rfl (by omega) (by omega)).mono ?_
      rintro e w6 ⟨rfl, hq⟩
      have HB6 := Lib.hid (HA5.out.step (below_of_draws hq)).below
      clear hq
      rw [decide_eq_true (rfl : R.1 = R.1)]
      go_wp2_with fail
      go_ret
      exact ⟨ret_bool (by simp), HB6.out⟩
    · obtain ⟨v, hv⟩ : ∃ v, v = wcE s b := ⟨_, rfl⟩
      have M := Lib.hid (fun (W : World) (h : Below w.heap.size w W) => wMatch_err2 A F B S n1 n2 n3 n4 c1 c2 c3 c4 _ _ _ _ a f b s W (H1.out.rd.below h (Nat.le_refl _)) (H3.out.rd.below h (Nat.le_refl _)) (H2.out.rd.below h (Nat.le_refl _)) (H4.out.rd.below h (Nat.le_refl _)) H1.out.len H3.out.len H2.out.len H4.out.len (by omega) (by omega) (by omega) (by omega) he1 he2)
      rw [← hv] at M C2 he2
      rw [he1] at C1
      have v0 : (v == 0) = false := by simpa using he2
      have v1 : (v != 0) = true := by simpa using he2
      have v2 : (v == v) = true := by simp
      clear hv he2
      go_enter Try.func11, Try.ntmps11
      go_wp2_with fail
      refine (HK.out _).mono ?_
      rintro e w1 ⟨rfl, hb1⟩
      have HA1 := Lib.hid (Arr22.start _ _ _ _ _ _ _ _ hb1)
      clear hb1
      have g0 := HA1.out.c0
      have g1 := HA1.out.c1
      have g2 := HA1.out.d0
      have g3 := HA1.out.d1
      go_wp2_with fail
      refine (C1.out _ HA1.out.below).mono ?_
      rintro e w2 ⟨rfl, hq⟩
      have hb := below_of_draws (B := w1.heap.size) hq
      clear hq
      have HA2 := Lib.hid (HA1.out.step hb)
      clear hb g0 g1 g2 g3
      have g0 := HA2.out.c0
      have g1 := HA2.out.c1
      have g2 := HA2.out.d0
      have g3 := HA2.out.d1
      go_wp2_with fail
      refine (C2.out _ HA2.out.below).mono ?_
      rintro e w3 ⟨rfl, hq⟩
      have hb := below_of_draws (B := w2.heap.size) hq
      clear hq
      have HA3 := Lib.hid (HA2.out.step hb)
      clear hb g0 g1 g2 g3
      have g0 := HA3.out.c0
      have g1 := HA3.out.c1
      have g2 := HA3.out.d0
      have g3 := HA3.out.d1
      go_wp2_with fail
      refine (M.out _ HA3.out.below).mono ?_
      rintro e w7 ⟨rfl, rfl⟩
      go_wp2_with fail
      go_ret
      exact ⟨ret_bool (by simp), HA3.out.below⟩
  · obtain ⟨v, hv⟩ : ∃ v, v = wcE f a := ⟨_, rfl⟩
    have M := Lib.hid (fun (W : World) (h : Below w.heap.size w W) => wMatch_err1 A F (.slice B n3 c3) (.slice S n4 c4) n1 n2 c1 c2 _ _ a f W (H1.out.rd.below h (Nat.le_refl _)) (H3.out.rd.below h (Nat.le_refl _)) H1.out.len H3.out.len (by omega) (by omega) he1)
    rw [← hv] at M C1 he1
    have v0 : (v == 0) = false := by simpa using he1
    have v1 : (v != 0) = true := by simpa using he1
    have v2 : (v == v) = true := by simp
    clear hv he1
    go_enter Try.func11, Try.ntmps11
    go_wp2_with fail
    refine (HK.out _).mono ?_
    rintro e w1 ⟨rfl, hb1⟩
    have HA1 := Lib.hid (Arr22.start _ _ _ _ _ _ _ _ hb1)
    clear hb1
    have g0 := HA1.out.c0
    have g1 := HA1.out.c1
    have g2 := HA1.out.d0
    have g3 := HA1.out.d1
    go_wp2_with fail
    refine (C1.out _ HA1.out.below).mono ?_
    rintro e w2 ⟨rfl, hq⟩
    have hb := below_of_draws (B := w1.heap.size) hq
    clear hq
    have HA2 := Lib.hid (HA1.out.step hb)
    clear hb g0 g1 g2 g3
    have g0 := HA2.out.c0
    have g1 := HA2.out.c1
    have g2 := HA2.out.d0
    have g3 := HA2.out.d1
    go_wp2_with fail
    refine (M.out _ HA2.out.below).mono ?_
    rintro e w7 ⟨rfl, rfl⟩
    go_wp2_with fail
    go_ret
    exact ⟨ret_bool (by simp), HA2.out.below⟩
end Go.Proofs.Ytdccmebkoibkhaa
