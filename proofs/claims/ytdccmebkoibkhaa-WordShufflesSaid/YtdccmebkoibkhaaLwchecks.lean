/- The walk of WordChecks. -/
import Derived.Test.YtdccmebkoibkhaaWknown
import Derived.Laws.MakeOwn
namespace Go.Proofs.Ytdccmebkoibkhaa
open Go.RowKit

/-- A new list of zeros. -/
theorem make_zeros (n : Nat) (h : n ≤ 1000000) (W : World) : (Instr.makeSlice 22 (.int .i64 n) (.int .i64 n)).run Try.prog W = .ok (.slice (some ⟨W.heap.size, 0, none⟩) n n) (W.alloc (.cells (madeCells #[.int .i64 0] n) 3)) := by
  obtain ⟨i0, hi, hz0, hz1, hz2⟩ := info_parts info_int
  have := run_make (P := Try.prog) W 22 3 i0 (.int .i64 0) Try.underlying22 hi hz0 .i64 .i64 n n (by omega) (Int.le_refl _) (by rw [hz2]; omega) (by omega)
  rw [hz1] at this
  simp only [Int.toNat_natCast, Nat.mul_one] at this
  exact this
theorem rd_zeros (n : Nat) (W : World) : RdI (W.alloc (.cells (madeCells #[.int .i64 0] n) 3)) (W.heap.size + 1) (some ⟨W.heap.size, 0, none⟩) (List.replicate n 0) := fun _ => by
  refine ⟨W.heap.size, 0, rfl, by omega, fun j hj => ?_⟩
  rw [World.cell?_alloc_at _ _ _ _ rfl]
  have h := toList_madeCells_one (.int .i64 0) n
  have hj' : j < n := by simpa using hj
  have : (madeCells #[.int .i64 0] n)[0 + j]? = (List.replicate n (Value.int .i64 0))[j]? := by rw [← h, Array.getElem?_toList, Nat.zero_add]
  rw [this]
  simp [hj', List.getD]
theorem wc_zeros (n : Nat) (h : n ≤ 4096) : wcE [0] (List.replicate n 0) = 0 := by
  have h0 : csE 32 [0] = 0 := by decide
  have h1 : inB [0] (List.replicate n 0) = true := by simp [inB]
  rw [wcE, h0, if_neg (by simp), if_neg (by simp; omega), if_pos h1]
theorem wc_many (n : Nat) (h : 4096 < n) : wcE [0] (List.replicate n 0) = 3 := by
  have h0 : csE 32 [0] = 0 := by decide
  rw [wcE, h0, if_neg (by simp), if_pos (by simpa using h)]
/-- Check of a new list of zeros over the set of the zero. -/
theorem check_zeros (n : Nat) (h : n ≤ 5000) (v : Int) (hv : wcE [0] (List.replicate n 0) = v) (W : World) : Calls Try.prog 15 #[.slice (some ⟨W.heap.size, 0, none⟩) n n, .slice (some ⟨W.heap.size + 1, 0, none⟩) 1 1] ((W.alloc (.cells (madeCells #[.int .i64 0] n) 3)).alloc (.cells #[.int .i64 0] 3))
    fun e w' => e = .returned (.int .i64 v) ∧ Below W.heap.size W w' := by
  have r1 := (rd_zeros n W).alloc (o := .cells #[.int .i64 0] 3) (by simp)
  have r2 := rd_new (W.alloc (.cells (madeCells #[.int .i64 0] n) 3)) [0]
  simp only [World.size_alloc] at r2
  refine (wCheck_any (some ⟨W.heap.size, 0, none⟩) (some ⟨W.heap.size + 1, 0, none⟩) n n 1 1 _ _ (List.replicate n 0) [0] _ r1 r2 (by simp) rfl (by omega) (by decide)).mono ?_
  rintro e w' ⟨rfl, rfl⟩
  rw [hv]
  exact ⟨rfl, below2 W _ _⟩

set_option maxHeartbeats 4000000 in
set_option maxRecDepth 100000 in
theorem lawWChecks (A : Option Addr) (n c : Nat) (xs : List Int) (B : Option Addr) (m d : Nat) (ys : List Int) (w : World) (hx : RdI w w.heap.size A xs) (hn : xs.length = n) (_hf : ∀ z ∈ xs, (Lit.int .i64 z).wf = true)
    (hy : RdI w w.heap.size B ys) (hm : ys.length = m) (_hg : ∀ z ∈ ys, (Lit.int .i64 z).wf = true) :
    Calls Try.prog 3 #[.slice A n c, .slice B m d] w fun e w' => e = .returned (.bool true) ∧ Below w.heap.size w w' := by
  have HK := Lib.hid known_any
  have HX := Lib.hid hx
  have HY := Lib.hid hy
  have HN := Lib.hid hn
  have HM := Lib.hid hm
  clear hx hy hn hm
  by_cases hg_n : 40 < n
  · have hi_n : (40 : Int) < (n : Int) := by omega
    go_enter Try.func3, Try.ntmps3
    go_wp2_with fail
    refine (HK.out _).mono ?_
    rintro e w1 ⟨rfl, hb1⟩
    have HB1 := Lib.hid hb1
    clear hb1
    go_wp2_with fail
    refine (HK.out _).mono ?_
    rintro e w2 ⟨rfl, hb2⟩
    have HB2 := Lib.hid (HB1.out.trans (hb2.mono HB1.out.size))
    clear hb2
    go_wp2_with fail
    go_ret
    exact ⟨rfl, HB2.out⟩
  by_cases hg_m : 40 < m
  · have hi_m : (40 : Int) < (m : Int) := by omega
    go_enter Try.func3, Try.ntmps3
    go_wp2_with fail
    refine (HK.out _).mono ?_
    rintro e w1 ⟨rfl, hb1⟩
    have HB1 := Lib.hid hb1
    clear hb1
    go_wp2_with fail
    refine (HK.out _).mono ?_
    rintro e w2 ⟨rfl, hb2⟩
    have HB2 := Lib.hid (HB1.out.trans (hb2.mono HB1.out.size))
    clear hb2
    go_wp2_with fail
    go_ret
    exact ⟨rfl, HB2.out⟩
  have hn2 : n ≤ 40 := by omega
  have hm2 : m ≤ 40 := by omega
  clear hg_n hg_m
  have hn3 : (n : Int) ≤ 40 := by omega
  have hm3 : (m : Int) ≤ 40 := by omega
  have C1 := Lib.hid (fun (W : World) (h : Below w.heap.size w W) => wCheck_any A B n c m d _ _ xs ys W (HX.out.below h (Nat.le_refl _)) (HY.out.below h (Nat.le_refl _)) HN.out HM.out (by omega) (by omega))
  have C2 := Lib.hid (fun (W : World) (h : Below w.heap.size w W) => r2Check_any A B n c m d _ _ xs ys W (HX.out.below h (Nat.le_refl _)) (HY.out.below h (Nat.le_refl _)) HN.out HM.out (by omega) (by omega))
  have D1 := Lib.hid (check_zeros 4096 (by decide) 0 (wc_zeros 4096 (by decide)))
  have D2 := Lib.hid (check_zeros 4097 (by decide) 3 (wc_many 4097 (by decide)))
  have M1 : ∀ W : World, (Instr.makeSlice 22 (.int .i64 4096) (.int .i64 4096)).run Try.prog W = .ok (.slice (some ⟨W.heap.size, 0, none⟩) 4096 4096) (W.alloc (.cells (madeCells #[.int .i64 0] 4096) 3)) := make_zeros 4096 (by decide)
  have M2 : ∀ W : World, (Instr.makeSlice 22 (.int .i64 4097) (.int .i64 4097)).run Try.prog W = .ok (.slice (some ⟨W.heap.size, 0, none⟩) 4097 4097) (W.alloc (.cells (madeCells #[.int .i64 0] 4097) 3)) := make_zeros 4097 (by decide)
  generalize wcE ys xs = k at *
  generalize madeCells #[.int .i64 0] 4096 = Z1 at *
  generalize madeCells #[.int .i64 0] 4097 = Z2 at *
  go_enter Try.func3, Try.ntmps3
  go_wp2_with fail
  refine (HK.out _).mono ?_
  rintro e w1 ⟨rfl, hb1⟩
  have HB1 := Lib.hid hb1
  clear hb1
  go_wp2_with fail
  refine (C1.out _ HB1.out).mono ?_
  rintro e w' ⟨rfl, rfl⟩
  go_wp2_with fail
  refine (C2.out _ HB1.out).mono ?_
  rintro e w2 ⟨rfl, hq⟩
  have HB2 := Lib.hid (HB1.out.trans ((below_of_draws hq).mono (Nat.le_refl _)))
  clear hq
  go_wp2_with fail
  refine (D1.out _).mono ?_
  rintro e w3 ⟨rfl, hb3⟩
  have HB3 := Lib.hid (HB2.out.trans (hb3.mono HB2.out.size))
  clear hb3
  go_wp2_with fail
  refine (D2.out _).mono ?_
  rintro e w4 ⟨rfl, hb4⟩
  have HB4 := Lib.hid (HB3.out.trans (hb4.mono HB3.out.size))
  clear hb4
  go_wp2_with fail
  go_ret
  exact ⟨rfl, HB4.out⟩
end Go.Proofs.Ytdccmebkoibkhaa
