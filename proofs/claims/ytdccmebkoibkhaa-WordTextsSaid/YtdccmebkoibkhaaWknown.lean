/- The examples that each law of words begins with hold. -/
import Derived.Test.YtdccmebkoibkhaaShuf
import Derived.Test.YtdccmebkoibkhaaSameAll
import Derived.Test.YtdccmebkoibkhaaWmatch
import Derived.Test.YtdccmebkoibkhaaWproj
namespace Go.Proofs.Ytdccmebkoibkhaa
open Go.RowKit

theorem rd_new (w : World) (zs : List Int) : RdI (w.alloc (.cells (zs.map (Value.int .i64)).toArray 3)) (w.heap.size + 1) (some ⟨w.heap.size, 0, none⟩) zs := fun _ => by
  refine ⟨w.heap.size, 0, rfl, by omega, fun j hj => ?_⟩
  rw [World.cell?_alloc_at _ _ _ _ rfl]
  simp [hj, List.getD]
theorem RdI.alloc {w : World} {B : Nat} {A : Option Addr} {zs : List Int} (h : RdI w B A zs) (hB : B ≤ w.heap.size) (o : Obj) : RdI (w.alloc o) B A zs :=
  h.keep fun b _ hb => World.cell?_alloc_lt w o ⟨b, _, none⟩ (by show b < _; omega)
theorem RdI.at_size {w : World} {B : Nat} {A : Option Addr} {zs : List Int} (h : RdI w B A zs) (hB : B ≤ w.heap.size) : RdI w w.heap.size A zs := h.more hB

/-- Two new literals. -/
theorem two_new (w : World) (xs ys : List Int) : RdI ((w.alloc (.cells (xs.map (Value.int .i64)).toArray 3)).alloc (.cells (ys.map (Value.int .i64)).toArray 3)) (w.heap.size + 2) (some ⟨w.heap.size, 0, none⟩) xs ∧ RdI ((w.alloc (.cells (xs.map (Value.int .i64)).toArray 3)).alloc (.cells (ys.map (Value.int .i64)).toArray 3)) (w.heap.size + 2) (some ⟨w.heap.size + 1, 0, none⟩) ys := by
  refine ⟨((rd_new w xs).alloc (by simp) _).more (by omega), ?_⟩
  have := rd_new (w.alloc (.cells (xs.map (Value.int .i64)).toArray 3)) ys
  simpa using this
theorem two_size (w : World) (o1 o2 : Obj) : ((w.alloc o1).alloc o2).heap.size = w.heap.size + 2 := by simp
theorem below2 (w : World) (o1 o2 : Obj) : Below w.heap.size w ((w.alloc o1).alloc o2) := ((Below.refl _ _).alloc (Nat.le_refl _) _).alloc (by simp) _

theorem shuf_ex : ∀ x, x ∈ shufL [] [0, 1] [0] ↔ x ∈ ([[0, 0, 1], [0, 1, 0]] : List (List Int)) := by
  intro x
  simp only [shufL, List.nil_append, List.cons_append, List.mem_cons, List.not_mem_nil, or_false]
  constructor
  · rintro (rfl | rfl | rfl) <;> simp
  · rintro (rfl | rfl) <;> simp
theorem inc_ex : Inc [[0, 0, 1], [0, 1, 0]] := by
  unfold Inc
  simp [cmpI, lexI]

theorem known_shuf (w : World) : Calls Try.prog 30 #[.slice (some ⟨w.heap.size, 0, none⟩) 2 2, .slice (some ⟨w.heap.size + 1, 0, none⟩) 1 1] ((w.alloc (.cells #[.int .i64 0, .int .i64 1] 3)).alloc (.cells #[.int .i64 0] 3))
    fun e w' => ∃ A c, e = .returned (.tuple #[.slice A 2 c, .int .i64 0]) ∧ RdL w' w'.heap.size A [[0, 0, 1], [0, 1, 0]] ∧ Below w.heap.size w w' := by
  have h := two_new w [0, 1] [0]
  have hs := two_size w (.cells #[.int .i64 0, .int .i64 1] 3) (.cells #[.int .i64 0] 3)
  refine (shuf_any (some ⟨w.heap.size, 0, none⟩) (some ⟨w.heap.size + 1, 0, none⟩) 2 1 [0, 1] [0] _ (h.1.more (Nat.le_of_eq hs.symm)) (h.2.more (Nat.le_of_eq hs.symm)) (by decide) (by decide) (by decide) (by decide) (by decide)).mono ?_
  rintro e w' ⟨zs, A, c, rfl, hr, hb, hi, hm, _⟩
  obtain rfl : zs = [[0, 0, 1], [0, 1, 0]] := inc_unique hi inc_ex fun x => (hm x).trans (shuf_ex x)
  exact ⟨A, c, rfl, hr, (below2 w _ _).trans (hb.mono (below2 w _ _).size)⟩

theorem mt_ex : mtZ [0, 2] [0, 2] [1, 2] [1, 2] = ([0, 1, 2], true) := by
  simp [mtZ, mg]
theorem known_match (w : World) : Calls Try.prog 35 #[.slice (some ⟨w.heap.size, 0, none⟩) 2 2, .slice (some ⟨w.heap.size + 1, 0, none⟩) 2 2, .slice (some ⟨w.heap.size + 2, 0, none⟩) 2 2, .slice (some ⟨w.heap.size + 3, 0, none⟩) 2 2]
    ((((w.alloc (.cells #[.int .i64 0, .int .i64 2] 3)).alloc (.cells #[.int .i64 0, .int .i64 2] 3)).alloc (.cells #[.int .i64 1, .int .i64 2] 3)).alloc (.cells #[.int .i64 1, .int .i64 2] 3))
    fun e w' => ∃ C c, e = .returned (.tuple #[.slice C 3 c, .bool true, .int .i64 0]) ∧ RdI w' w'.heap.size C [0, 1, 2] ∧ Below w.heap.size w w' := by
  have h1 := two_new w [0, 2] [0, 2]
  have h2 := two_new ((w.alloc (.cells #[.int .i64 0, .int .i64 2] 3)).alloc (.cells #[.int .i64 0, .int .i64 2] 3)) [1, 2] [1, 2]
  have hs := two_size w (.cells #[.int .i64 0, .int .i64 2] 3) (.cells #[.int .i64 0, .int .i64 2] 3)
  have hs2 := two_size ((w.alloc (.cells #[.int .i64 0, .int .i64 2] 3)).alloc (.cells #[.int .i64 0, .int .i64 2] 3)) (.cells #[.int .i64 1, .int .i64 2] 3) (.cells #[.int .i64 1, .int .i64 2] 3)
  rw [hs] at h2
  rw [hs] at hs2
  have b1 := below2 w (.cells #[.int .i64 0, .int .i64 2] 3) (.cells #[.int .i64 0, .int .i64 2] 3)
  have b2 := below2 ((w.alloc (.cells #[.int .i64 0, .int .i64 2] 3)).alloc (.cells #[.int .i64 0, .int .i64 2] 3)) (.cells #[.int .i64 1, .int .i64 2] 3) (.cells #[.int .i64 1, .int .i64 2] 3)
  rw [hs] at b2
  have u1 : Up [0, 2] := cs_up (m := 32) (by decide)
  have u2 : Up [1, 2] := cs_up (m := 32) (by decide)
  refine (wMatch_ok (some ⟨w.heap.size, 0, none⟩) (some ⟨w.heap.size + 1, 0, none⟩) (some ⟨w.heap.size + 2, 0, none⟩) (some ⟨w.heap.size + 3, 0, none⟩) 2 2 2 2 [0, 2] [0, 2] [1, 2] [1, 2] _
    ((h1.1.below b2 (Nat.le_refl _)).more (by rw [hs2]; omega)) ((h1.2.below b2 (Nat.le_refl _)).more (by rw [hs2]; omega)) (h2.1.more (by rw [hs2]; omega)) (h2.2.more (by rw [hs2]; omega)) (by decide) (by decide) (by decide) (by decide) (by decide) (by decide) (by decide) (by decide) (by decide) (by decide) u1 u2).mono ?_
  rintro e w' ⟨C, c, rfl, hr, hb⟩
  rw [mt_ex] at hr ⊢
  exact ⟨C, c, rfl, hr, (b1.trans (b2.mono (by omega))).trans (hb.mono (by rw [hs2]; omega))⟩

theorem known_all (w : World) (A : Option Addr) (c : Nat) (h : RdL w w.heap.size A [[0, 0, 1], [0, 1, 0]]) :
    Calls Try.prog 31 #[.slice A 2 c, .slice (some ⟨w.heap.size + 2, 0, none⟩) 2 2] (((w.alloc (.cells #[.int .i64 0, .int .i64 0, .int .i64 1] 3)).alloc (.cells #[.int .i64 0, .int .i64 1, .int .i64 0] 3)).alloc (.cells #[.slice (some ⟨w.heap.size, 0, none⟩) 3 3, .slice (some ⟨w.heap.size + 1, 0, none⟩) 3 3] 22))
    fun e w' => e = .returned (.bool true) ∧ Below w.heap.size w w' := by
  have h1 := two_new w [0, 0, 1] [0, 1, 0]
  have hs := two_size w (.cells #[.int .i64 0, .int .i64 0, .int .i64 1] 3) (.cells #[.int .i64 0, .int .i64 1, .int .i64 0] 3)
  have b1 := below2 w (.cells #[.int .i64 0, .int .i64 0, .int .i64 1] 3) (.cells #[.int .i64 0, .int .i64 1, .int .i64 0] 3)
  obtain ⟨w0, hw0⟩ : ∃ w0, w0 = (w.alloc (.cells #[.int .i64 0, .int .i64 0, .int .i64 1] 3)).alloc (.cells #[.int .i64 0, .int .i64 1, .int .i64 0] 3) := ⟨_, rfl⟩
  have h1a : RdI w0 (w.heap.size + 2) (some ⟨w.heap.size, 0, none⟩) [0, 0, 1] := by rw [hw0]; exact h1.1
  have h1b : RdI w0 (w.heap.size + 2) (some ⟨w.heap.size + 1, 0, none⟩) [0, 1, 0] := by rw [hw0]; exact h1.2
  rw [← hw0] at hs b1 ⊢
  clear h1 hw0
  have hb0 : Below w0.heap.size w0 (w0.alloc (.cells #[.slice (some ⟨w.heap.size, 0, none⟩) 3 3, .slice (some ⟨w.heap.size + 1, 0, none⟩) 3 3] 22)) := (Below.refl _ _).alloc (Nat.le_refl _) _
  rw [hs] at hb0
  have hs3 : (w0.alloc (.cells #[.slice (some ⟨w.heap.size, 0, none⟩) 3 3, .slice (some ⟨w.heap.size + 1, 0, none⟩) 3 3] 22)).heap.size = w.heap.size + 3 := by simp [hs]
  have hl : RdL (w0.alloc (.cells #[.slice (some ⟨w.heap.size, 0, none⟩) 3 3, .slice (some ⟨w.heap.size + 1, 0, none⟩) 3 3] 22)) (w.heap.size + 3) (some ⟨w.heap.size + 2, 0, none⟩) [[0, 0, 1], [0, 1, 0]] := fun _ => by
    refine ⟨w.heap.size + 2, 0, rfl, by omega, fun j hj => ?_⟩
    have hj2 : j = 0 ∨ j = 1 := by simp at hj; omega
    rcases hj2 with rfl | rfl
    · exact ⟨some ⟨w.heap.size, 0, none⟩, 3, by rw [World.cell?_alloc_at _ _ _ _ hs.symm]; rfl, (h1a.below hb0 (Nat.le_refl _)).more (by omega), by decide, by decide⟩
    · exact ⟨some ⟨w.heap.size + 1, 0, none⟩, 3, by rw [World.cell?_alloc_at _ _ _ _ hs.symm]; rfl, (h1b.below hb0 (Nat.le_refl _)).more (by omega), by decide, by decide⟩
  have bb := b1.trans (hb0.mono (by omega))
  refine (sameAll_any A (some ⟨w.heap.size + 2, 0, none⟩) 2 2 c 2 [[0, 0, 1], [0, 1, 0]] [[0, 0, 1], [0, 1, 0]] _ ((h.below bb (Nat.le_refl _)).more (by rw [hs3]; omega)) (hl.more (by rw [hs3]; omega)) rfl rfl (by decide) (by decide) (by decide) (by decide)).mono ?_
  rintro e w' ⟨rfl, q, rfl⟩
  exact ⟨by simp, below_drewN bb q⟩

theorem known_same (w : World) (A : Option Addr) (c : Nat) (x y z : Int) (h : RdI w w.heap.size A [x, y, z]) :
    Calls Try.prog 22 #[.slice A 3 c, .slice (some ⟨w.heap.size, 0, none⟩) 3 3] (w.alloc (.cells #[.int .i64 x, .int .i64 y, .int .i64 z] 3)) fun e w' => e = .returned (.bool true) ∧ Below w.heap.size w w' := by
  refine (l2same_any A (some ⟨w.heap.size, 0, none⟩) 3 3 c 3 _ _ [x, y, z] [x, y, z] _ (h.alloc (Nat.le_refl _) _) (rd_new w [x, y, z]) rfl rfl (by decide) (by decide)).mono ?_
  rintro e w' ⟨rfl, q, rfl⟩
  exact ⟨by simp, below_drewN ((Below.refl _ _).alloc (Nat.le_refl _) _) q⟩
theorem known_proj (w : World) : Calls Try.prog 21 #[.slice (some ⟨w.heap.size, 0, none⟩) 4 4, .slice (some ⟨w.heap.size + 1, 0, none⟩) 2 2] ((w.alloc (.cells #[.int .i64 0, .int .i64 2, .int .i64 1, .int .i64 2] 3)).alloc (.cells #[.int .i64 1, .int .i64 2] 3))
    fun e w' => ∃ C c, e = .returned (.slice C 3 c) ∧ RdI w' w'.heap.size C [2, 1, 2] ∧ Below w.heap.size w w' := by
  have h := two_new w [0, 2, 1, 2] [1, 2]
  have hs := two_size w (.cells #[.int .i64 0, .int .i64 2, .int .i64 1, .int .i64 2] 3) (.cells #[.int .i64 1, .int .i64 2] 3)
  refine (wProject_any (some ⟨w.heap.size, 0, none⟩) (some ⟨w.heap.size + 1, 0, none⟩) 4 4 2 2 [0, 2, 1, 2] [1, 2] _ (h.1.more (Nat.le_of_eq hs.symm)) (h.2.more (Nat.le_of_eq hs.symm)) rfl rfl (by decide) (by decide) (cs_up (m := 32) (by decide))).mono ?_
  rintro e w' ⟨C, c, rfl, hr, hb, _⟩
  exact ⟨C, c, rfl, hr, (below2 w _ _).trans (hb.mono (below2 w _ _).size)⟩
theorem known_cmp (w : World) : Calls Try.prog 17 #[.slice (some ⟨w.heap.size, 0, none⟩) 1 1, .slice (some ⟨w.heap.size + 1, 0, none⟩) 2 2] ((w.alloc (.cells #[.int .i64 1] 3)).alloc (.cells #[.int .i64 0, .int .i64 0] 3))
    fun e w' => e = .returned (.int .i64 (-1)) ∧ Below w.heap.size w w' := by
  have h := two_new w [1] [0, 0]
  refine (wCompare_any (some ⟨w.heap.size, 0, none⟩) (some ⟨w.heap.size + 1, 0, none⟩) 1 2 1 2 _ _ [1] [0, 0] _ h.1 h.2 rfl rfl (by decide) (by decide)).mono ?_
  rintro e w' ⟨rfl, rfl⟩
  exact ⟨rfl, below2 w _ _⟩

set_option maxHeartbeats 4000000 in
set_option maxRecDepth 100000 in
/-- The examples hold. -/
theorem known_any (w : World) : Calls Try.prog 14 #[] w fun e w' => e = .returned (.bool true) ∧ Below w.heap.size w w' := by
  go_enter Try.func14, Try.ntmps14
  go_wp2_with fail
  refine (known_shuf _).mono ?_
  rintro e w1 ⟨A, c, rfl, hl, hb1⟩
  have HB1 := Lib.hid hb1
  have HL := Lib.hid hl
  clear hb1 hl
  go_wp2_with fail
  refine (known_match _).mono ?_
  rintro e w2 ⟨C, d, rfl, hr2, hb2⟩
  have HL2 := Lib.hid ((HL.out.below hb2 (Nat.le_refl _)).more hb2.size)
  have HB2 := Lib.hid (HB1.out.trans (hb2.mono HB1.out.size))
  have HR2 := Lib.hid hr2
  clear HL HB1 hb2 hr2
  go_wp2_with fail
  refine (known_all _ _ _ HL2.out).mono ?_
  rintro e w3 ⟨rfl, hb3⟩
  have HR3 := Lib.hid ((HR2.out.below hb3 (Nat.le_refl _)).more hb3.size)
  have HB3 := Lib.hid (HB2.out.trans (hb3.mono HB2.out.size))
  clear HR2 HB2 hb3 HL2
  go_wp2_with fail
  refine (known_same _ _ _ _ _ _ HR3.out).mono ?_
  rintro e w4 ⟨rfl, hb4⟩
  have HB4 := Lib.hid (HB3.out.trans (hb4.mono HB3.out.size))
  clear HR3 HB3 hb4
  go_wp2_with fail
  refine (known_proj _).mono ?_
  rintro e w5 ⟨D, f, rfl, hr5, hb5⟩
  have HB5 := Lib.hid (HB4.out.trans (hb5.mono HB4.out.size))
  have HR5 := Lib.hid hr5
  clear HB4 hb5 hr5
  go_wp2_with fail
  refine (known_same _ _ _ _ _ _ HR5.out).mono ?_
  rintro e w6 ⟨rfl, hb6⟩
  have HB6 := Lib.hid (HB5.out.trans (hb6.mono HB5.out.size))
  clear HR5 HB5 hb6
  go_wp2_with fail
  refine (known_cmp _).mono ?_
  rintro e w7 ⟨rfl, hb7⟩
  have HB7 := Lib.hid (HB6.out.trans (hb7.mono HB6.out.size))
  clear HB6 hb7
  go_wp2_with fail
  go_ret
  exact ⟨rfl, HB7.out⟩
end Go.Proofs.Ytdccmebkoibkhaa
