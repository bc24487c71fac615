/- Layer 3: the examples of the chapter hold. -/
import Derived.Test.YtcciiikaejjooaaaKnM
import Derived.Test.YtcciiikaejjooaaaRel
import Derived.Test.YtcciiikaejjooaaaRSame
namespace Go.Proofs.Ytcciiikaejjooaa
open Go.RowKit Go.Sort

theorem row_rdG {w : World} {g : Nat} {l : List Ed} (h : Row w g 67 (encE l)) : RdG w w.heap.size (some ⟨g, 0, none⟩) l := fun _ =>
  ⟨g, 0, rfl, h.lt, fun j x hj => by
    obtain ⟨e0, e1, e2⟩ := encE_at l j x hj
    rw [Nat.zero_add]
    exact ⟨h.cell _ e0, h.cell _ e1, h.cell _ e2⟩⟩
/-- An automaton in three blocks. -/
theorem au_rows {w : World} {b1 b2 b3 n m k : Nat} {s : Int} {a : Au} (h1 : Row w b1 3 (a.al.map (Value.int .i64))) (h2 : Row w b2 3 (a.mr.map (Value.int .i64))) (h3 : Row w b3 67 (encE a.ed)) (hn : a.al.length = n) (hm : a.mr.length = m) (hk : a.ed.length = k) (hs : a.st = s) (bn : n ≤ 1000) (bm : m ≤ 1000) (bk : k ≤ 1000) :
    AuR w w.heap.size (some ⟨b1, 0, none⟩) n n s (some ⟨b2, 0, none⟩) m m (some ⟨b3, 0, none⟩) k k a :=
  { al := h1.rd, mr := h2.rd, ed := row_rdG h3, hn := hn, hm := hm, hk := hk, st := hs, cn := by omega, cm := by omega, ck := by omega, bn := by omega, bm := by omega, bk := by omega }

theorem Row.new' (w : World) (cs : List Value) (e : TypeId) {g : Nat} (hg : w.heap.size = g) : Row (w.alloc (.cells cs.toArray e)) g e cs := by subst hg; exact Row.new w cs e

set_option maxHeartbeats 800000 in
theorem example_any (w : World) : Calls Try.prog 46 #[] w fun e w' => ∃ A n c s M m d E k g, e = .returned (.agg #[.slice A n c, .int .i64 s, .slice M m d, .slice E k g]) ∧ AuR w' w'.heap.size A n c s M m d E k g exA ∧ Below w.heap.size w w' := by
  go_enter Try.func46, Try.ntmps46
  go_wp2_with fail
  (try simp only [Exit.inBlock, Exit.then])
  refine bodyPost_ret (v := .agg #[.slice (some ⟨w.heap.size + 1, 0, none⟩) 2 2, .int .i64 3, .slice (some ⟨w.heap.size + 1 + 1, 0, none⟩) 1 1, .slice (some ⟨w.heap.size + 1 + 1 + 1, 0, none⟩) 3 3]) ?_ rfl ⟨_, _, _, _, _, _, _, _, _, _, rfl, ?_, ?_⟩
  · rw [results_cell1 rfl]
    go_simp
  · refine au_rows ?_ ?_ ?_ rfl rfl rfl rfl (by omega) (by omega) (by omega)
    · exact ((Row.new' _ [.int .i64 0, .int .i64 2] 3 (by simp)).alloc _).alloc _
    · exact (Row.new' _ [.int .i64 2] 3 (by simp)).alloc _
    · exact Row.new' _ (encE exA.ed) 67 (by simp)
  · exact ((((Below.refl _ w).alloc (Nat.le_refl _) _).alloc (by simp) _).alloc (by simp; omega) _).alloc (by simp; omega) _

theorem own2 {W : World} {g : Nat} {x y : Int} (h : Row W g 3 [.int .i64 x, .int .i64 y]) : RdI W W.heap.size (some ⟨g, 0, none⟩) [x, y] := Row.rd (zs := [x, y]) h
theorem two_hds {hs : List Hd} {a b : List Int} (h : hs.map Hd.z = [a, b]) : ∃ A1 c1 A2 c2, hs = [⟨A1, c1, a⟩, ⟨A2, c2, b⟩] := by
  match hs, h with
  | [x, y], h =>
    simp at h
    obtain ⟨A1, c1, z1⟩ := x
    obtain ⟨A2, c2, z2⟩ := y
    simp at h
    exact ⟨A1, c1, A2, c2, by rw [h.1, h.2]⟩

set_option maxHeartbeats 4000000 in
set_option maxRecDepth 100000 in
/-- known() holds. -/
theorem known_any (w : World) : Calls Try.prog 13 #[] w fun e w' => e = .returned (.bool true) ∧ Below w.heap.size w w' := by
  have HE := Lib.hid (example_any w)
  go_enter Try.func13, Try.ntmps13
  go_wp2_with fail
  refine HE.out.mono ?_
  rintro e w1 ⟨A, n, c, s, M, m, d, E, k, g, rfl, hA, hb1⟩
  have HC := mCanonical_any A n c s M m d E k g exA w1 hA
  rw [ex_can] at HC
  have HC' := Lib.hid HC
  have HB1 := Lib.hid hb1
  clear HE hA hb1 HC
  go_wp2_with fail
  refine HC'.out.mono ?_
  rintro e w2 ⟨v, rfl, hau, hb2⟩
  obtain ⟨A2, n2, c2, s2, M2, m2, d2, E2, k2, g2, rfl, hA2, _⟩ := hau
  have HB2 := Lib.hid (HB1.out.trans (hb2.mono HB1.out.size))
  have HA2 := Lib.hid hA2
  have hBx := Lib.hid (((Below.refl w2.heap.size w2).alloc (Nat.le_refl _) (.cells #[.slice A2 n2 c2, .int .i64 s2, .slice M2 m2 d2, .slice E2 k2 g2] 25)).alloc (by simp) (.cells #[.int .i64 0, .int .i64 0] 3))
  have HRun := mRun_any A2 n2 c2 s2 M2 m2 d2 E2 k2 g2 cnA 0 (some ⟨w2.heap.size + 1, 0, none⟩) 2 2 [0, 0] _ ((hA2.below hBx.out (Nat.le_refl _)).more hBx.out.size) (own2 (Row.new' (w2.alloc (.cells #[.slice A2 n2 c2, .int .i64 s2, .slice M2 m2 d2, .slice E2 k2 g2] 25)) [.int .i64 0, .int .i64 0] 3 (by simp))) rfl (by omega)
  rw [cn_run] at HRun
  have HRun' := Lib.hid HRun
  have hX2 := Lib.hid (box_row A2 n2 c2 s2 M2 m2 d2 E2 k2 g2 ((Row.new w2 [.slice A2 n2 c2, .int .i64 s2, .slice M2 m2 d2, .slice E2 k2 g2] 25).alloc (.cells #[.int .i64 0, .int .i64 0] 3)))
  clear hA2 hb2 HRun
  go_wp2_with fail
  refine HRun'.out.mono ?_
  rintro e w3 ⟨rfl, hb3⟩
  have hX3 := Lib.hid (hX2.out.below hb3 (by simp; omega))
  have HBx3 := Lib.hid (hBx.out.trans (hb3.mono hBx.out.size))
  have HA3 := Lib.hid ((HA2.out.below HBx3.out (Nat.le_refl _)).more HBx3.out.size)
  have HW := mWords_any A2 n2 c2 s2 M2 m2 d2 E2 k2 g2 cnA 2 true w3 HA3.out
  rw [cn_words] at HW
  have HW' := Lib.hid HW
  have hz3 := hb3.size
  simp only [World.size_alloc] at hz3
  obtain ⟨p0, p1, p2, p3⟩ := hX3.out
  clear hb3 HW hX2 HRun'
  go_wp2_with fail
  refine HW'.out.mono ?_
  rintro e w4 ⟨⟨Al, cl, hs, rfl, hmap, hrl, hlc, hcl, _⟩, hb4⟩
  obtain ⟨B1, e1, B2, e2, rfl⟩ := two_hds hmap
  have HRL := Lib.hid hrl
  have hX4 := Lib.hid (hX3.out.below hb4 (by omega))
  have HBx4 := Lib.hid (HBx3.out.trans (hb4.mono HBx3.out.size))
  have HA4 := Lib.hid ((HA2.out.below HBx4.out (Nat.le_refl _)).more HBx4.out.size)
  have hz4 := hb4.size
  clear p0 p1 p2 p3 hmap hrl HW' hb4
  obtain ⟨p0, p1, p2, p3⟩ := hX4.out
  have hBy := Lib.hid ((Below.refl w4.heap.size w4).alloc (Nat.le_refl _) (.cells #[.int .i64 3, .int .i64 1] 3))
  have HR := mRelabel_any A2 n2 c2 s2 M2 m2 d2 E2 k2 g2 cnA (some ⟨w4.heap.size, 0, none⟩) 2 2 [3, 1] _ ((HA4.out.below hBy.out (Nat.le_refl _)).more hBy.out.size) (own2 (Row.new w4 [.int .i64 3, .int .i64 1] 3)) rfl (Nat.le_refl _) (by omega)
  rw [cn_rel] at HR
  have HR' := Lib.hid HR
  clear HR
  go_wp2_with fail
  refine HR'.out.mono ?_
  rintro e w5 ⟨v5, rfl, hau5, hb5⟩
  obtain ⟨A5, n5, c5, s5, M5, m5, d5, E5, k5, g5, rfl, hA5, _⟩ := hau5
  have HB45 := Lib.hid (hBy.out.trans (hb5.mono hBy.out.size))
  have hX5 := Lib.hid (hX4.out.below HB45.out (by omega))
  have HBx5 := Lib.hid (HBx4.out.trans (HB45.out.mono HBx4.out.size))
  have HA25 := Lib.hid ((HA2.out.below HBx5.out (Nat.le_refl _)).more HBx5.out.size)
  have HA5 := Lib.hid hA5
  have hk5 := hA5.hk
  have hRL5 := Lib.hid ((HRL.out.below HB45.out (Nat.le_refl _)).more HB45.out.size)
  have hz5 := HB45.out.size
  clear p0 p1 p2 p3 hA5 hb5 HRL HR'
  obtain ⟨p0, p1, p2, p3⟩ := hX5.out
  have hlt5 : w2.heap.size < w5.heap.size := by have := HBx5.out.size; omega
  have P0 := fun cs : Array Value => fun ty => (World.cell?_alloc_lt w5 (.cells cs ty) ⟨w2.heap.size, 0, none⟩ hlt5).trans p0
  have P1 := fun cs : Array Value => fun ty => (World.cell?_alloc_lt w5 (.cells cs ty) ⟨w2.heap.size, 1, none⟩ hlt5).trans p1
  have P2 := fun cs : Array Value => fun ty => (World.cell?_alloc_lt w5 (.cells cs ty) ⟨w2.heap.size, 2, none⟩ hlt5).trans p2
  have P3 := fun cs : Array Value => fun ty => (World.cell?_alloc_lt w5 (.cells cs ty) ⟨w2.heap.size, 3, none⟩ hlt5).trans p3
  have hB6 := Lib.hid ((((Below.refl w5.heap.size w5).alloc (Nat.le_refl _) (.cells #[.slice A5 n5 c5, .int .i64 s5, .slice M5 m5 d5, .slice E5 k5 g5] 25)).alloc (by simp) (.cells #[.int .i64 0, .int .i64 2] 3)).alloc (by simp; omega) (.cells #[.int .i64 1] 3) |>.alloc (by simp; omega) (.cells #[.int .i64 0, .int .i64 0, .int .i64 1, .int .i64 0, .int .i64 2, .int .i64 0, .int .i64 1, .int .i64 2, .int .i64 0] 67))
  have hXr := Lib.hid (box_row A5 n5 c5 s5 M5 m5 d5 E5 k5 g5 ((((Row.new w5 [.slice A5 n5 c5, .int .i64 s5, .slice M5 m5 d5, .slice E5 k5 g5] 25).alloc (.cells #[.int .i64 0, .int .i64 2] 3)).alloc (.cells #[.int .i64 1] 3)).alloc (.cells #[.int .i64 0, .int .i64 0, .int .i64 1, .int .i64 0, .int .i64 2, .int .i64 0, .int .i64 1, .int .i64 2, .int .i64 0] 67)))
  have HS := rSame_any A2 n2 c2 s2 M2 m2 d2 E2 k2 g2 (some ⟨w5.heap.size + 1, 0, none⟩) 2 2 2 (some ⟨w5.heap.size + 1 + 1, 0, none⟩) 1 1 (some ⟨w5.heap.size + 1 + 1 + 1, 0, none⟩) 3 3 cnA cnA _ _ ((HA25.out.below hB6.out (Nat.le_refl _)).more hB6.out.size) (au_rows
    (((Row.new' (w5.alloc (.cells #[.slice A5 n5 c5, .int .i64 s5, .slice M5 m5 d5, .slice E5 k5 g5] 25)) [.int .i64 0, .int .i64 2] 3 (by simp)).alloc (.cells #[.int .i64 1] 3)).alloc (.cells #[.int .i64 0, .int .i64 0, .int .i64 1, .int .i64 0, .int .i64 2, .int .i64 0, .int .i64 1, .int .i64 2, .int .i64 0] 67))
    ((Row.new' ((w5.alloc (.cells #[.slice A5 n5 c5, .int .i64 s5, .slice M5 m5 d5, .slice E5 k5 g5] 25)).alloc (.cells #[.int .i64 0, .int .i64 2] 3)) [.int .i64 1] 3 (by simp)).alloc (.cells #[.int .i64 0, .int .i64 0, .int .i64 1, .int .i64 0, .int .i64 2, .int .i64 0, .int .i64 1, .int .i64 2, .int .i64 0] 67))
    (Row.new' (((w5.alloc (.cells #[.slice A5 n5 c5, .int .i64 s5, .slice M5 m5 d5, .slice E5 k5 g5] 25)).alloc (.cells #[.int .i64 0, .int .i64 2] 3)).alloc (.cells #[.int .i64 1] 3)) (encE cnA.ed) 67 (by simp)) rfl rfl rfl rfl (by omega) (by omega) (by omega)) (Nat.le_refl _)
  rw [show decide (cnA = cnA) = true by simp] at HS
  have HS' := Lib.hid HS
  clear HS
  go_wp2_with fail
  refine HS'.out.mono ?_
  rintro e w6 ⟨rfl, hb6⟩
  have HB56 := Lib.hid (hB6.out.trans (hb6.mono hB6.out.size))
  have hXr6 := Lib.hid (hXr.out.below hb6 (by simp; omega))
  have hz6 := hb6.size
  simp only [World.size_alloc] at hz6
  have HRL6 := Lib.hid ((hRL5.out.below HB56.out (Nat.le_refl _)).more HB56.out.size)
  obtain ⟨bL, oL, rfl, hbL, hcL⟩ := HRL6.out (by simp)
  obtain ⟨l0, lr0, _, _⟩ := hcL 0 _ rfl
  obtain ⟨l1, lr1, _, _⟩ := hcL 1 _ rfl
  simp only [Hd.enc] at l0 l1
  rw [Nat.add_zero] at l0
  have LR0 := Lib.hid lr0
  have LR1 := Lib.hid lr1
  have hb7 := Lib.hid ((Below.refl w6.heap.size w6).alloc (Nat.le_refl _) (.cells #[.int .i64 0] 3))
  have HI := sameInts_b B1 (some ⟨w6.heap.size, 0, none⟩) 1 1 e1 1 _ [0] [0] _ ((LR0.out.below hb7.out (Nat.le_refl _)).more hb7.out.size) (Row.rd (zs := [0]) (Row.new w6 [.int .i64 0] 3)) rfl rfl (by omega) (by omega)
  rw [show decide (([0] : List Int) = [0]) = true by simp] at HI
  have HI' := Lib.hid HI
  have hlc2 : 2 ≤ cl := hlc
  clear HI HS' hb6 P0 P1 P2 P3 p0 p1 p2 p3 hcL lr0 lr1 hlc
  go_wp2_with fail
  refine HI'.out.mono ?_
  rintro e w7 ⟨rfl, hb⟩
  have HB67 := Lib.hid (hb7.out.trans (hb.mono hb7.out.size))
  have hz7 := HB67.out.size
  have k1 : w7.cell? ⟨bL, oL + 1, none⟩ = some (.slice B2 2 e2) := (HB67.out.cell (p := ⟨bL, oL + 1, none⟩) hbL).trans l1
  have hb8 := Lib.hid ((Below.refl w7.heap.size w7).alloc (Nat.le_refl _) (.cells #[.int .i64 2, .int .i64 0] 3))
  have HJ := sameInts_b B2 (some ⟨w7.heap.size, 0, none⟩) 2 2 e2 2 _ [2, 0] [2, 0] _ ((((LR1.out.below HB67.out (Nat.le_refl _)).more HB67.out.size).below hb8.out (Nat.le_refl _)).more hb8.out.size) (own2 (Row.new w7 [.int .i64 2, .int .i64 0] 3)) rfl rfl (by omega) (by omega)
  rw [show decide (([2, 0] : List Int) = [2, 0]) = true by simp] at HJ
  have HJ' := Lib.hid HJ
  clear HJ HI' hb l0 l1
  go_wp2_with fail
  refine HJ'.out.mono ?_
  rintro e w8 ⟨rfl, hb⟩
  have HB78 := Lib.hid (hb8.out.trans (hb.mono hb8.out.size))
  have HB68 := Lib.hid (HB67.out.trans (HB78.out.mono HB67.out.size))
  obtain ⟨r0, r1, r2, r3⟩ := hXr6.out.below HB68.out (by omega)
  have HB58 := Lib.hid (HB56.out.trans (HB68.out.mono HB56.out.size))
  obtain ⟨bE, oE, rfl, hbE, hcE⟩ := HA5.out.ed (by show 0 < rlA.ed.length; decide)
  have hE1 : EdAt w8 bE (oE + 1 * 3) ⟨0, 3, 1⟩ := (hcE 1 ⟨0, 3, 1⟩ rfl).keep fun o => HB58.out.cell (p := ⟨bE, o, none⟩) hbE
  obtain ⟨z0, z1, z2⟩ := hE1
  simp only [Nat.one_mul] at z0 z1 z2
  obtain rfl : k5 = 3 := hk5.symm
  have hfin := Lib.hid (HB2.out.trans ((HBx5.out.trans (HB58.out.mono HBx5.out.size)).mono HB2.out.size))
  have hg5 := HA5.out.ck
  clear hb HJ' hcE k1
  go_wp2_with fail
  go_ret
  exact ⟨rfl, hfin.out⟩
end Go.Proofs.Ytcciiikaejjooaa
