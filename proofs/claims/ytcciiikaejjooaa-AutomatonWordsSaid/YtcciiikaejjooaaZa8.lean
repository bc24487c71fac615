/- Texts merged: what follows were texts of their own. -/
import Derived.Test.YtcciiikaejjooaaZa7
import Derived.Test.YtcciiikaejjooaaZa6
import Derived.Test.YtcciiikaejjooaaZa3
import Derived.Test.YtcciiikaejjooaaZa5
import Derived.Test.YtcciiikaejjooaaZa4
import Derived.Test.YtcciiikaejjooaaZa2
import Derived.Deep.MidRow
/- Layer 3: the examples of the chapter hold. -/
namespace Go.Proofs.Ytcciiikaejjooaa
open Go.RowKit Go.Sort

theorem row_rdG {w : World} {g : Nat} {l : List Ed} (h : Row w g 67 (encE l)) : RdG w w.heap.size (some ⟨g, 0, none⟩) l := fun _ =>
  ⟨g, 0, rfl, h.lt, fun j x hj => by
    obtain ⟨e0, e1, e2⟩ := encE_at l j x hj
    rw [Nat.zero_add]
    exact ⟨h.cell _ e0, h.cell _ e1, h.cell _ e2⟩⟩
/-- An automaton in three blocks. -/
theorem au_rows {w : World} {b1 b2 b3 n m k : Nat} {s : Int} {a : Au} (h1 : Row w b1 3 (a.al.map (Value.int .i64))) (h2 : Row w b2 3 (a.mr.map (Value.int .i64))) (h3 : Row w b3 67 (encE a.ed)) (hn : a.al.length = n) (hm : a.mr.length = m) (hk : a.ed.length = k) (hs : a.st = s) (bn : n ≤ 1000) (bm : m ≤ 1000) (bk : k ≤ 1000) :
    AuR w w.heap.size (some ⟨b1, 0, none⟩) n n s (some ⟨b2, 0, none⟩) m m (some ⟨b3, 0, none⟩) k k a :=
  { al := h1.rd, mr := h2.rd, ed := row_rdG h3, hn := hn, hm := hm, hk := hk, st := hs, cn := by omega, cm := by omega, ck := by omega, bn := by omega, bm := by omega, bk := by omega }

theorem Row.new' (w : World) (cs : List Value) (e : TypeId) {g : Nat} (hg : w.heap.size = g) : Row (w.alloc (.cells cs.toArray e)) g e cs := by subst hg; exact Row.new w cs e

set_option maxHeartbeats 800000 in
theorem example_any (w : World) : Calls Try.prog 46 #[] w fun e w' => ∃ A n c s M m d E k g, e = .returned (.agg #[.slice A n c, .int .i64 s, .slice M m d, .slice E k g]) ∧ AuR w' w'.heap.size A n c s M m d E k g exA ∧ Below w.heap.size w w' := by
  go_enter Try.func46, Try.ntmps46
  go_wp2_with fail
  (try simp only [Exit.inBlock, Exit.then])
  refine bodyPost_ret (v := .agg #[.slice (some ⟨w.heap.size + 1, 0, none⟩) 2 2, .int .i64 3, .slice (some ⟨w.heap.size + 1 + 1, 0, none⟩) 1 1, .slice (some ⟨w.heap.size + 1 + 1 + 1, 0, none⟩) 3 3]) ?_ rfl ⟨_, _, _, _, _, _, _, _, _, _, rfl, ?_, ?_⟩
  · rw [results_cell1 rfl]
    go_simp
  · refine au_rows ?_ ?_ ?_ rfl rfl rfl rfl (by omega) (by omega) (by omega)
    · exact ((Row.new' _ [.int .i64 0, .int .i64 2] 3 (by simp)).alloc _).alloc _
    · exact (Row.new' _ [.int .i64 2] 3 (by simp)).alloc _
    · exact Row.new' _ (encE exA.ed) 67 (by simp)
  · exact ((((Below.refl _ w).alloc (Nat.le_refl _) _).alloc (by simp) _).alloc (by simp; omega) _).alloc (by simp; omega) _

theorem own2 {W : World} {g : Nat} {x y : Int} (h : Row W g 3 [.int .i64 x, .int .i64 y]) : RdI W W.heap.size (some ⟨g, 0, none⟩) [x, y] := Row.rd (zs := [x, y]) h
theorem two_hds {hs : List Hd} {a b : List Int} (h : hs.map Hd.z = [a, b]) : ∃ A1 c1 A2 c2, hs = [⟨A1, c1, a⟩, ⟨A2, c2, b⟩] := by
  match hs, h with
  | [x, y], h =>
    simp at h
    obtain ⟨A1, c1, z1⟩ := x
    obtain ⟨A2, c2, z2⟩ := y
    simp at h
    exact ⟨A1, c1, A2, c2, by rw [h.1, h.2]⟩

set_option maxHeartbeats 4000000 in
set_option maxRecDepth 100000 in
/-- known() holds. -/
theorem known_any (w : World) : Calls Try.prog 13 #[] w fun e w' => e = .returned (.bool true) ∧ Below w.heap.size w w' := by
  have HE := Lib.hid (example_any w)
  go_enter Try.func13, Try.ntmps13
  go_wp2_with fail
  refine HE.out.mono ?_
  rintro e w1 ⟨A, n, c, s, M, m, d, E, k, g, rfl, hA, hb1⟩
  have HC := mCanonical_any A n c s M m d E k g exA w1 hA
  rw [ex_can] at HC
  have HC' := Lib.hid HC
  have HB1 := Lib.hid hb1
  clear HE hA hb1 HC
  go_wp2_with fail
  refine HC'.out.mono ?_
  rintro e w2 ⟨v, rfl, hau, hb2⟩
  obtain ⟨A2, n2, c2, s2, M2, m2, d2, E2, k2, g2, rfl, hA2, _⟩ := hau
  have HB2 := Lib.hid (HB1.out.trans (hb2.mono HB1.out.size))
  have HA2 := Lib.hid hA2
  have hBx := Lib.hid (((Below.refl w2.heap.size w2).alloc (Nat.le_refl _) (.cells #[.slice A2 n2 c2, .int .i64 s2, .slice M2 m2 d2, .slice E2 k2 g2] 25)).alloc (by simp) (.cells #[.int .i64 0, .int .i64 0] 3))
  have HRun := mRun_any A2 n2 c2 s2 M2 m2 d2 E2 k2 g2 cnA 0 (some ⟨w2.heap.size + 1, 0, none⟩) 2 2 [0, 0] _ ((hA2.below hBx.out (Nat.le_refl _)).more hBx.out.size) (own2 (Row.new' (w2.alloc (.cells #[.slice A2 n2 c2, .int .i64 s2, .slice M2 m2 d2, .slice E2 k2 g2] 25)) [.int .i64 0, .int .i64 0] 3 (by simp))) rfl (by omega)
  rw [cn_run] at HRun
  have HRun' := Lib.hid HRun
  have hX2 := Lib.hid (box_row A2 n2 c2 s2 M2 m2 d2 E2 k2 g2 ((Row.new w2 [.slice A2 n2 c2, .int .i64 s2, .slice M2 m2 d2, .slice E2 k2 g2] 25).alloc (.cells #[.int .i64 0, .int .i64 0] 3)))
  clear hA2 hb2 HRun
  go_wp2_with fail
  refine HRun'.out.mono ?_
  rintro e w3 ⟨rfl, hb3⟩
  have hX3 := Lib.hid (hX2.out.below hb3 (by simp; omega))
  have HBx3 := Lib.hid (hBx.out.trans (hb3.mono hBx.out.size))
  have HA3 := Lib.hid ((HA2.out.below HBx3.out (Nat.le_refl _)).more HBx3.out.size)
  have HW := mWords_any A2 n2 c2 s2 M2 m2 d2 E2 k2 g2 cnA 2 true w3 HA3.out
  rw [cn_words] at HW
  have HW' := Lib.hid HW
  have hz3 := hb3.size
  simp only [World.size_alloc] at hz3
  obtain ⟨p0, p1, p2, p3⟩ := hX3.out
  clear hb3 HW hX2 HRun'
  go_wp2_with fail
  refine HW'.out.mono ?_
  rintro e w4 ⟨⟨Al, cl, hs, rfl, hmap, hrl, hlc, hcl, _⟩, hb4⟩
  obtain ⟨B1, e1, B2, e2, rfl⟩ := two_hds hmap
  have HRL := Lib.hid hrl
  have hX4 := Lib.hid (hX3.out.below hb4 (by omega))
  have HBx4 := Lib.hid (HBx3.out.trans (hb4.mono HBx3.out.size))
  have HA4 := Lib.hid ((HA2.out.below HBx4.out (Nat.le_refl _)).more HBx4.out.size)
  have hz4 := hb4.size
  clear p0 p1 p2 p3 hmap hrl HW' hb4
  obtain ⟨p0, p1, p2, p3⟩ := hX4.out
  have hBy := Lib.hid ((Below.refl w4.heap.size w4).alloc (Nat.le_refl _) (.cells #[.int .i64 3, .int .i64 1] 3))
  have HR := mRelabel_any A2 n2 c2 s2 M2 m2 d2 E2 k2 g2 cnA (some ⟨w4.heap.size, 0, none⟩) 2 2 [3, 1] _ ((HA4.out.below hBy.out (Nat.le_refl _)).more hBy.out.size) (own2 (Row.new w4 [.int .i64 3, .int .i64 1] 3)) rfl (Nat.le_refl _) (by omega)
  rw [cn_rel] at HR
  have HR' := Lib.hid HR
  clear HR
  go_wp2_with fail
  refine HR'.out.mono ?_
  rintro e w5 ⟨v5, rfl, hau5, hb5⟩
  obtain ⟨A5, n5, c5, s5, M5, m5, d5, E5, k5, g5, rfl, hA5, _⟩ := hau5
  have HB45 := Lib.hid (hBy.out.trans (hb5.mono hBy.out.size))
  have hX5 := Lib.hid (hX4.out.below HB45.out (by omega))
  have HBx5 := Lib.hid (HBx4.out.trans (HB45.out.mono HBx4.out.size))
  have HA25 := Lib.hid ((HA2.out.below HBx5.out (Nat.le_refl _)).more HBx5.out.size)
  have HA5 := Lib.hid hA5
  have hk5 := hA5.hk
  have hRL5 := Lib.hid ((HRL.out.below HB45.out (Nat.le_refl _)).more HB45.out.size)
  have hz5 := HB45.out.size
  clear p0 p1 p2 p3 hA5 hb5 HRL HR'
  obtain ⟨p0, p1, p2, p3⟩ := hX5.out
  have hlt5 : w2.heap.size < w5.heap.size := by have := HBx5.out.size; omega
  have P0 := fun cs : Array Value => fun ty => (World.cell?_alloc_lt w5 (.cells cs ty) ⟨w2.heap.size, 0, none⟩ hlt5).trans p0
  have P1 := fun cs : Array Value => fun ty => (World.cell?_alloc_lt w5 (.cells cs ty) ⟨w2.heap.size, 1, none⟩ hlt5).trans p1
  have P2 := fun cs : Array Value => fun ty => (World.cell?_alloc_lt w5 (.cells cs ty) ⟨w2.heap.size, 2, none⟩ hlt5).trans p2
  have P3 := fun cs : Array Value => fun ty => (World.cell?_alloc_lt w5 (.cells cs ty) ⟨w2.heap.size, 3, none⟩ hlt5).trans p3
  have hB6 := Lib.hid ((((Below.refl w5.heap.size w5).alloc (Nat.le_refl _) (.cells #[.slice A5 n5 c5, .int .i64 s5, .slice M5 m5 d5, .slice E5 k5 g5] 25)).alloc (by simp) (.cells #[.int .i64 0, .int .i64 2] 3)).alloc (by simp; omega) (.cells #[.int .i64 1] 3) |>.alloc (by simp; omega) (.cells #[.int .i64 0, .int .i64 0, .int .i64 1, .int .i64 0, .int .i64 2, .int .i64 0, .int .i64 1, .int .i64 2, .int .i64 0] 67))
  have hXr := Lib.hid (box_row A5 n5 c5 s5 M5 m5 d5 E5 k5 g5 ((((Row.new w5 [.slice A5 n5 c5, .int .i64 s5, .slice M5 m5 d5, .slice E5 k5 g5] 25).alloc (.cells #[.int .i64 0, .int .i64 2] 3)).alloc (.cells #[.int .i64 1] 3)).alloc (.cells #[.int .i64 0, .int .i64 0, .int .i64 1, .int .i64 0, .int .i64 2, .int .i64 0, .int .i64 1, .int .i64 2, .int .i64 0] 67)))
  have HS := rSame_any A2 n2 c2 s2 M2 m2 d2 E2 k2 g2 (some ⟨w5.heap.size + 1, 0, none⟩) 2 2 2 (some ⟨w5.heap.size + 1 + 1, 0, none⟩) 1 1 (some ⟨w5.heap.size + 1 + 1 + 1, 0, none⟩) 3 3 cnA cnA _ _ ((HA25.out.below hB6.out (Nat.le_refl _)).more hB6.out.size) (au_rows
    (((Row.new' (w5.alloc (.cells #[.slice A5 n5 c5, .int .i64 s5, .slice M5 m5 d5, .slice E5 k5 g5] 25)) [.int .i64 0, .int .i64 2] 3 (by simp)).alloc (.cells #[.int .i64 1] 3)).alloc (.cells #[.int .i64 0, .int .i64 0, .int .i64 1, .int .i64 0, .int .i64 2, .int .i64 0, .int .i64 1, .int .i64 2, .int .i64 0] 67))
    ((Row.new' ((w5.alloc (.cells #[.slice A5 n5 c5, .int .i64 s5, .slice M5 m5 d5, .slice E5 k5 g5] 25)).alloc (.cells #[.int .i64 0, .int .i64 2] 3)) [.int .i64 1] 3 (by simp)).alloc (.cells #[.int .i64 0, .int .i64 0, .int .i64 1, .int .i64 0, .int .i64 2, .int .i64 0, .int .i64 1, .int .i64 2, .int .i64 0] 67))
    (Row.new' (((w5.alloc (.cells #[.slice A5 n5 c5, .int .i64 s5, .slice M5 m5 d5, .slice E5 k5 g5] 25)).alloc (.cells #[.int .i64 0, .int .i64 2] 3)).alloc (.cells #[.int .i64 1] 3)) (encE cnA.ed) 67 (by simp)) rfl rfl rfl rfl (by omega) (by omega) (by omega)) (Nat.le_refl _)
  rw [show decide (cnA = cnA) = true by simp] at HS
  have HS' := Lib.hid HS
  clear HS
  go_wp2_with fail
  refine HS'.out.mono ?_
  rintro e w6 ⟨rfl, hb6⟩
  have HB56 := Lib.hid (hB6.out.trans (hb6.mono hB6.out.size))
  have hXr6 := Lib.hid (hXr.out.below hb6 (by simp; omega))
  have hz6 := hb6.size
  simp only [World.size_alloc] at hz6
  have HRL6 := Lib.hid ((hRL5.out.below HB56.out (Nat.le_refl _)).more HB56.out.size)
  obtain ⟨bL, oL, rfl, hbL, hcL⟩ := HRL6.out (by simp)
  obtain ⟨l0, lr0, _, _⟩ := hcL 0 _ rfl
  obtain ⟨l1, lr1, _, _⟩ := hcL 1 _ rfl
  simp only [Hd.enc] at l0 l1
  rw [Nat.add_zero] at l0
  have LR0 := Lib.hid lr0
  have LR1 := Lib.hid lr1
  have hb7 := Lib.hid ((Below.refl w6.heap.size w6).alloc (Nat.le_refl _) (.cells #[.int .i64 0] 3))
  have HI := sameInts_b B1 (some ⟨w6.heap.size, 0, none⟩) 1 1 e1 1 _ [0] [0] _ ((LR0.out.below hb7.out (Nat.le_refl _)).more hb7.out.size) (Row.rd (zs := [0]) (Row.new w6 [.int .i64 0] 3)) rfl rfl (by omega) (by omega)
  rw [show decide (([0] : List Int) = [0]) = true by simp] at HI
  have HI' := Lib.hid HI
  have hlc2 : 2 ≤ cl := hlc
  clear HI HS' hb6 P0 P1 P2 P3 p0 p1 p2 p3 hcL lr0 lr1 hlc
  go_wp2_with fail
  refine HI'.out.mono ?_
  rintro e w7 ⟨rfl, hb⟩
  have HB67 := Lib.hid (hb7.out.trans (hb.mono hb7.out.size))
  have hz7 := HB67.out.size
  have k1 : w7.cell? ⟨bL, oL + 1, none⟩ = some (.slice B2 2 e2) := (HB67.out.cell (p := ⟨bL, oL + 1, none⟩) hbL).trans l1
  have hb8 := Lib.hid ((Below.refl w7.heap.size w7).alloc (Nat.le_refl _) (.cells #[.int .i64 2, .int .i64 0] 3))
  have HJ := sameInts_b B2 (some ⟨w7.heap.size, 0, none⟩) 2 2 e2 2 _ [2, 0] [2, 0] _ ((((LR1.out.below HB67.out (Nat.le_refl _)).more HB67.out.size).below hb8.out (Nat.le_refl _)).more hb8.out.size) (own2 (Row.new w7 [.int .i64 2, .int .i64 0] 3)) rfl rfl (by omega) (by omega)
  rw [show decide (([2, 0] : List Int) = [2, 0]) = true by simp] at HJ
  have HJ' := Lib.hid HJ
  clear HJ HI' hb l0 l1
  go_wp2_with fail
  refine HJ'.out.mono ?_
  rintro e w8 ⟨rfl, hb⟩
  have HB78 := Lib.hid (hb8.out.trans (hb.mono hb8.out.size))
  have HB68 := Lib.hid (HB67.out.trans (HB78.out.mono HB67.out.size))
  obtain ⟨r0, r1, r2, r3⟩ := hXr6.out.below HB68.out (by omega)
  have HB58 := Lib.hid (HB56.out.trans (HB68.out.mono HB56.out.size))
  obtain ⟨bE, oE, rfl, hbE, hcE⟩ := HA5.out.ed (by show 0 < rlA.ed.length; decide)
  have hE1 : EdAt w8 bE (oE + 1 * 3) ⟨0, 3, 1⟩ := (hcE 1 ⟨0, 3, 1⟩ rfl).keep fun o => HB58.out.cell (p := ⟨bE, o, none⟩) hbE
  obtain ⟨z0, z1, z2⟩ := hE1
  simp only [Nat.one_mul] at z0 z1 z2
  obtain rfl : k5 = 3 := hk5.symm
  have hfin := Lib.hid (HB2.out.trans ((HBx5.out.trans (HB58.out.mono HBx5.out.size)).mono HB2.out.size))
  have hg5 := HA5.out.ck
  clear hb HJ' hcE k1
  go_wp2_with fail
  go_ret
  exact ⟨rfl, hfin.out⟩
end Go.Proofs.Ytcciiikaejjooaa

/- Layer 3: boxes whose cells are known; none of the law's package. -/
namespace Go.Proofs.Ytcciiikaejjooaa
open Go.RowKit Go.Sort

/-- Boxes whose cells are known. -/
def Bxs (w : World) (l : List (Nat × List Value)) : Prop := ∀ b cs, (b, cs) ∈ l → b < w.heap.size ∧ ∀ (i : Nat) v, cs[i]? = some v → w.cell? ⟨b, i, none⟩ = some v
theorem Bxs.nil (w : World) : Bxs w [] := fun b cs h => by simp at h
theorem Bxs.below {w w' : World} {l : List (Nat × List Value)} (h : Bxs w l) (hb : Below w.heap.size w w') : Bxs w' l := fun b cs hm =>
  ⟨Nat.lt_of_lt_of_le (h b cs hm).1 hb.size, fun i v hi => (hb.cell (p := ⟨b, i, none⟩) (h b cs hm).1).trans ((h b cs hm).2 i v hi)⟩
theorem Bxs.drew {w : World} {l : List (Nat × List Value)} (h : Bxs w l) : Bxs w.drew l := fun b cs hm => ⟨(h b cs hm).1, fun i v hi => (h b cs hm).2 i v hi⟩
theorem Bxs.drewN {w : World} {l : List (Nat × List Value)} (h : Bxs w l) (q : Nat) : Bxs (w.drewN q) l := fun b cs hm => ⟨(h b cs hm).1, fun i v hi => (h b cs hm).2 i v hi⟩
theorem Bxs.alloc {w : World} {l : List (Nat × List Value)} (h : Bxs w l) (o : Obj) : Bxs (w.alloc o) l := h.below ((Below.refl _ w).alloc (Nat.le_refl _) o)
theorem Bxs.new {w : World} {l : List (Nat × List Value)} (h : Bxs w l) (cs : List Value) (t : TypeId) : Bxs (w.alloc (.cells cs.toArray t)) ((w.heap.size, cs) :: l) := fun b ds hm => by
  rcases List.mem_cons.1 hm with e | hm
  · injection e with e1 e2
    subst e1 e2
    exact ⟨by simp, fun i v hi => (Row.new w ds t).cell i hi⟩
  · exact h.alloc _ b ds hm
theorem Bxs.tail {w : World} {x : Nat × List Value} {l : List (Nat × List Value)} (h : Bxs w (x :: l)) : Bxs w l := fun b cs hm => h b cs (List.mem_cons_of_mem _ hm)
/-- The first box's cells. -/
theorem Bxs.at {w : World} {l : List (Nat × List Value)} (h : Bxs w l) (j : Nat) {b : Nat} {cs : List Value} (hj : l[j]? = some (b, cs)) (i : Nat) {v : Value} (hi : cs[i]? = some v) : w.cell? ⟨b, i, none⟩ = some v :=
  (h b cs (List.mem_of_getElem? hj)).2 i v hi
theorem Bxs.lt {w : World} {l : List (Nat × List Value)} (h : Bxs w l) (j : Nat) {b : Nat} {cs : List Value} (hj : l[j]? = some (b, cs)) : b < w.heap.size := (h b cs (List.mem_of_getElem? hj)).1
/-- The cells of a box that holds an automaton. -/
theorem Bxs.aut {w : World} {l : List (Nat × List Value)} (h : Bxs w l) (j : Nat) {b : Nat} (A : Option Addr) (n c : Nat) (s : Int) (M : Option Addr) (m d : Nat) (E : Option Addr) (k g : Nat) (hj : l[j]? = some (b, [.slice A n c, .int .i64 s, .slice M m d, .slice E k g])) : BoxA w b A n c s M m d E k g :=
  ⟨h.at j hj 0 rfl, h.at j hj 1 rfl, h.at j hj 2 rfl, h.at j hj 3 rfl⟩

def noneB (n : Nat) (s : Int) (m k : Nat) : Bool := decide (n = 0) && (decide (s = 0) && (decide (m = 0) && decide (k = 0)))
set_option maxHeartbeats 800000 in
theorem none_zero (A : Option Addr) (c : Nat) (M : Option Addr) (d : Nat) (E : Option Addr) (g : Nat) (w : World) : Calls Try.prog 27 #[.agg #[.slice A 0 c, .int .i64 0, .slice M 0 d, .slice E 0 g]] w fun e w' => e = .returned (.bool true) ∧ Below w.heap.size w w' := by
  go_enter Try.func27, Try.ntmps27
  go_wp2
  go_ret
  exact ⟨rfl, (Below.refl _ _).alloc (Nat.le_refl _) _⟩
end Go.Proofs.Ytcciiikaejjooaa

/- Layer 3: what a law's walk keeps: its arguments' memory, its boxes. -/
namespace Go.Proofs.Ytcciiikaejjooaa
open Go.RowKit Go.Sort

/-- The memory that came in is as it was; the boxes' cells are known. -/
structure LW (W : World) (l : List (Nat × List Value)) (w : World) : Prop where
  bel : Below W.heap.size W w
  bx : Bxs w l
section
variable {W w w' : World} {l : List (Nat × List Value)}
theorem LW.call (h : LW W l w) (hb : Below w.heap.size w w') : LW W l w' := ⟨h.bel.trans (hb.mono h.bel.size), h.bx.below hb⟩
theorem LW.drew (h : LW W l w) : LW W l w.drew := ⟨h.bel.drew, h.bx.drew⟩
theorem LW.drewN (h : LW W l w) (q : Nat) : LW W l (w.drewN q) := ⟨below_drewN h.bel q, h.bx.drewN q⟩
theorem LW.alloc (h : LW W l w) (o : Obj) : LW W l (w.alloc o) := ⟨h.bel.alloc h.bel.size o, h.bx.alloc o⟩
theorem LW.new (h : LW W l w) (cs : List Value) (t : TypeId) : LW W ((w.heap.size, cs) :: l) (w.alloc (.cells cs.toArray t)) := ⟨h.bel.alloc h.bel.size _, h.bx.new cs t⟩
theorem LW.first (W : World) (cs : List Value) (t : TypeId) : LW W [(W.heap.size, cs)] (W.alloc (.cells cs.toArray t)) := LW.new ⟨Below.refl _ _, Bxs.nil _⟩ cs t
theorem LW.start (W : World) : LW W [] W := ⟨Below.refl _ _, Bxs.nil _⟩
theorem LW.tail {x : Nat × List Value} (h : LW W (x :: l) w) : LW W l w := ⟨h.bel, h.bx.tail⟩
theorem LW.aut (h : LW W l w) {a : Au} (A : Option Addr) (n c : Nat) (s : Int) (M : Option Addr) (m d : Nat) (E : Option Addr) (k g : Nat) (ha : AuR W W.heap.size A n c s M m d E k g a) : AuR w w.heap.size A n c s M m d E k g a := (ha.below h.bel (Nat.le_refl _)).more h.bel.size
theorem LW.ints (h : LW W l w) {A : Option Addr} {zs : List Int} (ha : RdI W W.heap.size A zs) : RdI w w.heap.size A zs := (ha.below h.bel (Nat.le_refl _)).more h.bel.size
/-- What reads in a world of the way reads on. -/
theorem LW.aut' {w1 : World} {l1 : List (Nat × List Value)} (h : LW w1 l1 w) {a : Au} (A : Option Addr) (n c : Nat) (s : Int) (M : Option Addr) (m d : Nat) (E : Option Addr) (k g : Nat) (ha : AuR w1 w1.heap.size A n c s M m d E k g a) : AuR w w.heap.size A n c s M m d E k g a := (ha.below h.bel (Nat.le_refl _)).more h.bel.size
theorem lw_call {f : FuncId} {args : Array Value} {v : Value} (hc : Calls Try.prog f args w fun e w' => e = .returned v ∧ Below w.heap.size w w') (h : LW W l w) : Calls Try.prog f args w fun e w' => e = .returned v ∧ LW W l w' :=
  hc.mono fun e w' hh => ⟨hh.1, h.call hh.2⟩
theorem lw_pure {f : FuncId} {args : Array Value} {v : Value} (hc : Calls Try.prog f args w fun e w' => e = .returned v ∧ w = w') (h : LW W l w) : Calls Try.prog f args w fun e w' => e = .returned v ∧ LW W l w' :=
  hc.mono fun e w' hh => ⟨hh.1, hh.2 ▸ h⟩
/-- An automaton in new memory: where it lies, and that it reads. -/
theorem lw_gives {f : FuncId} {args : Array Value} {r : Au × Int} (hc : Calls Try.prog f args w fun e w' => GivesA w r e w') (h : LW W l w) : Calls Try.prog f args w fun e w' => ∃ A n c s M m d E k g, e = .returned (.tuple #[.agg #[.slice A n c, .int .i64 s, .slice M m d, .slice E k g], .int .i64 r.2]) ∧ AuR w' w'.heap.size A n c s M m d E k g r.1 ∧ LW W l w' :=
  hc.mono fun e w' hh => by
    obtain ⟨v, e1, ⟨A, n, c, s, M, m, d, E, k, g, rfl, hr, _⟩, hb⟩ := hh
    exact ⟨A, n, c, s, M, m, d, E, k, g, e1, hr, h.call hb⟩
theorem lw_wds {f : FuncId} {args : Array Value} {r : List (List Int) × Int} (hc : Calls Try.prog f args w fun e w' => WdsR r e w' ∧ Below w.heap.size w w') (h : LW W l w) : Calls Try.prog f args w fun e w' => WdsR r e w' ∧ LW W l w' :=
  hc.mono fun e w' hh => ⟨hh.1, h.call hh.2⟩
theorem lw_zero {f : FuncId} {args : Array Value} {u : Int} (hc : Calls Try.prog f args w fun e w' => GivesA w (zeroA, u) e w') (h : LW W l w) : Calls Try.prog f args w fun e w' => ∃ A c M d E g, e = .returned (.tuple #[.agg #[.slice A 0 c, .int .i64 0, .slice M 0 d, .slice E 0 g], .int .i64 u]) ∧ LW W l w' :=
  hc.mono fun e w' hh => by
    obtain ⟨v, e1, ⟨A, n, c, s, M, m, d, E, k, g, rfl, hr, _⟩, hb⟩ := hh
    obtain rfl : n = 0 := hr.hn.symm
    obtain rfl : s = 0 := hr.st.symm
    obtain rfl : m = 0 := hr.hm.symm
    obtain rfl : k = 0 := hr.hk.symm
    exact ⟨A, c, M, d, E, g, e1, h.call hb⟩
theorem lw_wds_nil {f : FuncId} {args : Array Value} {u : Int} (hc : Calls Try.prog f args w fun e w' => WdsR ([], u) e w' ∧ Below w.heap.size w w') (h : LW W l w) : Calls Try.prog f args w fun e w' => ∃ A c, e = .returned (.tuple #[.slice A 0 c, .int .i64 u]) ∧ LW W l w' :=
  hc.mono fun e w' hh => by
    obtain ⟨⟨A, c, hs, e1, e2, _⟩, hb⟩ := hh
    obtain rfl : hs = [] := by simpa using e2
    exact ⟨A, c, e1, h.call hb⟩
end
end Go.Proofs.Ytcciiikaejjooaa

/- Layer 3: Run, Generates, Accepts, Enabled of the reference. -/
namespace Go.Proofs.Ytcciiikaejjooaa
open Go.RowKit Go.Sort

theorem stepI_neg {a : Au} {q ev : Int} (h : stepO a q ev = none) : stepI a q ev = -1 := by rw [stepI, h]; rfl
theorem stepI_pos {a : Au} {q ev t : Int} (h : stepO a q ev = some t) : stepI a q ev = t := by rw [stepI, h]; rfl

set_option maxHeartbeats 4000000 in
set_option maxRecDepth 100000 in
theorem rRun_any (A : Option Addr) (n c : Nat) (s : Int) (M : Option Addr) (m d : Nat) (E : Option Addr) (k g : Nat) (a : Au) (q : Int) (W1 : Option Addr) (l lc : Nat) (ws : List Int) (B : Nat) (w : World) (h : AuR w B A n c s M m d E k g a) (hB : B ≤ w.heap.size) (hr : RightW a) (hw : RdI w B W1 ws) (hl : ws.length = l) (hlb : l ≤ 100000) :
    Calls Try.prog 40 #[.agg #[.slice A n c, .int .i64 s, .slice M m d, .slice E k g], .int .i64 q, .slice W1 l lc] w fun e w' => e = .returned (.tuple #[.int .i64 (runE a q ws).1, .int .i64 (runE a q ws).2]) ∧ Below w.heap.size w w' := by
  have HI0 := Lib.hid (IB.made (A := A) (n := n) (c := c) (s := s) (M := M) (m := m) (d := d) (E := E) (k := k) (g := g) w)
  have HR := Lib.hid h
  have HRI := Lib.hid hr
  have HW := Lib.hid hw
  have HWL := Lib.hid hl
  have HBw := Lib.hid hB
  obtain ⟨v, hv⟩ : ∃ v, v = runE a q ws := ⟨_, rfl⟩
  rw [← hv]
  have HV := Lib.hid hv
  clear h hr hw hl hB hv
  go_enter Try.func40, Try.ntmps40
  go_wp2_with fail
  go_loopw [1, 8] (fun fr i wr => ∃ (t : Nat) (p : Int), t ≤ l ∧ i = .int .i64 t ∧ fr = .int .i64 p ∧ Hid (v = ((runE a p (ws.drop t)).1, (runE a p (ws.drop t)).2 + t)) ∧ Hid (IB w A n c s M m d E k g wr)) (fun _ i _ => l - (intOf i).toNat)
  case atStart => exact ⟨0, q, Nat.zero_le _, rfl, rfl, by show v = _; rw [HV.out, List.drop_zero, Nat.add_zero], HI0⟩
  case round =>
    obtain ⟨t, p, htl, rfl, rfl, hv, hi⟩ := hrel
    by_cases hlt : t < l
    · obtain ⟨b1, o1, rfl, hb1, hc1⟩ := HW.out (by rw [HWL.out]; omega)
      have hz : t < ws.length := by rw [HWL.out]; exact hlt
      obtain ⟨x, hx⟩ : ∃ x, x = ws.getD t 0 := ⟨_, rfl⟩
      have CX := Lib.hid (fun W (hW : Below w.heap.size w W) => by
        have := (hW.cell (p := ⟨b1, o1 + t, none⟩) (Nat.lt_of_lt_of_le hb1 HBw.out)).trans (hc1 t hz)
        rw [← hx] at this; exact this)
      have cx := CX.out wr hi.out.bel
      obtain ⟨p0, p1, p2, p3⟩ := hi.out.bx
      have hid := Lib.hid hi.out.drew
      obtain ⟨tt, htt⟩ : ∃ tt, tt = stepI a p x := ⟨_, rfl⟩
      have HTT := Lib.hid htt
      have HXX := Lib.hid hx
      have HS := Lib.hid (fun W (hI : IB w A n c s M m d E k g W) => (rStep_any A n c s M m d E k g a p x B W (HR.out.below hI.bel HBw.out) (Nat.le_trans HBw.out hI.bel.size)).mono (R' := fun e w' => e = .returned (.int .i64 tt) ∧ IB w A n c s M m d E k g w') fun e w' hh => ⟨by rw [hh.1, htt], hI.call hh.2⟩)
      have z1 : (t : Int) < (l : Int) := by omega
      have z2 : (0 : Int) ≤ (t : Int) := by omega
      clear hc1 hx htt
      go_wp2_with fail
      go_region_held3 (fun w' => w'.cell? ⟨w.heap.size, 0, none⟩ = some (.slice A n c) ∧ w'.cell? ⟨w.heap.size, 1, none⟩ = some (.int .i64 s) ∧ w'.cell? ⟨w.heap.size, 2, none⟩ = some (.slice M m d) ∧ w'.cell? ⟨w.heap.size, 3, none⟩ = some (.slice E k g) ∧ w'.cell? ⟨b1, o1 + t, none⟩ = some (.int .i64 x)) (first | with_reducible exact ⟨p0, p1, p2, p3, cx⟩ | go_keep)
        (first
        | (go_simp; go_at_call 37; (first | with_reducible refine (HS.out _ hi.out).mono ?_ | with_reducible refine (HS.out _ hid.out).mono ?_); rintro e w4 ⟨rfl, hg⟩
           have HG := Lib.hid hg
           have HGd := Lib.hid hg.drew
           obtain ⟨p0, p1, p2, p3⟩ := hg.bx
           have cx := CX.out _ hg.bel
           clear hg))
      all_goals
        cases he : stepO a p x with
        | none =>
          have hto := stepI_neg he
          rw [← HTT.out] at hto
          subst hto
          have hf := Lib.hid (run_step_stop hz HXX.out hv.out he)
          clear he
          go_wp2_with fail
          go_ret2
          exact ⟨by rw [hf.out]; rfl, by first | exact HG.out.bel | exact HGd.out.bel⟩
        | some y =>
          have hto := stepI_pos he
          rw [← HTT.out] at hto
          have hy := (step_range HRI.out he).1
          rw [← hto] at hy he
          have hf := Lib.hid (run_step_go hz HXX.out hv.out he)
          clear he hto
          go_wp2_with fail
          go_roundw
          case rel => exact ⟨t + 1, tt, by omega, by go_num, rfl, hf, by first | exact HG | exact HGd⟩
          case measure => simp [intOf]; omega
    · obtain rfl : t = l := by omega
      have hf := Lib.hid (run_step_end HWL.out.symm hv.out)
      go_wp2_with fail
      go_ret2
      exact ⟨by rw [hf.out]; rfl, hi.out.bel⟩

theorem gen_pos {a : Au} (h : RightW a) (ws : List Int) : genB a ws = (decide (0 < a.st) && decide ((runE a 0 ws).2 = ws.length)) := by
  have := h.st0
  unfold genB
  congr 1
  rw [decide_eq_decide]; omega

set_option maxHeartbeats 4000000 in
set_option maxRecDepth 100000 in
theorem rGenerates_any (A : Option Addr) (n c : Nat) (s : Int) (M : Option Addr) (m d : Nat) (E : Option Addr) (k g : Nat) (a : Au) (W1 : Option Addr) (l lc : Nat) (ws : List Int) (B : Nat) (w : World) (h : AuR w B A n c s M m d E k g a) (hB : B ≤ w.heap.size) (hr : RightW a) (hw : RdI w B W1 ws) (hl : ws.length = l) (hlb : l ≤ 100000) :
    Calls Try.prog 38 #[.agg #[.slice A n c, .int .i64 s, .slice M m d, .slice E k g], .slice W1 l lc] w fun e w' => e = .returned (.bool (genB a ws)) ∧ Below w.heap.size w w' := by
  have hI0 := IB.made (A := A) (n := n) (c := c) (s := s) (M := M) (m := m) (d := d) (E := E) (k := k) (g := g) w
  have HI0 := Lib.hid hI0
  have HRun := Lib.hid (rRun_any A n c s M m d E k g a 0 W1 l lc ws B _ (h.below hI0.bel hB) (Nat.le_trans hB hI0.bel.size) hr (hw.below hI0.bel hB) hl hlb)
  have hg := gen_pos hr ws
  rw [h.st, hl] at hg
  obtain ⟨v, hv⟩ : ∃ v, v = runE a 0 ws := ⟨_, rfl⟩
  rw [← hv] at HRun hg
  rw [hg]
  clear h hB hr hw hl hv hg hI0
  obtain ⟨v1, v2⟩ := v
  by_cases h0 : 0 < s
  · by_cases h2 : v2 = l
    · have hd : ((v2 : Int) == (l : Int)) = true := by simp [h2]
      have hf := Lib.hid (show (decide (0 < s) && decide (v2 = l)) = true by simp [h0, h2])
      clear h2
      rw [hf.out]
      go_enter Try.func38, Try.ntmps38
      go_wp2_with fail
      refine HRun.out.mono ?_
      rintro e w1 ⟨rfl, hb⟩
      have hI1 := Lib.hid (HI0.out.call hb)
      obtain ⟨p0, p1, p2, p3⟩ := hI1.out.bx
      clear hb
      go_wp2_with fail
      go_ret
      exact ⟨rfl, hI1.out.bel⟩
    · have hd : ((v2 : Int) == (l : Int)) = false := by simp; omega
      have hf := Lib.hid (show (decide (0 < s) && decide (v2 = l)) = false by simp [h2])
      clear h2
      rw [hf.out]
      go_enter Try.func38, Try.ntmps38
      go_wp2_with fail
      refine HRun.out.mono ?_
      rintro e w1 ⟨rfl, hb⟩
      have hI1 := Lib.hid (HI0.out.call hb)
      obtain ⟨p0, p1, p2, p3⟩ := hI1.out.bx
      clear hb
      go_wp2_with fail
      go_ret
      exact ⟨rfl, hI1.out.bel⟩
  · have hf := Lib.hid (show (decide (0 < s) && decide (v2 = l)) = false by simp [h0])
    rw [hf.out]
    go_enter Try.func38, Try.ntmps38
    go_wp2_with fail
    refine HRun.out.mono ?_
    rintro e w1 ⟨rfl, hb⟩
    have hI1 := Lib.hid (HI0.out.call hb)
    obtain ⟨p0, p1, p2, p3⟩ := hI1.out.bx
    clear hb
    go_wp2_with fail
    go_ret
    exact ⟨rfl, hI1.out.bel⟩

set_option maxHeartbeats 4000000 in
set_option maxRecDepth 100000 in
theorem rAccepts_any (A : Option Addr) (n c : Nat) (s : Int) (M : Option Addr) (m d : Nat) (E : Option Addr) (k g : Nat) (a : Au) (W1 : Option Addr) (l lc : Nat) (ws : List Int) (B : Nat) (w : World) (h : AuR w B A n c s M m d E k g a) (hB : B ≤ w.heap.size) (hr : RightW a) (hw : RdI w B W1 ws) (hl : ws.length = l) (hlb : l ≤ 100000) :
    Calls Try.prog 39 #[.agg #[.slice A n c, .int .i64 s, .slice M m d, .slice E k g], .slice W1 l lc] w fun e w' => e = .returned (.bool (accB a ws)) ∧ Below w.heap.size w w' := by
  have hI0 := IB.made (A := A) (n := n) (c := c) (s := s) (M := M) (m := m) (d := d) (E := E) (k := k) (g := g) w
  have HI0 := Lib.hid hI0
  have HRun := Lib.hid (rRun_any A n c s M m d E k g a 0 W1 l lc ws B _ (h.below hI0.bel hB) (Nat.le_trans hB hI0.bel.size) hr (hw.below hI0.bel hB) hl hlb)
  have hg := gen_pos hr ws
  rw [h.st, hl] at hg
  have ha : accB a ws = (genB a ws && decide ((runE a 0 ws).1 ∈ a.mr)) := rfl
  obtain ⟨v, hv⟩ : ∃ v, v = runE a 0 ws := ⟨_, rfl⟩
  rw [← hv] at HRun hg ha
  rw [ha, hg]
  have HH := Lib.hid (fun W (hW : Below w.heap.size w W) => rHas_any M m d B a.mr v.1 W (h.mr.below hW hB) h.hm (by have := h.bm; omega))
  obtain ⟨r, hrr⟩ : ∃ r, r = decide (v.1 ∈ a.mr) := ⟨_, rfl⟩
  rw [← hrr] at HH ⊢
  clear h hB hr hw hl hv hg hI0 ha hrr
  obtain ⟨v1, v2⟩ := v
  by_cases h0 : 0 < s
  · by_cases h2 : v2 = l
    · have hd : ((v2 : Int) == (l : Int)) = true := by simp [h2]
      have hf := Lib.hid (show ((decide (0 < s) && decide (v2 = l)) && r) = r by simp [h0, h2])
      clear h2
      show Calls _ _ _ _ fun e w' => e = .returned (.bool ((decide (0 < s) && decide (v2 = l)) && r)) ∧ _
      rw [hf.out]
      go_enter Try.func39, Try.ntmps39
      go_wp2_with fail
      refine HRun.out.mono ?_
      rintro e w1 ⟨rfl, hb⟩
      have hI1 := Lib.hid (HI0.out.call hb)
      obtain ⟨p0, p1, p2, p3⟩ := hI1.out.bx
      clear hb
      go_wp2_with fail
      refine (HH.out _ hI1.out.bel).mono ?_
      rintro e w2 ⟨rfl, rfl⟩
      go_wp2_with fail
      go_ret
      exact ⟨rfl, hI1.out.bel⟩
    · have hd : ((v2 : Int) == (l : Int)) = false := by simp; omega
      have hf := Lib.hid (show ((decide (0 < s) && decide (v2 = l)) && r) = false by simp [h2])
      clear h2
      show Calls _ _ _ _ fun e w' => e = .returned (.bool ((decide (0 < s) && decide (v2 = l)) && r)) ∧ _
      rw [hf.out]
      go_enter Try.func39, Try.ntmps39
      go_wp2_with fail
      refine HRun.out.mono ?_
      rintro e w1 ⟨rfl, hb⟩
      have hI1 := Lib.hid (HI0.out.call hb)
      obtain ⟨p0, p1, p2, p3⟩ := hI1.out.bx
      clear hb
      go_wp2_with fail
      go_ret
      exact ⟨rfl, hI1.out.bel⟩
  · have hf := Lib.hid (show ((decide (0 < s) && decide (v2 = l)) && r) = false by simp [h0])
    show Calls _ _ _ _ fun e w' => e = .returned (.bool ((decide (0 < s) && decide (v2 = l)) && r)) ∧ _
    rw [hf.out]
    go_enter Try.func39, Try.ntmps39
    go_wp2_with fail
    refine HRun.out.mono ?_
    rintro e w1 ⟨rfl, hb⟩
    have hI1 := Lib.hid (HI0.out.call hb)
    obtain ⟨p0, p1, p2, p3⟩ := hI1.out.bx
    clear hb
    go_wp2_with fail
    go_ret
    exact ⟨rfl, hI1.out.bel⟩

/-- The events of a state, by the alphabet. -/
def enI (a : Au) (q : Int) : List Int := a.al.filter fun ev => (stepO a q ev).isSome
theorem en_eq {a : Au} (h : RightW a) (q : Int) : (succ a.ed q).map Ed.e = enI a q := by
  rw [succ_eq h, enI, List.map_filterMap]
  have : ∀ l : List Int, l.filterMap (fun x => Option.map Ed.e (edgeO a.ed q x)) = l.filter fun ev => (stepO a q ev).isSome := fun l => by
    induction l with
    | nil => rfl
    | cons x l ih =>
      rw [List.filterMap_cons, List.filter_cons]
      unfold stepO
      cases he : edgeO a.ed q x with
      | none => simp only [Option.map_none, Option.isSome_none, Bool.false_eq_true, if_false]; exact ih
      | some y =>
        have hy := ((edgeO_some h.edo).1 he).2.2
        simp only [Option.map_some, Option.isSome_some, if_true]
        rw [hy]; exact congrArg _ ih
  exact this a.al

set_option maxHeartbeats 4000000 in
set_option maxRecDepth 100000 in
theorem rEnabled_any (A : Option Addr) (n c : Nat) (s : Int) (M : Option Addr) (m d : Nat) (E : Option Addr) (k g : Nat) (a : Au) (q : Int) (B : Nat) (w : World) (h : AuR w B A n c s M m d E k g a) (hB : B ≤ w.heap.size) (hr : RightW a) :
    Calls Try.prog 35 #[.agg #[.slice A n c, .int .i64 s, .slice M m d, .slice E k g], .int .i64 q] w fun e w' => GivesC w (enI a q) e w' := by
  have HI0 := Lib.hid (IB.made (A := A) (n := n) (c := c) (s := s) (M := M) (m := m) (d := d) (E := E) (k := k) (g := g) w)
  have HR := Lib.hid h
  have HRI := Lib.hid hr
  have HBw := Lib.hid hB
  have hbn := h.bn
  obtain ⟨i0, hi, hz0, hz1, hz2⟩ := info_parts info_int
  clear h hr hB
  obtain ⟨P, hP⟩ : ∃ P : Int → Bool, P = fun ev => (stepO a q ev).isSome := ⟨_, rfl⟩
  have HP := Lib.hid hP
  have hen : enI a q = a.al.filter P := by rw [hP]; rfl
  rw [hen]
  clear hP hen
  go_enter Try.func35, Try.ntmps35
  go_wp2_with fail
  go_loopw [5, 6] (fun v i wr => ∃ t : Nat, t ≤ n ∧ i = .int .i64 t ∧ Hid (Own wr (w.heap.size + 1) v ((a.al.take t).filter P)) ∧ Hid (IB w A n c s M m d E k g wr)) (fun _ i _ => n - (intOf i).toNat)
  case atStart => exact ⟨0, Nat.zero_le _, rfl, World.ownsRow_nil _ _ _ _, HI0⟩
  case round =>
    obtain ⟨t, htn, rfl, hown, hi'⟩ := hrel
    obtain ⟨p0, p1, p2, p3⟩ := hi'.out.bx
    have hsz := hi'.out.lt
    by_cases hlt : t < n
    · obtain ⟨b1, o1, rfl, hb1, hc1⟩ := HR.out.al (by rw [HR.out.hn]; omega)
      have hz : t < a.al.length := by rw [HR.out.hn]; exact hlt
      obtain ⟨x, hx⟩ : ∃ x, x = a.al.getD t 0 := ⟨_, rfl⟩
      have CX := Lib.hid (fun W (hW : Below w.heap.size w W) => by
        have := (hW.cell (p := ⟨b1, o1 + t, none⟩) (Nat.lt_of_lt_of_le hb1 HBw.out)).trans (hc1 t hz)
        rw [← hx] at this; exact this)
      have cx := CX.out wr hi'.out.bel
      obtain ⟨tt, htt⟩ : ∃ tt, tt = stepI a q x := ⟨_, rfl⟩
      obtain ⟨K0, hK0⟩ : ∃ K0, K0 = (a.al.take t).filter P := ⟨_, rfl⟩
      have hll := filter_take_le P a.al t
      rw [← hK0] at hown hll
      have hid := Lib.hid hi'.out.drew
      have howd := Lib.hid (show Own wr.drew (w.heap.size + 1) u5 K0 from hown.out)
      have HS := Lib.hid (fun W (hO : Own W (w.heap.size + 1) u5 K0) (hI : IB w (some ⟨b1, o1, none⟩) n c s M m d E k g W) => (rStep_any (some ⟨b1, o1, none⟩) n c s M m d E k g a q x B W (HR.out.below hI.bel HBw.out) (Nat.le_trans HBw.out hI.bel.size)).mono (R' := fun e w' => e = .returned (.int .i64 tt) ∧ Own w' (w.heap.size + 1) u5 K0 ∧ IB w (some ⟨b1, o1, none⟩) n c s M m d E k g w') fun e w' hh => ⟨by rw [hh.1, htt], own_kept hO hh.2, hI.call hh.2⟩)
      have HTT := Lib.hid htt
      have HXX := Lib.hid hx
      have HK0 := Lib.hid hK0
      have z1 : (t : Int) < (n : Int) := by omega
      have z2 : (0 : Int) ≤ (t : Int) := by omega
      clear hc1 hx htt hK0
      go_wp2_with fail
      go_region_held3 (fun w' => w'.cell? ⟨w.heap.size, 0, none⟩ = some (.slice (some ⟨b1, o1, none⟩) n c) ∧ w'.cell? ⟨w.heap.size, 1, none⟩ = some (.int .i64 s) ∧ w'.cell? ⟨w.heap.size, 2, none⟩ = some (.slice M m d) ∧ w'.cell? ⟨w.heap.size, 3, none⟩ = some (.slice E k g) ∧ w'.cell? ⟨b1, o1 + t, none⟩ = some (.int .i64 x)) (first | with_reducible exact ⟨p0, p1, p2, p3, cx⟩ | go_keep)
        (first
        | (go_simp; go_at_call 37; (first | with_reducible refine (HS.out _ hown.out hi'.out).mono ?_ | with_reducible refine (HS.out _ howd.out hid.out).mono ?_); rintro e w4 ⟨rfl, ho, hg⟩
           have HO := Lib.hid ho
           have HG := Lib.hid hg
           obtain ⟨p0, p1, p2, p3⟩ := hg.bx
           have cx := CX.out _ hg.bel
           clear hg ho))
      all_goals
        have hs4 := HG.out.lt
        cases he : stepO a q x with
        | none =>
          have hto := stepI_neg he
          rw [← HTT.out] at hto
          subst hto
          have hnx := Lib.hid (show (a.al.take (t + 1)).filter P = K0 by rw [filter_take_no hz (by rw [HP.out]; simp only; rw [← HXX.out, he]; rfl), HK0.out])
          clear he
          go_wp2_with fail
          go_roundw
          case rel => exact ⟨t + 1, by omega, by go_num, by rw [hnx.out]; exact HO, HG⟩
          case measure => simp [intOf]; omega
        | some y =>
          have hto := stepI_pos he
          rw [← HTT.out] at hto
          have hy := (step_range HRI.out he).1
          rw [← hto] at hy
          have hnx := Lib.hid (show (a.al.take (t + 1)).filter P = K0 ++ [x] by rw [filter_take_yes hz (by rw [HP.out]; simp only; rw [← HXX.out, he]; rfl), HK0.out, HXX.out])
          clear he hto
          go_wp2_with (at_builtin; refine wpList_append_own _ rfl _ _ 22 rfl (w.heap.size + 1) 3 i0 (.int .i64 0) 1 8 Try.underlying22 hi hz0 hz1 hz2 rfl (by decide) _ _ _ rfl (HO.out.alloc _) ⟨w4.heap.size, 0, none⟩ 1 1 [.int .i64 x] rfl rfl (news_one (by simp)) (by intro u hu; simp at hu; subst hu; rfl) (by unfold maxLen; omega) (by omega) (by simp; omega) ?_)
          intro v5 w5 hown5 hgrow5 _
          have hO5 : Own w5 (w.heap.size + 1) v5 (K0 ++ [x]) := by simpa [Own] using hown5
          have hb5 : Below (w.heap.size + 1) w4 w5 := ((Below.refl _ w4).alloc (by omega) _).grown hgrow5 (by simp; omega) (fun j hj => (HO.out.lt j hj).1)
          have hI5 := Lib.hid (show IB w (some ⟨b1, o1, none⟩) n c s M m d E k g w5 from ⟨HG.out.bel.trans (hb5.mono (by omega)), HG.out.bx.below hb5 (by omega), Nat.lt_of_lt_of_le hs4 hb5.size⟩)
          have HO5 := Lib.hid hO5
          clear hown5 hgrow5 hO5 hb5
          go_wp2_with fail
          go_roundw
          case rel => exact ⟨t + 1, by omega, by go_num, by rw [hnx.out]; exact HO5, hI5⟩
          case measure => simp [intOf]; omega
    · obtain rfl : t = n := by omega
      rw [List.take_of_length_le (by rw [HR.out.hn]; exact Nat.le_refl _)] at hown
      obtain ⟨A', c', rfl, hrd, hc1, hc2⟩ := own_rdc hown.out
      have HRD := Lib.hid hrd
      clear hown hrd
      go_wp2_with fail
      go_ret
      exact ⟨A', c', rfl, HRD.out, hi'.out.bel, hc1, hc2⟩
end Go.Proofs.Ytcciiikaejjooaa

/- Layer 3: what is told of graphs that came in; Events, Make and other calls in a law's walk over graphs. -/
namespace Go.Proofs.Ytcciiikaejjooaa

section
open Go.ChangeShapes Go.WideShapes Go.ChangeAt Go.RowKit Go.Deep
section
variable {H : Type} {enc : TypeId × Value → H} {W : World} {d : DataW H} {p : List MemPlace} {v : Value} {base : Nat}
theorem open_u8 {n : Nat} {c : Value} {y : DataW H × List MemPlace} (hf : DataW.trod enc Try.prog W 0 (fun _ => true) true n 5 [c] = some y) : ∃ z, c = .int .u8 z ∧ 0 ≤ z ∧ z < 256 := by
  obtain ⟨q, e, _, hw⟩ := DataW.trod_int Try.underlying5 hf
  simp at e
  subst e
  exact ⟨q, rfl, by simp [Lit.wf, IntKind.min, IntKind.max, IntKind.signed, IntKind.bits] at hw; omega⟩
theorem drop_one {cs : List Value} {i : Nat} (h : i < cs.length) : (cs.drop i).take 1 = [cs[i]] := by
  rw [List.drop_eq_getElem_cons h]; rfl
set_option maxRecDepth 8000 in
theorem open_graph (hval : Value.okWide Try.prog W .any base 50 v) (h : DataW.Trod enc Try.prog W 0 (fun _ => true) true 50 v d p) : ∃ cs, v = .agg cs ∧ GrC cs := by
  simp only [Value.okWide, Try.underlying50] at hval
  obtain ⟨cs, rfl, hsz, _⟩ := hval
  have h27 : Try.prog.cellsOf 50 = 27 := by kernel_rfl
  have h25 : Try.prog.cellsOf 48 = 25 := by kernel_rfl
  have h5 : Try.prog.cellsOf 47 = 5 := by kernel_rfl
  have h1 : Try.prog.cellsOf 5 = 1 := by kernel_rfl
  rw [h27] at hsz
  obtain ⟨fuel, hf⟩ := h
  obtain ⟨ys, n', _, hx, _, hyl, hfd⟩ := DataW.trod_struct Try.underlying50 hf
  have hcl : cs.toList.length = 27 := by simpa using hsz
  match ys, hyl with
  | [y0, y1, y2], _ =>
    have f0 : DataW.trod enc Try.prog W 0 (fun _ => true) true n' 5 ((cs.toList.drop 0).take (Try.prog.cellsOf 5)) = some y0 := hfd 0 _ rfl
    have f1 : DataW.trod enc Try.prog W 0 (fun _ => true) true n' 5 ((cs.toList.drop 1).take (Try.prog.cellsOf 5)) = some y1 := hfd 1 _ rfl
    have f2 : DataW.trod enc Try.prog W 0 (fun _ => true) true n' 48 ((cs.toList.drop 2).take (Try.prog.cellsOf 48)) = some y2 := hfd 2 _ rfl
    rw [h1, drop_one (by omega)] at f0 f1
    rw [h25] at f2
    obtain ⟨a0, e0, b0⟩ := open_u8 f0
    obtain ⟨a1, e1, b1⟩ := open_u8 f1
    obtain ⟨xs, m, _, hx2, _, hl2, hi2⟩ := DataW.trod_array Try.underlying48 f2
    refine ⟨cs, rfl, hsz, fun i hi => ?_⟩
    have key : ∃ x : Int, cs.toList[i]'(by omega) = .int .u8 x ∧ 0 ≤ x ∧ x < 256 := by
      rcases Nat.lt_or_ge i 2 with h2 | h2
      · rcases Nat.lt_or_ge i 1 with h3 | h3
        · obtain rfl : i = 0 := by omega
          exact ⟨a0, e0, b0⟩
        · obtain rfl : i = 1 := by omega
          exact ⟨a1, e1, b1⟩
      · obtain ⟨q, r, hq, hr, he⟩ : ∃ q r, q < 5 ∧ r < 5 ∧ i = 2 + q * 5 + r := ⟨(i - 2) / 5, (i - 2) % 5, by omega, by omega, by omega⟩
        have g := hi2 q hq
        rw [List.getElem?_eq_getElem (by omega), h5] at g
        obtain ⟨zs, m2, _, _, _, hl3, hi3⟩ := DataW.trod_array Try.underlying47 g
        have g2 := hi3 r hr
        rw [List.getElem?_eq_getElem (by omega), h1, Nat.mul_one] at g2
        rw [drop_one (by simp; omega)] at g2
        obtain ⟨x, ex, bx⟩ := open_u8 g2
        refine ⟨x, ?_, bx⟩
        rw [← ex]
        simp only [List.getElem_take, List.getElem_drop]
        congr 1
        omega
    obtain ⟨x, ex, bx⟩ := key
    refine ⟨x, ?_, bx⟩
    rw [← ex]
    simp [hsz, hi]
set_option maxRecDepth 100000 in
theorem list27 (gv : Nat → Value) : ([gv 0, gv 1, gv 2, gv 3, gv 4, gv 5, gv 6, gv 7, gv 8, gv 9, gv 10, gv 11, gv 12, gv 13, gv 14, gv 15, gv 16, gv 17, gv 18, gv 19, gv 20, gv 21, gv 22, gv 23, gv 24, gv 25, gv 26] : List Value) = (List.range 27).map gv := rfl
theorem grid27 {gv : Nat → Value} : ∀ i : Nat, i < 27 → ([gv 0, gv 1, gv 2, gv 3, gv 4, gv 5, gv 6, gv 7, gv 8, gv 9, gv 10, gv 11, gv 12, gv 13, gv 14, gv 15, gv 16, gv 17, gv 18, gv 19, gv 20, gv 21, gv 22, gv 23, gv 24, gv 25, gv 26] : List Value)[i]? = some (gv i) := by
  intro i hi
  rw [list27, List.getElem?_map, List.getElem?_range hi]; rfl
set_option maxRecDepth 100000 in
theorem graph_form {cs : Array Value} (h : GrC cs) : ∃ gv : Nat → Value, cs = #[gv 0, gv 1, gv 2, gv 3, gv 4, gv 5, gv 6, gv 7, gv 8, gv 9, gv 10, gv 11, gv 12, gv 13, gv 14, gv 15, gv 16, gv 17, gv 18, gv 19, gv 20, gv 21, gv 22, gv 23, gv 24, gv 25, gv 26] := by
  refine ⟨fun i => cs[i]?.getD (Value.bool false), ?_⟩
  have e : ∀ gv : Nat → Value, #[gv 0, gv 1, gv 2, gv 3, gv 4, gv 5, gv 6, gv 7, gv 8, gv 9, gv 10, gv 11, gv 12, gv 13, gv 14, gv 15, gv 16, gv 17, gv 18, gv 19, gv 20, gv 21, gv 22, gv 23, gv 24, gv 25, gv 26] = ((List.range 27).map gv).toArray := fun gv => congrArg List.toArray (list27 gv)
  refine Eq.trans ?_ (e (fun i => cs[i]?.getD (Value.bool false))).symm
  refine Array.ext_getElem? fun i => ?_
  by_cases hi : i < 27
  · simp [h.sz, hi]
  · rw [Array.getElem?_eq_none (by rw [h.sz]; omega), Array.getElem?_eq_none (by simp; omega)]
set_option maxRecDepth 100000 in
theorem open_graph2 (hval : Value.okWide Try.prog W .any base 50 v) (h : DataW.Trod enc Try.prog W 0 (fun _ => true) true 50 v d p) : ∃ gv : Nat → Value, v = .agg #[gv 0, gv 1, gv 2, gv 3, gv 4, gv 5, gv 6, gv 7, gv 8, gv 9, gv 10, gv 11, gv 12, gv 13, gv 14, gv 15, gv 16, gv 17, gv 18, gv 19, gv 20, gv 21, gv 22, gv 23, gv 24, gv 25, gv 26] ∧ GrC #[gv 0, gv 1, gv 2, gv 3, gv 4, gv 5, gv 6, gv 7, gv 8, gv 9, gv 10, gv 11, gv 12, gv 13, gv 14, gv 15, gv 16, gv 17, gv 18, gv 19, gv 20, gv 21, gv 22, gv 23, gv 24, gv 25, gv 26] := by
  obtain ⟨cs, rfl, hg⟩ := open_graph hval h
  obtain ⟨gv, rfl⟩ := graph_form hg
  exact ⟨gv, rfl, hg⟩
theorem open_int1 {n : Nat} {c : Value} {y : DataW H × List MemPlace} (hf : DataW.trod enc Try.prog W 0 (fun _ => true) true n 3 [c] = some y) : ∃ z, c = .int .i64 z := by
  obtain ⟨q, e, _, _⟩ := DataW.trod_int Try.underlying3 hf
  simp at e
  exact ⟨q, e⟩
set_option maxRecDepth 8000 in
theorem open_arr2 (hval : Value.okWide Try.prog W .any base 51 v) (h : DataW.Trod enc Try.prog W 0 (fun _ => true) true 51 v d p) : ∃ x y : Int, v = .agg #[.int .i64 x, .int .i64 y] := by
  simp only [Value.okWide, Try.underlying51] at hval
  obtain ⟨cs, rfl, hsz, _⟩ := hval
  have h2 : Try.prog.cellsOf 51 = 2 := by kernel_rfl
  have h1 : Try.prog.cellsOf 3 = 1 := by kernel_rfl
  rw [h2] at hsz
  obtain ⟨fuel, hf⟩ := h
  obtain ⟨xs, m, _, hx, _, hl, hi⟩ := DataW.trod_array Try.underlying51 hf
  obtain ⟨l⟩ := cs
  match l, hsz with
  | [s0, s1], _ =>
    match xs, hl with
    | [y0, y1], _ =>
      have f0 := hi 0 (by decide)
      have f1 := hi 1 (by decide)
      rw [h1] at f0 f1
      have e0 : DataW.trod enc Try.prog W 0 (fun _ => true) true m 3 [s0] = some y0 := f0
      have e1 : DataW.trod enc Try.prog W 0 (fun _ => true) true m 3 [s1] = some y1 := f1
      obtain ⟨a, rfl⟩ := open_int1 e0
      obtain ⟨b, rfl⟩ := open_int1 e1
      exact ⟨a, b, rfl⟩
end
end

section
open Go.RowKit Go.Sort
theorem Bxs.range {w : World} {l : List (Nat × List Value)} (h : Bxs w l) (j : Nat) {b : Nat} {cs : List Value} (hj : l[j]? = some (b, cs)) : w.rangeAt b 0 cs := fun i v hi => by
  have := h.at j hj i hi
  simpa using this
/-- The cells of a graph's box. -/
theorem Bxs.grid {w : World} {l : List (Nat × List Value)} (h : Bxs w l) (j : Nat) {b : Nat} {gv : Nat → Value} (hj : l[j]? = some (b, [gv 0, gv 1, gv 2, gv 3, gv 4, gv 5, gv 6, gv 7, gv 8, gv 9, gv 10, gv 11, gv 12, gv 13, gv 14, gv 15, gv 16, gv 17, gv 18, gv 19, gv 20, gv 21, gv 22, gv 23, gv 24, gv 25, gv 26])) : ∀ i : Nat, i < 27 → w.cell? ⟨b, i, none⟩ = some (gv i) := fun i hi => h.at j hj i (grid27 i hi)
/-- A graph's box is there. -/
def GridOk (w : World) (b : Nat) : Prop := ∀ i : Nat, i < 27 → (w.cell? ⟨b, i, none⟩).isSome = true
theorem gridOk {w : World} {b : Nat} {gv : Nat → Value} (h : ∀ i : Nat, i < 27 → w.cell? ⟨b, i, none⟩ = some (gv i)) : GridOk w b := fun i hi => by rw [h i hi]; rfl
theorem grid_two {w : World} {b : Nat} {gv : Nat → Value} (h : ∀ i : Nat, i < 27 → w.cell? ⟨b, i, none⟩ = some (gv i)) : GridOk w b ∧ ∀ i : Nat, i < 27 → w.cell? ⟨b, i, none⟩ = some (gv i) := ⟨gridOk h, h⟩
/-- A graph's box is read. -/
theorem load_graph (w : World) (b : Nat) (h : GridOk w b) : (Instr.loadAt 50 (.pointer (some ⟨b, 0, none⟩))).run Try.prog w = .ok (.agg #[(w.cell? ⟨b, 0, none⟩).getD (Value.bool false), (w.cell? ⟨b, 1, none⟩).getD (Value.bool false), (w.cell? ⟨b, 2, none⟩).getD (Value.bool false), (w.cell? ⟨b, 3, none⟩).getD (Value.bool false), (w.cell? ⟨b, 4, none⟩).getD (Value.bool false), (w.cell? ⟨b, 5, none⟩).getD (Value.bool false), (w.cell? ⟨b, 6, none⟩).getD (Value.bool false), (w.cell? ⟨b, 7, none⟩).getD (Value.bool false), (w.cell? ⟨b, 8, none⟩).getD (Value.bool false), (w.cell? ⟨b, 9, none⟩).getD (Value.bool false), (w.cell? ⟨b, 10, none⟩).getD (Value.bool false), (w.cell? ⟨b, 11, none⟩).getD (Value.bool false), (w.cell? ⟨b, 12, none⟩).getD (Value.bool false), (w.cell? ⟨b, 13, none⟩).getD (Value.bool false), (w.cell? ⟨b, 14, none⟩).getD (Value.bool false), (w.cell? ⟨b, 15, none⟩).getD (Value.bool false), (w.cell? ⟨b, 16, none⟩).getD (Value.bool false), (w.cell? ⟨b, 17, none⟩).getD (Value.bool false), (w.cell? ⟨b, 18, none⟩).getD (Value.bool false), (w.cell? ⟨b, 19, none⟩).getD (Value.bool false), (w.cell? ⟨b, 20, none⟩).getD (Value.bool false), (w.cell? ⟨b, 21, none⟩).getD (Value.bool false), (w.cell? ⟨b, 22, none⟩).getD (Value.bool false), (w.cell? ⟨b, 23, none⟩).getD (Value.bool false), (w.cell? ⟨b, 24, none⟩).getD (Value.bool false), (w.cell? ⟨b, 25, none⟩).getD (Value.bool false), (w.cell? ⟨b, 26, none⟩).getD (Value.bool false)]) w := by
  obtain ⟨gv, hgv⟩ : ∃ gv : Nat → Value, gv = fun i => (w.cell? ⟨b, i, none⟩).getD (Value.bool false) := ⟨_, rfl⟩
  have e : ∀ i, (w.cell? ⟨b, i, none⟩).getD (Value.bool false) = gv i := fun i => by rw [hgv]
  simp only [e]
  refine run_loadAt_mid w b 0 50 [gv 0, gv 1, gv 2, gv 3, gv 4, gv 5, gv 6, gv 7, gv 8, gv 9, gv 10, gv 11, gv 12, gv 13, gv 14, gv 15, gv 16, gv 17, gv 18, gv 19, gv 20, gv 21, gv 22, gv 23, gv 24, gv 25, gv 26] _ (fun i v hi => ?_) Try.underlying50 rfl (by kernel_rfl)
  have hi27 : i < 27 := (List.getElem?_eq_some_iff.1 hi).1
  rw [grid27 i hi27] at hi
  injection hi with hi
  obtain ⟨u, hu⟩ := Option.isSome_iff_exists.1 (h i hi27)
  rw [Nat.zero_add, ← hi, ← e, hu]; rfl
def blkOf : Value → Nat
  | .pointer (some a) => a.block
  | _ => 0
theorem blkOf_ptr (b o : Nat) : blkOf (.pointer (some ⟨b, o, none⟩)) = b := rfl
theorem load_graph' (w : World) (p : Value) (hp : p = .pointer (some ⟨blkOf p, 0, none⟩)) (h : GridOk w (blkOf p)) : (Instr.loadAt 50 p).run Try.prog w = .ok (.agg #[(w.cell? ⟨blkOf p, 0, none⟩).getD (Value.bool false), (w.cell? ⟨blkOf p, 1, none⟩).getD (Value.bool false), (w.cell? ⟨blkOf p, 2, none⟩).getD (Value.bool false), (w.cell? ⟨blkOf p, 3, none⟩).getD (Value.bool false), (w.cell? ⟨blkOf p, 4, none⟩).getD (Value.bool false), (w.cell? ⟨blkOf p, 5, none⟩).getD (Value.bool false), (w.cell? ⟨blkOf p, 6, none⟩).getD (Value.bool false), (w.cell? ⟨blkOf p, 7, none⟩).getD (Value.bool false), (w.cell? ⟨blkOf p, 8, none⟩).getD (Value.bool false), (w.cell? ⟨blkOf p, 9, none⟩).getD (Value.bool false), (w.cell? ⟨blkOf p, 10, none⟩).getD (Value.bool false), (w.cell? ⟨blkOf p, 11, none⟩).getD (Value.bool false), (w.cell? ⟨blkOf p, 12, none⟩).getD (Value.bool false), (w.cell? ⟨blkOf p, 13, none⟩).getD (Value.bool false), (w.cell? ⟨blkOf p, 14, none⟩).getD (Value.bool false), (w.cell? ⟨blkOf p, 15, none⟩).getD (Value.bool false), (w.cell? ⟨blkOf p, 16, none⟩).getD (Value.bool false), (w.cell? ⟨blkOf p, 17, none⟩).getD (Value.bool false), (w.cell? ⟨blkOf p, 18, none⟩).getD (Value.bool false), (w.cell? ⟨blkOf p, 19, none⟩).getD (Value.bool false), (w.cell? ⟨blkOf p, 20, none⟩).getD (Value.bool false), (w.cell? ⟨blkOf p, 21, none⟩).getD (Value.bool false), (w.cell? ⟨blkOf p, 22, none⟩).getD (Value.bool false), (w.cell? ⟨blkOf p, 23, none⟩).getD (Value.bool false), (w.cell? ⟨blkOf p, 24, none⟩).getD (Value.bool false), (w.cell? ⟨blkOf p, 25, none⟩).getD (Value.bool false), (w.cell? ⟨blkOf p, 26, none⟩).getD (Value.bool false)]) w := by
  obtain ⟨b, hb⟩ : ∃ b, b = blkOf p := ⟨_, rfl⟩
  rw [← hb] at hp h ⊢
  subst hp
  exact load_graph w b h
theorem exec_load_graph (ρ : Operand → Value) (o : Oper) (w : World) (x : Operand) (ho : o.op = .load 50 x) (hp : ρ x = .pointer (some ⟨blkOf (ρ x), 0, none⟩)) (h : GridOk w (blkOf (ρ x))) : (execOp ρ o).run Try.prog w = .ok (.value (.agg #[(w.cell? ⟨blkOf (ρ x), 0, none⟩).getD (Value.bool false), (w.cell? ⟨blkOf (ρ x), 1, none⟩).getD (Value.bool false), (w.cell? ⟨blkOf (ρ x), 2, none⟩).getD (Value.bool false), (w.cell? ⟨blkOf (ρ x), 3, none⟩).getD (Value.bool false), (w.cell? ⟨blkOf (ρ x), 4, none⟩).getD (Value.bool false), (w.cell? ⟨blkOf (ρ x), 5, none⟩).getD (Value.bool false), (w.cell? ⟨blkOf (ρ x), 6, none⟩).getD (Value.bool false), (w.cell? ⟨blkOf (ρ x), 7, none⟩).getD (Value.bool false), (w.cell? ⟨blkOf (ρ x), 8, none⟩).getD (Value.bool false), (w.cell? ⟨blkOf (ρ x), 9, none⟩).getD (Value.bool false), (w.cell? ⟨blkOf (ρ x), 10, none⟩).getD (Value.bool false), (w.cell? ⟨blkOf (ρ x), 11, none⟩).getD (Value.bool false), (w.cell? ⟨blkOf (ρ x), 12, none⟩).getD (Value.bool false), (w.cell? ⟨blkOf (ρ x), 13, none⟩).getD (Value.bool false), (w.cell? ⟨blkOf (ρ x), 14, none⟩).getD (Value.bool false), (w.cell? ⟨blkOf (ρ x), 15, none⟩).getD (Value.bool false), (w.cell? ⟨blkOf (ρ x), 16, none⟩).getD (Value.bool false), (w.cell? ⟨blkOf (ρ x), 17, none⟩).getD (Value.bool false), (w.cell? ⟨blkOf (ρ x), 18, none⟩).getD (Value.bool false), (w.cell? ⟨blkOf (ρ x), 19, none⟩).getD (Value.bool false), (w.cell? ⟨blkOf (ρ x), 20, none⟩).getD (Value.bool false), (w.cell? ⟨blkOf (ρ x), 21, none⟩).getD (Value.bool false), (w.cell? ⟨blkOf (ρ x), 22, none⟩).getD (Value.bool false), (w.cell? ⟨blkOf (ρ x), 23, none⟩).getD (Value.bool false), (w.cell? ⟨blkOf (ρ x), 24, none⟩).getD (Value.bool false), (w.cell? ⟨blkOf (ρ x), 25, none⟩).getD (Value.bool false), (w.cell? ⟨blkOf (ρ x), 26, none⟩).getD (Value.bool false)])) w := by
  unfold execOp
  simp only [ho, Sem.run_bind, load_graph' w (ρ x) hp h, Result.andThen_ok, Sem.run_pure]
theorem exec_load_graph' (ρ : Operand → Value) (d : Option Nat) (x : Operand) (T : TypeId) (pos : String) (af) (g) (w : World) (hp : ρ x = .pointer (some ⟨blkOf (ρ x), 0, none⟩)) (h : GridOk w (blkOf (ρ x))) : (execOp ρ { dst := d, op := .load 50 x, type := T, pos := pos, after := af, guard := g }).run Try.prog w = .ok (.value (.agg #[(w.cell? ⟨blkOf (ρ x), 0, none⟩).getD (Value.bool false), (w.cell? ⟨blkOf (ρ x), 1, none⟩).getD (Value.bool false), (w.cell? ⟨blkOf (ρ x), 2, none⟩).getD (Value.bool false), (w.cell? ⟨blkOf (ρ x), 3, none⟩).getD (Value.bool false), (w.cell? ⟨blkOf (ρ x), 4, none⟩).getD (Value.bool false), (w.cell? ⟨blkOf (ρ x), 5, none⟩).getD (Value.bool false), (w.cell? ⟨blkOf (ρ x), 6, none⟩).getD (Value.bool false), (w.cell? ⟨blkOf (ρ x), 7, none⟩).getD (Value.bool false), (w.cell? ⟨blkOf (ρ x), 8, none⟩).getD (Value.bool false), (w.cell? ⟨blkOf (ρ x), 9, none⟩).getD (Value.bool false), (w.cell? ⟨blkOf (ρ x), 10, none⟩).getD (Value.bool false), (w.cell? ⟨blkOf (ρ x), 11, none⟩).getD (Value.bool false), (w.cell? ⟨blkOf (ρ x), 12, none⟩).getD (Value.bool false), (w.cell? ⟨blkOf (ρ x), 13, none⟩).getD (Value.bool false), (w.cell? ⟨blkOf (ρ x), 14, none⟩).getD (Value.bool false), (w.cell? ⟨blkOf (ρ x), 15, none⟩).getD (Value.bool false), (w.cell? ⟨blkOf (ρ x), 16, none⟩).getD (Value.bool false), (w.cell? ⟨blkOf (ρ x), 17, none⟩).getD (Value.bool false), (w.cell? ⟨blkOf (ρ x), 18, none⟩).getD (Value.bool false), (w.cell? ⟨blkOf (ρ x), 19, none⟩).getD (Value.bool false), (w.cell? ⟨blkOf (ρ x), 20, none⟩).getD (Value.bool false), (w.cell? ⟨blkOf (ρ x), 21, none⟩).getD (Value.bool false), (w.cell? ⟨blkOf (ρ x), 22, none⟩).getD (Value.bool false), (w.cell? ⟨blkOf (ρ x), 23, none⟩).getD (Value.bool false), (w.cell? ⟨blkOf (ρ x), 24, none⟩).getD (Value.bool false), (w.cell? ⟨blkOf (ρ x), 25, none⟩).getD (Value.bool false), (w.cell? ⟨blkOf (ρ x), 26, none⟩).getD (Value.bool false)])) w :=
  exec_load_graph ρ _ w x rfl hp h
theorem grid_alloc {w : World} {b : Nat} {gv : Nat → Value} (h : ∀ i : Nat, i < 27 → w.cell? ⟨b, i, none⟩ = some (gv i)) (hlt : b < w.heap.size) (cs : Array Value) (T : TypeId) : ∀ i : Nat, i < 27 → (w.alloc (.cells cs T)).cell? ⟨b, i, none⟩ = some (gv i) := fun i hi => (World.cell?_alloc_lt w (.cells cs T) ⟨b, i, none⟩ hlt).trans (h i hi)
theorem grid_set {w : World} {b : Nat} {gv : Nat → Value} (h : ∀ i : Nat, i < 27 → w.cell? ⟨b, i, none⟩ = some (gv i)) {X j : Nat} (hne : b ≠ X) (v : Value) : ∀ i : Nat, i < 27 → (w.setCell ⟨X, j, none⟩ v).cell? ⟨b, i, none⟩ = some (gv i) := fun i hi => (World.cell?_of_block (a := ⟨b, i, none⟩) (Below.heap_setCell w ⟨X, j, none⟩ v b hne)).trans (h i hi)
theorem grid_made {w : World} {b : Nat} {gv : Nat → Value} (h : ∀ i : Nat, i < 27 → w.cell? ⟨b, i, none⟩ = some (gv i)) (hlt : b < w.heap.size) (cs : Array Value) (T : TypeId) (v0 v1 v2 v3 : Value) : ∀ i : Nat, i < 27 → (((((w.alloc (.cells cs T)).setCell ⟨w.heap.size, 0, none⟩ v0).setCell ⟨w.heap.size, 1, none⟩ v1).setCell ⟨w.heap.size, 2, none⟩ v2).setCell ⟨w.heap.size, 3, none⟩ v3).cell? ⟨b, i, none⟩ = some (gv i) :=
  grid_set (grid_set (grid_set (grid_set (grid_alloc h hlt cs T) (by omega) _) (by omega) _) (by omega) _) (by omega) _
theorem grid_below {w w' : World} {b : Nat} {gv : Nat → Value} (h : ∀ i : Nat, i < 27 → w.cell? ⟨b, i, none⟩ = some (gv i)) (hlt : b < w.heap.size) (hb : Below w.heap.size w w') : ∀ i : Nat, i < 27 → w'.cell? ⟨b, i, none⟩ = some (gv i) := fun i hi => (hb.cell (p := ⟨b, i, none⟩) hlt).trans (h i hi)
theorem grid_below' {w w' : World} {b : Nat} {gv : Nat → Value} (hb : Below w.heap.size w w') (h : ∀ i : Nat, i < 27 → w.cell? ⟨b, i, none⟩ = some (gv i)) (hlt : b < w.heap.size) : ∀ i : Nat, i < 27 → w'.cell? ⟨b, i, none⟩ = some (gv i) := grid_below h hlt hb
theorem lt_alloc {w : World} {b : Nat} (h : b < w.heap.size) (cs : Array Value) (T : TypeId) : b < (w.alloc (.cells cs T)).heap.size := by simp; omega
theorem grid_drew {w : World} {b : Nat} {gv : Nat → Value} (h : ∀ i : Nat, i < 27 → w.cell? ⟨b, i, none⟩ = some (gv i)) : ∀ i : Nat, i < 27 → w.drew.cell? ⟨b, i, none⟩ = some (gv i) := h
theorem lt_drew {w : World} {b : Nat} (h : b < w.heap.size) : b < w.drew.heap.size := h
theorem row_drew {w : World} {g : Nat} {e : TypeId} {cs : List Value} (h : Row w g e cs) : Row w.drew g e cs := h
theorem grid_set4 {w : World} {b X : Nat} {gv : Nat → Value} (h : ∀ i : Nat, i < 27 → w.cell? ⟨b, i, none⟩ = some (gv i)) (hne : b ≠ X) (v0 v1 v2 v3 : Value) : ∀ i : Nat, i < 27 → ((((w.setCell ⟨X, 0, none⟩ v0).setCell ⟨X, 1, none⟩ v1).setCell ⟨X, 2, none⟩ v2).setCell ⟨X, 3, none⟩ v3).cell? ⟨b, i, none⟩ = some (gv i) :=
  grid_set (grid_set (grid_set (grid_set h hne _) hne _) hne _) hne _
/-- An automaton is stored into a box of its own. -/
theorem LW.put {W w : World} {l : List (Nat × List Value)} {b : Nat} {x0 x1 x2 x3 : Value} (h : LW W l w) (hr : Row w b 25 [x0, x1, x2, x3]) (hb : W.heap.size ≤ b) (hne : ∀ x ∈ l, x.1 ≠ b) (v0 v1 v2 v3 : Value) : LW W ((b, [v0, v1, v2, v3]) :: l) ((((w.setCell ⟨b, 0, none⟩ v0).setCell ⟨b, 1, none⟩ v1).setCell ⟨b, 2, none⟩ v2).setCell ⟨b, 3, none⟩ v3) := by
  refine ⟨below_set4 h.bel hb _ _ _ _, fun b' cs hm => ?_⟩
  have hR : Row ((((w.setCell ⟨b, 0, none⟩ v0).setCell ⟨b, 1, none⟩ v1).setCell ⟨b, 2, none⟩ v2).setCell ⟨b, 3, none⟩ v3) b 25 [v0, v1, v2, v3] := (((hr.set 0 v0).set 1 v1).set 2 v2).set 3 v3
  rcases List.mem_cons.1 hm with e | hm
  · injection e with e1 e2
    subst e1 e2
    exact ⟨hR.lt, fun i v hi => hR.cell i hi⟩
  · obtain ⟨h1, h2⟩ := h.bx b' cs hm
    have hn : b' ≠ b := hne _ hm
    refine ⟨by simp only [World.size_setCell]; exact h1, fun i v hi => ?_⟩
    rw [cell_set4 hn]; exact h2 i v hi
theorem AuR.put {w : World} {B b : Nat} {a : Au} (A : Option Addr) (n c : Nat) (s : Int) (M : Option Addr) (m d : Nat) (E : Option Addr) (k g : Nat) (h : AuR w B A n c s M m d E k g a) (hB : B ≤ b) (v0 v1 v2 v3 : Value) : AuR ((((w.setCell ⟨b, 0, none⟩ v0).setCell ⟨b, 1, none⟩ v1).setCell ⟨b, 2, none⟩ v2).setCell ⟨b, 3, none⟩ v3) B A n c s M m d E k g a :=
  h.keep fun b' o hlt => cell_set4 (by omega)
theorem AuF.aur {a : Au} {w : World} {base : Nat} (A : Option Addr) (n c : Nat) (s : Int) (M : Option Addr) (m d : Nat) (E : Option Addr) (k g : Nat) (h : AuF a (.agg #[.slice A n c, .int .i64 s, .slice M m d, .slice E k g]) w base) : AuR w w.heap.size A n c s M m d E k g a := by
  obtain ⟨A', n', c', s', M', m', d', E', k', g', e, hr, _⟩ := h
  simp only [Value.agg.injEq, Array.mk.injEq, List.cons.injEq, Value.slice.injEq, Value.int.injEq, and_true, true_and] at e
  obtain ⟨⟨rfl, rfl, rfl⟩, rfl, ⟨rfl, rfl, rfl⟩, rfl, rfl, rfl⟩ := e
  exact hr
theorem LW.put' {W w w1 : World} {l : List (Nat × List Value)} {b : Nat} {x0 x1 x2 x3 : Value} (h1 : LW W l w1) (h : LW W l w) (hr : Row w b 25 [x0, x1, x2, x3]) (hb : w1.heap.size ≤ b) (v0 v1 v2 v3 : Value) : LW W ((b, [v0, v1, v2, v3]) :: l) ((((w.setCell ⟨b, 0, none⟩ v0).setCell ⟨b, 1, none⟩ v1).setCell ⟨b, 2, none⟩ v2).setCell ⟨b, 3, none⟩ v3) :=
  h.put hr (Nat.le_trans h1.bel.size hb) (fun x hx => Nat.ne_of_lt (Nat.lt_of_lt_of_le (h1.bx x.1 x.2 hx).1 hb)) v0 v1 v2 v3
/-- The three ways in which the box is made: behind the calls, between them, ahead of them. -/
def PreR (W : World) (l : List (Nat × List Value)) (v : Value) (wx : World) : Prop := ∃ (bc : Nat) (al : List Int) (a : Au) (A : Option Addr) (n c : Nat) (s : Int) (M : Option Addr) (m d : Nat) (E : Option Addr) (k g : Nat), v = .pointer (some ⟨bc, 0, none⟩) ∧ Hid (LW W ((bc, [.slice A n c, .int .i64 s, .slice M m d, .slice E k g]) :: l) wx) ∧ Hid (Ev5 5 al) ∧ Hid (OkM al a) ∧ Hid (AuR wx wx.heap.size A n c s M m d E k g a)
section
variable {W w1 w2 w3 : World} {l : List (Nat × List Value)} {al : List Int} {a : Au} {A : Option Addr} {n c : Nat} {s : Int} {M : Option Addr} {m d : Nat} {E : Option Addr} {k g : Nat} {base : Nat}
theorem pre_1 (h1 : LW W l w1) (hb2 : Below w1.drew.heap.size w1.drew w2) (hb3 : Below w2.heap.size w2 w3) (hev : Ev5 5 al) (hok : OkM al a) (hau : AuF a (.agg #[.slice A n c, .int .i64 s, .slice M m d, .slice E k g]) w3 base) : PreR W l (.pointer (some ⟨w3.heap.size, 0, none⟩)) (w3.alloc (.cells #[.slice A n c, .int .i64 s, .slice M m d, .slice E k g] 25)) :=
  ⟨_, al, a, A, n, c, s, M, m, d, E, k, g, rfl, ((h1.drew.call hb2).call hb3).new [.slice A n c, .int .i64 s, .slice M m d, .slice E k g] 25, hev, hok, ((hau.aur A n c s M m d E k g).below ((Below.refl _ w3).alloc (Nat.le_refl _) _) (Nat.le_refl _)).more (by simp)⟩
theorem pre_2 {x0 x1 x2 x3 : Value} {o : Obj} (h1 : LW W l w1) (hb2 : Below w1.drew.heap.size w1.drew w2) (hb3 : Below (w2.alloc o).heap.size (w2.alloc o) w3) (hq : Row w3 w2.heap.size 25 [x0, x1, x2, x3]) (hev : Ev5 5 al) (hok : OkM al a) (hau : AuF a (.agg #[.slice A n c, .int .i64 s, .slice M m d, .slice E k g]) w3 (w2.alloc o).heap.size) : PreR W l (.pointer (some ⟨w2.heap.size, 0, none⟩)) ((((w3.setCell ⟨w2.heap.size, 0, none⟩ (.slice A n c)).setCell ⟨w2.heap.size, 1, none⟩ (.int .i64 s)).setCell ⟨w2.heap.size, 2, none⟩ (.slice M m d)).setCell ⟨w2.heap.size, 3, none⟩ (.slice E k g)) :=
  ⟨_, al, a, A, n, c, s, M, m, d, E, k, g, rfl, LW.put' h1 (((h1.drew.call hb2).alloc o).call hb3) hq hb2.size _ _ _ _, hev, hok, AuF.aur A n c s M m d E k g (hau.set4 (by simp) _ _ _ _)⟩
theorem pre_3 {x0 x1 x2 x3 : Value} {o : Obj} (h1 : LW W l w1) (hb2 : Below (w1.alloc o).drew.heap.size (w1.alloc o).drew w2) (hb3 : Below w2.heap.size w2 w3) (hq : Row w3 w1.heap.size 25 [x0, x1, x2, x3]) (hev : Ev5 5 al) (hok : OkM al a) (hau : AuF a (.agg #[.slice A n c, .int .i64 s, .slice M m d, .slice E k g]) w3 w2.heap.size) : PreR W l (.pointer (some ⟨w1.heap.size, 0, none⟩)) ((((w3.setCell ⟨w1.heap.size, 0, none⟩ (.slice A n c)).setCell ⟨w1.heap.size, 1, none⟩ (.int .i64 s)).setCell ⟨w1.heap.size, 2, none⟩ (.slice M m d)).setCell ⟨w1.heap.size, 3, none⟩ (.slice E k g)) :=
  ⟨_, al, a, A, n, c, s, M, m, d, E, k, g, rfl, LW.put' h1 (((h1.alloc o).drew.call hb2).call hb3) hq (Nat.le_refl _) _ _ _ _, hev, hok, AuF.aur A n c s M m d E k g (hau.set4 (by have := hb2.size; simp at this; omega) _ _ _ _)⟩
end
section
variable {W w : World} {l : List (Nat × List Value)}
theorem lw_events {x : Int} (hx : (Lit.int .u8 x).wf = true) (h : LW W l w) : Calls Try.prog 33 #[.int .u8 x] w fun e w' => ∃ zs A n c, zs.length = n ∧ e = .returned (.slice A n c) ∧ Ev5 5 zs ∧ RdI w' w'.heap.size A zs ∧ n ≤ c ∧ LW W l w' :=
  (events_any x w hx).mono fun e w' hh => by
    obtain ⟨zs, hev, A, c, e1, hr, hb, hc, _⟩ := hh
    exact ⟨zs, A, _, c, rfl, e1, hev, hr, hc, h.call hb⟩
theorem lw_make {A0 : Option Addr} {n0 c0 : Nat} {al : List Int} {cs : Array Value} (hx : RdI w w.heap.size A0 al) (hn : al.length = n0) (hc : n0 ≤ c0) (hev : Ev5 5 al) (hg : GrC cs) (h : LW W l w) : Calls Try.prog 32 #[.slice A0 n0 c0, .agg cs] w fun e w' => ∃ a A n c s M m d E k g, e = .returned (.agg #[.slice A n c, .int .i64 s, .slice M m d, .slice E k g]) ∧ OkM al a ∧ AuR w' w'.heap.size A n c s M m d E k g a ∧ LW W l w' :=
  (make_any A0 n0 c0 w.heap.size al cs w hx (Nat.le_refl _) hn hc hev hg).mono fun e w' hh => by
    obtain ⟨a, v, hok, e1, ⟨A, n, c, s, M, m, d, E, k, g, rfl, hr, _⟩, hb⟩ := hh
    exact ⟨a, A, n, c, s, M, m, d, E, k, g, e1, hok, hr, h.call hb⟩
theorem lw_list' {f : FuncId} {args : Array Value} {r : List Int × Int} (hc : Calls Try.prog f args w fun e w' => GivesP w r e w') (h : LW W l w) : Calls Try.prog f args w fun e w' => ∃ A n c, r.1.length = n ∧ e = .returned (.tuple #[.slice A n c, .int .i64 r.2]) ∧ RdI w' w'.heap.size A r.1 ∧ LW W l w' :=
  hc.mono fun e w' hh => by
    obtain ⟨A, c, e1, hr, hb, _⟩ := hh
    exact ⟨A, _, c, rfl, e1, hr, h.call hb⟩
theorem lw_givesC {f : FuncId} {args : Array Value} {zs : List Int} (hc : Calls Try.prog f args w fun e w' => GivesC w zs e w') (h : LW W l w) : Calls Try.prog f args w fun e w' => ∃ A n c, zs.length = n ∧ e = .returned (.slice A n c) ∧ RdI w' w'.heap.size A zs ∧ LW W l w' :=
  hc.mono fun e w' hh => by
    obtain ⟨A, c, e1, hr, hb, _⟩ := hh
    exact ⟨A, _, c, rfl, e1, hr, h.call hb⟩
end
theorem stepR_out {a : Au} {q ev : Int} (hc : chkE a = 0) (hq : inSt a.st q = false) : stepR a q ev = (0, false, 2) := by
  simp [stepR, plE, hc, hq]
theorem stepR_in {a : Au} {q ev : Int} (hc : chkE a = 0) (hq : inSt a.st q = true) (he : ev ∈ a.al) : stepR a q ev = ((stepO a q ev).getD 0, (stepO a q ev).isSome, 0) := by
  simp [stepR, plE, hc, hq, he]
theorem stepR_un {a : Au} {q ev : Int} (hc : chkE a = 0) (hq : inSt a.st q = true) (he : ev ∉ a.al) : stepR a q ev = (0, false, 9) := by
  simp [stepR, plE, hc, hq, he]
theorem enR_out {a : Au} {q : Int} (hc : chkE a = 0) (hq : inSt a.st q = false) : enR a q = ([], 2) := by
  simp [enR, plE, hc, hq]
theorem enR_in {a : Au} {q : Int} (hr : RightW a) (hc : chkE a = 0) (hq : inSt a.st q = true) : enR a q = (enI a q, 0) := by
  simp [enR, plE, hc, hq, en_eq hr]
/-- The way goes on: the boxes are as they were, and so is all memory. -/
structure KW (W : World) (l : List (Nat × List Value)) (w w' : World) : Prop where
  lw : LW W l w'
  bel : Below w.heap.size w w'
theorem KW.of {W w w' : World} {l : List (Nat × List Value)} (h : LW W l w) (hb : Below w.heap.size w w') : KW W l w w' := ⟨h.call hb, hb⟩
theorem KW.ints {W w w' : World} {l : List (Nat × List Value)} (h : KW W l w w') {A : Option Addr} {zs : List Int} (ha : RdI w w.heap.size A zs) : RdI w' w'.heap.size A zs := (ha.below h.bel (Nat.le_refl _)).more h.bel.size
theorem KW.aut {W w w' : World} {l : List (Nat × List Value)} (h : KW W l w w') {a : Au} {A : Option Addr} {n c : Nat} {s : Int} {M : Option Addr} {m d : Nat} {E : Option Addr} {k g : Nat} (ha : AuR w w.heap.size A n c s M m d E k g a) : AuR w' w'.heap.size A n c s M m d E k g a := (ha.below h.bel (Nat.le_refl _)).more h.bel.size
theorem kw_call {f : FuncId} {args : Array Value} {v : Value} {W w : World} {l : List (Nat × List Value)} (hc : Calls Try.prog f args w fun e w' => e = .returned v ∧ Below w.heap.size w w') (h : LW W l w) : Calls Try.prog f args w fun e w' => e = .returned v ∧ KW W l w w' :=
  hc.mono fun e w' hh => ⟨hh.1, KW.of h hh.2⟩
section
variable {W w : World} {l : List (Nat × List Value)} {A : Option Addr} {n c : Nat} {s : Int} {M : Option Addr} {m d : Nat} {E : Option Addr} {k g : Nat} {a : Au}
theorem k_step {q ev nx : Int} {ps : Bool} {er : Int} (hs : stepR a q ev = (nx, ps, er)) (ha : AuR w w.heap.size A n c s M m d E k g a) (h : LW W l w) : Calls Try.prog 18 #[.agg #[.slice A n c, .int .i64 s, .slice M m d, .slice E k g], .int .i64 q, .int .i64 ev] w fun e w' => e = .returned (.tuple #[.int .i64 nx, .bool ps, .int .i64 er]) ∧ KW W l w w' := by
  have := kw_call (mStep_any A n c s M m d E k g a q ev w ha) h
  rw [hs] at this; exact this
theorem k_en {q : Int} {zs : List Int} {er : Int} (hs : enR a q = (zs, er)) (ha : AuR w w.heap.size A n c s M m d E k g a) (h : LW W l w) : Calls Try.prog 20 #[.agg #[.slice A n c, .int .i64 s, .slice M m d, .slice E k g], .int .i64 q] w fun e w' => ∃ A n c, e = .returned (.tuple #[.slice A n c, .int .i64 er]) ∧ zs.length = n ∧ RdI w' w'.heap.size A zs ∧ KW W l w w' := by
  have := (mEnabled_any A n c s M m d E k g a q w ha).mono fun e w' hh => (show ∃ A n c, e = .returned (.tuple #[.slice A n c, .int .i64 (enR a q).2]) ∧ (enR a q).1.length = n ∧ RdI w' w'.heap.size A (enR a q).1 ∧ KW W l w w' by
    obtain ⟨A, c, e1, hr, hb, _⟩ := hh
    exact ⟨A, _, c, e1, rfl, hr, KW.of h hb⟩)
  rw [hs] at this; exact this
theorem k_ren {q : Int} (hr : RightW a) (ha : AuR w w.heap.size A n c s M m d E k g a) (h : LW W l w) : Calls Try.prog 35 #[.agg #[.slice A n c, .int .i64 s, .slice M m d, .slice E k g], .int .i64 q] w fun e w' => ∃ A n c, e = .returned (.slice A n c) ∧ (enI a q).length = n ∧ RdI w' w'.heap.size A (enI a q) ∧ KW W l w w' :=
  (rEnabled_any A n c s M m d E k g a q w.heap.size w ha (Nat.le_refl _) hr).mono fun e w' hh => by
    obtain ⟨A, c, e1, hr, hb, _⟩ := hh
    exact ⟨A, _, c, e1, rfl, hr, KW.of h hb⟩
theorem k_same {A1 A2 : Option Addr} {n1 c1 n2 c2 : Nat} {xs ys : List Int} {r : Bool} (hr : decide (xs = ys) = r) (h1 : RdI w w.heap.size A1 xs) (h2 : RdI w w.heap.size A2 ys) (l1 : xs.length = n1) (l2 : ys.length = n2) (hb : n1 ≤ 100000) (hb2 : n2 ≤ 100000) (h : LW W l w) : Calls Try.prog 34 #[.slice A1 n1 c1, .slice A2 n2 c2] w fun e w' => e = .returned (.bool r) ∧ KW W l w w' :=
  (sameInts_any A1 A2 n1 n2 c1 c2 w.heap.size w.heap.size xs ys w h1 h2 l1 l2 (by omega) (by omega)).mono fun e w' hh => by
    obtain ⟨e1, q, rfl⟩ := hh
    exact ⟨by rw [e1, hr], KW.of h (below_drewN (Below.refl _ _) q)⟩
theorem k_has {A1 : Option Addr} {n1 c1 : Nat} {xs : List Int} {x : Int} {r : Bool} (hr : decide (x ∈ xs) = r) (h1 : RdI w w.heap.size A1 xs) (l1 : xs.length = n1) (hb : n1 ≤ 100000) (h : LW W l w) : Calls Try.prog 36 #[.slice A1 n1 c1, .int .i64 x] w fun e w' => e = .returned (.bool r) ∧ KW W l w w' :=
  (lHas_any A1 n1 c1 w.heap.size xs x w h1 l1 (by omega)).mono fun e w' hh => by
    obtain ⟨e1, rfl⟩ := hh
    exact ⟨by rw [e1, hr], KW.of h (Below.refl _ _)⟩
theorem k_rstep {q ev t : Int} (ht : stepI a q ev = t) (ha : AuR w w.heap.size A n c s M m d E k g a) (h : LW W l w) : Calls Try.prog 37 #[.agg #[.slice A n c, .int .i64 s, .slice M m d, .slice E k g], .int .i64 q, .int .i64 ev] w fun e w' => e = .returned (.int .i64 t) ∧ KW W l w w' := by
  have := kw_call (rStep_any A n c s M m d E k g a q ev w.heap.size w ha (Nat.le_refl _)) h
  rw [ht] at this; exact this
end
theorem succ_en_len {a : Au} (h : RightW a) (q : Int) : (enI a q).length ≤ 32 := Nat.le_trans (List.length_filter_le _ _) (al_len h)
end

section
open Go.RowKit Go.Sort
section
variable {W w : World} {l : List (Nat × List Value)} {A : Option Addr} {n c : Nat} {s : Int} {M : Option Addr} {m d : Nat} {E : Option Addr} {k g : Nat} {a : Au} {A1 : Option Addr} {n1 c1 : Nat} {ws : List Int}
theorem k_gen {b : Bool} (hc : chkE a = 0) (hb : genB a ws = b) (ha : AuR w w.heap.size A n c s M m d E k g a) (hw : RdI w w.heap.size A1 ws) (hl : ws.length = n1) (hn : n1 ≤ 100000) (h : LW W l w) : Calls Try.prog 21 #[.agg #[.slice A n c, .int .i64 s, .slice M m d, .slice E k g], .slice A1 n1 c1] w fun e w' => e = .returned (.tuple #[.bool b, .int .i64 0]) ∧ KW W l w w' := by
  have := kw_call (mGenerates_any A n c s M m d E k g a A1 n1 c1 ws w ha hw hl hn) h
  rw [show genR a ws = (b, 0) by simp [genR, hc, hb]] at this; exact this
theorem k_acc {b : Bool} (hc : chkE a = 0) (hb : accB a ws = b) (ha : AuR w w.heap.size A n c s M m d E k g a) (hw : RdI w w.heap.size A1 ws) (hl : ws.length = n1) (hn : n1 ≤ 100000) (h : LW W l w) : Calls Try.prog 22 #[.agg #[.slice A n c, .int .i64 s, .slice M m d, .slice E k g], .slice A1 n1 c1] w fun e w' => e = .returned (.tuple #[.bool b, .int .i64 0]) ∧ KW W l w w' := by
  have := kw_call (mAccepts_any A n c s M m d E k g a A1 n1 c1 ws w ha hw hl hn) h
  rw [show accR a ws = (b, 0) by simp [accR, hc, hb]] at this; exact this
theorem k_rgen {b : Bool} (hr : RightW a) (hb : genB a ws = b) (ha : AuR w w.heap.size A n c s M m d E k g a) (hw : RdI w w.heap.size A1 ws) (hl : ws.length = n1) (hn : n1 ≤ 100000) (h : LW W l w) : Calls Try.prog 38 #[.agg #[.slice A n c, .int .i64 s, .slice M m d, .slice E k g], .slice A1 n1 c1] w fun e w' => e = .returned (.bool b) ∧ KW W l w w' := by
  have := kw_call (rGenerates_any A n c s M m d E k g a A1 n1 c1 ws w.heap.size w ha (Nat.le_refl _) hr hw hl hn) h
  rw [hb] at this; exact this
theorem k_racc {b : Bool} (hr : RightW a) (hb : accB a ws = b) (ha : AuR w w.heap.size A n c s M m d E k g a) (hw : RdI w w.heap.size A1 ws) (hl : ws.length = n1) (hn : n1 ≤ 100000) (h : LW W l w) : Calls Try.prog 39 #[.agg #[.slice A n c, .int .i64 s, .slice M m d, .slice E k g], .slice A1 n1 c1] w fun e w' => e = .returned (.bool b) ∧ KW W l w w' := by
  have := kw_call (rAccepts_any A n c s M m d E k g a A1 n1 c1 ws w.heap.size w ha (Nat.le_refl _) hr hw hl hn) h
  rw [hb] at this; exact this
theorem k_run {q x y er : Int} (hs : runR a q ws = (x, y, er)) (ha : AuR w w.heap.size A n c s M m d E k g a) (hw : RdI w w.heap.size A1 ws) (hl : ws.length = n1) (hn : n1 ≤ 100000) (h : LW W l w) : Calls Try.prog 19 #[.agg #[.slice A n c, .int .i64 s, .slice M m d, .slice E k g], .int .i64 q, .slice A1 n1 c1] w fun e w' => e = .returned (.tuple #[.int .i64 x, .int .i64 y, .int .i64 er]) ∧ KW W l w w' := by
  have := kw_call (mRun_any A n c s M m d E k g a q A1 n1 c1 ws w ha hw hl hn) h
  rw [hs] at this; exact this
theorem k_rrun {q x y : Int} (hx : (runE a q ws).1 = x) (hy : ((runE a q ws).2 : Int) = y) (hr : RightW a) (ha : AuR w w.heap.size A n c s M m d E k g a) (hw : RdI w w.heap.size A1 ws) (hl : ws.length = n1) (hn : n1 ≤ 100000) (h : LW W l w) : Calls Try.prog 40 #[.agg #[.slice A n c, .int .i64 s, .slice M m d, .slice E k g], .int .i64 q, .slice A1 n1 c1] w fun e w' => e = .returned (.tuple #[.int .i64 x, .int .i64 y]) ∧ KW W l w w' := by
  have := kw_call (rRun_any A n c s M m d E k g a q A1 n1 c1 ws w.heap.size w ha (Nat.le_refl _) hr hw hl hn) h
  rw [hx, hy] at this; exact this
end
theorem runR_out {a : Au} {q : Int} {ws : List Int} (hc : chkE a = 0) (hq : inSt a.st q = false) : runR a q ws = (0, 0, 2) := by simp [runR, plE, hc, hq]
theorem runR_in {a : Au} {q : Int} {ws : List Int} (hc : chkE a = 0) (hq : inSt a.st q = true) (hi : inB a.al ws = true) : runR a q ws = ((runE a q ws).1, ((runE a q ws).2 : Int), 0) := by simp [runR, plE, hc, hq, hi]
theorem runR_un {a : Au} {q : Int} {ws : List Int} (hc : chkE a = 0) (hq : inSt a.st q = true) (hi : inB a.al ws = false) : runR a q ws = (0, 0, 9) := by simp [runR, plE, hc, hq, hi]
theorem in_at {zs ws : List Int} {k : Nat} (h : inB zs ws = true) (hk : k < ws.length) : decide (ws.getD k 0 ∈ zs) = true := by
  unfold inB at h
  exact List.all_eq_true.1 h _ (getD_mem hk)
end
end Go.Proofs.Ytcciiikaejjooaa
