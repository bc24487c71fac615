/- Layer 6: the law of Meet, walked. -/
import Derived.Test.YtedleffmbddccaaDoorZLpSelf
import Derived.Test.YtedleffmbddccaaDoorZLpChecks
import Derived.Deep.RegionHeld3
import Derived.Deep.CutRange
set_option linter.unusedVariables false
set_option linter.unusedSimpArgs false
set_option linter.unusedSectionVars false
namespace Go.Proofs.YtedleffmbddccaaDoor
open Go.RowKit Go.Sort

theorem pcs_set (q : Pt) (z : Int) : (pcs q).set 0 (.int .u8 z) = pcs (z, q.2) := rfl
abbrev C8 (w : World) (b o : Nat) (v0 v1 v2 v3 v4 v5 v6 v7 : Value) : Prop := w.cell? ⟨b, o, none⟩ = some v0 ∧ w.cell? ⟨b, o + 1, none⟩ = some v1 ∧ w.cell? ⟨b, o + 2, none⟩ = some v2 ∧ w.cell? ⟨b, o + 3, none⟩ = some v3 ∧ w.cell? ⟨b, o + 4, none⟩ = some v4 ∧ w.cell? ⟨b, o + 4 + 1, none⟩ = some v5 ∧ w.cell? ⟨b, o + 4 + 2, none⟩ = some v6 ∧ w.cell? ⟨b, o + 4 + 3, none⟩ = some v7
theorem c8_map {w w' : World} {b o : Nat} {v0 v1 v2 v3 v4 v5 v6 v7 : Value} (h : C8 w b o v0 v1 v2 v3 v4 v5 v6 v7) (hk : ∀ i, w'.cell? ⟨b, i, none⟩ = w.cell? ⟨b, i, none⟩) : C8 w' b o v0 v1 v2 v3 v4 v5 v6 v7 :=
  ⟨(hk _).trans h.1, (hk _).trans h.2.1, (hk _).trans h.2.2.1, (hk _).trans h.2.2.2.1, (hk _).trans h.2.2.2.2.1, (hk _).trans h.2.2.2.2.2.1, (hk _).trans h.2.2.2.2.2.2.1, (hk _).trans h.2.2.2.2.2.2.2⟩
theorem c8_alloc {w : World} {b o : Nat} {v0 v1 v2 v3 v4 v5 v6 v7 : Value} (h : C8 w b o v0 v1 v2 v3 v4 v5 v6 v7) (hlt : b < w.heap.size) (cs : Array Value) (T : TypeId) : C8 (w.alloc (.cells cs T)) b o v0 v1 v2 v3 v4 v5 v6 v7 :=
  c8_map h fun i => World.cell?_alloc_lt w (.cells cs T) ⟨b, i, none⟩ hlt
theorem c8_set4 {w : World} {b o X : Nat} {v0 v1 v2 v3 v4 v5 v6 v7 : Value} (h : C8 w b o v0 v1 v2 v3 v4 v5 v6 v7) (hne : b ≠ X) (u0 u1 u2 u3 : Value) : C8 ((((w.setCell ⟨X, 0, none⟩ u0).setCell ⟨X, 1, none⟩ u1).setCell ⟨X, 2, none⟩ u2).setCell ⟨X, 3, none⟩ u3) b o v0 v1 v2 v3 v4 v5 v6 v7 :=
  c8_map h fun i => ((((World.cell?_of_block (a := ⟨b, i, none⟩) (Below.heap_setCell _ ⟨X, 3, none⟩ u3 b hne)).trans (World.cell?_of_block (a := ⟨b, i, none⟩) (Below.heap_setCell _ ⟨X, 2, none⟩ u2 b hne))).trans (World.cell?_of_block (a := ⟨b, i, none⟩) (Below.heap_setCell _ ⟨X, 1, none⟩ u1 b hne))).trans (World.cell?_of_block (a := ⟨b, i, none⟩) (Below.heap_setCell _ ⟨X, 0, none⟩ u0 b hne)))
theorem row_drew6 {w : World} {g : Nat} {e : TypeId} {cs : List Value} (h : Row w g e cs) : Row w.drew g e cs := h
theorem auF_aur {a : Au} {w : World} {base : Nat} {A : Option Addr} {n c : Nat} {s : Int} {M : Option Addr} {m d : Nat} {E : Option Addr} {k g : Nat} (h : AuF a (.agg #[.slice A n c, .int .i64 s, .slice M m d, .slice E k g]) w base) : AuR w w.heap.size A n c s M m d E k g a := by
  obtain ⟨A', n', c', s', M', m', d', E', k', g', e, hr, _⟩ := h
  simp only [Value.agg.injEq, Array.mk.injEq, List.cons.injEq, Value.slice.injEq, Value.int.injEq, and_true, true_and] at e
  obtain ⟨⟨rfl, rfl, rfl⟩, rfl, ⟨rfl, rfl, rfl⟩, rfl, rfl, rfl⟩ := e
  exact hr
/-- An automaton in a box of its own. -/
def BoxR (w : World) (a : Au) (v : Value) (wx : World) : Prop := ∃ (bc : Nat) (A : Option Addr) (n c : Nat) (s : Int) (M : Option Addr) (m d : Nat) (E : Option Addr) (k g : Nat), v = .pointer (some ⟨bc, 0, none⟩) ∧ Hid (Row wx bc 34 [.slice A n c, .int .i64 s, .slice M m d, .slice E k g]) ∧ Hid (AuR wx wx.heap.size A n c s M m d E k g a) ∧ Hid (Below w.heap.size w wx)
section
variable {w w2 w3 : World} {a : Au} {A : Option Addr} {n c : Nat} {s : Int} {M : Option Addr} {m d : Nat} {E : Option Addr} {k g : Nat} {base : Nat}
theorem box_1 (hb : Below w.heap.size w w3) (hau : AuF a (.agg #[.slice A n c, .int .i64 s, .slice M m d, .slice E k g]) w3 base) : BoxR w a (.pointer (some ⟨w3.heap.size, 0, none⟩)) (w3.alloc (.cells #[.slice A n c, .int .i64 s, .slice M m d, .slice E k g] 34)) :=
  ⟨_, A, n, c, s, M, m, d, E, k, g, rfl, Row.new w3 [.slice A n c, .int .i64 s, .slice M m d, .slice E k g] 34, ((auF_aur hau).below ((Below.refl _ w3).alloc (Nat.le_refl _) _) (Nat.le_refl _)).more (by simp), hb.alloc hb.size _⟩
theorem box_2 {x0 x1 x2 x3 : Value} {b : Nat} (hb : Below w.heap.size w w3) (hq : Row w3 b 34 [x0, x1, x2, x3]) (hau : AuF a (.agg #[.slice A n c, .int .i64 s, .slice M m d, .slice E k g]) w3 base) (h1 : b < base) (h2 : w.heap.size ≤ b) : BoxR w a (.pointer (some ⟨b, 0, none⟩)) ((((w3.setCell ⟨b, 0, none⟩ (.slice A n c)).setCell ⟨b, 1, none⟩ (.int .i64 s)).setCell ⟨b, 2, none⟩ (.slice M m d)).setCell ⟨b, 3, none⟩ (.slice E k g)) :=
  ⟨_, A, n, c, s, M, m, d, E, k, g, rfl, (((hq.set 0 _).set 1 _).set 2 _).set 3 _, auF_aur (hau.set4 h1 _ _ _ _), below_set4 hb h2 _ _ _ _⟩
theorem BoxR.drew (h : BoxR w a (.pointer (some ⟨base, 0, none⟩)) w3) : BoxR w a (.pointer (some ⟨base, 0, none⟩)) w3.drew := by
  obtain ⟨bc, A, n, c, s, M, m, d, E, k, g, e, h1, h2, h3⟩ := h
  exact ⟨bc, A, n, c, s, M, m, d, E, k, g, e, h1.out, h2.out.below (Below.refl _ _).drew (Nat.le_refl _), h3.out.drew⟩
end

set_option maxHeartbeats 8000000 in
set_option maxRecDepth 100000 in
theorem lawMeets (q r : Pt) (eq : Bool) (w : World) (hq : PtOk q) (hr : PtOk r) (hT : TabAt 0 Lib.deBruijn32tab w) :
    Calls Tryd.prog 6 #[.agg (pcs q).toArray, .agg (pcs r).toArray, .bool eq] w fun e w' => e = .returned (.bool true) ∧ Below w.heap.size w w' := by
  have hz := tab_pos hT
  have HTB := Lib.hid (fun W (hW : Below w.heap.size w W) => tab_below hT hW hz)
  have HK := Lib.hid (fun W (hW : Below w.heap.size w W) => known_any W (HTB.out W hW) (Nat.lt_of_lt_of_le hz hW.size))
  have HB := Lib.hid (((Below.refl w.heap.size w).alloc (Nat.le_refl _) (.cells (pcs q).toArray 66)).alloc (by simp) (.cells (pcs r).toArray 66))
  have HX := Lib.hid ((Row.new w (pcs q) 66).alloc (.cells (pcs r).toArray 66))
  have HY := Lib.hid (by have := Row.new (w.alloc (.cells (pcs q).toArray 66)) (pcs r) 66; rw [World.size_alloc] at this; exact this : Row ((w.alloc (.cells (pcs q).toArray 66)).alloc (.cells (pcs r).toArray 66)) (w.heap.size + 1) 66 (pcs r))
  have HQ := Lib.hid hq
  have HR := Lib.hid hr
  clear hT hz hq hr
  go_enter Tryd.func6, Tryd.ntmps6
  go_wp2_with fail
  refine (HK.out _ HB.out).mono ?_
  rintro e w1 ⟨rfl, hb⟩
  have HX := Lib.hid (HX.out.below hb (by simp; omega))
  have HY := Lib.hid (HY.out.below hb (by simp))
  have HB := Lib.hid (HB.out.trans (hb.mono HB.out.size))
  clear hb
  have x0 := HX.out.cell 0 rfl
  have y0 := HY.out.cell 0 rfl
  have f0 := HY.out.frozen 0
  go_upto_if 14 with fail
  go_cut [2] from 15 to 17 (fun bv wx => ∃ q2 : Pt, PtOk q2 ∧ Hid (Row wx w.heap.size 66 (pcs q)) ∧ Hid (Row wx (w.heap.size + 1) 66 (pcs q2)) ∧ Hid (Below w.heap.size w wx))
  case first =>
    cases eq
    · go_wp2_with fail
      go_meet
      case rel => exact ⟨r, HR.out, HX, HY, HB⟩
    · have HY2 := Lib.hid (HY.out.set 0 (.int .u8 q.1))
      rw [pcs_set] at HY2
      have HX2 := Lib.hid (HX.out.setOther (p := ⟨w.heap.size + 1, 0, none⟩) (by simp) (.int .u8 q.1))
      have HB2 := Lib.hid (HB.out.setCell (p := ⟨w.heap.size + 1, 0, none⟩) (by simp) (.int .u8 q.1))
      have HQ2 := Lib.hid (show PtOk (q.1, r.2) from ⟨HQ.out.1, HR.out.2⟩)
      go_wp2_with fail
      go_meet
      case rel => exact ⟨(q.1, r.2), HQ2.out, HX2, HY2, HB2⟩
  case rest =>
    obtain ⟨q2, hq2, hx, hy, hbb⟩ := hcut
    have HQ2 := Lib.hid hq2
    have HNEW := Lib.hid (Row.new wc (pcs q ++ pcs q2) 66)
    have HB := Lib.hid (hbb.out.alloc hbb.out.size (.cells (pcs q ++ pcs q2).toArray 66))
    clear hq2 hbb x0 y0 f0
    go_wp2_with (first
      | refine wpList_load_row rfl 66 (.tmp 3) rfl w.heap.size rfl 66 (pcs q).toArray (0, 0) _ hx.out Tryd.underlying66 rfl (part_size HQ.out) ?_
      | refine wpList_load_row rfl 66 (.tmp 4) rfl (w.heap.size + 1) rfl 66 (pcs q2).toArray (0, 0) _ hy.out Tryd.underlying66 rfl (part_size HQ2.out) ?_
      | refine wpList_part2 rfl (.tmp 18) (.tmp 19) rfl q q2 HQ.out HQ2.out rfl rfl ?_)
    refine (list_any _ 2 2 [q, q2] _ (row_parts2 HNEW.out HQ.out HQ2.out) rfl (by intro p hp; simp at hp; rcases hp with rfl | rfl; exact HQ.out; exact HQ2.out)).mono ?_
    rintro e w2 ⟨Al, cl, las, rfl, hl3, hrl, hok, _, _, hb⟩
    have HB := Lib.hid (HB.out.trans (hb.mono HB.out.size))
    clear hb HNEW hx hy
    obtain ⟨a, b, rfl⟩ : ∃ a b, las = [a, b] := by
      match las, hl3 with
      | [a, b], _ => exact ⟨a, b, rfl⟩
      | [], h => simp at h
      | [_], h => simp at h
      | _ :: _ :: _ :: _, h => (simp at h) <;> omega
    have hoka := hok a (by simp)
    have hokb := hok b (by simp)
    have HOA := Lib.hid hoka
    have HOB := Lib.hid hokb
    have HAS := Lib.hid hrl
    obtain ⟨bl, ol, rfl, hbl, A0, n0, c0, s0, M0, m0, d0, E0, k0, g0, p0, p1, p2, p3, hA0⟩ := rd_at hrl (j := 0) (a := a) rfl
    obtain ⟨bl', ol', e', _, A1, n1, c1, s1, M1, m1, d1, E1, k1, g1, p4, p5, p6, p7, hA1⟩ := rd_at hrl (j := 1) (a := b) rfl
    simp only [Option.some.injEq, Addr.mk.injEq, and_true] at e'
    obtain ⟨rfl, rfl⟩ := e'
    have HA0 := Lib.hid hA0
    have HA1 := Lib.hid hA1
    have hn0b : n0 ≤ 5 := by have := hoka.al5; rw [hA0.hn] at this; exact this
    have hn1b : n1 ≤ 5 := by have := hokb.al5; rw [hA1.hn] at this; exact this
    simp only [Nat.zero_mul, Nat.one_mul, Nat.add_zero] at p0 p1 p2 p3 p4 p5 p6 p7
    simp only [List.length_cons, List.length_nil, Nat.zero_add]
    have HMe := Lib.hid (fun W (hW : Below w2.heap.size w2 W) => pMeet_any A0 n0 c0 s0 M0 m0 d0 E0 k0 g0 A1 n1 c1 s1 M1 m1 d1 E1 k1 g1 a b W ((HA0.out.below hW (Nat.le_refl _)).more hW.size) ((HA1.out.below hW (Nat.le_refl _)).more hW.size))
    have HCC := Lib.hid (fun W (hW : Below w2.heap.size w2 W) => (⟨(hW.cell (p := ⟨bl, ol, none⟩) hbl).trans p0, (hW.cell (p := ⟨bl, ol + 1, none⟩) hbl).trans p1, (hW.cell (p := ⟨bl, ol + 2, none⟩) hbl).trans p2, (hW.cell (p := ⟨bl, ol + 3, none⟩) hbl).trans p3, (hW.cell (p := ⟨bl, ol + 4, none⟩) hbl).trans p4, (hW.cell (p := ⟨bl, ol + 4 + 1, none⟩) hbl).trans p5, (hW.cell (p := ⟨bl, ol + 4 + 2, none⟩) hbl).trans p6, (hW.cell (p := ⟨bl, ol + 4 + 3, none⟩) hbl).trans p7⟩ : W.cell? ⟨bl, ol, none⟩ = some (.slice A0 n0 c0) ∧ W.cell? ⟨bl, ol + 1, none⟩ = some (.int .i64 s0) ∧ W.cell? ⟨bl, ol + 2, none⟩ = some (.slice M0 m0 d0) ∧ W.cell? ⟨bl, ol + 3, none⟩ = some (.slice E0 k0 g0) ∧ W.cell? ⟨bl, ol + 4, none⟩ = some (.slice A1 n1 c1) ∧ W.cell? ⟨bl, ol + 4 + 1, none⟩ = some (.int .i64 s1) ∧ W.cell? ⟨bl, ol + 4 + 2, none⟩ = some (.slice M1 m1 d1) ∧ W.cell? ⟨bl, ol + 4 + 3, none⟩ = some (.slice E1 k1 g1)))
    have HRF := Lib.hid (Below.refl w2.heap.size w2)
    have HRD := Lib.hid ((Below.refl w2.heap.size w2).drew)
    have HRA := Lib.hid ((Below.refl w2.heap.size w2).alloc (Nat.le_refl _) (.cells #[.slice none 0 0, .int .i64 0, .slice none 0 0, .slice none 0 0] 34))
    have HRB := Lib.hid (((Below.refl w2.heap.size w2).alloc (Nat.le_refl _) (.cells #[.slice none 0 0, .int .i64 0, .slice none 0 0, .slice none 0 0] 34)).drew)
    obtain ⟨ma, hma⟩ : ∃ ma, ma = (meetR a b).1 := ⟨_, rfl⟩
    obtain ⟨me, hme⟩ : ∃ me, me = (meetR a b).2 := ⟨_, rfl⟩
    rw [show meetR a b = (ma, me) by rw [hma, hme]] at HMe
    have HMA := Lib.hid hma
    have HMV := Lib.hid hme
    have hz5 := hbl
    clear hl3 hrl hok hoka hokb hA0 hA1 hma hme
    go_wp2_with fail
    go_upto_region 6 with fail
    go_cut [8, 9] from 22 to 31 (fun pv ev wx => BoxR w2 ma pv wx ∧ ev = .int .i64 me)
    case first =>
      go_region_held3 (fun w' => w'.cell? ⟨bl, ol, none⟩ = some (.slice A0 n0 c0) ∧ w'.cell? ⟨bl, ol + 1, none⟩ = some (.int .i64 s0) ∧ w'.cell? ⟨bl, ol + 2, none⟩ = some (.slice M0 m0 d0) ∧ w'.cell? ⟨bl, ol + 3, none⟩ = some (.slice E0 k0 g0) ∧ w'.cell? ⟨bl, ol + 4, none⟩ = some (.slice A1 n1 c1) ∧ w'.cell? ⟨bl, ol + 4 + 1, none⟩ = some (.int .i64 s1) ∧ w'.cell? ⟨bl, ol + 4 + 2, none⟩ = some (.slice M1 m1 d1) ∧ w'.cell? ⟨bl, ol + 4 + 3, none⟩ = some (.slice E1 k1 g1)) (first | with_reducible exact ⟨p0, p1, p2, p3, p4, p5, p6, p7⟩ | with_reducible exact c8_alloc ⟨p0, p1, p2, p3, p4, p5, p6, p7⟩ hz5 _ _ | with_reducible exact c8_set4 ⟨p0, p1, p2, p3, p4, p5, p6, p7⟩ (by omega) _ _ _ _ | with_reducible exact c8_set4 (c8_alloc ⟨p0, p1, p2, p3, p4, p5, p6, p7⟩ hz5 _ _) (by omega) _ _ _ _ | with_reducible exact HCC.out _ HRF.out | with_reducible exact HCC.out _ HRD.out | with_reducible exact HCC.out _ HRA.out | with_reducible exact HCC.out _ HRB.out | go_keep)
        (first
        | (go_simp; go_at_call 32; (first | with_reducible refine (HMe.out _ HRF.out).mono ?_ | with_reducible refine (HMe.out _ HRD.out).mono ?_ | with_reducible refine (HMe.out _ HRA.out).mono ?_ | with_reducible refine (HMe.out _ HRB.out).mono ?_); rintro e w5 ⟨v5, rfl, ⟨A5, n5, c5, s5, M5, m5, d5, E5, k5, g5, rfl, ha5, hf5⟩, hb5⟩
           have HAF := Lib.hid (show AuF ma (.agg #[.slice A5 n5 c5, .int .i64 s5, .slice M5 m5 d5, .slice E5 k5 g5]) w5 _ from ⟨A5, n5, c5, s5, M5, m5, d5, E5, k5, g5, rfl, ha5, hf5⟩)
           have HB5 := Lib.hid (show Below w2.heap.size w2 w5 by first | exact hb5 | exact HRD.out.trans hb5 | exact HRA.out.trans (hb5.mono HRA.out.size) | exact HRB.out.trans (hb5.mono HRB.out.size))
           obtain ⟨p0, p1, p2, p3, p4, p5, p6, p7⟩ := HCC.out _ HB5.out
           have hz5 : bl < w5.heap.size := Nat.lt_of_lt_of_le hz5 HB5.out.size
           try (have hq : Row w5 w2.heap.size 34 [.slice none 0 0, .int .i64 0, .slice none 0 0, .slice none 0 0] := by first | exact Row.below (row_drew6 (Row.new w2 [.slice none 0 0, .int .i64 0, .slice none 0 0, .slice none 0 0] 34)) hb5 (by simp) | exact Row.below (Row.new w2 [.slice none 0 0, .int .i64 0, .slice none 0 0, .slice none 0 0] 34) hb5 (by simp)
                have HQ1 := Lib.hid hq; have y0 := hq.cell 0 rfl; have y1 := hq.cell 1 rfl; have y2 := hq.cell 2 rfl; have y3 := hq.cell 3 rfl; have z0 := hq.frozen 0; have z1 := hq.frozen 1; have z2 := hq.frozen 2; have z3 := hq.frozen 3; clear hq)
           clear hb5 ha5 hf5))
      all_goals
        go_wp2_with fail
        go_meet
        case rel => exact ⟨by first | exact box_1 HB5.out HAF.out | exact box_2 HB5.out HQ1.out HAF.out (by simp) (Nat.le_refl _) | exact BoxR.drew (box_1 HB5.out HAF.out) | exact BoxR.drew (box_2 HB5.out HQ1.out HAF.out (by simp) (Nat.le_refl _)), rfl⟩
    case rest =>
      obtain ⟨⟨bc, A5, n5, c5, s5, M5, m5, d5, E5, k5, g5, rfl, BM, HA5, hbx⟩, rfl⟩ := hcut
      have hb := hbx.out
      have HB := Lib.hid (HB.out.trans (hb.mono HB.out.size))
      have HAS := Lib.hid ((HAS.out.below hb (Nat.le_refl _)).more hb.size)
      have HA0 := Lib.hid ((HA0.out.below hb (Nat.le_refl _)).more hb.size)
      have HA1 := Lib.hid ((HA1.out.below hb (Nat.le_refl _)).more hb.size)
      obtain ⟨p0, p1, p2, p3, p4, p5, p6, p7⟩ := HCC.out _ hbx.out
      obtain ⟨sm, hsm⟩ : ∃ sm, sm = decide (a.al = b.al) := ⟨_, rfl⟩
      have HSM := Lib.hid hsm
      have HSa := Lib.hid (fun W (hW : Below wc.heap.size wc W) => g_same (c := c0) (d := c1) hsm.symm ((HA0.out.al.below hW (Nat.le_refl _)).more hW.size) ((HA1.out.al.below hW (Nat.le_refl _)).more hW.size) HA0.out.hn HA1.out.hn (by omega) (by omega))
      have HRF := Lib.hid (Below.refl wc.heap.size wc)
      have HRD := Lib.hid ((Below.refl wc.heap.size wc).drew)
      have hbl6 : bl < wc.heap.size := Nat.lt_of_lt_of_le hbl hbx.out.size
      clear hb hsm hbx hz5
      go_wp2_with fail
      go_upto_region 7 with fail
      go_cut [41] from 32 to 40 (fun bv wx => bv = .bool (!sm) ∧ Hid (Below wc.heap.size wc wx))
      case first =>
        go_region_held3 (fun w' => w'.cell? ⟨bl, ol, none⟩ = some (.slice A0 n0 c0) ∧ w'.cell? ⟨bl, ol + 4, none⟩ = some (.slice A1 n1 c1)) (first | with_reducible exact ⟨p0, p4⟩ | go_keep)
          (first
          | (go_simp; go_at_call 18; (first | with_reducible refine (HSa.out _ HRF.out).mono ?_ | with_reducible refine (HSa.out _ HRD.out).mono ?_); rintro e w6 ⟨rfl, hb6⟩
             have HB6 := Lib.hid (show Below wc.heap.size wc w6 by first | exact hb6 | exact HRD.out.trans hb6)
             have p0 := (HB6.out.cell (p := ⟨bl, ol, none⟩) hbl6).trans p0
             have p4 := (HB6.out.cell (p := ⟨bl, ol + 4, none⟩) hbl6).trans p4
             clear hb6))
        all_goals
          go_wp2_with fail
          go_meet
          case rel => exact ⟨rfl, by first | exact HB6 | exact Lib.hid HB6.out.drew⟩
      case rest =>
        obtain ⟨rfl, hbx⟩ := hcut
        have hb := hbx.out
        have HB := Lib.hid (HB.out.trans (hb.mono HB.out.size))
        have HAS := Lib.hid ((HAS.out.below hb (Nat.le_refl _)).more hb.size)
        have HA5 := Lib.hid ((HA5.out.below hb (Nat.le_refl _)).more hb.size)
        have BM := Lib.hid (BM.out.below hb BM.out.lt)
        clear hb hbx HRF HRD HSa p0 p1 p2 p3 p4 p5 p6 p7
        cases sm
        · have hne : a.al ≠ b.al := by have := HSM.out; simpa using this.symm
          have hmr : meetR a b = (zeroA, 13) := by rw [meetR, if_neg (by rw [chk_two HOA.out.chk HOB.out.chk]; simp), if_neg hne]
          have hma : ma = zeroA := by rw [HMA.out, hmr]
          have hme : me = 13 := by rw [HMV.out, hmr]
          subst hma hme
          clear hne hmr
          have x0 := BM.out.cell 0 rfl
          have x1 := BM.out.cell 1 rfl
          have x2 := BM.out.cell 2 rfl
          have x3 := BM.out.cell 3 rfl
          go_wp2_with fail
          refine (g_none HA5.out).mono ?_
          rintro e w7 ⟨rfl, hb⟩
          have HB := Lib.hid (HB.out.trans (hb.mono HB.out.size))
          clear hb x0 x1 x2 x3
          go_wp2_with fail
          go_ret
          exact ⟨rfl, HB.out⟩
        · have hal : a.al = b.al := by have := HSM.out; simpa using this.symm
          have hsy := las_syn (l := [a, b]) (by intro x hx; simp at hx; rcases hx with rfl | rfl; exact HOA.out; exact HOB.out) (by simp)
          have hmr : meetR a b = (canA (prodA [a, b]), 0) := by rw [meetR, if_neg (by rw [chk_two HOA.out.chk HOB.out.chk]; simp), if_pos hal, hsy]
          have hma : ma = canA (prodA [a, b]) := by rw [HMA.out, hmr]
          have hme : me = 0 := by rw [HMV.out, hmr]
          subst hma hme
          have HRS := Lib.hid (fun W (hW : RdAs W W.heap.size (some ⟨bl, ol, none⟩) [a, b]) => g_rsync (cl := cl) hW (show [a, b].length = 2 from rfl) (by omega) (las_rw (l := [a, b]) (by intro x hx; simp at hx; rcases hx with rfl | rfl; exact HOA.out; exact HOB.out)) (by have := las_st (l := [a, b]) (by intro x hx; simp at hx; rcases hx with rfl | rfl; exact HOA.out; exact HOB.out) (by simp); omega))
          clear hal hsy hmr
          go_wp2_with fail
          refine (HRS.out _ HAS.out).mono ?_
          rintro e w7 ⟨A7, n7, c7, s7, M7, m7, d7, E7, k7, g7, T7, l7, t7, rfl, _, ha7, _, hb⟩
          have HB := Lib.hid (HB.out.trans (hb.mono HB.out.size))
          have HA5 := Lib.hid ((HA5.out.below hb (Nat.le_refl _)).more hb.size)
          have BM := Lib.hid (BM.out.below hb BM.out.lt)
          have HA7 := Lib.hid ha7
          clear hb ha7
          have hb := (Below.refl w7.heap.size w7).alloc (Nat.le_refl _) (.cells #[.slice A7 n7 c7, .int .i64 s7, .slice M7 m7 d7, .slice E7 k7 g7] 34)
          have HB := Lib.hid (HB.out.trans (hb.mono HB.out.size))
          have HA5 := Lib.hid ((HA5.out.below hb (Nat.le_refl _)).more hb.size)
          have HA7 := Lib.hid ((HA7.out.below hb (Nat.le_refl _)).more hb.size)
          have x0 := BM.out.cell 0 rfl
          have x1 := BM.out.cell 1 rfl
          have x2 := BM.out.cell 2 rfl
          have x3 := BM.out.cell 3 rfl
          have xl := BM.out.lt
          go_wp2_with fail
          refine (g_eq (decide_eq_true rfl) HA5.out HA7.out).mono ?_
          rintro e w8 ⟨rfl, hb⟩
          have HB := Lib.hid (HB.out.trans (hb.mono HB.out.size))
          clear hb x0 x1 x2 x3 xl
          go_wp2_with fail
          go_ret
          exact ⟨rfl, HB.out⟩
end Go.Proofs.YtedleffmbddccaaDoor
