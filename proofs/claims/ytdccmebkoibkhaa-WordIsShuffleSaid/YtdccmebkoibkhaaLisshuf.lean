/- The walk of WordIsShuffle. -/
import Derived.Test.YtdccmebkoibkhaaLprojects
import Derived.Test.YtdccmebkoibkhaaOpenA
import Derived.Deep.CutRange
import Derived.Test.YtdccmebkoibkhaaOpenA
import Derived.Deep.CutRange
import Derived.Test.YtdccmebkoibkhaaOpenA
import Derived.Deep.CutRange
import Derived.Test.YtdccmebkoibkhaaOpenA
import Derived.Deep.CutRange
import Derived.Test.YtdccmebkoibkhaaOpenA
import Derived.Deep.CutRange
import Derived.Test.YtdccmebkoibkhaaOpenA
import Derived.Deep.CutRange
import Derived.Test.YtdccmebkoibkhaaOpenA
import Derived.Deep.CutRange
import Derived.Test.YtdccmebkoibkhaaAppB
import Derived.Test.YtdccmebkoibkhaaAppB
import Derived.Deep.CutRange
import Derived.Test.YtdccmebkoibkhaaAppB
import Derived.Deep.CutRange
import Derived.Test.YtdccmebkoibkhaaAppB
import Derived.Test.YtdccmebkoibkhaaAppB
import Derived.Test.YtdccmebkoibkhaaAppB
import Derived.Test.YtdccmebkoibkhaaAppB
import Derived.Test.YtdccmebkoibkhaaAppB
import Derived.Test.YtdccmebkoibkhaaIsMore
import Derived.Test.YtdccmebkoibkhaaWisshuf
import Derived.Test.YtdccmebkoibkhaaWrisshufB
import Derived.Deep.RegionLaw
namespace Go.Proofs.Ytdccmebkoibkhaa
open Go.RowKit
set_option linter.unusedVariables false

/-- An array of three bytes that lies in a block of its own. -/
structure Arr3B (w W : World) (x y z : Int) : Prop where
  c0 : W.cell? ⟨w.heap.size, 0, none⟩ = some (.int .u8 x)
  c1 : W.cell? ⟨w.heap.size, 1, none⟩ = some (.int .u8 y)
  c2 : W.cell? ⟨w.heap.size, 2, none⟩ = some (.int .u8 z)
  below : Below w.heap.size w W
  size : w.heap.size + 1 ≤ W.heap.size
theorem Arr3B.start (w W : World) (x y z : Int) (t : TypeId) (hb : Below (w.alloc (.cells #[.int .u8 x, .int .u8 y, .int .u8 z] t)).heap.size (w.alloc (.cells #[.int .u8 x, .int .u8 y, .int .u8 z] t)) W) : Arr3B w W x y z := by
  have h : ∀ o, W.cell? ⟨w.heap.size, o, none⟩ = (w.alloc (.cells #[.int .u8 x, .int .u8 y, .int .u8 z] t)).cell? ⟨w.heap.size, o, none⟩ := fun o => hb.cell (by simp)
  refine ⟨?_, ?_, ?_, ((Below.refl w.heap.size w).alloc (Nat.le_refl _) _).trans (hb.mono (by simp)), by have := hb.size; simp at this; exact this⟩
  all_goals rw [h, World.cell?_alloc_at _ _ _ _ rfl]; rfl
theorem Arr3B.step {w W W' : World} {x y z : Int} {B : Nat} (h : Arr3B w W x y z) (hb : Below B W W') (hB : w.heap.size + 1 ≤ B) : Arr3B w W' x y z := by
  have hc : ∀ o, W'.cell? ⟨w.heap.size, o, none⟩ = W.cell? ⟨w.heap.size, o, none⟩ := fun o => hb.cell (by simp; omega)
  exact ⟨(hc 0).trans h.c0, (hc 1).trans h.c1, (hc 2).trans h.c2, h.below.trans (hb.mono (by omega)), Nat.le_trans h.size hb.size⟩
theorem Arr3B.drew {w W : World} {x y z : Int} (h : Arr3B w W x y z) : Arr3B w W.drew x y z := ⟨h.c0, h.c1, h.c2, h.below.drew, h.size⟩

/-- The list may hold other numbers, but it is a list of as many numbers, in the same place. -/
structure SwOk (w0 W : World) (A : Option Addr) (n c : Nat) : Prop where
  own : ∃ zs : List Int, zs.length = n ∧ Own W w0.heap.size (.slice A n c) zs
  below : Below w0.heap.size w0 W
theorem SwOk.drew {w0 W : World} {A : Option Addr} {n c : Nat} (h : SwOk w0 W A n c) : SwOk w0 W.drew A n c := ⟨h.own, h.below.drew⟩
theorem SwOk.set {w0 W : World} {g n c : Nat} (h : SwOk w0 W (some ⟨g, 0, none⟩) n c) (j : Nat) (hj : j < n) (x : Int) : SwOk w0 (W.setCell ⟨g, j, none⟩ (.int .i64 x)) (some ⟨g, 0, none⟩) n c := by
  obtain ⟨⟨zs, hl, ho⟩, hb⟩ := h
  subst hl
  refine ⟨⟨zs.set j x, by simp, ?_⟩, ?_⟩
  · have := World.ownsRow.stored (e := 3) (size := 1) (cap := c) ho j (.int .i64 x)
    show World.ownsRow _ _ _ _ _ (zs.set j x).length ((zs.set j x).map (Value.int .i64))
    rw [List.map_set, List.length_set]
    exact this.1
  · have := World.ownsRow.stored (e := 3) (size := 1) (cap := c) ho j (.int .i64 x)
    exact hb.grown this.2 hb.size (fun k hk => by cases hk; exact (ho.lt g rfl).1)

theorem is_call (W A B : Option Addr) (n na nb c ca cb : Nat) (ws za zb : List Int) (r : Bool) (hr : isSh ws za zb = r) (hn : ws.length = n) (hna : za.length = na) (hnb : zb.length = nb) (b1 : n ≤ 16) (b2 : na ≤ 7) (b3 : nb ≤ 7)
    (w : World) (hx : RdI w w.heap.size W ws) (ha : RdI w w.heap.size A za) (hb : RdI w w.heap.size B zb) :
    Calls Try.prog 33 #[.slice W n c, .slice A na ca, .slice B nb cb] w fun e w' => e = .returned (.bool r) ∧ Below w.heap.size w w' := by
  subst hr
  exact wIsShuffle_any W A B n na nb c ca cb ws za zb w hx ha hb hn hna hnb b1 (by omega) (by omega)
theorem ris_call (W A B : Option Addr) (n na nb c ca cb : Nat) (ws za zb : List Int) (r : Bool) (hr : isSh ws za zb = r) (hn : ws.length = n) (hna : za.length = na) (hnb : zb.length = nb) (b1 : n ≤ 16) (b2 : na ≤ 7) (b3 : nb ≤ 7)
    (k0 : n ≤ c) (t0 : c ≤ 9223372036854775807) (k1 : na ≤ ca) (t1 : ca ≤ 9223372036854775807) (k3 : nb ≤ cb) (t3 : cb ≤ 9223372036854775807)
    (w : World) (hx : RdI w w.heap.size W ws) (ha : RdI w w.heap.size A za) (hb : RdI w w.heap.size B zb) :
    Calls Try.prog 34 #[.slice W n c, .slice A na ca, .slice B nb cb] w fun e w' => e = .returned (.bool r) ∧ ∃ q, w' = w.drewN q := by
  subst hr
  exact r2IsShuffle_any W A B n na nb c ca cb ws za zb w hx ha hb hn hna hnb k0 t0 k1 t1 k3 t3 (by omega) (by omega) (by omega)
theorem own_addr {w : World} {B n c : Nat} {A : Option Addr} {zs : List Int} (h : Own w B (.slice A n c) zs) (hn : 0 < n) (hl : zs.length = n) : ∃ g, A = some ⟨g, 0, none⟩ ∧ B ≤ g ∧ g < w.heap.size := by
  subst hl
  obtain ⟨g, cap, e, h1, h2⟩ := World.ownsRow.form h hn
  injection e with e1 _ _
  exact ⟨g, e1, h1, h2⟩

set_option maxHeartbeats 8000000 in
set_option maxRecDepth 100000 in
theorem lawIsShuffle (A : Option Addr) (nb cb : Nat) (bs : List Int) (B : Option Addr) (nc cc : Nat) (bc : List Int) (p0 p1 p2 : Int) (w : World) (h1 : RdB w w.heap.size A bs) (h2 : bs.length = nb) (h3 : ∀ z ∈ bs, (Lit.int .u8 z).wf = true) (h4 : nb ≤ cb) (k1 : RdB w w.heap.size B bc) (k2 : bc.length = nc) (k3 : ∀ z ∈ bc, (Lit.int .u8 z).wf = true) (k4 : nc ≤ cc) (x0 : 0 ≤ p0) (x1 : p0 < 256) (y0 : 0 ≤ p1) (y1 : p1 < 256) (z0 : 0 ≤ p2) (z1 : p2 < 256) :
    Calls Try.prog 9 #[.slice A nb cb, .slice B nc cc, .agg #[.int .u8 p0, .int .u8 p1, .int .u8 p2]] w fun e w' => e = .returned (.bool true) ∧ Below w.heap.size w w' := by
  have HK := Lib.hid known_any
  have HAB := Lib.hid h1
  have HBB := Lib.hid k1
  have HLA := Lib.hid h2
  have HLB := Lib.hid k2
  have HWA := Lib.hid h3
  have HWB := Lib.hid k3
  obtain ⟨p, hp⟩ : ∃ p, p = wordZ bs 7 := ⟨_, rfl⟩
  obtain ⟨q, hq⟩ : ∃ q, q = wordZ bc 7 := ⟨_, rfl⟩
  obtain ⟨np, hnp⟩ : ∃ n, n = p.length := ⟨_, rfl⟩
  obtain ⟨nq', hnq⟩ : ∃ n, n = q.length := ⟨_, rfl⟩
  have WX := Lib.hid (fun (W : World) (h : Below w.heap.size w W) => word_call A nb cb 7 bs w W h1 h2 (fun z hz => wf_u8 (h3 z hz)) (by omega) p hp.symm np hnp.symm h)
  have WY := Lib.hid (fun (W : World) (h : Below w.heap.size w W) => word_call B nc cc 7 bc w W k1 k2 (fun z hz => wf_u8 (k3 z hz)) (by omega) q hq.symm nq' hnq.symm h)
  have np7 : np ≤ 7 := by rw [hnp, hp]; exact wordZ_le bs 7
  have nq7 : nq' ≤ 7 := by rw [hnq, hq]; exact wordZ_le bc 7
  have HNP := Lib.hid hnp.symm
  have HNQ := Lib.hid hnq.symm
  clear h1 h2 h3 k1 k2 k3 hp hq hnp hnq
  go_enter Try.func9, Try.ntmps9
  go_wp2_with fail
  refine (HK.out _).mono ?_
  rintro e w1 ⟨rfl, hb1⟩
  have HA1 := Lib.hid (Arr3B.start _ _ _ _ _ _ hb1)
  clear hb1
  go_wp2_with fail
  refine (WX.out _ HA1.out.below).mono ?_
  rintro e w2 ⟨Cp, cp, rfl, hr, hb, kp, tp⟩
  have HP2 := Lib.hid hr
  have HA2 := Lib.hid (HA1.out.step hb HA1.out.size)
  clear hr hb HA1
  go_wp2_with fail
  refine (WY.out _ HA2.out.below).mono ?_
  rintro e w3 ⟨Cq, cq, rfl, hr, hb, kq, tq⟩
  have HP3 := Lib.hid ((HP2.out.below hb (Nat.le_refl _)).more hb.size)
  have HQ3 := Lib.hid hr
  have HA3 := Lib.hid (HA2.out.step hb HA2.out.size)
  have hs3 := HA3.out.size
  clear hr hb HA2 HP2
  go_wp2_with fail
  go_loopw [9, 10, 11, 12] (fun v i k n wr => ∃ (a b : Nat) (acc : List Int), a ≤ np ∧ b ≤ nq' ∧ i = .int .i64 a ∧ k = .int .i64 b ∧ n = .int .i64 (a + b : Nat) ∧ Hid (Own wr w3.heap.size v acc) ∧ Hid (isSh acc (p.take a) (q.take b) = true) ∧ Hid (acc.length = a + b) ∧ Hid (Below w3.heap.size w3 wr)) (fun _ i k _ _ => (np - (intOf i).toNat) + (nq' - (intOf k).toNat))
  case atStart => exact ⟨0, 0, [], Nat.zero_le _, Nat.zero_le _, rfl, rfl, rfl, World.ownsRow_nil _ _ _ _, rfl, rfl, Below.refl _ _⟩
  case round =>
    obtain ⟨a, b, acc, ha, hb, rfl, rfl, rfl, ho, hi, hl, hnx⟩ := hrel
    have HAr := Lib.hid (HA3.out.step hnx.out hs3)
    have g0 := HAr.out.c0
    have hws := hnx.out.size
    have hal : acc.length ≤ 14 := by have := hl.out; omega
    by_cases h1 : a < np
    · have d1 : (a : Int) < (np : Int) := by omega
      obtain ⟨bp, op, rfl, _, hcp⟩ := (HP3.out.below hnx.out (Nat.le_refl _)) (by have := HNP.out; omega)
      have hcx := hcp a (by have := HNP.out; omega)
      obtain ⟨x, hx⟩ : ∃ x, x = p.getD a 0 := ⟨_, rfl⟩
      rw [← hx] at hcx
      have HX := Lib.hid hx
      clear hcp hx
      by_cases h2 : b < nq'
      · have d2 : ((b : Int) == (nq' : Int)) = false := by simp; omega
        obtain ⟨bq, oq, rfl, _, hcq⟩ := (HQ3.out.below hnx.out (Nat.le_refl _)) (by have := HNQ.out; omega)
        have hcy := hcq b (by have := HNQ.out; omega)
        obtain ⟨y, hy⟩ : ∃ y, y = q.getD b 0 := ⟨_, rfl⟩
        rw [← hy] at hcy
        have HY := Lib.hid hy
        clear hcq hy
        go_wp2_with (first | (at_builtin; refine wpList_app_at rfl (.tmp 62) (.tmp 67) rfl w3.heap.size _ _ rfl (ho.out.alloc _) _ _ 1 1 [y] rfl (rd_lit1 _ _ _ (Nat.lt_succ_self _)) rfl (by omega) (by simp; omega) ?_) | (at_builtin; refine wpList_app_at rfl (.tmp 53) (.tmp 58) rfl w3.heap.size _ _ rfl (ho.out.alloc _) _ _ 1 1 [x] rfl (rd_lit1 _ _ _ (Nat.lt_succ_self _)) rfl (by omega) (by simp; omega) ?_))
        · intro v' w1 hown hgrow hbl
          have R1 := Lib.hid hown
          have R2 := Lib.hid ((hnx.out.alloc hws _).grown hgrow (by simp; omega) (fun j hj => (ho.out.lt j hj).1))
          have R3 := Lib.hid (show isSh (acc ++ [x]) (p.take (a + 1)) (q.take b) = true by rw [HX.out]; exact isSh_left hi.out (by have := HNP.out; omega))
          have R4 := Lib.hid (show (acc ++ [x]).length = (a + 1) + b by have := hl.out; simp; omega)
          clear hown hgrow hbl
          go_wp2_with fail
          go_roundw
          case rel => exact ⟨a + 1, b, acc ++ [x], by omega, by omega, by go_num, rfl, by go_num, R1, R3, R4, R2⟩
          case measure => simp [intOf]; omega
        · intro v' w1 hown hgrow hbl
          have R1 := Lib.hid hown
          have R2 := Lib.hid ((hnx.out.alloc hws _).grown hgrow (by simp; omega) (fun j hj => (ho.out.lt j hj).1))
          have R3 := Lib.hid (show isSh (acc ++ [y]) (p.take a) (q.take (b + 1)) = true by rw [HY.out]; exact isSh_right hi.out (by have := HNQ.out; omega))
          have R4 := Lib.hid (show (acc ++ [y]).length = a + (b + 1) by have := hl.out; simp; omega)
          clear hown hgrow hbl
          go_wp2_with fail
          go_roundw
          case rel => exact ⟨a, b + 1, acc ++ [y], by omega, by omega, rfl, by go_num, by go_num, R1, R3, R4, R2⟩
          case measure => simp [intOf]; omega
      · have d2 : ((b : Int) == (nq' : Int)) = true := by simp; omega
        go_wp2_with (at_builtin; refine wpList_app_at rfl (.tmp 53) (.tmp 58) rfl w3.heap.size _ _ rfl (ho.out.alloc _) _ _ 1 1 [x] rfl (rd_lit1 _ _ _ (Nat.lt_succ_self _)) rfl (by omega) (by simp; omega) ?_)
        intro v' w1 hown hgrow hbl
        have R1 := Lib.hid hown
        have R2 := Lib.hid ((hnx.out.alloc hws _).grown hgrow (by simp; omega) (fun j hj => (ho.out.lt j hj).1))
        have R3 := Lib.hid (show isSh (acc ++ [x]) (p.take (a + 1)) (q.take b) = true by rw [HX.out]; exact isSh_left hi.out (by have := HNP.out; omega))
        have R4 := Lib.hid (show (acc ++ [x]).length = (a + 1) + b by have := hl.out; simp; omega)
        clear hown hgrow hbl
        go_wp2_with fail
        go_roundw
        case rel => exact ⟨a + 1, b, acc ++ [x], by omega, by omega, by go_num, rfl, by go_num, R1, R3, R4, R2⟩
        case measure => simp [intOf]; omega
    · have d1 : ¬ (a : Int) < (np : Int) := by omega
      by_cases h2 : b < nq'
      · have d2 : ((b : Int) == (nq' : Int)) = false := by simp; omega
        have d3 : (b : Int) < (nq' : Int) := by omega
        obtain ⟨bq, oq, rfl, _, hcq⟩ := (HQ3.out.below hnx.out (Nat.le_refl _)) (by have := HNQ.out; omega)
        have hcy := hcq b (by have := HNQ.out; omega)
        obtain ⟨y, hy⟩ : ∃ y, y = q.getD b 0 := ⟨_, rfl⟩
        rw [← hy] at hcy
        have HY := Lib.hid hy
        clear hcq hy
        go_wp2_with (at_builtin; refine wpList_app_at rfl (.tmp 62) (.tmp 67) rfl w3.heap.size _ _ rfl (ho.out.alloc _) _ _ 1 1 [y] rfl (rd_lit1 _ _ _ (Nat.lt_succ_self _)) rfl (by omega) (by simp; omega) ?_)
        intro v' w1 hown hgrow hbl
        have R1 := Lib.hid hown
        have R2 := Lib.hid ((hnx.out.alloc hws _).grown hgrow (by simp; omega) (fun j hj => (ho.out.lt j hj).1))
        have R3 := Lib.hid (show isSh (acc ++ [y]) (p.take a) (q.take (b + 1)) = true by rw [HY.out]; exact isSh_right hi.out (by have := HNQ.out; omega))
        have R4 := Lib.hid (show (acc ++ [y]).length = a + (b + 1) by have := hl.out; simp; omega)
        clear hown hgrow hbl
        go_wp2_with fail
        go_roundw
        case rel => exact ⟨a, b + 1, acc ++ [y], by omega, by omega, rfl, by go_num, by go_num, R1, R3, R4, R2⟩
        case measure => simp [intOf]; omega
      · have d3 : ¬ (b : Int) < (nq' : Int) := by omega
        have hsh := Lib.hid (show isSh acc p q = true by
          have := hi.out
          rwa [List.take_of_length_le (by have := HNP.out; omega), List.take_of_length_le (by have := HNQ.out; omega)] at this)
        clear hi h1 h2
        obtain ⟨Aw, cw, rfl, hrw, kw, tw⟩ := own_rdc ho.out
        obtain ⟨nw, hnw⟩ : ∃ n, n = acc.length := ⟨_, rfl⟩
        have HNW := Lib.hid hnw.symm
        have HRW := Lib.hid hrw
        have HOW := Lib.hid (show Own wr w3.heap.size (.slice Aw nw cw) acc by have := ho.out; rwa [← hnw] at this)
        rw [← hnw] at kw hal ⊢
        have hnp : (HA3.out.below.size = HA3.out.below.size) := rfl
        have HPr := Lib.hid ((HP3.out.below hnx.out (Nat.le_refl _)).more hnx.out.size)
        have HQr := Lib.hid ((HQ3.out.below hnx.out (Nat.le_refl _)).more hnx.out.size)
        clear hrw hnw ho hl hnp
        go_wp2_with fail
        refine (wIsShuffle_any Aw Cp Cq nw np nq' cw cp cq acc p q wr HRW.out HPr.out HQr.out HNW.out HNP.out HNQ.out (by omega) (by omega) (by omega)).mono ?_
        rintro e w4 ⟨rfl, hb4⟩
        rw [hsh.out]
        have HRW4 := Lib.hid ((HRW.out.below hb4 (Nat.le_refl _)).more hb4.size)
        have HP4 := Lib.hid ((HPr.out.below hb4 (Nat.le_refl _)).more hb4.size)
        have HQ4 := Lib.hid ((HQr.out.below hb4 (Nat.le_refl _)).more hb4.size)
        have HO4 := Lib.hid (own_kept HOW.out hb4)
        have HA4 := Lib.hid ((HA3.out.step hnx.out hs3).step hb4 (by have := HAr.out.size; omega))
        have HN4 := Lib.hid (hnx.out.trans (hb4.mono hws))
        clear hb4 HRW HPr HQr HOW
        go_wp2_with fail
        refine (wIsShuffle_any Aw Cq Cp nw nq' np cw cq cp acc q p w4 HRW4.out HQ4.out HP4.out HNW.out HNQ.out HNP.out (by omega) (by omega) (by omega)).mono ?_
        rintro e w5 ⟨rfl, hb5⟩
        rw [show isSh acc q p = true by rw [isSh_comm]; exact hsh.out]
        have HRW5 := Lib.hid ((HRW4.out.below hb5 (Nat.le_refl _)).more hb5.size)
        have HP5 := Lib.hid ((HP4.out.below hb5 (Nat.le_refl _)).more hb5.size)
        have HQ5 := Lib.hid ((HQ4.out.below hb5 (Nat.le_refl _)).more hb5.size)
        have HO5 := Lib.hid (own_kept HO4.out hb5)
        have HA5 := Lib.hid (HA4.out.step hb5 (by have := HA4.out.size; omega))
        have HN5 := Lib.hid (HN4.out.trans (hb5.mono HN4.out.size))
        have hs5 := HN5.out.size
        clear hb5 HRW4 HP4 HQ4 HO4 HA4 HN4 HAr g0
        go_upto_if 85 with fail
        go_cut [9, 13, 14] from 22 to 111 (fun v _ _ wx => v = .slice Aw nw cw ∧ Hid (SwOk w3 wx Aw nw cw))
        case first =>
          by_cases hz : nw = 0
          · have hz0 : ¬ (0 : Int) < (nw : Int) := by omega
            have hz2 : decide ((0 : Int) < (nw : Int)) = false := by simp; omega
            have hz3 : decide (0 < nw) = false := by simp; omega
            go_wp2_with fail
            go_meet
            case rel => exact ⟨by rw [hz], ⟨acc, HNW.out, HO5.out⟩, HN5.out⟩
          · have hz0 : (0 : Int) < (nw : Int) := by omega
            have hz1 : ¬ (nw : Int) = 0 := by omega
            have hz2 : decide ((0 : Int) < (nw : Int)) = true := by simp; omega
            have hz3 : decide (0 < nw) = true := by simp; omega
            have f1 := HA5.out.c1
            have f2 := HA5.out.c2
            obtain ⟨u, hu⟩ : ∃ u : Nat, p1 % (nw : Int) = (u : Int) := ⟨(p1 % (nw : Int)).toNat, by have := Int.emod_nonneg p1 hz1; omega⟩
            obtain ⟨v, hv⟩ : ∃ v : Nat, p2 % (nw : Int) = (v : Int) := ⟨(p2 % (nw : Int)).toNat, by have := Int.emod_nonneg p2 hz1; omega⟩
            have hun : (u : Int) < (nw : Int) := by rw [← hu]; exact Int.emod_lt_of_pos _ hz0
            have hvn : (v : Int) < (nw : Int) := by rw [← hv]; exact Int.emod_lt_of_pos _ hz0
            go_wp2_with fail
            go_quiet (fail)
            go_wp2_with fail
            have HO6 := Lib.hid (show Own (w5.drewN nq) w3.heap.size (.slice Aw nw cw) acc from HO5.out)
            have HN6 := Lib.hid (below_drewN HN5.out nq)
            clear HRW5 HP5 HQ5 HO5 HA5 HN5 f1 f2
            generalize w5.drewN nq = w6 at *
            obtain ⟨g, rfl, hg1, hg2⟩ := own_addr HO6.out (by omega) HNW.out
            have HS6 := Lib.hid (show SwOk w3 w6 (some ⟨g, 0, none⟩) nw cw from ⟨⟨acc, HNW.out, HO6.out⟩, HN6.out⟩)
            try simp only [hu, hv]
            have hcu := own_cell HO6.out u (by rw [HNW.out]; omega)
            have hcv := own_cell HO6.out v (by rw [HNW.out]; omega)
            have hfu := World.ownsRow.frozenAt (w := w6) (base := w3.heap.size) (e := 3) (size := 1) (g := g) (n := acc.length) (cap := cw) (xs := acc.map (Value.int .i64)) (by have := HO6.out; rw [← HNW.out] at this; exact this) u
            have hfv := World.ownsRow.frozenAt (w := w6) (base := w3.heap.size) (e := 3) (size := 1) (g := g) (n := acc.length) (cap := cw) (xs := acc.map (Value.int .i64)) (by have := HO6.out; rw [← HNW.out] at this; exact this) v
            obtain ⟨xu, hxu⟩ : ∃ x, x = acc.getD u 0 := ⟨_, rfl⟩
            obtain ⟨xv, hxv⟩ : ∃ x, x = acc.getD v 0 := ⟨_, rfl⟩
            rw [← hxu] at hcu
            rw [← hxv] at hcv
            rw [Nat.zero_add] at hcu hcv
            clear hxu hxv
            have hun' : u < nw := by omega
            have hvn' : v < nw := by omega
            by_cases huv : u = v
            · subst huv
              go_region_law (fail)
              all_goals
                go_wp2_with fail
                go_meet
                case rel => exact ⟨rfl, by first | exact HS6.out | (repeat (first | exact HS6.out | refine SwOk.drew ?_ | refine SwOk.set ?_ _ (by assumption) _))⟩
            · go_region_law (fail)
              all_goals
                go_wp2_with fail
                go_meet
                case rel => exact ⟨rfl, by first | exact HS6.out | (repeat (first | exact HS6.out | refine SwOk.drew ?_ | refine SwOk.set ?_ _ (by assumption) _))⟩
        case rest =>
          obtain ⟨rfl, HS⟩ := hcut
          obtain ⟨wd, rfl⟩ : ∃ wo : World, wo = wc := ⟨_, rfl⟩
          obtain ⟨⟨sw, hsw, how⟩, hbw⟩ := HS.out
          obtain ⟨Aw', cw', ew, hrs, _, _⟩ := own_rdc how
          have HSW := Lib.hid hsw
          have HRS := Lib.hid (show RdI wd wd.heap.size Aw sw by injection ew with e1 _ _; rw [e1]; exact hrs)
          have HBW := Lib.hid hbw
          have HPc := Lib.hid ((HP3.out.below hbw (Nat.le_refl _)).more hbw.size)
          have HQc := Lib.hid ((HQ3.out.below hbw (Nat.le_refl _)).more hbw.size)
          have HBA := Lib.hid (HA3.out.below.trans (hbw.mono HA3.out.below.size))
          have hsz := HBA.out.size
          obtain ⟨mc, hmc⟩ : ∃ m : Nat, min (nc : Int) 7 = (m : Int) := ⟨min nc 7, by omega⟩
          obtain ⟨mb, hmb⟩ : ∃ m : Nat, min (nb : Int) 7 = (m : Int) := ⟨min nb 7, by omega⟩
          have m1 : (mc : Int) ≤ (cc : Int) := by omega
          have m2 : (mb : Int) ≤ (cb : Int) := by omega
          have m3 : mc ≤ 7 := by omega
          have m4 : mb ≤ 7 := by omega
          have m5 : mc ≤ nc := by omega
          have m6 : mb ≤ nb := by omega
          have HWZ := Lib.hid (show ∀ z ∈ bc.take mc ++ bs.take mb, 0 ≤ z ∧ z < 256 by
            intro z hz
            rcases List.mem_append.1 hz with h | h
            · exact wf_u8 (HWB.out z (List.mem_of_mem_take h))
            · exact wf_u8 (HWA.out z (List.mem_of_mem_take h)))
          have HLZ := Lib.hid (show (bc.take mc ++ bs.take mb).length = mc + mb by
            have := HLA.out
            have := HLB.out
            rw [List.length_append, List.length_take, List.length_take]; omega)
          clear hsw how ew hrs hbw HS HRW5 HP5 HQ5 HO5 HA5 HN5
          go_upto_region 17 with fail
          go_cut [15] from 22 to 125 (fun v wx => ∃ (A3 : Option Addr) (c3 k : Nat) (zz : List Int), v = .slice A3 k c3 ∧ Hid (RdI wx wx.heap.size A3 zz) ∧ Hid (zz.length = k) ∧ k ≤ 14 ∧ k ≤ c3 ∧ c3 ≤ 9223372036854775807 ∧ Hid (Below wd.heap.size wd wx))
          case first =>
           go_region_law (first
            | (refine step_app_b (by rfl) (.tmp 112) (.tmp 117) (by rfl) wd.heap.size _ [] (by rfl) (by exact ownB_lit0 wd wd.heap.size (Nat.le_refl _)) w.heap.size B mc cc (bc.take mc) (by rfl) (by exact (HBB.out.below ((HBA.out.alloc hsz _).drew) (Nat.le_refl _)).take mc) (by have := HLB.out; rw [List.length_take]; omega) (by simp; omega) (by simp) ?_
               intro v1 w6 hown hgrow
               have HO1 := Lib.hid hown
               have HG1 := Lib.hid (show Below wd.heap.size wd w6 from (((Below.refl _ wd).alloc (Nat.le_refl _) _).drew).grown hgrow (by simp) (fun k hk => by cases hk; exact Nat.le_refl _))
               clear hown hgrow)
            | (refine step_app_b (by rfl) (.tmp 118) (.tmp 123) (by rfl) wd.heap.size v1 (bc.take mc) (by rfl) (by exact HO1.out) w.heap.size A mb cb (bs.take mb) (by rfl) (by exact (HAB.out.below (HBA.out.trans (HG1.out.mono hsz)) (Nat.le_refl _)).take mb) (by have := HLA.out; rw [List.length_take]; omega) (by rw [List.length_take]; omega) (by exact HG1.out.size) ?_
               intro v2 w7 hown hgrow
               obtain ⟨A2, c2, rfl, hr2⟩ := ownB_rd hown
               have HR2 := Lib.hid hr2
               have HG2 := Lib.hid (show Below wd.heap.size wd w7 from HG1.out.grown hgrow HG1.out.size (fun k hk => (HO1.out.lt k hk).1))
               rw [HLZ.out]
               clear hown hgrow hr2)
            | (go_simp; go_at_call 25; refine (word_call A2 (mc + mb) c2 14 _ w7 _ HR2.out HLZ.out HWZ.out (by omega) _ rfl _ rfl (by first | exact Below.refl _ _ | exact (Below.refl _ _).drew)).mono ?_; rintro e w8 ⟨A3, c3, rfl, hr3, hb3, k3', t3'⟩
               have HR3 := Lib.hid hr3
               have HG3 := Lib.hid (show Below wd.heap.size wd w8 from HG2.out.trans ((show Below w7.heap.size w7 w8 from hb3).mono HG2.out.size))
               clear hr3 hb3))
           all_goals
             go_wp2_with fail
             go_meet
             case rel => exact ⟨A3, c3, _, _, rfl, HR3, rfl, wordZ_le _ _, k3', t3', HG3⟩
          case rest =>
           obtain ⟨A3, c3, k3, zz, rfl, HR3, HK3, hk3, k3', t3', HG3⟩ := hcut
           have HBZ := Lib.hid (HBA.out.trans (HG3.out.mono hsz))
           have RS0 := Lib.hid ((HRS.out.below HG3.out (Nat.le_refl _)).more HG3.out.size)
           have RP0 := Lib.hid ((HPc.out.below HG3.out (Nat.le_refl _)).more HG3.out.size)
           have RQ0 := Lib.hid ((HQc.out.below HG3.out (Nat.le_refl _)).more HG3.out.size)
           obtain ⟨r1, hr1⟩ : ∃ r, isSh sw p q = r := ⟨_, rfl⟩
           obtain ⟨r2, hr2⟩ : ∃ r, isSh zz p q = r := ⟨_, rfl⟩
           have v1 : nw ≤ 16 := by omega
           have v2 : k3 ≤ 16 := by omega
           have E1 := Lib.hid (is_call Aw Cp Cq nw np nq' cw cp cq sw p q r1 hr1 HSW.out HNP.out HNQ.out v1 np7 nq7)
           have E2 := Lib.hid (ris_call Aw Cp Cq nw np nq' cw cp cq sw p q r1 hr1 HSW.out HNP.out HNQ.out v1 np7 nq7 kw tw kp tp kq tq)
           have E3 := Lib.hid (is_call A3 Cp Cq k3 np nq' c3 cp cq zz p q r2 hr2 HK3.out HNP.out HNQ.out v2 np7 nq7)
           have E4 := Lib.hid (ris_call A3 Cp Cq k3 np nq' c3 cp cq zz p q r2 hr2 HK3.out HNP.out HNQ.out v2 np7 nq7 k3' t3' kp tp kq tq)
           have s1 : (r1 == r1) = true := by simp
           have s2 : (r2 == r2) = true := by simp
           clear hr1 hr2
           go_wp2_with fail
           refine (E1.out _ RS0.out RP0.out RQ0.out).mono ?_
           rintro e w21 ⟨rfl, hb⟩
           have RS1 := Lib.hid ((RS0.out.below hb (Nat.le_refl _)).more hb.size)
           have RP1 := Lib.hid ((RP0.out.below hb (Nat.le_refl _)).more hb.size)
           have RQ1 := Lib.hid ((RQ0.out.below hb (Nat.le_refl _)).more hb.size)
           have RZ1 := Lib.hid ((HR3.out.below hb (Nat.le_refl _)).more hb.size)
           have B1 := Lib.hid (HBZ.out.trans (hb.mono HBZ.out.size))
           clear hb RS0 RP0 RQ0
           go_wp2_with fail
           refine (E2.out _ RS1.out RP1.out RQ1.out).mono ?_
           rintro e w22 ⟨rfl, hq⟩
           have hb := below_of_draws (B := w21.heap.size) hq
           have RP2 := Lib.hid ((RP1.out.below hb (Nat.le_refl _)).more hb.size)
           have RQ2 := Lib.hid ((RQ1.out.below hb (Nat.le_refl _)).more hb.size)
           have RZ2 := Lib.hid ((RZ1.out.below hb (Nat.le_refl _)).more hb.size)
           have B2 := Lib.hid (B1.out.trans (hb.mono B1.out.size))
           clear hb hq RS1 RP1 RQ1 RZ1
           go_wp2_with fail
           refine (E3.out _ RZ2.out RP2.out RQ2.out).mono ?_
           rintro e w23 ⟨rfl, hb⟩
           have RP3 := Lib.hid ((RP2.out.below hb (Nat.le_refl _)).more hb.size)
           have RQ3 := Lib.hid ((RQ2.out.below hb (Nat.le_refl _)).more hb.size)
           have RZ3 := Lib.hid ((RZ2.out.below hb (Nat.le_refl _)).more hb.size)
           have B3 := Lib.hid (B2.out.trans (hb.mono B2.out.size))
           clear hb RP2 RQ2 RZ2
           go_wp2_with fail
           refine (E4.out _ RZ3.out RP3.out RQ3.out).mono ?_
           rintro e w24 ⟨rfl, hq⟩
           have B4 := Lib.hid (B3.out.trans ((below_of_draws (B := w23.heap.size) hq).mono B3.out.size))
           clear hq
           go_wp2_with fail
           go_ret
           exact ⟨ret_bool (by simp), B4.out⟩
end Go.Proofs.Ytdccmebkoibkhaa
