/- Layer 7: sameLanguages of the law's package. -/
import Derived.Test.YtmghngehpgolgaaZtPair
import Derived.Deep.RegionHeld3
import Derived.Deep.CutRange
import Derived.BigQuiet
import Derived.ChangeKeysEq
set_option linter.unusedVariables false
set_option linter.unusedSimpArgs false
set_option linter.unusedSectionVars false
namespace Go.Proofs.Ytmghngehpgolgaa
open Go.RowKit Go.Sort

theorem run_eqPair (p q u v : Int) (w : World) : (Op.equalIn 10000 91 (.agg #[.int .i64 p, .int .i64 q]) (.agg #[.int .i64 u, .int .i64 v])).run Try.prog w = .ok (decide (p = u ∧ q = v)) w := by
  obtain ⟨iI, iI0, iI1, iI2, iI3⟩ := info_parts info_int
  rw [show (10000 : Nat) = 9999 + 1 from rfl, run_equalIn_array w 9999 _ _ Try.underlying91 iI0]
  have hc : Try.prog.cellsOf 3 = 1 := by kernel_rfl
  rw [hc, show List.range 2 = [0, 1] from rfl]
  by_cases h1 : p = u
  · by_cases h2 : q = v
    · subst h1 h2
      simp [Op.eqItems]
      go_simp
    · subst h1
      simp [Op.eqItems]
      go_simp
  · simp [Op.eqItems]
    go_simp
attribute [local go_sem] run_eqPair
/-- What the inner loop keeps: the new pair in its box, the list. -/
structure S3 (wc : World) (base g3 co lo : Nat) (ps : List (Int × Int)) (xa xb : Int) (W : World) : Prop where
  bel : Below wc.heap.size wc W
  bx : Row W wc.heap.size 91 [.int .i64 xa, .int .i64 xb]
  ow : W.ownsRow base 91 2 (.slice (some ⟨g3, 0, none⟩) lo co) lo (encQ ps)
theorem S3.start {wc : World} {base g3 co lo : Nat} {ps : List (Int × Int)} (xa xb : Int) (h : wc.ownsRow base 91 2 (.slice (some ⟨g3, 0, none⟩) lo co) lo (encQ ps)) : S3 wc base g3 co lo ps xa xb (wc.alloc (.cells #[.int .i64 xa, .int .i64 xb] 91)) :=
  ⟨(Below.refl _ _).alloc (Nat.le_refl _) _, Row.new wc [.int .i64 xa, .int .i64 xb] 91, h.alloc _⟩
theorem S3.drewN {wc : World} {base g3 co lo : Nat} {ps : List (Int × Int)} {xa xb : Int} {W : World} (h : S3 wc base g3 co lo ps xa xb W) (q : Nat) : S3 wc base g3 co lo ps xa xb (W.drewN q) := ⟨below_drewN h.bel q, h.bx.drewN q, own_dr h.ow q⟩
theorem calls_sym8 {P : Program} {f : FuncId} {args : Array Value} {w : World} {v : Value} (h : Calls P f args w fun e w' => e = .returned v ∧ w = w') : Calls P f args w fun e w' => e = .returned v ∧ w' = w :=
  h.mono fun _ _ ⟨h1, h2⟩ => ⟨h1, h2.symm⟩
set_option maxHeartbeats 8000000 in
set_option maxRecDepth 100000 in
theorem sameLang_any (A : Option Addr) (n c : Nat) (s : Int) (M : Option Addr) (m d : Nat) (E : Option Addr) (k g : Nat) (A2 : Option Addr) (n2 c2 : Nat) (s2 : Int) (M2 : Option Addr) (m2 d2 : Nat) (E2 : Option Addr) (k2 g2 : Nat) (a b : Au) (w : World) (ha : AuR w w.heap.size A n c s M m d E k g a) (hb : AuR w w.heap.size A2 n2 c2 s2 M2 m2 d2 E2 k2 g2 b) (hra : RightW a) (hrb : RightW b) (hal : a.al = b.al) (h0 : 0 < a.st ↔ 0 < b.st) (sa : a.st ≤ 4096) (sb : b.st ≤ 4096)
    (hE : ∀ ws, (∀ x ∈ ws, x ∈ a.al) → genB a ws = genB b ws ∧ accB a ws = accB b ws) :
    Calls Try.prog 17 #[.agg #[.slice A n c, .int .i64 s, .slice M m d, .slice E k g], .agg #[.slice A2 n2 c2, .int .i64 s2, .slice M2 m2 d2, .slice E2 k2 g2]] w fun e w' => e = .returned (.bool true) ∧ Below w.heap.size w w' := by
  have HB1 := Lib.hid (((Below.refl w.heap.size w).alloc (Nat.le_refl _) (.cells #[.slice A n c, .int .i64 s, .slice M m d, .slice E k g] 25)).alloc (by simp) (.cells #[.slice A2 n2 c2, .int .i64 s2, .slice M2 m2 d2, .slice E2 k2 g2] 25))
  have hA := Lib.hid ((Row.new w [.slice A n c, .int .i64 s, .slice M m d, .slice E k g] 25).alloc (.cells #[.slice A2 n2 c2, .int .i64 s2, .slice M2 m2 d2, .slice E2 k2 g2] 25))
  have hB := Lib.hid (show Row ((w.alloc (.cells #[.slice A n c, .int .i64 s, .slice M m d, .slice E k g] 25)).alloc (.cells #[.slice A2 n2 c2, .int .i64 s2, .slice M2 m2 d2, .slice E2 k2 g2] 25)) (w.heap.size + 1) 25 [.slice A2 n2 c2, .int .i64 s2, .slice M2 m2 d2, .slice E2 k2 g2] by
    have := Row.new (w.alloc (.cells #[.slice A n c, .int .i64 s, .slice M m d, .slice E k g] 25)) [.slice A2 n2 c2, .int .i64 s2, .slice M2 m2 d2, .slice E2 k2 g2] 25
    simpa using this)
  have HRA := Lib.hid ha
  have HRB := Lib.hid hb
  have HIA := Lib.hid hra
  have HIB := Lib.hid hrb
  have HEE := Lib.hid hE
  have HSA := Lib.hid ha.st
  have HSB := Lib.hid hb.st
  have HAN := Lib.hid ha.hn
  have bna := ha.bn
  have bnb := hb.bn
  have bma := ha.bm
  have bmb := hb.bm
  have HSI := Lib.hid (fun (W : World) (hW : Below w.heap.size w W) => by
    have := sameInts_any A A2 n n2 c c2 w.heap.size w.heap.size a.al b.al W (ha.al.below hW (Nat.le_refl _)) (hb.al.below hW (Nat.le_refl _)) ha.hn hb.hn (by omega) (by omega)
    rw [decide_eq_true hal] at this; exact this)
  have hzz := Lib.hid (show ((w.alloc (.cells #[.slice A n c, .int .i64 s, .slice M m d, .slice E k g] 25)).alloc (.cells #[.slice A2 n2 c2, .int .i64 s2, .slice M2 m2 d2, .slice E2 k2 g2] 25)).heap.size = w.heap.size + 2 by simp)
  obtain ⟨iP, iP0, iP1, iP2, iP3⟩ := info_parts info_arr2
  have h0s : 0 < s ↔ 0 < s2 := by rw [← HSA.out, ← HSB.out]; exact h0
  have p0 := hA.out.cell 0 rfl
  have p1 := hA.out.cell 1 rfl
  have p2 := hA.out.cell 2 rfl
  have p3 := hA.out.cell 3 rfl
  have q0 := hB.out.cell 0 rfl
  have q1 := hB.out.cell 1 rfl
  have q2 := hB.out.cell 2 rfl
  have q3 := hB.out.cell 3 rfl
  clear ha hb hra hrb h0 hE hal
  by_cases hp : 0 < s
  rotate_left
  · have hp2 : ¬ 0 < s2 := fun h => hp (h0s.2 h)
    have dd1 : decide (0 < s) = false := decide_eq_false hp
    have dd2 : decide (0 < s2) = false := decide_eq_false hp2
    clear h0s
    go_enter Try.func17, Try.ntmps17
    go_wp2_with fail
    refine (HSI.out _ HB1.out).mono ?_
    rintro e w1 ⟨rfl, q, hw1⟩
    have hb1 : Below w.heap.size w w1 := by rw [hw1]; exact below_drewN HB1.out q
    have p1 : w1.cell? ⟨w.heap.size, 1, none⟩ = some (.int .i64 s) := by rw [hw1]; exact hA.out.cell 1 rfl
    have q1 : w1.cell? ⟨w.heap.size + 1, 1, none⟩ = some (.int .i64 s2) := by rw [hw1]; exact hB.out.cell 1 rfl
    clear p0 p2 p3 q0 q2 q3 hw1
    have hb1 := Lib.hid hb1
    go_wp2_with fail
    go_loopw [5, 6] (fun v i wr => v = .slice none 0 0 ∧ i = .int .i64 0 ∧ w1 = wr) (fun _ _ _ => 0)
    case atStart => exact ⟨rfl, rfl, rfl⟩
    case round =>
      obtain ⟨rfl, rfl, hwr⟩ := hrel
      subst hwr
      go_wp2_with fail
      go_ret
      exact ⟨rfl, hb1.out⟩
  have hp2 : 0 < s2 := h0s.1 hp
  have dd1 : decide (0 < s) = true := decide_eq_true hp
  have dd2 : decide (0 < s2) = true := decide_eq_true hp2
  have HA0 := Lib.hid (show a.st ≠ 0 by rw [HSA.out]; omega)
  have HB0 := Lib.hid (show b.st ≠ 0 by rw [HSB.out]; omega)
  have HPS := Lib.hid (PsI.start (a := a) (b := b) (by rw [HSA.out]; exact hp) (by rw [HSB.out]; exact hp2))
  obtain ⟨K, hK⟩ : ∃ K, a.st.toNat * b.st.toNat = K := ⟨_, rfl⟩
  have hKb : K ≤ 16777216 := by rw [← hK]; exact Nat.mul_le_mul (show a.st.toNat ≤ 4096 by omega) (show b.st.toNat ≤ 4096 by omega)
  have HLEN := Lib.hid (fun (ps : List (Int × Int)) (h : PsI a b ps) => show ps.length ≤ K by rw [← hK]; exact h.len sb sa)
  clear h0s hK
  go_enter Try.func17, Try.ntmps17
  go_wp2_with fail
  refine (HSI.out _ HB1.out).mono ?_
  rintro e w1 ⟨rfl, q, hw1⟩
  have hb1 : Below w.heap.size w w1 := by rw [hw1]; exact below_drewN HB1.out q
  have hsz1 : w1.heap.size = w.heap.size + 2 := by rw [hw1]; exact hzz.out
  have hA1 : Row w1 w.heap.size 25 [.slice A n c, .int .i64 s, .slice M m d, .slice E k g] := by rw [hw1]; exact hA.out
  have hB1 : Row w1 (w.heap.size + 1) 25 [.slice A2 n2 c2, .int .i64 s2, .slice M2 m2 d2, .slice E2 k2 g2] := by rw [hw1]; exact hB.out
  have HB1' := Lib.hid hb1
  have HSZ := Lib.hid hsz1
  have CA := Lib.hid (fun W (hW : Below w1.heap.size w1 W) => box_row A n c s M m d E k g (hA1.below hW (by omega)))
  have CB := Lib.hid (fun W (hW : Below w1.heap.size w1 W) => box_row A2 n2 c2 s2 M2 m2 d2 E2 k2 g2 (hB1.below hW (by omega)))
  clear p0 p1 p2 p3 q0 q1 q2 q3 hw1 hb1 hsz1 hA1 hB1 hA hB hzz HB1 HSI
  obtain ⟨p0, p1, p2, p3⟩ := CA.out _ (Below.refl _ _)
  obtain ⟨q0, q1, q2, q3⟩ := CB.out _ (Below.refl _ _)
  go_wp2_with (first | (at_builtin; refine wpList_append_own_at _ rfl _ _ 90 rfl w1.heap.size 91 iP (.agg #[.int .i64 0, .int .i64 0]) 2 16 Try.underlying90 iP0 iP1 iP2 iP3 rfl (by decide) _ 0 [] rfl (World.ownsRow_nil _ _ _ _) ⟨w1.heap.size, 0, none⟩ 1 1 [.int .i64 0, .int .i64 0] rfl rfl (World.news_of_block (cs := #[.int .i64 0, .int .i64 0]) (t := 91) (fr := (0, 0)) (heap_alloc_new w1 _)) (by simp [Value.oneCell']) (by unfold maxLen; omega) (by omega) (by simp) ?_; intro v3 w3 hown3 hgrow3 _ _))
  have HO3 := Lib.hid (show OwnQ w3 w1.heap.size v3 [(0, 0)] from hown3)
  have HB3 := Lib.hid (show Below w1.heap.size w1 w3 from ((Below.refl _ w1).alloc (Nat.le_refl _) _).grown hgrow3 (by simp) (fun j hj => by cases hj))
  clear hown3 hgrow3 p0 p1 p2 p3 q0 q1 q2 q3
  go_wp2_with fail
  go_loopw [5, 6] (fun v iv wr => ∃ (i : Nat) (ps : List (Int × Int)), i ≤ ps.length ∧ iv = .int .i64 i ∧ Hid (PsI a b ps) ∧ Hid (OwnQ wr w1.heap.size v ps) ∧ Hid (Below w1.heap.size w1 wr)) (fun _ i _ => K - (intOf i).toNat)
  case atStart => exact ⟨0, [(0, 0)], Nat.zero_le _, rfl, HPS, HO3, HB3⟩
  case round =>
    clear HO3 HB3 HPS
    obtain ⟨i, ps, hi, rfl, hps, hown, hbel⟩ := hrel
    obtain ⟨p0, p1, p2, p3⟩ := CA.out _ hbel.out
    obtain ⟨q0, q1, q2, q3⟩ := CB.out _ hbel.out
    have hpl := HLEN.out ps hps.out
    by_cases hlt : i < ps.length
    · obtain ⟨pr, hpr⟩ : ∃ pr, ps[i]? = some pr := ⟨_, List.getElem?_eq_getElem hlt⟩
      have HOK := Lib.hid (hps.out.ok pr (List.mem_of_getElem? hpr))
      obtain ⟨g3, co, hv3, hg3a, hg3b, hc0, hc1⟩ := ownQ_at hown.out hpr
      subst hv3
      obtain ⟨px, py⟩ := pr
      have HPR := Lib.hid hpr
      obtain ⟨lo, hlo⟩ : ∃ lo, ps.length = lo := ⟨_, rfl⟩
      have HLO := Lib.hid hlo
      rw [hlo] at hi hpl hlt ⊢
      obtain ⟨r, hr⟩ : ∃ r, decide (px ∈ a.mr) = r := ⟨_, rfl⟩
      have hr2 : decide (py ∈ b.mr) = r := by rw [← hr]; exact (pr_mark HA0.out HB0.out HEE.out HOK.out).symm
      have HHA := Lib.hid (fun q : Nat => by
        have := lHas_any M m d w.heap.size a.mr px (wr.drewN q) ((HRA.out.mr.below (HB1'.out.trans (hbel.out.mono HB1'.out.size)) (Nat.le_refl _)).dr q) HRA.out.hm (by omega)
        rw [hr] at this; exact calls_sym8 this)
      have HHB := Lib.hid (fun q : Nat => by
        have := lHas_any M2 m2 d2 w.heap.size b.mr py (wr.drewN q) ((HRB.out.mr.below (HB1'.out.trans (hbel.out.mono HB1'.out.size)) (Nat.le_refl _)).dr q) HRB.out.hm (by omega)
        rw [hr2] at this; exact calls_sym8 this)
      have hrr : (r != r) = false := by simp
      have z0 : (i : Int) < (lo : Int) := by omega
      have z1 : (0 : Int) ≤ (i : Int) := by omega
      clear hr hr2 hlo hpr
      go_wp2_with fail
      go_quiet ((go_at_call 49; first | with_reducible exact Calls.quiet_of_same (HHA.out _) | with_reducible exact Calls.quiet_of_same (HHB.out _)))
      have hq := Lib.hid (below_drewN hbel.out nq)
      have ho := Lib.hid (show OwnQ (wr.drewN nq) w1.heap.size (.slice (some ⟨g3, 0, none⟩) lo co) ps from by have := hown.out; rw [OwnQ, HLO.out] at this; rw [OwnQ, HLO.out]; exact own_dr this nq)
      have HPSI := hps
      clear hown hbel hps HHA HHB hc0 hc1 p0 p1 p2 p3 q0 q1 q2 q3 hg3a hg3b
      generalize wr.drewN nq = wq at *
      obtain ⟨p0, p1, p2, p3⟩ := CA.out _ hq.out
      obtain ⟨q0, q1, q2, q3⟩ := CB.out _ hq.out
      go_wp2_with fail
      go_loopw [5, 7] (fun v kv wr => ∃ (j : Nat) (ps' : List (Int × Int)), j ≤ n ∧ kv = .int .i64 j ∧ Hid (ps'[i]? = some (px, py)) ∧ Hid (PsI a b ps') ∧ Hid (OwnQ wr w1.heap.size v ps') ∧ Hid (Below w1.heap.size w1 wr)) (fun _ j _ => n - (intOf j).toNat)
      case atStart => exact ⟨0, ps, Nat.zero_le _, rfl, HPR, HPSI, ho, hq⟩
      case round =>
        clear ho hq HPSI HPR p0 p1 p2 p3 q0 q1 q2 q3 HLO hlt z0 hpl hi
        obtain ⟨j, ps, hj, rfl, HPR, hps, hown, hbel⟩ := hrel
        obtain ⟨p0, p1, p2, p3⟩ := CA.out _ hbel.out
        obtain ⟨q0, q1, q2, q3⟩ := CB.out _ hbel.out
        have hpl := HLEN.out ps hps.out
        by_cases hjl : j < n
        · obtain ⟨g3, co, hv3, hg3a, hg3b, hc0, hc1⟩ := ownQ_at hown.out HPR.out
          subst hv3
          obtain ⟨lo, hlo⟩ : ∃ lo, ps.length = lo := ⟨_, rfl⟩
          have HLO := Lib.hid hlo
          have HIL := Lib.hid (show i < lo by rw [← hlo]; exact (List.getElem?_eq_some_iff.1 HPR.out).1)
          have hil := HIL.out
          rw [hlo] at hpl ⊢
          have hown' := hown.out
          rw [OwnQ, hlo] at hown'
          have HOW := Lib.hid hown'
          obtain ⟨bA, oA, rfl, hbA, hcA⟩ := HRA.out.al (by rw [HAN.out]; omega)
          have hz : j < a.al.length := by rw [HAN.out]; exact hjl
          obtain ⟨ev, hev⟩ : ∃ ev, ev = a.al.getD j 0 := ⟨_, rfl⟩
          have HEM := Lib.hid (show ev ∈ a.al by rw [hev]; exact getD_mem hz)
          have hce := ((HB1'.out.trans (hbel.out.mono HB1'.out.size)).cell (p := ⟨bA, oA + j, none⟩) hbA).trans (hcA j hz)
          rw [← hev] at hce
          have HBA := Lib.hid (show bA < wr.heap.size from Nat.lt_of_lt_of_le hbA (HB1'.out.trans (hbel.out.mono HB1'.out.size)).size)
          have HG3 := Lib.hid hg3b
          obtain ⟨xa, hxa⟩ : ∃ x, x = stepI a px ev := ⟨_, rfl⟩
          obtain ⟨xb, hxb⟩ : ∃ x, x = stepI b py ev := ⟨_, rfl⟩
          have HXA := Lib.hid hxa
          have HXB := Lib.hid hxb
          have hbw := Lib.hid (HB1'.out.trans (hbel.out.mono HB1'.out.size))
          have HS1 := Lib.hid (fun W (hW : Below wr.heap.size wr W) => (rStep_any (some ⟨bA, oA, none⟩) n c s M m d E k g a px ev w.heap.size W (HRA.out.below (hbw.out.trans (hW.mono hbw.out.size)) (Nat.le_refl _)) (hbw.out.trans (hW.mono hbw.out.size)).size).mono (R' := fun e w' => e = .returned (.int .i64 xa) ∧ Below wr.heap.size wr w') fun e w' hh => ⟨by rw [hh.1, hxa], hW.trans (hh.2.mono hW.size)⟩)
          have HS2 := Lib.hid (fun W (hW : Below wr.heap.size wr W) => (rStep_any A2 n2 c2 s2 M2 m2 d2 E2 k2 g2 b py ev w.heap.size W (HRB.out.below (hbw.out.trans (hW.mono hbw.out.size)) (Nat.le_refl _)) (hbw.out.trans (hW.mono hbw.out.size)).size).mono (R' := fun e w' => e = .returned (.int .i64 xb) ∧ Below wr.heap.size wr w') fun e w' hh => ⟨by rw [hh.1, hxb], hW.trans (hh.2.mono hW.size)⟩)
          have HCC := Lib.hid (fun W (hW : Below wr.heap.size wr W) => (⟨(hW.cell (p := ⟨g3, i * 2, none⟩) HG3.out).trans hc0, (hW.cell (p := ⟨g3, i * 2 + 1, none⟩) HG3.out).trans hc1, (hW.cell (p := ⟨bA, oA + j, none⟩) HBA.out).trans hce⟩ : W.cell? ⟨g3, i * 2, none⟩ = some (.int .i64 px) ∧ W.cell? ⟨g3, i * 2 + 1, none⟩ = some (.int .i64 py) ∧ W.cell? ⟨bA, oA + j, none⟩ = some (.int .i64 ev)))
          have HT0 := Lib.hid (Below.refl wr.heap.size wr)
          have HT0d := Lib.hid (Below.refl wr.heap.size wr).drew
          have CA2 := Lib.hid (fun W (hW : Below wr.heap.size wr W) => CA.out W (hbel.out.trans (hW.mono hbel.out.size)))
          have CB2 := Lib.hid (fun W (hW : Below wr.heap.size wr W) => CB.out W (hbel.out.trans (hW.mono hbel.out.size)))
          have z0 : (i : Int) < (lo : Int) := by omega
          have z2 : (j : Int) < (n : Int) := by omega
          have z3 : (0 : Int) ≤ (j : Int) := by omega
          clear hev hxa hxb hz hcA hlo hown'
          go_wp2_with fail
          go_cut [8, 9] from 65 to 88 (fun v8 v9 wx => v8 = .int .i64 xa ∧ v9 = .int .i64 xb ∧ Hid (Below wr.heap.size wr wx))
          case first =>
            go_region_held3 (fun w' => w'.cell? ⟨w.heap.size, 0, none⟩ = some (.slice (some ⟨bA, oA, none⟩) n c) ∧ w'.cell? ⟨w.heap.size, 1, none⟩ = some (.int .i64 s) ∧ w'.cell? ⟨w.heap.size, 2, none⟩ = some (.slice M m d) ∧ w'.cell? ⟨w.heap.size, 3, none⟩ = some (.slice E k g) ∧ w'.cell? ⟨w.heap.size + 1, 0, none⟩ = some (.slice A2 n2 c2) ∧ w'.cell? ⟨w.heap.size + 1, 1, none⟩ = some (.int .i64 s2) ∧ w'.cell? ⟨w.heap.size + 1, 2, none⟩ = some (.slice M2 m2 d2) ∧ w'.cell? ⟨w.heap.size + 1, 3, none⟩ = some (.slice E2 k2 g2) ∧ w'.cell? ⟨g3, i * 2, none⟩ = some (.int .i64 px) ∧ w'.cell? ⟨g3, i * 2 + 1, none⟩ = some (.int .i64 py) ∧ w'.cell? ⟨bA, oA + j, none⟩ = some (.int .i64 ev)) (first | with_reducible exact ⟨p0, p1, p2, p3, q0, q1, q2, q3, hc0, hc1, hce⟩ | go_keep)
              (first
              | (go_simp; go_at_call 50; (first | with_reducible refine (HS1.out _ HT0.out).mono ?_ | with_reducible refine (HS1.out _ HT0d.out).mono ?_); rintro e wx ⟨rfl, hh⟩
                 have HT1 := Lib.hid hh
                 have HT1d := Lib.hid hh.drew
                 obtain ⟨p0, p1, p2, p3⟩ := CA2.out _ hh
                 obtain ⟨q0, q1, q2, q3⟩ := CB2.out _ hh
                 obtain ⟨hc0, hc1, hce⟩ := HCC.out _ hh
                 clear hh)
              | (go_simp; go_at_call 50; (first | with_reducible refine (HS2.out _ HT1.out).mono ?_ | with_reducible refine (HS2.out _ HT1d.out).mono ?_); rintro e wy ⟨rfl, hh⟩
                 have HT2 := Lib.hid hh
                 obtain ⟨p0, p1, p2, p3⟩ := CA2.out _ hh
                 obtain ⟨q0, q1, q2, q3⟩ := CB2.out _ hh
                 obtain ⟨hc0, hc1, hce⟩ := HCC.out _ hh
                 clear hh))
            all_goals
              go_wp2_with fail
              go_meet
              case rel => exact ⟨rfl, rfl, HT2⟩
          case rest =>
            obtain ⟨rfl, rfl, hbx⟩ := hcut
            have hbel2 := Lib.hid (hbel.out.trans (hbx.out.mono hbel.out.size))
            have HOW2 := Lib.hid (own_below HOW.out hbx.out)
            have hst := pr_step HA0.out HB0.out HEE.out (hps.out.ok (px, py) (List.mem_of_getElem? HPR.out)) HEM.out
            have HOKP := Lib.hid (hps.out.ok (px, py) (List.mem_of_getElem? HPR.out))
            have hbs2 := hbel2.out.size
            clear HS1 HS2 HT0 HT0d CA2 CB2 HCC p0 p1 p2 p3 q0 q1 q2 q3 hc0 hc1 hce hbw hown hbel HOW hbx
            obtain ⟨p0, p1, p2, p3⟩ := CA.out _ hbel2.out
            obtain ⟨q0, q1, q2, q3⟩ := CB.out _ hbel2.out
            cases hsa : stepO a px ev with
            | none =>
              cases hsb : stepO b py ev with
              | some v => rw [hsa, hsb] at hst; cases hst
              | none =>
                have h1 := stepI_neg hsa
                rw [← HXA.out] at h1
                have h2 := stepI_neg hsb
                rw [← HXB.out] at h2
                subst h1 h2
                clear hsa hsb hst p0 p1 p2 p3 q0 q1 q2 q3
                go_wp2_with fail
                go_loopw [11, 12] (fun sv mv wr3 => ∃ m : Nat, m ≤ lo ∧ sv = .bool true ∧ mv = .int .i64 m ∧ ∃ q, wr3 = (wc.alloc (.cells #[.int .i64 (-1), .int .i64 (-1)] 91)).drewN q) (fun _ m _ => lo - (intOf m).toNat)
                case atStart => exact ⟨0, Nat.zero_le _, rfl, rfl, 0, rfl⟩
                case round =>
                  obtain ⟨m', hm, rfl, rfl, q, rfl⟩ := hrel
                  have hib2 : (m' : Int) + 1 ≤ 100000000 := by omega
                  by_cases hml : m' < lo
                  · have y0 : (m' : Int) < (lo : Int) := by omega
                    go_wp2_with fail
                    go_quiet (fail)
                    go_wp2_with fail
                    go_roundw
                    case rel => exact ⟨m' + 1, by omega, rfl, by go_num, _, rfl⟩
                    case measure => simp [intOf]; omega
                  · obtain rfl : m' = lo := by omega
                    have y0 : (m' : Int) ≤ (m' : Int) := by omega
                    have hf1 := Lib.hid (below_drewN (hbel2.out.alloc hbs2 (.cells #[.int .i64 (-1), .int .i64 (-1)] 91)) q)
                    have hf2 := Lib.hid (show OwnQ ((wc.alloc (.cells #[.int .i64 (-1), .int .i64 (-1)] 91)).drewN q) w1.heap.size (.slice (some ⟨g3, 0, none⟩) m' co) ps from by rw [OwnQ, HLO.out]; exact own_dr (HOW2.out.alloc _) q)
                    go_wp2_with fail
                    go_roundw
                    case rel => first | exact ⟨j + 1, ps, by omega, by go_num, HPR, hps, hf2, hf1⟩ | ((repeat apply Exists.intro); exact ⟨⟨j + 1, ps, by omega, by go_num, HPR, hps, hf2, hf1⟩, rfl⟩)
                    case measure => simp [intOf]; omega
            | some u =>
              cases hsb : stepO b py ev with
              | none => rw [hsa, hsb] at hst; cases hst
              | some v =>
                have h1 := stepI_pos hsa
                rw [← HXA.out] at h1
                have h2 := stepI_pos hsb
                rw [← HXB.out] at h2
                subst h1 h2
                have HNX := Lib.hid (pr_next HIA.out HIB.out HOKP.out HEM.out hsa hsb)
                have hu0 : ¬ xa < 0 := by have := HNX.out.1.1; simp only at this; omega
                have hv0 : ¬ xb < 0 := by have := HNX.out.2.1.1; simp only at this; omega
                have e1 : decide (xa < 0) = false := decide_eq_false hu0
                have e2 : decide (xb < 0) = false := decide_eq_false hv0
                clear hsa hsb hst p0 p1 p2 p3 q0 q1 q2 q3
                have hs3 := Lib.hid (S3.start xa xb HOW2.out)
                go_wp2_with fail
                go_loopw [11, 12] (fun sv mv wr3 => ∃ m : Nat, m ≤ lo ∧ sv = .bool (decide ((xa, xb) ∈ ps.take m)) ∧ mv = .int .i64 m ∧ Hid (S3 wc w1.heap.size g3 co lo ps xa xb wr3)) (fun _ m _ => lo - (intOf m).toNat)
                case atStart => exact ⟨0, Nat.zero_le _, by simp, rfl, hs3⟩
                case round =>
                  clear hs3
                  obtain ⟨m', hm, rfl, rfl, h3⟩ := hrel
                  have hib2 : (m' : Int) + 1 ≤ 100000000 := by omega
                  have b0 := h3.out.bx.cell 0 rfl
                  have b1 := h3.out.bx.cell 1 rfl
                  have hbz := h3.out.bel.size
                  have hbl := h3.out.bx.lt
                  by_cases hml : m' < lo
                  · have y0 : (m' : Int) < (lo : Int) := by omega
                    have y1 : (0 : Int) ≤ (m' : Int) := by omega
                    have h3d := Lib.hid (fun q => h3.out.drewN q)
                    obtain ⟨pm, hpm⟩ : ∃ pm, ps[m']? = some pm := ⟨_, List.getElem?_eq_getElem (by rw [HLO.out]; exact hml)⟩
                    have htk : ∀ z : Int × Int, z ∈ ps.take (m' + 1) ↔ z ∈ ps.take m' ∨ z = pm := fun z => by
                      rw [List.take_add_one, hpm, List.mem_append]; simp
                    by_cases hse : (xa, xb) ∈ ps.take m'
                    · have hD := decide_eq_true hse
                      have hD2 := Lib.hid (decide_eq_true ((htk (xa, xb)).2 (.inl hse)))
                      clear htk hse
                      rw [hD]
                      clear hD hpm
                      go_wp2_with fail
                      go_quiet (fail)
                      go_wp2_with fail
                      go_roundw
                      case rel => exact ⟨m' + 1, by omega, by rw [hD2.out], by go_num, Lib.hid (h3d.out _)⟩
                      case measure => simp [intOf]; omega
                    · have hD := decide_eq_false hse
                      obtain ⟨g4, c4, hv4, _, hgl, hk0, hk1⟩ := ownQ_at (show OwnQ _ w1.heap.size (.slice (some ⟨g3, 0, none⟩) lo co) ps from by rw [OwnQ, HLO.out]; exact h3.out.ow) hpm
                      injection hv4 with hv5 hv8 hv9
                      clear hv8 hv9
                      injection hv5 with hv6
                      injection hv6 with hv7
                      subst hv7
                      obtain ⟨pa, pb⟩ := pm
                      simp only at hk0 hk1
                      rw [hD]
                      clear hD hpm
                      by_cases ha1 : pa = xa
                      · by_cases hb1 : pb = xb
                        · have hD2 := Lib.hid (decide_eq_true ((htk (xa, xb)).2 (.inr (by rw [ha1, hb1]))))
                          rw [ha1] at hk0
                          rw [hb1] at hk1
                          clear htk hse ha1 hb1
                          go_wp2_with fail
                          go_quiet (fail)
                          go_wp2_with fail
                          go_roundw
                          case rel => exact ⟨m' + 1, by omega, by rw [hD2.out], by go_num, Lib.hid (h3d.out _)⟩
                          case measure => simp [intOf]; omega
                        · have hD2 := Lib.hid (decide_eq_false (p := (xa, xb) ∈ ps.take (m' + 1)) (fun h => by
                            rcases (htk _).1 h with h | h
                            · exact hse h
                            · injection h with _ h; exact hb1 h.symm))
                          have f1 : decide (pb = xb) = false := decide_eq_false hb1
                          clear htk hse
                          go_wp2_with fail
                          go_quiet (fail)
                          go_wp2_with fail
                          go_roundw
                          case rel => exact ⟨m' + 1, by omega, by rw [hD2.out], by go_num, Lib.hid (h3d.out _)⟩
                          case measure => simp [intOf]; omega
                      · have hD2 := Lib.hid (decide_eq_false (p := (xa, xb) ∈ ps.take (m' + 1)) (fun h => by
                          rcases (htk _).1 h with h | h
                          · exact hse h
                          · injection h with h _; exact ha1 h.symm))
                        have f1 : decide (pa = xa) = false := decide_eq_false ha1
                        clear htk hse
                        go_wp2_with fail
                        go_quiet (fail)
                        go_wp2_with fail
                        go_roundw
                        case rel => exact ⟨m' + 1, by omega, by rw [hD2.out], by go_num, Lib.hid (h3d.out _)⟩
                        case measure => simp [intOf]; omega
                  · obtain rfl : m' = lo := by omega
                    have hto : ps.take m' = ps := List.take_of_length_le (by rw [HLO.out]; exact Nat.le_refl _)
                    rw [hto]
                    have y0 : (m' : Int) ≤ (m' : Int) := by omega
                    have hf1 := Lib.hid (hbel2.out.trans (h3.out.bel.mono hbs2))
                    have hf2 := Lib.hid (show OwnQ _ w1.heap.size (.slice (some ⟨g3, 0, none⟩) m' co) ps from by rw [OwnQ, HLO.out]; exact h3.out.ow)
                    by_cases hse : (xa, xb) ∈ ps
                    · rw [decide_eq_true hse]
                      clear hse hto
                      go_wp2_with fail
                      go_roundw
                      case rel => first | exact ⟨j + 1, ps, by omega, by go_num, HPR, hps, hf2, hf1⟩ | ((repeat apply Exists.intro); exact ⟨⟨j + 1, ps, by omega, by go_num, HPR, hps, hf2, hf1⟩, rfl⟩)
                      case measure => simp [intOf]; omega
                    · rw [decide_eq_false hse]
                      have hps2 := Lib.hid (hps.out.add HNX.out hse)
                      have HPR2 := Lib.hid (show (ps ++ [(xa, xb)])[i]? = some (px, py) by rw [List.getElem?_append_left (by rw [HLO.out]; exact hil)]; exact HPR.out)
                      have HOW3 := Lib.hid h3.out.ow
                      clear hse hto hf2 h3
                      go_wp2_with (at_builtin; refine wpList_append_own_at _ rfl _ _ 90 rfl w1.heap.size 91 iP (.agg #[.int .i64 0, .int .i64 0]) 2 16 Try.underlying90 iP0 iP1 iP2 iP3 rfl (by decide) _ m' (encQ ps) rfl (HOW3.out.alloc _) ⟨wr.heap.size, 0, none⟩ 1 1 [.int .i64 xa, .int .i64 xb] rfl rfl (World.news_of_block (cs := #[.int .i64 xa, .int .i64 xb]) (t := 91) (fr := (0, 0)) (heap_alloc_new wr _)) (by simp [Value.oneCell']) (by unfold maxLen; omega) (by omega) (by simp; omega) ?_)
                      intro v6 w6 hown6 hgrow6 _ _
                      have hO := Lib.hid (show OwnQ w6 w1.heap.size v6 (ps ++ [(xa, xb)]) by rw [OwnQ, encQ_app, List.length_append, HLO.out]; exact hown6)
                      have hB := Lib.hid ((hf1.out.alloc (by omega) _).grown hgrow6 (by simp; omega) (fun k hk => (HOW3.out.lt k hk).1))
                      clear hown6 hgrow6
                      go_wp2_with fail
                      go_roundw
                      case rel => first | exact ⟨j + 1, ps ++ [(xa, xb)], by omega, by go_num, HPR2, hps2, hO, hB⟩ | ((repeat apply Exists.intro); exact ⟨⟨j + 1, ps ++ [(xa, xb)], by omega, by go_num, HPR2, hps2, hO, hB⟩, rfl⟩)
                      case measure => simp [intOf]; omega
        · obtain rfl : j = n := by omega
          have HIL := Lib.hid ((List.getElem?_eq_some_iff.1 HPR.out).1)
          have z2 : (j : Int) ≤ (j : Int) := by omega
          have hib : i < K := Nat.lt_of_lt_of_le HIL.out hpl
          have hib2 : (i : Int) + 1 ≤ 100000000 := by omega
          go_wp2_with fail
          go_roundw
          case rel => exact ⟨i + 1, ps, HIL.out, by go_num, hps, hown, hbel⟩
          case measure => simp [intOf]; omega
    · have hi2 : i = ps.length := by omega
      obtain ⟨A5, c5, hv5⟩ := ownQ_shape hown.out
      subst hv5
      have hbe := Lib.hid (HB1'.out.trans (hbel.out.mono HB1'.out.size))
      have z0 : ((ps.length : Nat) : Int) ≤ (i : Int) := by omega
      clear hown hbel
      go_wp2_with fail
      go_ret
      exact ⟨rfl, hbe.out⟩
end Go.Proofs.Ytmghngehpgolgaa
