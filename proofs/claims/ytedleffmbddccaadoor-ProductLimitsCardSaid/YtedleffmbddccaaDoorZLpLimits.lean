/- Layer 6: the law of the product's limits, walked. -/
import Derived.Test.YtedleffmbddccaaDoorZlR
import Derived.Test.YtedleffmbddccaaDoorZlS
import Derived.Test.YtedleffmbddccaaDoorZlF
import Derived.Test.YtedleffmbddccaaDoorZa11
import Derived.Test.YtedleffmbddccaaDoorZlG
import Derived.Deep.CutBlock
import Derived.BigQuiet
set_option linter.unusedVariables false
set_option linter.unusedSimpArgs false
set_option linter.unusedSectionVars false
namespace Go.Proofs.YtedleffmbddccaaDoor
open Go.RowKit Go.Sort

theorem row_newL2 (W : World) (o : Obj) (cs : List Value) (T : TypeId) : Row ((W.alloc o).alloc (.cells cs.toArray T)) (W.heap.size + 1) T cs := by
  have := Row.new (W.alloc o) cs T; rwa [World.size_alloc] at this
theorem prT_app (k : Int) : ∀ ks : List Int, prT (ks ++ [k]) = prT ks * k
  | [] => by simp [prT]
  | x :: ks => by rw [List.cons_append, prT, prT, prT_app k ks, Int.mul_assoc]
theorem news_four {W : World} {x y z u : Value} {T : TypeId} {b : Nat} (hb : W.heap.size = b) : ∀ j v, [x, y, z, u][j]? = some v → (W.alloc (.cells #[x, y, z, u] T)).cell? ((⟨b, 0, none⟩ : Addr).add j) = some v := by
  subst hb
  intro j v hj
  match j, hj with
  | 0, hj => simp at hj; subst hj; simp [Addr.add]
  | 1, hj => simp at hj; subst hj; simp [Addr.add]
  | 2, hj => simp at hj; subst hj; simp [Addr.add]
  | 3, hj => simp at hj; subst hj; simp [Addr.add]
theorem cirs_chk {ks : List Int} (h6 : ks.length ≤ 6) (hk : ∀ k ∈ ks, 1 ≤ k ∧ k ≤ 9) : chkL (cirs 0 ks) = 0 := by
  unfold chkL
  rw [if_neg (by rw [cirs_len]; omega)]
  refine chkGo_all.2 fun a ha => ?_
  obtain ⟨i, k, h1, h2, h3, rfl⟩ := cirs_mem ha
  exact Right.chk { cir_right ⟨h1, by omega⟩ (hk k h3).1 with st1 := by have := (hk k h3).2; show k ≤ 4096; omega }
theorem cirs_big {ks : List Int} (h6 : ks.length ≤ 6) (hk : ∀ k ∈ ks, 1 ≤ k ∧ k ≤ 9) (h : 4096 < prT ks) : synR (cirs 0 ks) = ((zeroA, []), 3) := by
  have := cirs_fnd h6 (fun k hk' => (hk k hk').1)
  unfold synR
  rw [if_neg (by rw [cirs_chk h6 hk]; simp), if_pos (by omega)]
theorem cirs_small {ks : List Int} (h6 : ks.length ≤ 6) (hk : ∀ k ∈ ks, 1 ≤ k ∧ k ≤ 9) (h : prT ks ≤ 4096) : ∃ ts, synR (cirs 0 ks) = ((canA (prodA (cirs 0 ks)), ts), 0) := by
  have := cirs_fnd h6 (fun k hk' => (hk k hk').1)
  refine ⟨(fnd (prodA (cirs 0 ks))).map (dcT (stsT (cirs 0 ks))), ?_⟩
  unfold synR
  rw [if_neg (by rw [cirs_chk h6 hk]; simp), if_neg (by omega)]
theorem g_noneL {w : World} {A : Option Addr} {n c : Nat} {s : Int} {M : Option Addr} {m d : Nat} {E : Option Addr} {k g : Nat} (h : AuR w w.heap.size A n c s M m d E k g zeroA) :
    Calls Tryd.prog 27 #[.agg #[.slice A n c, .int .i64 s, .slice M m d, .slice E k g]] w fun e w' => e = .returned (.bool true) ∧ Below w.heap.size w w' := by
  have := none_any A n c s M m d E k g zeroA w h
  rwa [decide_eq_true rfl] at this
theorem rd_one {w : World} {b : Nat} {x : Int} (h : Row w b 3 [.int .i64 x]) : RdI w w.heap.size (some ⟨b, 0, none⟩) [x] := fun _ => ⟨b, 0, rfl, h.lt, fun j hj => by
  match j, hj with
  | 0, _ => exact h.cell 0 rfl
  | j + 1, hj => simp at hj⟩

set_option maxHeartbeats 8000000 in
set_option maxRecDepth 100000 in
theorem lawLimits (A2 : Option Addr) (m d : Nat) (t : List Int) (w : World) (h2 : RdB6 w w.heap.size A2 t) (hm : t.length = m) (hg : ∀ z ∈ t, (Lit.int .u8 z).wf = true) (hT : TabAt 0 Lib.deBruijn32tab w) :
    Calls Tryd.prog 5 #[.slice A2 m d] w fun e w' => e = .returned (.bool true) ∧ Below w.heap.size w w' := by
  have hz := tab_pos hT
  have HTB := Lib.hid (fun W (hW : Below w.heap.size w W) => tab_below hT hW hz)
  have HK := Lib.hid (fun W (hW : Below w.heap.size w W) => known_any W (HTB.out W hW) (Nat.lt_of_lt_of_le hz hW.size))
  have HB := Lib.hid (Below.refl w.heap.size w)
  have HTU := Lib.hid h2
  have HM := Lib.hid hm
  have HG := Lib.hid hg
  clear hT hz hg h2 hm
  go_enter Tryd.func5, Tryd.ntmps5
  go_wp2_with fail
  refine (HK.out _ HB.out).mono ?_
  rintro e w1 ⟨rfl, hb⟩
  have HB := Lib.hid (HB.out.trans (hb.mono HB.out.size))
  have HTU := Lib.hid ((HTU.out.below hb (Nat.le_refl _)).more hb.size)
  clear hb
  clear HK
  obtain ⟨iA, iA0, iA1, iA2, iA3⟩ := info_autE
  obtain ⟨iE, iE0, iE1, iE2, iE3⟩ := info_parts info_edge
  go_wp2_with fail
  go_loopw [3, 4, 5] (fun v tv iv wr => ∃ (i tot : Nat) (hs : List Ha) (ks : List Int), iv = .int .i64 i ∧ tv = .int .i64 tot ∧ i ≤ m ∧ i ≤ 6 ∧ 1 ≤ tot ∧ tot ≤ 100000 ∧ Hid (ks.length = i) ∧ Hid (hs.length = i) ∧ Hid (hs.map Ha.a = cirs 0 ks) ∧ Hid (∀ k ∈ ks, 1 ≤ k ∧ k ≤ 9) ∧ Hid (prT ks = (tot : Int)) ∧ Hid (AL wr w1.heap.size v hs) ∧ Hid (Below w1.heap.size w1 wr)) (fun _ _ i _ => m - (intOf i).toNat)
  case atStart => exact ⟨0, 1, [], [], rfl, rfl, Nat.zero_le _, Nat.zero_le _, by omega, by omega, Lib.hid rfl, Lib.hid rfl, Lib.hid rfl, Lib.hid (by simp), Lib.hid rfl, Lib.hid ⟨World.ownsRow_nil _ _ _ _, by simp, by simp⟩, Lib.hid (Below.refl _ _)⟩
  case round =>
    obtain ⟨i, tot, hs, ks, rfl, rfl, him, hi6, ht1, ht2, hkl, hhl, hcs, hkr, hpr, hal, hbel⟩ := hrel
    by_cases htl : i < m ∧ i < 6
    · obtain ⟨h1, h2⟩ := htl
      have z1 : (i : Int) < (m : Int) := by omega
      have z0 : (0 : Int) ≤ (i : Int) := by omega
      have z5 : (i : Int) < 6 := by omega
      obtain ⟨bw, ow, rfl, hbw, hcw⟩ := HTU.out (by rw [HM.out]; omega)
      have hz1 : i < t.length := by rw [HM.out]; exact h1
      obtain ⟨xb, hxb⟩ : ∃ xb, xb = t.getD i 0 := ⟨_, rfl⟩
      have hxr := wf_b6 (HG.out xb (by rw [hxb]; exact getD_mem hz1))
      have hx0 := hxr.1
      have hx1 := hxr.2
      have cw : wr.cell? ⟨bw, ow + i, none⟩ = some (.int .u8 xb) := by
        rw [hbel.out.cell (p := ⟨bw, ow + i, none⟩) hbw, hcw i hz1, hxb]
      obtain ⟨r, hr⟩ : ∃ r : Int, xb.tmod 9 = r := ⟨_, rfl⟩
      have hr0 : 0 ≤ r ∧ r < 9 := by rw [← hr, Int.tmod_eq_emod_of_nonneg hx0]; exact ⟨Int.emod_nonneg _ (by omega), Int.emod_lt_of_pos _ (by omega)⟩
      have r0 := hr0.1
      have r1 := hr0.2
      obtain ⟨rn, hrn⟩ : ∃ rn : Nat, r = (rn : Int) := ⟨r.toNat, by omega⟩
      subst hrn
      have hrn9 : rn < 9 := by omega
      have hw1 : IntKind.i64.wrap (rn : Int) = (rn : Int) := IntWalk.i64_in _ (by omega)
      have hw2 : IntKind.i64.wrap (1 + (rn : Int)) = 1 + (rn : Int) := IntWalk.i64_in _ (by omega)
      obtain ⟨P, hP⟩ : ∃ P : Nat, P = tot * (1 + rn) := ⟨_, rfl⟩
      have hPI : (tot : Int) * (1 + (rn : Int)) = (P : Int) := by rw [hP, Int.natCast_mul]; rfl
      have hPb : P ≤ 100000 * 9 := by rw [hP]; exact Nat.mul_le_mul ht2 (by omega)
      have hPW : IntKind.i64.wrap ((tot : Int) * (1 + (rn : Int))) = (P : Int) := by rw [hPI]; exact IntWalk.i64_in _ (by omega)
      obtain ⟨kn, hkn⟩ : ∃ kn : Nat, kn = if 100000 < P then 1 else 1 + rn := ⟨_, rfl⟩
      have hk1 : 1 ≤ kn := by rw [hkn]; split <;> omega
      have hk9 : kn ≤ 9 := by rw [hkn]; split <;> omega
      obtain ⟨Q, hQ⟩ : ∃ Q : Nat, Q = tot * kn := ⟨_, rfl⟩
      have hQb : Q ≤ 100000 := by rw [hQ, hkn]; split <;> omega
      have hQ1 : 1 ≤ Q := by rw [hQ]; exact Nat.mul_pos ht1 hk1
      have hQI : (tot : Int) * (kn : Int) = (Q : Int) := by rw [hQ, Int.natCast_mul]
      have HQW := Lib.hid (show IntKind.i64.wrap ((tot : Int) * (kn : Int)) = (Q : Int) by rw [hQI]; exact IntWalk.i64_in _ (by omega))
      have HQI := Lib.hid hQI
      have HKN := Lib.hid hkn
      clear hxb hcw hxr hr0 hz1 hkn hQ hP hPI hQI
      go_upto_if 33 with fail
      go_cut [6] from 30 to 33 (fun kv wx => kv = .int .i64 (kn : Int) ∧ wx = wr)
      case first =>
        by_cases hc : 100000 < P
        · have c1 : (100000 : Int) < (P : Int) := by omega
          have e1 : kn = 1 := by rw [HKN.out, if_pos hc]
          go_wp2_with fail
          go_meet
          case rel => exact ⟨by rw [e1]; rfl, rfl⟩
        · have c1 : (P : Int) ≤ 100000 := by omega
          have e1 : (kn : Int) = 1 + (rn : Int) := by rw [HKN.out, if_neg hc]; rfl
          go_wp2_with fail
          go_meet
          case rel => exact ⟨by rw [e1], rfl⟩
      case rest =>
        obtain ⟨rfl, hwc⟩ := hcut
        subst hwc
        clear hw1 hw2 hPW r0 r1 hr cw
        have HBa := Lib.hid (show Below wc.heap.size wc ((wc.alloc (.cells #[.int .i64 (i : Int)] 3)).alloc (.cells #[.int .i64 0] 3)) from ((Below.refl _ wc).alloc (Nat.le_refl _) _).alloc (by simp) _)
        have HI := Lib.hid ((Row.new wc [.int .i64 (i : Int)] 3).alloc (.cells #[.int .i64 0] 3))
        have HZ := Lib.hid (row_newL2 wc (.cells #[.int .i64 (i : Int)] 3) [.int .i64 0] 3)
        have hz2 : ((wc.alloc (.cells #[.int .i64 (i : Int)] 3)).alloc (.cells #[.int .i64 0] 3)).heap.size = wc.heap.size + 1 + 1 := by simp
        go_wp2_with fail
        generalize ((wc.alloc (.cells #[.int .i64 (i : Int)] 3)).alloc (.cells #[.int .i64 0] 3)) = w2 at *
        have HB0 := Lib.hid (show Bd w2 w2.heap.size w2.heap.size false true (.slice (some ⟨wc.heap.size, 0, none⟩) 1 1) (kn : Int) (w2.alloc (.cells #[.slice (some ⟨wc.heap.size, 0, none⟩) 1 1, .int .i64 (kn : Int), .slice (some ⟨wc.heap.size + 1, 0, none⟩) 1 1, .slice none 0 0] 34)) [] (.slice (some ⟨wc.heap.size + 1, 0, none⟩) 1 1) (cirE (i : Int) (kn : Int) 0) (.slice none 0 0) from
          ⟨(Below.refl _ w2).alloc (Nat.le_refl _) _, Row.new w2 _ 34, by simp, fun _ => World.ownsRow_nil _ _ _ _, Nat.le_refl _⟩)
        have HZ2 := Lib.hid hz2
        rw [← hz2]
        clear hz2
        go_loopw [8] (fun sv wx => ∃ (s : Nat) (ve : Value), s ≤ kn ∧ sv = .int .i64 s ∧ Hid (Bd w2 w2.heap.size w2.heap.size false true (.slice (some ⟨wc.heap.size, 0, none⟩) 1 1) (kn : Int) wx [] (.slice (some ⟨wc.heap.size + 1, 0, none⟩) 1 1) (cirE (i : Int) (kn : Int) s) ve)) (fun sv _ => kn - (intOf sv).toNat)
        case atStart => exact ⟨0, _, Nat.zero_le _, rfl, HB0⟩
        case round =>
          clear HB0
          obtain ⟨s, ve, hsk, rfl, hbd⟩ := hrel
          by_cases hlt : s < kn
          · obtain ⟨es, hes⟩ : ∃ es, es = cirE (i : Int) (kn : Int) s := ⟨_, rfl⟩
            have hesl : es.length = s := by rw [hes]; simp [cirE]
            have hsuc := cirE_succ (i : Int) (kn : Int) s
            rw [← hes] at hbd hsuc
            have HSU := Lib.hid hsuc
            have heo := Lib.hid (hbd.out.eo rfl)
            have c3 := hbd.out.cb.cell 3 rfl
            have f3 := hbd.out.cb.frozen 3
            have hsq := hbd.out.h2
            have hneV := hbd.out.neE
            have hbs := hbd.out.bel.size
            have z6 : (s : Int) < (kn : Int) := by omega
            have z7 : (0 : Int) ≤ (s : Int) := by omega
            have hnb : ((kn : Int) == 0) = false := by simp; omega
            have hnz : (kn : Int) ≠ 0 := by omega
            have hnz2 : ¬ kn = 0 := by omega
            obtain ⟨y, hy⟩ : ∃ y : Int, ((s : Int) + 1) % (kn : Int) = y := ⟨_, rfl⟩
            have hyt : ((s : Int) + 1).tmod (kn : Int) = y := by rw [Int.tmod_eq_emod_of_nonneg (by omega)]; exact hy
            have hy0 : 0 ≤ y ∧ y < kn := by rw [← hy]; exact ⟨Int.emod_nonneg _ hnz, Int.emod_lt_of_pos _ (by omega)⟩
            have hyw : IntKind.i64.wrap y = y := IntWalk.i64_in _ (by omega)
            have hsw : IntKind.i64.wrap ((s : Int) + 1) = (s : Int) + 1 := IntWalk.i64_in _ (by omega)
            rw [hy] at HSU
            have v3 := fun cs : Array Value => (World.cell?_alloc_lt wr (.cells cs 58) ⟨w2.heap.size, 3, none⟩ hsq).trans c3
            have v5 := fun cs : Array Value => (frozen?_alloc_cells wr cs 58 ⟨w2.heap.size, 3, none⟩).trans f3
            clear hes hsuc hy
            go_wp2_with fail
            go_region_law (refine step_append_lies _ (by rfl) _ _ _ (by rfl) w2.heap.size 58 iE (.agg #[.int .i64 0, .int .i64 0, .int .i64 0]) 3 24 Tryd.underlying32 iE0 iE1 iE2 iE3 rfl (by omega) ve es.length (encE es) (by rfl) (by first | exact (heo.out.alloc _).drew | exact (heo.out.alloc _)) ⟨wr.heap.size, 0, none⟩ 1 1 [.int .i64 (s : Int), .int .i64 (i : Int), .int .i64 y] (by rfl) (by rfl) (World.news_of_block (cs := #[.int .i64 (s : Int), .int .i64 (i : Int), .int .i64 y]) (t := 58) (fr := (0, 0)) (heap_alloc_new wr _)) (by simp [Value.oneCell']) (by omega) (by unfold maxLen; omega) (by omega) (by simp; omega) (wr.heap.size + 1) (by simp) ?_; intro gg cap w6 hown6 hgrow hat hlt1; have c6 := far12 hgrow hsq hneV c3; have f6 := far12f hgrow hsq hneV f3)
            all_goals
              have hown7 : OwnE w6 w2.heap.size (.slice (some ⟨gg, 0, none⟩) (es.length + 1) cap) (es ++ [⟨(s : Int), (i : Int), y⟩]) := by
                unfold OwnE; rw [encE_app, List.length_append]; exact hown6
              have hbd7 := Lib.hid (show Bd w2 w2.heap.size w2.heap.size false true (.slice (some ⟨wc.heap.size, 0, none⟩) 1 1) (kn : Int) (w6.setCell ⟨w2.heap.size, 3, none⟩ (.slice (some ⟨gg, 0, none⟩) (es.length + 1) cap)) [] (.slice (some ⟨wc.heap.size + 1, 0, none⟩) 1 1) (cirE (i : Int) (kn : Int) (s + 1)) (.slice (some ⟨gg, 0, none⟩) (es.length + 1) cap) from by
                rw [HSU.out]
                first
                | exact Bd.edge (hbd.out.alloc _) hgrow hown7
                | exact Bd.edge ((hbd.out.alloc _).drew) hgrow hown7
                | exact Bd.edge (hbd.out.drew.alloc _) hgrow hown7)
              rw [hesl] at hbd7
              clear hown7 hown6 hgrow hat
              go_wp2_with fail
              go_roundw
              case measure => simp [intOf]; omega
              case rel => exact ⟨s + 1, _, by omega, by go_num, by first | exact hbd7 | exact Lib.hid hbd7.out.drew⟩
          · obtain rfl : s = kn := by omega
            obtain ⟨E3, g3, rfl, hE1, hE2, hE3⟩ := ownE_rd (hbd.out.eo rfl)
            have hel : (cirE (i : Int) (s : Int) s).length = s := by simp [cirE]
            rw [hel] at hE2
            have p0 := hbd.out.cb.cell 0 rfl
            have p1 := hbd.out.cb.cell 1 rfl
            have p2 := hbd.out.cb.cell 2 rfl
            have p3 := hbd.out.cb.cell 3 rfl
            rw [hel] at p3
            have hzz := HZ2.out
            have hbs := hbd.out.bel.size
            have HBl := Lib.hid (show Below wc.heap.size wc wr from HBa.out.trans (hbd.out.bel.mono (by omega)))
            have HAu := Lib.hid (show Ha.rd wr ⟨some ⟨wc.heap.size, 0, none⟩, 1, 1, (s : Int), some ⟨wc.heap.size + 1, 0, none⟩, 1, 1, E3, s, g3, cir (i : Int) (s : Int)⟩ from show AuR wr wr.heap.size (some ⟨wc.heap.size, 0, none⟩) 1 1 (s : Int) (some ⟨wc.heap.size + 1, 0, none⟩) 1 1 E3 s g3 (cir (i : Int) (s : Int)) from
              { al := rd_one (HI.out.below hbd.out.bel HI.out.lt), mr := rd_one (HZ.out.below hbd.out.bel HZ.out.lt), ed := by show RdG _ _ _ (cirE (i : Int) (s : Int) (s : Int).toNat); rw [Int.toNat_natCast]; exact hE1, hn := rfl, hm := rfl, hk := by show (cirE (i : Int) (s : Int) (s : Int).toNat).length = s; rw [Int.toNat_natCast]; exact hel, st := rfl, cn := ⟨Nat.le_refl _, by omega⟩, cm := ⟨Nat.le_refl _, by omega⟩, ck := ⟨hE2, hE3⟩, bn := by omega, bm := by omega, bk := by omega })
            have HFR := Lib.hid (show ∀ b o f, E3 = some (⟨b, o, f⟩ : Addr) → wc.heap.size ≤ b from fun b o f e => by
              have h1 := (hbd.out.eo rfl).lt b (by subst e; first | rfl | (simp [Value.ownBlock]))
              omega)
            have hrow := hal.out.row
            rw [hhl.out] at hrow
            have HROW := Lib.hid (own_below hrow HBl.out)
            have hww := HQW.out
            have hsz3 : w1.heap.size ≤ wr.heap.size := Nat.le_trans hbel.out.size HBl.out.size
            clear hrow hE1 hE2 hel hzz
            have hpr6 := Lib.hid (show prT (ks ++ [(s : Int)]) = (Q : Int) by rw [prT_app, hpr.out, HQI.out])
            have hcs6 := Lib.hid (show (hs ++ [(⟨some ⟨wc.heap.size, 0, none⟩, 1, 1, (s : Int), some ⟨wc.heap.size + 1, 0, none⟩, 1, 1, E3, s, g3, cir (i : Int) (s : Int)⟩ : Ha)]).map Ha.a = cirs 0 (ks ++ [(s : Int)]) by rw [List.map_append, hcs.out, cirs_app, hkl.out, Int.zero_add]; rfl)
            have hkr6 := Lib.hid (show ∀ k ∈ ks ++ [(s : Int)], 1 ≤ k ∧ k ≤ 9 from fun k hk => by
              rcases List.mem_append.1 hk with hk | hk
              · exact hkr.out k hk
              · rw [List.mem_singleton] at hk; omega)
            have hkl6 := Lib.hid (show (ks ++ [(s : Int)]).length = i + 1 by rw [List.length_append, hkl.out]; rfl)
            go_wp2_with (at_builtin; refine wpList_append_own_at _ rfl _ _ 22 rfl w1.heap.size 34 iA (.agg #[.slice none 0 0, .int .i64 0, .slice none 0 0, .slice none 0 0]) 4 80 Tryd.underlying22 iA0 iA1 iA2 iA3 rfl (by decide) _ i (hs.flatMap Ha.enc) rfl (HROW.out.alloc _) ⟨wr.heap.size, 0, none⟩ 1 1 [.slice (some ⟨wc.heap.size, 0, none⟩) 1 1, .int .i64 (s : Int), .slice (some ⟨wc.heap.size + 1, 0, none⟩) 1 1, .slice E3 s g3] rfl rfl (news_four rfl) (by intro u hu; simp at hu; rcases hu with rfl | rfl | rfl | rfl <;> rfl) (by unfold maxLen; omega) (by omega) (by simp; omega) ?_)
            intro v6 w6 hown6 hgrow6 _ hat6
            obtain ⟨gG, capG, rfl⟩ : ∃ g cap, v6 = .slice (some ⟨g, 0, none⟩) (i + 1) cap := by
              rcases hown6.2 with ⟨rfl, h0⟩ | ⟨g, cap, cur, rfl, _⟩
              · omega
              · exact ⟨g, cap, rfl⟩
            have hal6 := Lib.hid (AL.push (n := i + 1) (g := gG) (x := ⟨some ⟨wc.heap.size, 0, none⟩, 1, 1, (s : Int), some ⟨wc.heap.size + 1, 0, none⟩, 1, 1, E3, s, g3, cir (i : Int) (s : Int)⟩) hal.out (HBl.out.alloc HBl.out.size (.cells #[.slice (some ⟨wc.heap.size, 0, none⟩) 1 1, .int .i64 (s : Int), .slice (some ⟨wc.heap.size + 1, 0, none⟩) 1 1, .slice E3 s g3] 34)) (Ha.below HAu.out ((Below.refl _ wr).alloc (Nat.le_refl _) _))
              ⟨fun b o f e => by cases e; exact Nat.le_refl _, fun b o f e => by cases e; exact Nat.le_succ _, HFR.out⟩ hown6 (by rw [hhl.out]) hgrow6 rfl (by rcases hat6 with h | h; exact .inl h.symm; exact .inr (by rw [World.size_alloc]; exact Option.some.inj h)))
            have hbel6 := Lib.hid (show Below w1.heap.size w1 w6 from (hbel.out.trans ((HBl.out.alloc HBl.out.size (.cells #[.slice (some ⟨wc.heap.size, 0, none⟩) 1 1, .int .i64 (s : Int), .slice (some ⟨wc.heap.size + 1, 0, none⟩) 1 1, .slice E3 s g3] 34)).mono hbel.out.size)).grown hgrow6 (by simp; omega) (fun k hk => (hal.out.row.lt k hk).1))
            have hhl6 := Lib.hid (show (hs ++ [(⟨some ⟨wc.heap.size, 0, none⟩, 1, 1, (s : Int), some ⟨wc.heap.size + 1, 0, none⟩, 1, 1, E3, s, g3, cir (i : Int) (s : Int)⟩ : Ha)]).length = i + 1 by rw [List.length_append, hhl.out]; rfl)
            clear hown6 hgrow6 hat6 p0 p1 p2 p3
            go_wp2_with fail
            go_roundw
            case rel => exact ⟨i + 1, Q, _, _, by go_num, by first | rfl | rw [hww], by omega, by omega, hQ1, hQb, hkl6, hhl6, hcs6, hkr6, hpr6, hal6, hbel6⟩
            case measure => simp [intOf]; omega
    · have hthree : ¬ (i : Int) < (m : Int) ∨ ((i : Int) < (m : Int) ∧ ¬ (i : Int) < 6) := by omega
      obtain ⟨Al, cl, rfl, hrd, _, _⟩ := hal.out.rds
      rw [hhl.out]
      rw [hcs.out] at hrd
      have HAS := Lib.hid hrd
      have HNL := Lib.hid (show (cirs 0 ks).length = i by rw [cirs_len, hkl.out])
      have h6 : ks.length ≤ 6 := by rw [hkl.out]; exact hi6
      have hst := cirs_fnd h6 (fun k hk' => (hkr.out k hk').1)
      have hed := cirs_ed h6 (fun k hk' => (hkr.out k hk').1)
      have hmr := cirs_mr h6 (fun k hk' => (hkr.out k hk').1)
      have hb := hbel.out
      have HB := Lib.hid (HB.out.trans (hb.mono HB.out.size))
      rw [hpr.out] at hst hed
      rw [hkl.out] at hed
      clear htl hrd hb
      by_cases h3 : 4096 < tot
      · have hsy := cirs_big h6 hkr.out (by rw [hpr.out]; omega)
        have HC := Lib.hid (g_comp (cl := cl) HAS.out HNL.out hsy)
        have c1 : (600 : Int) < (tot : Int) := by omega
        have c2 : ¬ (tot : Int) ≤ 4096 := by omega
        have c3 : (4096 : Int) < (tot : Int) := by omega
        clear hst hed hmr hsy
        rcases hthree with z1 | ⟨z1, z5⟩
        all_goals
          go_wp2_with fail
          refine HC.out.mono ?_
          rintro e w2 ⟨A6, n6, c6, s6, M6, m6, d6, E6, k6, g6, rfl, ha6, hb⟩
          have HB := Lib.hid (HB.out.trans (hb.mono HB.out.size))
          clear hb
          have HA6 := Lib.hid ha6
          have hb := (Below.refl w2.heap.size w2).alloc (Nat.le_refl _) (.cells #[.slice A6 n6 c6, .int .i64 s6, .slice M6 m6 d6, .slice E6 k6 g6] 34)
          have HB := Lib.hid (HB.out.trans (hb.mono HB.out.size))
          have HA6 := Lib.hid ((HA6.out.below hb (Nat.le_refl _)).more hb.size)
          clear hb ha6
          go_wp2_with fail
          refine (g_noneL HA6.out).mono ?_
          rintro e w4 ⟨rfl, hb⟩
          have HB := Lib.hid (HB.out.trans (hb.mono HB.out.size))
          clear hb
          go_wp2_with fail
          go_ret
          exact ⟨rfl, HB.out⟩
      · by_cases h4 : 600 < tot
        · have c1 : (600 : Int) < (tot : Int) := by omega
          have c2 : (tot : Int) ≤ 4096 := by omega
          clear hst hed hmr
          rcases hthree with z1 | ⟨z1, z5⟩
          all_goals
            go_wp2_with fail
            go_ret
            exact ⟨rfl, HB.out⟩
        · obtain ⟨ts, hsy⟩ := cirs_small h6 hkr.out (by rw [hpr.out]; omega)
          have HC := Lib.hid (g_comp (cl := cl) HAS.out HNL.out hsy)
          have c1 : (tot : Int) ≤ 600 := by omega
          have c2 : (tot : Int) ≤ 4096 := by omega
          obtain ⟨pa, hpa⟩ : ∃ pa, pa = canA (prodA (cirs 0 ks)) := ⟨_, rfl⟩
          have hst' : pa.st = (tot : Int) := by rw [hpa]; exact hst
          rw [← hpa] at HC hed hmr
          clear hst hsy hpa
          rcases hthree with z1 | ⟨z1, z5⟩
          all_goals
            go_wp2_with fail
            refine HC.out.mono ?_
            rintro e w2 ⟨A6, n6, c6, s6, M6, m6, d6, E6, k6, g6, rfl, ha6, hb⟩
            have HB := Lib.hid (HB.out.trans (hb.mono HB.out.size))
            have HA6 := Lib.hid ha6
            obtain rfl : s6 = (tot : Int) := by rw [← ha6.st, hst']
            have hk6 : (tot : Int) * (i : Int) = (k6 : Int) := by rw [← hed, ha6.hk]
            have hk7 := ha6.bk
            have hw6 : IntKind.i64.wrap ((tot : Int) * (i : Int)) = (k6 : Int) := by rw [hk6]; exact IntWalk.i64_in _ (by omega)
            have HMR := Lib.hid hmr
            clear hb ha6 hk6
            have hb := (Below.refl w2.heap.size w2).alloc (Nat.le_refl _) (.cells #[.slice A6 n6 c6, .int .i64 (tot : Int), .slice M6 m6 d6, .slice E6 k6 g6] 34)
            have HB := Lib.hid (HB.out.trans (hb.mono HB.out.size))
            have HA6 := Lib.hid ((HA6.out.below hb (Nat.le_refl _)).more hb.size)
            clear hb
            have hb := (Below.refl _ (w2.alloc (.cells #[.slice A6 n6 c6, .int .i64 (tot : Int), .slice M6 m6 d6, .slice E6 k6 g6] 34))).alloc (Nat.le_refl _) (.cells #[.int .i64 0] 3)
            have HB := Lib.hid (HB.out.trans (hb.mono HB.out.size))
            have HA6 := Lib.hid ((HA6.out.below hb (Nat.le_refl _)).more hb.size)
            have HN := Lib.hid (rd_one (row_newL2 w2 (.cells #[.slice A6 n6 c6, .int .i64 (tot : Int), .slice M6 m6 d6, .slice E6 k6 g6] 34) [.int .i64 0] 3))
            clear hb
            go_wp2_with fail
            refine (g_same (xs := pa.mr) (ys := [0]) (m := 1) (r := true) (by rw [HMR.out]; rfl) HA6.out.mr HN.out HA6.out.hm rfl (by have := HA6.out.bm; omega) (by omega)).mono ?_
            rintro e w4 ⟨rfl, hb⟩
            have HB := Lib.hid (HB.out.trans (hb.mono HB.out.size))
            clear hb
            go_wp2_with fail
            go_ret
            exact ⟨rfl, HB.out⟩
end Go.Proofs.YtedleffmbddccaaDoor
