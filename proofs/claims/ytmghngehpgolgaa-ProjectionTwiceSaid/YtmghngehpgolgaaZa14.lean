/- Texts merged: what follows were texts of their own. -/
import Derived.Test.YtmghngehpgolgaaZa13
import Derived.Deep.QuietTactic
import Derived.BigQuiet
import Derived.Test.YtmghngehpgolgaaZa1
import Derived.Test.YtmghngehpgolgaaZa5
set_option linter.unusedVariables false
set_option linter.unusedSimpArgs false
set_option linter.unusedSectionVars false
/- Layer 3: SameWords of the law; lists of words on a law's way. -/
namespace Go.Proofs.Ytmghngehpgolgaa
open Go.RowKit Go.Sort

theorem RdL.dr {w : World} {B : Nat} {A : Option Addr} {hs : List Hd} (h : RdL w B A hs) (q : Nat) : RdL (w.drewN q) B A hs := h
theorem take_w {zs : List (List Int)} {k : Nat} (h : k < zs.length) : zs.take (k + 1) = zs.take k ++ [zs.getD k []] := by
  rw [List.take_add_one, List.getElem?_eq_getElem h]; simp [List.getD, List.getElem?_eq_getElem h]
theorem take_succ_w {zs ys : List (List Int)} {k : Nat} (hx : k < zs.length) (hy : k < ys.length) (h : zs.take k = ys.take k) (he : zs.getD k [] = ys.getD k []) : zs.take (k + 1) = ys.take (k + 1) := by
  rw [take_w hx, take_w hy, h, he]
theorem ne_of_getD_w {zs ys : List (List Int)} {k : Nat} (he : ¬ zs.getD k [] = ys.getD k []) : decide (zs = ys) = false := by
  simp only [decide_eq_false_iff_not]; rintro rfl; exact he rfl
theorem eq_of_take_w {zs ys : List (List Int)} {n : Nat} (h1 : zs.length = n) (h2 : ys.length = n) (h : zs.take n = ys.take n) : decide (zs = ys) = true := by
  rw [List.take_of_length_le (by omega), List.take_of_length_le (by omega)] at h
  simpa using h
theorem hd_getD {hs : List Hd} {k : Nat} {x : Hd} (h : hs[k]? = some x) : (hs.map Hd.z).getD k [] = x.z := by
  simp [List.getD, List.getElem?_map, h]
/-- All words are short. -/
def ShW (hs : List Hd) : Prop := ∀ x ∈ hs, x.z.length ≤ 100000

set_option maxHeartbeats 2000000 in
theorem sameWords_any (A B : Option Addr) (n m c d : Nat) (hs gs : List Hd) (w : World) (hx : RdL w w.heap.size A hs) (hy : RdL w w.heap.size B gs) (hn : hs.length = n) (hm : gs.length = m) (hb : n ≤ 100000) (hb' : m ≤ 100000) (lx : ShW hs) (ly : ShW gs) :
    Calls Try.prog 21 #[.slice A n c, .slice B m d] w fun e w' => e = .returned (.bool (decide (hs.map Hd.z = gs.map Hd.z))) ∧ ∃ q, w' = w.drewN q := by
  by_cases hnm : n = m
  · subst hnm
    obtain ⟨zs, hzs⟩ : ∃ zs, zs = hs.map Hd.z := ⟨_, rfl⟩
    obtain ⟨ys, hys⟩ : ∃ ys, ys = gs.map Hd.z := ⟨_, rfl⟩
    have HX := Lib.hid hx
    have HY := Lib.hid hy
    have HN := Lib.hid hn
    have HM := Lib.hid hm
    have HLX := Lib.hid lx
    have HLY := Lib.hid ly
    have HZS := Lib.hid hzs
    have HYS := Lib.hid hys
    have HZN := Lib.hid (show zs.length = n by rw [hzs, List.length_map, hn])
    have HYN := Lib.hid (show ys.length = n by rw [hys, List.length_map, hm])
    rw [← hzs, ← hys]
    clear hn hm hx hy lx ly hzs hys
    go_enter Try.func21, Try.ntmps21
    go_wp2_with fail
    go_loopw [5] (fun i wr => ∃ k : Nat, k ≤ n ∧ i = .int .i64 k ∧ Hid (zs.take k = ys.take k) ∧ Hid (∃ q, wr = w.drewN q)) (fun i _ => n - (intOf i).toNat)
    case atStart => exact ⟨0, Nat.zero_le _, rfl, rfl, 0, rfl⟩
    case round =>
      obtain ⟨k, hk, rfl, ht, HQ⟩ := hrel
      by_cases hlt : k < n
      · have hz : k < zs.length := by rw [HZN.out]; exact hlt
        have hy : k < ys.length := by rw [HYN.out]; exact hlt
        have r1 : RdL wr wr.heap.size A hs := by obtain ⟨q, e⟩ := HQ.out; subst e; exact HX.out
        have r2 : RdL wr wr.heap.size B gs := by obtain ⟨q, e⟩ := HQ.out; subst e; exact HY.out
        obtain ⟨b1, o1, rfl, hb1, hc1⟩ := r1 (by rw [HN.out]; omega)
        obtain ⟨b2, o2, rfl, hb2, hc2⟩ := r2 (by rw [HM.out]; omega)
        obtain ⟨x, hxk⟩ : ∃ x, hs[k]? = some x := ⟨_, List.getElem?_eq_getElem (by rw [HN.out]; exact hlt)⟩
        obtain ⟨y, hyk⟩ : ∃ y, gs[k]? = some y := ⟨_, List.getElem?_eq_getElem (by rw [HM.out]; exact hlt)⟩
        obtain ⟨c1, rd1, _, _⟩ := hc1 k x hxk
        obtain ⟨c2, rd2, _, _⟩ := hc2 k y hyk
        have hl1 := HLX.out x (List.mem_of_getElem? hxk)
        have hl2 := HLY.out y (List.mem_of_getElem? hyk)
        have e1 := hd_getD hxk
        have e2 := hd_getD hyk
        rw [← HZS.out] at e1
        rw [← HYS.out] at e2
        obtain ⟨C1, d1, z1⟩ := x
        obtain ⟨C2, d2, z2⟩ := y
        simp only [Hd.enc] at c1 c2
        have C := Lib.hid (fun q => sameInts_any C1 C2 _ _ d1 d2 _ _ z1 z2 (wr.drewN q) (rd1.dr q) (rd2.dr q) rfl rfl (by simp only at hl1; omega) (by simp only at hl2; omega))
        have k4 : (k : Int) < (n : Int) := by omega
        clear hc1 hc2 rd1 rd2 r1 r2 hxk hyk hl1 hl2
        by_cases he : z1 = z2
        · have hs' := Lib.hid (take_succ_w hz hy ht.out (by rw [e1, e2]; exact he))
          have hd : decide (z1 = z2) = true := decide_eq_true he
          rw [hd] at C
          clear he hd ht hz hy e1 e2
          generalize z1.length = n1 at *
          generalize z2.length = n2 at *
          go_wp2_with fail
          go_quiet ((go_at_call 19; with_reducible exact Calls.quiet_of (C.out _)))
          go_wp2_with fail
          go_roundw
          case rel => exact ⟨k + 1, by omega, by go_num, hs', by obtain ⟨q, e⟩ := HQ.out; subst e; exact ⟨_, World.drewN_drewN _ _ _⟩⟩
          case measure => simp [intOf]; omega
        · have hs' := Lib.hid (ne_of_getD_w (zs := zs) (ys := ys) (k := k) (by rw [e1, e2]; exact he))
          have hd : decide (z1 = z2) = false := decide_eq_false he
          rw [hd] at C
          clear he hd ht hz hy e1 e2
          generalize z1.length = n1 at *
          generalize z2.length = n2 at *
          go_wp2_with fail
          go_quiet ((go_at_call 19; with_reducible exact Calls.quiet_of (C.out _)))
          go_wp2_with fail
          go_ret
          exact ⟨ret_bool hs'.out.symm, by obtain ⟨q, e⟩ := HQ.out; subst e; exact ⟨_, World.drewN_drewN _ _ _⟩⟩
      · have hkn : k = n := by omega
        have hf := Lib.hid (by have := ht.out; rw [hkn] at this; exact eq_of_take_w HZN.out HYN.out this)
        clear hkn ht
        go_wp2_with fail
        go_ret
        exact ⟨ret_bool hf.out.symm, HQ.out⟩
  · have hne : ((n : Int) != (m : Int)) = true := by simp; omega
    have hf := Lib.hid (show decide (hs.map Hd.z = gs.map Hd.z) = false by
      simp only [decide_eq_false_iff_not]; intro e
      have := congrArg List.length e
      simp only [List.length_map] at this; omega)
    rw [hf.out]
    clear hn hm hx hy lx ly
    go_enter Try.func21, Try.ntmps21
    go_wp2_with fail
    go_ret
    exact ⟨rfl, 0, rfl⟩

theorem rowL_rd {w : World} {base : Nat} {v : Value} {hs : List Hd} (h : w.ownsRow base 22 1 v hs.length (hs.map Hd.enc)) (ho : ∀ x ∈ hs, RdI w w.heap.size x.A x.z ∧ x.z.length ≤ x.c ∧ x.c ≤ 9223372036854775807) : ∃ A c, v = .slice A hs.length c ∧ RdL w w.heap.size A hs := by
  rcases h.2 with ⟨rfl, h0⟩ | ⟨g, cap, cur, rfl, hg, hh, hn, hcap, hsz, htake⟩
  · have : hs = [] := List.eq_nil_of_length_eq_zero h0
    subst this
    exact ⟨none, 0, rfl, RdL.nil _ _ _⟩
  · refine ⟨some ⟨g, 0, none⟩, cap, rfl, fun _ => ⟨g, 0, rfl, (h.lt g rfl).2, fun j x hj => ?_⟩⟩
    have hl := (List.getElem?_eq_some_iff.1 hj).1
    exact ⟨by rw [Nat.zero_add, World.ownsRow.cellAt (cap := cap) h j (by omega), List.getElem?_map, hj]; rfl, ho x (List.mem_of_getElem? hj)⟩
theorem RdL.all {w : World} {B : Nat} {A : Option Addr} {hs : List Hd} (h : RdL w B A hs) : ∀ x ∈ hs, RdI w B x.A x.z ∧ x.z.length ≤ x.c ∧ x.c ≤ 9223372036854775807 := fun x hx => by
  obtain ⟨j, hj⟩ := List.mem_iff_getElem?.1 hx
  have hl := (List.getElem?_eq_some_iff.1 hj).1
  obtain ⟨_, _, _, _, hc⟩ := h (by omega)
  exact (hc j x hj).2
/-- The words have at most so many events. -/
theorem genF_short {a : Au} {m : Nat} : ∀ (f i : Nat) (L R : List (List Int × Int)), (∀ p ∈ L, p.1.length ≤ m) → genF a (m : Int) f i L = some R → ∀ p ∈ R, p.1.length ≤ m
  | 0, i, L, R, _, h => by rw [genF] at h; cases h
  | f + 1, i, L, R, hL, h => by
    rw [genF] at h
    split at h
    · rename_i hc
      split at h
      · cases h
      · refine genF_short f (i + 1) _ R (fun p hp => ?_) h
        rcases List.mem_append.1 hp with hp | hp
        · exact hL p hp
        · unfold extW at hp
          obtain ⟨y, _, rfl⟩ := List.mem_map.1 hp
          rw [List.length_append, List.length_singleton]; omega
    · injection h with h; subst h; exact hL
theorem genO_short {a : Au} {m : Nat} {R : List (List Int × Int)} (h : genO a (m : Int) = some R) : ∀ p ∈ R, p.1.length ≤ m := by
  unfold genO at h
  split at h
  · injection h with h; subst h; intro p hp; simp at hp
  · exact genF_short _ _ _ _ (fun p hp => by rw [List.mem_singleton] at hp; subst hp; simp) h
theorem shW_of {hs : List Hd} {R : List (List Int × Int)} (h : hs.map Hd.z = R.map Prod.fst) (hR : ∀ p ∈ R, p.1.length ≤ 100000) : ShW hs := fun x hx => by
  have : x.z ∈ hs.map Hd.z := List.mem_map.2 ⟨x, hx, rfl⟩
  rw [h] at this
  obtain ⟨p, hp, e⟩ := List.mem_map.1 this
  rw [← e]; exact hR p hp
/-- The words of a list that are accepted. -/
def accW (a : Au) (hs : List Hd) : List Hd := hs.filter fun x => accB a x.z
theorem accW_map (a : Au) (hs : List Hd) : (accW a hs).map Hd.z = (hs.map Hd.z).filter fun z => accB a z := by
  unfold accW; rw [List.filter_map]; rfl
theorem accW_step {a : Au} {hs : List Hd} {t : Nat} {x : Hd} (h : hs[t]? = some x) : accW a (hs.take (t + 1)) = accW a (hs.take t) ++ (if accB a x.z = true then [x] else []) := by
  unfold accW
  rw [List.take_add_one, h, List.filter_append]
  cases hb : accB a x.z <;> simp [hb]
theorem accW_len (a : Au) (hs : List Hd) (t : Nat) : (accW a (hs.take t)).length ≤ t := by
  unfold accW
  exact Nat.le_trans (List.length_filter_le _ _) (List.length_take_le _ _)
theorem accW_mem {a : Au} {hs : List Hd} {x : Hd} (h : x ∈ accW a hs) : x ∈ hs := (List.mem_filter.1 h).1
section
variable {W w w' : World} {l : List (Nat × List Value)} {A : Option Addr} {n c : Nat} {s : Int} {M : Option Addr} {m d : Nat} {E : Option Addr} {k g : Nat} {a : Au}
theorem KW.wds (h : KW W l w w') {A : Option Addr} {hs : List Hd} (ha : RdL w w.heap.size A hs) : RdL w' w'.heap.size A hs := (ha.below h.bel (Nat.le_refl _)).more h.bel.size
theorem k_samew {A1 A2 : Option Addr} {n1 c1 n2 c2 : Nat} {hs gs : List Hd} {r : Bool} (hr : decide (hs.map Hd.z = gs.map Hd.z) = r) (h1 : RdL w w.heap.size A1 hs) (h2 : RdL w w.heap.size A2 gs) (l1 : hs.length = n1) (l2 : gs.length = n2) (hb : n1 ≤ 100000) (hb2 : n2 ≤ 100000) (s1 : ShW hs) (s2 : ShW gs) (h : LW W l w) : Calls Try.prog 21 #[.slice A1 n1 c1, .slice A2 n2 c2] w fun e w' => e = .returned (.bool r) ∧ KW W l w w' :=
  (sameWords_any A1 A2 n1 n2 c1 c2 hs gs w h1 h2 l1 l2 hb hb2 s1 s2).mono fun e w' hh => by
    obtain ⟨e1, q, rfl⟩ := hh
    exact ⟨by rw [e1, hr], KW.of h (below_drewN (Below.refl _ _) q)⟩
end
theorem wordsR_out {a : Au} {most : Int} {mk : Bool} (hc : chkE a = 0) (h : most < 0 ∨ 4096 < most) : wordsR a most mk = ([], 2) := by rw [wordsR, if_neg (by rw [hc]; simp), if_pos h]
theorem wordsR_in {a : Au} {most : Int} {mk : Bool} {R : List (List Int × Int)} (hc : chkE a = 0) (h : ¬ (most < 0 ∨ 4096 < most)) (hR : genO a most = some R) : wordsR a most mk = (selL a.mr mk R, 0) := by rw [wordsR, if_neg (by rw [hc]; simp), if_neg h, hR]
end Go.Proofs.Ytmghngehpgolgaa

/- Layer 7: the examples of the chapter hold. -/
namespace Go.Proofs.Ytmghngehpgolgaa
open Go.RowKit Go.Sort

theorem row_rdG7 {w : World} {g : Nat} {l : List Ed} (h : Row w g 55 (encE l)) : RdG w w.heap.size (some ⟨g, 0, none⟩) l := fun _ =>
  ⟨g, 0, rfl, h.lt, fun j x hj => by
    obtain ⟨e0, e1, e2⟩ := encE_at l j x hj
    rw [Nat.zero_add]
    exact ⟨h.cell _ e0, h.cell _ e1, h.cell _ e2⟩⟩
theorem au_rows7 {w : World} {b1 b2 b3 n m k : Nat} {s : Int} {a : Au} (h1 : Row w b1 3 (a.al.map (Value.int .i64))) (h2 : Row w b2 3 (a.mr.map (Value.int .i64))) (h3 : Row w b3 55 (encE a.ed)) (hn : a.al.length = n) (hm : a.mr.length = m) (hk : a.ed.length = k) (hs : a.st = s) (bn : n ≤ 1000) (bm : m ≤ 1000) (bk : k ≤ 1000) :
    AuR w w.heap.size (some ⟨b1, 0, none⟩) n n s (some ⟨b2, 0, none⟩) m m (some ⟨b3, 0, none⟩) k k a :=
  { al := h1.rd, mr := h2.rd, ed := row_rdG7 h3, hn := hn, hm := hm, hk := hk, st := hs, cn := by omega, cm := by omega, ck := by omega, bn := by omega, bm := by omega, bk := by omega }
set_option maxHeartbeats 800000 in
theorem example7_any (w : World) : Calls Try.prog 20 #[] w fun e w' => ∃ A n c s M m d E k g, e = .returned (.agg #[.slice A n c, .int .i64 s, .slice M m d, .slice E k g]) ∧ AuR w' w'.heap.size A n c s M m d E k g exA7 ∧ Below w.heap.size w w' := by
  go_enter Try.func20, Try.ntmps20
  go_wp2_with fail
  (try simp only [Exit.inBlock, Exit.then])
  refine bodyPost_ret (v := .agg #[.slice (some ⟨w.heap.size + 1, 0, none⟩) 2 2, .int .i64 3, .slice (some ⟨w.heap.size + 1 + 1, 0, none⟩) 1 1, .slice (some ⟨w.heap.size + 1 + 1 + 1, 0, none⟩) 4 4]) ?_ rfl ⟨_, _, _, _, _, _, _, _, _, _, rfl, ?_, ?_⟩
  · rw [results_cell1 rfl]
    go_simp
  · refine au_rows7 ?_ ?_ ?_ rfl rfl rfl rfl (by omega) (by omega) (by omega)
    · exact ((Row.newE _ [.int .i64 0, .int .i64 1] 3 (by simp)).alloc _).alloc _
    · exact (Row.newE _ [.int .i64 2] 3 (by simp)).alloc _
    · exact Row.newE _ (encE exA7.ed) 55 (by simp)
  · exact ((((Below.refl _ w).alloc (Nat.le_refl _) _).alloc (by simp) _).alloc (by simp; omega) _).alloc (by simp; omega) _
set_option maxHeartbeats 8000000 in
set_option maxRecDepth 100000 in
/-- known() holds. -/
theorem known7_any (w : World) : Calls Try.prog 5 #[] w fun e w' => e = .returned (.bool true) ∧ Below w.heap.size w w' := by
  have HE := Lib.hid (example7_any w)
  go_enter Try.func5, Try.ntmps5
  go_wp2_with fail
  refine HE.out.mono ?_
  rintro e w1 ⟨A, n, c, s, M, m, d, E, k, g, rfl, hA, hb1⟩
  have HB1 := Lib.hid hb1
  have HA1 := Lib.hid hA
  have hbx := (((Below.refl w1.heap.size w1).alloc (by simp; try omega) (.cells #[.slice A n c, .int .i64 s, .slice M m d, .slice E k g] 25)).alloc (by simp; try omega) (.cells #[.int .i64 1] 3))
  have HBX := Lib.hid hbx
  have HX1 := Lib.hid (show Row ((w1.alloc (.cells #[.slice A n c, .int .i64 s, .slice M m d, .slice E k g] 25)).alloc (.cells #[.int .i64 1] 3)) (w1.heap.size) 25 [.slice A n c, .int .i64 s, .slice M m d, .slice E k g] from ((Row.newE w1 [.slice A n c, .int .i64 s, .slice M m d, .slice E k g] 25 (by simp; try rfl)).alloc (.cells #[.int .i64 1] 3)))
  have HO1 := Lib.hid (show Row ((w1.alloc (.cells #[.slice A n c, .int .i64 s, .slice M m d, .slice E k g] 25)).alloc (.cells #[.int .i64 1] 3)) (w1.heap.size + 1) 3 [.int .i64 1] from (Row.newE (w1.alloc (.cells #[.slice A n c, .int .i64 s, .slice M m d, .slice E k g] 25)) [.int .i64 1] 3 (by simp; try rfl)))
  have HP := Lib.hid (kn_proj A n c s M m d E k g (some ⟨w1.heap.size + 1, 0, none⟩) ((w1.alloc (.cells #[.slice A n c, .int .i64 s, .slice M m d, .slice E k g] 25)).alloc (.cells #[.int .i64 1] 3)) ((hA.below hbx (Nat.le_refl _)).more hbx.size) (Row.rd (zs := [1]) HO1.out))
  clear HE hA hb1 hbx
  go_wp2_with fail
  refine HP.out.mono ?_
  rintro e w2 ⟨A1, n1, c1, s1, M1, m1, d1, E1, k1, g1, V, cV, hs, rfl, hA1, hV, hVl, hVm, hb2⟩
  have HB12 := Lib.hid (HBX.out.trans (hb2.mono HBX.out.size))
  have HB2 := Lib.hid (HB1.out.trans (HB12.out.mono HB1.out.size))
  have HX2 := Lib.hid (HX1.out.below hb2 HX1.out.lt)
  have HP2 := Lib.hid hA1
  have HV2 := Lib.hid hV
  have HVL := Lib.hid hVl
  have HVM := Lib.hid hVm
  clear hb2 hA1 hV hVl hVm HP HX1 HO1 HBX
  have x0 := HX2.out.cell 0 rfl
  have x1 := HX2.out.cell 1 rfl
  have x2 := HX2.out.cell 2 rfl
  have x3 := HX2.out.cell 3 rfl
  have hbx := ((((Below.refl w2.heap.size w2).alloc (by simp; try omega) (.cells #[.slice A1 n1 c1, .int .i64 s1, .slice M1 m1 d1, .slice E1 k1 g1] 25)).alloc (by simp; try omega) (.cells #[.int .i64 1] 3)).alloc (by simp; try omega) (.cells #[.int .i64 1] 3))
  have HBX := Lib.hid hbx
  have HX3 := Lib.hid (show Row (((w2.alloc (.cells #[.slice A1 n1 c1, .int .i64 s1, .slice M1 m1 d1, .slice E1 k1 g1] 25)).alloc (.cells #[.int .i64 1] 3)).alloc (.cells #[.int .i64 1] 3)) (w2.heap.size) 25 [.slice A1 n1 c1, .int .i64 s1, .slice M1 m1 d1, .slice E1 k1 g1] from (((Row.newE w2 [.slice A1 n1 c1, .int .i64 s1, .slice M1 m1 d1, .slice E1 k1 g1] 25 (by simp; try rfl)).alloc (.cells #[.int .i64 1] 3)).alloc (.cells #[.int .i64 1] 3)))
  have HO1 := Lib.hid (show Row (((w2.alloc (.cells #[.slice A1 n1 c1, .int .i64 s1, .slice M1 m1 d1, .slice E1 k1 g1] 25)).alloc (.cells #[.int .i64 1] 3)).alloc (.cells #[.int .i64 1] 3)) (w2.heap.size + 1) 3 [.int .i64 1] from ((Row.newE (w2.alloc (.cells #[.slice A1 n1 c1, .int .i64 s1, .slice M1 m1 d1, .slice E1 k1 g1] 25)) [.int .i64 1] 3 (by simp; try rfl)).alloc (.cells #[.int .i64 1] 3)))
  have HO2 := Lib.hid (show Row (((w2.alloc (.cells #[.slice A1 n1 c1, .int .i64 s1, .slice M1 m1 d1, .slice E1 k1 g1] 25)).alloc (.cells #[.int .i64 1] 3)).alloc (.cells #[.int .i64 1] 3)) (w2.heap.size + 1 + 1) 3 [.int .i64 1] from (Row.newE ((w2.alloc (.cells #[.slice A1 n1 c1, .int .i64 s1, .slice M1 m1 d1, .slice E1 k1 g1] 25)).alloc (.cells #[.int .i64 1] 3)) [.int .i64 1] 3 (by simp; try rfl)))
  have hbw := HB12.out.trans (hbx.mono HB12.out.size)
  have HLI := Lib.hid (kn_lift A n c s M m d E k g (some ⟨w2.heap.size + 1, 0, none⟩) (some ⟨w2.heap.size + 1 + 1, 0, none⟩) (((w2.alloc (.cells #[.slice A1 n1 c1, .int .i64 s1, .slice M1 m1 d1, .slice E1 k1 g1] 25)).alloc (.cells #[.int .i64 1] 3)).alloc (.cells #[.int .i64 1] 3)) ((HA1.out.below hbw (Nat.le_refl _)).more hbw.size) (Row.rd (zs := [1]) HO1.out) (Row.rd (zs := [1]) HO2.out))
  have hxl := HX2.out.lt
  clear hbx hbw
  go_wp2_with fail
  refine HLI.out.mono ?_
  rintro e w3 ⟨AL, cL, rfl, hAL, hb3⟩
  have HB23 := Lib.hid (HBX.out.trans (hb3.mono HBX.out.size))
  have HB3 := Lib.hid (HB2.out.trans (HB23.out.mono HB2.out.size))
  have HX3' := Lib.hid (HX3.out.below hb3 HX3.out.lt)
  have HL3 := Lib.hid hAL
  clear hb3 hAL HLI HX3 HO1 HO2 HBX x0 x1 x2 x3 hxl HX2
  have hbx := (((Below.refl w3.heap.size w3).alloc (by simp; try omega) (.cells #[.int .i64 1] 3)).alloc (by simp; try omega) (.cells #[.int .i64 0, .int .i64 1] 3))
  have HBX := Lib.hid hbx
  have HO1 := Lib.hid (show Row ((w3.alloc (.cells #[.int .i64 1] 3)).alloc (.cells #[.int .i64 0, .int .i64 1] 3)) (w3.heap.size) 3 [.int .i64 1] from ((Row.newE w3 [.int .i64 1] 3 (by simp; try rfl)).alloc (.cells #[.int .i64 0, .int .i64 1] 3)))
  have HO2 := Lib.hid (show Row ((w3.alloc (.cells #[.int .i64 1] 3)).alloc (.cells #[.int .i64 0, .int .i64 1] 3)) (w3.heap.size + 1) 3 [.int .i64 0, .int .i64 1] from (Row.newE (w3.alloc (.cells #[.int .i64 1] 3)) [.int .i64 0, .int .i64 1] 3 (by simp; try rfl)))
  have HIN := Lib.hid (kn_inv (some ⟨w3.heap.size, 0, none⟩) 1 1 (some ⟨w3.heap.size + 1, 0, none⟩) ((w3.alloc (.cells #[.int .i64 1] 3)).alloc (.cells #[.int .i64 0, .int .i64 1] 3)) (Row.rd (zs := [1]) HO1.out) rfl rfl (Row.rd (zs := [0, 1]) HO2.out))
  clear hbx
  go_wp2_with fail
  refine HIN.out.mono ?_
  rintro e w4 ⟨A5, n5, c5, s5, M5, m5, d5, E5, g5, rfl, hb4⟩
  have HB34 := Lib.hid (HBX.out.trans (hb4.mono HBX.out.size))
  have HB4 := Lib.hid (HB3.out.trans (HB34.out.mono HB3.out.size))
  have HB24 := Lib.hid (HB23.out.trans (HB34.out.mono HB23.out.size))
  have HX4 := Lib.hid (HX3'.out.below HB34.out HX3'.out.lt)
  clear hb4 HIN HO1 HO2 HBX HX3' HB12
  have x0 := HX4.out.cell 0 rfl
  have x1 := HX4.out.cell 1 rfl
  have x2 := HX4.out.cell 2 rfl
  have x3 := HX4.out.cell 3 rfl
  have hxl := HX4.out.lt
  have hbx := (((((Below.refl w4.heap.size w4).alloc (by simp; try omega) (.cells #[.slice A5 n5 c5, .int .i64 s5, .slice M5 m5 d5, .slice E5 1 g5] 25)).alloc (by simp; try omega) (.cells #[.int .i64 1] 3)).alloc (by simp; try omega) (.cells #[.int .i64 1] 3)).alloc (by simp; try omega) (.cells #[.int .i64 0, .int .i64 1, .int .i64 1, .int .i64 1, .int .i64 1, .int .i64 1] 55))
  have HBX := Lib.hid hbx
  have HX5 := Lib.hid (show Row ((((w4.alloc (.cells #[.slice A5 n5 c5, .int .i64 s5, .slice M5 m5 d5, .slice E5 1 g5] 25)).alloc (.cells #[.int .i64 1] 3)).alloc (.cells #[.int .i64 1] 3)).alloc (.cells #[.int .i64 0, .int .i64 1, .int .i64 1, .int .i64 1, .int .i64 1, .int .i64 1] 55)) (w4.heap.size) 25 [.slice A5 n5 c5, .int .i64 s5, .slice M5 m5 d5, .slice E5 1 g5] from ((((Row.newE w4 [.slice A5 n5 c5, .int .i64 s5, .slice M5 m5 d5, .slice E5 1 g5] 25 (by simp; try rfl)).alloc (.cells #[.int .i64 1] 3)).alloc (.cells #[.int .i64 1] 3)).alloc (.cells #[.int .i64 0, .int .i64 1, .int .i64 1, .int .i64 1, .int .i64 1, .int .i64 1] 55)))
  have HO1 := Lib.hid (show Row ((((w4.alloc (.cells #[.slice A5 n5 c5, .int .i64 s5, .slice M5 m5 d5, .slice E5 1 g5] 25)).alloc (.cells #[.int .i64 1] 3)).alloc (.cells #[.int .i64 1] 3)).alloc (.cells #[.int .i64 0, .int .i64 1, .int .i64 1, .int .i64 1, .int .i64 1, .int .i64 1] 55)) (w4.heap.size + 1) 3 [.int .i64 1] from (((Row.newE (w4.alloc (.cells #[.slice A5 n5 c5, .int .i64 s5, .slice M5 m5 d5, .slice E5 1 g5] 25)) [.int .i64 1] 3 (by simp; try rfl)).alloc (.cells #[.int .i64 1] 3)).alloc (.cells #[.int .i64 0, .int .i64 1, .int .i64 1, .int .i64 1, .int .i64 1, .int .i64 1] 55)))
  have HO2 := Lib.hid (show Row ((((w4.alloc (.cells #[.slice A5 n5 c5, .int .i64 s5, .slice M5 m5 d5, .slice E5 1 g5] 25)).alloc (.cells #[.int .i64 1] 3)).alloc (.cells #[.int .i64 1] 3)).alloc (.cells #[.int .i64 0, .int .i64 1, .int .i64 1, .int .i64 1, .int .i64 1, .int .i64 1] 55)) (w4.heap.size + 1 + 1) 3 [.int .i64 1] from ((Row.newE ((w4.alloc (.cells #[.slice A5 n5 c5, .int .i64 s5, .slice M5 m5 d5, .slice E5 1 g5] 25)).alloc (.cells #[.int .i64 1] 3)) [.int .i64 1] 3 (by simp; try rfl)).alloc (.cells #[.int .i64 0, .int .i64 1, .int .i64 1, .int .i64 1, .int .i64 1, .int .i64 1] 55)))
  have HO3 := Lib.hid (show Row ((((w4.alloc (.cells #[.slice A5 n5 c5, .int .i64 s5, .slice M5 m5 d5, .slice E5 1 g5] 25)).alloc (.cells #[.int .i64 1] 3)).alloc (.cells #[.int .i64 1] 3)).alloc (.cells #[.int .i64 0, .int .i64 1, .int .i64 1, .int .i64 1, .int .i64 1, .int .i64 1] 55)) (w4.heap.size + 1 + 1 + 1) 55 [.int .i64 0, .int .i64 1, .int .i64 1, .int .i64 1, .int .i64 1, .int .i64 1] from (Row.newE (((w4.alloc (.cells #[.slice A5 n5 c5, .int .i64 s5, .slice M5 m5 d5, .slice E5 1 g5] 25)).alloc (.cells #[.int .i64 1] 3)).alloc (.cells #[.int .i64 1] 3)) [.int .i64 0, .int .i64 1, .int .i64 1, .int .i64 1, .int .i64 1, .int .i64 1] 55 (by simp; try rfl)))
  have hbw := HB24.out.trans (hbx.mono HB24.out.size)
  have hAL : AuR ((((w4.alloc (.cells #[.slice A5 n5 c5, .int .i64 s5, .slice M5 m5 d5, .slice E5 1 g5] 25)).alloc (.cells #[.int .i64 1] 3)).alloc (.cells #[.int .i64 1] 3)).alloc (.cells #[.int .i64 0, .int .i64 1, .int .i64 1, .int .i64 1, .int .i64 1, .int .i64 1] 55)) ((((w4.alloc (.cells #[.slice A5 n5 c5, .int .i64 s5, .slice M5 m5 d5, .slice E5 1 g5] 25)).alloc (.cells #[.int .i64 1] 3)).alloc (.cells #[.int .i64 1] 3)).alloc (.cells #[.int .i64 0, .int .i64 1, .int .i64 1, .int .i64 1, .int .i64 1, .int .i64 1] 55)).heap.size (some ⟨w4.heap.size + 1, 0, none⟩) 1 1 2 (some ⟨w4.heap.size + 1 + 1, 0, none⟩) 1 1 (some ⟨w4.heap.size + 1 + 1 + 1, 0, none⟩) 2 2 exP7 := au_rows7 (a := exP7) HO1.out HO2.out HO3.out rfl rfl rfl rfl (by omega) (by omega) (by omega)
  have HSA := Lib.hid (rSame_any A1 n1 c1 s1 M1 m1 d1 E1 k1 g1 (some ⟨w4.heap.size + 1, 0, none⟩) 1 1 2 (some ⟨w4.heap.size + 1 + 1, 0, none⟩) 1 1 (some ⟨w4.heap.size + 1 + 1 + 1, 0, none⟩) 2 2 exP7 exP7 _ ((((w4.alloc (.cells #[.slice A5 n5 c5, .int .i64 s5, .slice M5 m5 d5, .slice E5 1 g5] 25)).alloc (.cells #[.int .i64 1] 3)).alloc (.cells #[.int .i64 1] 3)).alloc (.cells #[.int .i64 0, .int .i64 1, .int .i64 1, .int .i64 1, .int .i64 1, .int .i64 1] 55)) ((HP2.out.below hbw (Nat.le_refl _)).more hbw.size) hAL (Nat.le_refl _))
  rw [show decide (exP7 = exP7) = true by simp] at HSA
  clear hbx hbw hAL
  go_wp2_with fail
  refine HSA.out.mono ?_
  rintro e w5 ⟨rfl, hb5⟩
  have HB45 := Lib.hid (HBX.out.trans (hb5.mono HBX.out.size))
  have HB5 := Lib.hid (HB4.out.trans (HB45.out.mono HB4.out.size))
  have HB25 := Lib.hid (HB24.out.trans (HB45.out.mono HB24.out.size))
  have HB35 := Lib.hid (HB34.out.trans (HB45.out.mono HB34.out.size))
  have HX6 := Lib.hid (HX5.out.below hb5 HX5.out.lt)
  clear hb5 HSA HO1 HO2 HO3 HX5 HBX x0 x1 x2 x3 hxl HX4
  have hbx := ((((Below.refl w5.heap.size w5).alloc (by simp; try omega) (.cells #[.int .i64 0, .int .i64 1] 3)).alloc (by simp; try omega) (.cells #[.int .i64 0, .int .i64 1, .int .i64 2] 3)).alloc (by simp; try omega) (.cells #[.slice (some ⟨w5.heap.size, 0, none⟩) 2 2, .slice (some ⟨w5.heap.size + 1, 0, none⟩) 3 3] 22))
  have HBX := Lib.hid hbx
  have HO1 := Lib.hid (show Row (((w5.alloc (.cells #[.int .i64 0, .int .i64 1] 3)).alloc (.cells #[.int .i64 0, .int .i64 1, .int .i64 2] 3)).alloc (.cells #[.slice (some ⟨w5.heap.size, 0, none⟩) 2 2, .slice (some ⟨w5.heap.size + 1, 0, none⟩) 3 3] 22)) (w5.heap.size) 3 [.int .i64 0, .int .i64 1] from (((Row.newE w5 [.int .i64 0, .int .i64 1] 3 (by simp; try rfl)).alloc (.cells #[.int .i64 0, .int .i64 1, .int .i64 2] 3)).alloc (.cells #[.slice (some ⟨w5.heap.size, 0, none⟩) 2 2, .slice (some ⟨w5.heap.size + 1, 0, none⟩) 3 3] 22)))
  have HO2 := Lib.hid (show Row (((w5.alloc (.cells #[.int .i64 0, .int .i64 1] 3)).alloc (.cells #[.int .i64 0, .int .i64 1, .int .i64 2] 3)).alloc (.cells #[.slice (some ⟨w5.heap.size, 0, none⟩) 2 2, .slice (some ⟨w5.heap.size + 1, 0, none⟩) 3 3] 22)) (w5.heap.size + 1) 3 [.int .i64 0, .int .i64 1, .int .i64 2] from ((Row.newE (w5.alloc (.cells #[.int .i64 0, .int .i64 1] 3)) [.int .i64 0, .int .i64 1, .int .i64 2] 3 (by simp; try rfl)).alloc (.cells #[.slice (some ⟨w5.heap.size, 0, none⟩) 2 2, .slice (some ⟨w5.heap.size + 1, 0, none⟩) 3 3] 22)))
  have HO3 := Lib.hid (show Row (((w5.alloc (.cells #[.int .i64 0, .int .i64 1] 3)).alloc (.cells #[.int .i64 0, .int .i64 1, .int .i64 2] 3)).alloc (.cells #[.slice (some ⟨w5.heap.size, 0, none⟩) 2 2, .slice (some ⟨w5.heap.size + 1, 0, none⟩) 3 3] 22)) (w5.heap.size + 1 + 1) 22 [.slice (some ⟨w5.heap.size, 0, none⟩) 2 2, .slice (some ⟨w5.heap.size + 1, 0, none⟩) 3 3] from (Row.newE ((w5.alloc (.cells #[.int .i64 0, .int .i64 1] 3)).alloc (.cells #[.int .i64 0, .int .i64 1, .int .i64 2] 3)) [.slice (some ⟨w5.heap.size, 0, none⟩) 2 2, .slice (some ⟨w5.heap.size + 1, 0, none⟩) 3 3] 22 (by simp; try rfl)))
  have hbw := HB25.out.trans (hbx.mono HB25.out.size)
  have hGS : RdL (((w5.alloc (.cells #[.int .i64 0, .int .i64 1] 3)).alloc (.cells #[.int .i64 0, .int .i64 1, .int .i64 2] 3)).alloc (.cells #[.slice (some ⟨w5.heap.size, 0, none⟩) 2 2, .slice (some ⟨w5.heap.size + 1, 0, none⟩) 3 3] 22)) (((w5.alloc (.cells #[.int .i64 0, .int .i64 1] 3)).alloc (.cells #[.int .i64 0, .int .i64 1, .int .i64 2] 3)).alloc (.cells #[.slice (some ⟨w5.heap.size, 0, none⟩) 2 2, .slice (some ⟨w5.heap.size + 1, 0, none⟩) 3 3] 22)).heap.size (some ⟨w5.heap.size + 1 + 1, 0, none⟩) [⟨some ⟨w5.heap.size, 0, none⟩, 2, [0, 1]⟩, ⟨some ⟨w5.heap.size + 1, 0, none⟩, 3, [0, 1, 2]⟩] := fun _ => ⟨_, 0, rfl, HO3.out.lt, fun j x hj => by
    match j, hj with
    | 0, hj => simp at hj; subst hj; exact ⟨HO3.out.cell 0 rfl, Row.rd (zs := [0, 1]) HO1.out, Nat.le_refl _, by simp⟩
    | 1, hj => simp at hj; subst hj; exact ⟨HO3.out.cell 1 rfl, Row.rd (zs := [0, 1, 2]) HO2.out, Nat.le_refl _, by simp⟩
    | j + 2, hj => simp at hj⟩
  have hsw : ShW hs := fun x hx => by
    have h1 := HVM.out
    have h2 : x.z ∈ hs.map Hd.z := List.mem_map.2 ⟨x, hx, rfl⟩
    rw [h1] at h2
    simp at h2
    rcases h2 with h2 | h2 <;> rw [h2] <;> simp
  have HSW := Lib.hid (sameWords_any V (some ⟨w5.heap.size + 1 + 1, 0, none⟩) 2 2 cV 2 hs _ (((w5.alloc (.cells #[.int .i64 0, .int .i64 1] 3)).alloc (.cells #[.int .i64 0, .int .i64 1, .int .i64 2] 3)).alloc (.cells #[.slice (some ⟨w5.heap.size, 0, none⟩) 2 2, .slice (some ⟨w5.heap.size + 1, 0, none⟩) 3 3] 22)) ((HV2.out.below hbw (Nat.le_refl _)).more hbw.size) hGS HVL.out rfl (by omega) (by omega) hsw (fun x hx => by simp at hx; rcases hx with rfl | rfl <;> simp))
  rw [show (decide (hs.map Hd.z = List.map Hd.z [(⟨some ⟨w5.heap.size, 0, none⟩, 2, [0, 1]⟩ : Hd), ⟨some ⟨w5.heap.size + 1, 0, none⟩, 3, [0, 1, 2]⟩])) = true by rw [HVM.out]; rfl] at HSW
  clear hbx hbw hGS hsw
  go_wp2_with fail
  refine HSW.out.mono ?_
  rintro e w6 ⟨rfl, q6, hw6⟩
  have hb6 : Below w5.heap.size w5 w6 := by rw [hw6]; exact below_drewN HBX.out q6
  have HB36 := Lib.hid (HB35.out.trans (hb6.mono HB35.out.size))
  have HB6 := Lib.hid (HB5.out.trans (hb6.mono HB5.out.size))
  have HX7 := Lib.hid (HX6.out.below hb6 HX6.out.lt)
  clear hb6 HSW HO1 HO2 HO3 HX6 HBX hw6
  have hbx := ((Below.refl w6.heap.size w6).alloc (by simp; try omega) (.cells #[.int .i64 0, .int .i64 1] 3))
  have HBX := Lib.hid hbx
  have HO1 := Lib.hid (show Row (w6.alloc (.cells #[.int .i64 0, .int .i64 1] 3)) (w6.heap.size) 3 [.int .i64 0, .int .i64 1] from (Row.newE w6 [.int .i64 0, .int .i64 1] 3 (by simp; try rfl)))
  have hbw := HB36.out.trans (hbx.mono HB36.out.size)
  have HSI := Lib.hid (sameInts_any AL (some ⟨w6.heap.size, 0, none⟩) 2 2 cL 2 (w6.alloc (.cells #[.int .i64 0, .int .i64 1] 3)).heap.size (w6.alloc (.cells #[.int .i64 0, .int .i64 1] 3)).heap.size [0, 1] [0, 1] (w6.alloc (.cells #[.int .i64 0, .int .i64 1] 3)) ((HL3.out.below hbw (Nat.le_refl _)).more hbw.size) (Row.rd (zs := [0, 1]) HO1.out) rfl rfl (by omega) (by omega))
  rw [show decide (([0, 1] : List Int) = [0, 1]) = true by simp] at HSI
  have y3 := HX7.out.cell 3 rfl
  have hyl := HX7.out.lt
  clear hbx hbw
  go_wp2_with fail
  refine HSI.out.mono ?_
  rintro e w7 ⟨rfl, q7, hw7⟩
  have hb7 : Below w6.heap.size w6 w7 := by rw [hw7]; exact below_drewN HBX.out q7
  have HX8 := Lib.hid (HX7.out.below hb7 HX7.out.lt)
  have HB7 := Lib.hid (HB6.out.trans (hb7.mono HB6.out.size))
  have y3 := HX8.out.cell 3 rfl
  clear hb7 HSI HO1 HX7 HBX hw7 hyl
  go_wp2_with fail
  go_ret
  exact ⟨rfl, HB7.out⟩
end Go.Proofs.Ytmghngehpgolgaa

/- Layer 3: what the functions answer of an automaton that isn't right. -/
namespace Go.Proofs.Ytmghngehpgolgaa
open Go.RowKit Go.Sort

theorem lw_list {f : FuncId} {args : Array Value} {w W : World} {l : List (Nat × List Value)} {u : Int} (hc : Calls Try.prog f args w fun e w' => GivesP w ([], u) e w') (h : LW W l w) : Calls Try.prog f args w fun e w' => ∃ A c, e = .returned (.tuple #[.slice A 0 c, .int .i64 u]) ∧ LW W l w' :=
  hc.mono fun e w' hh => by
    obtain ⟨A, c, e1, _, hb, _⟩ := hh
    exact ⟨A, c, e1, h.call hb⟩
section
variable {a : Au} {u : Int}
theorem e_can (h : chkE a = u) (hu : u ≠ 0) : canR a = (zeroA, u) := by rw [canR, h, if_pos hu]
theorem e_pl (h : chkE a = u) (hu : u ≠ 0) (q : Int) : plE a q = u := by rw [plE, h, if_pos hu]
theorem e_step (h : chkE a = u) (hu : u ≠ 0) (q ev : Int) : stepR a q ev = (0, false, u) := by rw [stepR, e_pl h hu, if_pos hu]
theorem e_run (h : chkE a = u) (hu : u ≠ 0) (q : Int) (ws : List Int) : runR a q ws = (0, 0, u) := by rw [runR, e_pl h hu, if_pos hu]
theorem e_en (h : chkE a = u) (hu : u ≠ 0) (q : Int) : enR a q = ([], u) := by rw [enR, e_pl h hu, if_pos hu]
theorem e_gen (h : chkE a = u) (hu : u ≠ 0) (ws : List Int) : genR a ws = (false, u) := by rw [genR, h, if_pos hu]
theorem e_acc (h : chkE a = u) (hu : u ≠ 0) (ws : List Int) : accR a ws = (false, u) := by rw [accR, h, if_pos hu]
theorem e_wds (h : chkE a = u) (hu : u ≠ 0) (most : Int) (mk : Bool) : wordsR a most mk = ([], u) := by rw [wordsR, h, if_pos hu]
theorem e_rel (h : chkE a = u) (hu : u ≠ 0) (tl : List Int) : relR a tl = (zeroA, u) := by rw [relR, h, if_pos hu]
theorem e_cmp (h : chkE a = u) (hu : u ≠ 0) : cmpR a = (zeroA, u) := by rw [cmpR, h, if_pos hu]
theorem e_cls (h : chkE a = u) (hu : u ≠ 0) : clsR a = (zeroA, u) := by rw [clsR, h, if_pos hu]
theorem e_isC (h : chkE a = u) (hu : u ≠ 0) : isC a = false := by rw [isC, h]; simp [hu]
end
section
variable {a : Au} {u : Int} {W w : World} {l : List (Nat × List Value)} {A : Option Addr} {n c : Nat} {s : Int} {M : Option Addr} {m d : Nat} {E : Option Addr} {k g : Nat}
theorem x_can (h : chkE a = u) (hu : u ≠ 0) (hA : AuR W W.heap.size A n c s M m d E k g a) (hl : LW W l w) : Calls Try.prog 36 #[.agg #[.slice A n c, .int .i64 s, .slice M m d, .slice E k g]] w fun e w' => ∃ A c M d E g, e = .returned (.tuple #[.agg #[.slice A 0 c, .int .i64 0, .slice M 0 d, .slice E 0 g], .int .i64 u]) ∧ LW W l w' := by
  have := mCanonical_any A n c s M m d E k g a w (hl.aut A n c s M m d E k g hA)
  rw [e_can h hu] at this
  exact lw_zero this hl
end
end Go.Proofs.Ytmghngehpgolgaa

/- Layer 7: what the functions return at an error, in the form that the law's walk wants. -/
namespace Go.Proofs.Ytmghngehpgolgaa
open Go.RowKit Go.Sort

theorem j7_none (A : Option Addr) (c : Nat) (M : Option Addr) (d : Nat) (E : Option Addr) (g : Nat) (w : World) : Calls Try.prog 14 #[.agg #[.slice A 0 c, .int .i64 0, .slice M 0 d, .slice E 0 g]] w fun e w' => e = .returned (.bool true) ∧ Below w.heap.size w w' := by
  go_enter Try.func14, Try.ntmps14
  go_wp2
  go_ret
  exact ⟨rfl, (Below.refl _ _).alloc (Nat.le_refl _) _⟩
theorem chk_list (zs : List Int) : chkE ⟨zs, 0, [], []⟩ = csE 32 zs := by
  unfold chkE
  by_cases h : csE 32 zs = 0
  · rw [if_neg (by simpa using h)]
    simp [csE, csGo, egE, egGo, h]
    exact h.symm
  · rw [if_pos h]
theorem cwe_no {a : Au} {zs : List Int} (h : chkE a ≠ 0) : cweE a zs = chkE a := by unfold cweE; rw [fstE, if_pos h]
theorem cwe_yes {a : Au} {zs : List Int} (h : chkE a = 0) : cweE a zs = csE 32 zs := by
  unfold cweE
  rw [fstE, if_neg (by simpa using h), fstE, chk_list]
  by_cases h2 : csE 32 zs = 0
  · rw [if_neg (by simpa using h2), fstE, h2]
  · rw [if_pos h2]
section
variable {a : Au} {u : Int} {W w : World} {l : List (Nat × List Value)} {A : Option Addr} {n c : Nat} {s : Int} {M : Option Addr} {m d : Nat} {E : Option Addr} {k g : Nat} {Aw : Option Addr} {nw cw : Nat} {zs : List Int}
theorem rch_err {a : Au} {u : Int} {fr ev : List Int} (h : cweE a ev = u) (hu : u ≠ 0) : rchE a fr ev = u := by unfold rchE; rw [fstE, h, if_pos hu]
theorem y_proj (h : cweE a zs = u) (hu : u ≠ 0) (hA : AuR W W.heap.size A n c s M m d E k g a) (hz : RdI W W.heap.size Aw zs) (hn : zs.length = nw) (hc : nw ≤ cw ∧ cw ≤ 9223372036854775807) (hb : nw ≤ 8) (hl : LW W l w) : Calls Try.prog 8 #[.agg #[.slice A n c, .int .i64 s, .slice M m d, .slice E k g], .slice Aw nw cw] w fun e w' => e = .returned (.tuple #[.agg #[.slice none 0 0, .int .i64 0, .slice none 0 0, .slice none 0 0], .slice none 0 0, .int .i64 u]) ∧ LW W l w' := by
  refine (jProject_any A n c s M m d E k g Aw nw cw a zs w (hl.aut A n c s M m d E k g hA) (hl.ints hz) hn hc (by omega)).mono ?_
  rintro e w' ⟨hb, h1 | h1 | h1⟩
  · rw [h] at h1; exact ⟨h1.2, hl.call hb⟩
  · exact absurd (h.symm.trans h1.1) hu
  · exact absurd (h.symm.trans h1.1) hu
theorem y_inv (h : cweE a zs = u) (hu : u ≠ 0) (hA : AuR W W.heap.size A n c s M m d E k g a) (hz : RdI W W.heap.size Aw zs) (hn : zs.length = nw) (hc : nw ≤ cw ∧ cw ≤ 9223372036854775807) (hb : nw ≤ 8) (hl : LW W l w) : Calls Try.prog 9 #[.agg #[.slice A n c, .int .i64 s, .slice M m d, .slice E k g], .slice Aw nw cw] w fun e w' => ∃ A c M d E g, e = .returned (.tuple #[.agg #[.slice A 0 c, .int .i64 0, .slice M 0 d, .slice E 0 g], .int .i64 u]) ∧ LW W l w' := by
  have := jInverse_any A n c s M m d E k g Aw nw cw a zs w (hl.aut A n c s M m d E k g hA) (hl.ints hz) hn hc (by omega)
  rw [show invR a zs = (zeroA, u) by unfold invR; rw [h, if_neg hu]] at this
  exact lw_zero this hl
theorem y_rch (h : cweE a zs = u) (hu : u ≠ 0) (hA : AuR W W.heap.size A n c s M m d E k g a) (hz : RdI W W.heap.size Aw zs) (hn : zs.length = nw) (hc : nw ≤ cw ∧ cw ≤ 9223372036854775807) (hb : nw ≤ 8) (hl : LW W l w) : Calls Try.prog 10 #[.agg #[.slice A n c, .int .i64 s, .slice M m d, .slice E k g], .slice none 0 0, .slice Aw nw cw] w fun e w' => ∃ A c, e = .returned (.tuple #[.slice A 0 c, .int .i64 u]) ∧ LW W l w' := by
  refine (jReach_any A n c s M m d E k g a none 0 0 [] Aw nw cw zs w (hl.aut A n c s M m d E k g hA) (RdI.nil _ _ _) rfl (by omega) (by omega) (hl.ints hz) hn hc (by omega)).mono ?_
  rintro e w' ⟨v, he, ho, hb⟩
  rw [rch_err h hu] at he ho
  rw [if_neg hu] at ho
  obtain ⟨A, c, rfl, _, _⟩ := own_rdc ho
  exact ⟨A, c, he, hl.call hb⟩
theorem y_est (h : cweE a zs = u) (hu : u ≠ 0) (hA : AuR W W.heap.size A n c s M m d E k g a) (hz : RdI W W.heap.size Aw zs) (hn : zs.length = nw) (hc : nw ≤ cw ∧ cw ≤ 9223372036854775807) (hb : nw ≤ 8) (hl : LW W l w) : Calls Try.prog 11 #[.agg #[.slice A n c, .int .i64 s, .slice M m d, .slice E k g], .slice Aw nw cw, .slice none 0 0] w fun e w' => ∃ A c, e = .returned (.tuple #[.slice A 0 c, .int .i64 u]) ∧ LW W l w' := by
  refine (jEstimate_any A n c s M m d E k g Aw nw cw a zs none 0 0 [] w (hl.aut A n c s M m d E k g hA) (hl.ints hz) hn hc (by omega) (RdI.nil _ _ _) rfl (by omega)).mono ?_
  rintro e w' ⟨hb, v, he, ho⟩
  rw [show estE a zs [] = u by unfold estE; rw [if_neg (by rw [h]; exact hu), h]] at he ho
  rw [if_neg hu] at ho
  obtain ⟨A, c, rfl, _, _⟩ := own_rdc ho
  exact ⟨A, c, he, hl.call hb⟩
theorem y_next (h : cweE a zs = u) (hu : u ≠ 0) (hA : AuR W W.heap.size A n c s M m d E k g a) (hz : RdI W W.heap.size Aw zs) (hn : zs.length = nw) (hc : nw ≤ cw ∧ cw ≤ 9223372036854775807) (hb : nw ≤ 8) (hl : LW W l w) : Calls Try.prog 12 #[.agg #[.slice A n c, .int .i64 s, .slice M m d, .slice E k g], .slice Aw nw cw, .slice none 0 0, .int .i64 0] w fun e w' => ∃ A c, e = .returned (.tuple #[.slice A 0 c, .int .i64 u]) ∧ LW W l w' := by
  refine (jNextP_any A n c s M m d E k g Aw nw cw a zs none 0 0 [] 0 w (hl.aut A n c s M m d E k g hA) (RdI.nil _ _ _) rfl (by omega) (by omega) (hl.ints hz) hn hc (by omega)).mono ?_
  rintro e w' ⟨hb, v, he, ho⟩
  rw [show nextE a zs [] 0 = u by unfold nextE; rw [rch_err h hu, if_neg hu]] at he ho
  rw [if_neg hu] at ho
  obtain ⟨A, c, rfl, _, _⟩ := own_rdc ho
  exact ⟨A, c, he, hl.call hb⟩
theorem y_lift (h : cweE a zs = u) (hu : u ≠ 0) (hA : AuR W W.heap.size A n c s M m d E k g a) (hz : RdI W W.heap.size Aw zs) (hn : zs.length = nw) (hc : nw ≤ cw ∧ cw ≤ 9223372036854775807) (hb : nw ≤ 8) (hl : LW W l w) : Calls Try.prog 13 #[.agg #[.slice A n c, .int .i64 s, .slice M m d, .slice E k g], .slice Aw nw cw, .slice none 0 0, .bool false] w fun e w' => e = .returned (.tuple #[.slice none 0 0, .bool false, .int .i64 u]) ∧ LW W l w' := by
  refine (jLiftP_any A n c s M m d E k g Aw nw cw a zs none 0 0 [] false w (hl.aut A n c s M m d E k g hA) (hl.ints hz) hn hc (by omega) (RdI.nil _ _ _) rfl (by omega)).mono ?_
  rintro e w' ⟨hb, h1 | h1 | h1⟩
  · rw [h] at h1; exact ⟨h1.2, hl.call hb⟩
  · exact absurd (h.symm.trans h1.1) hu
  · exact absurd (h.symm.trans h1.1) hu
end
theorem lw_drawn {f : FuncId} {args : Array Value} {v : Value} {W w : World} {l : List (Nat × List Value)} (hc : Calls Try.prog f args w fun e w' => e = .returned v ∧ ∃ q, w' = w.drewN q) (h : LW W l w) : Calls Try.prog f args w fun e w' => e = .returned v ∧ LW W l w' :=
  hc.mono fun e w' hh => by
    obtain ⟨h1, q, rfl⟩ := hh
    exact ⟨h1, h.drewN q⟩
end Go.Proofs.Ytmghngehpgolgaa

/- Layer 7: what came in: a list's length and capacity. -/
namespace Go.Proofs.Ytmghngehpgolgaa
open Go.ChangeShapes Go.WideShapes Go.ChangeAt Go.RowKit
section
variable {H : Type} {enc : TypeId × Value → H} {W : World} {base : Nat} {v : Value} {d : DataW H} {p : List MemPlace}
theorem cap2_ints {a0 : Option Addr} {len cap : Nat} (h : DataW.Trod enc Try.prog W 0 (fun _ => true) true 22 (.slice a0 len cap) d p) (hlt : ∀ x ∈ p, x.block < W.heap.size) : len ≤ cap ∧ cap ≤ 9223372036854775807 := by
  obtain ⟨fuel, hf⟩ := h
  obtain ⟨A, n, c, z, S⟩ := open_sl (c := .slice a0 len cap) hf hlt
  have e := S.eq
  injection e with e1 e2 e3
  subst e1 e2 e3
  exact ⟨S.cap, S.top⟩
theorem open_set1 {n : Nat} {c : Value} {y : DataW H × List MemPlace} (hf : DataW.trod enc Try.prog W 0 (fun _ => true) true n 42 [c] = some y) : ∃ z, c = .int .u8 z ∧ (Lit.int .u8 z).wf = true := by
  obtain ⟨q, e, _, hq⟩ := DataW.trod_int Try.underlying42 hf
  simp at e
  exact ⟨q, e, hq⟩
end
end Go.Proofs.Ytmghngehpgolgaa
