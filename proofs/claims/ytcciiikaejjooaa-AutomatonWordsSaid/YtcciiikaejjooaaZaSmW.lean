/- Layer 3: SameWords of the law; lists of words on a law's way. -/
import Derived.Test.YtcciiikaejjooaaZaWr
import Derived.Test.YtcciiikaejjooaaZa8
import Derived.Deep.QuietTactic
import Derived.BigQuiet
namespace Go.Proofs.Ytcciiikaejjooaa
open Go.RowKit Go.Sort

theorem RdL.dr {w : World} {B : Nat} {A : Option Addr} {hs : List Hd} (h : RdL w B A hs) (q : Nat) : RdL (w.drewN q) B A hs := h
theorem take_w {zs : List (List Int)} {k : Nat} (h : k < zs.length) : zs.take (k + 1) = zs.take k ++ [zs.getD k []] := by
  rw [List.take_add_one, List.getElem?_eq_getElem h]; simp [List.getD, List.getElem?_eq_getElem h]
theorem take_succ_w {zs ys : List (List Int)} {k : Nat} (hx : k < zs.length) (hy : k < ys.length) (h : zs.take k = ys.take k) (he : zs.getD k [] = ys.getD k []) : zs.take (k + 1) = ys.take (k + 1) := by
  rw [take_w hx, take_w hy, h, he]
theorem ne_of_getD_w {zs ys : List (List Int)} {k : Nat} (he : ¬ zs.getD k [] = ys.getD k []) : decide (zs = ys) = false := by
  simp only [decide_eq_false_iff_not]; rintro rfl; exact he rfl
theorem eq_of_take_w {zs ys : List (List Int)} {n : Nat} (h1 : zs.length = n) (h2 : ys.length = n) (h : zs.take n = ys.take n) : decide (zs = ys) = true := by
  rw [List.take_of_length_le (by omega), List.take_of_length_le (by omega)] at h
  simpa using h
theorem hd_getD {hs : List Hd} {k : Nat} {x : Hd} (h : hs[k]? = some x) : (hs.map Hd.z).getD k [] = x.z := by
  simp [List.getD, List.getElem?_map, h]
/-- All words are short. -/
def ShW (hs : List Hd) : Prop := ∀ x ∈ hs, x.z.length ≤ 100000

set_option maxHeartbeats 2000000 in
theorem sameWords_any (A B : Option Addr) (n m c d : Nat) (hs gs : List Hd) (w : World) (hx : RdL w w.heap.size A hs) (hy : RdL w w.heap.size B gs) (hn : hs.length = n) (hm : gs.length = m) (hb : n ≤ 100000) (hb' : m ≤ 100000) (lx : ShW hs) (ly : ShW gs) :
    Calls Try.prog 42 #[.slice A n c, .slice B m d] w fun e w' => e = .returned (.bool (decide (hs.map Hd.z = gs.map Hd.z))) ∧ ∃ q, w' = w.drewN q := by
  by_cases hnm : n = m
  · subst hnm
    obtain ⟨zs, hzs⟩ : ∃ zs, zs = hs.map Hd.z := ⟨_, rfl⟩
    obtain ⟨ys, hys⟩ : ∃ ys, ys = gs.map Hd.z := ⟨_, rfl⟩
    have HX := Lib.hid hx
    have HY := Lib.hid hy
    have HN := Lib.hid hn
    have HM := Lib.hid hm
    have HLX := Lib.hid lx
    have HLY := Lib.hid ly
    have HZS := Lib.hid hzs
    have HYS := Lib.hid hys
    have HZN := Lib.hid (show zs.length = n by rw [hzs, List.length_map, hn])
    have HYN := Lib.hid (show ys.length = n by rw [hys, List.length_map, hm])
    rw [← hzs, ← hys]
    clear hn hm hx hy lx ly hzs hys
    go_enter Try.func42, Try.ntmps42
    go_wp2_with fail
    go_loopw [5] (fun i wr => ∃ k : Nat, k ≤ n ∧ i = .int .i64 k ∧ Hid (zs.take k = ys.take k) ∧ Hid (∃ q, wr = w.drewN q)) (fun i _ => n - (intOf i).toNat)
    case atStart => exact ⟨0, Nat.zero_le _, rfl, rfl, 0, rfl⟩
    case round =>
      obtain ⟨k, hk, rfl, ht, HQ⟩ := hrel
      by_cases hlt : k < n
      · have hz : k < zs.length := by rw [HZN.out]; exact hlt
        have hy : k < ys.length := by rw [HYN.out]; exact hlt
        have r1 : RdL wr wr.heap.size A hs := by obtain ⟨q, e⟩ := HQ.out; subst e; exact HX.out
        have r2 : RdL wr wr.heap.size B gs := by obtain ⟨q, e⟩ := HQ.out; subst e; exact HY.out
        obtain ⟨b1, o1, rfl, hb1, hc1⟩ := r1 (by rw [HN.out]; omega)
        obtain ⟨b2, o2, rfl, hb2, hc2⟩ := r2 (by rw [HM.out]; omega)
        obtain ⟨x, hxk⟩ : ∃ x, hs[k]? = some x := ⟨_, List.getElem?_eq_getElem (by rw [HN.out]; exact hlt)⟩
        obtain ⟨y, hyk⟩ : ∃ y, gs[k]? = some y := ⟨_, List.getElem?_eq_getElem (by rw [HM.out]; exact hlt)⟩
        obtain ⟨c1, rd1, _, _⟩ := hc1 k x hxk
        obtain ⟨c2, rd2, _, _⟩ := hc2 k y hyk
        have hl1 := HLX.out x (List.mem_of_getElem? hxk)
        have hl2 := HLY.out y (List.mem_of_getElem? hyk)
        have e1 := hd_getD hxk
        have e2 := hd_getD hyk
        rw [← HZS.out] at e1
        rw [← HYS.out] at e2
        obtain ⟨C1, d1, z1⟩ := x
        obtain ⟨C2, d2, z2⟩ := y
        simp only [Hd.enc] at c1 c2
        have C := Lib.hid (fun q => sameInts_any C1 C2 _ _ d1 d2 _ _ z1 z2 (wr.drewN q) (rd1.dr q) (rd2.dr q) rfl rfl (by simp only at hl1; omega) (by simp only at hl2; omega))
        have k4 : (k : Int) < (n : Int) := by omega
        clear hc1 hc2 rd1 rd2 r1 r2 hxk hyk hl1 hl2
        by_cases he : z1 = z2
        · have hs' := Lib.hid (take_succ_w hz hy ht.out (by rw [e1, e2]; exact he))
          have hd : decide (z1 = z2) = true := decide_eq_true he
          rw [hd] at C
          clear he hd ht hz hy e1 e2
          generalize z1.length = n1 at *
          generalize z2.length = n2 at *
          go_wp2_with fail
          go_quiet ((go_at_call 34; with_reducible exact Calls.quiet_of (C.out _)))
          go_wp2_with fail
          go_roundw
          case rel => exact ⟨k + 1, by omega, by go_num, hs', by obtain ⟨q, e⟩ := HQ.out; subst e; exact ⟨_, World.drewN_drewN _ _ _⟩⟩
          case measure => simp [intOf]; omega
        · have hs' := Lib.hid (ne_of_getD_w (zs := zs) (ys := ys) (k := k) (by rw [e1, e2]; exact he))
          have hd : decide (z1 = z2) = false := decide_eq_false he
          rw [hd] at C
          clear he hd ht hz hy e1 e2
          generalize z1.length = n1 at *
          generalize z2.length = n2 at *
          go_wp2_with fail
          go_quiet ((go_at_call 34; with_reducible exact Calls.quiet_of (C.out _)))
          go_wp2_with fail
          go_ret
          exact ⟨ret_bool hs'.out.symm, by obtain ⟨q, e⟩ := HQ.out; subst e; exact ⟨_, World.drewN_drewN _ _ _⟩⟩
      · have hkn : k = n := by omega
        have hf := Lib.hid (by have := ht.out; rw [hkn] at this; exact eq_of_take_w HZN.out HYN.out this)
        clear hkn ht
        go_wp2_with fail
        go_ret
        exact ⟨ret_bool hf.out.symm, HQ.out⟩
  · have hne : ((n : Int) != (m : Int)) = true := by simp; omega
    have hf := Lib.hid (show decide (hs.map Hd.z = gs.map Hd.z) = false by
      simp only [decide_eq_false_iff_not]; intro e
      have := congrArg List.length e
      simp only [List.length_map] at this; omega)
    rw [hf.out]
    clear hn hm hx hy lx ly
    go_enter Try.func42, Try.ntmps42
    go_wp2_with fail
    go_ret
    exact ⟨rfl, 0, rfl⟩

theorem rowL_rd {w : World} {base : Nat} {v : Value} {hs : List Hd} (h : w.ownsRow base 22 1 v hs.length (hs.map Hd.enc)) (ho : ∀ x ∈ hs, RdI w w.heap.size x.A x.z ∧ x.z.length ≤ x.c ∧ x.c ≤ 9223372036854775807) : ∃ A c, v = .slice A hs.length c ∧ RdL w w.heap.size A hs := by
  rcases h.2 with ⟨rfl, h0⟩ | ⟨g, cap, cur, rfl, hg, hh, hn, hcap, hsz, htake⟩
  · have : hs = [] := List.eq_nil_of_length_eq_zero h0
    subst this
    exact ⟨none, 0, rfl, RdL.nil _ _ _⟩
  · refine ⟨some ⟨g, 0, none⟩, cap, rfl, fun _ => ⟨g, 0, rfl, (h.lt g rfl).2, fun j x hj => ?_⟩⟩
    have hl := (List.getElem?_eq_some_iff.1 hj).1
    exact ⟨by rw [Nat.zero_add, World.ownsRow.cellAt (cap := cap) h j (by omega), List.getElem?_map, hj]; rfl, ho x (List.mem_of_getElem? hj)⟩
theorem RdL.all {w : World} {B : Nat} {A : Option Addr} {hs : List Hd} (h : RdL w B A hs) : ∀ x ∈ hs, RdI w B x.A x.z ∧ x.z.length ≤ x.c ∧ x.c ≤ 9223372036854775807 := fun x hx => by
  obtain ⟨j, hj⟩ := List.mem_iff_getElem?.1 hx
  have hl := (List.getElem?_eq_some_iff.1 hj).1
  obtain ⟨_, _, _, _, hc⟩ := h (by omega)
  exact (hc j x hj).2
/-- The words have at most so many events. -/
theorem genF_short {a : Au} {m : Nat} : ∀ (f i : Nat) (L R : List (List Int × Int)), (∀ p ∈ L, p.1.length ≤ m) → genF a (m : Int) f i L = some R → ∀ p ∈ R, p.1.length ≤ m
  | 0, i, L, R, _, h => by rw [genF] at h; cases h
  | f + 1, i, L, R, hL, h => by
    rw [genF] at h
    split at h
    · rename_i hc
      split at h
      · cases h
      · refine genF_short f (i + 1) _ R (fun p hp => ?_) h
        rcases List.mem_append.1 hp with hp | hp
        · exact hL p hp
        · unfold extW at hp
          obtain ⟨y, _, rfl⟩ := List.mem_map.1 hp
          rw [List.length_append, List.length_singleton]; omega
    · injection h with h; subst h; exact hL
theorem genO_short {a : Au} {m : Nat} {R : List (List Int × Int)} (h : genO a (m : Int) = some R) : ∀ p ∈ R, p.1.length ≤ m := by
  unfold genO at h
  split at h
  · injection h with h; subst h; intro p hp; simp at hp
  · exact genF_short _ _ _ _ (fun p hp => by rw [List.mem_singleton] at hp; subst hp; simp) h
theorem shW_of {hs : List Hd} {R : List (List Int × Int)} (h : hs.map Hd.z = R.map Prod.fst) (hR : ∀ p ∈ R, p.1.length ≤ 100000) : ShW hs := fun x hx => by
  have : x.z ∈ hs.map Hd.z := List.mem_map.2 ⟨x, hx, rfl⟩
  rw [h] at this
  obtain ⟨p, hp, e⟩ := List.mem_map.1 this
  rw [← e]; exact hR p hp
/-- The words of a list that are accepted. -/
def accW (a : Au) (hs : List Hd) : List Hd := hs.filter fun x => accB a x.z
theorem accW_map (a : Au) (hs : List Hd) : (accW a hs).map Hd.z = (hs.map Hd.z).filter fun z => accB a z := by
  unfold accW; rw [List.filter_map]; rfl
theorem accW_step {a : Au} {hs : List Hd} {t : Nat} {x : Hd} (h : hs[t]? = some x) : accW a (hs.take (t + 1)) = accW a (hs.take t) ++ (if accB a x.z = true then [x] else []) := by
  unfold accW
  rw [List.take_add_one, h, List.filter_append]
  cases hb : accB a x.z <;> simp [hb]
theorem accW_len (a : Au) (hs : List Hd) (t : Nat) : (accW a (hs.take t)).length ≤ t := by
  unfold accW
  exact Nat.le_trans (List.length_filter_le _ _) (List.length_take_le _ _)
theorem accW_mem {a : Au} {hs : List Hd} {x : Hd} (h : x ∈ accW a hs) : x ∈ hs := (List.mem_filter.1 h).1
section
variable {W w w' : World} {l : List (Nat × List Value)} {A : Option Addr} {n c : Nat} {s : Int} {M : Option Addr} {m d : Nat} {E : Option Addr} {k g : Nat} {a : Au}
theorem KW.wds (h : KW W l w w') {A : Option Addr} {hs : List Hd} (ha : RdL w w.heap.size A hs) : RdL w' w'.heap.size A hs := (ha.below h.bel (Nat.le_refl _)).more h.bel.size
theorem k_words {most u : Int} {mk : Bool} {zs : List (List Int)} (hs : wordsR a most mk = (zs, u)) (ha : AuR w w.heap.size A n c s M m d E k g a) (h : LW W l w) : Calls Try.prog 23 #[.agg #[.slice A n c, .int .i64 s, .slice M m d, .slice E k g], .int .i64 most, .bool mk] w fun e w' => ∃ A1 n1 c1 hs, e = .returned (.tuple #[.slice A1 n1 c1, .int .i64 u]) ∧ hs.length = n1 ∧ hs.map Hd.z = zs ∧ RdL w' w'.heap.size A1 hs ∧ n1 ≤ 1024 ∧ KW W l w w' :=
  (mWords_any A n c s M m d E k g a most mk w ha).mono fun e w' hh => by
    obtain ⟨⟨A1, c1, gs, e1, e2, e3, _, _, e4⟩, hb⟩ := hh
    rw [hs] at e1 e2
    exact ⟨A1, _, c1, gs, e1, rfl, e2, e3, e4, KW.of h hb⟩
theorem k_rwords {most : Int} {R : List (List Int × Int)} (hr : RightW a) (hR : genO a most = some R) (hl : R.length ≤ 1024) (hm : most ≤ 4096) (ha : AuR w w.heap.size A n c s M m d E k g a) (h : LW W l w) : Calls Try.prog 41 #[.agg #[.slice A n c, .int .i64 s, .slice M m d, .slice E k g], .int .i64 most, .int .i64 1024] w fun e w' => ∃ A1 n1 c1 hs, e = .returned (.slice A1 n1 c1) ∧ hs.length = n1 ∧ hs.map Hd.z = R.map Prod.fst ∧ RdL w' w'.heap.size A1 hs ∧ n1 ≤ 1024 ∧ KW W l w w' :=
  (rWords_any A n c s M m d E k g a most R w ha hr hR hl hm).mono fun e w' hh => by
    obtain ⟨⟨A1, c1, gs, e1, e2, e3, _, _, e4⟩, hb⟩ := hh
    exact ⟨A1, _, c1, gs, e1, rfl, e2, e3, e4, KW.of h hb⟩
theorem k_samew {A1 A2 : Option Addr} {n1 c1 n2 c2 : Nat} {hs gs : List Hd} {r : Bool} (hr : decide (hs.map Hd.z = gs.map Hd.z) = r) (h1 : RdL w w.heap.size A1 hs) (h2 : RdL w w.heap.size A2 gs) (l1 : hs.length = n1) (l2 : gs.length = n2) (hb : n1 ≤ 100000) (hb2 : n2 ≤ 100000) (s1 : ShW hs) (s2 : ShW gs) (h : LW W l w) : Calls Try.prog 42 #[.slice A1 n1 c1, .slice A2 n2 c2] w fun e w' => e = .returned (.bool r) ∧ KW W l w w' :=
  (sameWords_any A1 A2 n1 n2 c1 c2 hs gs w h1 h2 l1 l2 hb hb2 s1 s2).mono fun e w' hh => by
    obtain ⟨e1, q, rfl⟩ := hh
    exact ⟨by rw [e1, hr], KW.of h (below_drewN (Below.refl _ _) q)⟩
end
theorem wordsR_out {a : Au} {most : Int} {mk : Bool} (hc : chkE a = 0) (h : most < 0 ∨ 4096 < most) : wordsR a most mk = ([], 2) := by rw [wordsR, if_neg (by rw [hc]; simp), if_pos h]
theorem wordsR_in {a : Au} {most : Int} {mk : Bool} {R : List (List Int × Int)} (hc : chkE a = 0) (h : ¬ (most < 0 ∨ 4096 < most)) (hR : genO a most = some R) : wordsR a most mk = (selL a.mr mk R, 0) := by rw [wordsR, if_neg (by rw [hc]; simp), if_neg h, hR]
end Go.Proofs.Ytcciiikaejjooaa
