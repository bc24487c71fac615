/- Texts merged: what follows were texts of their own. -/
import Derived.Test.YtaadhpkpekmfoaaGreatZa10
import Derived.Test.YtaadhpkpekmfoaaGreatZa9
import Derived.Test.YtaadhpkpekmfoaaGreatZa14
import Derived.Test.YtaadhpkpekmfoaaGreatZa15
import Derived.Test.YtaadhpkpekmfoaaGreatZa13
import Derived.Test.YtaadhpkpekmfoaaGreatZa6
import Derived.Deep.RegionHeld3
import Derived.Deep.CutRange
import Derived.BigQuiet
set_option linter.unusedVariables false
set_option linter.unusedSimpArgs false
set_option linter.unusedSectionVars false
/- Layer 7, the reference: has, sorted. -/
namespace Go.Proofs.YtaadhpkpekmfoaaGreat
open Go.RowKit Go.Sort

set_option maxHeartbeats 800000 in
theorem r7Has_any (A : Option Addr) (n c Bx : Nat) (zs : List Int) (x : Int) (w : World) (hx : RdI w Bx A zs) (hn : zs.length = n) (hb : n ≤ 140737488355328) :
    Calls Tryz.prog 49 #[.slice A n c, .int .i64 x] w fun e w' => e = .returned (.bool (decide (x ∈ zs))) ∧ w = w' := by
  have HN := Lib.hid hn
  clear hn
  go_enter Tryz.func49, Tryz.ntmps49
  go_wp2
  go_loop [5] (fun i => ∃ k : Nat, k ≤ n ∧ i = .int .i64 k ∧ Hid (x ∉ zs.take k)) (fun i => n - (intOf i).toNat)
  case atStart => exact ⟨0, Nat.zero_le _, rfl, by simp [Hid]⟩
  case round =>
    obtain ⟨k, hk, rfl, ht⟩ := hrel
    by_cases hlt : k < n
    · obtain ⟨b1, o1, rfl, _, hc1⟩ := hx (by rw [HN.out]; omega)
      have hz : k < zs.length := by rw [HN.out]; exact hlt
      have h1 := hc1 k hz
      obtain ⟨y, hye⟩ : ∃ y, y = zs.getD k 0 := ⟨_, rfl⟩
      rw [← hye] at h1
      clear hc1 hx
      by_cases hyx : y = x
      · have hr := Lib.hid (con_yes (x := x) hz (by rw [← hye]; exact hyx))
        have hb1 : (y == x) = true := by simpa using hyx
        clear hyx hye ht hz
        go_wp2
        go_ret
        exact ⟨ret_bool hr.out.symm, rfl⟩
      · have hr := Lib.hid (show x ∉ zs.take (k + 1) by rw [mem_snoc_take hz, not_or]; exact ⟨ht.out, by rw [← hye]; exact hyx⟩)
        have hb1 : (y == x) = false := by simpa using hyx
        clear hyx hye ht hz
        go_wp2
        go_round
        case rel => exact ⟨k + 1, by omega, by go_num, hr⟩
        case measure => simp [intOf]; omega
    · have hkn : k = n := by omega
      rw [hkn] at ht
      have hr := Lib.hid (con_no HN.out ht.out)
      clear hkn ht
      go_wp2
      go_ret
      exact ⟨ret_bool hr.out.symm, rfl⟩


/-- The states of a list below some number, in order. -/
def soR (l : List Int) (S : Nat) : List Int := (rng S).filter fun q => decide (q ∈ l)
theorem so_take_yes {l : List Int} {k : Nat} (h : (k : Int) ∈ l) : soR l (k + 1) = soR l k ++ [(k : Int)] := by
  unfold soR rng; rw [List.range_succ, List.map_append, List.filter_append]; simp [h]
theorem so_take_no {l : List Int} {k : Nat} (h : (k : Int) ∉ l) : soR l (k + 1) = soR l k := by
  unfold soR rng; rw [List.range_succ, List.map_append, List.filter_append]; simp [h]
theorem so_len (l : List Int) (k : Nat) : (soR l k).length ≤ k := by
  unfold soR; have := List.length_filter_le (fun q => decide (q ∈ l)) (rng k); rw [rng_len] at this; exact this
set_option maxHeartbeats 4000000 in
set_option maxRecDepth 100000 in
theorem r7Sorted_any (A : Option Addr) (n c S : Nat) (zs : List Int) (w : World) (hx : RdI w w.heap.size A zs) (hn : zs.length = n) (hb : n ≤ 1000000) (hS : S ≤ 4096) :
    Calls Tryz.prog 58 #[.slice A n c, .int .i64 (S : Int)] w fun e w' => ∃ v, e = .returned v ∧ Own w' w.heap.size v (soR zs S) ∧ Below w.heap.size w w' := by
  have HH := Lib.hid (fun W (hW : Below w.heap.size w W) (x : Int) => r7Has_any A n c w.heap.size zs x W (hx.below hW (Nat.le_refl _)) hn (by omega))
  obtain ⟨iI, iI0, iI1, iI2, iI3⟩ := info_parts info_int
  clear hx hn
  go_enter Tryz.func58, Tryz.ntmps58
  go_wp2_with fail
  go_loopw [5, 6] (fun v iv wr => ∃ k : Nat, k ≤ S ∧ iv = .int .i64 k ∧ Hid (Own wr w.heap.size v (soR zs k)) ∧ Hid (Below w.heap.size w wr)) (fun _ i _ => S - (intOf i).toNat)
  case atStart => exact ⟨0, Nat.zero_le _, rfl, Lib.hid (World.ownsRow_nil _ _ _ _), Lib.hid (Below.refl _ _)⟩
  case round =>
    obtain ⟨k, hk, rfl, hown, hbel⟩ := hrel
    by_cases hlt : k < S
    · have z0 : (k : Int) < (S : Int) := by omega
      have hbs := hbel.out.size
      have HC := Lib.hid (HH.out wr hbel.out (k : Int))
      have hlen := so_len zs k
      by_cases hm : (k : Int) ∈ zs
      · have HD := Lib.hid (decide_eq_true hm)
        have HY := Lib.hid (so_take_yes hm)
        clear hm
        go_wp2_with fail
        refine HC.out.mono ?_
        rintro e w2 ⟨rfl, rfl⟩
        rw [HD.out]
        go_wp2_with (at_builtin; refine wpList_append_own_at _ rfl _ _ 27 rfl w.heap.size 3 iI (.int .i64 0) 1 8 Tryz.underlying27 iI0 iI1 iI2 iI3 rfl (by decide) _ (soR zs k).length ((soR zs k).map (Value.int .i64)) rfl (hown.out.alloc _) ⟨wr.heap.size, 0, none⟩ 1 1 [.int .i64 (k : Int)] rfl rfl (news_one rfl) (by intro u hu; simp at hu; subst hu; rfl) (by unfold maxLen; omega) (by omega) (by simp; omega) ?_)
        intro v6 w6 hown6 hgrow6 _ _
        have hO := Lib.hid (show Own w6 w.heap.size v6 (soR zs (k + 1)) by rw [HY.out]; unfold Own; rw [List.length_append, List.map_append]; exact hown6)
        have hB := Lib.hid ((hbel.out.alloc hbs _).grown hgrow6 (by simp; omega) (fun j hj => (hown.out.lt j hj).1))
        clear hown6 hgrow6
        go_wp2_with fail
        go_roundw
        case rel => exact ⟨k + 1, by omega, by go_num, hO, hB⟩
        case measure => simp [intOf]; omega
      · have HD := Lib.hid (decide_eq_false hm)
        have HY := Lib.hid (so_take_no hm)
        clear hm
        go_wp2_with fail
        refine HC.out.mono ?_
        rintro e w2 ⟨rfl, rfl⟩
        rw [HD.out]
        go_wp2_with fail
        go_roundw
        case rel => exact ⟨k + 1, by omega, by go_num, by rw [HY.out]; exact hown, hbel⟩
        case measure => simp [intOf]; omega
    · obtain rfl : k = S := by omega
      have z0 : (k : Int) ≤ (k : Int) := by omega
      go_wp2_with fail
      go_ret
      exact ⟨_, rfl, hown.out, hbel.out⟩
end Go.Proofs.YtaadhpkpekmfoaaGreat

/- Layer 7, the reference: the events that are kept, and those that are erased. -/
namespace Go.Proofs.YtaadhpkpekmfoaaGreat
open Go.RowKit Go.Sort

theorem fl_take_yes {p : Int → Bool} {zs : List Int} {k : Nat} (h : k < zs.length) (hp : p (zs.getD k 0) = true) : (zs.take (k + 1)).filter p = (zs.take k).filter p ++ [zs.getD k 0] := by
  rw [List.take_succ_eq_append_getElem h, List.filter_append]
  have e : zs.getD k 0 = zs[k] := by simp [List.getD, List.getElem?_eq_getElem h]
  rw [e] at hp ⊢
  simp [hp]
theorem fl_take_no {p : Int → Bool} {zs : List Int} {k : Nat} (h : k < zs.length) (hp : p (zs.getD k 0) = false) : (zs.take (k + 1)).filter p = (zs.take k).filter p := by
  rw [List.take_succ_eq_append_getElem h, List.filter_append]
  have e : zs.getD k 0 = zs[k] := by simp [List.getD, List.getElem?_eq_getElem h]
  rw [e] at hp
  simp [hp]
theorem fl_take_le (p : Int → Bool) (zs : List Int) (k : Nat) : ((zs.take k).filter p).length ≤ k := Nat.le_trans (List.length_filter_le _ _) (List.length_take_le _ _)
set_option maxHeartbeats 4000000 in
set_option maxRecDepth 100000 in
theorem r7Kept_any (A : Option Addr) (n c : Nat) (s : Int) (M : Option Addr) (m d : Nat) (E : Option Addr) (k g : Nat) (a : Au) (A2 : Option Addr) (n2 c2 : Nat) (onto : List Int) (w : World) (h : AuR w w.heap.size A n c s M m d E k g a) (hx : RdI w w.heap.size A2 onto) (hn : onto.length = n2) (hb : n2 ≤ 100000) :
    Calls Tryz.prog 25 #[.agg #[.slice A n c, .int .i64 s, .slice M m d, .slice E k g], .slice A2 n2 c2] w fun e w' => ∃ v, e = .returned v ∧ Own w' w.heap.size v (kpR a onto) ∧ Below w.heap.size w w' := by
  have hb1 := (Below.refl w.heap.size w).alloc (Nat.le_refl _) (.cells #[.slice A n c, .int .i64 s, .slice M m d, .slice E k g] 33)
  have HB1 := Lib.hid hb1
  have HX := Lib.hid (BoxA.made w A n c s M m d E k g 33)
  have HH := Lib.hid (fun W (hW : Below w.heap.size w W) (x : Int) => r7Has_any A2 n2 c2 w.heap.size onto x W (hx.below hW (Nat.le_refl _)) hn (by omega))
  have HA := Lib.hid h.al
  have HN := Lib.hid h.hn
  have hbn := h.bn
  obtain ⟨iI, iI0, iI1, iI2, iI3⟩ := info_parts info_int
  obtain ⟨p, hpd⟩ : ∃ p : Int → Bool, p = (fun x => decide (x ∈ onto)) := ⟨_, rfl⟩
  have HP := Lib.hid hpd
  have HR := Lib.hid (show kpR a onto = a.al.filter p by rw [hpd]; rfl)
  rw [HR.out]
  clear h hx hn hb1 hpd
  go_enter Tryz.func25, Tryz.ntmps25
  go_wp2_with fail
  go_loopw [5, 6] (fun v iv wr => ∃ j : Nat, j ≤ n ∧ iv = .int .i64 j ∧ Hid (Own wr (w.heap.size + 1) v ((a.al.take j).filter p)) ∧ Hid (Below (w.heap.size + 1) (w.alloc (.cells #[.slice A n c, .int .i64 s, .slice M m d, .slice E k g] 33)) wr)) (fun _ i _ => n - (intOf i).toNat)
  case atStart => exact ⟨0, Nat.zero_le _, rfl, Lib.hid (World.ownsRow_nil _ _ _ _), Lib.hid (Below.refl _ _)⟩
  case round =>
    obtain ⟨j, hj, rfl, hown, hbel1⟩ := hrel
    have hbel := Lib.hid (HB1.out.trans (hbel1.out.mono (Nat.le_succ _)))
    have hbs := hbel1.out.size
    rw [World.size_alloc] at hbs
    obtain ⟨p0, p1, p2, p3⟩ := HX.out.below hbel1.out (Nat.lt_succ_self _)
    by_cases hlt : j < n
    · obtain ⟨b, o, rfl, hb, hc⟩ := HA.out (by rw [HN.out]; omega)
      have hz : j < a.al.length := by rw [HN.out]; exact hlt
      have hc1 := (hbel.out.cell (p := ⟨b, o + j, none⟩) hb).trans (hc j hz)
      obtain ⟨x, hxe⟩ : ∃ x, x = a.al.getD j 0 := ⟨_, rfl⟩
      rw [← hxe] at hc1
      have HC := Lib.hid (HH.out wr hbel.out x)
      have hlen := fl_take_le p a.al j
      have z0 : (j : Int) < (n : Int) := by omega
      have z1 : (0 : Int) ≤ (j : Int) := by omega
      obtain ⟨r, hr⟩ : ∃ r, decide (x ∈ onto) = r := ⟨_, rfl⟩
      rw [hr] at HC
      have hpx : p x = r := by rw [HP.out, ← hr]
      have hY : p (a.al.getD j 0) = true → (a.al.take (j + 1)).filter p = (a.al.take j).filter p ++ [x] := fun hy => by rw [hxe]; exact fl_take_yes hz hy
      have hNo : p (a.al.getD j 0) = false → (a.al.take (j + 1)).filter p = (a.al.take j).filter p := fun hy => fl_take_no hz hy
      rw [← hxe] at hY hNo
      have HYY := Lib.hid hY
      have HNN := Lib.hid hNo
      have HPX := Lib.hid hpx
      clear hc hz hxe hr hpx hY hNo
      cases r
      · have hk := Lib.hid (HNN.out HPX.out)
        go_wp2_with fail
        refine HC.out.mono ?_
        rintro e w2 ⟨rfl, rfl⟩
        go_wp2_with fail
        go_roundw
        case rel => exact ⟨j + 1, by omega, by go_num, by rw [hk.out]; exact hown, hbel1⟩
        case measure => simp [intOf]; omega
      · have hk := Lib.hid (HYY.out HPX.out)
        obtain ⟨l, hl⟩ : ∃ l, l = ((a.al.take j).filter p).length := ⟨_, rfl⟩
        have hown' := hown.out
        rw [← hl] at hlen
        have HL := Lib.hid hl
        unfold Own at hown'
        rw [← hl] at hown'
        have HOW := Lib.hid hown'
        clear hl hown'
        go_wp2_with fail
        refine HC.out.mono ?_
        rintro e w2 ⟨rfl, rfl⟩
        go_wp2_with (at_builtin; refine wpList_append_own_at _ rfl _ _ 27 rfl (w.heap.size + 1) 3 iI (.int .i64 0) 1 8 Tryz.underlying27 iI0 iI1 iI2 iI3 rfl (by decide) _ l (((a.al.take j).filter p).map (Value.int .i64)) rfl (HOW.out.alloc _) ⟨wr.heap.size, 0, none⟩ 1 1 [.int .i64 x] rfl rfl (news_one rfl) (by intro u hu; simp at hu; subst hu; rfl) (by unfold maxLen; omega) (by omega) (by simp; omega) ?_)
        intro v6 w6 hown6 hgrow6 _ _
        have hO := Lib.hid (show Own w6 (w.heap.size + 1) v6 ((a.al.take (j + 1)).filter p) by rw [hk.out]; unfold Own; rw [List.length_append, List.map_append, ← HL.out]; exact hown6)
        have hB := Lib.hid ((hbel1.out.alloc (by omega) _).grown hgrow6 (by simp; omega) (fun i hi => (hown.out.lt i hi).1))
        clear hown6 hgrow6
        go_wp2_with fail
        go_roundw
        case rel => exact ⟨j + 1, by omega, by go_num, hO, hB⟩
        case measure => simp [intOf]; omega
    · have hF0 : a.al.take j = a.al := List.take_of_length_le (by rw [HN.out]; omega)
      rw [hF0] at hown
      have z0 : (n : Int) ≤ (j : Int) := by omega
      go_wp2_with fail
      go_ret
      exact ⟨_, rfl, own_moreR hown.out (Nat.le_succ _), hbel.out⟩
set_option maxHeartbeats 4000000 in
set_option maxRecDepth 100000 in
theorem r7Erased_any (A : Option Addr) (n c : Nat) (s : Int) (M : Option Addr) (m d : Nat) (E : Option Addr) (k g : Nat) (a : Au) (A2 : Option Addr) (n2 c2 : Nat) (onto : List Int) (w : World) (h : AuR w w.heap.size A n c s M m d E k g a) (hx : RdI w w.heap.size A2 onto) (hn : onto.length = n2) (hb : n2 ≤ 100000) :
    Calls Tryz.prog 61 #[.agg #[.slice A n c, .int .i64 s, .slice M m d, .slice E k g], .slice A2 n2 c2] w fun e w' => ∃ v, e = .returned v ∧ Own w' w.heap.size v (erR a onto) ∧ Below w.heap.size w w' := by
  have hb1 := (Below.refl w.heap.size w).alloc (Nat.le_refl _) (.cells #[.slice A n c, .int .i64 s, .slice M m d, .slice E k g] 33)
  have HB1 := Lib.hid hb1
  have HX := Lib.hid (BoxA.made w A n c s M m d E k g 33)
  have HH := Lib.hid (fun W (hW : Below w.heap.size w W) (x : Int) => r7Has_any A2 n2 c2 w.heap.size onto x W (hx.below hW (Nat.le_refl _)) hn (by omega))
  have HA := Lib.hid h.al
  have HN := Lib.hid h.hn
  have hbn := h.bn
  obtain ⟨iI, iI0, iI1, iI2, iI3⟩ := info_parts info_int
  obtain ⟨p, hpd⟩ : ∃ p : Int → Bool, p = (fun x => !decide (x ∈ onto)) := ⟨_, rfl⟩
  have HP := Lib.hid hpd
  have HR := Lib.hid (show erR a onto = a.al.filter p by rw [hpd]; rfl)
  rw [HR.out]
  clear h hx hn hb1 hpd
  go_enter Tryz.func61, Tryz.ntmps61
  go_wp2_with fail
  go_loopw [5, 6] (fun v iv wr => ∃ j : Nat, j ≤ n ∧ iv = .int .i64 j ∧ Hid (Own wr (w.heap.size + 1) v ((a.al.take j).filter p)) ∧ Hid (Below (w.heap.size + 1) (w.alloc (.cells #[.slice A n c, .int .i64 s, .slice M m d, .slice E k g] 33)) wr)) (fun _ i _ => n - (intOf i).toNat)
  case atStart => exact ⟨0, Nat.zero_le _, rfl, Lib.hid (World.ownsRow_nil _ _ _ _), Lib.hid (Below.refl _ _)⟩
  case round =>
    obtain ⟨j, hj, rfl, hown, hbel1⟩ := hrel
    have hbel := Lib.hid (HB1.out.trans (hbel1.out.mono (Nat.le_succ _)))
    have hbs := hbel1.out.size
    rw [World.size_alloc] at hbs
    obtain ⟨p0, p1, p2, p3⟩ := HX.out.below hbel1.out (Nat.lt_succ_self _)
    by_cases hlt : j < n
    · obtain ⟨b, o, rfl, hb, hc⟩ := HA.out (by rw [HN.out]; omega)
      have hz : j < a.al.length := by rw [HN.out]; exact hlt
      have hc1 := (hbel.out.cell (p := ⟨b, o + j, none⟩) hb).trans (hc j hz)
      obtain ⟨x, hxe⟩ : ∃ x, x = a.al.getD j 0 := ⟨_, rfl⟩
      rw [← hxe] at hc1
      have HC := Lib.hid (HH.out wr hbel.out x)
      have hlen := fl_take_le p a.al j
      have z0 : (j : Int) < (n : Int) := by omega
      have z1 : (0 : Int) ≤ (j : Int) := by omega
      obtain ⟨r, hr⟩ : ∃ r, decide (x ∈ onto) = r := ⟨_, rfl⟩
      rw [hr] at HC
      have hpx : p x = !r := by rw [HP.out, ← hr]
      have hY : p (a.al.getD j 0) = true → (a.al.take (j + 1)).filter p = (a.al.take j).filter p ++ [x] := fun hy => by rw [hxe]; exact fl_take_yes hz hy
      have hNo : p (a.al.getD j 0) = false → (a.al.take (j + 1)).filter p = (a.al.take j).filter p := fun hy => fl_take_no hz hy
      rw [← hxe] at hY hNo
      have HYY := Lib.hid hY
      have HNN := Lib.hid hNo
      have HPX := Lib.hid hpx
      clear hc hz hxe hr hpx hY hNo
      cases r
      · have hk := Lib.hid (HYY.out HPX.out)
        obtain ⟨l, hl⟩ : ∃ l, l = ((a.al.take j).filter p).length := ⟨_, rfl⟩
        have hown' := hown.out
        rw [← hl] at hlen
        have HL := Lib.hid hl
        unfold Own at hown'
        rw [← hl] at hown'
        have HOW := Lib.hid hown'
        clear hl hown'
        go_wp2_with fail
        refine HC.out.mono ?_
        rintro e w2 ⟨rfl, rfl⟩
        go_wp2_with (at_builtin; refine wpList_append_own_at _ rfl _ _ 27 rfl (w.heap.size + 1) 3 iI (.int .i64 0) 1 8 Tryz.underlying27 iI0 iI1 iI2 iI3 rfl (by decide) _ l (((a.al.take j).filter p).map (Value.int .i64)) rfl (HOW.out.alloc _) ⟨wr.heap.size, 0, none⟩ 1 1 [.int .i64 x] rfl rfl (news_one rfl) (by intro u hu; simp at hu; subst hu; rfl) (by unfold maxLen; omega) (by omega) (by simp; omega) ?_)
        intro v6 w6 hown6 hgrow6 _ _
        have hO := Lib.hid (show Own w6 (w.heap.size + 1) v6 ((a.al.take (j + 1)).filter p) by rw [hk.out]; unfold Own; rw [List.length_append, List.map_append, ← HL.out]; exact hown6)
        have hB := Lib.hid ((hbel1.out.alloc (by omega) _).grown hgrow6 (by simp; omega) (fun i hi => (hown.out.lt i hi).1))
        clear hown6 hgrow6
        go_wp2_with fail
        go_roundw
        case rel => exact ⟨j + 1, by omega, by go_num, hO, hB⟩
        case measure => simp [intOf]; omega
      · have hk := Lib.hid (HNN.out HPX.out)
        go_wp2_with fail
        refine HC.out.mono ?_
        rintro e w2 ⟨rfl, rfl⟩
        go_wp2_with fail
        go_roundw
        case rel => exact ⟨j + 1, by omega, by go_num, by rw [hk.out]; exact hown, hbel1⟩
        case measure => simp [intOf]; omega
    · have hF0 : a.al.take j = a.al := List.take_of_length_le (by rw [HN.out]; omega)
      rw [hF0] at hown
      have z0 : (n : Int) ≤ (j : Int) := by omega
      go_wp2_with fail
      go_ret
      exact ⟨_, rfl, own_moreR hown.out (Nat.le_succ _), hbel.out⟩
end Go.Proofs.YtaadhpkpekmfoaaGreat

/- Layer 7: Observe of the reference. -/
namespace Go.Proofs.YtaadhpkpekmfoaaGreat
open Go.RowKit Go.Sort

set_option maxHeartbeats 4000000 in
set_option maxRecDepth 100000 in
theorem r7Observe_any (A2 : Option Addr) (n2 c2 : Nat) (onto : List Int) (A : Option Addr) (n c : Nat) (ws : List Int) (w : World) (hx : RdI w w.heap.size A2 onto) (hn : onto.length = n2) (hb : n2 ≤ 100000) (hw : RdI w w.heap.size A ws) (hwn : ws.length = n) (hbn : n ≤ 100000) :
    Calls Tryz.prog 34 #[.slice A2 n2 c2, .slice A n c] w fun e w' => ∃ v, e = .returned v ∧ Own w' w.heap.size v (ws.filter fun x => decide (x ∈ onto)) ∧ Below w.heap.size w w' := by
  have HH := Lib.hid (fun W (hW : Below w.heap.size w W) (x : Int) => r7Has_any A2 n2 c2 w.heap.size onto x W (hx.below hW (Nat.le_refl _)) hn (by omega))
  have HA := Lib.hid hw
  have HN := Lib.hid hwn
  obtain ⟨iI, iI0, iI1, iI2, iI3⟩ := info_parts info_int
  obtain ⟨p, hpd⟩ : ∃ p : Int → Bool, p = (fun x => decide (x ∈ onto)) := ⟨_, rfl⟩
  have HP := Lib.hid hpd
  rw [← hpd]
  clear hx hn hpd hw hwn
  go_enter Tryz.func34, Tryz.ntmps34
  go_wp2_with fail
  go_loopw [5, 6] (fun v iv wr => ∃ j : Nat, j ≤ n ∧ iv = .int .i64 j ∧ Hid (Own wr w.heap.size v ((ws.take j).filter p)) ∧ Hid (Below w.heap.size w wr)) (fun _ i _ => n - (intOf i).toNat)
  case atStart => exact ⟨0, Nat.zero_le _, rfl, Lib.hid (World.ownsRow_nil _ _ _ _), Lib.hid (Below.refl _ _)⟩
  case round =>
    obtain ⟨j, hj, rfl, hown, hbel1⟩ := hrel
    have hbel := hbel1
    have hbs := hbel1.out.size
    by_cases hlt : j < n
    · obtain ⟨b, o, rfl, hb, hc⟩ := HA.out (by rw [HN.out]; omega)
      have hz : j < ws.length := by rw [HN.out]; exact hlt
      have hc1 := (hbel.out.cell (p := ⟨b, o + j, none⟩) hb).trans (hc j hz)
      obtain ⟨x, hxe⟩ : ∃ x, x = ws.getD j 0 := ⟨_, rfl⟩
      rw [← hxe] at hc1
      have HC := Lib.hid (HH.out wr hbel.out x)
      have hlen := fl_take_le p ws j
      have z0 : (j : Int) < (n : Int) := by omega
      have z1 : (0 : Int) ≤ (j : Int) := by omega
      obtain ⟨r, hr⟩ : ∃ r, decide (x ∈ onto) = r := ⟨_, rfl⟩
      rw [hr] at HC
      have hpx : p x = r := by rw [HP.out, ← hr]
      have hY : p (ws.getD j 0) = true → (ws.take (j + 1)).filter p = (ws.take j).filter p ++ [x] := fun hy => by rw [hxe]; exact fl_take_yes hz hy
      have hNo : p (ws.getD j 0) = false → (ws.take (j + 1)).filter p = (ws.take j).filter p := fun hy => fl_take_no hz hy
      rw [← hxe] at hY hNo
      have HYY := Lib.hid hY
      have HNN := Lib.hid hNo
      have HPX := Lib.hid hpx
      clear hc hz hxe hr hpx hY hNo
      cases r
      · have hk := Lib.hid (HNN.out HPX.out)
        go_wp2_with fail
        refine HC.out.mono ?_
        rintro e w2 ⟨rfl, rfl⟩
        go_wp2_with fail
        go_roundw
        case rel => exact ⟨j + 1, by omega, by go_num, by rw [hk.out]; exact hown, hbel1⟩
        case measure => simp [intOf]; omega
      · have hk := Lib.hid (HYY.out HPX.out)
        obtain ⟨l, hl⟩ : ∃ l, l = ((ws.take j).filter p).length := ⟨_, rfl⟩
        have hown' := hown.out
        rw [← hl] at hlen
        have HL := Lib.hid hl
        unfold Own at hown'
        rw [← hl] at hown'
        have HOW := Lib.hid hown'
        clear hl hown'
        go_wp2_with fail
        refine HC.out.mono ?_
        rintro e w2 ⟨rfl, rfl⟩
        go_wp2_with (at_builtin; refine wpList_append_own_at _ rfl _ _ 27 rfl w.heap.size 3 iI (.int .i64 0) 1 8 Tryz.underlying27 iI0 iI1 iI2 iI3 rfl (by decide) _ l (((ws.take j).filter p).map (Value.int .i64)) rfl (HOW.out.alloc _) ⟨wr.heap.size, 0, none⟩ 1 1 [.int .i64 x] rfl rfl (news_one rfl) (by intro u hu; simp at hu; subst hu; rfl) (by unfold maxLen; omega) (by omega) (by simp; omega) ?_)
        intro v6 w6 hown6 hgrow6 _ _
        have hO := Lib.hid (show Own w6 (w.heap.size) v6 ((ws.take (j + 1)).filter p) by rw [hk.out]; unfold Own; rw [List.length_append, List.map_append, ← HL.out]; exact hown6)
        have hB := Lib.hid ((hbel1.out.alloc (by omega) _).grown hgrow6 (by simp; omega) (fun i hi => (hown.out.lt i hi).1))
        clear hown6 hgrow6
        go_wp2_with fail
        go_roundw
        case rel => exact ⟨j + 1, by omega, by go_num, hO, hB⟩
        case measure => simp [intOf]; omega
    · have hF0 : ws.take j = ws := List.take_of_length_le (by rw [HN.out]; omega)
      rw [hF0] at hown
      have z0 : (n : Int) ≤ (j : Int) := by omega
      go_wp2_with fail
      go_ret
      exact ⟨_, rfl, hown.out, hbel.out⟩
end Go.Proofs.YtaadhpkpekmfoaaGreat

/- Layer 3: Complete and Closed of the reference. -/
namespace Go.Proofs.YtaadhpkpekmfoaaGreat

section
open Go.RowKit Go.Sort
theorem toC_none {a : Au} {q ev : Int} (h : stepO a q ev = none) : toC a q ev = a.st := by rw [toC, h]; rfl
theorem toC_some {a : Au} {q ev t : Int} (h : stepO a q ev = some t) : toC a q ev = t := by rw [toC, h]; rfl

end

section
open Go.RowKit Go.Sort
end
end Go.Proofs.YtaadhpkpekmfoaaGreat

/- Layer 3: bytes that came in; Complete, Closed, Same, Relabel in a law's walk. -/
namespace Go.Proofs.YtaadhpkpekmfoaaGreat

section
open Go.ChangeShapes Go.WideShapes Go.ChangeAt Go.RowKit Go.Deep
/-- A slice's address leads, below block B, to cells that hold these bytes (asked only where there are any). -/
def RdB (w : World) (B : Nat) (A : Option Addr) (zs : List Int) : Prop :=
  0 < zs.length → ∃ b off, A = some ⟨b, off, none⟩ ∧ b < B ∧ ∀ j, j < zs.length → w.cell? ⟨b, off + j, none⟩ = some (.int .u8 (zs.getD j 0))
variable {H : Type} {enc : TypeId × Value → H} {W : World} {a0 : Option Addr} {len cap : Nat} {d : DataW H} {p : List MemPlace}
set_option maxRecDepth 8000 in
theorem open_rdB (h : DataW.Trod enc Tryz.prog W 0 (fun _ => true) true 158 (.slice a0 len cap) d p) (hlt : ∀ x ∈ p, x.block < W.heap.size) :
    ∃ zs : List Int, zs.length = len ∧ RdB W W.heap.size a0 zs ∧ (∀ z ∈ zs, (Lit.int .u8 z).wf = true) ∧ len ≤ maxLen := by
  obtain ⟨fuel, hf⟩ := h
  rcases open_ints Tryz.underlying158 Tryz.underlying5 (by kernel_rfl) hf with ⟨hcs, _⟩ | ⟨a, l, c, zs, hcs, _, hl, hm, hz, hx, hcell, hwz⟩
  · simp [Value.cells] at hcs
    obtain ⟨rfl, rfl, rfl⟩ := hcs
    exact ⟨[], rfl, fun h => absurd h (by simp), by simp, by unfold maxLen; omega⟩
  · simp [Value.cells] at hcs
    obtain ⟨rfl, rfl, rfl⟩ := hcs
    simp only [Prod.mk.injEq] at hx
    obtain ⟨rfl, rfl⟩ := hx
    simp only [if_true] at hz
    refine ⟨zs.take len, by rw [List.length_take]; omega, fun h0 => ?_, fun z hz' => hwz z (List.mem_of_mem_take hz'), by omega⟩
    rw [List.length_take] at h0
    obtain ⟨b, off, spot⟩ := a
    have hspot : spot = none := by simpa [Addr.add] using World.cell?_spot (hcell 0 (by omega))
    subst hspot
    refine ⟨b, off, rfl, hlt (.cell b off) (MemPlace.mem_row.2 ⟨0, by omega, by simp⟩), fun j hj => ?_⟩
    rw [List.length_take] at hj
    rw [← add_plain, hcell j (by omega)]
    simp [List.getD, show j < len by omega]
end
section
open Go.RowKit Go.Sort
theorem wf_u8 {z : Int} (h : (Lit.int .u8 z).wf = true) : 0 ≤ z ∧ z < 256 := by
  have h1 : IntKind.u8.min = 0 := rfl
  have h2 : IntKind.u8.max = 255 := rfl
  simp only [Lit.wf, Bool.and_eq_true, decide_eq_true_eq] at h
  omega
section
variable {W w : World} {l : List (Nat × List Value)} {A : Option Addr} {n c : Nat} {s : Int} {M : Option Addr} {m d : Nat} {E : Option Addr} {k g : Nat} {a : Au}
theorem k_gives {f : FuncId} {args : Array Value} {x : Au} {u : Int} {r : Au × Int} (hc : Calls Tryz.prog f args w fun e w' => GivesA w r e w') (hr : r = (x, u)) (h : LW W l w) : Calls Tryz.prog f args w fun e w' => ∃ A n c s M m d E k g, e = .returned (.tuple #[.agg #[.slice A n c, .int .i64 s, .slice M m d, .slice E k g], .int .i64 u]) ∧ AuR w' w'.heap.size A n c s M m d E k g x ∧ KW W l w w' :=
  hc.mono fun e w' hh => by
    subst hr
    obtain ⟨v, e1, ⟨A, n, c, s, M, m, d, E, k, g, rfl, hr, _⟩, hb⟩ := hh
    exact ⟨A, n, c, s, M, m, d, E, k, g, e1, hr, KW.of h hb⟩
theorem k_auf {f : FuncId} {args : Array Value} {x : Au} (hc : Calls Tryz.prog f args w fun e w' => ∃ v, e = .returned v ∧ AuF x v w' w.heap.size ∧ Below w.heap.size w w') (h : LW W l w) : Calls Tryz.prog f args w fun e w' => ∃ A n c s M m d E k g, e = .returned (.agg #[.slice A n c, .int .i64 s, .slice M m d, .slice E k g]) ∧ AuR w' w'.heap.size A n c s M m d E k g x ∧ KW W l w w' :=
  hc.mono fun e w' hh => by
    obtain ⟨v, e1, ⟨A, n, c, s, M, m, d, E, k, g, rfl, hr, _⟩, hb⟩ := hh
    exact ⟨A, n, c, s, M, m, d, E, k, g, e1, hr, KW.of h hb⟩
theorem k_rsame {b : Au} (A2 : Option Addr) (n2 c2 : Nat) (s2 : Int) (M2 : Option Addr) (m2 d2 : Nat) (E2 : Option Addr) (k2 g2 : Nat) {r : Bool} (hr : decide (a = b) = r) (ha : AuR w w.heap.size A n c s M m d E k g a) (hb : AuR w w.heap.size A2 n2 c2 s2 M2 m2 d2 E2 k2 g2 b) (h : LW W l w) : Calls Tryz.prog 16 #[.agg #[.slice A n c, .int .i64 s, .slice M m d, .slice E k g], .agg #[.slice A2 n2 c2, .int .i64 s2, .slice M2 m2 d2, .slice E2 k2 g2]] w fun e w' => e = .returned (.bool r) ∧ KW W l w w' := by
  have := kw_call (rSame_any A n c s M m d E k g A2 n2 c2 s2 M2 m2 d2 E2 k2 g2 a b w.heap.size w ha hb (Nat.le_refl _)) h
  rw [hr] at this; exact this
end
theorem AuR.dr {w : World} {B : Nat} {A : Option Addr} {n c : Nat} {s : Int} {M : Option Addr} {m d : Nat} {E : Option Addr} {k g : Nat} {a : Au} (h : AuR w B A n c s M m d E k g a) : AuR w.drew B A n c s M m d E k g a := h.keep fun _ _ _ => rfl
theorem AuR.drh {w : World} {A : Option Addr} {n c : Nat} {s : Int} {M : Option Addr} {m d : Nat} {E : Option Addr} {k g : Nat} {a : Au} (h : AuR w w.heap.size A n c s M m d E k g a) : AuR w.drew w.drew.heap.size A n c s M m d E k g a := h.dr
theorem cls_right {a : Au} (h : RightW a) : RightW (clsA a) where
  alr := (can_right h).alr
  alo := (can_right h).alo
  st0 := (can_right h).st0
  mrr x hx := by
    obtain ⟨i, hi, rfl⟩ := List.mem_map.1 (show x ∈ (List.range (fnd a).length).map _ from hx)
    have := List.mem_range.1 hi
    exact ⟨by omega, by show (i : Int) < ((fnd a).length : Int); omega⟩
  mro := by show (rng _).Pairwise _; unfold rng; rw [List.pairwise_map]; exact List.pairwise_lt_range.imp fun h => by omega
  edr := (can_right h).edr
  edo := (can_right h).edo
theorem cls_chk {a : Au} (h : RightW a) (hs : a.st ≤ 5) : chkE (clsA a) = 0 :=
  Right.chk { cls_right h with st1 := by have := fnd_len h; have := h.st0; show ((fnd a).length : Int) ≤ 4096; omega }
theorem comp_chk {a : Au} (h : RightW a) (hs : a.st ≤ 5) : chkE (canA (compA a)) = 0 := by
  have hc := comp_right h
  refine Right.chk { can_right hc with st1 := ?_ }
  have h1 := fnd_len hc
  have h2 := h.st0
  have h3 : (compA a).st = a.st + 1 := rfl
  show ((fnd (compA a)).length : Int) ≤ 4096
  omega
end
end Go.Proofs.YtaadhpkpekmfoaaGreat

/- Layer 7: what came in: a list's length and capacity. -/
namespace Go.Proofs.YtaadhpkpekmfoaaGreat
open Go.ChangeShapes Go.WideShapes Go.ChangeAt Go.RowKit
section
variable {H : Type} {enc : TypeId × Value → H} {W : World} {base : Nat} {v : Value} {d : DataW H} {p : List MemPlace}
theorem cap2_ints {a0 : Option Addr} {len cap : Nat} (h : DataW.Trod enc Tryz.prog W 0 (fun _ => true) true 27 (.slice a0 len cap) d p) (hlt : ∀ x ∈ p, x.block < W.heap.size) : len ≤ cap ∧ cap ≤ 9223372036854775807 := by
  obtain ⟨fuel, hf⟩ := h
  obtain ⟨A, n, c, z, S⟩ := open_sl (c := .slice a0 len cap) hf hlt
  have e := S.eq
  injection e with e1 e2 e3
  subst e1 e2 e3
  exact ⟨S.cap, S.top⟩
theorem open_set1 {n : Nat} {c : Value} {y : DataW H × List MemPlace} (hf : DataW.trod enc Tryz.prog W 0 (fun _ => true) true n 22 [c] = some y) : ∃ z, c = .int .u8 z ∧ (Lit.int .u8 z).wf = true := by
  obtain ⟨q, e, _, hq⟩ := DataW.trod_int Tryz.underlying22 hf
  simp at e
  exact ⟨q, e, hq⟩
end
end Go.Proofs.YtaadhpkpekmfoaaGreat

/- Layer 7: the functions' contracts in a law's walk over graphs. -/
namespace Go.Proofs.YtaadhpkpekmfoaaGreat
open Go.RowKit Go.Sort

theorem cs_mk {m : Int} {zs : List Int} (h1 : ∀ x ∈ zs, 0 ≤ x ∧ x < m) (h2 : zs.Pairwise (· < ·)) : csE m zs = 0 := csGo_mk zs none h1 h2 (fun _ h => by cases h)
theorem Ev5.cs {zs : List Int} (h : Ev5 5 zs) : csE 32 zs = 0 := cs_mk (fun x hx => by have := h.r x hx; omega) h.o
theorem chk_list7 (zs : List Int) : chkE ⟨zs, 0, [], []⟩ = csE 32 zs := by
  unfold chkE
  by_cases h : csE 32 zs = 0
  · rw [if_neg (by simpa using h)]
    simp [csE, csGo, egE, egGo, h]
    exact h.symm
  · rw [if_pos h]
theorem cwe_ok {a : Au} {zs : List Int} (h : chkE a = 0) (hz : csE 32 zs = 0) : cweE a zs = 0 := by
  unfold cweE
  rw [fstE, if_neg (by simpa using h), fstE, chk_list7, if_neg (by simpa using hz), fstE]
theorem cst_ok {S : Int} {zs : List Int} (h0 : 0 ≤ S) (h1 : S ≤ 4096) : cstE S zs = csE S zs := by
  unfold cstE chkE
  rw [if_neg (by simp [csE, csGo]), if_neg (by simp; omega), if_neg (by simp; omega)]
  by_cases h : csE S zs = 0
  · rw [if_neg (by simpa using h), h]
    simp [egE, egGo]
  · rw [if_pos h]
theorem rch_ok {a : Au} {fr ev : List Int} (h : cweE a ev = 0) : rchE a fr ev = cstE a.st fr := by
  unfold rchE
  rw [fstE, if_neg (by simpa using h), fstE]
  by_cases h2 : cstE a.st fr = 0
  · rw [if_neg (by simpa using h2), fstE, h2]
  · rw [if_pos h2]
theorem det_few {a : Au} (h : RightW a) (hs : a.st ≤ 5) (onto : List Int) : (fnd (detA a onto)).length ≤ 32 := by
  have h1 := fnd_len (det_right h onto)
  have h0 := h.st0
  unfold detA at h1 ⊢
  by_cases hz : a.st = 0
  · rw [if_pos hz] at h1 ⊢
    simp at h1
    simp [h1]
  · rw [if_neg hz] at h1 ⊢
    have h2 : (codA (detC a onto)).st = ((prT (twos a.st.toNat)).toNat : Int) := rfl
    rw [h2] at h1
    have h3 : prT (twos a.st.toNat) ≤ 32 := by
      obtain ⟨n, hn⟩ : ∃ n, n = a.st.toNat := ⟨_, rfl⟩
      rw [← hn]
      have : n ≤ 5 := by omega
      match n, this with
      | 0, _ => decide
      | 1, _ => decide
      | 2, _ => decide
      | 3, _ => decide
      | 4, _ => decide
      | 5, _ => decide
      | n + 6, h => exact absurd h (by omega)
    omega
section
variable {W w : World} {l : List (Nat × List Value)} {A : Option Addr} {n c : Nat} {s : Int} {M : Option Addr} {m d : Nat} {E : Option Addr} {k g : Nat} {a : Au} {A2 : Option Addr} {n2 c2 : Nat} {A3 : Option Addr} {n3 c3 : Nat} {fr ev ob : List Int}
/-- A list that a call hands back, of the call's own. -/
structure GL7 (w w' : World) (A : Option Addr) (n c : Nat) (zs : List Int) : Prop where
  len : zs.length = n
  cap : n ≤ c ∧ c ≤ 9223372036854775807
  rd : RdI w' w'.heap.size A zs
  own : Own w' w.heap.size (.slice A n c) zs
theorem gl7_of {v : Value} {w' : World} {zs : List Int} (h : Own w' w.heap.size v zs) : ∃ A n c, v = .slice A n c ∧ GL7 w w' A n c zs := by
  obtain ⟨A, c, rfl, h1, h2, h3⟩ := own_rdc h
  exact ⟨A, _, c, rfl, rfl, ⟨h2, h3⟩, h1, h⟩
theorem k_jreach {u : Int} {L : List Int} (hu : rchE a fr ev = u) (hL : (if u = 0 then reR a ev fr else []) = L) (ha : AuR w w.heap.size A n c s M m d E k g a) (hx : RdI w w.heap.size A2 fr) (hn : fr.length = n2) (hc : n2 ≤ c2 ∧ c2 ≤ 9223372036854775807) (hb : n2 ≤ 100000)
    (hx3 : RdI w w.heap.size A3 ev) (hn3 : ev.length = n3) (hc3 : n3 ≤ c3 ∧ c3 ≤ 9223372036854775807) (hb3 : n3 ≤ 100000) (h : LW W l w) :
    Calls Tryz.prog 20 #[.agg #[.slice A n c, .int .i64 s, .slice M m d, .slice E k g], .slice A2 n2 c2, .slice A3 n3 c3] w fun e w' => ∃ A n c, e = .returned (.tuple #[.slice A n c, .int .i64 u]) ∧ GL7 w w' A n c L ∧ KW W l w w' := by
  subst hu hL
  refine (jReach_any A n c s M m d E k g a A2 n2 c2 fr A3 n3 c3 ev w ha hx hn hc hb hx3 hn3 hc3 hb3).mono ?_
  rintro e w' ⟨v, he, ho, hb⟩
  obtain ⟨A, n, c, rfl, h1⟩ := gl7_of ho
  exact ⟨A, n, c, he, h1, KW.of h hb⟩
theorem k_jnext {x : Int} {u : Int} {L : List Int} (hu : nextE a ev fr x = u) (hL : (if u = 0 then nxR a ev fr x else []) = L) (ha : AuR w w.heap.size A n c s M m d E k g a) (hx : RdI w w.heap.size A2 fr) (hn : fr.length = n2) (hc : n2 ≤ c2 ∧ c2 ≤ 9223372036854775807) (hb : n2 ≤ 100000)
    (hx3 : RdI w w.heap.size A3 ev) (hn3 : ev.length = n3) (hc3 : n3 ≤ c3 ∧ c3 ≤ 9223372036854775807) (hb3 : n3 ≤ 100000) (h : LW W l w) :
    Calls Tryz.prog 23 #[.agg #[.slice A n c, .int .i64 s, .slice M m d, .slice E k g], .slice A3 n3 c3, .slice A2 n2 c2, .int .i64 x] w fun e w' => ∃ A n c, e = .returned (.tuple #[.slice A n c, .int .i64 u]) ∧ GL7 w w' A n c L ∧ KW W l w w' := by
  subst hu hL
  refine (jNextP_any A n c s M m d E k g A3 n3 c3 a ev A2 n2 c2 fr x w ha hx hn hc hb hx3 hn3 hc3 hb3).mono ?_
  rintro e w' ⟨hb, v, he, ho⟩
  obtain ⟨A, n, c, rfl, h1⟩ := gl7_of ho
  exact ⟨A, n, c, he, h1, KW.of h hb⟩
theorem k_jest {u : Int} {L : List Int} (hu : estE a ev ob = u) (hL : (if u = 0 then esR a ev ob else []) = L) (ha : AuR w w.heap.size A n c s M m d E k g a) (hx : RdI w w.heap.size A2 ob) (hn : ob.length = n2) (hb : n2 ≤ 100000)
    (hx3 : RdI w w.heap.size A3 ev) (hn3 : ev.length = n3) (hc3 : n3 ≤ c3 ∧ c3 ≤ 9223372036854775807) (hb3 : n3 ≤ 100000) (h : LW W l w) :
    Calls Tryz.prog 27 #[.agg #[.slice A n c, .int .i64 s, .slice M m d, .slice E k g], .slice A3 n3 c3, .slice A2 n2 c2] w fun e w' => ∃ A n c, e = .returned (.tuple #[.slice A n c, .int .i64 u]) ∧ GL7 w w' A n c L ∧ KW W l w w' := by
  subst hu hL
  refine (jEstimate_any A n c s M m d E k g A3 n3 c3 a ev A2 n2 c2 ob w ha hx3 hn3 hc3 hb3 hx hn hb).mono ?_
  rintro e w' ⟨hb, v, he, ho⟩
  obtain ⟨A, n, c, rfl, h1⟩ := gl7_of ho
  exact ⟨A, n, c, he, h1, KW.of h hb⟩
/-- The lists that Project hands back. -/
structure GV7 (w' : World) (V : Option Addr) (nV cV : Nat) (hs : List Hd) (zs : List (List Int)) : Prop where
  rd : RdL w' w'.heap.size V hs
  len : hs.length = nV
  z : hs.map Hd.z = zs
  cap : nV ≤ cV ∧ cV ≤ 9223372036854775807
theorem k_jproj {L : List (List Int)} {b : Au} (hc : cweE a ev = 0) (hf : (fnd (detA a ev)).length ≤ 4096) (hL : (fnd (detA a ev)).map (deR a ev) = L) (hB : canA (detA a ev) = b) (ha : AuR w w.heap.size A n c s M m d E k g a)
    (hx3 : RdI w w.heap.size A3 ev) (hn3 : ev.length = n3) (hc3 : n3 ≤ c3 ∧ c3 ≤ 9223372036854775807) (hb3 : n3 ≤ 100000) (h : LW W l w) :
    Calls Tryz.prog 14 #[.agg #[.slice A n c, .int .i64 s, .slice M m d, .slice E k g], .slice A3 n3 c3] w fun e w' => ∃ (A1 : Option Addr) (n1 c1 : Nat) (s1 : Int) (M1 : Option Addr) (m1 d1 : Nat) (E1 : Option Addr) (k1 g1 : Nat) (V : Option Addr) (nV cV : Nat) (hs : List Hd),
      e = .returned (.tuple #[.agg #[.slice A1 n1 c1, .int .i64 s1, .slice M1 m1 d1, .slice E1 k1 g1], .slice V nV cV, .int .i64 0]) ∧ AuR w' w'.heap.size A1 n1 c1 s1 M1 m1 d1 E1 k1 g1 b ∧ GV7 w' V nV cV hs L ∧ KW W l w w' := by
  subst hL hB
  refine (jProject_any A n c s M m d E k g A3 n3 c3 a ev w ha hx3 hn3 hc3 hb3).mono ?_
  rintro e w' ⟨hb, h1 | h1 | h1⟩
  · exact absurd hc h1.1
  · have := h1.2.1; omega
  · obtain ⟨_, _, A1, n1, c1, s1, M1, m1, d1, E1, k1, g1, V, nV, cV, hs, he, ha, hl, hlen, hm, q1, q2⟩ := h1
    exact ⟨A1, n1, c1, s1, M1, m1, d1, E1, k1, g1, V, nV, cV, hs, he, ha, ⟨hl, hlen, hm, q1, q2⟩, KW.of h hb⟩
theorem KW.gv {w w' wx : World} {V : Option Addr} {nV cV : Nat} {hs : List Hd} {zs : List (List Int)} (h : KW W l w w') (hv : GV7 w V nV cV hs zs) : GV7 w' V nV cV hs zs :=
  ⟨(hv.rd.below h.bel (Nat.le_refl _)).more h.bel.size, hv.len, hv.z, hv.cap⟩
end
end Go.Proofs.YtaadhpkpekmfoaaGreat

/- Layer 7: the beginning of the laws over two sets of events and a graph. -/
namespace Go.Proofs.YtaadhpkpekmfoaaGreat
open Go.RowKit Go.Sort

set_option maxHeartbeats 2000000 in
set_option maxRecDepth 100000 in
theorem events_own (x : Int) (w : World) (_hx : (Lit.int .u8 x).wf = true) :
    Calls Tryz.prog 13 #[.int .u8 x] w fun e w' => ∃ zs A c, Ev5 5 zs ∧ e = .returned (.slice A zs.length c) ∧ Own w' w.heap.size (.slice A zs.length c) zs ∧ Below w.heap.size w w' := by
  obtain ⟨i0, hi, hz0, hz1, hz2⟩ := info_parts info_int
  go_enter Tryz.func13, Tryz.ntmps13
  go_wp2_with fail
  go_loopw [3, 4] (fun v i wr => ∃ (t : Nat) (zs : List Int), t ≤ 5 ∧ i = .int .i64 t ∧ Hid (Ev5 (t : Int) zs) ∧ Hid (FP w v zs wr)) (fun _ i _ => 5 - (intOf i).toNat)
  case atStart => exact ⟨0, [], Nat.zero_le _, rfl, Ev5.nil _, ⟨Below.refl _ _, World.ownsRow_nil _ _ _ _⟩⟩
  case round =>
    obtain ⟨t, zs, ht5, rfl, hev, hfp⟩ := hrel
    by_cases hlt : t < 5
    · have hl := hev.out.len
      have z0 : (0 : Int) ≤ (t : Int) := by omega
      have hsz := hfp.out.bel.size
      have hm := Lib.hid (hev.out.more)
      have hs := Lib.hid (hev.out.snoc (by omega))
      go_upto_if 13 with fail
      generalize (bits BinOp.and IntKind.u8 (x / 2 ^ t) 1 == 1) = cb
      cases cb
      · go_wp2_with fail
        go_roundw
        case rel => exact ⟨t + 1, zs, by omega, by go_num, by simpa using hm, hfp⟩
        case measure => simp [intOf]; omega
      · go_wp2_with (at_builtin; refine wpList_append_own _ rfl _ _ 27 rfl w.heap.size 3 i0 (.int .i64 0) 1 8 Tryz.underlying27 hi hz0 hz1 hz2 rfl (by decide) _ _ _ rfl (hfp.out.ow.alloc _) ⟨wr.heap.size, 0, none⟩ 1 1 [.int .i64 (t : Int)] rfl rfl (news_one (by simp)) (by intro u hu; simp at hu; subst hu; rfl) (by unfold maxLen; omega) (by omega) (by simp; omega) ?_)
        intro v5 w5 hown5 hgrow5 _
        have hO5 := own_app (K' := zs ++ [(t : Int)]) rfl hfp.out.bel hfp.out.ow hown5 hgrow5 (Nat.le_refl _)
        have hF6 := Lib.hid (show FP w v5 (zs ++ [(t : Int)]) w5 from ⟨hO5.2, hO5.1⟩)
        clear hown5 hgrow5 hO5
        go_wp2_with fail
        go_roundw
        case rel => exact ⟨t + 1, zs ++ [(t : Int)], by omega, by go_num, by simpa using hs, hF6⟩
        case measure => simp [intOf]; omega
    · obtain rfl : t = 5 := by omega
      obtain ⟨A', c', rfl, hrd, hc1, hc2⟩ := own_rdc hfp.out.ow
      have HF := Lib.hid hfp.out
      clear hfp hrd
      go_wp2_with fail
      go_ret
      exact ⟨zs, A', c', hev.out, rfl, HF.out.ow, HF.out.bel⟩
theorem gs2_of {W w : World} {l : List (Nat × List Value)} (h : LW W l w) (jg js : Nat) {bg bs : Nat} {gv : Nat → Value} {x0 x1 : Int} (hg : l[jg]? = some (bg, [gv 0, gv 1, gv 2, gv 3, gv 4, gv 5, gv 6, gv 7, gv 8, gv 9, gv 10, gv 11, gv 12, gv 13, gv 14, gv 15, gv 16, gv 17, gv 18, gv 19, gv 20, gv 21, gv 22, gv 23, gv 24, gv 25, gv 26])) (hs : l[js]? = some (bs, [.int .u8 x0, .int .u8 x1])) : GridOk w bg ∧ (∀ i : Nat, i < 27 → w.cell? ⟨bg, i, none⟩ = some (gv i)) ∧ w.cell? ⟨bs, 0, none⟩ = some (.int .u8 x0) ∧ w.cell? ⟨bs, 1, none⟩ = some (.int .u8 x1) :=
  ⟨gridOk (h.bx.grid jg hg), h.bx.grid jg hg, h.bx.at js hs 0 rfl, h.bx.at js hs 1 rfl⟩
/-- The automaton in its box, and the events that are kept. -/
def PreR2 (W : World) (l : List (Nat × List Value)) (v v8 : Value) (wx : World) : Prop := ∃ (bc : Nat) (al : List Int) (a : Au) (A : Option Addr) (n c : Nat) (s : Int) (M : Option Addr) (m d : Nat) (E : Option Addr) (k g : Nat) (on : List Int) (A8 : Option Addr) (n8 c8 : Nat), v = .pointer (some ⟨bc, 0, none⟩) ∧ v8 = .slice A8 n8 c8 ∧ Hid (LW W ((bc, [.slice A n c, .int .i64 s, .slice M m d, .slice E k g]) :: l) wx) ∧ Hid (Ev5 5 al) ∧ Hid (OkM al a) ∧ Hid (AuR wx wx.heap.size A n c s M m d E k g a) ∧ Hid (Ev5 5 on) ∧ Hid (RdI wx wx.heap.size A8 on) ∧ on.length = n8 ∧ (n8 ≤ c8 ∧ c8 ≤ 9223372036854775807)
section
variable {W w : World} {l : List (Nat × List Value)} {al on : List Int} {a : Au} {A : Option Addr} {n c : Nat} {s : Int} {M : Option Addr} {m d : Nat} {E : Option Addr} {k g : Nat} {A8 : Option Addr} {n8 c8 base b : Nat}
theorem own_rd8 (h : Own w base (.slice A8 n8 c8) on) : RdI w w.heap.size A8 on ∧ on.length = n8 ∧ n8 ≤ c8 ∧ c8 ≤ 9223372036854775807 := own_rdv h
theorem LW.addrow {cs : List Value} {t : TypeId} (h : LW W l w) (hr : Row w b t cs) : LW W ((b, cs) :: l) w := ⟨h.bel, fun b' ds hm => by
  rcases List.mem_cons.1 hm with e | hm
  · injection e with e1 e2; subst e1 e2; exact ⟨hr.lt, fun i v hi => hr.cell i hi⟩
  · exact h.bx b' ds hm⟩
theorem row_set4 {x0 x1 x2 x3 : Value} (hr : Row w b 33 [x0, x1, x2, x3]) (v0 v1 v2 v3 : Value) : Row ((((w.setCell ⟨b, 0, none⟩ v0).setCell ⟨b, 1, none⟩ v1).setCell ⟨b, 2, none⟩ v2).setCell ⟨b, 3, none⟩ v3) b 33 [v0, v1, v2, v3] := (((hr.set 0 v0).set 1 v1).set 2 v2).set 3 v3
theorem fin_row (hl : LW W l w) (hr : Row w b 33 [.slice A n c, .int .i64 s, .slice M m d, .slice E k g]) (hev : Ev5 5 al) (hok : OkM al a) (hau : AuR w w.heap.size A n c s M m d E k g a) (h8 : Ev5 5 on) (ho : Own w base (.slice A8 n8 c8) on) : PreR2 W l (.pointer (some ⟨b, 0, none⟩)) (.slice A8 n8 c8) w := by
  obtain ⟨h1, h2, h3⟩ := own_rd8 ho
  exact ⟨b, al, a, A, n, c, s, M, m, d, E, k, g, on, A8, n8, c8, rfl, rfl, hl.addrow hr, hev, hok, hau, h8, h1, h2, h3⟩
theorem fin_new (hl : LW W l w) (hev : Ev5 5 al) (hok : OkM al a) (hau : AuR w w.heap.size A n c s M m d E k g a) (h8 : Ev5 5 on) (ho : Own w base (.slice A8 n8 c8) on) : PreR2 W l (.pointer (some ⟨w.heap.size, 0, none⟩)) (.slice A8 n8 c8) (w.alloc (.cells #[.slice A n c, .int .i64 s, .slice M m d, .slice E k g] 33)) := by
  obtain ⟨h1, h2, h3⟩ := own_rd8 ho
  have hb := (Below.refl w.heap.size w).alloc (Nat.le_refl _) (.cells #[.slice A n c, .int .i64 s, .slice M m d, .slice E k g] 33)
  exact ⟨_, al, a, A, n, c, s, M, m, d, E, k, g, on, A8, n8, c8, rfl, rfl, hl.new [.slice A n c, .int .i64 s, .slice M m d, .slice E k g] 33, hev, hok, (hau.below hb (Nat.le_refl _)).more hb.size, h8, (h1.below hb (Nat.le_refl _)).more hb.size, h2, h3⟩
/-- A store into the box b leaves the automaton as it was. -/
def AuS (w : World) (b : Nat) (a : Au) (A : Option Addr) (n c : Nat) (s : Int) (M : Option Addr) (m d : Nat) (E : Option Addr) (k g : Nat) : Prop := ∀ v0 v1 v2 v3 : Value, AuR ((((w.setCell ⟨b, 0, none⟩ v0).setCell ⟨b, 1, none⟩ v1).setCell ⟨b, 2, none⟩ v2).setCell ⟨b, 3, none⟩ v3) w.heap.size A n c s M m d E k g a
theorem aus_f (h : AuF a (.agg #[.slice A n c, .int .i64 s, .slice M m d, .slice E k g]) w base) (hb : b < base) : AuS w b a A n c s M m d E k g := fun v0 v1 v2 v3 => by
  have := AuF.aur A n c s M m d E k g (h.set4 hb v0 v1 v2 v3)
  simpa using this
theorem aus_r {B : Nat} (h : AuR w B A n c s M m d E k g a) (hb : B ≤ b) (hB : B ≤ w.heap.size) : AuS w b a A n c s M m d E k g := fun v0 v1 v2 v3 => (h.put A n c s M m d E k g hb v0 v1 v2 v3).more hB
theorem fin_put {x0 x1 x2 x3 : Value} {wa : World} (ha : LW W l wa) (hl : LW W l w) (hr : Row w b 33 [x0, x1, x2, x3]) (hb : wa.heap.size ≤ b) (hev : Ev5 5 al) (hok : OkM al a) (hau : AuS w b a A n c s M m d E k g) (h8 : Ev5 5 on) (ho : Own w base (.slice A8 n8 c8) on) : PreR2 W l (.pointer (some ⟨b, 0, none⟩)) (.slice A8 n8 c8) ((((w.setCell ⟨b, 0, none⟩ (.slice A n c)).setCell ⟨b, 1, none⟩ (.int .i64 s)).setCell ⟨b, 2, none⟩ (.slice M m d)).setCell ⟨b, 3, none⟩ (.slice E k g)) := by
  obtain ⟨h1, h2, h3⟩ := own_rd8 ho
  refine ⟨b, al, a, A, n, c, s, M, m, d, E, k, g, on, A8, n8, c8, rfl, rfl, hl.put hr (Nat.le_trans ha.bel.size hb) (fun x hx => Nat.ne_of_lt (Nat.lt_of_lt_of_le (ha.bx x.1 x.2 hx).1 hb)) _ _ _ _, hev, hok, by simpa [Hid] using hau _ _ _ _, h8, ?_, h2, h3⟩
  intro h0
  obtain ⟨b', o', e, hlt, hc⟩ := h1 h0
  subst e
  have hnb : b' ≠ b := fun e => row_ne_own hr ho (by decide) (by rw [← e]; rfl)
  exact ⟨b', o', rfl, by simpa using hlt, fun j hj => (cell_set4 hnb).trans (hc j hj)⟩
end
end Go.Proofs.YtaadhpkpekmfoaaGreat

/- Layer 7, the reference's search: what the list has found. -/
namespace Go.Proofs.YtaadhpkpekmfoaaGreat
open Go.RowKit Go.Sort

/-- Behind i states of the list, and k edges. -/
structure BfI (a : Au) (ev fr o : List Int) (i k : Nat) : Prop where
  sub : ∃ x, o = fr ++ x ∧ x.Nodup ∧ ∀ q ∈ x, 0 ≤ q ∧ q < a.st
  rc : ∀ q ∈ o, Rc a ev fr q
  done : ∀ x ∈ a.ed, x.f ∈ o.take i → x.e ∈ ev → x.t ∈ o
  now : ∀ x ∈ a.ed.take k, x.f = o.getD i 0 → x.e ∈ ev → x.t ∈ o
theorem bf_start (a : Au) (ev fr : List Int) : BfI a ev fr fr 0 0 :=
  ⟨⟨[], by simp, List.nodup_nil, by simp⟩, fun q h => .base h, by simp, by simp⟩
theorem BfI.len {a : Au} {ev fr o : List Int} {i k : Nat} (h : BfI a ev fr o i k) : o.length ≤ fr.length + a.st.toNat := by
  obtain ⟨x, rfl, h1, h2⟩ := h.sub
  have := nodup_len (S := a.st.toNat) h1 fun q hq => by have := h2 q hq; omega
  rw [List.length_append]; omega
theorem BfI.add {a : Au} {ev fr o : List Int} {i k : Nat} {x : Ed} (h : BfI a ev fr o i k) (hr : RightW a) (hi : i < o.length) (hx : a.ed[k]? = some x) (hf : x.f = o.getD i 0) (he : x.e ∈ ev) (hn : x.t ∉ o) : BfI a ev fr (o ++ [x.t]) i (k + 1) := by
  have hm := List.mem_of_getElem? hx
  have hoi : o.getD i 0 ∈ o := by rw [List.getD_eq_getElem?_getD, List.getElem?_eq_getElem hi]; exact List.getElem_mem hi
  refine ⟨?_, ?_, ?_, ?_⟩
  · obtain ⟨y, e, h1, h2⟩ := h.sub
    refine ⟨y ++ [x.t], by rw [e, List.append_assoc], ?_, ?_⟩
    · rw [List.nodup_append]
      refine ⟨h1, by simp, fun p hp q hq => ?_⟩
      rw [List.mem_singleton] at hq
      subst hq
      intro h3
      exact hn (by rw [e]; exact List.mem_append_right _ (h3 ▸ hp))
    · intro q hq
      rcases List.mem_append.1 hq with hq | hq
      · exact h2 q hq
      · rw [List.mem_singleton] at hq; subst hq; exact (hr.edr _ hm).2.1
  · intro q hq
    rcases List.mem_append.1 hq with hq | hq
    · exact h.rc q hq
    · rw [List.mem_singleton] at hq
      subst hq
      exact .step (h.rc _ (hf ▸ hoi)) hm he
  · intro y hy h1 h2
    rw [List.take_append_of_le_length (by omega)] at h1
    exact List.mem_append_left _ (h.done y hy h1 h2)
  · intro y hy h1 h2
    rw [show (o ++ [x.t]).getD i 0 = o.getD i 0 by rw [List.getD_eq_getElem?_getD, List.getD_eq_getElem?_getD, List.getElem?_append_left hi]] at h1
    rw [List.take_add_one, hx] at hy
    rcases List.mem_append.1 hy with hy | hy
    · exact List.mem_append_left _ (h.now y hy h1 h2)
    · simp at hy; subst hy; simp
theorem BfI.skip {a : Au} {ev fr o : List Int} {i k : Nat} {x : Ed} (h : BfI a ev fr o i k) (hx : a.ed[k]? = some x) (hs : x.f = o.getD i 0 → x.e ∈ ev → x.t ∈ o) : BfI a ev fr o i (k + 1) :=
  ⟨h.sub, h.rc, h.done, fun y hy h1 h2 => by
    rw [List.take_add_one, hx] at hy
    rcases List.mem_append.1 hy with hy | hy
    · exact h.now y hy h1 h2
    · simp at hy; subst hy; exact hs h1 h2⟩
theorem BfI.next {a : Au} {ev fr o : List Int} {i : Nat} (h : BfI a ev fr o i a.ed.length) (hi : i < o.length) : BfI a ev fr o (i + 1) 0 :=
  ⟨h.sub, h.rc, fun y hy h1 h2 => by
    rw [List.take_add_one, List.getElem?_eq_getElem hi] at h1
    rcases List.mem_append.1 h1 with h1 | h1
    · exact h.done y hy h1 h2
    · simp at h1
      exact h.now y (by rw [List.take_length]; exact hy) (by rw [h1, List.getD_eq_getElem?_getD, List.getElem?_eq_getElem hi]; rfl) h2, by simp⟩
theorem BfI.fin {a : Au} {ev fr o : List Int} (h : BfI a ev fr o o.length 0) : soR o a.st.toNat = reR a ev fr := by
  have h1 := rc_found (a := a) (ev := ev) (fr := fr) (F := o) (fun q hq => by obtain ⟨x, e, _⟩ := h.sub; rw [e]; exact List.mem_append_left _ hq) h.rc (fun x hx h2 h3 => h.done x hx (by rw [List.take_length]; exact h2) h3)
  unfold soR reR
  refine List.filter_congr fun q _ => ?_
  simp only [decide_eq_decide]
  exact h1 q
end Go.Proofs.YtaadhpkpekmfoaaGreat

/- Layer 7, the reference: Reach. -/
namespace Go.Proofs.YtaadhpkpekmfoaaGreat
open Go.RowKit Go.Sort

theorem calls_sym7 {P : Program} {f : FuncId} {args : Array Value} {w : World} {v : Value} (h : Calls P f args w fun e w' => e = .returned v ∧ w = w') : Calls P f args w fun e w' => e = .returned v ∧ w' = w :=
  h.mono fun _ _ ⟨h1, h2⟩ => ⟨h1, h2.symm⟩
theorem own_rd7 {w : World} {base n c : Nat} {A : Option Addr} {zs : List Int} (h : Own w base (.slice A n c) zs) : RdI w w.heap.size A zs ∧ zs.length = n ∧ n ≤ c ∧ c ≤ 9223372036854775807 := by
  obtain ⟨A', c', e, h1, h2, h3⟩ := own_rdc h
  injection e with e1 e2 e3
  subst e1 e2 e3
  exact ⟨h1, rfl, h2, h3⟩
theorem own_cell7 {w : World} {base : Nat} {v : Value} {zs : List Int} (h : Own w base v zs) {j : Nat} (hj : j < zs.length) : ∃ g c, v = .slice (some ⟨g, 0, none⟩) zs.length c ∧ base ≤ g ∧ g < w.heap.size ∧ w.cell? ⟨g, j, none⟩ = some (.int .i64 (zs.getD j 0)) := by
  obtain ⟨g, cap, e, hg, hc, _, _⟩ := own_shape h rfl (by omega)
  exact ⟨g, cap, e, (h.lt g (by rw [e]; rfl)).1, hg, hc j hj⟩
theorem own_lit07 (w : World) : Own (w.alloc (.cells #[] 3)) w.heap.size (.slice (some ⟨w.heap.size, 0, none⟩) 0 0) [] :=
  World.ownsRow_lit (e := 3) (size := 1) w #[] 0 (Nat.le_refl _) (by unfold maxLen; omega) rfl
set_option maxHeartbeats 8000000 in
set_option maxRecDepth 100000 in
theorem r7Reach_any (A : Option Addr) (n c : Nat) (s : Int) (M : Option Addr) (m d : Nat) (E : Option Addr) (k g : Nat) (a : Au) (A2 : Option Addr) (n2 c2 : Nat) (fr : List Int) (A3 : Option Addr) (n3 c3 : Nat) (ev : List Int) (w : World) (h : AuR w w.heap.size A n c s M m d E k g a) (hri : RightW a) (hs4 : a.st ≤ 4096) (hx : RdI w w.heap.size A2 fr) (hn : fr.length = n2) (hb : n2 ≤ 100000)
    (hx3 : RdI w w.heap.size A3 ev) (hn3 : ev.length = n3) (hb3 : n3 ≤ 100000) :
    Calls Tryz.prog 22 #[.agg #[.slice A n c, .int .i64 s, .slice M m d, .slice E k g], .slice A2 n2 c2, .slice A3 n3 c3] w fun e w' => ∃ v, e = .returned v ∧ Own w' w.heap.size v (reR a ev fr) ∧ Below w.heap.size w w' := by
  obtain ⟨S, hS⟩ : ∃ S : Nat, s = (S : Int) := ⟨a.st.toNat, by have := hri.st0; have := h.st; omega⟩
  subst hS
  have hSb : S ≤ 4096 := by have := h.st; omega
  have HSN := Lib.hid (show a.st.toNat = S by have := h.st; omega)
  have hb1 := (Below.refl w.heap.size w).alloc (Nat.le_refl _) (.cells #[.slice A n c, .int .i64 (S : Int), .slice M m d, .slice E k g] 33)
  have HB1 := Lib.hid hb1
  have HX := Lib.hid (BoxA.made w A n c (S : Int) M m d E k g 33)
  have HE := Lib.hid (fun W (hW : Below w.heap.size w W) (x : Int) => r7Has_any A3 n3 c3 w.heap.size ev x W (hx3.below hW (Nat.le_refl _)) hn3 (by omega))
  have HED := Lib.hid h.ed
  have HK := Lib.hid h.hk
  have hbk := h.bk
  have HFN := Lib.hid hn
  have HRI := Lib.hid hri
  obtain ⟨iI, iI0, iI1, iI2, iI3⟩ := info_parts info_int
  have HLIT := Lib.hid (show Own ((w.alloc (.cells #[.slice A n c, .int .i64 (S : Int), .slice M m d, .slice E k g] 33)).alloc (.cells #[] 3)) (w.heap.size + 1) (.slice (some ⟨w.heap.size + 1, 0, none⟩) 0 0) [] from by
    have := own_lit07 (w.alloc (.cells #[.slice A n c, .int .i64 (S : Int), .slice M m d, .slice E k g] 33))
    rwa [World.size_alloc] at this)
  have HBL := Lib.hid (show Below (w.heap.size + 1) (w.alloc (.cells #[.slice A n c, .int .i64 (S : Int), .slice M m d, .slice E k g] 33)) ((w.alloc (.cells #[.slice A n c, .int .i64 (S : Int), .slice M m d, .slice E k g] 33)).alloc (.cells #[] 3)) from (Below.refl _ _).alloc (by simp) _)
  have HFR := Lib.hid (show RdI ((w.alloc (.cells #[.slice A n c, .int .i64 (S : Int), .slice M m d, .slice E k g] 33)).alloc (.cells #[] 3)) w.heap.size A2 fr from hx.below (hb1.trans (HBL.out.mono (Nat.le_succ _))) (Nat.le_refl _))
  clear h hx hn hx3 hn3 hb1 hri
  go_enter Tryz.func22, Tryz.ntmps22
  go_wp2_with (first | (at_builtin; refine wpList_app_rd rfl (.tmp 11) (.tmp 12) rfl (w.heap.size + 1) (.slice (some ⟨w.heap.size + 1, 0, none⟩) 0 0) 0 [] rfl HLIT.out w.heap.size A2 n2 c2 fr rfl HFR.out HFN.out (by unfold maxLen; omega) (by omega) (by simp) ?_; intro v3 w3 hown3 hgrow3))
  have HO3 := Lib.hid (show Own w3 (w.heap.size + 1) v3 fr by unfold Own; rw [HFN.out]; simpa using hown3)
  have HB3 := Lib.hid (show Below (w.heap.size + 1) (w.alloc (.cells #[.slice A n c, .int .i64 (S : Int), .slice M m d, .slice E k g] 33)) w3 from HBL.out.grown hgrow3 (by simp) (fun j hj => by cases hj; exact Nat.le_refl _))
  clear hown3 hgrow3 HLIT HBL HFR
  go_wp2_with fail
  go_loopw [7, 8] (fun v iv wr => ∃ (i : Nat) (o : List Int), i ≤ o.length ∧ iv = .int .i64 i ∧ Hid (BfI a ev fr o i 0) ∧ Hid (Own wr (w.heap.size + 1) v o) ∧ Hid (Below (w.heap.size + 1) (w.alloc (.cells #[.slice A n c, .int .i64 (S : Int), .slice M m d, .slice E k g] 33)) wr)) (fun _ i _ => n2 + S - (intOf i).toNat)
  case atStart => exact ⟨0, fr, Nat.zero_le _, rfl, bf_start a ev fr, HO3, HB3⟩
  case round =>
    clear HO3 HB3
    obtain ⟨i, o, hio, rfl, hbf, hown, hbel1⟩ := hrel
    have hol := hbf.out.len
    rw [HSN.out, HFN.out] at hol
    obtain ⟨Ao, co, rfl, hrd, hco1, hco2⟩ := own_rdc hown.out
    clear hrd
    obtain ⟨lo, hlo⟩ : ∃ lo, o.length = lo := ⟨_, rfl⟩
    rw [hlo] at hio hol hco1 hown ⊢
    have HLO := Lib.hid hlo
    have hbs := hbel1.out.size
    rw [World.size_alloc] at hbs
    by_cases hlt : i < lo
    · have HGI := Lib.hid (show i < o.length by rw [HLO.out]; exact hlt)
      clear hlo
      have z0 : (i : Int) < (lo : Int) := by omega
      go_wp2_with fail
      go_loopw [7, 9] (fun v kv wr => ∃ (j : Nat) (o : List Int), j ≤ k ∧ kv = .int .i64 j ∧ Hid (i < o.length) ∧ Hid (BfI a ev fr o i j) ∧ Hid (Own wr (w.heap.size + 1) v o) ∧ Hid (Below (w.heap.size + 1) (w.alloc (.cells #[.slice A n c, .int .i64 (S : Int), .slice M m d, .slice E k g] 33)) wr)) (fun _ j _ => k - (intOf j).toNat)
      case atStart => exact ⟨0, o, Nat.zero_le _, rfl, HGI, hbf, hown, hbel1⟩
      case round =>
        clear HGI hbf hown hbel1 HLO hlt z0 hbs hol hio hco1 hco2
        obtain ⟨j, o, hj, rfl, HGI, hbf, hown, hbel1⟩ := hrel
        have hbel := Lib.hid (HB1.out.trans (hbel1.out.mono (Nat.le_succ _)))
        have hol := hbf.out.len
        rw [HSN.out, HFN.out] at hol
        have hbs := hbel1.out.size
        rw [World.size_alloc] at hbs
        obtain ⟨p0, p1, p2, p3⟩ := HX.out.below hbel1.out (Nat.lt_succ_self _)
        by_cases hlt : j < k
        · obtain ⟨be, oe, rfl, hbe, hce⟩ := HED.out (by rw [HK.out]; omega)
          obtain ⟨x, hx⟩ : ∃ x, a.ed[j]? = some x := ⟨_, List.getElem?_eq_getElem (by rw [HK.out]; exact hlt)⟩
          obtain ⟨e0, e1, e2⟩ := hce j x hx
          have f0 := (hbel.out.cell (p := ⟨be, oe + j * 3, none⟩) hbe).trans e0
          have f1 := (hbel.out.cell (p := ⟨be, oe + j * 3 + 1, none⟩) hbe).trans e1
          have f2 := (hbel.out.cell (p := ⟨be, oe + j * 3 + 2, none⟩) hbe).trans e2
          obtain ⟨xf, xe, xt⟩ := x
          have HXE := Lib.hid hx
          simp only at f0 f1 f2
          clear hce e0 e1 e2 hx
          obtain ⟨g3, co, rfl, hg3a, hg3b, hc3⟩ := own_cell7 hown.out HGI.out
          obtain ⟨lo, hlo⟩ : ∃ lo, o.length = lo := ⟨_, rfl⟩
          have HLO := Lib.hid hlo
          have HO := Lib.hid (fun W (hW : Below wr.heap.size wr W) (y : Int) => r7Has_any (some ⟨g3, 0, none⟩) lo co wr.heap.size o y W ((own_rd7 hown.out).1.below hW (Nat.le_refl _)) hlo (by omega))
          have hown' := hown.out
          unfold Own at hown'
          rw [hlo] at hol hown' ⊢
          have HOW := Lib.hid hown'
          obtain ⟨q, hq⟩ : ∃ q, q = o.getD i 0 := ⟨_, rfl⟩
          rw [← hq] at hc3
          have HQ := Lib.hid hq
          have hil : i < lo := by rw [← hlo]; exact HGI.out
          clear hlo hq hown'
          have z0 : (j : Int) < (k : Int) := by omega
          have z1 : (0 : Int) ≤ (j : Int) := by omega
          have z2 : (i : Int) < (lo : Int) := by omega
          have z3 : (0 : Int) ≤ (i : Int) := by omega
          have HBN := Lib.hid (fun (r : Nat) => below_drewN ((Below.refl wr.heap.size wr).alloc (Nat.le_refl _) (.cells #[.int .i64 xf, .int .i64 xe, .int .i64 xt] 79)) r)
          have HBW := Lib.hid (fun (r : Nat) => hbel.out.trans ((HBN.out r).mono hbel.out.size))
          have HBV := Lib.hid (fun (r : Nat) => hbel1.out.trans ((HBN.out r).mono hbs))
          by_cases hxf : xf = q
          · have d1 : (xf == q) = true := by simpa using hxf
            have HXF := Lib.hid (show xf = o.getD i 0 by rw [← HQ.out]; exact hxf)
            clear hxf
            by_cases hxe : xe ∈ ev
            · have HEV := Lib.hid hxe
              have HE' := Lib.hid (fun r => by have := HE.out _ (HBW.out r) xe; rw [decide_eq_true hxe] at this; exact calls_sym7 this)
              clear hxe
              by_cases hxt : xt ∈ o
              · have HO' := Lib.hid (fun r => by have := HO.out _ (HBN.out r) xt; rw [decide_eq_true hxt] at this; exact calls_sym7 this)
                have HSK := Lib.hid (hbf.out.skip HXE.out (fun _ _ => hxt))
                clear hxt
                go_wp2_with fail
                go_quiet ((go_at_call 49; first | with_reducible exact Calls.quiet_of_same (HE'.out _) | with_reducible exact Calls.quiet_of_same (HO'.out _)))
                go_wp2_with fail
                go_roundw
                case rel => exact ⟨j + 1, o, by omega, by go_num, HGI, HSK, Lib.hid (by unfold Own; rw [HLO.out]; exact own_dr (HOW.out.alloc _) _), Lib.hid (HBV.out _)⟩
                case measure => simp [intOf]; omega
              · have HO' := Lib.hid (fun r => by have := HO.out _ (HBN.out r) xt; rw [decide_eq_false hxt] at this; exact calls_sym7 this)
                have HAD := Lib.hid (hbf.out.add HRI.out HGI.out HXE.out HXF.out HEV.out hxt)
                clear hxt
                go_wp2_with fail
                go_quiet ((go_at_call 49; first | with_reducible exact Calls.quiet_of_same (HE'.out _) | with_reducible exact Calls.quiet_of_same (HO'.out _)))
                go_wp2_with (at_builtin; refine wpList_append_own_at _ rfl _ _ 27 rfl (w.heap.size + 1) 3 iI (.int .i64 0) 1 8 Tryz.underlying27 iI0 iI1 iI2 iI3 rfl (by decide) _ lo (o.map (Value.int .i64)) rfl ((own_dr (HOW.out.alloc _) _).alloc _) ⟨wr.heap.size + 1, 0, none⟩ 1 1 [.int .i64 xt] rfl rfl (news_one (by first | rfl | exact World.size_alloc _ _)) (by intro u hu; simp at hu; subst hu; rfl) (by unfold maxLen; omega) (by omega) (by simp; omega) ?_)
                intro v6 w6 hown6 hgrow6 _ _
                have hO := Lib.hid (show Own w6 (w.heap.size + 1) v6 (o ++ [xt]) by unfold Own; rw [List.length_append, List.map_append, HLO.out]; exact hown6)
                have hB := Lib.hid (((HBV.out _).alloc (by simp; omega) _).grown hgrow6 (by simp; omega) (fun i hi => (hown.out.lt i hi).1))
                clear hown6 hgrow6
                go_wp2_with fail
                go_roundw
                case rel => exact ⟨j + 1, o ++ [xt], by omega, by go_num, Lib.hid (by rw [List.length_append]; have := HGI.out; omega), HAD, hO, hB⟩
                case measure => simp [intOf]; omega
            · have HE' := Lib.hid (fun r => by have := HE.out _ (HBW.out r) xe; rw [decide_eq_false hxe] at this; exact calls_sym7 this)
              have HO' := HE'
              have HSK := Lib.hid (hbf.out.skip HXE.out (fun _ h => absurd h hxe))
              clear hxe
              go_wp2_with fail
              go_quiet ((go_at_call 49; first | with_reducible exact Calls.quiet_of_same (HE'.out _) | with_reducible exact Calls.quiet_of_same (HO'.out _)))
              go_wp2_with fail
              go_roundw
              case rel => exact ⟨j + 1, o, by omega, by go_num, HGI, HSK, Lib.hid (by unfold Own; rw [HLO.out]; exact own_dr (HOW.out.alloc _) _), Lib.hid (HBV.out _)⟩
              case measure => simp [intOf]; omega
          · have d1 : (xf == q) = false := by simpa using hxf
            have HSK := Lib.hid (hbf.out.skip HXE.out (fun h _ => absurd (by rw [HQ.out]; exact h) hxf))
            clear hxf
            go_wp2_with fail
            go_quiet (fail)
            go_wp2_with fail
            go_roundw
            case rel => exact ⟨j + 1, o, by omega, by go_num, HGI, HSK, Lib.hid (by unfold Own; rw [HLO.out]; exact own_dr (HOW.out.alloc _) _), Lib.hid (HBV.out _)⟩
            case measure => simp [intOf]; omega
        · obtain rfl : j = k := by omega
          have HNX := Lib.hid ((show BfI a ev fr o i a.ed.length by rw [HK.out]; exact hbf.out).next HGI.out)
          have z0 : (j : Int) ≤ (j : Int) := by omega
          have hib : i < n2 + S := Nat.lt_of_lt_of_le HGI.out hol
          have hib2 : (i : Int) + 1 ≤ 1000000 := by omega
          go_wp2_with fail
          go_roundw
          case rel => exact ⟨i + 1, o, HGI.out, by go_num, HNX, hown, hbel1⟩
          case measure => simp [intOf]; omega
    · obtain rfl : i = lo := by omega
      have HFI := Lib.hid (show soR o S = reR a ev fr by rw [← HSN.out]; exact BfI.fin (by rw [HLO.out]; exact hbf.out))
      have HSO := Lib.hid (r7Sorted_any Ao i co S o wr (by have := (own_rd7 (show Own wr (w.heap.size + 1) (.slice Ao i co) o from hown.out)).1; exact this) HLO.out (by omega) hSb)
      rw [HFI.out] at HSO
      have hbel := Lib.hid (HB1.out.trans (hbel1.out.mono (Nat.le_succ _)))
      obtain ⟨p0, p1, p2, p3⟩ := HX.out.below hbel1.out (Nat.lt_succ_self _)
      have z0 : (i : Int) ≤ (i : Int) := by omega
      go_wp2_with fail
      refine HSO.out.mono ?_
      rintro e w4 ⟨v4, rfl, ho4, hb4⟩
      have HO4 := Lib.hid ho4
      have HB4 := Lib.hid hb4
      clear ho4 hb4
      go_wp2_with fail
      go_ret
      exact ⟨_, rfl, own_moreR HO4.out (by omega), hbel.out.trans (HB4.out.mono hbel.out.size)⟩
end Go.Proofs.YtaadhpkpekmfoaaGreat

/- Layer 7, the reference: Next. -/
namespace Go.Proofs.YtaadhpkpekmfoaaGreat
open Go.RowKit Go.Sort

/-- The states to which the first j edges lead. -/
def tgT (a : Au) (est : List Int) (ev : Int) (j : Nat) : List Int := ((a.ed.take j).filter fun x => decide (x.e = ev ∧ x.f ∈ est)).map Ed.t
theorem tgT_all {a : Au} {est : List Int} {ev : Int} {j : Nat} (h : a.ed.length ≤ j) : tgT a est ev j = tgR a est ev := by
  unfold tgT tgR; rw [List.take_of_length_le h]
theorem tg_take_yes {a : Au} {est : List Int} {ev : Int} {j : Nat} {x : Ed} (hx : a.ed[j]? = some x) (he : x.e = ev) (hf : x.f ∈ est) : tgT a est ev (j + 1) = tgT a est ev j ++ [x.t] := by
  unfold tgT
  rw [List.take_add_one, hx, List.filter_append, List.map_append]
  simp [he, hf]
theorem tg_take_no {a : Au} {est : List Int} {ev : Int} {j : Nat} {x : Ed} (hx : a.ed[j]? = some x) (h : ¬ (x.e = ev ∧ x.f ∈ est)) : tgT a est ev (j + 1) = tgT a est ev j := by
  unfold tgT
  rw [List.take_add_one, hx, List.filter_append, List.map_append]
  simp [h]
theorem tg_take_len (a : Au) (est : List Int) (ev : Int) (j : Nat) : (tgT a est ev j).length ≤ j := by
  unfold tgT
  rw [List.length_map]
  exact Nat.le_trans (List.length_filter_le _ _) (List.length_take_le _ _)
set_option maxHeartbeats 8000000 in
set_option maxRecDepth 100000 in
theorem r7Next_any (A : Option Addr) (n c : Nat) (s : Int) (M : Option Addr) (m d : Nat) (E : Option Addr) (k g : Nat) (a : Au) (A3 : Option Addr) (n3 c3 : Nat) (onto : List Int) (A2 : Option Addr) (n2 c2 : Nat) (est : List Int) (ev : Int) (w : World) (h : AuR w w.heap.size A n c s M m d E k g a) (hri : RightW a) (hs4 : a.st ≤ 4096) (hx : RdI w w.heap.size A2 est) (hn : est.length = n2) (hb : n2 ≤ 100000)
    (hx3 : RdI w w.heap.size A3 onto) (hn3 : onto.length = n3) (hb3 : n3 ≤ 100000) (hk5 : k ≤ 100000) :
    Calls Tryz.prog 26 #[.agg #[.slice A n c, .int .i64 s, .slice M m d, .slice E k g], .slice A3 n3 c3, .slice A2 n2 c2, .int .i64 ev] w fun e w' => ∃ v, e = .returned v ∧ Own w' w.heap.size v (nxR a onto est ev) ∧ Below w.heap.size w w' := by
  have hb1 := (Below.refl w.heap.size w).alloc (Nat.le_refl _) (.cells #[.slice A n c, .int .i64 s, .slice M m d, .slice E k g] 33)
  have HB1 := Lib.hid hb1
  have HX := Lib.hid (BoxA.made w A n c s M m d E k g 33)
  have HH := Lib.hid (fun W (hW : Below w.heap.size w W) (x : Int) => r7Has_any A2 n2 c2 w.heap.size est x W (hx.below hW (Nat.le_refl _)) hn (by omega))
  have HER := Lib.hid (fun W (hW : Below w.heap.size w W) => (r7Erased_any A n c s M m d E k g a A3 n3 c3 onto W ((h.below hW (Nat.le_refl _)).more hW.size) ((hx3.below hW (Nat.le_refl _)).more hW.size) hn3 hb3).mono (R' := fun e w' => ∃ A c, e = .returned (.slice A (erR a onto).length c) ∧ RdI w' w'.heap.size A (erR a onto) ∧ Below W.heap.size W w') fun e w' hh => by
    obtain ⟨v, he, ho, hb⟩ := hh
    obtain ⟨A, c, rfl, hr, _, _⟩ := own_rdc ho
    exact ⟨A, c, he, hr, hb⟩)
  have HRE := Lib.hid (fun W (hW : Below w.heap.size w W) (Am : Option Addr) (nm cm : Nat) (mv : List Int) (Ae : Option Addr) (ne ce : Nat) (er : List Int) (h1 : RdI W W.heap.size Am mv) (h2 : mv.length = nm) (h3 : nm ≤ 100000) (h4 : RdI W W.heap.size Ae er) (h5 : er.length = ne) (h6 : ne ≤ 100000) => r7Reach_any A n c s M m d E k g a Am nm cm mv Ae ne ce er W ((h.below hW (Nat.le_refl _)).more hW.size) hri hs4 h1 h2 h3 h4 h5 h6)
  have HEL := Lib.hid (show (erR a onto).length ≤ 100000 by
    have h1 := h.hn; have h2 := al_len hri
    have h3 : (erR a onto).length ≤ a.al.length := List.length_filter_le _ _
    omega)
  have HED := Lib.hid h.ed
  have HK := Lib.hid h.hk
  have hbk := h.bk
  obtain ⟨iI, iI0, iI1, iI2, iI3⟩ := info_parts info_int
  obtain ⟨er, her⟩ : ∃ er, er = erR a onto := ⟨_, rfl⟩
  have HNX := Lib.hid (show nxR a onto est ev = reR a er (tgR a est ev) by rw [her]; rfl)
  rw [HNX.out]
  rw [← her] at HER HEL
  clear h hx hn hx3 hn3 hb1 hri hs4 her HNX
  go_enter Tryz.func26, Tryz.ntmps26
  go_wp2_with fail
  go_loopw [9, 10] (fun v iv wr => ∃ j : Nat, j ≤ k ∧ iv = .int .i64 j ∧ Hid (Own wr (w.heap.size + 1) v (tgT a est ev j)) ∧ Hid (Below (w.heap.size + 1) (w.alloc (.cells #[.slice A n c, .int .i64 s, .slice M m d, .slice E k g] 33)) wr)) (fun _ i _ => k - (intOf i).toNat)
  case atStart => exact ⟨0, Nat.zero_le _, rfl, Lib.hid (World.ownsRow_nil _ _ _ _), Lib.hid (Below.refl _ _)⟩
  case round =>
    obtain ⟨j, hj, rfl, hown, hbel1⟩ := hrel
    have hbel := Lib.hid (HB1.out.trans (hbel1.out.mono (Nat.le_succ _)))
    have hbs := hbel1.out.size
    rw [World.size_alloc] at hbs
    obtain ⟨p0, p1, p2, p3⟩ := HX.out.below hbel1.out (Nat.lt_succ_self _)
    by_cases hlt : j < k
    · obtain ⟨be, oe, rfl, hbe, hce⟩ := HED.out (by rw [HK.out]; omega)
      obtain ⟨x, hxx⟩ : ∃ x, a.ed[j]? = some x := ⟨_, List.getElem?_eq_getElem (by rw [HK.out]; exact hlt)⟩
      obtain ⟨e0, e1, e2⟩ := hce j x hxx
      have f0 := (hbel.out.cell (p := ⟨be, oe + j * 3, none⟩) hbe).trans e0
      have f1 := (hbel.out.cell (p := ⟨be, oe + j * 3 + 1, none⟩) hbe).trans e1
      have f2 := (hbel.out.cell (p := ⟨be, oe + j * 3 + 2, none⟩) hbe).trans e2
      obtain ⟨xf, xe, xt⟩ := x
      have HXE := Lib.hid hxx
      simp only at f0 f1 f2
      have HC := Lib.hid (HH.out wr hbel.out xf)
      have hlen := tg_take_len a est ev j
      have z0 : (j : Int) < (k : Int) := by omega
      have z1 : (0 : Int) ≤ (j : Int) := by omega
      clear hce e0 e1 e2 hxx
      by_cases hxe : xe = ev
      · have d1 : (xe == ev) = true := by simpa using hxe
        by_cases hxf : xf ∈ est
        · have hy := Lib.hid (tg_take_yes HXE.out hxe hxf)
          rw [decide_eq_true hxf] at HC
          obtain ⟨l, hl⟩ : ∃ l, l = (tgT a est ev j).length := ⟨_, rfl⟩
          have hown' := hown.out
          rw [← hl] at hlen
          have HL := Lib.hid hl
          unfold Own at hown'
          rw [← hl] at hown'
          have HOW := Lib.hid hown'
          clear hl hown' hxe hxf
          go_wp2_with fail
          refine HC.out.mono ?_
          rintro e w2 ⟨rfl, rfl⟩
          go_wp2_with (at_builtin; refine wpList_append_own_at _ rfl _ _ 27 rfl (w.heap.size + 1) 3 iI (.int .i64 0) 1 8 Tryz.underlying27 iI0 iI1 iI2 iI3 rfl (by decide) _ l ((tgT a est ev j).map (Value.int .i64)) rfl (HOW.out.alloc _) ⟨wr.heap.size, 0, none⟩ 1 1 [.int .i64 xt] rfl rfl (news_one rfl) (by intro u hu; simp at hu; subst hu; rfl) (by unfold maxLen; omega) (by omega) (by simp; omega) ?_)
          intro v6 w6 hown6 hgrow6 _ _
          have hO := Lib.hid (show Own w6 (w.heap.size + 1) v6 (tgT a est ev (j + 1)) by rw [hy.out]; unfold Own; rw [List.length_append, List.map_append, ← HL.out]; exact hown6)
          have hB := Lib.hid ((hbel1.out.alloc (by omega) _).grown hgrow6 (by simp; omega) (fun i hi => (hown.out.lt i hi).1))
          clear hown6 hgrow6
          go_wp2_with fail
          go_roundw
          case rel => exact ⟨j + 1, by omega, by go_num, hO, hB⟩
          case measure => simp [intOf]; omega
        · have hy := Lib.hid (tg_take_no (est := est) (ev := ev) HXE.out (fun h => hxf h.2))
          rw [decide_eq_false hxf] at HC
          clear hxe hxf
          go_wp2_with fail
          refine HC.out.mono ?_
          rintro e w2 ⟨rfl, rfl⟩
          go_wp2_with fail
          go_roundw
          case rel => exact ⟨j + 1, by omega, by go_num, by rw [hy.out]; exact hown, hbel1⟩
          case measure => simp [intOf]; omega
      · have d1 : (xe == ev) = false := by simpa using hxe
        have hy := Lib.hid (tg_take_no (est := est) (ev := ev) HXE.out (fun h => hxe h.1))
        clear hxe
        go_wp2_with fail
        go_roundw
        case rel => exact ⟨j + 1, by omega, by go_num, by rw [hy.out]; exact hown, hbel1⟩
        case measure => simp [intOf]; omega
    · have hlen := tg_take_len a est ev j
      rw [tgT_all (by rw [HK.out]; omega)] at hown hlen
      have hln : (tgR a est ev).length ≤ 100000 := Nat.le_trans hlen (by omega)
      obtain ⟨Am, cm, rfl, hrdm, _, _⟩ := own_rdc hown.out
      obtain ⟨nm, hnm⟩ : ∃ nm, (tgR a est ev).length = nm := ⟨_, rfl⟩
      rw [hnm] at hln ⊢
      have HNM := Lib.hid hnm
      have HLN := Lib.hid hln
      have HRM := Lib.hid hrdm
      have HB0 := Lib.hid (Below.refl wr.heap.size wr)
      have HB0d := Lib.hid (Below.refl wr.heap.size wr).drew
      obtain ⟨ne, hne⟩ : ∃ ne, er.length = ne := ⟨_, rfl⟩
      have HNE := Lib.hid hne
      have hne5 := HEL.out
      rw [hne] at HER hne5
      have HNE5 := Lib.hid hne5
      have HER' := Lib.hid (fun W (hW : Below wr.heap.size wr W) => HER.out W (hbel.out.trans (hW.mono hbel.out.size)))
      have HRE' := Lib.hid (fun W (hW : Below wr.heap.size wr W) (Ae : Option Addr) (ce : Nat) (h4 : RdI W W.heap.size Ae er) => HRE.out W (hbel.out.trans (hW.mono hbel.out.size)) Am nm cm (tgR a est ev) Ae ne ce er ((HRM.out.below hW (Nat.le_refl _)).more hW.size) HNM.out HLN.out h4 HNE.out HNE5.out)
      have hzz : w.heap.size < wr.heap.size := by omega
      have HZZ := Lib.hid hzz
      have z0 : (k : Int) ≤ (j : Int) := by omega
      clear hown hlen hln hrdm hnm hne hne5 HER HRE HED HK HH HEL
      go_wp2_with fail
      go_region_held3 (fun w' => w'.cell? ⟨w.heap.size, 0, none⟩ = some (.slice A n c) ∧ w'.cell? ⟨w.heap.size, 1, none⟩ = some (.int .i64 s) ∧ w'.cell? ⟨w.heap.size, 2, none⟩ = some (.slice M m d) ∧ w'.cell? ⟨w.heap.size, 3, none⟩ = some (.slice E k g)) (first | with_reducible exact ⟨p0, p1, p2, p3⟩ | go_keep)
        (first
        | (go_simp; go_at_call 61; (first | with_reducible refine (HER'.out _ HB0.out).mono ?_ | with_reducible refine (HER'.out _ HB0d.out).mono ?_); rintro e w4 ⟨A4, c4, rfl, hr4, hb4⟩
           have HR4 := Lib.hid hr4
           have HB4 := Lib.hid (show Below wr.heap.size wr w4 from by first | exact HB0.out.trans (hb4.mono HB0.out.size) | exact HB0d.out.trans (hb4.mono HB0d.out.size))
           have HB4d := Lib.hid HB4.out.drew
           obtain ⟨p0, p1, p2, p3⟩ := HX.out.below (hbel1.out.trans (HB4.out.mono (by omega))) (Nat.lt_succ_self _)
           clear hr4 hb4)
        | (go_simp; go_at_call 22; (first | with_reducible refine (HRE'.out _ HB4.out _ _ HR4.out).mono ?_ | with_reducible refine (HRE'.out _ HB4d.out _ _ HR4.out).mono ?_); rintro e w5 ⟨v5, rfl, ho5, hb5⟩
           have HO5 := Lib.hid (own_moreR ho5 (show w.heap.size ≤ _ from Nat.le_trans (Nat.le_of_lt HZZ.out) (by first | exact HB4.out.size | exact HB4d.out.size)))
           have HB5 := Lib.hid (show Below w.heap.size w w5 from hbel.out.trans (Below.mono (by first | exact HB4.out.trans (hb5.mono HB4.out.size) | exact HB4d.out.trans (hb5.mono HB4d.out.size)) hbel.out.size))
           obtain ⟨p0, p1, p2, p3⟩ := HX.out.below (hbel1.out.trans (Below.mono (by first | exact HB4.out.trans (hb5.mono HB4.out.size) | exact HB4d.out.trans (hb5.mono HB4d.out.size)) (by omega))) (Nat.lt_succ_self _)
           clear ho5 hb5))
      all_goals
        go_wp2_with fail
        go_ret
        exact ⟨_, rfl, HO5.out, HB5.out⟩
end Go.Proofs.YtaadhpkpekmfoaaGreat

/- Layer 7, the reference: Begin, Estimate. -/
namespace Go.Proofs.YtaadhpkpekmfoaaGreat
open Go.RowKit Go.Sort

theorem reR_len (a : Au) (ev fr : List Int) : (reR a ev fr).length ≤ a.st.toNat := by
  unfold reR
  exact Nat.le_trans (List.length_filter_le _ _) (by rw [rng_len]; exact Nat.le_refl _)
theorem fsR_len (a : Au) (onto : List Int) : (fsR a onto).length ≤ a.st.toNat := by
  unfold fsR; split
  · simp
  · exact reR_len _ _ _
theorem esR_len (a : Au) (onto : List Int) : ∀ ob : List Int, (esR a onto ob).length ≤ a.st.toNat := fun ob => by
  rcases List.eq_nil_or_concat ob with rfl | ⟨r, x, rfl⟩
  · exact fsR_len a onto
  · unfold esR
    rw [List.concat_eq_append, List.foldl_append]
    exact reR_len _ _ _
theorem es_next7 {a : Au} {onto ob : List Int} {t : Nat} {x : Int} (h : ob[t]? = some x) : esR a onto (ob.take (t + 1)) = nxR a onto (esR a onto (ob.take t)) x := by
  obtain ⟨hl, e⟩ := List.getElem?_eq_some_iff.1 h
  unfold esR
  rw [List.take_succ_eq_append_getElem hl, e, List.foldl_append]; rfl
theorem rd_alloc7 {w : World} {A : Option Addr} {zs : List Int} (h : RdI w w.heap.size A zs) (o : Obj) : RdI (w.alloc o) (w.alloc o).heap.size A zs := (h.below ((Below.refl _ w).alloc (Nat.le_refl _) o) (Nat.le_refl _)).more (by simp)
theorem rd_drew7 {w : World} {A : Option Addr} {zs : List Int} (h : RdI w w.heap.size A zs) : RdI w.drew w.drew.heap.size A zs := h
theorem row_dr7 {w : World} {g : Nat} {e : TypeId} {cs : List Value} (h : Row w g e cs) : Row w.drew g e cs := h
set_option maxHeartbeats 8000000 in
set_option maxRecDepth 100000 in
theorem r7Begin_any (A : Option Addr) (n c : Nat) (s : Int) (M : Option Addr) (m d : Nat) (E : Option Addr) (k g : Nat) (a : Au) (A3 : Option Addr) (n3 c3 : Nat) (onto : List Int) (w : World) (h : AuR w w.heap.size A n c s M m d E k g a) (hri : RightW a) (hs4 : a.st ≤ 4096)
    (hx3 : RdI w w.heap.size A3 onto) (hn3 : onto.length = n3) (hb3 : n3 ≤ 100000) :
    Calls Tryz.prog 48 #[.agg #[.slice A n c, .int .i64 s, .slice M m d, .slice E k g], .slice A3 n3 c3] w fun e w' => ∃ v, e = .returned v ∧ Own w' w.heap.size v (fsR a onto) ∧ Below w.heap.size w w' := by
  have hb1 := (Below.refl w.heap.size w).alloc (Nat.le_refl _) (.cells #[.slice A n c, .int .i64 s, .slice M m d, .slice E k g] 33)
  have HB1 := Lib.hid hb1
  have HX := Lib.hid (BoxA.made w A n c s M m d E k g 33)
  have HST := Lib.hid h.st
  by_cases h0 : s = 0
  · subst h0
    rw [show fsR a onto = [] by unfold fsR; rw [if_pos HST.out]]
    clear h hx3 hn3 hb1
    obtain ⟨p0, p1, p2, p3⟩ := HX.out
    go_enter Tryz.func48, Tryz.ntmps48
    go_wp2_with fail
    go_ret
    exact ⟨_, rfl, World.ownsRow_nil _ _ _ _, HB1.out⟩
  · have HER := Lib.hid (fun W (hW : Below w.heap.size w W) => (r7Erased_any A n c s M m d E k g a A3 n3 c3 onto W ((h.below hW (Nat.le_refl _)).more hW.size) ((hx3.below hW (Nat.le_refl _)).more hW.size) hn3 hb3).mono (R' := fun e w' => ∃ A c, e = .returned (.slice A (erR a onto).length c) ∧ RdI w' w'.heap.size A (erR a onto) ∧ Below W.heap.size W w') fun e w' hh => by
      obtain ⟨v, he, ho, hb⟩ := hh
      obtain ⟨A, c, rfl, hr, _, _⟩ := own_rdc ho
      exact ⟨A, c, he, hr, hb⟩)
    have HRE := Lib.hid (fun W (hW : Below w.heap.size w W) (Am : Option Addr) (Ae : Option Addr) (ne ce : Nat) (er : List Int) (h1 : RdI W W.heap.size Am [0]) (h4 : RdI W W.heap.size Ae er) (h5 : er.length = ne) (h6 : ne ≤ 100000) => r7Reach_any A n c s M m d E k g a Am 1 1 [0] Ae ne ce er W ((h.below hW (Nat.le_refl _)).more hW.size) hri hs4 h1 rfl (by omega) h4 h5 h6)
    have HEL := Lib.hid (show (erR a onto).length ≤ 100000 by
      have h1 := h.hn; have h2 := al_len hri
      have h3 : (erR a onto).length ≤ a.al.length := List.length_filter_le _ _
      omega)
    obtain ⟨er, her⟩ : ∃ er, er = erR a onto := ⟨_, rfl⟩
    rw [show fsR a onto = reR a er [0] by unfold fsR; rw [if_neg (by rw [HST.out]; exact h0), her]]
    rw [← her] at HER HEL
    obtain ⟨ne, hne⟩ : ∃ ne, er.length = ne := ⟨_, rfl⟩
    have HNE := Lib.hid hne
    have hne5 := HEL.out
    rw [hne] at HER hne5
    have HNE5 := Lib.hid hne5
    have hs0 : (s == 0) = false := by simp [h0]
    obtain ⟨p0, p1, p2, p3⟩ := HX.out
    have hsz : (w.alloc (.cells #[.slice A n c, .int .i64 s, .slice M m d, .slice E k g] 33)).heap.size = w.heap.size + 1 := World.size_alloc _ _
    clear h hx3 hn3 hb1 hri hs4 her hne hne5 h0 HEL
    go_enter Tryz.func48, Tryz.ntmps48
    go_wp2_with fail
    generalize (w.alloc (.cells #[.slice A n c, .int .i64 s, .slice M m d, .slice E k g] 33)) = w1 at *
    have HZ1 := Lib.hid hsz
    have HER' := Lib.hid (fun W (hW : Below w1.heap.size w1 W) => HER.out W (HB1.out.trans (hW.mono HB1.out.size)))
    have HRE' := Lib.hid (fun W (hW : Below w1.heap.size w1 W) (Am : Option Addr) (h1 : RdI W W.heap.size Am [0]) (Ae : Option Addr) (ce : Nat) (h4 : RdI W W.heap.size Ae er) => HRE.out W (HB1.out.trans (hW.mono HB1.out.size)) Am Ae ne ce er h1 h4 HNE.out HNE5.out)
    have HLT := Lib.hid (show w.heap.size < w1.heap.size by omega)
    have HB0 := Lib.hid (Below.refl w1.heap.size w1)
    have HX1 := Lib.hid (show BoxA w1 w.heap.size A n c s M m d E k g from ⟨p0, p1, p2, p3⟩)
    clear HER HRE hsz
    go_region_held3 (fun w' => w'.cell? ⟨w.heap.size, 0, none⟩ = some (.slice A n c) ∧ w'.cell? ⟨w.heap.size, 1, none⟩ = some (.int .i64 s) ∧ w'.cell? ⟨w.heap.size, 2, none⟩ = some (.slice M m d) ∧ w'.cell? ⟨w.heap.size, 3, none⟩ = some (.slice E k g)) (first | with_reducible exact ⟨p0, p1, p2, p3⟩ | go_keep)
      (first
      | (go_simp; go_at_call 61; refine (HER'.out _ (by repeat (first | exact HB0.out | refine Below.drew ?_ | refine Below.alloc ?_ (by first | exact Nat.le_refl _ | simp) _))).mono ?_; rintro e w4 ⟨A4, c4, rfl, hr4, hb4⟩
         have HR4 := Lib.hid hr4
         have HB4 := Lib.hid (show Below w1.heap.size w1 w4 from Below.trans (by repeat (first | exact HB0.out | refine Below.drew ?_ | refine Below.alloc ?_ (by first | exact Nat.le_refl _ | simp) _)) (hb4.mono (by first | exact Nat.le_refl _ | simp)))
         try (have hzr : Row w4 w1.heap.size 3 [.int .i64 0] := Row.below (by first | with_reducible exact Row.new w1 [.int .i64 0] 3 | with_reducible exact row_dr7 (Row.new w1 [.int .i64 0] 3) | with_reducible exact Row.new w1.drew [.int .i64 0] 3) hb4 (by simp); have HZR := Lib.hid hzr)
         obtain ⟨p0, p1, p2, p3⟩ := (show BoxA w1 w.heap.size A n c s M m d E k g from ⟨p0, p1, p2, p3⟩).below HB4.out HLT.out
         clear hr4 hb4)
      | (go_simp; go_at_call 22; refine (HRE'.out _ (by repeat (first | exact HB4.out | refine Below.drew ?_ | refine Below.alloc ?_ HB4.out.size _)) _ (by first | exact Row.rd (zs := [0]) HZR.out | exact Row.rd (zs := [0]) (row_dr7 HZR.out) | exact Row.rd (zs := [0]) (Row.new w4 [.int .i64 0] 3) | exact Row.rd (zs := [0]) (row_dr7 (Row.new w4 [.int .i64 0] 3)) | exact Row.rd (zs := [0]) (Row.new w4.drew [.int .i64 0] 3)) _ _ (by first | exact HR4.out | exact rd_drew7 HR4.out | exact rd_alloc7 HR4.out _ | exact rd_drew7 (rd_alloc7 HR4.out _) | exact rd_alloc7 (rd_drew7 HR4.out) _)).mono ?_; rintro e w5 ⟨v5, rfl, ho5, hb5⟩
         have HO5 := Lib.hid (own_moreR ho5 (show w.heap.size ≤ _ from Nat.le_trans (Nat.le_of_lt HLT.out) (Nat.le_trans HB4.out.size (by first | exact Nat.le_refl _ | simp))))
         have HB5 := Lib.hid (show Below w.heap.size w w5 from HB1.out.trans (Below.mono (Below.trans (by repeat (first | exact HB4.out | refine Below.drew ?_ | refine Below.alloc ?_ HB4.out.size _)) (hb5.mono (Nat.le_trans HB4.out.size (by first | exact Nat.le_refl _ | simp)))) HB1.out.size))
         obtain ⟨p0, p1, p2, p3⟩ := (show BoxA w1 w.heap.size A n c s M m d E k g from HX1.out).below (show Below w1.heap.size w1 w5 from Below.trans (by repeat (first | exact HB4.out | refine Below.drew ?_ | refine Below.alloc ?_ HB4.out.size _)) (hb5.mono (Nat.le_trans HB4.out.size (by first | exact Nat.le_refl _ | simp)))) HLT.out
         clear ho5 hb5))
    all_goals
      go_wp2_with fail
      go_ret
      exact ⟨_, rfl, HO5.out, HB5.out⟩
set_option maxHeartbeats 8000000 in
set_option maxRecDepth 100000 in
theorem r7Estimate_any (A : Option Addr) (n c : Nat) (s : Int) (M : Option Addr) (m d : Nat) (E : Option Addr) (k g : Nat) (a : Au) (A3 : Option Addr) (n3 c3 : Nat) (onto : List Int) (A2 : Option Addr) (n2 c2 : Nat) (ob : List Int) (w : World) (h : AuR w w.heap.size A n c s M m d E k g a) (hri : RightW a) (hs4 : a.st ≤ 4096) (hx : RdI w w.heap.size A2 ob) (hn : ob.length = n2) (hb : n2 ≤ 100000)
    (hx3 : RdI w w.heap.size A3 onto) (hn3 : onto.length = n3) (hb3 : n3 ≤ 100000) (hk5 : k ≤ 100000) :
    Calls Tryz.prog 28 #[.agg #[.slice A n c, .int .i64 s, .slice M m d, .slice E k g], .slice A3 n3 c3, .slice A2 n2 c2] w fun e w' => ∃ A n c, e = .returned (.slice A n c) ∧ RdI w' w'.heap.size A (esR a onto ob) ∧ (esR a onto ob).length = n ∧ Below w.heap.size w w' := by
  have hb1 := (Below.refl w.heap.size w).alloc (Nat.le_refl _) (.cells #[.slice A n c, .int .i64 s, .slice M m d, .slice E k g] 33)
  have HB1 := Lib.hid hb1
  have HX := Lib.hid (BoxA.made w A n c s M m d E k g 33)
  have HBG := Lib.hid (fun W (hW : Below w.heap.size w W) => (r7Begin_any A n c s M m d E k g a A3 n3 c3 onto W ((h.below hW (Nat.le_refl _)).more hW.size) hri hs4 ((hx3.below hW (Nat.le_refl _)).more hW.size) hn3 hb3).mono (R' := fun e w' => ∃ A c, e = .returned (.slice A (fsR a onto).length c) ∧ RdI w' w'.heap.size A (fsR a onto) ∧ Below W.heap.size W w') fun e w' hh => by
    obtain ⟨v, he, ho, hb⟩ := hh
    obtain ⟨A, c, rfl, hr, _, _⟩ := own_rdc ho
    exact ⟨A, c, he, hr, hb⟩)
  have HNX := Lib.hid (fun W (hW : Below w.heap.size w W) (Ae : Option Addr) (ne ce : Nat) (es : List Int) (x : Int) (h1 : RdI W W.heap.size Ae es) (h2 : es.length = ne) (h6 : ne ≤ 100000) => (r7Next_any A n c s M m d E k g a A3 n3 c3 onto Ae ne ce es x W ((h.below hW (Nat.le_refl _)).more hW.size) hri hs4 h1 h2 h6 ((hx3.below hW (Nat.le_refl _)).more hW.size) hn3 hb3 hk5).mono (R' := fun e w' => ∃ A c, e = .returned (.slice A (nxR a onto es x).length c) ∧ RdI w' w'.heap.size A (nxR a onto es x) ∧ Below W.heap.size W w') fun e w' hh => by
    obtain ⟨v, he, ho, hb⟩ := hh
    obtain ⟨A, c, rfl, hr, _, _⟩ := own_rdc ho
    exact ⟨A, c, he, hr, hb⟩)
  have HOB := Lib.hid hx
  have HON := Lib.hid hn
  have HS4 := Lib.hid (show a.st.toNat ≤ 4096 by omega)
  have HBG1 := Lib.hid (HBG.out _ hb1)
  clear h hx hn hx3 hn3 hri hs4 hb1 HBG
  obtain ⟨p0, p1, p2, p3⟩ := HX.out
  go_enter Tryz.func28, Tryz.ntmps28
  go_wp2_with fail
  refine HBG1.out.mono ?_
  rintro e w1 ⟨A4, c4, rfl, hr4, hb4⟩
  have HB4 := Lib.hid (show Below (w.heap.size + 1) (w.alloc (.cells #[.slice A n c, .int .i64 s, .slice M m d, .slice E k g] 33)) w1 from by rw [World.size_alloc] at hb4; exact hb4)
  have HR4 := Lib.hid (show RdI w1 w1.heap.size A4 (esR a onto (ob.take 0)) from hr4)
  clear hr4 hb4 p0 p1 p2 p3 HBG1
  go_wp2_with fail
  go_loopw [7, 8] (fun v iv wr => ∃ (j : Nat) (A' : Option Addr) (n' c' : Nat), j ≤ n2 ∧ v = .slice A' n' c' ∧ iv = .int .i64 j ∧ (esR a onto (ob.take j)).length = n' ∧ Hid (RdI wr wr.heap.size A' (esR a onto (ob.take j))) ∧ Hid (Below (w.heap.size + 1) (w.alloc (.cells #[.slice A n c, .int .i64 s, .slice M m d, .slice E k g] 33)) wr)) (fun _ i _ => n2 - (intOf i).toNat)
  case atStart => exact ⟨0, A4, _, c4, Nat.zero_le _, rfl, rfl, rfl, HR4, HB4⟩
  case round =>
    clear HR4 HB4
    obtain ⟨j, Ae, ne, ce, hj, rfl, rfl, hne, hrd, hbel1⟩ := hrel
    have hbel := Lib.hid (HB1.out.trans (hbel1.out.mono (Nat.le_succ _)))
    have hbs := hbel1.out.size
    rw [World.size_alloc] at hbs
    obtain ⟨p0, p1, p2, p3⟩ := HX.out.below hbel1.out (Nat.lt_succ_self _)
    by_cases hlt : j < n2
    · obtain ⟨bo, oo, rfl, hbo, hco⟩ := HOB.out (by rw [HON.out]; omega)
      have hz : j < ob.length := by rw [HON.out]; exact hlt
      have hc1 := (hbel.out.cell (p := ⟨bo, oo + j, none⟩) hbo).trans (hco j hz)
      obtain ⟨x, hxe⟩ : ∃ x, x = ob.getD j 0 := ⟨_, rfl⟩
      rw [← hxe] at hc1
      have HEN := Lib.hid (show esR a onto (ob.take (j + 1)) = nxR a onto (esR a onto (ob.take j)) x from es_next7 (by rw [hxe, List.getD_eq_getElem?_getD, List.getElem?_eq_getElem hz]; rfl))
      have hel := esR_len a onto (ob.take j)
      have hel4 := HS4.out
      obtain ⟨es, hes⟩ : ∃ es, es = esR a onto (ob.take j) := ⟨_, rfl⟩
      rw [← hes] at hne hrd HEN hel
      have HNE := Lib.hid hne
      have HNE5 := Lib.hid (show ne ≤ 100000 by omega)
      have HN1 := Lib.hid (fun W (hW : Below wr.heap.size wr W) => HNX.out W (hbel.out.trans (hW.mono hbel.out.size)) Ae ne ce es x ((hrd.out.below hW (Nat.le_refl _)).more hW.size) HNE.out HNE5.out)
      have HB0 := Lib.hid (Below.refl wr.heap.size wr)
      have HB0d := Lib.hid (Below.refl wr.heap.size wr).drew
      have HZZ := Lib.hid (show w.heap.size < wr.heap.size by omega)
      have z0 : (j : Int) < (n2 : Int) := by omega
      have z1 : (0 : Int) ≤ (j : Int) := by omega
      clear hco hz hxe hes hne hel hel4 hbs
      go_wp2_with fail
      go_region_held3 (fun w' => w'.cell? ⟨w.heap.size, 0, none⟩ = some (.slice A n c) ∧ w'.cell? ⟨w.heap.size, 1, none⟩ = some (.int .i64 s) ∧ w'.cell? ⟨w.heap.size, 2, none⟩ = some (.slice M m d) ∧ w'.cell? ⟨w.heap.size, 3, none⟩ = some (.slice E k g) ∧ w'.cell? ⟨bo, oo + j, none⟩ = some (.int .i64 x)) (first | with_reducible exact ⟨p0, p1, p2, p3, hc1⟩ | go_keep)
        (first
        | (go_simp; go_at_call 26; (first | with_reducible refine (HN1.out _ HB0.out).mono ?_ | with_reducible refine (HN1.out _ HB0d.out).mono ?_); rintro e w4 ⟨A4, c4, rfl, hr4, hb4⟩
           have HR4 := Lib.hid hr4
           have HB4 := Lib.hid (show Below wr.heap.size wr w4 from by first | exact HB0.out.trans (hb4.mono HB0.out.size) | exact HB0d.out.trans (hb4.mono HB0d.out.size))
           obtain ⟨p0, p1, p2, p3⟩ := (show BoxA wr w.heap.size A n c s M m d E k g from ⟨p0, p1, p2, p3⟩).below HB4.out HZZ.out
           have hc1 := ((hbel.out.trans (HB4.out.mono hbel.out.size)).cell (p := ⟨bo, oo + j, none⟩) hbo).trans ((hbel.out.cell (p := ⟨bo, oo + j, none⟩) hbo).symm.trans hc1)
           clear hr4 hb4))
      all_goals
        go_wp2_with fail
        go_roundw
        case rel => exact ⟨j + 1, _, _, _, by omega, rfl, by go_num, by rw [HEN.out], Lib.hid (by rw [HEN.out]; exact HR4.out), Lib.hid (hbel1.out.trans (HB4.out.mono (Nat.succ_le_of_lt HZZ.out)))⟩
        case measure => simp [intOf]; omega
    · have hk : ob.take j = ob := List.take_of_length_le (by rw [HON.out]; omega)
      rw [hk] at hne hrd
      have z0 : (n2 : Int) ≤ (j : Int) := by omega
      go_wp2_with fail
      go_ret
      exact ⟨Ae, ne, ce, rfl, hrd.out, hne, hbel.out⟩
end Go.Proofs.YtaadhpkpekmfoaaGreat
