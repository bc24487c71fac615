/- The function value of Shuffles: the step of its recursion. -/
import Derived.Test.YtdccmebkoibkhaaShGen
namespace Go.Proofs.Ytdccmebkoibkhaa
open Go.RowKit
attribute [local go_sem ↓] Go.wp_at_zero Go.wp_at_succ
set_option linter.unusedVariables false

theorem callGrow (args : Array Value) (W : World) : (callFunc 51 args).run Try.prog W = .ok (.enter 51 args) W := by
  go_simp

set_option maxHeartbeats 4000000 in
set_option maxRecDepth 4000 in
theorem rec_l {B0 base ba bg N b1 o1 n1 c1 nz c2 cv : Nat} {vA : Value} {Av A2 : Option Addr} {zs a : List Int} {x : Int} {xs : List Value} {w : World} (hz1 : nz + 1 ≤ 4096) (hn1 : n1 ≤ 4096)
    (hG : Gen B0 base ba bg b1 o1 n1 c1 nz (.slice (some ⟨b1, o1, none⟩) n1 c1) (.slice A2 0 c2) vA (.slice Av nz cv) (.slice (if c1 = 1 then some ⟨b1, o1, none⟩ else some ⟨b1, o1 + 1, none⟩) (n1 - 1) (c1 - 1)) (.slice A2 0 c2) false (x :: a) [] zs x xs (shufL (zs ++ [x]) a []) w) (h0a : B0 ≤ ba) (hba : ba < base) (hbg : bg < base) :
    Calls Try.prog 51 #[.slice Av nz cv, .slice (some ⟨b1, o1, none⟩) n1 c1, .slice A2 0 c2, .pointer (some ⟨ba, 0, none⟩), .pointer (some ⟨bg, 0, none⟩)] w (Gp base ba (.slice Av nz cv) (shufL (zs ++ [x]) a []) xs w) := by
  have hxc1 := hG.head
  have hself1 := hG.self
  have hnb1 := hG.neh
  have hnbg1 := hG.neg
  have hbk1 : b1 < w.heap.size := by have := hG.lt; have := hG.size; omega
  have hbgs1 : bg < w.heap.size := by have := hG.size; omega
  have hbase1 := hG.size
  have hni1 : (1 : Int) ≤ (n1 : Int) := by have := hG.one; omega
  have hnc1 : (n1 : Int) ≤ (c1 : Int) := by have := hG.cap; omega
  have hct1 := hG.top
  have hnp1 : (0 : Int) < (n1 : Int) := by omega
  have hnz1 : ¬ n1 = 0 := by omega
  have hnq1 : 0 < n1 := by omega
  have hnu1 : n1 ≤ 4096 := by omega
  have hne1 : ¬ (n1 : Int) = 0 := by omega
  have hnw1 := World.new_ne w ⟨b1, o1, none⟩ hxc1
  have hnx1 := World.new_ne w ⟨bg, 0, none⟩ hself1
  have HG := Lib.hid hG
  clear hG
  have hcg := callGrow
  go_enter Try.func51, Try.ntmps51
  go_wp2_with fail
  go_region_law (first
      | (refine step_app_kept (by rfl) _ _ (by rfl) base (.slice Av nz cv) nz (zs.map (Value.int .i64)) (by rfl) (own_below HG.out.own ((Below.refl _ _).alloc (Nat.le_refl _) _).drew) ⟨w.heap.size, 0, none⟩ 1 (.int .i64 x) (by rfl) (by simp) (by rfl) (by unfold maxLen; omega) (by omega) (by simp; omega) ?_; intro gg1 cap1 w1 hown1 hgrow hkept hat hlt1
         have hxd1 : w1.cell? ⟨b1, o1, none⟩ = some (.int .i64 x) := (hgrow.cell_far ⟨b1, o1, none⟩ (by simp; omega) hnb1).trans ((World.cell?_alloc_lt w (.cells #[.int .i64 x] 3) ⟨b1, o1, none⟩ hbk1).trans hxc1)
         have hselfd1 : w1.cell? ⟨bg, 0, none⟩ = some (.func (.func 51) #[] #[.pointer (some ⟨ba, 0, none⟩), .pointer (some ⟨bg, 0, none⟩)]) := (hgrow.cell_far ⟨bg, 0, none⟩ (by simp; omega) hnbg1).trans ((World.cell?_alloc_lt w (.cells #[.int .i64 x] 3) ⟨bg, 0, none⟩ hbgs1).trans hself1)
         have AP := HG.out.apd gg1 cap1 _ w1 (((Below.refl _ _).alloc (Nat.le_refl _) (.cells #[.int .i64 x] 3)).drew) hown1 hgrow hkept hat
         have HCx1 := Lib.hid (HG.out.call gg1 cap1 w1 AP)
         have HAP1 := Lib.hid AP
         clear AP hown1 hgrow hkept hat hlt1)
      | (go_simp; go_at_call 51; refine HCx1.out.mono ?_; rintro e w2 ⟨rfl, hs1, vA1, hgp⟩; have HGP1 := Lib.hid hgp; clear hgp))
  all_goals
    go_wp2_with fail
    all_goals
      go_end0
      have ap := HAP1.out
      exact ⟨rfl, hs1, vA1, HGP1.out.onto ap.fr ap.onto ap.own⟩

set_option maxHeartbeats 4000000 in
set_option maxRecDepth 4000 in
theorem rec_r {B0 base ba bg N b3 o3 n3 c3 nz c1 cv : Nat} {vA : Value} {Av A1 : Option Addr} {zs b : List Int} {y : Int} {xs : List Value} {w : World} (hz1 : nz + 1 ≤ 4096) (hn3 : n3 ≤ 4096)
    (hG : Gen B0 base ba bg b3 o3 n3 c3 nz (.slice A1 0 c1) (.slice (some ⟨b3, o3, none⟩) n3 c3) vA (.slice Av nz cv) (.slice A1 0 c1) (.slice (if c3 = 1 then some ⟨b3, o3, none⟩ else some ⟨b3, o3 + 1, none⟩) (n3 - 1) (c3 - 1)) true [] (y :: b) zs y xs (shufL (zs ++ [y]) [] b) w) (h0a : B0 ≤ ba) (hba : ba < base) (hbg : bg < base) :
    Calls Try.prog 51 #[.slice Av nz cv, .slice A1 0 c1, .slice (some ⟨b3, o3, none⟩) n3 c3, .pointer (some ⟨ba, 0, none⟩), .pointer (some ⟨bg, 0, none⟩)] w (Gp base ba (.slice Av nz cv) (shufL (zs ++ [y]) [] b) xs w) := by
  have hxc3 := hG.head
  have hself3 := hG.self
  have hnb3 := hG.neh
  have hnbg3 := hG.neg
  have hbk3 : b3 < w.heap.size := by have := hG.lt; have := hG.size; omega
  have hbgs3 : bg < w.heap.size := by have := hG.size; omega
  have hbase3 := hG.size
  have hni3 : (1 : Int) ≤ (n3 : Int) := by have := hG.one; omega
  have hnc3 : (n3 : Int) ≤ (c3 : Int) := by have := hG.cap; omega
  have hct3 := hG.top
  have hnp3 : (0 : Int) < (n3 : Int) := by omega
  have hnz3 : ¬ n3 = 0 := by omega
  have hnq3 : 0 < n3 := by omega
  have hnu3 : n3 ≤ 4096 := by omega
  have hne3 : ¬ (n3 : Int) = 0 := by omega
  have hnw3 := World.new_ne w ⟨b3, o3, none⟩ hxc3
  have hnx3 := World.new_ne w ⟨bg, 0, none⟩ hself3
  have HG := Lib.hid hG
  clear hG
  have hcg := callGrow
  go_enter Try.func51, Try.ntmps51
  go_wp2_with fail
  go_region_law (first
      | (refine step_app_kept (by rfl) _ _ (by rfl) base (.slice Av nz cv) nz (zs.map (Value.int .i64)) (by rfl) (own_below HG.out.own ((Below.refl _ _).alloc (Nat.le_refl _) _).drew) ⟨w.heap.size, 0, none⟩ 1 (.int .i64 y) (by rfl) (by simp) (by rfl) (by unfold maxLen; omega) (by omega) (by simp; omega) ?_; intro gg3 cap3 w3 hown1 hgrow hkept hat hlt1
         have hxd3 : w3.cell? ⟨b3, o3, none⟩ = some (.int .i64 y) := (hgrow.cell_far ⟨b3, o3, none⟩ (by simp; omega) hnb3).trans ((World.cell?_alloc_lt w (.cells #[.int .i64 y] 3) ⟨b3, o3, none⟩ hbk3).trans hxc3)
         have hselfd3 : w3.cell? ⟨bg, 0, none⟩ = some (.func (.func 51) #[] #[.pointer (some ⟨ba, 0, none⟩), .pointer (some ⟨bg, 0, none⟩)]) := (hgrow.cell_far ⟨bg, 0, none⟩ (by simp; omega) hnbg3).trans ((World.cell?_alloc_lt w (.cells #[.int .i64 y] 3) ⟨bg, 0, none⟩ hbgs3).trans hself3)
         have AP := HG.out.apd gg3 cap3 _ w3 (((Below.refl _ _).alloc (Nat.le_refl _) (.cells #[.int .i64 y] 3)).drew) hown1 hgrow hkept hat
         have HCx3 := Lib.hid (HG.out.call gg3 cap3 w3 AP)
         have HAP3 := Lib.hid AP
         clear AP hown1 hgrow hkept hat hlt1)
      | (go_simp; go_at_call 51; refine HCx3.out.mono ?_; rintro e w4 ⟨rfl, hs3, vA3, hgp⟩; have HGP3 := Lib.hid hgp; clear hgp))
  all_goals
    go_wp2_with fail
    all_goals
      go_end0
      have ap := HAP3.out
      exact ⟨rfl, hs3, vA3, HGP3.out.onto ap.fr ap.onto ap.own⟩

set_option maxHeartbeats 4000000 in
set_option maxRecDepth 4000 in
theorem rec_lr {B0 base ba bg N b1 o1 n1 c1 b3 o3 n3 c3 nz cv : Nat} {vA : Value} {Av : Option Addr} {zs a b : List Int} {x y : Int} {xs : List Value} {w : World} (hz1 : nz + 1 ≤ 4096) (hn1 : n1 ≤ 4096) (hn3 : n3 ≤ 4096) (h1n3 : 1 ≤ n3) (h3c : n3 ≤ c3) (h3t : c3 ≤ 9223372036854775807) (hN : a.length + (y :: b).length = N)
    (hG : Gen B0 base ba bg b1 o1 n1 c1 nz (.slice (some ⟨b1, o1, none⟩) n1 c1) (.slice (some ⟨b3, o3, none⟩) n3 c3) vA (.slice Av nz cv) (.slice (if c1 = 1 then some ⟨b1, o1, none⟩ else some ⟨b1, o1 + 1, none⟩) (n1 - 1) (c1 - 1)) (.slice (some ⟨b3, o3, none⟩) n3 c3) false (x :: a) (y :: b) zs x xs (shufL (zs ++ [x]) a (y :: b)) w)
    (hG2 : ∀ hs vA2 w2, GP base ba (.slice Av nz cv) (shufL (zs ++ [x]) a (y :: b)) xs hs vA2 w w2 → Gen B0 base ba bg b3 o3 n3 c3 nz (.slice (some ⟨b1, o1, none⟩) n1 c1) (.slice (some ⟨b3, o3, none⟩) n3 c3) vA2 (.slice Av nz cv) (.slice (some ⟨b1, o1, none⟩) n1 c1) (.slice (if c3 = 1 then some ⟨b3, o3, none⟩ else some ⟨b3, o3 + 1, none⟩) (n3 - 1) (c3 - 1)) true (x :: a) (y :: b) zs y (xs ++ hs.map Hd.enc) (shufL (zs ++ [y]) (x :: a) b) w2)
    (h0a : B0 ≤ ba) (hba : ba < base) (hbg : bg < base) :
    Calls Try.prog 51 #[.slice Av nz cv, .slice (some ⟨b1, o1, none⟩) n1 c1, .slice (some ⟨b3, o3, none⟩) n3 c3, .pointer (some ⟨ba, 0, none⟩), .pointer (some ⟨bg, 0, none⟩)] w (Gp base ba (.slice Av nz cv) (shufL (zs ++ [x]) a (y :: b) ++ shufL (zs ++ [y]) (x :: a) b) xs w) := by
  have hxc1 := hG.head
  have hself1 := hG.self
  have hnb1 := hG.neh
  have hnbg1 := hG.neg
  have hbk1 : b1 < w.heap.size := by have := hG.lt; have := hG.size; omega
  have hbgs1 : bg < w.heap.size := by have := hG.size; omega
  have hbase1 := hG.size
  have hni1 : (1 : Int) ≤ (n1 : Int) := by have := hG.one; omega
  have hnc1 : (n1 : Int) ≤ (c1 : Int) := by have := hG.cap; omega
  have hct1 := hG.top
  have hnp1 : (0 : Int) < (n1 : Int) := by omega
  have hnz1 : ¬ n1 = 0 := by omega
  have hnq1 : 0 < n1 := by omega
  have hnu1 : n1 ≤ 4096 := by omega
  have hne1 : ¬ (n1 : Int) = 0 := by omega
  have hnw1 := World.new_ne w ⟨b1, o1, none⟩ hxc1
  have hnx1 := World.new_ne w ⟨bg, 0, none⟩ hself1
  have hm1 : (1 : Int) ≤ (n3 : Int) := by omega
  have hm2 : (0 : Int) < (n3 : Int) := by omega
  have hm3 : ¬ n3 = 0 := by omega
  have hm4 : ¬ (n3 : Int) = 0 := by omega
  have hm5 : ¬ (n1 : Int) + (n3 : Int) = 0 := by omega
  have HG := Lib.hid hG
  have HG2 := Lib.hid hG2
  clear hG hG2
  have hcg := callGrow
  go_enter Try.func51, Try.ntmps51
  go_wp2_with fail
  go_region_law (first
      | (refine step_app_kept (by rfl) _ _ (by rfl) base (.slice Av nz cv) nz (zs.map (Value.int .i64)) (by rfl) (own_below HG.out.own ((Below.refl _ _).alloc (Nat.le_refl _) _).drew) ⟨w.heap.size, 0, none⟩ 1 (.int .i64 x) (by rfl) (by simp) (by rfl) (by unfold maxLen; omega) (by omega) (by simp; omega) ?_; intro gg1 cap1 w1 hown1 hgrow hkept hat hlt1
         have hxd1 : w1.cell? ⟨b1, o1, none⟩ = some (.int .i64 x) := (hgrow.cell_far ⟨b1, o1, none⟩ (by simp; omega) hnb1).trans ((World.cell?_alloc_lt w (.cells #[.int .i64 x] 3) ⟨b1, o1, none⟩ hbk1).trans hxc1)
         have hselfd1 : w1.cell? ⟨bg, 0, none⟩ = some (.func (.func 51) #[] #[.pointer (some ⟨ba, 0, none⟩), .pointer (some ⟨bg, 0, none⟩)]) := (hgrow.cell_far ⟨bg, 0, none⟩ (by simp; omega) hnbg1).trans ((World.cell?_alloc_lt w (.cells #[.int .i64 x] 3) ⟨bg, 0, none⟩ hbgs1).trans hself1)
         have AP := HG.out.apd gg1 cap1 _ w1 (((Below.refl _ _).alloc (Nat.le_refl _) (.cells #[.int .i64 x] 3)).drew) hown1 hgrow hkept hat
         have HCx1 := Lib.hid (HG.out.call gg1 cap1 w1 AP)
         have HAP1 := Lib.hid AP
         clear AP hown1 hgrow hkept hat hlt1)
      | (go_simp; go_at_call 51; refine HCx1.out.mono ?_; rintro e w2 ⟨rfl, hs1, vA1, hgp⟩; have HGP1 := Lib.hid hgp; clear hgp))
  all_goals
    have p1 := HGP1.out.onto HAP1.out.fr HAP1.out.onto HAP1.out.own
    have hG3 := HG2.out hs1 vA1 w2 p1
    have P1 := Lib.hid p1
    clear p1 hxd1 hselfd1 HCx1 hnw1 hnx1 hxc1 hself1
    generalize (if c1 = 1 then some (⟨b1, o1, none⟩ : Addr) else some ⟨b1, o1 + 1, none⟩) = Q1
    have hxc3 := hG3.head
    have hself3 := hG3.self
    have hnb3 := hG3.neh
    have hnbg3 := hG3.neg
    have hbk3 : b3 < w2.heap.size := by have := hG3.lt; have := hG3.size; omega
    have hbgs3 : bg < w2.heap.size := by have := hG3.size; omega
    have hbase3 := hG3.size
    have hni3 : (1 : Int) ≤ (n3 : Int) := by have := hG3.one; omega
    have hnc3 : (n3 : Int) ≤ (c3 : Int) := by have := hG3.cap; omega
    have hct3 := hG3.top
    have hnp3 : (0 : Int) < (n3 : Int) := by omega
    have hnz3 : ¬ n3 = 0 := by omega
    have hnq3 : 0 < n3 := by omega
    have hnu3 : n3 ≤ 4096 := by omega
    have hne3 : ¬ (n3 : Int) = 0 := by omega
    have hnw3 := World.new_ne w2 ⟨b3, o3, none⟩ hxc3
    have hnx3 := World.new_ne w2 ⟨bg, 0, none⟩ hself3
    have HG3 := Lib.hid hG3
    clear hG3
    go_wp2_with fail
    go_region_law (first
        | (refine step_app_kept (by rfl) _ _ (by rfl) base (.slice Av nz cv) nz (zs.map (Value.int .i64)) (by rfl) (own_below HG3.out.own ((Below.refl _ _).alloc (Nat.le_refl _) _).drew) ⟨w2.heap.size, 0, none⟩ 1 (.int .i64 y) (by rfl) (by simp) (by rfl) (by unfold maxLen; omega) (by omega) (by simp; omega) ?_; intro gg3 cap3 w3 hown1 hgrow hkept hat hlt1
           have hxd3 : w3.cell? ⟨b3, o3, none⟩ = some (.int .i64 y) := (hgrow.cell_far ⟨b3, o3, none⟩ (by simp; omega) hnb3).trans ((World.cell?_alloc_lt w2 (.cells #[.int .i64 y] 3) ⟨b3, o3, none⟩ hbk3).trans hxc3)
           have hselfd3 : w3.cell? ⟨bg, 0, none⟩ = some (.func (.func 51) #[] #[.pointer (some ⟨ba, 0, none⟩), .pointer (some ⟨bg, 0, none⟩)]) := (hgrow.cell_far ⟨bg, 0, none⟩ (by simp; omega) hnbg3).trans ((World.cell?_alloc_lt w2 (.cells #[.int .i64 y] 3) ⟨bg, 0, none⟩ hbgs3).trans hself3)
           have AP := HG3.out.apd gg3 cap3 _ w3 (((Below.refl _ _).alloc (Nat.le_refl _) (.cells #[.int .i64 y] 3)).drew) hown1 hgrow hkept hat
           have HCx3 := Lib.hid (HG3.out.call gg3 cap3 w3 AP)
           have HAP3 := Lib.hid AP
           clear AP hown1 hgrow hkept hat hlt1)
        | (go_simp; go_at_call 51; refine HCx3.out.mono ?_; rintro e w4 ⟨rfl, hs3, vA3, hgp⟩; have HGP3 := Lib.hid hgp; clear hgp))
    all_goals
      go_wp2_with fail
      all_goals
        go_end0
        have ap := HAP3.out
        exact ⟨rfl, hs1 ++ hs3, vA3, P1.out.join (HGP3.out.onto ap.fr ap.onto ap.own) HG.out.own⟩

/-- The contract of the function value, at every length. -/
theorem grow_any {B0 base ba bg : Nat} (h0a : B0 ≤ ba) (hba : ba < base) (hbg : bg < base) (hne : bg ≠ ba) : ∀ N : Nat, GrowAt B0 base ba bg N := by
  intro N
  induction N with
  | zero =>
    intro v va vb vA zs a b xs w hN hv hst hz hx
    obtain rfl : a = [] := List.eq_nil_of_length_eq_zero (by omega)
    obtain rfl : b = [] := List.eq_nil_of_length_eq_zero (by omega)
    obtain ⟨A1, c1, rfl, _, _, _⟩ := hst.fst
    obtain ⟨A2, c2, rfl, _, _, _⟩ := hst.snd
    rw [shufL]
    exact grow_leaf ba bg v A1 A2 c1 c2 zs w base hv (by omega) vA xs hst.cell hst.frz hst.row hba hst.size (by simpa using hx)
  | succ N ih =>
    intro v va vb vA zs a b xs w hN hv hst hz hx
    have hp : 2 ^ (N + 1) = 2 ^ N + 2 ^ N := by rw [Nat.pow_succ]; omega
    have hp0 : 0 < 2 ^ N := Nat.two_pow_pos N
    obtain ⟨Av, cv, e, _, _, _⟩ := own_rdc hv
    subst e
    cases a with
    | nil =>
      cases b with
      | nil => simp at hN
      | cons y b =>
        obtain ⟨A1, c1, e1, _, _, _⟩ := hst.fst
        obtain ⟨A2, c2, e2, hr2, _, _⟩ := hst.snd
        obtain ⟨b3, o3, e3, _, _⟩ := hr2 (by simp)
        subst e1; subst e3; subst e2
        simp only [List.length_nil, List.length_cons] at hN
        rw [shufL]
        exact rec_r (N := N) (by omega) (by simp; omega) (gen_r h0a hba hbg ih (by simp; omega) hv rfl rfl hst hz (by omega)) h0a hba hbg
    | cons x a =>
      obtain ⟨A1, c1, e1, hr1, _, _⟩ := hst.fst
      obtain ⟨b1, o1, e1', _, _⟩ := hr1 (by simp)
      subst e1'; subst e1
      cases b with
      | nil =>
        obtain ⟨A2, c2, e2, _, _, _⟩ := hst.snd
        subst e2
        simp only [List.length_nil, List.length_cons] at hN
        rw [shufL]
        exact rec_l (N := N) (by omega) (by simp; omega) (gen_l h0a hba hbg ih (by simp; omega) hv rfl rfl hst hz (by omega)) h0a hba hbg
      | cons y b =>
        obtain ⟨A2, c2, e2, hr2, hc1, hc2⟩ := hst.snd
        obtain ⟨b3, o3, e3, _, _⟩ := hr2 (by simp)
        subst e3; subst e2
        simp only [List.length_cons] at hN
        rw [shufL]
        refine rec_lr (N := N) (by omega) (by simp; omega) (by simp; omega) (by simp) hc1 hc2 (by simp; omega) (gen_l h0a hba hbg ih (by simp; omega) hv rfl rfl hst hz (by omega)) (fun hs vA2 w2 p => ?_) h0a hba hbg
        have hl : hs.length ≤ 2 ^ N := by
          have h1 := congrArg List.length p.words
          have h2 := shufL_len N (zs ++ [x]) a (y :: b) (by simp; omega)
          rw [List.length_map] at h1
          omega
        exact gen_r h0a hba hbg ih (by simp; omega) (p.fr.self _ _ hv) rfl rfl (hst.next p h0a hba hbg hne) hz (by simp; omega)
end Go.Proofs.Ytdccmebkoibkhaa
