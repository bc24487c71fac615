/- The contract of Match where there is an error: the first one. -/
import Derived.Test.YtdccmebkoibkhaaWmatch
import Derived.Test.YtdccmebkoibkhaaWrmatchE
namespace Go.Proofs.Ytdccmebkoibkhaa
open Go.RowKit

set_option maxHeartbeats 800000 in
theorem wMatch_err1 (A F : Option Addr) (vb vs : Value) (n1 n2 c1 c2 Bx By : Nat) (a f : List Int) (w : World) (ha : RdI w Bx A a) (hf : RdI w By F f) (la : a.length = n1) (lf : f.length = n2) (ba : n1 ≤ 4096) (bf : n2 ≤ 4096) (e1 : wcE f a ≠ 0) :
    Calls Try.prog 35 #[.slice A n1 c1, .slice F n2 c2, vb, vs] w fun e w' => e = .returned (.tuple #[.slice none 0 0, .bool false, .int .i64 (wcE f a)]) ∧ w' = w := by
  have H1 := Lib.hid (wCheck_any A F _ c1 _ c2 _ _ a f w ha hf la lf (by omega) (by omega))
  obtain ⟨v, hv⟩ : ∃ v, v = wcE f a := ⟨_, rfl⟩
  rw [← hv] at H1 e1 ⊢
  have hne : (v == 0) = false := by simpa using e1
  have hne2 : (v != 0) = true := by simpa using e1
  clear ha hf la lf hv
  go_enter Try.func35, Try.ntmps35
  go_wp2_with fail
  refine H1.out.mono ?_
  rintro e w' ⟨rfl, rfl⟩
  go_wp2_with fail
  go_ret3
  exact ⟨rfl, rfl⟩
set_option maxHeartbeats 800000 in
theorem wMatch_err2 (A F B S : Option Addr) (n1 n2 n3 n4 c1 c2 c3 c4 Bx By Bz Bu : Nat) (a f b s : List Int) (w : World) (ha : RdI w Bx A a) (hf : RdI w By F f) (hb : RdI w Bz B b) (hs : RdI w Bu S s) (la : a.length = n1) (lf : f.length = n2) (lb : b.length = n3) (ls : s.length = n4) (ba : n1 ≤ 4096) (bf : n2 ≤ 4096) (bb : n3 ≤ 4096) (bs : n4 ≤ 4096) (e1 : wcE f a = 0) (e2 : wcE s b ≠ 0) :
    Calls Try.prog 35 #[.slice A n1 c1, .slice F n2 c2, .slice B n3 c3, .slice S n4 c4] w fun e w' => e = .returned (.tuple #[.slice none 0 0, .bool false, .int .i64 (wcE s b)]) ∧ w' = w := by
  have H1 := Lib.hid (wCheck_any A F _ c1 _ c2 _ _ a f w ha hf la lf (by omega) (by omega))
  have H2 := Lib.hid (wCheck_any B S _ c3 _ c4 _ _ b s w hb hs lb ls (by omega) (by omega))
  rw [e1] at H1
  obtain ⟨v, hv⟩ : ∃ v, v = wcE s b := ⟨_, rfl⟩
  rw [← hv] at H2 e2 ⊢
  have hne : (v == 0) = false := by simpa using e2
  have hne2 : (v != 0) = true := by simpa using e2
  clear ha hf hb hs la lf lb ls hv e1
  go_enter Try.func35, Try.ntmps35
  go_wp2_with fail
  refine H1.out.mono ?_
  rintro e w' ⟨rfl, rfl⟩
  go_wp2_with fail
  refine H2.out.mono ?_
  rintro e w' ⟨rfl, rfl⟩
  go_wp2_with fail
  go_ret3
  exact ⟨rfl, rfl⟩

/-- What no error of a word over a set says. -/
theorem wc_ok {f a : List Int} (h : wcE f a = 0) : csE 32 f = 0 ∧ ∀ x ∈ a, x ∈ f := by
  unfold wcE at h
  by_cases h1 : csE 32 f = 0
  · refine ⟨h1, ?_⟩
    rw [if_neg (by simp [h1])] at h
    by_cases h2 : 4096 < a.length
    · rw [if_pos h2] at h; omega
    · rw [if_neg h2] at h
      by_cases h3 : inB f a = true
      · intro x hx
        unfold inB at h3
        simpa using List.all_eq_true.1 h3 x hx
      · rw [if_neg h3] at h; omega
  · rw [if_pos h1] at h; exact absurd h h1
theorem cs_mem0 {f : List Int} (h : csE 32 f = 0) : ∀ z ∈ f, 0 ≤ z := fun z hz => by
  obtain ⟨t, ht, rfl⟩ := mem_getD hz
  exact (cs_range_ok h t ht).1

/-- Both, where there is no error, of words of at most so many events. -/
theorem match_both (A F B S : Option Addr) (n1 n2 n3 n4 c1 c2 c3 c4 : Nat) (a f b s : List Int) (w : World) (ha : RdI w w.heap.size A a) (hf : RdI w w.heap.size F f) (hb : RdI w w.heap.size B b) (hs : RdI w w.heap.size S s) (la : a.length = n1) (lf : f.length = n2) (lb : b.length = n3) (ls : s.length = n4)
    (k1 : n1 ≤ c1) (t1 : c1 ≤ 9223372036854775807) (k3 : n3 ≤ c3) (t3 : c3 ≤ 9223372036854775807) (ba : n1 ≤ 100) (bf : n2 ≤ 100) (bb : n3 ≤ 100) (bs : n4 ≤ 100) (e1 : wcE f a = 0) (e2 : wcE s b = 0) :
    ∃ R, R = mg (cmn f s) [] a b ∧ R.1.length ≤ 200 ∧ (∀ W, Below w.heap.size w W → Calls Try.prog 35 #[.slice A n1 c1, .slice F n2 c2, .slice B n3 c3, .slice S n4 c4] W fun e w' => ∃ C c, e = .returned (.tuple #[.slice C R.1.length c, .bool R.2, .int .i64 0]) ∧ RdI w' w'.heap.size C R.1 ∧ Below W.heap.size W w')
      ∧ (∀ W, Below w.heap.size w W → Calls Try.prog 36 #[.slice A n1 c1, .slice F n2 c2, .slice B n3 c3, .slice S n4 c4] W fun e w' => ∃ C c, e = .returned (.tuple #[.slice C R.1.length c, .bool R.2]) ∧ RdI w' w'.heap.size C R.1 ∧ Below W.heap.size W w') := by
  obtain ⟨f1, f2⟩ := wc_ok e1
  obtain ⟨s1, s2⟩ := wc_ok e2
  subst la lf lb ls
  have up : ∀ {B0 : Option Addr} {z : List Int}, RdI w w.heap.size B0 z → ∀ W, Below w.heap.size w W → RdI W W.heap.size B0 z := fun h W hW => (h.below hW (Nat.le_refl _)).more hW.size
  refine ⟨mg (cmn f s) [] a b, rfl, ?_, fun W hW => ?_, fun W hW => ?_⟩
  · have := mg_len (f := f) (s := s) _ a b (Nat.le_refl _) ⟨f2, s2⟩; omega
  · exact wMatch_ok A F B S c1 c2 c3 c4 a f b s W (up ha W hW) (up hf W hW) (up hb W hW) (up hs W hW) k1 t1 k3 t3 (by omega) (by omega) (by omega) (by omega) e1 e2 (cs_up f1) (cs_up s1)
  · exact r2Match_any F S f.length c2 s.length c4 f s rfl rfl (by omega) (by omega) (cs_mem0 f1) (cs_mem0 s1) (a.length + b.length) _ _ a b W (Nat.le_refl _) (by omega) (up hf W hW) (up hs W hW) ⟨f2, s2⟩ ⟨A, c1, rfl, up ha W hW, k1, t1⟩ ⟨B, c3, rfl, up hb W hW, k3, t3⟩
end Go.Proofs.Ytdccmebkoibkhaa
