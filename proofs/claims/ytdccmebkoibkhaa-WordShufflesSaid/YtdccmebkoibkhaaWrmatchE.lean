/- The contract of the reference's Match, whole. -/
import Derived.Test.YtdccmebkoibkhaaWrmatchB
import Derived.Test.YtdccmebkoibkhaaWrmatchC
import Derived.Test.YtdccmebkoibkhaaWrmatchD
namespace Go.Proofs.Ytdccmebkoibkhaa
open Go.RowKit

theorem cons1_len (z : Int) (R : List Int × Bool) : (cons1 z R).1.length ≤ R.1.length + 1 := by unfold cons1; by_cases h : R.2 = true <;> simp [h]
theorem mg_len {f s : List Int} : ∀ (n : Nat) (a b : List Int), a.length + b.length ≤ n → Over f s a b → (mg (cmn f s) [] a b).1.length ≤ a.length + b.length := by
  intro n
  induction n with
  | zero =>
    intro a b h _
    obtain rfl : a = [] := List.eq_nil_of_length_eq_zero (by omega)
    obtain rfl : b = [] := List.eq_nil_of_length_eq_zero (by omega)
    rw [mg_end]; simp
  | succ n ih =>
    intro a b hn ho
    have H := mgStep ho
    cases H with
    | nil => rw [mg_end]; simp
    | @l0 x a h => rw [mg_l0 (ho.a x (by simp)) h]; simp
    | @r0 y b h => rw [mg_r0 (ho.b y (by simp)) h]; simp
    | @no x y a b h h2 h3 => rw [mg_no (mem_cmn.2 ⟨ho.a x (by simp), h⟩) (mem_cmn.2 ⟨h2, ho.b y (by simp)⟩) h3]; simp
    | @l1 x a h => rw [mg_l1 h]; have := ih a [] (by simp at hn ⊢; omega) ho.ta; have := cons1_len x (mg (cmn f s) [] a []); simp at *; omega
    | @r1 y b h => rw [mg_r1 h]; have := ih [] b (by simp at hn ⊢; omega) ho.tb; have := cons1_len y (mg (cmn f s) [] [] b); simp at *; omega
    | @aLt x y a b h h2 h3 => rw [mg_a h (.inr h3)]; have := ih a (y :: b) (by simp at hn ⊢; omega) ho.ta; have := cons1_len x (mg (cmn f s) [] a (y :: b)); simp at *; omega
    | @aIn x y a b h h2 h3 => rw [mg_a h (.inl (mem_cmn.2 ⟨h2, ho.b y (by simp)⟩))]; have := ih a (y :: b) (by simp at hn ⊢; omega) ho.ta; have := cons1_len x (mg (cmn f s) [] a (y :: b)); simp at *; omega
    | @bLt x y a b h h2 h3 => rw [mg_b h2 (.inr (by omega))]; have := ih (x :: a) b (by simp at hn ⊢; omega) ho.tb; have := cons1_len y (mg (cmn f s) [] (x :: a) b); simp at *; omega
    | @bIn x y a b h h2 h3 => rw [mg_b h2 (.inl (mem_cmn.2 ⟨ho.a x (by simp), h⟩))]; have := ih (x :: a) b (by simp at hn ⊢; omega) ho.tb; have := cons1_len y (mg (cmn f s) [] (x :: a) b); simp at *; omega
    | @both x a b h h2 => rw [mg_c (mem_cmn.2 ⟨h2, h⟩)]; have := ih a b (by simp at hn ⊢; omega) ho.ta.tb; have := cons1_len x (mg (cmn f s) [] a b); simp at *; omega

theorem sl_nil {w : World} {B : Nat} {v : Value} (h : Sl w B v []) : ∃ A c, v = .slice A 0 c ∧ c ≤ 9223372036854775807 := by
  obtain ⟨A, c, e, _, _, h2⟩ := h
  exact ⟨A, c, e, h2⟩
theorem sl_cons {w : World} {B : Nat} {v : Value} {x : Int} {a : List Int} (h : Sl w B v (x :: a)) : ∃ b o n c, v = .slice (some ⟨b, o, none⟩) n c ∧ RdI w B (some ⟨b, o, none⟩) (x :: a) ∧ n = (x :: a).length ∧ n ≤ c ∧ c ≤ 9223372036854775807 := by
  obtain ⟨A, c, e, hr, h1, h2⟩ := h
  obtain ⟨b, o, rfl, _, _⟩ := hr (by simp)
  exact ⟨b, o, _, c, e, hr, rfl, h1, h2⟩

/-- The reference's Match over any two words of at most so many events over two sets of numbers from 0 on. -/
theorem r2Match_any (F S : Option Addr) (n2 c2 n4 c4 : Nat) (f s : List Int) (hn2 : f.length = n2) (hn4 : s.length = n4) (bn2 : n2 ≤ 4096) (bn4 : n4 ≤ 4096) (f0 : ∀ z ∈ f, 0 ≤ z) (s0 : ∀ z ∈ s, 0 ≤ z) :
    ∀ (n : Nat) (va vb : Value) (a b : List Int) (w : World), a.length + b.length ≤ n → n ≤ 8192 → RdI w w.heap.size F f → RdI w w.heap.size S s → Over f s a b → Sl w w.heap.size va a → Sl w w.heap.size vb b →
      Calls Try.prog 36 #[va, .slice F n2 c2, vb, .slice S n4 c4] w (MtGives (mg (cmn f s) [] a b) w) := by
  intro n
  induction n with
  | zero =>
    intro va vb a b w hn _ hf hs ho ha hb
    obtain rfl : a = [] := List.eq_nil_of_length_eq_zero (by omega)
    obtain rfl : b = [] := List.eq_nil_of_length_eq_zero (by omega)
    obtain ⟨A1, c1, rfl, t1⟩ := sl_nil ha
    obtain ⟨A3, c3, rfl, t3⟩ := sl_nil hb
    rw [mg_end]
    exact rm_nil A1 A3 c1 c3 F S n2 c2 n4 c4 f s ([], true) w hf hs hn2 hn4 bn2 bn4 t1 t3
  | succ n ih =>
    intro va vb a b w hn hN hf hs ho ha hb
    have hrec : ∀ a' b', a'.length + b'.length ≤ n → Over f s a' b' → ∀ va vb W, Below w.heap.size w W → Sl W w.heap.size va a' → Sl W w.heap.size vb b' → Calls Try.prog 36 #[va, .slice F n2 c2, vb, .slice S n4 c4] W (MtGives (mg (cmn f s) [] a' b') W) :=
      fun a' b' hl ho' va vb W hW h1 h2 => ih va vb a' b' W hl (by omega) ((hf.below hW (Nat.le_refl _)).more hW.size) ((hs.below hW (Nat.le_refl _)).more hW.size) ho' (h1.up (Below.refl _ _) hW.size) (h2.up (Below.refl _ _) hW.size)
    have len : ∀ a' b', a'.length + b'.length ≤ n → Over f s a' b' → (mg (cmn f s) [] a' b').1.length ≤ 8192 := fun a' b' hl ho' => by have := mg_len n a' b' hl ho'; omega
    have H := mgStep ho
    cases H with
    | nil =>
      obtain ⟨A1, c1, rfl, t1⟩ := sl_nil ha
      obtain ⟨A3, c3, rfl, t3⟩ := sl_nil hb
      rw [mg_end]
      exact rm_nil A1 A3 c1 c3 F S n2 c2 n4 c4 f s ([], true) w hf hs hn2 hn4 bn2 bn4 t1 t3
    | @l0 x a h =>
      obtain ⟨b1, o1, n1, c1, rfl, r1, e1, k1, t1⟩ := sl_cons ha
      obtain ⟨A3, c3, rfl, t3⟩ := sl_nil hb
      rw [mg_l0 (ho.a x (by simp)) h]
      exact rm_l0 b1 o1 n1 x a A3 c1 c3 F S n2 c2 n4 c4 f s ([], false) w hf hs hn2 hn4 bn2 bn4 r1 e1 k1 t1 (f0 _ (ho.a x (by simp))) t3 h
    | @l1 x a h =>
      obtain ⟨b1, o1, n1, c1, rfl, r1, e1, k1, t1⟩ := sl_cons ha
      obtain ⟨A3, c3, rfl, t3⟩ := sl_nil hb
      rw [mg_l1 h]
      have hl : a.length + ([] : List Int).length ≤ n := by simp at hn ⊢; omega
      exact rm_l1 b1 o1 n1 x a A3 c1 c3 F S n2 c2 n4 c4 f s _ w hf hs hn2 hn4 bn2 bn4 r1 e1 k1 t1 (f0 _ (ho.a x (by simp))) t3 h (len _ _ hl ho.ta) (hrec _ _ hl ho.ta)
    | @r0 y b h =>
      obtain ⟨A1, c1, rfl, t1⟩ := sl_nil ha
      obtain ⟨b3, o3, n3, c3, rfl, r3, e3, k3, t3⟩ := sl_cons hb
      rw [mg_r0 (ho.b y (by simp)) h]
      exact rm_r0 A1 b3 o3 n3 y b c1 c3 F S n2 c2 n4 c4 f s ([], false) w hf hs hn2 hn4 bn2 bn4 t1 r3 e3 k3 t3 (s0 _ (ho.b y (by simp))) h
    | @r1 y b h =>
      obtain ⟨A1, c1, rfl, t1⟩ := sl_nil ha
      obtain ⟨b3, o3, n3, c3, rfl, r3, e3, k3, t3⟩ := sl_cons hb
      rw [mg_r1 h]
      have hl : ([] : List Int).length + b.length ≤ n := by simp at hn ⊢; omega
      exact rm_r1 A1 b3 o3 n3 y b c1 c3 F S n2 c2 n4 c4 f s _ w hf hs hn2 hn4 bn2 bn4 t1 r3 e3 k3 t3 (s0 _ (ho.b y (by simp))) h (ho.b y (by simp)) (len _ _ hl ho.tb) (hrec _ _ hl ho.tb)
    | @aLt x y a b h h2 h3 =>
      obtain ⟨b1, o1, n1, c1, rfl, r1, e1, k1, t1⟩ := sl_cons ha
      obtain ⟨b3, o3, n3, c3, rfl, r3, e3, k3, t3⟩ := sl_cons hb
      rw [mg_a h (.inr h3)]
      have hl : a.length + (y :: b).length ≤ n := by simp at hn ⊢; omega
      exact rm_aLt b1 o1 n1 x a b3 o3 n3 y b c1 c3 F S n2 c2 n4 c4 f s _ w hf hs hn2 hn4 bn2 bn4 r1 e1 k1 t1 (f0 _ (ho.a x (by simp))) r3 e3 k3 t3 (s0 _ (ho.b y (by simp))) h h2 h3 (len _ _ hl ho.ta) (hrec _ _ hl ho.ta)
    | @aIn x y a b h h2 h3 =>
      obtain ⟨b1, o1, n1, c1, rfl, r1, e1, k1, t1⟩ := sl_cons ha
      obtain ⟨b3, o3, n3, c3, rfl, r3, e3, k3, t3⟩ := sl_cons hb
      rw [mg_a h (.inl (mem_cmn.2 ⟨h2, ho.b y (by simp)⟩))]
      have hl : a.length + (y :: b).length ≤ n := by simp at hn ⊢; omega
      exact rm_aIn b1 o1 n1 x a b3 o3 n3 y b c1 c3 F S n2 c2 n4 c4 f s _ w hf hs hn2 hn4 bn2 bn4 r1 e1 k1 t1 (f0 _ (ho.a x (by simp))) r3 e3 k3 t3 (s0 _ (ho.b y (by simp))) h h2 h3 (len _ _ hl ho.ta) (hrec _ _ hl ho.ta)
    | @bLt x y a b h h2 h3 =>
      obtain ⟨b1, o1, n1, c1, rfl, r1, e1, k1, t1⟩ := sl_cons ha
      obtain ⟨b3, o3, n3, c3, rfl, r3, e3, k3, t3⟩ := sl_cons hb
      rw [mg_b h2 (.inr (by omega))]
      have hl : (x :: a).length + b.length ≤ n := by simp at hn ⊢; omega
      exact rm_bLt b1 o1 n1 x a b3 o3 n3 y b c1 c3 F S n2 c2 n4 c4 f s _ w hf hs hn2 hn4 bn2 bn4 r1 e1 k1 t1 (f0 _ (ho.a x (by simp))) r3 e3 k3 t3 (s0 _ (ho.b y (by simp))) h h2 h3 (ho.b y (by simp)) (len _ _ hl ho.tb) (hrec _ _ hl ho.tb)
    | @bIn x y a b h h2 h3 =>
      obtain ⟨b1, o1, n1, c1, rfl, r1, e1, k1, t1⟩ := sl_cons ha
      obtain ⟨b3, o3, n3, c3, rfl, r3, e3, k3, t3⟩ := sl_cons hb
      rw [mg_b h2 (.inl (mem_cmn.2 ⟨ho.a x (by simp), h⟩))]
      have hl : (x :: a).length + b.length ≤ n := by simp at hn ⊢; omega
      exact rm_bIn b1 o1 n1 x a b3 o3 n3 y b c1 c3 F S n2 c2 n4 c4 f s _ w hf hs hn2 hn4 bn2 bn4 r1 e1 k1 t1 (f0 _ (ho.a x (by simp))) r3 e3 k3 t3 (s0 _ (ho.b y (by simp))) h h2 h3 (ho.b y (by simp)) (len _ _ hl ho.tb) (hrec _ _ hl ho.tb)
    | @both x a b h h2 =>
      obtain ⟨b1, o1, n1, c1, rfl, r1, e1, k1, t1⟩ := sl_cons ha
      obtain ⟨b3, o3, n3, c3, rfl, r3, e3, k3, t3⟩ := sl_cons hb
      rw [mg_c (mem_cmn.2 ⟨h2, h⟩)]
      have hl : a.length + b.length ≤ n := by simp at hn ⊢; omega
      exact rm_both b1 o1 n1 x a b3 o3 n3 b c1 c3 F S n2 c2 n4 c4 f s _ w hf hs hn2 hn4 bn2 bn4 r1 e1 k1 t1 (f0 _ (ho.a x (by simp))) r3 e3 k3 t3 (s0 _ (ho.b x (by simp))) h h2 (len _ _ hl ho.ta.tb) (hrec _ _ hl ho.ta.tb)
    | @no x y a b h h2 h3 =>
      obtain ⟨b1, o1, n1, c1, rfl, r1, e1, k1, t1⟩ := sl_cons ha
      obtain ⟨b3, o3, n3, c3, rfl, r3, e3, k3, t3⟩ := sl_cons hb
      rw [mg_no (mem_cmn.2 ⟨ho.a x (by simp), h⟩) (mem_cmn.2 ⟨h2, ho.b y (by simp)⟩) h3]
      exact rm_no b1 o1 n1 x a b3 o3 n3 y b c1 c3 F S n2 c2 n4 c4 f s ([], false) w hf hs hn2 hn4 bn2 bn4 r1 e1 k1 t1 (f0 _ (ho.a x (by simp))) r3 e3 k3 t3 (s0 _ (ho.b y (by simp))) h h2 h3
end Go.Proofs.Ytdccmebkoibkhaa
