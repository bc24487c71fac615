/- The contract of merge: the least word in which two words agree on their common events. -/
import Derived.Test.YtdccmebkoibkhaaWfree
import Derived.Test.YtdccmebkoibkhaaOwnC
import Derived.Deep.RegionHeld3
import Derived.Deep.AppendLies
import Derived.Deep.DrawnRows
namespace Go.Proofs.Ytdccmebkoibkhaa
open Go.RowKit
attribute [local go_sem ↓] Go.wp_at_zero Go.wp_at_succ

theorem rdI_tail {w : World} {B b o : Nat} {z : Int} {r : List Int} (h : RdI w B (some ⟨b, o, none⟩) (z :: r)) : RdI w B (some ⟨b, o + 1, none⟩) r := fun h0 => by
  obtain ⟨b', o', e, hb, hc⟩ := h (by simp)
  cases e
  refine ⟨b, o + 1, rfl, hb, fun j hj => ?_⟩
  have := hc (j + 1) (by simp; omega)
  rw [show o + 1 + j = o + (j + 1) from by omega, this]
  simp

/-- What merge answers, with what it has taken so far. -/
def mg (cm : List Int) (acc : List Int) : List Int → List Int → List Int × Bool
  | [], [] => (acc, true)
  | x :: a, [] => if x ∈ cm then ([], false) else mg cm (acc ++ [x]) a []
  | [], y :: b => if y ∈ cm then ([], false) else mg cm (acc ++ [y]) [] b
  | x :: a, y :: b =>
    if x ∉ cm ∧ (y ∈ cm ∨ x < y) then mg cm (acc ++ [x]) a (y :: b)
    else if y ∉ cm then mg cm (acc ++ [y]) (x :: a) b
    else if x = y then mg cm (acc ++ [x]) a b
    else ([], false)
termination_by a b => a.length + b.length

def lenOf : Value → Nat
  | .slice _ n _ => n
  | _ => 0

/-- A slice that holds a list below a block. -/
def Sl (w : World) (B : Nat) (v : Value) (l : List Int) : Prop := ∃ A c, v = .slice A l.length c ∧ RdI w B A l ∧ l.length ≤ c ∧ c ≤ 9223372036854775807
theorem Sl.below {w w' : World} {B : Nat} {v : Value} {l : List Int} (h : Sl w B v l) (hb : Below B w w') : Sl w' B v l := by
  obtain ⟨A, c, e, hr, h1, h2⟩ := h
  exact ⟨A, c, e, hr.below hb (Nat.le_refl _), h1, h2⟩

theorem sl_tail {w w1 : World} {B b1 o1 n c : Nat} {x : Int} {a : List Int} (hta : RdI w B (some ⟨b1, o1 + 1, none⟩) a) (hb : Below B w w1) (hn : n = (x :: a).length) (hnc : n ≤ c) (hc : c ≤ 9223372036854775807) :
    Sl w1 B (.slice (if c = 1 then some ⟨b1, o1, none⟩ else some ⟨b1, o1 + 1, none⟩) (n - 1) (c - 1)) a := by
  simp only [List.length_cons] at hn
  refine ⟨_, c - 1, by rw [show n - 1 = a.length from by omega], ?_, by omega, by omega⟩
  by_cases h1 : c = 1
  · have : a = [] := List.eq_nil_of_length_eq_zero (by omega)
    subst this
    exact RdI.nil _ _ _
  · rw [if_neg h1]; exact hta.below hb (Nat.le_refl _)

set_option maxHeartbeats 3200000 in
set_option maxRecDepth 4000 in
theorem merge_any (C : Option Addr) (m d : Nat) (cm : List Int) (va vb : Value) (a b : List Int) (w : World)
    (hcm : RdI w w.heap.size C cm) (hm : cm.length = m) (hb' : m ≤ 140737488355328) (hup : Up cm) (ha : Sl w w.heap.size va a) (hb : Sl w w.heap.size vb b) (hab : (a.length + b.length) * 8 ≤ 140737488351232) :
    Calls Try.prog 56 #[va, vb, .slice C m d] w fun e w' => ∃ A c, e = .returned (.tuple #[.slice A (mg cm [] a b).1.length c, .bool (mg cm [] a b).2]) ∧ RdI w' w'.heap.size A (mg cm [] a b).1 ∧ Below w.heap.size w w' := by
  obtain ⟨i0, hi, hz0, hz1, hz2⟩ := info_parts info_int
  have hmf : ∀ (fn : Fn) (first cap : Array Value) (w : World), (Instr.makeFunc fn first cap).run Try.prog w = .ok (.func fn first cap) w := fun _ _ _ _ => rfl
  obtain ⟨w0, hw0⟩ : ∃ w0, w0 = w.alloc (.cells #[.slice C m d] 22) := ⟨_, rfl⟩
  have hb0 : Below w.heap.size w w0 := by rw [hw0]; exact (Below.refl _ _).alloc (Nat.le_refl _) _
  have hs0 : w0.heap.size = w.heap.size + 1 := by rw [hw0]; simp
  have hc0 : w0.cell? ⟨w.heap.size, 0, none⟩ = some (.slice C m d) := by rw [hw0, World.cell?_alloc_at _ _ _ _ rfl]; rfl
  have hcm0 := hcm.below hb0 (Nat.le_refl _)
  have ha0 := ha.below hb0
  have hbb0 := hb.below hb0
  obtain ⟨R, hR⟩ : ∃ R, R = mg cm [] a b := ⟨_, rfl⟩
  rw [← hR]
  have HA := Lib.hid ha0
  have HB := Lib.hid hbb0
  have HR := Lib.hid hR.symm
  have HF := Lib.hid (fun (va : Value) (l : List Int) (W : World) (h : Below (w.heap.size + 1) w0 W) (hl : Sl W w.heap.size va l) (q : Nat) =>
    show Calls Try.prog 68 #[va, .pointer (some ⟨w.heap.size, 0, none⟩)] (W.drewN q) fun e w' => e = .returned (.bool (freeB cm l)) ∧ ∃ m, w' = (W.drewN q).drewN m by
      obtain ⟨A, c, rfl, hr, h1, h2⟩ := hl
      exact free_any w.heap.size C m d w.heap.size cm A _ c w.heap.size l (W.drewN q) (((below_drewN h q).cell (by simp)).trans hc0) (hcm0.below (below_drewN h q) (Nat.le_succ _)) hr rfl hm hb' hup)
  have HW0 := Lib.hid hw0
  have HS0 := Lib.hid hs0
  have HB0 := Lib.hid hb0
  obtain ⟨T, hT⟩ : ∃ T, T = a.length + b.length := ⟨_, rfl⟩
  rw [← hT] at hab
  have HT := Lib.hid hT
  clear hcm hm hb' hup ha hb hc0 hcm0 ha0 hbb0 hR hs0 hb0 hT hw0
  go_enter Try.func56, Try.ntmps56
  go_wp2_with fail
  go_loopw [0, 1, 9] (fun va vb v wr => ∃ (a b acc : List Int), Hid (Sl wr w.heap.size va a) ∧ Hid (Sl wr w.heap.size vb b) ∧ Hid (Own wr (w.heap.size + 1) v acc) ∧ Hid (mg cm acc a b = R) ∧ Hid (acc.length + a.length + b.length ≤ T) ∧ Below (w.heap.size + 1) w0 wr) (fun va vb _ _ => lenOf va + lenOf vb)
  case atStart => exact ⟨a, b, [], by rw [← HW0.out]; exact HA.out, by rw [← HW0.out]; exact HB.out, World.ownsRow_nil _ _ _ _, HR.out, by have := HT.out; simp [Hid]; omega, by rw [← HW0.out]; exact Below.refl _ _⟩
  case round =>
    obtain ⟨a, b, acc, ha, hb, hown, hmg, hlen, hnx⟩ := hrel
    cases a with
    | nil =>
      cases b with
      | nil =>
        obtain ⟨A, c, rfl, hra, hca1, hca2⟩ := ha.out
        obtain ⟨A2, c2, rfl, hrb, hcb1, hcb2⟩ := hb.out
        have hm2 := Lib.hid (show (acc, true) = R by have := hmg.out; rwa [mg] at this)
        have hf := Lib.hid (own_rd hown.out)
        clear hra hrb hmg ha hb
        go_wp2_with fail
        go_ret2
        obtain ⟨A', c', e', hr⟩ := hf.out
        exact ⟨A', c', by rw [← hm2.out, ← e']; rfl, by rw [← hm2.out]; exact hr, HB0.out.trans (hnx.mono (Nat.le_succ _))⟩
      | cons y b =>
        obtain ⟨A, c, rfl, hra, hca1, hca2⟩ := ha.out
        have FA := Lib.hid (HF.out _ _ wr hnx ha.out)
        rw [show freeB cm [] = false from rfl] at FA
        obtain ⟨A2, c2, rfl, hrb, hcb1, hcb2⟩ := hb.out
        obtain ⟨b2, o2, rfl, hbB2, hy1⟩ := hrb (by simp)
        have hy : wr.cell? ⟨b2, o2, none⟩ = some (.int .i64 y) := by simpa using hy1 0 (by simp)
        have htb := Lib.hid (rdI_tail hrb)
        have FB := Lib.hid (HF.out _ _ wr hnx hb.out)
        have hac : acc.length + 1 ≤ T := by have := hlen.out; simp at this; omega
        obtain ⟨n2, hn2⟩ : ∃ n2, n2 = (y :: b).length := ⟨_, rfl⟩
        rw [← hn2] at FB hcb1
        rw [← hn2]
        have HN2 := Lib.hid hn2
        have j1 : (1 : Int) ≤ (n2 : Int) := by simp at hn2; omega
        clear hn2 hrb hy1
        have j2 : (n2 : Int) ≤ (c2 : Int) := by omega
        have j3 : (0 : Int) < (n2 : Int) := by omega
        have j4 : ¬ n2 = 0 := by omega
        have j5 : 0 < n2 := by omega
        by_cases hyc : y ∈ cm
        · rw [show freeB cm (y :: b) = false by simp [freeB, hyc]] at FB
          have hm2 := Lib.hid (show R = ([], false) by have := hmg.out; rw [mg, if_pos hyc] at this; exact this.symm)
          clear hyc hra hmg
          go_wp2_with fail
          go_quiet ((go_at_call 68; first | (with_reducible exact Calls.quiet_of (FA.out _)) | (with_reducible exact Calls.quiet_of (FB.out _))))
          go_wp2_with fail
          refine (FB.out _).mono ?_
          rintro e w7 ⟨rfl, q7, hw7'⟩
          have hw7 := Lib.hid hw7'
          clear hw7'
          go_wp2_with fail
          go_quiet (fail)
          go_wp2_with fail
          go_ret2
          exact ⟨none, 0, by rw [hm2.out]; rfl, by rw [hm2.out]; exact RdI.nil _ _ _, HB0.out.trans ((by have h7 := hw7.out; subst h7; first | exact below_drewN (below_drewN (below_drewN hnx _) _) _ | exact below_drewN (below_drewN hnx _) _ : Below (w.heap.size + 1) w0 _).mono (Nat.le_succ _))⟩
        · rw [show freeB cm (y :: b) = true by simp [freeB, hyc]] at FB
          have hm2 := Lib.hid (show mg cm (acc ++ [y]) [] b = R by have := hmg.out; rwa [mg, if_neg hyc] at this)
          clear hyc hra hmg
          go_wp2_with fail
          go_quiet ((go_at_call 68; first | (with_reducible exact Calls.quiet_of (FA.out _)) | (with_reducible exact Calls.quiet_of (FB.out _))))
          go_wp2_with fail
          refine (FB.out _).mono ?_
          rintro e w7 ⟨rfl, q7, hw7'⟩
          have hw7 := Lib.hid hw7'
          clear hw7'
          go_wp2_with fail
          have hyq : (w7).cell? ⟨b2, o2, none⟩ = some (.int .i64 y) := by have h7 := hw7.out; subst h7; exact hy
          have htbq : RdI (w7) w.heap.size (some ⟨b2, o2 + 1, none⟩) b := by have h7 := hw7.out; subst h7; exact htb.out
          have haq0 : Sl wr w.heap.size (.slice A 0 c) [] := ha.out
          have hbq0 : Sl wr w.heap.size (.slice (some ⟨b2, o2, none⟩) n2 c2) (y :: b) := by have := hb.out; rwa [← HN2.out] at this
          have haq : Sl (w7) w.heap.size (.slice A 0 c) [] := by have h7 := hw7.out; subst h7; exact haq0
          have hbq : Sl (w7) w.heap.size (.slice (some ⟨b2, o2, none⟩) n2 c2) (y :: b) := by have h7 := hw7.out; subst h7; exact hbq0
          have hownq : (w7).ownsRow (w.heap.size + 1) 3 1 u9 acc.length (acc.map (Value.int .i64)) := by have h7 := hw7.out; subst h7; exact hown.out
          have hnxq : Below (w.heap.size + 1) w0 (w7) := by have h7 := hw7.out; subst h7; first | exact below_drewN (below_drewN hnx _) _ | exact below_drewN (below_drewN (below_drewN hnx _) _) _
          clear haq0 hbq0 ha hb hown hnx hy htb hw7
          generalize w7 = wq at *
          have hnx := Lib.hid hnxq
          have hown := Lib.hid hownq
          have ha := Lib.hid haq
          have hb := Lib.hid hbq
          have hsz := Nat.le_trans (Nat.le_of_eq HS0.out.symm) hnxq.size
          have htb := Lib.hid htbq
          have hne := World.new_ne wq ⟨b2, o2, none⟩ hyq
          have hag : u9.ownBlock ≠ some b2 := fun h => by have := (hownq.lt b2 h).1; omega
          have hlt := Lib.hid (fun k hk => (hownq.lt k hk).1)
          clear hnxq hownq haq hbq htbq
          go_region_held3 (fun w' => w'.cell? ⟨b2, o2, none⟩ = some (.int .i64 y)) (first | go_keep | (rw [hgrow.cell_far _ (by simp; omega) (Ne.symm hag)]; assumption))
            ((refine step_append_lies _ (by rfl) _ _ _ (by rfl) (w.heap.size + 1) 3 i0 _ 1 8 Try.underlying22 hi hz0 hz1 hz2 rfl (by omega) u9 acc.length (acc.map (Value.int .i64)) (by rfl) ((hown.out.alloc _).drew) ⟨wq.heap.size, 0, none⟩ 1 1 [.int .i64 y] (by rfl) (by rfl) (World.news_of_block (cs := #[.int .i64 y]) (t := 3) (fr := (0, 0)) (heap_alloc_new wq _)) (by simp [Value.oneCell']) (by omega) (by unfold maxLen; omega) (by omega) (by simp; omega) (wq.heap.size + 1) (by simp) ?_; intro gg cap w1 hown1 hgrow hat hlt1))
          have R0 : Below (w.heap.size + 1) wq w1 := by
            first
            | exact (((Below.refl _ wq).alloc hsz _).drew).grown hgrow (by simp; omega) hlt.out
            | exact ((Below.refl _ wq).alloc hsz _).grown hgrow (by simp; omega) hlt.out
          have R1 := Lib.hid (hnx.out.trans R0)
          have R2 := Lib.hid (show Own w1 (w.heap.size + 1) (.slice (some ⟨gg, 0, none⟩) (acc.length + 1) cap) (acc ++ [y]) by simpa [Own] using hown1)
          have R3 := Lib.hid (R0.mono (Nat.le_succ _))
          clear R0 hown1 hgrow hat
          go_wp2_with fail
          go_roundw
          case rel => exact ⟨[], b, acc ++ [y], ha.out.below R3.out, sl_tail htb.out R3.out HN2.out (by omega) hcb2, R2, hm2, by have := hlen.out; simp [Hid] at this ⊢; omega, R1.out⟩
          case measure => simp [lenOf]; omega
    | cons x a =>
      obtain ⟨A, c, rfl, hra, hca1, hca2⟩ := ha.out
      obtain ⟨b1, o1, rfl, hbB1, hx1⟩ := hra (by simp)
      have hx : wr.cell? ⟨b1, o1, none⟩ = some (.int .i64 x) := by simpa using hx1 0 (by simp)
      have hta := Lib.hid (rdI_tail hra)
      have FA := Lib.hid (HF.out _ _ wr hnx ha.out)
      have hac : acc.length + 1 ≤ T := by have := hlen.out; simp at this; omega
      cases b with
      | nil =>
        obtain ⟨A2, c2, rfl, hrb, hcb1, hcb2⟩ := hb.out
        have FB := Lib.hid (HF.out _ _ wr hnx hb.out)
        rw [show freeB cm [] = false from rfl] at FB
        obtain ⟨n, hn⟩ : ∃ n, n = (x :: a).length := ⟨_, rfl⟩
        rw [← hn] at FA hca1
        rw [← hn]
        have HN := Lib.hid hn
        have i1 : (1 : Int) ≤ (n : Int) := by simp at hn; omega
        clear hn hra hx1
        have i2 : (n : Int) ≤ (c : Int) := by omega
        have i3 : (0 : Int) < (n : Int) := by omega
        have i4 : ¬ n = 0 := by omega
        have i5 : 0 < n := by omega
        by_cases hxc : x ∈ cm
        · rw [show freeB cm (x :: a) = false by simp [freeB, hxc]] at FA
          have hm2 := Lib.hid (show R = ([], false) by have := hmg.out; rw [mg, if_pos hxc] at this; exact this.symm)
          clear hxc hrb hmg
          go_wp2_with fail
          go_quiet ((go_at_call 68; first | (with_reducible exact Calls.quiet_of (FA.out _)) | (with_reducible exact Calls.quiet_of (FB.out _))))
          go_wp2_with fail
          refine (FB.out _).mono ?_
          rintro e w7 ⟨rfl, q7, hw7'⟩
          have hw7 := Lib.hid hw7'
          clear hw7'
          go_wp2_with fail
          go_quiet (fail)
          go_wp2_with fail
          go_ret2
          exact ⟨none, 0, by rw [hm2.out]; rfl, by rw [hm2.out]; exact RdI.nil _ _ _, HB0.out.trans ((by have h7 := hw7.out; subst h7; first | exact below_drewN (below_drewN (below_drewN hnx _) _) _ | exact below_drewN (below_drewN hnx _) _ : Below (w.heap.size + 1) w0 _).mono (Nat.le_succ _))⟩
        · rw [show freeB cm (x :: a) = true by simp [freeB, hxc]] at FA
          have hm2 := Lib.hid (show mg cm (acc ++ [x]) a [] = R by have := hmg.out; rwa [mg, if_neg hxc] at this)
          clear hxc hrb hmg
          go_wp2_with fail
          go_quiet ((go_at_call 68; first | (with_reducible exact Calls.quiet_of (FA.out _)) | (with_reducible exact Calls.quiet_of (FB.out _))))
          go_wp2_with fail
          have hxq : (wr.drewN nq).cell? ⟨b1, o1, none⟩ = some (.int .i64 x) := hx
          have htaq : RdI (wr.drewN nq) w.heap.size (some ⟨b1, o1 + 1, none⟩) a := hta.out
          have haq0 : Sl wr w.heap.size (.slice (some ⟨b1, o1, none⟩) n c) (x :: a) := by have := ha.out; rwa [← HN.out] at this
          have hbq0 : Sl wr w.heap.size (.slice A2 0 c2) [] := hb.out
          have haq : Sl (wr.drewN nq) w.heap.size (.slice (some ⟨b1, o1, none⟩) n c) (x :: a) := haq0
          have hbq : Sl (wr.drewN nq) w.heap.size (.slice A2 0 c2) [] := hbq0
          have hownq : (wr.drewN nq).ownsRow (w.heap.size + 1) 3 1 u9 acc.length (acc.map (Value.int .i64)) := hown.out
          have hnxq : Below (w.heap.size + 1) w0 (wr.drewN nq) := below_drewN hnx _
          clear haq0 hbq0 hx hta ha hb hown hnx
          generalize wr.drewN nq = wq at *
          have hnx := Lib.hid hnxq
          have hown := Lib.hid hownq
          have ha := Lib.hid haq
          have hb := Lib.hid hbq
          have hsz := Nat.le_trans (Nat.le_of_eq HS0.out.symm) hnxq.size
          have hta := Lib.hid htaq
          have hne := World.new_ne wq ⟨b1, o1, none⟩ hxq
          have hag : u9.ownBlock ≠ some b1 := fun h => by have := (hownq.lt b1 h).1; omega
          have hlt := Lib.hid (fun k hk => (hownq.lt k hk).1)
          clear hnxq hownq haq hbq htaq
          go_region_held3 (fun w' => w'.cell? ⟨b1, o1, none⟩ = some (.int .i64 x)) (first | go_keep | (rw [hgrow.cell_far _ (by simp; omega) (Ne.symm hag)]; assumption))
            ((refine step_append_lies _ (by rfl) _ _ _ (by rfl) (w.heap.size + 1) 3 i0 _ 1 8 Try.underlying22 hi hz0 hz1 hz2 rfl (by omega) u9 acc.length (acc.map (Value.int .i64)) (by rfl) ((hown.out.alloc _).drew) ⟨wq.heap.size, 0, none⟩ 1 1 [.int .i64 x] (by rfl) (by rfl) (World.news_of_block (cs := #[.int .i64 x]) (t := 3) (fr := (0, 0)) (heap_alloc_new wq _)) (by simp [Value.oneCell']) (by omega) (by unfold maxLen; omega) (by omega) (by simp; omega) (wq.heap.size + 1) (by simp) ?_; intro gg cap w1 hown1 hgrow hat hlt1))
          have R0 : Below (w.heap.size + 1) wq w1 := by
            first
            | exact (((Below.refl _ wq).alloc hsz _).drew).grown hgrow (by simp; omega) hlt.out
            | exact ((Below.refl _ wq).alloc hsz _).grown hgrow (by simp; omega) hlt.out
          have R1 := Lib.hid (hnx.out.trans R0)
          have R2 := Lib.hid (show Own w1 (w.heap.size + 1) (.slice (some ⟨gg, 0, none⟩) (acc.length + 1) cap) (acc ++ [x]) by simpa [Own] using hown1)
          have R3 := Lib.hid (R0.mono (Nat.le_succ _))
          clear R0 hown1 hgrow hat
          go_wp2_with fail
          go_roundw
          case rel => exact ⟨a, [], acc ++ [x], sl_tail hta.out R3.out HN.out (by omega) hca2, hb.out.below R3.out, R2, hm2, by have := hlen.out; simp [Hid] at this ⊢; omega, R1.out⟩
          case measure => simp [lenOf]; omega
      | cons y b =>
        obtain ⟨A2, c2, rfl, hrb, hcb1, hcb2⟩ := hb.out
        obtain ⟨b2, o2, rfl, hbB2, hy1⟩ := hrb (by simp)
        have hy : wr.cell? ⟨b2, o2, none⟩ = some (.int .i64 y) := by simpa using hy1 0 (by simp)
        have htb := Lib.hid (rdI_tail hrb)
        have FB := Lib.hid (HF.out _ _ wr hnx hb.out)
        obtain ⟨n, hn⟩ : ∃ n, n = (x :: a).length := ⟨_, rfl⟩
        rw [← hn] at FA hca1
        rw [← hn]
        have HN := Lib.hid hn
        have i1 : (1 : Int) ≤ (n : Int) := by simp at hn; omega
        clear hn hra hx1
        have i2 : (n : Int) ≤ (c : Int) := by omega
        have i3 : (0 : Int) < (n : Int) := by omega
        have i4 : ¬ n = 0 := by omega
        have i5 : 0 < n := by omega
        obtain ⟨n2, hn2⟩ : ∃ n2, n2 = (y :: b).length := ⟨_, rfl⟩
        rw [← hn2] at FB hcb1
        rw [← hn2]
        have HN2 := Lib.hid hn2
        have j1 : (1 : Int) ≤ (n2 : Int) := by simp at hn2; omega
        clear hn2 hrb hy1
        have j2 : (n2 : Int) ≤ (c2 : Int) := by omega
        have j3 : (0 : Int) < (n2 : Int) := by omega
        have j4 : ¬ n2 = 0 := by omega
        have j5 : 0 < n2 := by omega
        by_cases hxc : x ∈ cm
        · rw [show freeB cm (x :: a) = false by simp [freeB, hxc]] at FA
          by_cases hyc : y ∈ cm
          · rw [show freeB cm (y :: b) = false by simp [freeB, hyc]] at FB
            by_cases hxy : x = y
            · have hm2 := Lib.hid (show mg cm (acc ++ [x]) a b = R by have := hmg.out; rwa [mg, if_neg (by simp [hxc]), if_neg (by simp [hyc]), if_pos hxy] at this)
              have hxyb : (x == y) = true := by simpa using hxy
              clear hxc hyc hmg hxy
              go_wp2_with fail
              go_quiet ((go_at_call 68; first | (with_reducible exact Calls.quiet_of (FA.out _)) | (with_reducible exact Calls.quiet_of (FB.out _))))
              go_wp2_with fail
              refine (FB.out _).mono ?_
              rintro e w7 ⟨rfl, q7, hw7'⟩
              have hw7 := Lib.hid hw7'
              clear hw7'
              go_wp2_with fail
              have hx7 : w7.cell? ⟨b1, o1, none⟩ = some (.int .i64 x) := by have h7 := hw7.out; subst h7; exact hx
              have hy7 : w7.cell? ⟨b2, o2, none⟩ = some (.int .i64 y) := by have h7 := hw7.out; subst h7; exact hy
              go_quiet (fail)
              go_wp2_with fail
              have hxq : (w7.drewN nq).cell? ⟨b1, o1, none⟩ = some (.int .i64 x) := by have h7 := hw7.out; subst h7; exact hx
              have htaq : RdI (w7.drewN nq) w.heap.size (some ⟨b1, o1 + 1, none⟩) a := by have h7 := hw7.out; subst h7; exact hta.out
              have hyq : (w7.drewN nq).cell? ⟨b2, o2, none⟩ = some (.int .i64 y) := by have h7 := hw7.out; subst h7; exact hy
              have htbq : RdI (w7.drewN nq) w.heap.size (some ⟨b2, o2 + 1, none⟩) b := by have h7 := hw7.out; subst h7; exact htb.out
              have haq0 : Sl wr w.heap.size (.slice (some ⟨b1, o1, none⟩) n c) (x :: a) := by have := ha.out; rwa [← HN.out] at this
              have hbq0 : Sl wr w.heap.size (.slice (some ⟨b2, o2, none⟩) n2 c2) (y :: b) := by have := hb.out; rwa [← HN2.out] at this
              have haq : Sl (w7.drewN nq) w.heap.size (.slice (some ⟨b1, o1, none⟩) n c) (x :: a) := by have h7 := hw7.out; subst h7; exact haq0
              have hbq : Sl (w7.drewN nq) w.heap.size (.slice (some ⟨b2, o2, none⟩) n2 c2) (y :: b) := by have h7 := hw7.out; subst h7; exact hbq0
              have hownq : (w7.drewN nq).ownsRow (w.heap.size + 1) 3 1 u9 acc.length (acc.map (Value.int .i64)) := by have h7 := hw7.out; subst h7; exact hown.out
              have hnxq : Below (w.heap.size + 1) w0 (w7.drewN nq) := by have h7 := hw7.out; subst h7; first | exact below_drewN (below_drewN hnx _) _ | exact below_drewN (below_drewN (below_drewN hnx _) _) _
              clear haq0 hbq0 hx hta ha hb hown hnx hy htb hw7
              generalize w7.drewN nq = wq at *
              have hnx := Lib.hid hnxq
              have hown := Lib.hid hownq
              have ha := Lib.hid haq
              have hb := Lib.hid hbq
              have hsz := Nat.le_trans (Nat.le_of_eq HS0.out.symm) hnxq.size
              have hta := Lib.hid htaq
              have htb := Lib.hid htbq
              have hne := World.new_ne wq ⟨b1, o1, none⟩ hxq
              have hag : u9.ownBlock ≠ some b1 := fun h => by have := (hownq.lt b1 h).1; omega
              have hlt := Lib.hid (fun k hk => (hownq.lt k hk).1)
              clear hnxq hownq haq hbq htaq htbq
              go_region_held3 (fun w' => w'.cell? ⟨b1, o1, none⟩ = some (.int .i64 x)) (first | go_keep | (rw [hgrow.cell_far _ (by simp; omega) (Ne.symm hag)]; assumption))
                ((refine step_append_lies _ (by rfl) _ _ _ (by rfl) (w.heap.size + 1) 3 i0 _ 1 8 Try.underlying22 hi hz0 hz1 hz2 rfl (by omega) u9 acc.length (acc.map (Value.int .i64)) (by rfl) ((hown.out.alloc _).drew) ⟨wq.heap.size, 0, none⟩ 1 1 [.int .i64 x] (by rfl) (by rfl) (World.news_of_block (cs := #[.int .i64 x]) (t := 3) (fr := (0, 0)) (heap_alloc_new wq _)) (by simp [Value.oneCell']) (by omega) (by unfold maxLen; omega) (by omega) (by simp; omega) (wq.heap.size + 1) (by simp) ?_; intro gg cap w1 hown1 hgrow hat hlt1))
              have R0 : Below (w.heap.size + 1) wq w1 := by
                first
                | exact (((Below.refl _ wq).alloc hsz _).drew).grown hgrow (by simp; omega) hlt.out
                | exact ((Below.refl _ wq).alloc hsz _).grown hgrow (by simp; omega) hlt.out
              have R1 := Lib.hid (hnx.out.trans R0)
              have R2 := Lib.hid (show Own w1 (w.heap.size + 1) (.slice (some ⟨gg, 0, none⟩) (acc.length + 1) cap) (acc ++ [x]) by simpa [Own] using hown1)
              have R3 := Lib.hid (R0.mono (Nat.le_succ _))
              clear R0 hown1 hgrow hat
              go_wp2_with fail
              go_roundw
              case rel => exact ⟨a, b, acc ++ [x], sl_tail hta.out R3.out HN.out (by omega) hca2, sl_tail htb.out R3.out HN2.out (by omega) hcb2, R2, hm2, by have := hlen.out; simp [Hid] at this ⊢; omega, R1.out⟩
              case measure => simp [lenOf]; omega
            · have hm2 := Lib.hid (show R = ([], false) by have := hmg.out; rw [mg, if_neg (by simp [hxc]), if_neg (by simp [hyc]), if_neg hxy] at this; exact this.symm)
              have hxyb : (x == y) = false := by simpa using hxy
              clear hxc hyc hmg hxy
              go_wp2_with fail
              go_quiet ((go_at_call 68; first | (with_reducible exact Calls.quiet_of (FA.out _)) | (with_reducible exact Calls.quiet_of (FB.out _))))
              go_wp2_with fail
              refine (FB.out _).mono ?_
              rintro e w7 ⟨rfl, q7, hw7'⟩
              have hw7 := Lib.hid hw7'
              clear hw7'
              go_wp2_with fail
              have hx7 : w7.cell? ⟨b1, o1, none⟩ = some (.int .i64 x) := by have h7 := hw7.out; subst h7; exact hx
              have hy7 : w7.cell? ⟨b2, o2, none⟩ = some (.int .i64 y) := by have h7 := hw7.out; subst h7; exact hy
              go_quiet (fail)
              go_wp2_with fail
              go_ret2
              exact ⟨none, 0, by rw [hm2.out]; rfl, by rw [hm2.out]; exact RdI.nil _ _ _, HB0.out.trans ((by have h7 := hw7.out; subst h7; first | exact below_drewN (below_drewN (below_drewN hnx _) _) _ | exact below_drewN (below_drewN hnx _) _ : Below (w.heap.size + 1) w0 _).mono (Nat.le_succ _))⟩
          · rw [show freeB cm (y :: b) = true by simp [freeB, hyc]] at FB
            have hm2 := Lib.hid (show mg cm (acc ++ [y]) (x :: a) b = R by have := hmg.out; rwa [mg, if_neg (by simp [hxc]), if_pos (by simpa using hyc)] at this)
            clear hxc hyc hmg
            go_wp2_with fail
            go_quiet ((go_at_call 68; first | (with_reducible exact Calls.quiet_of (FA.out _)) | (with_reducible exact Calls.quiet_of (FB.out _))))
            go_wp2_with fail
            refine (FB.out _).mono ?_
            rintro e w7 ⟨rfl, q7, hw7'⟩
            have hw7 := Lib.hid hw7'
            clear hw7'
            go_wp2_with fail
            have hxq : (w7).cell? ⟨b1, o1, none⟩ = some (.int .i64 x) := by have h7 := hw7.out; subst h7; exact hx
            have htaq : RdI (w7) w.heap.size (some ⟨b1, o1 + 1, none⟩) a := by have h7 := hw7.out; subst h7; exact hta.out
            have hyq : (w7).cell? ⟨b2, o2, none⟩ = some (.int .i64 y) := by have h7 := hw7.out; subst h7; exact hy
            have htbq : RdI (w7) w.heap.size (some ⟨b2, o2 + 1, none⟩) b := by have h7 := hw7.out; subst h7; exact htb.out
            have haq0 : Sl wr w.heap.size (.slice (some ⟨b1, o1, none⟩) n c) (x :: a) := by have := ha.out; rwa [← HN.out] at this
            have hbq0 : Sl wr w.heap.size (.slice (some ⟨b2, o2, none⟩) n2 c2) (y :: b) := by have := hb.out; rwa [← HN2.out] at this
            have haq : Sl (w7) w.heap.size (.slice (some ⟨b1, o1, none⟩) n c) (x :: a) := by have h7 := hw7.out; subst h7; exact haq0
            have hbq : Sl (w7) w.heap.size (.slice (some ⟨b2, o2, none⟩) n2 c2) (y :: b) := by have h7 := hw7.out; subst h7; exact hbq0
            have hownq : (w7).ownsRow (w.heap.size + 1) 3 1 u9 acc.length (acc.map (Value.int .i64)) := by have h7 := hw7.out; subst h7; exact hown.out
            have hnxq : Below (w.heap.size + 1) w0 (w7) := by have h7 := hw7.out; subst h7; first | exact below_drewN (below_drewN hnx _) _ | exact below_drewN (below_drewN (below_drewN hnx _) _) _
            clear haq0 hbq0 hx hta ha hb hown hnx hy htb hw7
            generalize w7 = wq at *
            have hnx := Lib.hid hnxq
            have hown := Lib.hid hownq
            have ha := Lib.hid haq
            have hb := Lib.hid hbq
            have hsz := Nat.le_trans (Nat.le_of_eq HS0.out.symm) hnxq.size
            have hta := Lib.hid htaq
            have htb := Lib.hid htbq
            have hne := World.new_ne wq ⟨b2, o2, none⟩ hyq
            have hag : u9.ownBlock ≠ some b2 := fun h => by have := (hownq.lt b2 h).1; omega
            have hlt := Lib.hid (fun k hk => (hownq.lt k hk).1)
            clear hnxq hownq haq hbq htaq htbq
            go_region_held3 (fun w' => w'.cell? ⟨b2, o2, none⟩ = some (.int .i64 y)) (first | go_keep | (rw [hgrow.cell_far _ (by simp; omega) (Ne.symm hag)]; assumption))
              ((refine step_append_lies _ (by rfl) _ _ _ (by rfl) (w.heap.size + 1) 3 i0 _ 1 8 Try.underlying22 hi hz0 hz1 hz2 rfl (by omega) u9 acc.length (acc.map (Value.int .i64)) (by rfl) ((hown.out.alloc _).drew) ⟨wq.heap.size, 0, none⟩ 1 1 [.int .i64 y] (by rfl) (by rfl) (World.news_of_block (cs := #[.int .i64 y]) (t := 3) (fr := (0, 0)) (heap_alloc_new wq _)) (by simp [Value.oneCell']) (by omega) (by unfold maxLen; omega) (by omega) (by simp; omega) (wq.heap.size + 1) (by simp) ?_; intro gg cap w1 hown1 hgrow hat hlt1))
            have R0 : Below (w.heap.size + 1) wq w1 := by
              first
              | exact (((Below.refl _ wq).alloc hsz _).drew).grown hgrow (by simp; omega) hlt.out
              | exact ((Below.refl _ wq).alloc hsz _).grown hgrow (by simp; omega) hlt.out
            have R1 := Lib.hid (hnx.out.trans R0)
            have R2 := Lib.hid (show Own w1 (w.heap.size + 1) (.slice (some ⟨gg, 0, none⟩) (acc.length + 1) cap) (acc ++ [y]) by simpa [Own] using hown1)
            have R3 := Lib.hid (R0.mono (Nat.le_succ _))
            clear R0 hown1 hgrow hat
            go_wp2_with fail
            go_roundw
            case rel => exact ⟨(x :: a), b, acc ++ [y], ha.out.below R3.out, sl_tail htb.out R3.out HN2.out (by omega) hcb2, R2, hm2, by have := hlen.out; simp [Hid] at this ⊢; omega, R1.out⟩
            case measure => simp [lenOf]; omega
        · rw [show freeB cm (x :: a) = true by simp [freeB, hxc]] at FA
          by_cases hyc : y ∈ cm
          · rw [show freeB cm (y :: b) = false by simp [freeB, hyc]] at FB
            have hm2 := Lib.hid (show mg cm (acc ++ [x]) a (y :: b) = R by have := hmg.out; rwa [mg, if_pos ⟨hxc, .inl hyc⟩] at this)
            clear hxc hyc hmg
            go_wp2_with fail
            go_quiet ((go_at_call 68; first | (with_reducible exact Calls.quiet_of (FA.out _)) | (with_reducible exact Calls.quiet_of (FB.out _))))
            go_wp2_with fail
            have hxq : (wr.drewN nq).cell? ⟨b1, o1, none⟩ = some (.int .i64 x) := hx
            have htaq : RdI (wr.drewN nq) w.heap.size (some ⟨b1, o1 + 1, none⟩) a := hta.out
            have hyq : (wr.drewN nq).cell? ⟨b2, o2, none⟩ = some (.int .i64 y) := hy
            have htbq : RdI (wr.drewN nq) w.heap.size (some ⟨b2, o2 + 1, none⟩) b := htb.out
            have haq0 : Sl wr w.heap.size (.slice (some ⟨b1, o1, none⟩) n c) (x :: a) := by have := ha.out; rwa [← HN.out] at this
            have hbq0 : Sl wr w.heap.size (.slice (some ⟨b2, o2, none⟩) n2 c2) (y :: b) := by have := hb.out; rwa [← HN2.out] at this
            have haq : Sl (wr.drewN nq) w.heap.size (.slice (some ⟨b1, o1, none⟩) n c) (x :: a) := haq0
            have hbq : Sl (wr.drewN nq) w.heap.size (.slice (some ⟨b2, o2, none⟩) n2 c2) (y :: b) := hbq0
            have hownq : (wr.drewN nq).ownsRow (w.heap.size + 1) 3 1 u9 acc.length (acc.map (Value.int .i64)) := hown.out
            have hnxq : Below (w.heap.size + 1) w0 (wr.drewN nq) := below_drewN hnx _
            clear haq0 hbq0 hx hta ha hb hown hnx hy htb
            generalize wr.drewN nq = wq at *
            have hnx := Lib.hid hnxq
            have hown := Lib.hid hownq
            have ha := Lib.hid haq
            have hb := Lib.hid hbq
            have hsz := Nat.le_trans (Nat.le_of_eq HS0.out.symm) hnxq.size
            have hta := Lib.hid htaq
            have htb := Lib.hid htbq
            have hne := World.new_ne wq ⟨b1, o1, none⟩ hxq
            have hag : u9.ownBlock ≠ some b1 := fun h => by have := (hownq.lt b1 h).1; omega
            have hlt := Lib.hid (fun k hk => (hownq.lt k hk).1)
            clear hnxq hownq haq hbq htaq htbq
            go_region_held3 (fun w' => w'.cell? ⟨b1, o1, none⟩ = some (.int .i64 x)) (first | go_keep | (rw [hgrow.cell_far _ (by simp; omega) (Ne.symm hag)]; assumption))
              ((refine step_append_lies _ (by rfl) _ _ _ (by rfl) (w.heap.size + 1) 3 i0 _ 1 8 Try.underlying22 hi hz0 hz1 hz2 rfl (by omega) u9 acc.length (acc.map (Value.int .i64)) (by rfl) ((hown.out.alloc _).drew) ⟨wq.heap.size, 0, none⟩ 1 1 [.int .i64 x] (by rfl) (by rfl) (World.news_of_block (cs := #[.int .i64 x]) (t := 3) (fr := (0, 0)) (heap_alloc_new wq _)) (by simp [Value.oneCell']) (by omega) (by unfold maxLen; omega) (by omega) (by simp; omega) (wq.heap.size + 1) (by simp) ?_; intro gg cap w1 hown1 hgrow hat hlt1))
            have R0 : Below (w.heap.size + 1) wq w1 := by
              first
              | exact (((Below.refl _ wq).alloc hsz _).drew).grown hgrow (by simp; omega) hlt.out
              | exact ((Below.refl _ wq).alloc hsz _).grown hgrow (by simp; omega) hlt.out
            have R1 := Lib.hid (hnx.out.trans R0)
            have R2 := Lib.hid (show Own w1 (w.heap.size + 1) (.slice (some ⟨gg, 0, none⟩) (acc.length + 1) cap) (acc ++ [x]) by simpa [Own] using hown1)
            have R3 := Lib.hid (R0.mono (Nat.le_succ _))
            clear R0 hown1 hgrow hat
            go_wp2_with fail
            go_roundw
            case rel => exact ⟨a, (y :: b), acc ++ [x], sl_tail hta.out R3.out HN.out (by omega) hca2, hb.out.below R3.out, R2, hm2, by have := hlen.out; simp [Hid] at this ⊢; omega, R1.out⟩
            case measure => simp [lenOf]; omega
          · rw [show freeB cm (y :: b) = true by simp [freeB, hyc]] at FB
            by_cases hlt : x < y
            · have hm2 := Lib.hid (show mg cm (acc ++ [x]) a (y :: b) = R by have := hmg.out; rwa [mg, if_pos ⟨hxc, .inr hlt⟩] at this)
              have hd : decide (x < y) = true := by simpa using hlt
              clear hxc hyc hmg
              go_wp2_with fail
              go_quiet ((go_at_call 68; first | (with_reducible exact Calls.quiet_of (FA.out _)) | (with_reducible exact Calls.quiet_of (FB.out _))))
              go_wp2_with fail
              have hxq : (wr.drewN nq).cell? ⟨b1, o1, none⟩ = some (.int .i64 x) := hx
              have htaq : RdI (wr.drewN nq) w.heap.size (some ⟨b1, o1 + 1, none⟩) a := hta.out
              have hyq : (wr.drewN nq).cell? ⟨b2, o2, none⟩ = some (.int .i64 y) := hy
              have htbq : RdI (wr.drewN nq) w.heap.size (some ⟨b2, o2 + 1, none⟩) b := htb.out
              have haq0 : Sl wr w.heap.size (.slice (some ⟨b1, o1, none⟩) n c) (x :: a) := by have := ha.out; rwa [← HN.out] at this
              have hbq0 : Sl wr w.heap.size (.slice (some ⟨b2, o2, none⟩) n2 c2) (y :: b) := by have := hb.out; rwa [← HN2.out] at this
              have haq : Sl (wr.drewN nq) w.heap.size (.slice (some ⟨b1, o1, none⟩) n c) (x :: a) := haq0
              have hbq : Sl (wr.drewN nq) w.heap.size (.slice (some ⟨b2, o2, none⟩) n2 c2) (y :: b) := hbq0
              have hownq : (wr.drewN nq).ownsRow (w.heap.size + 1) 3 1 u9 acc.length (acc.map (Value.int .i64)) := hown.out
              have hnxq : Below (w.heap.size + 1) w0 (wr.drewN nq) := below_drewN hnx _
              clear haq0 hbq0 hx hta ha hb hown hnx hy htb
              generalize wr.drewN nq = wq at *
              have hnx := Lib.hid hnxq
              have hown := Lib.hid hownq
              have ha := Lib.hid haq
              have hb := Lib.hid hbq
              have hsz := Nat.le_trans (Nat.le_of_eq HS0.out.symm) hnxq.size
              have hta := Lib.hid htaq
              have htb := Lib.hid htbq
              have hne := World.new_ne wq ⟨b1, o1, none⟩ hxq
              have hag : u9.ownBlock ≠ some b1 := fun h => by have := (hownq.lt b1 h).1; omega
              have hlt := Lib.hid (fun k hk => (hownq.lt k hk).1)
              clear hnxq hownq haq hbq htaq htbq
              go_region_held3 (fun w' => w'.cell? ⟨b1, o1, none⟩ = some (.int .i64 x)) (first | go_keep | (rw [hgrow.cell_far _ (by simp; omega) (Ne.symm hag)]; assumption))
                ((refine step_append_lies _ (by rfl) _ _ _ (by rfl) (w.heap.size + 1) 3 i0 _ 1 8 Try.underlying22 hi hz0 hz1 hz2 rfl (by omega) u9 acc.length (acc.map (Value.int .i64)) (by rfl) ((hown.out.alloc _).drew) ⟨wq.heap.size, 0, none⟩ 1 1 [.int .i64 x] (by rfl) (by rfl) (World.news_of_block (cs := #[.int .i64 x]) (t := 3) (fr := (0, 0)) (heap_alloc_new wq _)) (by simp [Value.oneCell']) (by omega) (by unfold maxLen; omega) (by omega) (by simp; omega) (wq.heap.size + 1) (by simp) ?_; intro gg cap w1 hown1 hgrow hat hlt1))
              have R0 : Below (w.heap.size + 1) wq w1 := by
                first
                | exact (((Below.refl _ wq).alloc hsz _).drew).grown hgrow (by simp; omega) hlt.out
                | exact ((Below.refl _ wq).alloc hsz _).grown hgrow (by simp; omega) hlt.out
              have R1 := Lib.hid (hnx.out.trans R0)
              have R2 := Lib.hid (show Own w1 (w.heap.size + 1) (.slice (some ⟨gg, 0, none⟩) (acc.length + 1) cap) (acc ++ [x]) by simpa [Own] using hown1)
              have R3 := Lib.hid (R0.mono (Nat.le_succ _))
              clear R0 hown1 hgrow hat
              go_wp2_with fail
              go_roundw
              case rel => exact ⟨a, (y :: b), acc ++ [x], sl_tail hta.out R3.out HN.out (by omega) hca2, hb.out.below R3.out, R2, hm2, by have := hlen.out; simp [Hid] at this ⊢; omega, R1.out⟩
              case measure => simp [lenOf]; omega
            · have hm2 := Lib.hid (show mg cm (acc ++ [y]) (x :: a) b = R by have := hmg.out; rwa [mg, if_neg (fun h => h.2.elim hyc hlt), if_pos hyc] at this)
              have hd : decide (x < y) = false := by simpa using hlt
              clear hxc hyc hmg
              go_wp2_with fail
              go_quiet ((go_at_call 68; first | (with_reducible exact Calls.quiet_of (FA.out _)) | (with_reducible exact Calls.quiet_of (FB.out _))))
              go_wp2_with fail
              refine (FB.out _).mono ?_
              rintro e w7 ⟨rfl, q7, hw7'⟩
              have hw7 := Lib.hid hw7'
              clear hw7'
              go_wp2_with fail
              have hxq : (w7).cell? ⟨b1, o1, none⟩ = some (.int .i64 x) := by have h7 := hw7.out; subst h7; exact hx
              have htaq : RdI (w7) w.heap.size (some ⟨b1, o1 + 1, none⟩) a := by have h7 := hw7.out; subst h7; exact hta.out
              have hyq : (w7).cell? ⟨b2, o2, none⟩ = some (.int .i64 y) := by have h7 := hw7.out; subst h7; exact hy
              have htbq : RdI (w7) w.heap.size (some ⟨b2, o2 + 1, none⟩) b := by have h7 := hw7.out; subst h7; exact htb.out
              have haq0 : Sl wr w.heap.size (.slice (some ⟨b1, o1, none⟩) n c) (x :: a) := by have := ha.out; rwa [← HN.out] at this
              have hbq0 : Sl wr w.heap.size (.slice (some ⟨b2, o2, none⟩) n2 c2) (y :: b) := by have := hb.out; rwa [← HN2.out] at this
              have haq : Sl (w7) w.heap.size (.slice (some ⟨b1, o1, none⟩) n c) (x :: a) := by have h7 := hw7.out; subst h7; exact haq0
              have hbq : Sl (w7) w.heap.size (.slice (some ⟨b2, o2, none⟩) n2 c2) (y :: b) := by have h7 := hw7.out; subst h7; exact hbq0
              have hownq : (w7).ownsRow (w.heap.size + 1) 3 1 u9 acc.length (acc.map (Value.int .i64)) := by have h7 := hw7.out; subst h7; exact hown.out
              have hnxq : Below (w.heap.size + 1) w0 (w7) := by have h7 := hw7.out; subst h7; first | exact below_drewN (below_drewN hnx _) _ | exact below_drewN (below_drewN (below_drewN hnx _) _) _
              clear haq0 hbq0 hx hta ha hb hown hnx hy htb hw7
              generalize w7 = wq at *
              have hnx := Lib.hid hnxq
              have hown := Lib.hid hownq
              have ha := Lib.hid haq
              have hb := Lib.hid hbq
              have hsz := Nat.le_trans (Nat.le_of_eq HS0.out.symm) hnxq.size
              have hta := Lib.hid htaq
              have htb := Lib.hid htbq
              have hne := World.new_ne wq ⟨b2, o2, none⟩ hyq
              have hag : u9.ownBlock ≠ some b2 := fun h => by have := (hownq.lt b2 h).1; omega
              have hlt := Lib.hid (fun k hk => (hownq.lt k hk).1)
              clear hnxq hownq haq hbq htaq htbq
              go_region_held3 (fun w' => w'.cell? ⟨b2, o2, none⟩ = some (.int .i64 y)) (first | go_keep | (rw [hgrow.cell_far _ (by simp; omega) (Ne.symm hag)]; assumption))
                ((refine step_append_lies _ (by rfl) _ _ _ (by rfl) (w.heap.size + 1) 3 i0 _ 1 8 Try.underlying22 hi hz0 hz1 hz2 rfl (by omega) u9 acc.length (acc.map (Value.int .i64)) (by rfl) ((hown.out.alloc _).drew) ⟨wq.heap.size, 0, none⟩ 1 1 [.int .i64 y] (by rfl) (by rfl) (World.news_of_block (cs := #[.int .i64 y]) (t := 3) (fr := (0, 0)) (heap_alloc_new wq _)) (by simp [Value.oneCell']) (by omega) (by unfold maxLen; omega) (by omega) (by simp; omega) (wq.heap.size + 1) (by simp) ?_; intro gg cap w1 hown1 hgrow hat hlt1))
              have R0 : Below (w.heap.size + 1) wq w1 := by
                first
                | exact (((Below.refl _ wq).alloc hsz _).drew).grown hgrow (by simp; omega) hlt.out
                | exact ((Below.refl _ wq).alloc hsz _).grown hgrow (by simp; omega) hlt.out
              have R1 := Lib.hid (hnx.out.trans R0)
              have R2 := Lib.hid (show Own w1 (w.heap.size + 1) (.slice (some ⟨gg, 0, none⟩) (acc.length + 1) cap) (acc ++ [y]) by simpa [Own] using hown1)
              have R3 := Lib.hid (R0.mono (Nat.le_succ _))
              clear R0 hown1 hgrow hat
              go_wp2_with fail
              go_roundw
              case rel => exact ⟨(x :: a), b, acc ++ [y], ha.out.below R3.out, sl_tail htb.out R3.out HN2.out (by omega) hcb2, R2, hm2, by have := hlen.out; simp [Hid] at this ⊢; omega, R1.out⟩
              case measure => simp [lenOf]; omega
end Go.Proofs.Ytdccmebkoibkhaa
