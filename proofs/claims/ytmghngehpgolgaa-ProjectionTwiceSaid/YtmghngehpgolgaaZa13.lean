/- Texts merged: what follows were texts of their own. -/
import Derived.Test.YtmghngehpgolgaaZa8
import Derived.Test.YtmghngehpgolgaaZa12
import Derived.Test.YtmghngehpgolgaaZa5
import Derived.Test.YtmghngehpgolgaaZa7
import Derived.Deep.RegionHeld3
import Derived.Deep.CutRange
import Derived.Test.YtmghngehpgolgaaZa2
import Derived.ProofKit
import Derived.OpenShut
import Derived.ShutString
import Derived.ChangeOld
import Derived.Below
import Derived.Deep.Slices
import Derived.Deep.Fields
import Derived.Test.YtmghngehpgolgaaZa4
import Derived.Test.YtmghngehpgolgaaZa3
import Derived.Deep.MidRow
set_option linter.unusedVariables false
set_option linter.unusedSimpArgs false
set_option linter.unusedSectionVars false
/- Layer 7: what the examples of the chapter give. -/
namespace Go.Proofs.Ytmghngehpgolgaa
open Go.RowKit Go.Sort

theorem ex_cwe : cweE exA7 [1] = 0 := by decide
theorem inv_cwe : cweE ⟨[1], 1, [], []⟩ [0, 1] = 0 := by decide
theorem inv_canR : (canR (invA ⟨[1], 1, [], []⟩ [0, 1])).2 = 0 := by first | rfl | decide | kernel_rfl
theorem kn_proj (A : Option Addr) (n c : Nat) (s : Int) (M : Option Addr) (m d : Nat) (E : Option Addr) (k g : Nat) (A3 : Option Addr) (w : World) (h : AuR w w.heap.size A n c s M m d E k g exA7) (ho : RdI w w.heap.size A3 [1]) :
    Calls Try.prog 8 #[.agg #[.slice A n c, .int .i64 s, .slice M m d, .slice E k g], .slice A3 1 1] w fun e w' => ∃ (A1 : Option Addr) (n1 c1 : Nat) (s1 : Int) (M1 : Option Addr) (m1 d1 : Nat) (E1 : Option Addr) (k1 g1 : Nat) (V : Option Addr) (cV : Nat) (hs : List Hd),
      e = .returned (.tuple #[.agg #[.slice A1 n1 c1, .int .i64 s1, .slice M1 m1 d1, .slice E1 k1 g1], .slice V 2 cV, .int .i64 0]) ∧ AuR w' w'.heap.size A1 n1 c1 s1 M1 m1 d1 E1 k1 g1 exP7 ∧ RdL w' w'.heap.size V hs ∧ hs.length = 2 ∧ hs.map Hd.z = [[0, 1], [0, 1, 2]] ∧ Below w.heap.size w w' := by
  refine (jProject_any A n c s M m d E k g A3 1 1 exA7 [1] w h ho rfl (by omega) (by omega)).mono ?_
  rintro e w' ⟨hb, h1 | h1 | h1⟩
  · exact absurd ex_cwe h1.1
  · have := h1.2.1
    have e1 := congrArg List.length ex_ests
    rw [List.length_map] at e1
    simp at e1
    omega
  · obtain ⟨_, _, A1, n1, c1, s1, M1, m1, d1, E1, k1, g1, V, nV, cV, hs, he, ha, hl, hlen, hm, _, _⟩ := h1
    rw [ex7_can] at ha
    rw [ex_ests] at hm
    have h2 : hs.length = 2 := by have := congrArg List.length hm; simpa using this
    rw [h2] at hlen
    subst hlen
    exact ⟨A1, n1, c1, s1, M1, m1, d1, E1, k1, g1, V, cV, hs, he, ha, hl, h2, hm, hb⟩
theorem kn_lift (A : Option Addr) (n c : Nat) (s : Int) (M : Option Addr) (m d : Nat) (E : Option Addr) (k g : Nat) (A3 A2 : Option Addr) (w : World) (h : AuR w w.heap.size A n c s M m d E k g exA7) (ho : RdI w w.heap.size A3 [1]) (hob : RdI w w.heap.size A2 [1]) :
    Calls Try.prog 13 #[.agg #[.slice A n c, .int .i64 s, .slice M m d, .slice E k g], .slice A3 1 1, .slice A2 1 1, .bool true] w fun e w' => ∃ A c, e = .returned (.tuple #[.slice A 2 c, .bool true, .int .i64 0]) ∧ RdI w' w'.heap.size A [0, 1] ∧ Below w.heap.size w w' := by
  refine (jLiftP_any A n c s M m d E k g A3 1 1 exA7 [1] A2 1 1 [1] true w h ho rfl (by omega) (by omega) hob rfl (by omega)).mono ?_
  rintro e w' ⟨hb, h1 | h1 | h1⟩
  · exact absurd ex_cwe h1.1
  · exact absurd h1.2.1 (by decide)
  · have h2 := h1.2.2
    rw [ex_lift] at h2
    obtain ⟨r, he, ho⟩ := h2
    obtain ⟨A, c, rfl, hr, _, _⟩ := own_rdc ho
    exact ⟨A, c, he, hr, hb⟩
theorem kn_inv (A n c A3) (w : World) (ha : RdI w w.heap.size A [1]) (hn : n = 1) (hc : c = 1) (ho : RdI w w.heap.size A3 [0, 1]) :
    Calls Try.prog 9 #[.agg #[.slice A n c, .int .i64 1, .slice none 0 0, .slice none 0 0], .slice A3 2 2] w fun e w' => ∃ (A1 : Option Addr) (n1 c1 : Nat) (s1 : Int) (M1 : Option Addr) (m1 d1 : Nat) (E1 : Option Addr) (g1 : Nat),
      e = .returned (.tuple #[.agg #[.slice A1 n1 c1, .int .i64 s1, .slice M1 m1 d1, .slice E1 1 g1], .int .i64 0]) ∧ Below w.heap.size w w' := by
  subst hn hc
  have hA : AuR w w.heap.size A 1 1 1 none 0 0 none 0 0 ⟨[1], 1, [], []⟩ := { al := ha, mr := fun h => absurd h (by simp), ed := fun h => absurd h (by simp), hn := rfl, hm := rfl, hk := rfl, st := rfl, cn := by omega, cm := by omega, ck := by omega, bn := by omega, bm := by omega, bk := by omega }
  refine (jInverse_any A 1 1 1 none 0 0 none 0 0 A3 2 2 ⟨[1], 1, [], []⟩ [0, 1] w hA ho rfl (by omega) (by omega)).mono ?_
  rintro e w' ⟨v, he, ⟨A1, n1, c1, s1, M1, m1, d1, E1, k1, g1, rfl, hr, _⟩, hb⟩
  have e1 : invR ⟨[1], 1, [], []⟩ [0, 1] = canR (invA ⟨[1], 1, [], []⟩ [0, 1]) := by unfold invR; rw [if_pos inv_cwe]
  have hc0 : chkE (invA ⟨[1], 1, [], []⟩ [0, 1]) = 0 := by first | rfl | decide | kernel_rfl
  have e2 : canR (invA ⟨[1], 1, [], []⟩ [0, 1]) = (canA (invA ⟨[1], 1, [], []⟩ [0, 1]), 0) := by unfold canR; rw [if_neg (by rw [hc0]; simp)]
  rw [e1, e2] at he hr
  have hk := hr.hk
  rw [show ((canA (invA ⟨[1], 1, [], []⟩ [0, 1]), (0 : Int)).1.ed).length = 1 from ex_inv] at hk
  subst hk
  exact ⟨A1, n1, c1, s1, M1, m1, d1, E1, g1, he, hb⟩
end Go.Proofs.Ytmghngehpgolgaa

/- Layer 3: Run, Generates, Accepts, Enabled of the reference. -/
namespace Go.Proofs.Ytmghngehpgolgaa
open Go.RowKit Go.Sort

theorem stepI_neg {a : Au} {q ev : Int} (h : stepO a q ev = none) : stepI a q ev = -1 := by rw [stepI, h]; rfl
theorem stepI_pos {a : Au} {q ev t : Int} (h : stepO a q ev = some t) : stepI a q ev = t := by rw [stepI, h]; rfl

theorem gen_pos {a : Au} (h : RightW a) (ws : List Int) : genB a ws = (decide (0 < a.st) && decide ((runE a 0 ws).2 = ws.length)) := by
  have := h.st0
  unfold genB
  congr 1
  rw [decide_eq_decide]; omega

/-- The events of a state, by the alphabet. -/
def enI (a : Au) (q : Int) : List Int := a.al.filter fun ev => (stepO a q ev).isSome
theorem en_eq {a : Au} (h : RightW a) (q : Int) : (succ a.ed q).map Ed.e = enI a q := by
  rw [succ_eq h, enI, List.map_filterMap]
  have : ∀ l : List Int, l.filterMap (fun x => Option.map Ed.e (edgeO a.ed q x)) = l.filter fun ev => (stepO a q ev).isSome := fun l => by
    induction l with
    | nil => rfl
    | cons x l ih =>
      rw [List.filterMap_cons, List.filter_cons]
      unfold stepO
      cases he : edgeO a.ed q x with
      | none => simp only [Option.map_none, Option.isSome_none, Bool.false_eq_true, if_false]; exact ih
      | some y =>
        have hy := ((edgeO_some h.edo).1 he).2.2
        simp only [Option.map_some, Option.isSome_some, if_true]
        rw [hy]; exact congrArg _ ih
  exact this a.al

end Go.Proofs.Ytmghngehpgolgaa

/- Layer 3, the mathematics of the words of the reference: how many there are at most, where they lead. -/
namespace Go.Proofs.Ytmghngehpgolgaa
open Go.RowKit Go.Sort

/-- How many words go on from one at most, if r further events may follow and there are five events. -/
def cst : Nat → Nat
  | 0 => 0
  | r + 1 => 5 * (1 + cst r)
theorem cst_mono (r : Nat) : cst r ≤ cst (r + 1) := by
  induction r with
  | zero => simp [cst]
  | succ r ih => rw [cst, cst.eq_2 (r + 1)]; omega
/-- What may still come of the words from the i-th on. -/
def rst (m : Nat) (L : List (List Int × Int)) (i : Nat) : Nat := ((L.drop i).map fun p => cst (m - p.1.length)).sum
theorem rst_step {m : Nat} {L : List (List Int × Int)} {i : Nat} (h : i < L.length) : rst m L i = cst (m - (L.getD i ([], 0)).1.length) + rst m L (i + 1) := by
  unfold rst
  rw [List.drop_eq_getElem_cons h, List.map_cons, List.sum_cons]
  simp only [List.getD, List.getElem?_eq_getElem h, Option.getD_some]
theorem rst_app {m : Nat} {L R : List (List Int × Int)} {i : Nat} (h : i ≤ L.length) : rst m (L ++ R) i = rst m L i + (R.map fun p => cst (m - p.1.length)).sum := by
  unfold rst
  rw [List.drop_append_of_le_length h, List.map_append, List.sum_append]
theorem ext_sum (a : Au) (m : Nat) (p : List Int × Int) : ((extW a p).map fun q => cst (m - q.1.length)).sum = (extW a p).length * cst (m - (p.1.length + 1)) := by
  unfold extW
  rw [List.map_map, List.length_map]
  induction succ a.ed p.2 with
  | nil => simp
  | cons x l ih => simp only [List.map_cons, List.sum_cons, ih, List.length_cons, Function.comp_apply, List.length_append, List.length_nil, Nat.zero_add]; rw [Nat.add_mul]; omega
theorem ext_len {a : Au} (h : RightW a) (h5 : a.al.length ≤ 5) (p : List Int × Int) : (extW a p).length ≤ 5 := by
  unfold extW
  rw [List.length_map, succ_eq h]
  exact Nat.le_trans (List.length_filterMap_le _ _) h5
/-- All words are found. -/
theorem genF_some {a : Au} (h : RightW a) (h5 : a.al.length ≤ 5) (m : Nat) : ∀ (f i : Nat) (L : List (List Int × Int)), i ≤ L.length → L.length + rst m L i ≤ 1024 → L.length + rst m L i < f + i → ∃ R, genF a (m : Int) f i L = some R ∧ R.length ≤ 1024
  | 0, i, L, hi, h1, h2 => by omega
  | f + 1, i, L, hi, h1, h2 => by
    rw [genF]
    by_cases hc : i < L.length ∧ ((L.getD i ([], 0)).1.length : Int) < (m : Int)
    · rw [if_pos hc]
      obtain ⟨p, hp⟩ : ∃ p, p = L.getD i ([], 0) := ⟨_, rfl⟩
      have hs := rst_step (m := m) hc.1
      rw [← hp] at hc hs ⊢
      have hlt : p.1.length < m := by omega
      obtain ⟨r, hr⟩ : ∃ r, m - p.1.length = r + 1 := ⟨m - p.1.length - 1, by omega⟩
      have hr2 : m - (p.1.length + 1) = r := by omega
      have hx := ext_len h h5 p
      have hes := ext_sum a m p
      rw [hr2] at hes
      rw [hr, cst] at hs
      have hmul : (extW a p).length * cst r ≤ 5 * cst r := Nat.mul_le_mul_right _ hx
      have ha : rst m (L ++ extW a p) (i + 1) = rst m L (i + 1) + (extW a p).length * cst r := by rw [rst_app (by omega), hes]
      have hl : (L ++ extW a p).length = L.length + (extW a p).length := List.length_append
      have hd : 5 * (1 + cst r) = 5 + 5 * cst r := by omega
      rw [if_neg (by omega)]
      exact genF_some h h5 m f (i + 1) (L ++ extW a p) (by omega) (by omega) (by omega)
    · rw [if_neg hc]
      exact ⟨L, rfl, by omega⟩
theorem genO_some {a : Au} (h : RightW a) (h5 : a.al.length ≤ 5) {m : Nat} (hm : m ≤ 4) : ∃ R, genO a (m : Int) = some R ∧ R.length ≤ 1024 := by
  unfold genO
  by_cases h0 : a.st = 0
  · rw [if_pos h0]; exact ⟨[], rfl, by simp⟩
  · rw [if_neg h0]
    have hc : cst m ≤ 780 := by
      have h4 : cst 4 = 780 := by decide
      match m, hm with
      | 0, _ => decide
      | 1, _ => decide
      | 2, _ => decide
      | 3, _ => decide
      | 4, _ => decide
    have hr : rst m [(([] : List Int), (0 : Int))] 0 = cst m := by simp [rst]
    exact genF_some h h5 m 1026 0 [([], 0)] (by simp) (by rw [hr]; simp; omega) (by rw [hr]; simp; omega)
theorem runE_snoc {a : Au} : ∀ (ws : List Int) (q t u ev : Int), runE a q ws = (t, ws.length) → stepO a t ev = some u → runE a q (ws ++ [ev]) = (u, (ws ++ [ev]).length)
  | [], q, t, u, ev, h, hs => by
    rw [runE_nil] at h
    obtain rfl : q = t := (Prod.mk.inj h).1
    rw [List.nil_append, runE_go hs, runE_nil]; rfl
  | x :: r, q, t, u, ev, h, hs => by
    cases e : stepO a q x with
    | none => rw [runE_stop e] at h; simp at h
    | some v =>
      rw [runE_go e] at h
      have h1 : runE a v r = (t, r.length) := by
        rw [Prod.mk.injEq] at h ⊢
        exact ⟨h.1, by have := h.2; simp at this; exact this⟩
      have := runE_snoc r v t u ev h1 hs
      rw [List.cons_append, runE_go e, this]; simp
/-- Each word leads to its state. -/
def Leads (a : Au) (L : List (List Int × Int)) : Prop := ∀ p ∈ L, runE a 0 p.1 = (p.2, p.1.length)
theorem leads_ext {a : Au} (h : RightW a) {p : List Int × Int} (hp : runE a 0 p.1 = (p.2, p.1.length)) : Leads a (extW a p) := fun q hq => by
  obtain ⟨x, hx, rfl⟩ := List.mem_map.1 hq
  obtain ⟨hx1, hx2⟩ := mem_succ.1 hx
  refine runE_snoc _ _ _ _ _ hp (stepO_some ((edgeO_some h.edo).2 ⟨hx1, hx2, rfl⟩))
theorem leads_app {a : Au} {L R : List (List Int × Int)} (h1 : Leads a L) (h2 : Leads a R) : Leads a (L ++ R) := fun p hp => by
  rcases List.mem_append.1 hp with hp | hp
  · exact h1 p hp
  · exact h2 p hp
theorem leads_gen {a : Au} (h : RightW a) (most : Int) : ∀ (f i : Nat) (L R : List (List Int × Int)), Leads a L → genF a most f i L = some R → Leads a R
  | 0, i, L, R, _, hR => by rw [genF] at hR; cases hR
  | f + 1, i, L, R, hL, hR => by
    rw [genF] at hR
    split at hR
    · rename_i hc
      split at hR
      · cases hR
      · have hm := getD_memP hc.1
        exact leads_gen h most f (i + 1) _ R (leads_app hL (leads_ext h (hL _ hm))) hR
    · injection hR with hR; subst hR; exact hL
theorem leads_genO {a : Au} (h : RightW a) {most : Int} {R : List (List Int × Int)} (hR : genO a most = some R) : Leads a R := by
  unfold genO at hR
  split at hR
  · injection hR with hR; subst hR; intro p hp; simp at hp
  · exact leads_gen h most _ _ _ _ (fun p hp => by rw [List.mem_singleton] at hp; subst hp; rw [runE_nil]; rfl) hR
theorem acc_leads {a : Au} {L : List (List Int × Int)} (h : Leads a L) {p : List Int × Int} (hp : p ∈ L) (h0 : a.st ≠ 0) : accB a p.1 = decide (p.2 ∈ a.mr) := by
  unfold accB genB
  rw [h p hp]; simp [h0]
/-- The marked words are the accepted ones. -/
theorem sel_acc {a : Au} {L : List (List Int × Int)} (h : Leads a L) (h0 : a.st ≠ 0) : selL a.mr true L = (L.map Prod.fst).filter fun w => accB a w := by
  unfold selL
  rw [List.filter_map]
  congr 1
  refine List.filter_congr fun p hp => ?_
  rw [Function.comp_apply, acc_leads h hp h0]; simp
theorem sel_all (mr : List Int) (L : List (List Int × Int)) : selL mr false L = L.map Prod.fst := by
  unfold selL
  rw [List.filter_eq_self.2]; simp
theorem sel_acc' {a : Au} {most : Int} {L : List (List Int × Int)} (h : RightW a) (hL : genO a most = some L) : selL a.mr true L = (L.map Prod.fst).filter fun w => accB a w := by
  by_cases h0 : a.st = 0
  · rw [genO, if_pos h0] at hL; injection hL with hL; subst hL; rfl
  · exact sel_acc (leads_genO h hL) h0
theorem ext_en {a : Au} (h : RightW a) (p : List Int × Int) : (extW a p).map Prod.fst = (enI a p.2).map fun ev => p.1 ++ [ev] := by
  rw [← en_eq h]; unfold extW; rw [List.map_map, List.map_map]; rfl
end Go.Proofs.Ytmghngehpgolgaa

/- Layer 3: Words of the reference. -/
namespace Go.Proofs.Ytmghngehpgolgaa
open Go.RowKit Go.Sort

/-- At a step of a region that draws its order: an append of a slice that reads as a list, nil and empty let in. -/
theorem step_app_rd {ops : Array Oper} {o : Oper} {a : Act} {w : World} {K : Act → World → Prop} {Q : Exit → Act → World → Prop} {E : Prop} (hgd : o.guard = none) (s x : Operand)
    (ho : o.op = .call { callee := .builtin .append, args := #[s, x], argTypes := #[22, 22] })
    (base : Nat) (v : Value) (n : Nat) (xs : List Int) (hs : a.eval s = v) (hown : w.ownsRow base 3 1 v n (xs.map (Value.int .i64)))
    (B : Nat) (A : Option Addr) (m c : Nat) (zs : List Int) (hx : a.eval x = .slice A m c) (hr : RdI w B A zs) (hm : zs.length = m) (h63 : n + m ≤ maxLen) (hbytes : (n + m) * 8 ≤ 140737488355328) (hbase : base ≤ w.heap.size)
    (h : ∀ v' w', w'.ownsRow base 3 1 v' (n + m) ((xs ++ zs).map (Value.int .i64)) → w.grownBy w' v.ownBlock → K (a.put o.dst v') w') :
    if Region.wanted o (yielded ops a.tmps) = true then Oper.wp Try.prog o a w K Q else E := by
  have hw : Region.wanted o (yielded ops a.tmps) = true := by simp [Region.wanted, hgd]
  rw [if_pos hw]
  obtain ⟨v', w', hrun, h2, h3⟩ := run_app_rd hown hr hm h63 hbytes hbase o.type (c := c)
  unfold Oper.wp execOp
  simp only [ho, resolve, invoke, builtin, Sem.run_bind, Sem.run_pure, Result.andThen_ok, List.map_toArray, List.map_cons, List.map_nil, hs, hx, hrun]
  exact h v' w' h2 h3

/-- Words of the call's own. -/
structure WL (w : World) (base : Nat) (vw : Value) (hs : List Hd) : Prop where
  row : w.ownsRow base 22 1 vw hs.length (hs.map Hd.enc)
  own : ∀ h ∈ hs, Own w base h.enc h.z
theorem WL.gl {w : World} {base : Nat} {vw : Value} {hs : List Hd} (h : WL w base vw hs) : GL w base vw hs (.slice none 0 0) [] :=
  ⟨h.row, h.own, World.ownsRow_nil _ _ _ _, fun x _ => by
    by_cases he : x.enc.ownBlock = none
    · exact .inl he
    · exact .inr (by simpa [Value.ownBlock] using he)⟩
theorem GL.wl {w : World} {base : Nat} {vw ve : Value} {hs : List Hd} {es : List Int} (h : GL w base vw hs ve es) : WL w base vw hs := ⟨h.row, h.own⟩
theorem WL.below {w w' : World} {base : Nat} {vw : Value} {hs : List Hd} (h : WL w base vw hs) (hb : Below w.heap.size w w') : WL w' base vw hs := (h.gl.below hb).wl
theorem WL.drewN {w : World} {base : Nat} {vw : Value} {hs : List Hd} (h : WL w base vw hs) (q : Nat) : WL (w.drewN q) base vw hs := ⟨h.row, h.own⟩
theorem WL.drew {w : World} {base : Nat} {vw : Value} {hs : List Hd} (h : WL w base vw hs) : WL w.drew base vw hs := ⟨h.row, h.own⟩
theorem WL.alloc {w : World} {base : Nat} {vw : Value} {hs : List Hd} (h : WL w base vw hs) (o : Obj) : WL (w.alloc o) base vw hs := h.below ((Below.refl _ w).alloc (Nat.le_refl _) o)
theorem WL.rd {w : World} {base : Nat} {vw : Value} {hs : List Hd} (h : WL w base vw hs) : ∃ A c, vw = .slice A hs.length c ∧ RdL w w.heap.size A hs ∧ hs.length ≤ c ∧ c ≤ 9223372036854775807 := ownL_rd h.row h.own
/-- What Words of the reference hands back. -/
def RWds (R : List (List Int)) (e : Ending) (w' : World) : Prop := ∃ A c hs, e = .returned (.slice A hs.length c) ∧ hs.map Hd.z = R ∧ RdL w' w'.heap.size A hs ∧ hs.length ≤ c ∧ c ≤ 9223372036854775807 ∧ hs.length ≤ 1024

-- GENERATED
/-- A list of the call's own is handed back. -/
def GivesO (w : World) (zs : List Int) (e : Ending) (w' : World) : Prop := ∃ A c, e = .returned (.slice A zs.length c) ∧ Own w' w.heap.size (.slice A zs.length c) zs ∧ Below w.heap.size w w'
theorem own_cell {w : World} {base N c : Nat} {A : Option Addr} {zs : List Int} (h : Own w base (.slice A N c) zs) {j : Nat} (hj : j < zs.length) : ∃ g, A = some ⟨g, 0, none⟩ ∧ base ≤ g ∧ g < w.heap.size ∧ w.cell? ⟨g, j, none⟩ = some (.int .i64 (zs.getD j 0)) := by
  obtain ⟨g, cap, e, hg, hc, _, _⟩ := own_shape h rfl (by omega)
  injection e with e1 _ _
  subst e1
  exact ⟨g, rfl, (h.lt g rfl).1, hg, hc j hj⟩
theorem WL.ret {w : World} {base N c : Nat} {A : Option Addr} {hs : List Hd} {R : List (List Int)} (h : WL w base (.slice A N c) hs) (hN : hs.length = N) (hR : hs.map Hd.z = R) (hl : N ≤ 1024) : RWds R (.returned (.slice A N c)) w := by
  subst hN
  obtain ⟨A', c', e, h1, h2, h3⟩ := h.rd
  injection e with e1 _ e3
  subst e1 e3
  exact ⟨A, c, hs, rfl, hR, h1, h2, h3, hl⟩
theorem WL.with {w w' : World} {base : Nat} {vw ve : Value} {hs : List Hd} {es : List Int} (h : WL w base vw hs) (hb : Below w.heap.size w w') (he : Own w' w.heap.size ve es) (hB : base ≤ w.heap.size) : GL w' base vw hs ve es :=
  ⟨(h.below hb).row, (h.below hb).own, own_more he hB, fun x hx => by
    by_cases hn : x.enc.ownBlock = none
    · exact .inl hn
    · refine .inr fun e => ?_
      obtain ⟨j, hj⟩ := Option.ne_none_iff_exists'.1 hn
      have h1 := ((h.own x hx).lt j hj).2
      have h2 := (he.lt j (by rw [← e, hj])).1
      omega⟩
theorem own_lit0 (w : World) : (w.alloc (.cells #[] 3)).ownsRow w.heap.size 3 1 (.slice (some ⟨w.heap.size, 0, none⟩) 0 0) 0 (([] : List Int).map (Value.int .i64)) :=
  World.ownsRow_lit (e := 3) (size := 1) w #[] 0 (Nat.le_refl _) (by unfold maxLen; omega) rfl
theorem news_at {w : World} {b : Nat} {v : Value} (h : w.cell? ⟨b, 0, none⟩ = some v) : ∀ j u, [v][j]? = some u → w.cell? ((⟨b, 0, none⟩ : Addr).add j) = some u := fun j u hj => by
  obtain rfl : j = 0 := by have := (List.getElem?_eq_some_iff.1 hj).1; simp at this; omega
  simp at hj; subst hj; exact h
theorem genF_pos {a : Au} {most : Int} {f i : Nat} {L R : List (List Int × Int)} (h : genF a most f i L = some R) : 0 < f := by
  rcases Nat.eq_zero_or_pos f with h0 | h0
  · subst h0; rw [genF] at h; cases h
  · exact h0
theorem ext_length {a : Au} (h : RightW a) (p : List Int × Int) : (extW a p).length = (enI a p.2).length := by
  have := congrArg List.length (ext_en h p); simpa using this
theorem ext_words {a : Au} (h : RightW a) (p : List Int × Int) {t : Nat} (ht : t < (enI a p.2).length) : ((extW a p).take (t + 1)).map Prod.fst = ((extW a p).take t).map Prod.fst ++ [p.1 ++ [(enI a p.2).getD t 0]] := by
  rw [List.map_take, List.map_take, ext_en h, List.take_add_one, List.getElem?_map, List.getElem?_eq_getElem ht]
  simp [List.getD, List.getElem?_eq_getElem ht]

end Go.Proofs.Ytmghngehpgolgaa

/- Layer 3: what is told of arguments that came in: an automaton, a slice of ints. -/
namespace Go.Proofs.Ytmghngehpgolgaa
open Go.ChangeShapes Go.WideShapes Go.ChangeAt Go.RowKit Go.Deep
open Go.ChangeMaps (open_string shut_string)

theorem own : ownKnob Try.prog.godebug = none := by kernel_rfl
theorem laidOut : laidOutB Try.prog = true := by kernel_rfl

/-- A slice of ints that came in. -/
structure SlI (W : World) (v : Value) (A : Option Addr) (n c : Nat) (zs : List Int) : Prop where
  eq : v = .slice A n c
  len : zs.length = n
  rd : RdI W W.heap.size A zs
  wf : ∀ z ∈ zs, (Lit.int .i64 z).wf = true
  cap : n ≤ c
  top : c ≤ 9223372036854775807

section
variable {H : Type} {enc : TypeId × Value → H} {W : World} {a0 : Option Addr} {len cap : Nat} {d : DataW H} {p : List MemPlace}

set_option maxRecDepth 8000 in
theorem open_rdI (h : DataW.Trod enc Try.prog W 0 (fun _ => true) true 22 (.slice a0 len cap) d p) (hlt : ∀ x ∈ p, x.block < W.heap.size) :
    ∃ zs : List Int, zs.length = len ∧ RdI W W.heap.size a0 zs ∧ (∀ z ∈ zs, (Lit.int .i64 z).wf = true) ∧ len ≤ maxLen := by
  obtain ⟨fuel, hf⟩ := h
  rcases open_ints Try.underlying22 Try.underlying3 (by kernel_rfl) hf with ⟨hcs, _⟩ | ⟨a, l, c, zs, hcs, _, hl, hm, hz, hx, hcell, hwz⟩
  · simp [Value.cells] at hcs
    obtain ⟨rfl, rfl, rfl⟩ := hcs
    exact ⟨[], rfl, RdI.nil _ _ _, by simp, by unfold maxLen; omega⟩
  · simp [Value.cells] at hcs
    obtain ⟨rfl, rfl, rfl⟩ := hcs
    simp only [Prod.mk.injEq] at hx
    obtain ⟨rfl, rfl⟩ := hx
    simp only [if_true] at hz
    refine ⟨zs.take len, by rw [List.length_take]; omega, fun h0 => ?_, fun z hz' => hwz z (List.mem_of_mem_take hz'), by omega⟩
    rw [List.length_take] at h0
    obtain ⟨b, off, spot⟩ := a
    have hspot : spot = none := by simpa [Addr.add] using World.cell?_spot (hcell 0 (by omega))
    subst hspot
    refine ⟨b, off, rfl, hlt (.cell b off) (MemPlace.mem_row.2 ⟨0, by omega, by simp⟩), fun j hj => ?_⟩
    rw [List.length_take] at hj
    rw [← add_plain, hcell j (by omega)]
    simp [List.getD, show j < len by omega]

set_option maxRecDepth 8000 in
theorem open_rdG (h : DataW.Trod enc Try.prog W 0 (fun _ => true) true 23 (.slice a0 len cap) d p) (hlt : ∀ x ∈ p, x.block < W.heap.size) :
    ∃ l : List Ed, l.length = len ∧ RdG W W.heap.size a0 l ∧ len ≤ maxLen := by
  obtain ⟨fuel, hf⟩ := h
  rcases open_slice Try.underlying23 hf with ⟨hcs, _⟩ | ⟨a, l, c, m, n, D, Pl, hcs, _, hl, hm, hmm, hx, hi⟩
  · simp [Value.cells] at hcs
    obtain ⟨rfl, rfl, rfl⟩ := hcs
    exact ⟨[], rfl, fun h => absurd h (by simp), by unfold maxLen; omega⟩
  · simp [Value.cells] at hcs
    obtain ⟨rfl, rfl, rfl⟩ := hcs
    have h5 : Try.prog.cellsOf 55 = 3 := by kernel_rfl
    simp only [if_true] at hmm
    have each : ∀ j, j < m → ∃ x : Ed, W.cell? (a.add (j * 3)) = some (.int .i64 x.f) ∧ W.cell? ((a.add (j * 3)).add 1) = some (.int .i64 x.e) ∧ W.cell? ((a.add (j * 3)).add 2) = some (.int .i64 x.t) := by
      intro j hj
      obtain ⟨cs', hc, ht⟩ := hi j hj
      rw [h5] at hc
      obtain ⟨_, hcl, hat⟩ := World.cells?_some hc
      obtain ⟨ys, n', _, _, _, hyl, hfd⟩ := DataW.trod_struct Try.underlying55 ht
      match cs', hcl with
      | [c0, c1, c2], _ =>
        match ys, hyl with
        | [y0, y1, y2], _ =>
          have f0 : DataW.trod enc Try.prog W 0 (fun _ => true) true n' 3 (([c0, c1, c2].drop 0).take (Try.prog.cellsOf 3)) = some y0 := hfd 0 _ rfl
          have f1 : DataW.trod enc Try.prog W 0 (fun _ => true) true n' 3 (([c0, c1, c2].drop 1).take (Try.prog.cellsOf 3)) = some y1 := hfd 1 _ rfl
          have f2 : DataW.trod enc Try.prog W 0 (fun _ => true) true n' 3 (([c0, c1, c2].drop 2).take (Try.prog.cellsOf 3)) = some y2 := hfd 2 _ rfl
          have k3 : Try.prog.cellsOf 3 = 1 := by kernel_rfl
          rw [k3] at f0 f1 f2
          obtain ⟨q0, e0, _, _⟩ := DataW.trod_int Try.underlying3 f0
          obtain ⟨q1, e1, _, _⟩ := DataW.trod_int Try.underlying3 f1
          obtain ⟨q2, e2, _, _⟩ := DataW.trod_int Try.underlying3 f2
          simp only [List.drop, List.take, List.cons.injEq, and_true] at e0 e1 e2
          subst e0 e1 e2
          refine ⟨⟨q0, q1, q2⟩, ?_, hat 1 (by omega), hat 2 (by omega)⟩
          have := hat 0 (by omega)
          simpa [Addr.add] using this
    have each' : ∀ j : Nat, ∃ x : Ed, j < m → W.cell? (a.add (j * 3)) = some (.int .i64 x.f) ∧ W.cell? ((a.add (j * 3)).add 1) = some (.int .i64 x.e) ∧ W.cell? ((a.add (j * 3)).add 2) = some (.int .i64 x.t) := by
      intro j
      by_cases hj : j < m
      · obtain ⟨x, hx⟩ := each j hj
        exact ⟨x, fun _ => hx⟩
      · exact ⟨⟨0, 0, 0⟩, fun h => absurd h hj⟩
    obtain ⟨E, hE⟩ := Classical.axiomOfChoice each'
    refine ⟨(List.range len).map E, by simp, fun h0 => ?_, by omega⟩
    have h0' : 0 < len := by simpa using h0
    obtain ⟨b, off, spot⟩ := a
    have hspot : spot = none := by simpa [Addr.add] using World.cell?_spot (hE 0 (by omega)).1
    subst hspot
    simp only [Prod.mk.injEq] at hx
    obtain ⟨rfl, rfl⟩ := hx
    refine ⟨b, off, rfl, hlt (.cell b off) (List.mem_append_left _ (MemPlace.mem_row.2 ⟨0, by rw [h5]; omega, by simp⟩)), fun j x hj => ?_⟩
    rw [List.getElem?_map] at hj
    by_cases hjl : j < len
    · rw [List.getElem?_range hjl] at hj
      simp only [Option.map_some, Option.some.injEq] at hj
      subst hj
      obtain ⟨g0, g1, g2⟩ := hE j (by omega)
      simp only [add_plain] at g0 g1 g2
      exact ⟨g0, g1, g2⟩
    · rw [List.getElem?_eq_none (by simp; omega)] at hj
      cases hj
theorem cap_ints (h : DataW.Trod enc Try.prog W 0 (fun _ => true) true 22 (.slice a0 len cap) d p) : len ≤ cap := by
  obtain ⟨fuel, hf⟩ := h
  rcases open_slice Try.underlying22 hf with ⟨hcs, _⟩ | ⟨a, l, c, m, n, D, Pl, hcs, _, hl, _⟩
  · simp [Value.cells] at hcs; omega
  · simp [Value.cells] at hcs; omega
end

section
variable {H : Type} {enc : TypeId × Value → H} {W : World} {d : DataW H} {p : List MemPlace} {v : Value} {base : Nat}
set_option maxRecDepth 8000 in
theorem open_sl {n : Nat} {c : Value} {y : DataW H × List MemPlace} (hf : DataW.trod enc Try.prog W 0 (fun _ => true) true n 22 [c] = some y) (hlt : ∀ x ∈ y.2, x.block < W.heap.size) : ∃ A len cap zs, SlI W c A len cap zs := by
  rcases open_ints Try.underlying22 Try.underlying3 (by kernel_rfl) hf with ⟨hcs, _⟩ | ⟨a, l, cp, zs, hcs, _, hl, hm, _⟩
  · simp at hcs
    subst hcs
    exact ⟨none, 0, 0, [], rfl, rfl, RdI.nil _ _ _, by simp, Nat.le_refl _, by omega⟩
  · simp at hcs
    subst hcs
    have ht : DataW.Trod enc Try.prog W 0 (fun _ => true) true 22 (.slice (some a) l cp) y.1 y.2 := ⟨n, hf⟩
    obtain ⟨z, e1, e2, e3, _⟩ := open_rdI ht hlt
    exact ⟨some a, l, cp, z, rfl, e1, e2, e3, hl, by unfold maxLen at hm; omega⟩
/-- A slice of edges that came in. -/
structure SlG (W : World) (v : Value) (A : Option Addr) (n c : Nat) (l : List Ed) : Prop where
  eq : v = .slice A n c
  len : l.length = n
  rd : RdG W W.heap.size A l
  cap : n ≤ c
  top : c ≤ 9223372036854775807
set_option maxRecDepth 8000 in
theorem open_slG {n : Nat} {c : Value} {y : DataW H × List MemPlace} (hf : DataW.trod enc Try.prog W 0 (fun _ => true) true n 23 [c] = some y) (hlt : ∀ x ∈ y.2, x.block < W.heap.size) : ∃ A len cap zs, SlG W c A len cap zs := by
  rcases open_slice Try.underlying23 hf with ⟨hcs, _⟩ | ⟨a, l, cp, m, n', D, Pl, hcs, _, hl, hm, _⟩
  · simp at hcs
    subst hcs
    exact ⟨none, 0, 0, [], rfl, rfl, RdG.nil _ _ _, Nat.le_refl _, by omega⟩
  · simp at hcs
    subst hcs
    have ht : DataW.Trod enc Try.prog W 0 (fun _ => true) true 23 (.slice (some a) l cp) y.1 y.2 := ⟨n, hf⟩
    obtain ⟨z, e1, e2, _⟩ := open_rdG ht hlt
    exact ⟨some a, l, cp, z, rfl, e1, e2, hl, by unfold maxLen at hm; omega⟩
/-- An automaton that came in, of any size. -/
structure AuI (W : World) (A : Option Addr) (n c : Nat) (s : Int) (M : Option Addr) (m d : Nat) (E : Option Addr) (k g : Nat) (a : Au) : Prop where
  al : RdI W W.heap.size A a.al
  mr : RdI W W.heap.size M a.mr
  ed : RdG W W.heap.size E a.ed
  hn : a.al.length = n
  hm : a.mr.length = m
  hk : a.ed.length = k
  st : a.st = s
  cn : n ≤ c ∧ c ≤ 9223372036854775807
  cm : m ≤ d ∧ d ≤ 9223372036854775807
  ck : k ≤ g ∧ g ≤ 9223372036854775807
  wf : (Lit.int .i64 s).wf = true
theorem AuI.r {W : World} {A : Option Addr} {n c : Nat} {s : Int} {M : Option Addr} {m d : Nat} {E : Option Addr} {k g : Nat} {a : Au} (h : AuI W A n c s M m d E k g a) (h1 : n ≤ 12) (h2 : m ≤ 12) (h3 : k ≤ 12) : AuR W W.heap.size A n c s M m d E k g a :=
  { al := h.al, mr := h.mr, ed := h.ed, hn := h.hn, hm := h.hm, hk := h.hk, st := h.st, cn := h.cn, cm := h.cm, ck := h.ck, bn := by omega, bm := by omega, bk := by omega }
set_option maxRecDepth 8000 in
theorem open_aut (hval : Value.okWide Try.prog W .any base 25 v) (h : DataW.Trod enc Try.prog W 0 (fun _ => true) true 25 v d p) (hlt : ∀ x ∈ p, x.block < W.heap.size) :
    ∃ A n c s M m d' E k g a, v = .agg #[.slice A n c, .int .i64 s, .slice M m d', .slice E k g] ∧ AuI W A n c s M m d' E k g a := by
  obtain ⟨cs, rfl, hsz⟩ := okWide_struct Try.underlying25 hval
  have h4 : Try.prog.cellsOf 25 = 4 := by kernel_rfl
  have h1 : Try.prog.cellsOf 22 = 1 := by kernel_rfl
  have h2 : Try.prog.cellsOf 3 = 1 := by kernel_rfl
  have h3 : Try.prog.cellsOf 23 = 1 := by kernel_rfl
  rw [h4] at hsz
  obtain ⟨fuel, hf⟩ := h
  obtain ⟨ys, n', _, hx, _, hyl, hfd⟩ := DataW.trod_struct Try.underlying25 hf
  obtain ⟨l⟩ := cs
  match l, hsz with
  | [s0, s1, s2, s3], _ =>
    match ys, hyl with
    | [y0, y1, y2, y3], _ =>
      have f0 : DataW.trod enc Try.prog W 0 (fun _ => true) true n' 22 (([s0, s1, s2, s3].drop 0).take (Try.prog.cellsOf 22)) = some y0 := hfd 0 _ rfl
      have f1 : DataW.trod enc Try.prog W 0 (fun _ => true) true n' 3 (([s0, s1, s2, s3].drop 1).take (Try.prog.cellsOf 3)) = some y1 := hfd 1 _ rfl
      have f2 : DataW.trod enc Try.prog W 0 (fun _ => true) true n' 22 (([s0, s1, s2, s3].drop 2).take (Try.prog.cellsOf 22)) = some y2 := hfd 2 _ rfl
      have f3 : DataW.trod enc Try.prog W 0 (fun _ => true) true n' 23 (([s0, s1, s2, s3].drop 3).take (Try.prog.cellsOf 23)) = some y3 := hfd 3 _ rfl
      rw [h1] at f0 f2
      rw [h2] at f1
      rw [h3] at f3
      injection hx with hx1 hx2
      subst hx2
      obtain ⟨A, n, c, za, SA⟩ := open_sl (c := s0) f0 (fun x hx => hlt x (by simp [hx]))
      obtain ⟨q, e1, _, hq⟩ := DataW.trod_int Try.underlying3 f1
      obtain ⟨M, m, dd, zm, SM⟩ := open_sl (c := s2) f2 (fun x hx => hlt x (by simp [hx]))
      obtain ⟨E, k, g, ze, SE⟩ := open_slG (c := s3) f3 (fun x hx => hlt x (by simp [hx]))
      simp only [List.drop, List.take, List.cons.injEq, and_true] at e1
      refine ⟨A, n, c, q, M, m, dd, E, k, g, ⟨za, q, zm, ze⟩, by rw [SA.eq, SM.eq, SE.eq, e1], SA.rd, SM.rd, SE.rd, SA.len, SM.len, SE.len, rfl, ⟨SA.cap, SA.top⟩, ⟨SM.cap, SM.top⟩, ⟨SE.cap, SE.top⟩, hq⟩
end
end Go.Proofs.Ytmghngehpgolgaa

/- Layer 3: few of the law's package. -/
namespace Go.Proofs.Ytmghngehpgolgaa
open Go.RowKit Go.Sort

def fewB (n m k : Nat) : Bool := decide (n ≤ 12) && (decide (m ≤ 12) && decide (k ≤ 12))
theorem few_yes {n m k : Nat} (h : fewB n m k = true) : n ≤ 12 ∧ m ≤ 12 ∧ k ≤ 12 := by simpa [fewB] using h
end Go.Proofs.Ytmghngehpgolgaa

/- Layer 3: the chapter's examples, as mathematics. -/
namespace Go.Proofs.Ytmghngehpgolgaa
open Go.RowKit Go.Sort

def exA : Au := ⟨[0, 2], 3, [2], [⟨0, 0, 2⟩, ⟨0, 2, 0⟩, ⟨2, 2, 0⟩]⟩
def cnA : Au := ⟨[0, 2], 2, [1], [⟨0, 0, 1⟩, ⟨0, 2, 0⟩, ⟨1, 2, 0⟩]⟩
def rlA : Au := ⟨[1, 3], 2, [1], [⟨0, 1, 0⟩, ⟨0, 3, 1⟩, ⟨1, 1, 0⟩]⟩
theorem ex_chk : chkE exA = 0 := by decide
theorem ex_can : canR exA = (cnA, 0) := by decide
theorem cn_chk : chkE cnA = 0 := by decide
theorem cn_run : runR cnA 0 [0, 0] = (1, 1, 0) := by decide
theorem cn_gen : genO cnA 2 = some [([], 0), ([0], 1), ([2], 0), ([0, 2], 0), ([2, 0], 1), ([2, 2], 0)] := by decide
theorem cn_words : wordsR cnA 2 true = ([[0], [2, 0]], 0) := by
  unfold wordsR
  rw [cn_chk, cn_gen]
  decide
theorem srt_31 : srtI [3, 1] = [1, 3] := by
  refine lt_ext (srtI_lt (by decide)) (by decide) fun x => ?_
  rw [(srtI_perm _).mem_iff]
  simp
  omega
theorem cn_map : cnA.ed.map (relE cnA.al [3, 1]) = [⟨0, 3, 1⟩, ⟨0, 1, 0⟩, ⟨1, 1, 0⟩] := by decide
theorem srt_ed : srtE [⟨0, 3, 1⟩, ⟨0, 1, 0⟩, ⟨1, 1, 0⟩] = [⟨0, 1, 0⟩, ⟨0, 3, 1⟩, ⟨1, 1, 0⟩] :=
  (srtE_eq (l := [⟨0, 3, 1⟩, ⟨0, 1, 0⟩, ⟨1, 1, 0⟩]) (r := [⟨0, 1, 0⟩, ⟨0, 3, 1⟩, ⟨1, 1, 0⟩]) (by unfold KeyD; decide) (List.Perm.swap _ _ _) (by decide)).symm
theorem cn_rel : relR cnA [3, 1] = (rlA, 0) := by
  have h1 : relA cnA [3, 1] = rlA := by
    unfold relA
    rw [srt_31, cn_map, srt_ed]; rfl
  have h2 : canA rlA = rlA := by decide
  unfold relR
  rw [cn_chk, if_neg (by decide), if_neg (by decide), if_neg (by decide), h1, h2]
end Go.Proofs.Ytmghngehpgolgaa

/- Layer 3: Relabel of the program. -/
namespace Go.Proofs.Ytmghngehpgolgaa
open Go.RowKit Go.Sort

theorem cell_set4 {w : World} {X b i : Nat} {v0 v1 v2 v3 : Value} (h : b ≠ X) : ((((w.setCell ⟨X, 0, none⟩ v0).setCell ⟨X, 1, none⟩ v1).setCell ⟨X, 2, none⟩ v2).setCell ⟨X, 3, none⟩ v3).cell? ⟨b, i, none⟩ = w.cell? ⟨b, i, none⟩ := by
  have e : ∀ (W : World) j v, (W.setCell ⟨X, j, none⟩ v).cell? ⟨b, i, none⟩ = W.cell? ⟨b, i, none⟩ := fun W j v => World.cell?_of_block (a := ⟨b, i, none⟩) (Below.heap_setCell W ⟨X, j, none⟩ v b h)
  rw [e, e, e, e]

end Go.Proofs.Ytmghngehpgolgaa

/- Layer 3: Same of the reference. -/
namespace Go.Proofs.Ytmghngehpgolgaa
open Go.RowKit Go.Sort

set_option maxHeartbeats 3200000 in
theorem rSame_any (A : Option Addr) (n c : Nat) (s : Int) (M : Option Addr) (m d : Nat) (E : Option Addr) (k g : Nat) (A2 : Option Addr) (n2 c2 : Nat) (s2 : Int) (M2 : Option Addr) (m2 d2 : Nat) (E2 : Option Addr) (k2 g2 : Nat) (a b : Au) (B : Nat) (w : World) (h : AuR w B A n c s M m d E k g a) (h2 : AuR w B A2 n2 c2 s2 M2 m2 d2 E2 k2 g2 b) (hB : B ≤ w.heap.size) :
    Calls Try.prog 18 #[.agg #[.slice A n c, .int .i64 s, .slice M m d, .slice E k g], .agg #[.slice A2 n2 c2, .int .i64 s2, .slice M2 m2 d2, .slice E2 k2 g2]] w fun e w' => e = .returned (.bool (decide (a = b))) ∧ Below w.heap.size w w' := by
  have hb1 := ((Below.refl w.heap.size w).alloc (Nat.le_refl _) (.cells #[.slice A n c, .int .i64 s, .slice M m d, .slice E k g] 25)).alloc (by simp) (.cells #[.slice A2 n2 c2, .int .i64 s2, .slice M2 m2 d2, .slice E2 k2 g2] 25)
  have HB1 := Lib.hid hb1
  have HX := Lib.hid (box_row A n c s M m d E k g ((Row.new w [.slice A n c, .int .i64 s, .slice M m d, .slice E k g] 25).alloc (.cells #[.slice A2 n2 c2, .int .i64 s2, .slice M2 m2 d2, .slice E2 k2 g2] 25)))
  have HX2 := Lib.hid (show BoxA ((w.alloc (.cells #[.slice A n c, .int .i64 s, .slice M m d, .slice E k g] 25)).alloc (.cells #[.slice A2 n2 c2, .int .i64 s2, .slice M2 m2 d2, .slice E2 k2 g2] 25)) (w.heap.size + 1) A2 n2 c2 s2 M2 m2 d2 E2 k2 g2 by
    have := box_row A2 n2 c2 s2 M2 m2 d2 E2 k2 g2 (Row.new (w.alloc (.cells #[.slice A n c, .int .i64 s, .slice M m d, .slice E k g] 25)) [.slice A2 n2 c2, .int .i64 s2, .slice M2 m2 d2, .slice E2 k2 g2] 25)
    simpa using this)
  have HC1 := Lib.hid (sameInts_b A A2 n n2 c c2 B a.al b.al _ (h.al.below hb1 hB) (h2.al.below hb1 hB) h.hn h2.hn h.bn h2.bn)
  have HC2 := Lib.hid (fun W (hW : Below w.heap.size w W) => sameInts_b M M2 m m2 d d2 B a.mr b.mr W (h.mr.below hW hB) (h2.mr.below hW hB) h.hm h2.hm h.bm h2.bm)
  have HST := Lib.hid h.st
  have hB0 := Lib.hid hB
  have HR := Lib.hid h
  have HR2 := Lib.hid h2
  have HST2 := Lib.hid h2.st
  obtain ⟨r1, hr1⟩ : ∃ r, r = decide (a.al = b.al) := ⟨_, rfl⟩
  obtain ⟨r2, hr2⟩ : ∃ r, r = decide (a.mr = b.mr) := ⟨_, rfl⟩
  rw [← hr1] at HC1
  rw [← hr2] at HC2
  obtain ⟨v, hv⟩ : ∃ v, v = decide (a = b) := ⟨_, rfl⟩
  have HV := Lib.hid (show v = (r1 && (decide (s = s2) && (r2 && decide (a.ed = b.ed)))) by rw [hv, au_eq, ← hr1, ← hr2, HST.out, HST2.out])
  rw [← hv]
  clear h h2 hb1 hr1 hr2 hv
  cases r1
  · have hf := Lib.hid (show v = false by rw [HV.out]; rfl)
    go_enter Try.func18, Try.ntmps18
    go_wp2_with fail
    refine HC1.out.mono ?_
    rintro e w1 ⟨rfl, hbw⟩
    have hB := Lib.hid (HB1.out.trans (hbw.mono (by simp; omega)))
    have hX1 := Lib.hid (HX.out.below hbw (by simp; omega))
    have hX2 := Lib.hid (HX2.out.below hbw (by simp))
    have hz := hbw.size
    simp only [World.size_alloc] at hz
    obtain ⟨p0, p1, p2, p3⟩ := hX1.out
    obtain ⟨q0, q1, q2, q3⟩ := hX2.out
    clear hbw
    go_wp2_with fail
    go_ret
    exact ⟨ret_bool hf.out.symm, hB.out⟩
  · by_cases hs : s = s2
    · have hd : decide (s = s2) = true := by simp [hs]
      subst hs
      cases r2
      · have hf := Lib.hid (show v = false by rw [HV.out, hd]; rfl)
        have hd2 : (s != s) = false := by simp
        go_enter Try.func18, Try.ntmps18
        go_wp2_with fail
        refine HC1.out.mono ?_
        rintro e w1 ⟨rfl, hbw⟩
        have hB := Lib.hid (HB1.out.trans (hbw.mono (by simp; omega)))
        have hX1 := Lib.hid (HX.out.below hbw (by simp; omega))
        have hX2 := Lib.hid (HX2.out.below hbw (by simp))
        have hz := hbw.size
        simp only [World.size_alloc] at hz
        obtain ⟨p0, p1, p2, p3⟩ := hX1.out
        obtain ⟨q0, q1, q2, q3⟩ := hX2.out
        clear hbw
        go_wp2_with fail
        refine (HC2.out w1 hB.out).mono ?_
        rintro e w2 ⟨rfl, hbw⟩
        have hB2 := Lib.hid (hB.out.trans (hbw.mono hB.out.size))
        clear p0 p1 p2 p3 q0 q1 q2 q3
        have hX3 := Lib.hid (hX1.out.below hbw (by omega))
        have hX4 := Lib.hid (hX2.out.below hbw (by omega))
        have hz2 := hbw.size
        obtain ⟨p0, p1, p2, p3⟩ := hX3.out
        obtain ⟨q0, q1, q2, q3⟩ := hX4.out
        clear hbw
        go_wp2_with fail
        go_ret
        exact ⟨ret_bool hf.out.symm, hB2.out⟩
      · have hf := Lib.hid (show v = decide (a.ed = b.ed) by rw [HV.out, hd]; rfl)
        have hd2 : (s != s) = false := by simp
        by_cases hk : k = k2
        · subst hk
          have hk2 : ((k : Int) != (k : Int)) = false := by simp
          have HK := Lib.hid HR.out.hk
          have HK2 := Lib.hid HR2.out.hk
          go_enter Try.func18, Try.ntmps18
          go_wp2_with fail
          refine HC1.out.mono ?_
          rintro e w1 ⟨rfl, hbw⟩
          have hB := Lib.hid (HB1.out.trans (hbw.mono (by simp; omega)))
          have hX1 := Lib.hid (HX.out.below hbw (by simp; omega))
          have hX2 := Lib.hid (HX2.out.below hbw (by simp))
          have hz := hbw.size
          simp only [World.size_alloc] at hz
          obtain ⟨p0, p1, p2, p3⟩ := hX1.out
          obtain ⟨q0, q1, q2, q3⟩ := hX2.out
          clear hbw
          go_wp2_with fail
          refine (HC2.out w1 hB.out).mono ?_
          rintro e w2 ⟨rfl, hbw⟩
          have hB2 := Lib.hid (hB.out.trans (hbw.mono hB.out.size))
          clear p0 p1 p2 p3 q0 q1 q2 q3
          have hX3 := Lib.hid (hX1.out.below hbw (by omega))
          have hX4 := Lib.hid (hX2.out.below hbw (by omega))
          have hz2 := hbw.size
          obtain ⟨p0, p1, p2, p3⟩ := hX3.out
          obtain ⟨q0, q1, q2, q3⟩ := hX4.out
          clear hbw
          go_wp2_with fail
          go_loopw [5] (fun i wr => ∃ t : Nat, t ≤ k ∧ i = .int .i64 t ∧ Hid (a.ed.take t = b.ed.take t) ∧ Hid (Below w2.heap.size w2 wr)) (fun i _ => k - (intOf i).toNat)
          case atStart => exact ⟨0, Nat.zero_le _, rfl, rfl, Below.refl _ _⟩
          case round =>
            clear p0 p1 p2 p3 q0 q1 q2 q3
            obtain ⟨t, htk, rfl, ht, hbel⟩ := hrel
            obtain ⟨p0, p1, p2, p3⟩ := hX3.out.below hbel.out (by omega)
            obtain ⟨q0, q1, q2, q3⟩ := hX4.out.below hbel.out (by omega)
            have hBr := Lib.hid (hB2.out.trans (hbel.out.mono hB2.out.size))
            have hbk := HR.out.bk
            by_cases htl : t < k
            · obtain ⟨b1, o1, rfl, hb1, hc1⟩ := HR.out.ed (by rw [HK.out]; omega)
              obtain ⟨b2, o2, rfl, hb2, hc2⟩ := HR2.out.ed (by rw [HK2.out]; omega)
              obtain ⟨x, hx1⟩ := edAt (l := a.ed) (k := t) (by rw [HK.out]; exact htl)
              obtain ⟨y, hy1⟩ := edAt (l := b.ed) (k := t) (by rw [HK2.out]; exact htl)
              obtain ⟨u0, u1, u2⟩ : EdAt wr b1 (o1 + t * 3) x := (hc1 t x hx1).keep fun o => hBr.out.cell (p := ⟨b1, o, none⟩) (Nat.lt_of_lt_of_le hb1 hB0.out)
              obtain ⟨v0, v1, v2⟩ : EdAt wr b2 (o2 + t * 3) y := (hc2 t y hy1).keep fun o => hBr.out.cell (p := ⟨b2, o, none⟩) (Nat.lt_of_lt_of_le hb2 hB0.out)
              clear hc1 hc2
              by_cases hxy : x = y
              · subst hxy
                have hs := Lib.hid (eqE_step hx1 hy1 ht.out)
                obtain ⟨xf, xe, xt⟩ := x
                clear hx1 hy1 ht
                go_wp2_with fail
                go_quiet (fail)
                go_wp2_with fail
                go_roundw
                case measure => simp [intOf]; omega
                case rel => exact ⟨t + 1, by omega, by go_num, hs, Lib.hid (below_drewN hbel.out _)⟩
              · have hff := Lib.hid (show v = false by rw [hf.out, neE_of hx1 hy1 hxy])
                have hne := ed_ne hxy
                obtain ⟨xf, xe, xt⟩ := x
                obtain ⟨yf, ye, yt⟩ := y
                simp only at hne u0 u1 u2 v0 v1 v2
                clear hx1 hy1 ht hxy
                by_cases h1 : xf = yf
                · by_cases h2 : xe = ye
                  · have h3 : ¬ xt = yt := fun h3 => hne ⟨h1, h2, h3⟩
                    subst h1; subst h2
                    clear hne
                    go_wp2_with fail
                    go_quiet (fail)
                    go_wp2_with fail
                    go_ret
                    exact ⟨ret_bool hff.out.symm, below_drewN hBr.out _⟩
                  · subst h1
                    clear hne
                    go_wp2_with fail
                    go_quiet (fail)
                    go_wp2_with fail
                    go_ret
                    exact ⟨ret_bool hff.out.symm, below_drewN hBr.out _⟩
                · clear hne
                  go_wp2_with fail
                  go_quiet (fail)
                  go_wp2_with fail
                  go_ret
                  exact ⟨ret_bool hff.out.symm, below_drewN hBr.out _⟩
            · have hkn : t = k := by omega
              have hff := Lib.hid (show v = true by rw [hf.out]; exact eqE_all (by rw [HK.out, HK2.out]) (by rw [HK.out, ← hkn]; exact ht.out))
              clear hkn ht
              go_wp2_with fail
              go_ret
              exact ⟨ret_bool hff.out.symm, hBr.out⟩
        · have hk2 : ((k : Int) != (k2 : Int)) = true := by simp; omega
          have hff := Lib.hid (show v = false by
            rw [hf.out]; simp only [decide_eq_false_iff_not]; intro e
            have := congrArg List.length e; rw [HR.out.hk, HR2.out.hk] at this; exact hk this)
          go_enter Try.func18, Try.ntmps18
          go_wp2_with fail
          refine HC1.out.mono ?_
          rintro e w1 ⟨rfl, hbw⟩
          have hB := Lib.hid (HB1.out.trans (hbw.mono (by simp; omega)))
          have hX1 := Lib.hid (HX.out.below hbw (by simp; omega))
          have hX2 := Lib.hid (HX2.out.below hbw (by simp))
          have hz := hbw.size
          simp only [World.size_alloc] at hz
          obtain ⟨p0, p1, p2, p3⟩ := hX1.out
          obtain ⟨q0, q1, q2, q3⟩ := hX2.out
          clear hbw
          go_wp2_with fail
          refine (HC2.out w1 hB.out).mono ?_
          rintro e w2 ⟨rfl, hbw⟩
          have hB2 := Lib.hid (hB.out.trans (hbw.mono hB.out.size))
          clear p0 p1 p2 p3 q0 q1 q2 q3
          have hX3 := Lib.hid (hX1.out.below hbw (by omega))
          have hX4 := Lib.hid (hX2.out.below hbw (by omega))
          have hz2 := hbw.size
          obtain ⟨p0, p1, p2, p3⟩ := hX3.out
          obtain ⟨q0, q1, q2, q3⟩ := hX4.out
          clear hbw
          go_wp2_with fail
          go_ret
          exact ⟨ret_bool hff.out.symm, hB2.out⟩
    · have hd : decide (s = s2) = false := by simp [hs]
      have hf := Lib.hid (show v = false by rw [HV.out, hd]; rfl)
      have hd2 : (s != s2) = true := by simp [hs]
      go_enter Try.func18, Try.ntmps18
      go_wp2_with fail
      refine HC1.out.mono ?_
      rintro e w1 ⟨rfl, hbw⟩
      have hB := Lib.hid (HB1.out.trans (hbw.mono (by simp; omega)))
      have hX1 := Lib.hid (HX.out.below hbw (by simp; omega))
      have hX2 := Lib.hid (HX2.out.below hbw (by simp))
      have hz := hbw.size
      simp only [World.size_alloc] at hz
      obtain ⟨p0, p1, p2, p3⟩ := hX1.out
      obtain ⟨q0, q1, q2, q3⟩ := hX2.out
      clear hbw
      go_wp2_with fail
      go_ret
      exact ⟨ret_bool hf.out.symm, hB.out⟩
end Go.Proofs.Ytmghngehpgolgaa

/- Layer 3: the examples of the chapter hold. -/
namespace Go.Proofs.Ytmghngehpgolgaa
open Go.RowKit Go.Sort

theorem row_rdG {w : World} {g : Nat} {l : List Ed} (h : Row w g 55 (encE l)) : RdG w w.heap.size (some ⟨g, 0, none⟩) l := fun _ =>
  ⟨g, 0, rfl, h.lt, fun j x hj => by
    obtain ⟨e0, e1, e2⟩ := encE_at l j x hj
    rw [Nat.zero_add]
    exact ⟨h.cell _ e0, h.cell _ e1, h.cell _ e2⟩⟩
/-- An automaton in three blocks. -/
theorem au_rows {w : World} {b1 b2 b3 n m k : Nat} {s : Int} {a : Au} (h1 : Row w b1 3 (a.al.map (Value.int .i64))) (h2 : Row w b2 3 (a.mr.map (Value.int .i64))) (h3 : Row w b3 55 (encE a.ed)) (hn : a.al.length = n) (hm : a.mr.length = m) (hk : a.ed.length = k) (hs : a.st = s) (bn : n ≤ 1000) (bm : m ≤ 1000) (bk : k ≤ 1000) :
    AuR w w.heap.size (some ⟨b1, 0, none⟩) n n s (some ⟨b2, 0, none⟩) m m (some ⟨b3, 0, none⟩) k k a :=
  { al := h1.rd, mr := h2.rd, ed := row_rdG h3, hn := hn, hm := hm, hk := hk, st := hs, cn := by omega, cm := by omega, ck := by omega, bn := by omega, bm := by omega, bk := by omega }

theorem Row.new' (w : World) (cs : List Value) (e : TypeId) {g : Nat} (hg : w.heap.size = g) : Row (w.alloc (.cells cs.toArray e)) g e cs := by subst hg; exact Row.new w cs e

theorem own2 {W : World} {g : Nat} {x y : Int} (h : Row W g 3 [.int .i64 x, .int .i64 y]) : RdI W W.heap.size (some ⟨g, 0, none⟩) [x, y] := Row.rd (zs := [x, y]) h
theorem two_hds {hs : List Hd} {a b : List Int} (h : hs.map Hd.z = [a, b]) : ∃ A1 c1 A2 c2, hs = [⟨A1, c1, a⟩, ⟨A2, c2, b⟩] := by
  match hs, h with
  | [x, y], h =>
    simp at h
    obtain ⟨A1, c1, z1⟩ := x
    obtain ⟨A2, c2, z2⟩ := y
    simp at h
    exact ⟨A1, c1, A2, c2, by rw [h.1, h.2]⟩

end Go.Proofs.Ytmghngehpgolgaa

/- Layer 3: boxes whose cells are known; none of the law's package. -/
namespace Go.Proofs.Ytmghngehpgolgaa
open Go.RowKit Go.Sort

/-- Boxes whose cells are known. -/
def Bxs (w : World) (l : List (Nat × List Value)) : Prop := ∀ b cs, (b, cs) ∈ l → b < w.heap.size ∧ ∀ (i : Nat) v, cs[i]? = some v → w.cell? ⟨b, i, none⟩ = some v
theorem Bxs.nil (w : World) : Bxs w [] := fun b cs h => by simp at h
theorem Bxs.below {w w' : World} {l : List (Nat × List Value)} (h : Bxs w l) (hb : Below w.heap.size w w') : Bxs w' l := fun b cs hm =>
  ⟨Nat.lt_of_lt_of_le (h b cs hm).1 hb.size, fun i v hi => (hb.cell (p := ⟨b, i, none⟩) (h b cs hm).1).trans ((h b cs hm).2 i v hi)⟩
theorem Bxs.drew {w : World} {l : List (Nat × List Value)} (h : Bxs w l) : Bxs w.drew l := fun b cs hm => ⟨(h b cs hm).1, fun i v hi => (h b cs hm).2 i v hi⟩
theorem Bxs.drewN {w : World} {l : List (Nat × List Value)} (h : Bxs w l) (q : Nat) : Bxs (w.drewN q) l := fun b cs hm => ⟨(h b cs hm).1, fun i v hi => (h b cs hm).2 i v hi⟩
theorem Bxs.alloc {w : World} {l : List (Nat × List Value)} (h : Bxs w l) (o : Obj) : Bxs (w.alloc o) l := h.below ((Below.refl _ w).alloc (Nat.le_refl _) o)
theorem Bxs.new {w : World} {l : List (Nat × List Value)} (h : Bxs w l) (cs : List Value) (t : TypeId) : Bxs (w.alloc (.cells cs.toArray t)) ((w.heap.size, cs) :: l) := fun b ds hm => by
  rcases List.mem_cons.1 hm with e | hm
  · injection e with e1 e2
    subst e1 e2
    exact ⟨by simp, fun i v hi => (Row.new w ds t).cell i hi⟩
  · exact h.alloc _ b ds hm
theorem Bxs.tail {w : World} {x : Nat × List Value} {l : List (Nat × List Value)} (h : Bxs w (x :: l)) : Bxs w l := fun b cs hm => h b cs (List.mem_cons_of_mem _ hm)
/-- The first box's cells. -/
theorem Bxs.at {w : World} {l : List (Nat × List Value)} (h : Bxs w l) (j : Nat) {b : Nat} {cs : List Value} (hj : l[j]? = some (b, cs)) (i : Nat) {v : Value} (hi : cs[i]? = some v) : w.cell? ⟨b, i, none⟩ = some v :=
  (h b cs (List.mem_of_getElem? hj)).2 i v hi
theorem Bxs.lt {w : World} {l : List (Nat × List Value)} (h : Bxs w l) (j : Nat) {b : Nat} {cs : List Value} (hj : l[j]? = some (b, cs)) : b < w.heap.size := (h b cs (List.mem_of_getElem? hj)).1
/-- The cells of a box that holds an automaton. -/
theorem Bxs.aut {w : World} {l : List (Nat × List Value)} (h : Bxs w l) (j : Nat) {b : Nat} (A : Option Addr) (n c : Nat) (s : Int) (M : Option Addr) (m d : Nat) (E : Option Addr) (k g : Nat) (hj : l[j]? = some (b, [.slice A n c, .int .i64 s, .slice M m d, .slice E k g])) : BoxA w b A n c s M m d E k g :=
  ⟨h.at j hj 0 rfl, h.at j hj 1 rfl, h.at j hj 2 rfl, h.at j hj 3 rfl⟩

def noneB (n : Nat) (s : Int) (m k : Nat) : Bool := decide (n = 0) && (decide (s = 0) && (decide (m = 0) && decide (k = 0)))
end Go.Proofs.Ytmghngehpgolgaa

/- Layer 3: what a law's walk keeps: its arguments' memory, its boxes. -/
namespace Go.Proofs.Ytmghngehpgolgaa
open Go.RowKit Go.Sort

/-- The memory that came in is as it was; the boxes' cells are known. -/
structure LW (W : World) (l : List (Nat × List Value)) (w : World) : Prop where
  bel : Below W.heap.size W w
  bx : Bxs w l
section
variable {W w w' : World} {l : List (Nat × List Value)}
theorem LW.call (h : LW W l w) (hb : Below w.heap.size w w') : LW W l w' := ⟨h.bel.trans (hb.mono h.bel.size), h.bx.below hb⟩
theorem LW.drew (h : LW W l w) : LW W l w.drew := ⟨h.bel.drew, h.bx.drew⟩
theorem LW.drewN (h : LW W l w) (q : Nat) : LW W l (w.drewN q) := ⟨below_drewN h.bel q, h.bx.drewN q⟩
theorem LW.alloc (h : LW W l w) (o : Obj) : LW W l (w.alloc o) := ⟨h.bel.alloc h.bel.size o, h.bx.alloc o⟩
theorem LW.new (h : LW W l w) (cs : List Value) (t : TypeId) : LW W ((w.heap.size, cs) :: l) (w.alloc (.cells cs.toArray t)) := ⟨h.bel.alloc h.bel.size _, h.bx.new cs t⟩
theorem LW.first (W : World) (cs : List Value) (t : TypeId) : LW W [(W.heap.size, cs)] (W.alloc (.cells cs.toArray t)) := LW.new ⟨Below.refl _ _, Bxs.nil _⟩ cs t
theorem LW.start (W : World) : LW W [] W := ⟨Below.refl _ _, Bxs.nil _⟩
theorem LW.tail {x : Nat × List Value} (h : LW W (x :: l) w) : LW W l w := ⟨h.bel, h.bx.tail⟩
theorem LW.aut (h : LW W l w) {a : Au} (A : Option Addr) (n c : Nat) (s : Int) (M : Option Addr) (m d : Nat) (E : Option Addr) (k g : Nat) (ha : AuR W W.heap.size A n c s M m d E k g a) : AuR w w.heap.size A n c s M m d E k g a := (ha.below h.bel (Nat.le_refl _)).more h.bel.size
theorem LW.ints (h : LW W l w) {A : Option Addr} {zs : List Int} (ha : RdI W W.heap.size A zs) : RdI w w.heap.size A zs := (ha.below h.bel (Nat.le_refl _)).more h.bel.size
/-- What reads in a world of the way reads on. -/
theorem LW.aut' {w1 : World} {l1 : List (Nat × List Value)} (h : LW w1 l1 w) {a : Au} (A : Option Addr) (n c : Nat) (s : Int) (M : Option Addr) (m d : Nat) (E : Option Addr) (k g : Nat) (ha : AuR w1 w1.heap.size A n c s M m d E k g a) : AuR w w.heap.size A n c s M m d E k g a := (ha.below h.bel (Nat.le_refl _)).more h.bel.size
theorem lw_call {f : FuncId} {args : Array Value} {v : Value} (hc : Calls Try.prog f args w fun e w' => e = .returned v ∧ Below w.heap.size w w') (h : LW W l w) : Calls Try.prog f args w fun e w' => e = .returned v ∧ LW W l w' :=
  hc.mono fun e w' hh => ⟨hh.1, h.call hh.2⟩
theorem lw_pure {f : FuncId} {args : Array Value} {v : Value} (hc : Calls Try.prog f args w fun e w' => e = .returned v ∧ w = w') (h : LW W l w) : Calls Try.prog f args w fun e w' => e = .returned v ∧ LW W l w' :=
  hc.mono fun e w' hh => ⟨hh.1, hh.2 ▸ h⟩
/-- An automaton in new memory: where it lies, and that it reads. -/
theorem lw_gives {f : FuncId} {args : Array Value} {r : Au × Int} (hc : Calls Try.prog f args w fun e w' => GivesA w r e w') (h : LW W l w) : Calls Try.prog f args w fun e w' => ∃ A n c s M m d E k g, e = .returned (.tuple #[.agg #[.slice A n c, .int .i64 s, .slice M m d, .slice E k g], .int .i64 r.2]) ∧ AuR w' w'.heap.size A n c s M m d E k g r.1 ∧ LW W l w' :=
  hc.mono fun e w' hh => by
    obtain ⟨v, e1, ⟨A, n, c, s, M, m, d, E, k, g, rfl, hr, _⟩, hb⟩ := hh
    exact ⟨A, n, c, s, M, m, d, E, k, g, e1, hr, h.call hb⟩
theorem lw_wds {f : FuncId} {args : Array Value} {r : List (List Int) × Int} (hc : Calls Try.prog f args w fun e w' => WdsR r e w' ∧ Below w.heap.size w w') (h : LW W l w) : Calls Try.prog f args w fun e w' => WdsR r e w' ∧ LW W l w' :=
  hc.mono fun e w' hh => ⟨hh.1, h.call hh.2⟩
theorem lw_zero {f : FuncId} {args : Array Value} {u : Int} (hc : Calls Try.prog f args w fun e w' => GivesA w (zeroA, u) e w') (h : LW W l w) : Calls Try.prog f args w fun e w' => ∃ A c M d E g, e = .returned (.tuple #[.agg #[.slice A 0 c, .int .i64 0, .slice M 0 d, .slice E 0 g], .int .i64 u]) ∧ LW W l w' :=
  hc.mono fun e w' hh => by
    obtain ⟨v, e1, ⟨A, n, c, s, M, m, d, E, k, g, rfl, hr, _⟩, hb⟩ := hh
    obtain rfl : n = 0 := hr.hn.symm
    obtain rfl : s = 0 := hr.st.symm
    obtain rfl : m = 0 := hr.hm.symm
    obtain rfl : k = 0 := hr.hk.symm
    exact ⟨A, c, M, d, E, g, e1, h.call hb⟩
theorem lw_wds_nil {f : FuncId} {args : Array Value} {u : Int} (hc : Calls Try.prog f args w fun e w' => WdsR ([], u) e w' ∧ Below w.heap.size w w') (h : LW W l w) : Calls Try.prog f args w fun e w' => ∃ A c, e = .returned (.tuple #[.slice A 0 c, .int .i64 u]) ∧ LW W l w' :=
  hc.mono fun e w' hh => by
    obtain ⟨⟨A, c, hs, e1, e2, _⟩, hb⟩ := hh
    obtain rfl : hs = [] := by simpa using e2
    exact ⟨A, c, e1, h.call hb⟩
end
end Go.Proofs.Ytmghngehpgolgaa

/- Layer 3: what is told of graphs that came in; Events, Make and other calls in a law's walk over graphs. -/
namespace Go.Proofs.Ytmghngehpgolgaa

section
open Go.ChangeShapes Go.WideShapes Go.ChangeAt Go.RowKit Go.Deep
section
variable {H : Type} {enc : TypeId × Value → H} {W : World} {d : DataW H} {p : List MemPlace} {v : Value} {base : Nat}
theorem open_u8 {n : Nat} {c : Value} {y : DataW H × List MemPlace} (hf : DataW.trod enc Try.prog W 0 (fun _ => true) true n 5 [c] = some y) : ∃ z, c = .int .u8 z ∧ 0 ≤ z ∧ z < 256 := by
  obtain ⟨q, e, _, hw⟩ := DataW.trod_int Try.underlying5 hf
  simp at e
  subst e
  exact ⟨q, rfl, by simp [Lit.wf, IntKind.min, IntKind.max, IntKind.signed, IntKind.bits] at hw; omega⟩
theorem drop_one {cs : List Value} {i : Nat} (h : i < cs.length) : (cs.drop i).take 1 = [cs[i]] := by
  rw [List.drop_eq_getElem_cons h]; rfl
set_option maxRecDepth 8000 in
theorem open_graph (hval : Value.okWide Try.prog W .any base 47 v) (h : DataW.Trod enc Try.prog W 0 (fun _ => true) true 47 v d p) : ∃ cs, v = .agg cs ∧ GrC cs := by
  simp only [Value.okWide, Try.underlying47] at hval
  obtain ⟨cs, rfl, hsz, _⟩ := hval
  have h27 : Try.prog.cellsOf 47 = 27 := by kernel_rfl
  have h25 : Try.prog.cellsOf 45 = 25 := by kernel_rfl
  have h5 : Try.prog.cellsOf 44 = 5 := by kernel_rfl
  have h1 : Try.prog.cellsOf 5 = 1 := by kernel_rfl
  rw [h27] at hsz
  obtain ⟨fuel, hf⟩ := h
  obtain ⟨ys, n', _, hx, _, hyl, hfd⟩ := DataW.trod_struct Try.underlying47 hf
  have hcl : cs.toList.length = 27 := by simpa using hsz
  match ys, hyl with
  | [y0, y1, y2], _ =>
    have f0 : DataW.trod enc Try.prog W 0 (fun _ => true) true n' 5 ((cs.toList.drop 0).take (Try.prog.cellsOf 5)) = some y0 := hfd 0 _ rfl
    have f1 : DataW.trod enc Try.prog W 0 (fun _ => true) true n' 5 ((cs.toList.drop 1).take (Try.prog.cellsOf 5)) = some y1 := hfd 1 _ rfl
    have f2 : DataW.trod enc Try.prog W 0 (fun _ => true) true n' 45 ((cs.toList.drop 2).take (Try.prog.cellsOf 45)) = some y2 := hfd 2 _ rfl
    rw [h1, drop_one (by omega)] at f0 f1
    rw [h25] at f2
    obtain ⟨a0, e0, b0⟩ := open_u8 f0
    obtain ⟨a1, e1, b1⟩ := open_u8 f1
    obtain ⟨xs, m, _, hx2, _, hl2, hi2⟩ := DataW.trod_array Try.underlying45 f2
    refine ⟨cs, rfl, hsz, fun i hi => ?_⟩
    have key : ∃ x : Int, cs.toList[i]'(by omega) = .int .u8 x ∧ 0 ≤ x ∧ x < 256 := by
      rcases Nat.lt_or_ge i 2 with h2 | h2
      · rcases Nat.lt_or_ge i 1 with h3 | h3
        · obtain rfl : i = 0 := by omega
          exact ⟨a0, e0, b0⟩
        · obtain rfl : i = 1 := by omega
          exact ⟨a1, e1, b1⟩
      · obtain ⟨q, r, hq, hr, he⟩ : ∃ q r, q < 5 ∧ r < 5 ∧ i = 2 + q * 5 + r := ⟨(i - 2) / 5, (i - 2) % 5, by omega, by omega, by omega⟩
        have g := hi2 q hq
        rw [List.getElem?_eq_getElem (by omega), h5] at g
        obtain ⟨zs, m2, _, _, _, hl3, hi3⟩ := DataW.trod_array Try.underlying44 g
        have g2 := hi3 r hr
        rw [List.getElem?_eq_getElem (by omega), h1, Nat.mul_one] at g2
        rw [drop_one (by simp; omega)] at g2
        obtain ⟨x, ex, bx⟩ := open_u8 g2
        refine ⟨x, ?_, bx⟩
        rw [← ex]
        simp only [List.getElem_take, List.getElem_drop]
        congr 1
        omega
    obtain ⟨x, ex, bx⟩ := key
    refine ⟨x, ?_, bx⟩
    rw [← ex]
    simp [hsz, hi]
set_option maxRecDepth 100000 in
theorem list27 (gv : Nat → Value) : ([gv 0, gv 1, gv 2, gv 3, gv 4, gv 5, gv 6, gv 7, gv 8, gv 9, gv 10, gv 11, gv 12, gv 13, gv 14, gv 15, gv 16, gv 17, gv 18, gv 19, gv 20, gv 21, gv 22, gv 23, gv 24, gv 25, gv 26] : List Value) = (List.range 27).map gv := rfl
theorem grid27 {gv : Nat → Value} : ∀ i : Nat, i < 27 → ([gv 0, gv 1, gv 2, gv 3, gv 4, gv 5, gv 6, gv 7, gv 8, gv 9, gv 10, gv 11, gv 12, gv 13, gv 14, gv 15, gv 16, gv 17, gv 18, gv 19, gv 20, gv 21, gv 22, gv 23, gv 24, gv 25, gv 26] : List Value)[i]? = some (gv i) := by
  intro i hi
  rw [list27, List.getElem?_map, List.getElem?_range hi]; rfl
set_option maxRecDepth 100000 in
theorem graph_form {cs : Array Value} (h : GrC cs) : ∃ gv : Nat → Value, cs = #[gv 0, gv 1, gv 2, gv 3, gv 4, gv 5, gv 6, gv 7, gv 8, gv 9, gv 10, gv 11, gv 12, gv 13, gv 14, gv 15, gv 16, gv 17, gv 18, gv 19, gv 20, gv 21, gv 22, gv 23, gv 24, gv 25, gv 26] := by
  refine ⟨fun i => cs[i]?.getD (Value.bool false), ?_⟩
  have e : ∀ gv : Nat → Value, #[gv 0, gv 1, gv 2, gv 3, gv 4, gv 5, gv 6, gv 7, gv 8, gv 9, gv 10, gv 11, gv 12, gv 13, gv 14, gv 15, gv 16, gv 17, gv 18, gv 19, gv 20, gv 21, gv 22, gv 23, gv 24, gv 25, gv 26] = ((List.range 27).map gv).toArray := fun gv => congrArg List.toArray (list27 gv)
  refine Eq.trans ?_ (e (fun i => cs[i]?.getD (Value.bool false))).symm
  refine Array.ext_getElem? fun i => ?_
  by_cases hi : i < 27
  · simp [h.sz, hi]
  · rw [Array.getElem?_eq_none (by rw [h.sz]; omega), Array.getElem?_eq_none (by simp; omega)]
set_option maxRecDepth 100000 in
theorem open_graph2 (hval : Value.okWide Try.prog W .any base 47 v) (h : DataW.Trod enc Try.prog W 0 (fun _ => true) true 47 v d p) : ∃ gv : Nat → Value, v = .agg #[gv 0, gv 1, gv 2, gv 3, gv 4, gv 5, gv 6, gv 7, gv 8, gv 9, gv 10, gv 11, gv 12, gv 13, gv 14, gv 15, gv 16, gv 17, gv 18, gv 19, gv 20, gv 21, gv 22, gv 23, gv 24, gv 25, gv 26] ∧ GrC #[gv 0, gv 1, gv 2, gv 3, gv 4, gv 5, gv 6, gv 7, gv 8, gv 9, gv 10, gv 11, gv 12, gv 13, gv 14, gv 15, gv 16, gv 17, gv 18, gv 19, gv 20, gv 21, gv 22, gv 23, gv 24, gv 25, gv 26] := by
  obtain ⟨cs, rfl, hg⟩ := open_graph hval h
  obtain ⟨gv, rfl⟩ := graph_form hg
  exact ⟨gv, rfl, hg⟩
theorem open_int1 {n : Nat} {c : Value} {y : DataW H × List MemPlace} (hf : DataW.trod enc Try.prog W 0 (fun _ => true) true n 3 [c] = some y) : ∃ z, c = .int .i64 z := by
  obtain ⟨q, e, _, _⟩ := DataW.trod_int Try.underlying3 hf
  simp at e
  exact ⟨q, e⟩
set_option maxRecDepth 8000 in
theorem open_arr2 (hval : Value.okWide Try.prog W .any base 91 v) (h : DataW.Trod enc Try.prog W 0 (fun _ => true) true 91 v d p) : ∃ x y : Int, v = .agg #[.int .i64 x, .int .i64 y] := by
  simp only [Value.okWide, Try.underlying91] at hval
  obtain ⟨cs, rfl, hsz, _⟩ := hval
  have h2 : Try.prog.cellsOf 91 = 2 := by kernel_rfl
  have h1 : Try.prog.cellsOf 3 = 1 := by kernel_rfl
  rw [h2] at hsz
  obtain ⟨fuel, hf⟩ := h
  obtain ⟨xs, m, _, hx, _, hl, hi⟩ := DataW.trod_array Try.underlying91 hf
  obtain ⟨l⟩ := cs
  match l, hsz with
  | [s0, s1], _ =>
    match xs, hl with
    | [y0, y1], _ =>
      have f0 := hi 0 (by decide)
      have f1 := hi 1 (by decide)
      rw [h1] at f0 f1
      have e0 : DataW.trod enc Try.prog W 0 (fun _ => true) true m 3 [s0] = some y0 := f0
      have e1 : DataW.trod enc Try.prog W 0 (fun _ => true) true m 3 [s1] = some y1 := f1
      obtain ⟨a, rfl⟩ := open_int1 e0
      obtain ⟨b, rfl⟩ := open_int1 e1
      exact ⟨a, b, rfl⟩
end
end

section
open Go.RowKit Go.Sort
theorem Bxs.range {w : World} {l : List (Nat × List Value)} (h : Bxs w l) (j : Nat) {b : Nat} {cs : List Value} (hj : l[j]? = some (b, cs)) : w.rangeAt b 0 cs := fun i v hi => by
  have := h.at j hj i hi
  simpa using this
/-- The cells of a graph's box. -/
theorem Bxs.grid {w : World} {l : List (Nat × List Value)} (h : Bxs w l) (j : Nat) {b : Nat} {gv : Nat → Value} (hj : l[j]? = some (b, [gv 0, gv 1, gv 2, gv 3, gv 4, gv 5, gv 6, gv 7, gv 8, gv 9, gv 10, gv 11, gv 12, gv 13, gv 14, gv 15, gv 16, gv 17, gv 18, gv 19, gv 20, gv 21, gv 22, gv 23, gv 24, gv 25, gv 26])) : ∀ i : Nat, i < 27 → w.cell? ⟨b, i, none⟩ = some (gv i) := fun i hi => h.at j hj i (grid27 i hi)
/-- A graph's box is there. -/
def GridOk (w : World) (b : Nat) : Prop := ∀ i : Nat, i < 27 → (w.cell? ⟨b, i, none⟩).isSome = true
theorem gridOk {w : World} {b : Nat} {gv : Nat → Value} (h : ∀ i : Nat, i < 27 → w.cell? ⟨b, i, none⟩ = some (gv i)) : GridOk w b := fun i hi => by rw [h i hi]; rfl
theorem grid_two {w : World} {b : Nat} {gv : Nat → Value} (h : ∀ i : Nat, i < 27 → w.cell? ⟨b, i, none⟩ = some (gv i)) : GridOk w b ∧ ∀ i : Nat, i < 27 → w.cell? ⟨b, i, none⟩ = some (gv i) := ⟨gridOk h, h⟩
/-- A graph's box is read. -/
theorem load_graph (w : World) (b : Nat) (h : GridOk w b) : (Instr.loadAt 47 (.pointer (some ⟨b, 0, none⟩))).run Try.prog w = .ok (.agg #[(w.cell? ⟨b, 0, none⟩).getD (Value.bool false), (w.cell? ⟨b, 1, none⟩).getD (Value.bool false), (w.cell? ⟨b, 2, none⟩).getD (Value.bool false), (w.cell? ⟨b, 3, none⟩).getD (Value.bool false), (w.cell? ⟨b, 4, none⟩).getD (Value.bool false), (w.cell? ⟨b, 5, none⟩).getD (Value.bool false), (w.cell? ⟨b, 6, none⟩).getD (Value.bool false), (w.cell? ⟨b, 7, none⟩).getD (Value.bool false), (w.cell? ⟨b, 8, none⟩).getD (Value.bool false), (w.cell? ⟨b, 9, none⟩).getD (Value.bool false), (w.cell? ⟨b, 10, none⟩).getD (Value.bool false), (w.cell? ⟨b, 11, none⟩).getD (Value.bool false), (w.cell? ⟨b, 12, none⟩).getD (Value.bool false), (w.cell? ⟨b, 13, none⟩).getD (Value.bool false), (w.cell? ⟨b, 14, none⟩).getD (Value.bool false), (w.cell? ⟨b, 15, none⟩).getD (Value.bool false), (w.cell? ⟨b, 16, none⟩).getD (Value.bool false), (w.cell? ⟨b, 17, none⟩).getD (Value.bool false), (w.cell? ⟨b, 18, none⟩).getD (Value.bool false), (w.cell? ⟨b, 19, none⟩).getD (Value.bool false), (w.cell? ⟨b, 20, none⟩).getD (Value.bool false), (w.cell? ⟨b, 21, none⟩).getD (Value.bool false), (w.cell? ⟨b, 22, none⟩).getD (Value.bool false), (w.cell? ⟨b, 23, none⟩).getD (Value.bool false), (w.cell? ⟨b, 24, none⟩).getD (Value.bool false), (w.cell? ⟨b, 25, none⟩).getD (Value.bool false), (w.cell? ⟨b, 26, none⟩).getD (Value.bool false)]) w := by
  obtain ⟨gv, hgv⟩ : ∃ gv : Nat → Value, gv = fun i => (w.cell? ⟨b, i, none⟩).getD (Value.bool false) := ⟨_, rfl⟩
  have e : ∀ i, (w.cell? ⟨b, i, none⟩).getD (Value.bool false) = gv i := fun i => by rw [hgv]
  simp only [e]
  refine run_loadAt_mid w b 0 47 [gv 0, gv 1, gv 2, gv 3, gv 4, gv 5, gv 6, gv 7, gv 8, gv 9, gv 10, gv 11, gv 12, gv 13, gv 14, gv 15, gv 16, gv 17, gv 18, gv 19, gv 20, gv 21, gv 22, gv 23, gv 24, gv 25, gv 26] _ (fun i v hi => ?_) Try.underlying47 rfl (by kernel_rfl)
  have hi27 : i < 27 := (List.getElem?_eq_some_iff.1 hi).1
  rw [grid27 i hi27] at hi
  injection hi with hi
  obtain ⟨u, hu⟩ := Option.isSome_iff_exists.1 (h i hi27)
  rw [Nat.zero_add, ← hi, ← e, hu]; rfl
def blkOf : Value → Nat
  | .pointer (some a) => a.block
  | _ => 0
theorem blkOf_ptr (b o : Nat) : blkOf (.pointer (some ⟨b, o, none⟩)) = b := rfl
theorem load_graph' (w : World) (p : Value) (hp : p = .pointer (some ⟨blkOf p, 0, none⟩)) (h : GridOk w (blkOf p)) : (Instr.loadAt 47 p).run Try.prog w = .ok (.agg #[(w.cell? ⟨blkOf p, 0, none⟩).getD (Value.bool false), (w.cell? ⟨blkOf p, 1, none⟩).getD (Value.bool false), (w.cell? ⟨blkOf p, 2, none⟩).getD (Value.bool false), (w.cell? ⟨blkOf p, 3, none⟩).getD (Value.bool false), (w.cell? ⟨blkOf p, 4, none⟩).getD (Value.bool false), (w.cell? ⟨blkOf p, 5, none⟩).getD (Value.bool false), (w.cell? ⟨blkOf p, 6, none⟩).getD (Value.bool false), (w.cell? ⟨blkOf p, 7, none⟩).getD (Value.bool false), (w.cell? ⟨blkOf p, 8, none⟩).getD (Value.bool false), (w.cell? ⟨blkOf p, 9, none⟩).getD (Value.bool false), (w.cell? ⟨blkOf p, 10, none⟩).getD (Value.bool false), (w.cell? ⟨blkOf p, 11, none⟩).getD (Value.bool false), (w.cell? ⟨blkOf p, 12, none⟩).getD (Value.bool false), (w.cell? ⟨blkOf p, 13, none⟩).getD (Value.bool false), (w.cell? ⟨blkOf p, 14, none⟩).getD (Value.bool false), (w.cell? ⟨blkOf p, 15, none⟩).getD (Value.bool false), (w.cell? ⟨blkOf p, 16, none⟩).getD (Value.bool false), (w.cell? ⟨blkOf p, 17, none⟩).getD (Value.bool false), (w.cell? ⟨blkOf p, 18, none⟩).getD (Value.bool false), (w.cell? ⟨blkOf p, 19, none⟩).getD (Value.bool false), (w.cell? ⟨blkOf p, 20, none⟩).getD (Value.bool false), (w.cell? ⟨blkOf p, 21, none⟩).getD (Value.bool false), (w.cell? ⟨blkOf p, 22, none⟩).getD (Value.bool false), (w.cell? ⟨blkOf p, 23, none⟩).getD (Value.bool false), (w.cell? ⟨blkOf p, 24, none⟩).getD (Value.bool false), (w.cell? ⟨blkOf p, 25, none⟩).getD (Value.bool false), (w.cell? ⟨blkOf p, 26, none⟩).getD (Value.bool false)]) w := by
  obtain ⟨b, hb⟩ : ∃ b, b = blkOf p := ⟨_, rfl⟩
  rw [← hb] at hp h ⊢
  subst hp
  exact load_graph w b h
theorem exec_load_graph (ρ : Operand → Value) (o : Oper) (w : World) (x : Operand) (ho : o.op = .load 47 x) (hp : ρ x = .pointer (some ⟨blkOf (ρ x), 0, none⟩)) (h : GridOk w (blkOf (ρ x))) : (execOp ρ o).run Try.prog w = .ok (.value (.agg #[(w.cell? ⟨blkOf (ρ x), 0, none⟩).getD (Value.bool false), (w.cell? ⟨blkOf (ρ x), 1, none⟩).getD (Value.bool false), (w.cell? ⟨blkOf (ρ x), 2, none⟩).getD (Value.bool false), (w.cell? ⟨blkOf (ρ x), 3, none⟩).getD (Value.bool false), (w.cell? ⟨blkOf (ρ x), 4, none⟩).getD (Value.bool false), (w.cell? ⟨blkOf (ρ x), 5, none⟩).getD (Value.bool false), (w.cell? ⟨blkOf (ρ x), 6, none⟩).getD (Value.bool false), (w.cell? ⟨blkOf (ρ x), 7, none⟩).getD (Value.bool false), (w.cell? ⟨blkOf (ρ x), 8, none⟩).getD (Value.bool false), (w.cell? ⟨blkOf (ρ x), 9, none⟩).getD (Value.bool false), (w.cell? ⟨blkOf (ρ x), 10, none⟩).getD (Value.bool false), (w.cell? ⟨blkOf (ρ x), 11, none⟩).getD (Value.bool false), (w.cell? ⟨blkOf (ρ x), 12, none⟩).getD (Value.bool false), (w.cell? ⟨blkOf (ρ x), 13, none⟩).getD (Value.bool false), (w.cell? ⟨blkOf (ρ x), 14, none⟩).getD (Value.bool false), (w.cell? ⟨blkOf (ρ x), 15, none⟩).getD (Value.bool false), (w.cell? ⟨blkOf (ρ x), 16, none⟩).getD (Value.bool false), (w.cell? ⟨blkOf (ρ x), 17, none⟩).getD (Value.bool false), (w.cell? ⟨blkOf (ρ x), 18, none⟩).getD (Value.bool false), (w.cell? ⟨blkOf (ρ x), 19, none⟩).getD (Value.bool false), (w.cell? ⟨blkOf (ρ x), 20, none⟩).getD (Value.bool false), (w.cell? ⟨blkOf (ρ x), 21, none⟩).getD (Value.bool false), (w.cell? ⟨blkOf (ρ x), 22, none⟩).getD (Value.bool false), (w.cell? ⟨blkOf (ρ x), 23, none⟩).getD (Value.bool false), (w.cell? ⟨blkOf (ρ x), 24, none⟩).getD (Value.bool false), (w.cell? ⟨blkOf (ρ x), 25, none⟩).getD (Value.bool false), (w.cell? ⟨blkOf (ρ x), 26, none⟩).getD (Value.bool false)])) w := by
  unfold execOp
  simp only [ho, Sem.run_bind, load_graph' w (ρ x) hp h, Result.andThen_ok, Sem.run_pure]
theorem exec_load_graph' (ρ : Operand → Value) (d : Option Nat) (x : Operand) (T : TypeId) (pos : String) (af) (g) (w : World) (hp : ρ x = .pointer (some ⟨blkOf (ρ x), 0, none⟩)) (h : GridOk w (blkOf (ρ x))) : (execOp ρ { dst := d, op := .load 47 x, type := T, pos := pos, after := af, guard := g }).run Try.prog w = .ok (.value (.agg #[(w.cell? ⟨blkOf (ρ x), 0, none⟩).getD (Value.bool false), (w.cell? ⟨blkOf (ρ x), 1, none⟩).getD (Value.bool false), (w.cell? ⟨blkOf (ρ x), 2, none⟩).getD (Value.bool false), (w.cell? ⟨blkOf (ρ x), 3, none⟩).getD (Value.bool false), (w.cell? ⟨blkOf (ρ x), 4, none⟩).getD (Value.bool false), (w.cell? ⟨blkOf (ρ x), 5, none⟩).getD (Value.bool false), (w.cell? ⟨blkOf (ρ x), 6, none⟩).getD (Value.bool false), (w.cell? ⟨blkOf (ρ x), 7, none⟩).getD (Value.bool false), (w.cell? ⟨blkOf (ρ x), 8, none⟩).getD (Value.bool false), (w.cell? ⟨blkOf (ρ x), 9, none⟩).getD (Value.bool false), (w.cell? ⟨blkOf (ρ x), 10, none⟩).getD (Value.bool false), (w.cell? ⟨blkOf (ρ x), 11, none⟩).getD (Value.bool false), (w.cell? ⟨blkOf (ρ x), 12, none⟩).getD (Value.bool false), (w.cell? ⟨blkOf (ρ x), 13, none⟩).getD (Value.bool false), (w.cell? ⟨blkOf (ρ x), 14, none⟩).getD (Value.bool false), (w.cell? ⟨blkOf (ρ x), 15, none⟩).getD (Value.bool false), (w.cell? ⟨blkOf (ρ x), 16, none⟩).getD (Value.bool false), (w.cell? ⟨blkOf (ρ x), 17, none⟩).getD (Value.bool false), (w.cell? ⟨blkOf (ρ x), 18, none⟩).getD (Value.bool false), (w.cell? ⟨blkOf (ρ x), 19, none⟩).getD (Value.bool false), (w.cell? ⟨blkOf (ρ x), 20, none⟩).getD (Value.bool false), (w.cell? ⟨blkOf (ρ x), 21, none⟩).getD (Value.bool false), (w.cell? ⟨blkOf (ρ x), 22, none⟩).getD (Value.bool false), (w.cell? ⟨blkOf (ρ x), 23, none⟩).getD (Value.bool false), (w.cell? ⟨blkOf (ρ x), 24, none⟩).getD (Value.bool false), (w.cell? ⟨blkOf (ρ x), 25, none⟩).getD (Value.bool false), (w.cell? ⟨blkOf (ρ x), 26, none⟩).getD (Value.bool false)])) w :=
  exec_load_graph ρ _ w x rfl hp h
theorem grid_alloc {w : World} {b : Nat} {gv : Nat → Value} (h : ∀ i : Nat, i < 27 → w.cell? ⟨b, i, none⟩ = some (gv i)) (hlt : b < w.heap.size) (cs : Array Value) (T : TypeId) : ∀ i : Nat, i < 27 → (w.alloc (.cells cs T)).cell? ⟨b, i, none⟩ = some (gv i) := fun i hi => (World.cell?_alloc_lt w (.cells cs T) ⟨b, i, none⟩ hlt).trans (h i hi)
theorem grid_set {w : World} {b : Nat} {gv : Nat → Value} (h : ∀ i : Nat, i < 27 → w.cell? ⟨b, i, none⟩ = some (gv i)) {X j : Nat} (hne : b ≠ X) (v : Value) : ∀ i : Nat, i < 27 → (w.setCell ⟨X, j, none⟩ v).cell? ⟨b, i, none⟩ = some (gv i) := fun i hi => (World.cell?_of_block (a := ⟨b, i, none⟩) (Below.heap_setCell w ⟨X, j, none⟩ v b hne)).trans (h i hi)
theorem grid_made {w : World} {b : Nat} {gv : Nat → Value} (h : ∀ i : Nat, i < 27 → w.cell? ⟨b, i, none⟩ = some (gv i)) (hlt : b < w.heap.size) (cs : Array Value) (T : TypeId) (v0 v1 v2 v3 : Value) : ∀ i : Nat, i < 27 → (((((w.alloc (.cells cs T)).setCell ⟨w.heap.size, 0, none⟩ v0).setCell ⟨w.heap.size, 1, none⟩ v1).setCell ⟨w.heap.size, 2, none⟩ v2).setCell ⟨w.heap.size, 3, none⟩ v3).cell? ⟨b, i, none⟩ = some (gv i) :=
  grid_set (grid_set (grid_set (grid_set (grid_alloc h hlt cs T) (by omega) _) (by omega) _) (by omega) _) (by omega) _
theorem grid_below {w w' : World} {b : Nat} {gv : Nat → Value} (h : ∀ i : Nat, i < 27 → w.cell? ⟨b, i, none⟩ = some (gv i)) (hlt : b < w.heap.size) (hb : Below w.heap.size w w') : ∀ i : Nat, i < 27 → w'.cell? ⟨b, i, none⟩ = some (gv i) := fun i hi => (hb.cell (p := ⟨b, i, none⟩) hlt).trans (h i hi)
theorem grid_below' {w w' : World} {b : Nat} {gv : Nat → Value} (hb : Below w.heap.size w w') (h : ∀ i : Nat, i < 27 → w.cell? ⟨b, i, none⟩ = some (gv i)) (hlt : b < w.heap.size) : ∀ i : Nat, i < 27 → w'.cell? ⟨b, i, none⟩ = some (gv i) := grid_below h hlt hb
theorem lt_alloc {w : World} {b : Nat} (h : b < w.heap.size) (cs : Array Value) (T : TypeId) : b < (w.alloc (.cells cs T)).heap.size := by simp; omega
theorem grid_drew {w : World} {b : Nat} {gv : Nat → Value} (h : ∀ i : Nat, i < 27 → w.cell? ⟨b, i, none⟩ = some (gv i)) : ∀ i : Nat, i < 27 → w.drew.cell? ⟨b, i, none⟩ = some (gv i) := h
theorem lt_drew {w : World} {b : Nat} (h : b < w.heap.size) : b < w.drew.heap.size := h
theorem row_drew {w : World} {g : Nat} {e : TypeId} {cs : List Value} (h : Row w g e cs) : Row w.drew g e cs := h
theorem grid_set4 {w : World} {b X : Nat} {gv : Nat → Value} (h : ∀ i : Nat, i < 27 → w.cell? ⟨b, i, none⟩ = some (gv i)) (hne : b ≠ X) (v0 v1 v2 v3 : Value) : ∀ i : Nat, i < 27 → ((((w.setCell ⟨X, 0, none⟩ v0).setCell ⟨X, 1, none⟩ v1).setCell ⟨X, 2, none⟩ v2).setCell ⟨X, 3, none⟩ v3).cell? ⟨b, i, none⟩ = some (gv i) :=
  grid_set (grid_set (grid_set (grid_set h hne _) hne _) hne _) hne _
/-- An automaton is stored into a box of its own. -/
theorem LW.put {W w : World} {l : List (Nat × List Value)} {b : Nat} {x0 x1 x2 x3 : Value} (h : LW W l w) (hr : Row w b 25 [x0, x1, x2, x3]) (hb : W.heap.size ≤ b) (hne : ∀ x ∈ l, x.1 ≠ b) (v0 v1 v2 v3 : Value) : LW W ((b, [v0, v1, v2, v3]) :: l) ((((w.setCell ⟨b, 0, none⟩ v0).setCell ⟨b, 1, none⟩ v1).setCell ⟨b, 2, none⟩ v2).setCell ⟨b, 3, none⟩ v3) := by
  refine ⟨below_set4 h.bel hb _ _ _ _, fun b' cs hm => ?_⟩
  have hR : Row ((((w.setCell ⟨b, 0, none⟩ v0).setCell ⟨b, 1, none⟩ v1).setCell ⟨b, 2, none⟩ v2).setCell ⟨b, 3, none⟩ v3) b 25 [v0, v1, v2, v3] := (((hr.set 0 v0).set 1 v1).set 2 v2).set 3 v3
  rcases List.mem_cons.1 hm with e | hm
  · injection e with e1 e2
    subst e1 e2
    exact ⟨hR.lt, fun i v hi => hR.cell i hi⟩
  · obtain ⟨h1, h2⟩ := h.bx b' cs hm
    have hn : b' ≠ b := hne _ hm
    refine ⟨by simp only [World.size_setCell]; exact h1, fun i v hi => ?_⟩
    rw [cell_set4 hn]; exact h2 i v hi
theorem AuR.put {w : World} {B b : Nat} {a : Au} (A : Option Addr) (n c : Nat) (s : Int) (M : Option Addr) (m d : Nat) (E : Option Addr) (k g : Nat) (h : AuR w B A n c s M m d E k g a) (hB : B ≤ b) (v0 v1 v2 v3 : Value) : AuR ((((w.setCell ⟨b, 0, none⟩ v0).setCell ⟨b, 1, none⟩ v1).setCell ⟨b, 2, none⟩ v2).setCell ⟨b, 3, none⟩ v3) B A n c s M m d E k g a :=
  h.keep fun b' o hlt => cell_set4 (by omega)
theorem AuF.aur {a : Au} {w : World} {base : Nat} (A : Option Addr) (n c : Nat) (s : Int) (M : Option Addr) (m d : Nat) (E : Option Addr) (k g : Nat) (h : AuF a (.agg #[.slice A n c, .int .i64 s, .slice M m d, .slice E k g]) w base) : AuR w w.heap.size A n c s M m d E k g a := by
  obtain ⟨A', n', c', s', M', m', d', E', k', g', e, hr, _⟩ := h
  simp only [Value.agg.injEq, Array.mk.injEq, List.cons.injEq, Value.slice.injEq, Value.int.injEq, and_true, true_and] at e
  obtain ⟨⟨rfl, rfl, rfl⟩, rfl, ⟨rfl, rfl, rfl⟩, rfl, rfl, rfl⟩ := e
  exact hr
theorem LW.put' {W w w1 : World} {l : List (Nat × List Value)} {b : Nat} {x0 x1 x2 x3 : Value} (h1 : LW W l w1) (h : LW W l w) (hr : Row w b 25 [x0, x1, x2, x3]) (hb : w1.heap.size ≤ b) (v0 v1 v2 v3 : Value) : LW W ((b, [v0, v1, v2, v3]) :: l) ((((w.setCell ⟨b, 0, none⟩ v0).setCell ⟨b, 1, none⟩ v1).setCell ⟨b, 2, none⟩ v2).setCell ⟨b, 3, none⟩ v3) :=
  h.put hr (Nat.le_trans h1.bel.size hb) (fun x hx => Nat.ne_of_lt (Nat.lt_of_lt_of_le (h1.bx x.1 x.2 hx).1 hb)) v0 v1 v2 v3
/-- The three ways in which the box is made: behind the calls, between them, ahead of them. -/
def PreR (W : World) (l : List (Nat × List Value)) (v : Value) (wx : World) : Prop := ∃ (bc : Nat) (al : List Int) (a : Au) (A : Option Addr) (n c : Nat) (s : Int) (M : Option Addr) (m d : Nat) (E : Option Addr) (k g : Nat), v = .pointer (some ⟨bc, 0, none⟩) ∧ Hid (LW W ((bc, [.slice A n c, .int .i64 s, .slice M m d, .slice E k g]) :: l) wx) ∧ Hid (Ev5 5 al) ∧ Hid (OkM al a) ∧ Hid (AuR wx wx.heap.size A n c s M m d E k g a)
section
variable {W w1 w2 w3 : World} {l : List (Nat × List Value)} {al : List Int} {a : Au} {A : Option Addr} {n c : Nat} {s : Int} {M : Option Addr} {m d : Nat} {E : Option Addr} {k g : Nat} {base : Nat}
theorem pre_1 (h1 : LW W l w1) (hb2 : Below w1.drew.heap.size w1.drew w2) (hb3 : Below w2.heap.size w2 w3) (hev : Ev5 5 al) (hok : OkM al a) (hau : AuF a (.agg #[.slice A n c, .int .i64 s, .slice M m d, .slice E k g]) w3 base) : PreR W l (.pointer (some ⟨w3.heap.size, 0, none⟩)) (w3.alloc (.cells #[.slice A n c, .int .i64 s, .slice M m d, .slice E k g] 25)) :=
  ⟨_, al, a, A, n, c, s, M, m, d, E, k, g, rfl, ((h1.drew.call hb2).call hb3).new [.slice A n c, .int .i64 s, .slice M m d, .slice E k g] 25, hev, hok, ((hau.aur A n c s M m d E k g).below ((Below.refl _ w3).alloc (Nat.le_refl _) _) (Nat.le_refl _)).more (by simp)⟩
theorem pre_2 {x0 x1 x2 x3 : Value} {o : Obj} (h1 : LW W l w1) (hb2 : Below w1.drew.heap.size w1.drew w2) (hb3 : Below (w2.alloc o).heap.size (w2.alloc o) w3) (hq : Row w3 w2.heap.size 25 [x0, x1, x2, x3]) (hev : Ev5 5 al) (hok : OkM al a) (hau : AuF a (.agg #[.slice A n c, .int .i64 s, .slice M m d, .slice E k g]) w3 (w2.alloc o).heap.size) : PreR W l (.pointer (some ⟨w2.heap.size, 0, none⟩)) ((((w3.setCell ⟨w2.heap.size, 0, none⟩ (.slice A n c)).setCell ⟨w2.heap.size, 1, none⟩ (.int .i64 s)).setCell ⟨w2.heap.size, 2, none⟩ (.slice M m d)).setCell ⟨w2.heap.size, 3, none⟩ (.slice E k g)) :=
  ⟨_, al, a, A, n, c, s, M, m, d, E, k, g, rfl, LW.put' h1 (((h1.drew.call hb2).alloc o).call hb3) hq hb2.size _ _ _ _, hev, hok, AuF.aur A n c s M m d E k g (hau.set4 (by simp) _ _ _ _)⟩
theorem pre_3 {x0 x1 x2 x3 : Value} {o : Obj} (h1 : LW W l w1) (hb2 : Below (w1.alloc o).drew.heap.size (w1.alloc o).drew w2) (hb3 : Below w2.heap.size w2 w3) (hq : Row w3 w1.heap.size 25 [x0, x1, x2, x3]) (hev : Ev5 5 al) (hok : OkM al a) (hau : AuF a (.agg #[.slice A n c, .int .i64 s, .slice M m d, .slice E k g]) w3 w2.heap.size) : PreR W l (.pointer (some ⟨w1.heap.size, 0, none⟩)) ((((w3.setCell ⟨w1.heap.size, 0, none⟩ (.slice A n c)).setCell ⟨w1.heap.size, 1, none⟩ (.int .i64 s)).setCell ⟨w1.heap.size, 2, none⟩ (.slice M m d)).setCell ⟨w1.heap.size, 3, none⟩ (.slice E k g)) :=
  ⟨_, al, a, A, n, c, s, M, m, d, E, k, g, rfl, LW.put' h1 (((h1.alloc o).drew.call hb2).call hb3) hq (Nat.le_refl _) _ _ _ _, hev, hok, AuF.aur A n c s M m d E k g (hau.set4 (by have := hb2.size; simp at this; omega) _ _ _ _)⟩
end
section
variable {W w : World} {l : List (Nat × List Value)}
theorem lw_events {x : Int} (hx : (Lit.int .u8 x).wf = true) (h : LW W l w) : Calls Try.prog 16 #[.int .u8 x] w fun e w' => ∃ zs A n c, zs.length = n ∧ e = .returned (.slice A n c) ∧ Ev5 5 zs ∧ RdI w' w'.heap.size A zs ∧ n ≤ c ∧ LW W l w' :=
  (events_any x w hx).mono fun e w' hh => by
    obtain ⟨zs, hev, A, c, e1, hr, hb, hc, _⟩ := hh
    exact ⟨zs, A, _, c, rfl, e1, hev, hr, hc, h.call hb⟩
theorem lw_make {A0 : Option Addr} {n0 c0 : Nat} {al : List Int} {cs : Array Value} (hx : RdI w w.heap.size A0 al) (hn : al.length = n0) (hc : n0 ≤ c0) (hev : Ev5 5 al) (hg : GrC cs) (h : LW W l w) : Calls Try.prog 15 #[.slice A0 n0 c0, .agg cs] w fun e w' => ∃ a A n c s M m d E k g, e = .returned (.agg #[.slice A n c, .int .i64 s, .slice M m d, .slice E k g]) ∧ OkM al a ∧ AuR w' w'.heap.size A n c s M m d E k g a ∧ LW W l w' :=
  (make_any A0 n0 c0 w.heap.size al cs w hx (Nat.le_refl _) hn hc hev hg).mono fun e w' hh => by
    obtain ⟨a, v, hok, e1, ⟨A, n, c, s, M, m, d, E, k, g, rfl, hr, _⟩, hb⟩ := hh
    exact ⟨a, A, n, c, s, M, m, d, E, k, g, e1, hok, hr, h.call hb⟩
theorem lw_list' {f : FuncId} {args : Array Value} {r : List Int × Int} (hc : Calls Try.prog f args w fun e w' => GivesP w r e w') (h : LW W l w) : Calls Try.prog f args w fun e w' => ∃ A n c, r.1.length = n ∧ e = .returned (.tuple #[.slice A n c, .int .i64 r.2]) ∧ RdI w' w'.heap.size A r.1 ∧ LW W l w' :=
  hc.mono fun e w' hh => by
    obtain ⟨A, c, e1, hr, hb, _⟩ := hh
    exact ⟨A, _, c, rfl, e1, hr, h.call hb⟩
theorem lw_givesC {f : FuncId} {args : Array Value} {zs : List Int} (hc : Calls Try.prog f args w fun e w' => GivesC w zs e w') (h : LW W l w) : Calls Try.prog f args w fun e w' => ∃ A n c, zs.length = n ∧ e = .returned (.slice A n c) ∧ RdI w' w'.heap.size A zs ∧ LW W l w' :=
  hc.mono fun e w' hh => by
    obtain ⟨A, c, e1, hr, hb, _⟩ := hh
    exact ⟨A, _, c, rfl, e1, hr, h.call hb⟩
end
theorem stepR_out {a : Au} {q ev : Int} (hc : chkE a = 0) (hq : inSt a.st q = false) : stepR a q ev = (0, false, 2) := by
  simp [stepR, plE, hc, hq]
theorem stepR_in {a : Au} {q ev : Int} (hc : chkE a = 0) (hq : inSt a.st q = true) (he : ev ∈ a.al) : stepR a q ev = ((stepO a q ev).getD 0, (stepO a q ev).isSome, 0) := by
  simp [stepR, plE, hc, hq, he]
theorem stepR_un {a : Au} {q ev : Int} (hc : chkE a = 0) (hq : inSt a.st q = true) (he : ev ∉ a.al) : stepR a q ev = (0, false, 9) := by
  simp [stepR, plE, hc, hq, he]
theorem enR_out {a : Au} {q : Int} (hc : chkE a = 0) (hq : inSt a.st q = false) : enR a q = ([], 2) := by
  simp [enR, plE, hc, hq]
theorem enR_in {a : Au} {q : Int} (hr : RightW a) (hc : chkE a = 0) (hq : inSt a.st q = true) : enR a q = (enI a q, 0) := by
  simp [enR, plE, hc, hq, en_eq hr]
/-- The way goes on: the boxes are as they were, and so is all memory. -/
structure KW (W : World) (l : List (Nat × List Value)) (w w' : World) : Prop where
  lw : LW W l w'
  bel : Below w.heap.size w w'
theorem KW.of {W w w' : World} {l : List (Nat × List Value)} (h : LW W l w) (hb : Below w.heap.size w w') : KW W l w w' := ⟨h.call hb, hb⟩
theorem KW.ints {W w w' : World} {l : List (Nat × List Value)} (h : KW W l w w') {A : Option Addr} {zs : List Int} (ha : RdI w w.heap.size A zs) : RdI w' w'.heap.size A zs := (ha.below h.bel (Nat.le_refl _)).more h.bel.size
theorem KW.aut {W w w' : World} {l : List (Nat × List Value)} (h : KW W l w w') {a : Au} {A : Option Addr} {n c : Nat} {s : Int} {M : Option Addr} {m d : Nat} {E : Option Addr} {k g : Nat} (ha : AuR w w.heap.size A n c s M m d E k g a) : AuR w' w'.heap.size A n c s M m d E k g a := (ha.below h.bel (Nat.le_refl _)).more h.bel.size
theorem kw_call {f : FuncId} {args : Array Value} {v : Value} {W w : World} {l : List (Nat × List Value)} (hc : Calls Try.prog f args w fun e w' => e = .returned v ∧ Below w.heap.size w w') (h : LW W l w) : Calls Try.prog f args w fun e w' => e = .returned v ∧ KW W l w w' :=
  hc.mono fun e w' hh => ⟨hh.1, KW.of h hh.2⟩
section
variable {W w : World} {l : List (Nat × List Value)} {A : Option Addr} {n c : Nat} {s : Int} {M : Option Addr} {m d : Nat} {E : Option Addr} {k g : Nat} {a : Au}
theorem k_same {A1 A2 : Option Addr} {n1 c1 n2 c2 : Nat} {xs ys : List Int} {r : Bool} (hr : decide (xs = ys) = r) (h1 : RdI w w.heap.size A1 xs) (h2 : RdI w w.heap.size A2 ys) (l1 : xs.length = n1) (l2 : ys.length = n2) (hb : n1 ≤ 100000) (hb2 : n2 ≤ 100000) (h : LW W l w) : Calls Try.prog 19 #[.slice A1 n1 c1, .slice A2 n2 c2] w fun e w' => e = .returned (.bool r) ∧ KW W l w w' :=
  (sameInts_any A1 A2 n1 n2 c1 c2 w.heap.size w.heap.size xs ys w h1 h2 l1 l2 (by omega) (by omega)).mono fun e w' hh => by
    obtain ⟨e1, q, rfl⟩ := hh
    exact ⟨by rw [e1, hr], KW.of h (below_drewN (Below.refl _ _) q)⟩
theorem k_has {A1 : Option Addr} {n1 c1 : Nat} {xs : List Int} {x : Int} {r : Bool} (hr : decide (x ∈ xs) = r) (h1 : RdI w w.heap.size A1 xs) (l1 : xs.length = n1) (hb : n1 ≤ 100000) (h : LW W l w) : Calls Try.prog 49 #[.slice A1 n1 c1, .int .i64 x] w fun e w' => e = .returned (.bool r) ∧ KW W l w w' :=
  (lHas_any A1 n1 c1 w.heap.size xs x w h1 l1 (by omega)).mono fun e w' hh => by
    obtain ⟨e1, rfl⟩ := hh
    exact ⟨by rw [e1, hr], KW.of h (Below.refl _ _)⟩
theorem k_rstep {q ev t : Int} (ht : stepI a q ev = t) (ha : AuR w w.heap.size A n c s M m d E k g a) (h : LW W l w) : Calls Try.prog 50 #[.agg #[.slice A n c, .int .i64 s, .slice M m d, .slice E k g], .int .i64 q, .int .i64 ev] w fun e w' => e = .returned (.int .i64 t) ∧ KW W l w w' := by
  have := kw_call (rStep_any A n c s M m d E k g a q ev w.heap.size w ha (Nat.le_refl _)) h
  rw [ht] at this; exact this
end
theorem succ_en_len {a : Au} (h : RightW a) (q : Int) : (enI a q).length ≤ 32 := Nat.le_trans (List.length_filter_le _ _) (al_len h)
end

section
open Go.RowKit Go.Sort
section
variable {W w : World} {l : List (Nat × List Value)} {A : Option Addr} {n c : Nat} {s : Int} {M : Option Addr} {m d : Nat} {E : Option Addr} {k g : Nat} {a : Au} {A1 : Option Addr} {n1 c1 : Nat} {ws : List Int}
end
theorem runR_out {a : Au} {q : Int} {ws : List Int} (hc : chkE a = 0) (hq : inSt a.st q = false) : runR a q ws = (0, 0, 2) := by simp [runR, plE, hc, hq]
theorem runR_in {a : Au} {q : Int} {ws : List Int} (hc : chkE a = 0) (hq : inSt a.st q = true) (hi : inB a.al ws = true) : runR a q ws = ((runE a q ws).1, ((runE a q ws).2 : Int), 0) := by simp [runR, plE, hc, hq, hi]
theorem runR_un {a : Au} {q : Int} {ws : List Int} (hc : chkE a = 0) (hq : inSt a.st q = true) (hi : inB a.al ws = false) : runR a q ws = (0, 0, 9) := by simp [runR, plE, hc, hq, hi]
theorem in_at {zs ws : List Int} {k : Nat} (h : inB zs ws = true) (hk : k < ws.length) : decide (ws.getD k 0 ∈ zs) = true := by
  unfold inB at h
  exact List.all_eq_true.1 h _ (getD_mem hk)
end
end Go.Proofs.Ytmghngehpgolgaa
