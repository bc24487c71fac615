/- Texts merged: what follows were texts of their own. -/
import Derived.Test.YtmghngehpgolgaaZa4
import Derived.Test.YtmghngehpgolgaaZa2
import Derived.Deep.RegionHeld3
import Derived.Test.YtmghngehpgolgaaZa1
import Derived.Test.YtmghngehpgolgaaZa5
import Derived.Maps.OwnSet
import Derived.Maps.OwnOps
import Derived.Laws.BytesArg
import Derived.StringKeys
set_option linter.unusedVariables false
set_option linter.unusedSimpArgs false
set_option linter.unusedSectionVars false
/- The words of a breadth-first search: each found state has the least of all words that lead to it (shorter first, then by the events). -/
namespace Go.Proofs.Ytmghngehpgolgaa

/-- Words of one length are compared by their first unlike event. -/
def lexL : List Int → List Int → Prop
  | x :: v, y :: w => x < y ∨ (x = y ∧ lexL v w)
  | _, _ => False
def slx (v w : List Int) : Prop := v.length < w.length ∨ (v.length = w.length ∧ lexL v w)
theorem lexL_irrefl : ∀ v : List Int, ¬ lexL v v
  | [] => id
  | x :: v => fun h => h.elim (fun h => by omega) fun h => lexL_irrefl v h.2
theorem lexL_trans : ∀ {u v w : List Int}, lexL u v → lexL v w → lexL u w
  | _ :: _, _ :: _, _ :: _, h1, h2 => by
    rcases h1 with h1 | ⟨h1, h3⟩
    · rcases h2 with h2 | ⟨h2, _⟩
      · exact .inl (by omega)
      · exact .inl (by omega)
    · rcases h2 with h2 | ⟨h2, h4⟩
      · exact .inl (by omega)
      · exact .inr ⟨by omega, lexL_trans h3 h4⟩
theorem lexL_app : ∀ {u v : List Int} (a b : List Int), u.length = v.length → lexL u v → lexL (u ++ a) (v ++ b)
  | _ :: _, _ :: _, a, b, hl, h => by
    rcases h with h | ⟨h1, h2⟩
    · exact .inl h
    · exact .inr ⟨h1, lexL_app a b (by simpa using hl) h2⟩
theorem lexL_snoc : ∀ (u : List Int) {e f : Int}, e < f → lexL (u ++ [e]) (u ++ [f])
  | [], _, _, h => .inl h
  | _ :: u, _, _, h => .inr ⟨rfl, lexL_snoc u h⟩
theorem slx_irrefl (v : List Int) : ¬ slx v v := fun h => h.elim (fun h => by omega) fun h => lexL_irrefl v h.2
theorem slx_trans {u v w : List Int} (h1 : slx u v) (h2 : slx v w) : slx u w := by
  rcases h1 with h1 | ⟨h1, h3⟩
  · rcases h2 with h2 | ⟨h2, _⟩ <;> exact .inl (by omega)
  · rcases h2 with h2 | ⟨h2, h4⟩
    · exact .inl (by omega)
    · exact .inr ⟨by omega, lexL_trans h3 h4⟩
theorem slx_app {u v : List Int} (e f : Int) (h : slx u v) : slx (u ++ [e]) (v ++ [f]) := by
  rcases h with h | ⟨h1, h2⟩
  · exact .inl (by simp; omega)
  · exact .inr ⟨by simp; omega, lexL_app _ _ h1 h2⟩
theorem slx_snoc (u : List Int) {e f : Int} (h : e < f) : slx (u ++ [e]) (u ++ [f]) := .inr ⟨by simp, lexL_snoc u h⟩
theorem slx_nil (u : List Int) (e : Int) : slx [] (u ++ [e]) := .inl (by simp)
/-- A state that is found, with its word. -/
def visP (w : List Int) (T : List (Int × List Int)) (x : Ed) : List (Int × List Int) := if x.t ∈ T.map Prod.fst then T else T ++ [(x.t, w ++ [x.e])]
def Tr (a : Au) : Nat → List (Int × List Int)
  | 0 => [(0, [])]
  | n + 1 => match (Tr a n)[n]? with | none => Tr a n | some p => (succ a.ed p.1).foldl (visP p.2) (Tr a n)
theorem visP_fst (w : List Int) (T : List (Int × List Int)) (x : Ed) : (visP w T x).map Prod.fst = visit (T.map Prod.fst) x.t := by
  unfold visP visit
  split
  · rfl
  · simp
theorem visPL_fst (w : List Int) : ∀ (l : List Ed) (T : List (Int × List Int)), (l.foldl (visP w) T).map Prod.fst = visitL (T.map Prod.fst) l
  | [], _ => rfl
  | x :: l, T => by rw [List.foldl_cons, visPL_fst w l, visP_fst, visitL_cons]
/-- The states are found in the order of the canonical form. -/
theorem tr_fst (a : Au) : ∀ n, (Tr a n).map Prod.fst = Fd a n
  | 0 => rfl
  | n + 1 => by
    have ih := tr_fst a n
    rw [Tr]
    cases h : (Tr a n)[n]? with
    | none =>
      have : ¬ n < (Fd a n).length := by rw [← ih, List.length_map]; have := List.getElem?_eq_none_iff.1 h; omega
      rw [Fd_stop this]; exact ih
    | some p =>
      obtain ⟨hl, hp⟩ := List.getElem?_eq_some_iff.1 h
      have hlt : n < (Fd a n).length := by rw [← ih, List.length_map]; exact hl
      have hq : (Fd a n).getD n 0 = p.1 := by rw [← ih, List.getD, List.getElem?_map, h]; rfl
      show ((succ a.ed p.1).foldl (visP p.2) (Tr a n)).map Prod.fst = _
      rw [Fd_go hlt, visPL_fst, ih, hq]
theorem visP_mem {w : List Int} {T : List (Int × List Int)} {x : Ed} {p : Int × List Int} : p ∈ visP w T x ↔ p ∈ T ∨ (x.t ∉ T.map Prod.fst ∧ p = (x.t, w ++ [x.e])) := by
  unfold visP
  split
  · next h => exact ⟨.inl, fun h' => h'.elim id fun h' => absurd h h'.1⟩
  · next h => rw [List.mem_append, List.mem_singleton]; exact ⟨fun h' => h'.imp id fun e => ⟨h, e⟩, fun h' => h'.imp id fun e => e.2⟩
theorem visP_pre (w : List Int) (T : List (Int × List Int)) (x : Ed) : T <+: visP w T x := by
  unfold visP; split
  · exact List.prefix_rfl
  · exact List.prefix_append _ _
theorem visPL_pre (w : List Int) : ∀ (l : List Ed) (T : List (Int × List Int)), T <+: l.foldl (visP w) T
  | [], _ => List.prefix_rfl
  | x :: l, T => (visP_pre w T x).trans (visPL_pre w l _)
theorem tr_pre (a : Au) (n : Nat) : Tr a n <+: Tr a (n + 1) := by
  rw [Tr]
  cases (Tr a n)[n]? with
  | none => exact List.prefix_rfl
  | some p => exact visPL_pre _ _ _
theorem tr_mono {a : Au} {n m : Nat} (h : n ≤ m) : Tr a n <+: Tr a m := by
  obtain ⟨d, rfl⟩ : ∃ d, m = n + d := ⟨m - n, by omega⟩
  clear h
  induction d with
  | zero => exact List.prefix_rfl
  | succ d ih => exact ih.trans (tr_pre a (n + d))
theorem rO_snoc' (a : Au) : ∀ (ws : List Int) (q x : Int), rO a q (ws ++ [x]) = (match rO a q ws with | none => none | some u => stepO a u x)
  | [], q, x => by
    show rO a q [x] = stepO a q x
    rw [rO]
    cases stepO a q x <;> rfl
  | y :: r, q, x => by
    rw [List.cons_append, rO, rO]
    cases stepO a q y with
    | none => rfl
    | some t => exact rO_snoc' a r t x
/-- What the search keeps: words lead to their states, rise, and lie below what is found next. -/
structure TrI (a : Au) (n : Nat) (T : List (Int × List Int)) : Prop where
  run : ∀ p ∈ T, rO a 0 p.2 = some p.1
  up : (T.map Prod.snd).Pairwise slx
  bef : ∀ p ∈ T, p.2 = [] ∨ ∃ (j : Nat) (r : Int × List Int) (e : Int), j < n ∧ T[j]? = some r ∧ p.2 = r.2 ++ [e]
theorem pre_at {α : Type} {l r : List α} (h : l <+: r) {j : Nat} {x : α} (hx : l[j]? = some x) : r[j]? = some x := by
  obtain ⟨t, rfl⟩ := h
  rw [List.getElem?_append_left (List.getElem?_eq_some_iff.1 hx).1]; exact hx
/-- The edges of one state are passed over. -/
theorem tr_edges {a : Au} (h : RightW a) {n : Nat} {p : Int × List Int} (hr : rO a 0 p.2 = some p.1) : ∀ (l : List Ed) (T : List (Int × List Int)), (∀ x ∈ l, x ∈ a.ed ∧ x.f = p.1) → (l.Pairwise fun x y => x.e < y.e) → T[n]? = some p → TrI a (n + 1) T → (∀ x ∈ l, ∀ q ∈ T, slx q.2 (p.2 ++ [x.e])) →
    TrI a (n + 1) (l.foldl (visP p.2) T) ∧ ∀ x ∈ l, ∃ w, (x.t, w) ∈ l.foldl (visP p.2) T ∧ (w = p.2 ++ [x.e] ∨ slx w (p.2 ++ [x.e]))
  | [], T, _, _, _, hI, _ => ⟨hI, fun x hx => by cases hx⟩
  | x :: l, T, hl, ho, hn, hI, hb => by
    rw [List.pairwise_cons] at ho
    have hx := hl x (List.mem_cons_self ..)
    have hbx := hb x (List.mem_cons_self ..)
    have hst : rO a 0 (p.2 ++ [x.e]) = some x.t := by
      rw [rO_snoc', hr]
      show stepO a p.1 x.e = _
      rw [stepO, (edgeO_some h.edo).2 ⟨hx.1, hx.2, rfl⟩]; rfl
    have hI' : TrI a (n + 1) (visP p.2 T x) := by
      by_cases hm : x.t ∈ T.map Prod.fst
      · have : visP p.2 T x = T := by unfold visP; rw [if_pos hm]
        rw [this]; exact hI
      · have hv : visP p.2 T x = T ++ [(x.t, p.2 ++ [x.e])] := by unfold visP; rw [if_neg hm]
        rw [hv]
        refine ⟨fun q hq => ?_, ?_, fun q hq => ?_⟩
        · rcases List.mem_append.1 hq with hq | hq
          · exact hI.run q hq
          · rw [List.mem_singleton] at hq; subst hq; exact hst
        · rw [List.map_append, List.pairwise_append]
          refine ⟨hI.up, by simp, fun u hu v hv => ?_⟩
          obtain ⟨q, hq, rfl⟩ := List.mem_map.1 hu
          simp at hv
          subst hv
          exact hbx q hq
        · rcases List.mem_append.1 hq with hq | hq
          · rcases hI.bef q hq with h1 | ⟨j, r, e, h1, h2, h3⟩
            · exact .inl h1
            · exact .inr ⟨j, r, e, h1, pre_at (List.prefix_append _ _) h2, h3⟩
          · rw [List.mem_singleton] at hq
            subst hq
            exact .inr ⟨n, p, x.e, Nat.lt_succ_self n, pre_at (List.prefix_append _ _) hn, rfl⟩
    have hn' := pre_at (visP_pre p.2 T x) hn
    have hb' : ∀ y ∈ l, ∀ q ∈ visP p.2 T x, slx q.2 (p.2 ++ [y.e]) := fun y hy q hq => by
      rcases visP_mem.1 hq with hq | ⟨_, rfl⟩
      · exact hb y (List.mem_cons_of_mem _ hy) q hq
      · exact slx_snoc _ (ho.1 y hy)
    obtain ⟨k1, k2⟩ := tr_edges h hr l (visP p.2 T x) (fun y hy => hl y (List.mem_cons_of_mem _ hy)) ho.2 hn' hI' hb'
    refine ⟨k1, fun y hy => ?_⟩
    rcases List.mem_cons.1 hy with rfl | hy
    · have hpre := visPL_pre p.2 l (visP p.2 T y)
      by_cases hm : y.t ∈ T.map Prod.fst
      · obtain ⟨q, hq, e⟩ := List.mem_map.1 hm
        refine ⟨q.2, hpre.subset ((visP_pre p.2 T y).subset ?_), .inr (hbx q hq)⟩
        rw [← e]; exact hq
      · exact ⟨p.2 ++ [y.e], hpre.subset (visP_mem.2 (.inr ⟨hm, rfl⟩)), .inl rfl⟩
    · exact k2 y hy
theorem tr_inv {a : Au} (h : RightW a) : ∀ n, TrI a n (Tr a n) ∧ ∀ (i : Nat) (p : Int × List Int), i < n → (Tr a n)[i]? = some p → ∀ x ∈ succ a.ed p.1, ∃ w, (x.t, w) ∈ Tr a n ∧ (w = p.2 ++ [x.e] ∨ slx w (p.2 ++ [x.e]))
  | 0 => ⟨⟨fun p hp => by simp [Tr] at hp; subst hp; rfl, by simp [Tr], fun p hp => by simp [Tr] at hp; subst hp; exact .inl rfl⟩, fun i p hi => by omega⟩
  | n + 1 => by
    obtain ⟨hI, hd⟩ := tr_inv h n
    have hI1 : TrI a (n + 1) (Tr a n) := ⟨hI.run, hI.up, fun q hq => (hI.bef q hq).imp id fun ⟨j, r, e, h1, h2⟩ => ⟨j, r, e, Nat.lt_succ_of_lt h1, h2⟩⟩
    cases hn : (Tr a n)[n]? with
    | none =>
      have ht : Tr a (n + 1) = Tr a n := by rw [Tr, hn]
      rw [ht]
      refine ⟨hI1, fun i p hi hp => hd i p ?_ hp⟩
      have := (List.getElem?_eq_some_iff.1 hp).1
      have := List.getElem?_eq_none_iff.1 hn
      omega
    | some p =>
      have ht : Tr a (n + 1) = (succ a.ed p.1).foldl (visP p.2) (Tr a n) := by rw [Tr, hn]
      have hpm := List.mem_of_getElem? hn
      have hb : ∀ x ∈ succ a.ed p.1, ∀ q ∈ Tr a n, slx q.2 (p.2 ++ [x.e]) := fun x _ q hq => by
        rcases hI.bef q hq with h1 | ⟨j, r, e, h1, h2, h3⟩
        · rw [h1]; exact slx_nil _ _
        · rw [h3]
          refine slx_app _ _ ?_
          obtain ⟨hj, ej⟩ := List.getElem?_eq_some_iff.1 h2
          obtain ⟨hk, ek⟩ := List.getElem?_eq_some_iff.1 hn
          have := List.pairwise_iff_getElem.1 hI.up j n (by simpa using hj) (by simpa using hk) h1
          simpa [ej, ek] using this
      obtain ⟨k1, k2⟩ := tr_edges h (hI.run p hpm) (succ a.ed p.1) (Tr a n) (fun x hx => mem_succ.1 hx) (succ_sorted h.edo _) hn hI1 hb
      rw [ht]
      refine ⟨k1, fun i q hi hq x hx => ?_⟩
      have hpre := visPL_pre p.2 (succ a.ed p.1) (Tr a n)
      by_cases hin : i = n
      · subst hin
        have := pre_at hpre hn
        rw [hq] at this
        injection this with this
        subst this
        exact k2 x hx
      · have hil : i < (Tr a n).length := by have := (List.getElem?_eq_some_iff.1 hn).1; omega
        have hq' : (Tr a n)[i]? = some q := by
          rw [List.getElem?_eq_getElem hil]
          have := pre_at hpre (List.getElem?_eq_getElem hil)
          rw [hq] at this; exact this.symm
        obtain ⟨w, h1, h2⟩ := hd i q (by omega) hq' x hx
        exact ⟨w, hpre.subset h1, h2⟩
/-- All found states with their words. -/
def trA (a : Au) : List (Int × List Int) := Tr a a.st.toNat
theorem trA_fst {a : Au} (h0 : 0 < a.st) : (trA a).map Prod.fst = fnd a := by rw [trA, tr_fst, fnd_pos h0]
theorem trA_run {a : Au} (h : RightW a) : ∀ p ∈ trA a, rO a 0 p.2 = some p.1 := (tr_inv h _).1.run
theorem trA_up {a : Au} (h : RightW a) : ((trA a).map Prod.snd).Pairwise slx := (tr_inv h _).1.up
/-- No word that leads to a found state is less than its word. -/
theorem trA_least {a : Au} (h : RightW a) (h0 : 0 < a.st) (v : List Int) : ∀ q, rO a 0 v = some q → ∃ w, (q, w) ∈ trA a ∧ (w = v ∨ slx w v) := by
  have key : ∀ (k : Nat) (v : List Int), v.length = k → ∀ q, rO a 0 v = some q → ∃ w, (q, w) ∈ trA a ∧ (w = v ∨ slx w v) := by
    intro k
    induction k with
    | zero =>
      intro v hv q hq
      have : v = [] := List.eq_nil_of_length_eq_zero hv
      subst this
      simp [rO] at hq
      subst hq
      exact ⟨[], (tr_mono (Nat.zero_le _)).subset (by simp [Tr]), .inl rfl⟩
    | succ k ih =>
      intro v hv q hq
      obtain ⟨u, e, rfl⟩ : ∃ u e, v = u ++ [e] := ⟨v.dropLast, v.getLast (fun hh => by rw [hh] at hv; simp at hv), (List.dropLast_concat_getLast _).symm⟩
      rw [rO_snoc'] at hq
      cases hu : rO a 0 u with
      | none => rw [hu] at hq; cases hq
      | some p =>
        rw [hu] at hq
        have hq : stepO a p e = some q := hq
        obtain ⟨wp, hm, hle⟩ := ih u (by simp at hv; exact hv) p hu
        obtain ⟨i, hi⟩ := List.getElem?_of_mem hm
        have hil := (List.getElem?_eq_some_iff.1 hi).1
        have hlen : (trA a).length ≤ a.st.toNat := by
          have := Fd_len h h0 a.st.toNat
          rw [← tr_fst, List.length_map] at this; exact this
        cases hy : edgeO a.ed p e with
        | none => rw [stepO, hy] at hq; cases hq
        | some y =>
          rw [stepO, hy] at hq
          injection hq with hq
          obtain ⟨k1, k2, k3⟩ := (edgeO_some h.edo).1 hy
          obtain ⟨w, g1, g2⟩ := (tr_inv h a.st.toNat).2 i (p, wp) (by omega) hi y (mem_succ.2 ⟨k1, k2⟩)
          refine ⟨w, by rw [← hq]; exact g1, ?_⟩
          rw [k3] at g2
          rcases hle with rfl | hle
          · exact g2
          · rcases g2 with rfl | g2
            · exact .inr (slx_app _ _ hle)
            · exact .inr (slx_trans g2 (slx_app _ _ hle))
  exact key v.length v rfl
end Go.Proofs.Ytmghngehpgolgaa

/- Layer 7: words with an observation: a search among places, which are pairs of the events done and a state. -/
namespace Go.Proofs.Ytmghngehpgolgaa

/-- The places: d events of ob are done, and the state is q. -/
def plC (a : Au) (onto ob : List Int) (g : Int → Bool) : Cod (Nat × Int) where
  al := a.al
  n := (ob.length + 1) * a.st.toNat
  en p := (p.1 : Int) * a.st + p.2
  de x := ((x / a.st).toNat, x % a.st)
  st p e := match stepO a p.2 e with
    | none => none
    | some t => if e ∈ onto then (if ob[p.1]? = some e then some (p.1 + 1, t) else none) else some (p.1, t)
  mq p := decide (p.1 = ob.length) && g p.2
def PlOk (a : Au) (ob : List Int) (p : Nat × Int) : Prop := p.1 ≤ ob.length ∧ 0 ≤ p.2 ∧ p.2 < a.st
theorem pl_en_lt {s q : Int} {d l : Nat} (hd : d ≤ l) (hq : q < s) (hs : 0 < s) : (d : Int) * s + q < (((l + 1) * s.toNat : Nat) : Int) := by
  have h1 : (d : Int) * s ≤ (l : Int) * s := Int.mul_le_mul_of_nonneg_right (by omega) (by omega)
  have h2 : (((l + 1) * s.toNat : Nat) : Int) = (l : Int) * s + s := by
    rw [Int.natCast_mul, show ((s.toNat : Nat) : Int) = s by omega, show (((l + 1 : Nat)) : Int) = (l : Int) + 1 by omega, Int.add_mul, Int.one_mul]
  omega
theorem pl_div {s q : Int} {d : Nat} (h0 : 0 ≤ q) (hq : q < s) : ((d : Int) * s + q) / s = (d : Int) ∧ ((d : Int) * s + q) % s = q := by
  have hs : s ≠ 0 := by omega
  rw [Int.add_comm]
  exact ⟨by rw [Int.add_mul_ediv_right _ _ hs, Int.ediv_eq_zero_of_lt h0 hq]; omega, by rw [Int.add_mul_emod_self_right, Int.emod_eq_of_lt h0 hq]⟩
theorem pl_ok {a : Au} (h : RightW a) (h0 : 0 < a.st) (onto ob : List Int) (g : Int → Bool) : CodOk (plC a onto ob g) (PlOk a ob) where
  alr := h.alr
  alo := h.alo
  enr p hp := by
    obtain ⟨h1, h2, h3⟩ := hp
    exact ⟨Int.add_nonneg (Int.mul_nonneg (by omega) (by omega)) h2, pl_en_lt h1 h3 h0⟩
  den p hp := by
    obtain ⟨h1, h2, h3⟩ := hp
    obtain ⟨e1, e2⟩ := pl_div (d := p.1) h2 h3
    show ((((p.1 : Int) * a.st + p.2) / a.st).toNat, ((p.1 : Int) * a.st + p.2) % a.st) = p
    rw [e1, e2]
    exact Prod.ext (by simp) rfl
  okd x hx hn := by
    have hx2 : x < (((ob.length + 1) * a.st.toNat : Nat) : Int) := hn
    refine ⟨?_, Int.emod_nonneg _ (by omega), Int.emod_lt_of_pos _ h0⟩
    show (x / a.st).toNat ≤ ob.length
    have : x / a.st < ((ob.length : Int) + 1) := by
      rw [Int.ediv_lt_iff_lt_mul h0]
      rw [Int.natCast_mul, show ((a.st.toNat : Nat) : Int) = a.st by omega] at hx2
      simpa using hx2
    omega
  edn x hx hn := by
    show (((x / a.st).toNat : Nat) : Int) * a.st + x % a.st = x
    have h1 : 0 ≤ x / a.st := Int.ediv_nonneg hx (by omega)
    rw [show (((x / a.st).toNat : Nat) : Int) = x / a.st by omega]
    exact Int.ediv_mul_add_emod x a.st
  sto p e t hp ht := by
    have ht' : (match stepO a p.2 e with | none => none | some t => if e ∈ onto then (if ob[p.1]? = some e then some (p.1 + 1, t) else none) else some (p.1, t)) = some t := ht
    cases hs : stepO a p.2 e with
    | none => rw [hs] at ht'; cases ht'
    | some u =>
      rw [hs] at ht'
      have hu := step_range h hs
      simp only at ht'
      split at ht'
      · split at ht'
        · next h2 =>
          injection ht' with ht'
          have := (List.getElem?_eq_some_iff.1 h2).1
          rw [← ht']; exact ⟨this, hu⟩
        · cases ht'
      · injection ht' with ht'
        rw [← ht']; exact ⟨hp.1, hu⟩
/-- The automaton of the places' numbers. -/
def plA (a : Au) (onto ob : List Int) : Au := codA (plC a onto ob fun _ => true)
section
variable {a : Au} (h : RightW a) (h0 : 0 < a.st) {onto ob : List Int}
include h h0
theorem plc_right : RightW (plA a onto ob) := cod_right (pl_ok h h0 onto ob _)
omit h in
theorem plc_pos : 0 < (plA a onto ob).st := by
  have : 0 < (ob.length + 1) * a.st.toNat := Nat.mul_pos (by omega) (by omega)
  show (0 : Int) < (((ob.length + 1) * a.st.toNat : Nat) : Int)
  omega
/-- The edges of a place, one for each edge of its state that goes on. -/
def plY (a : Au) (onto ob : List Int) (p : Nat × Int) (y : Ed) : Option Ed :=
  if y.e ∈ onto then (if ob[p.1]? = some y.e then some ⟨(p.1 : Int) * a.st + p.2, y.e, ((p.1 + 1 : Nat) : Int) * a.st + y.t⟩ else none) else some ⟨(p.1 : Int) * a.st + p.2, y.e, (p.1 : Int) * a.st + y.t⟩
theorem pl_edgeO {p : Nat × Int} (hp : PlOk a ob p) {e : Int} (he : e ∈ a.al) : edgeO (plA a onto ob).ed ((p.1 : Int) * a.st + p.2) e = (edgeO a.ed p.2 e).bind (plY a onto ob p) := by
  have hok := pl_ok h h0 onto ob fun _ => true
  have hde := hok.den p hp
  have hen := hok.enr p hp
  have hl := cod_link hok (q := (p.1 : Int) * a.st + p.2) hen he
  rw [show (plC a onto ob fun _ => true).de ((p.1 : Int) * a.st + p.2) = p from hde] at hl
  have hst : (plC a onto ob fun _ => true).st p e = (match stepO a p.2 e with | none => none | some t => if e ∈ onto then (if ob[p.1]? = some e then some (p.1 + 1, t) else none) else some (p.1, t)) := rfl
  rw [hst] at hl
  cases hy : edgeO a.ed p.2 e with
  | none =>
    rw [stepO, hy] at hl
    rcases hl with ⟨_, h2⟩ | ⟨t, h1, _⟩
    · exact h2
    · cases h1
  | some y =>
    obtain ⟨_, _, k3⟩ := (edgeO_some h.edo).1 hy
    rw [stepO, hy] at hl
    show _ = plY a onto ob p y
    unfold plY
    rw [k3]
    simp only [Option.map_some] at hl
    by_cases h1 : e ∈ onto
    · by_cases h2 : ob[p.1]? = some e
      · rw [if_pos h1, if_pos h2]
        rw [if_pos h1, if_pos h2] at hl
        rcases hl with ⟨h3, _⟩ | ⟨t, h3, _, _, _, h4⟩
        · cases h3
        · injection h3 with h3; rw [← h3] at h4; exact h4
      · rw [if_pos h1, if_neg h2]
        rw [if_pos h1, if_neg h2] at hl
        rcases hl with ⟨_, h3⟩ | ⟨t, h3, _⟩
        · exact h3
        · cases h3
    · rw [if_neg h1]
      rw [if_neg h1] at hl
      rcases hl with ⟨h3, _⟩ | ⟨t, h3, _, _, _, h4⟩
      · cases h3
      · injection h3 with h3; rw [← h3] at h4; exact h4
theorem pl_succ {p : Nat × Int} (hp : PlOk a ob p) : succ (plA a onto ob).ed ((p.1 : Int) * a.st + p.2) = (succ a.ed p.2).filterMap (plY a onto ob p) := by
  rw [succ_eq (plc_right h h0), succ_eq h, List.filterMap_filterMap]
  have key : ∀ l : List Int, (∀ e ∈ l, e ∈ a.al) → l.filterMap (edgeO (plA a onto ob).ed ((p.1 : Int) * a.st + p.2)) = l.filterMap fun e => (edgeO a.ed p.2 e).bind (plY a onto ob p) := by
    intro l
    induction l with
    | nil => intro _; rfl
    | cons e l ih =>
      intro hl
      rw [List.filterMap_cons, List.filterMap_cons, pl_edgeO h h0 hp (hl e (by simp)), ih fun x hx => hl x (List.mem_cons_of_mem _ hx)]
  exact key _ fun _ h => h
end
/-- The number of a place; a place of a number. -/
theorem pl_place {a : Au} (h : RightW a) (h0 : 0 < a.st) {onto ob : List Int} {x : Int} (hx : 0 ≤ x ∧ x < (plA a onto ob).st) : ∃ p, PlOk a ob p ∧ x = (p.1 : Int) * a.st + p.2 := by
  have hok := pl_ok h h0 onto ob fun _ => true
  exact ⟨_, hok.okd x hx.1 hx.2, (hok.edn x hx.1 hx.2).symm⟩
theorem pl_inj {a : Au} {ob : List Int} {p r : Nat × Int} (hp : PlOk a ob p) (hr : PlOk a ob r) (e : (p.1 : Int) * a.st + p.2 = (r.1 : Int) * a.st + r.2) : p = r := by
  obtain ⟨a1, a2⟩ := pl_div (d := p.1) hp.2.1 hp.2.2
  obtain ⟨b1, b2⟩ := pl_div (d := r.1) hr.2.1 hr.2.2
  rw [e] at a1 a2
  exact Prod.ext (by omega) (by omega)
/-- Whether a place is a goal. -/
def glB (a : Au) (ob : List Int) (mk : Bool) (x : Int) : Bool := decide (x / a.st = (ob.length : Int)) && (!mk || decide (x % a.st ∈ a.mr))
theorem gl_place {a : Au} {ob : List Int} {mk : Bool} {p : Nat × Int} (hp : PlOk a ob p) : glB a ob mk ((p.1 : Int) * a.st + p.2) = (decide (p.1 = ob.length) && (!mk || decide (p.2 ∈ a.mr))) := by
  obtain ⟨a1, a2⟩ := pl_div (d := p.1) hp.2.1 hp.2.2
  unfold glB
  rw [a1, a2]
  congr 1
  simp [Int.ofNat_inj]
/-- The least word with an observation that leads to a goal. -/
def lfO (a : Au) (onto ob : List Int) (mk : Bool) : Option (List Int) := if a.st = 0 then none else ((trA (plA a onto ob)).find? fun p => glB a ob mk p.1).map Prod.snd
theorem lf_at {a : Au} (h0 : 0 < a.st) {onto ob : List Int} {mk : Bool} {n i : Nat} {p : Int × List Int} (hp : (Tr (plA a onto ob) n)[i]? = some p) (hg : glB a ob mk p.1 = true) (hn : ∀ (j : Nat) (r : Int × List Int), j < i → (Tr (plA a onto ob) n)[j]? = some r → glB a ob mk r.1 = false) (hN : n ≤ (plA a onto ob).st.toNat) : lfO a onto ob mk = some p.2 := by
  have hpre : Tr (plA a onto ob) n <+: trA (plA a onto ob) := tr_mono hN
  have hp' := pre_at hpre hp
  have hlen := (List.getElem?_eq_some_iff.1 hp).1
  unfold lfO
  rw [if_neg (by omega)]
  have : (trA (plA a onto ob)).find? (fun p => glB a ob mk p.1) = some p := by
    rw [List.find?_eq_some_iff_getElem]
    obtain ⟨hl, e⟩ := List.getElem?_eq_some_iff.1 hp'
    refine ⟨hg, i, hl, e, fun j hj => ?_⟩
    have hjl : j < (Tr (plA a onto ob) n).length := by omega
    have h1 := hn j _ hj (List.getElem?_eq_getElem hjl)
    have h2 := pre_at hpre (List.getElem?_eq_getElem hjl)
    obtain ⟨h3, h4⟩ := List.getElem?_eq_some_iff.1 h2
    rw [h4, h1]; rfl
  rw [this]; rfl
theorem tr_len_le {a : Au} (h : RightW a) (h0 : 0 < a.st) (n : Nat) : (Tr a n).length ≤ a.st.toNat := by
  have := Fd_len h h0 n
  rw [← tr_fst, List.length_map] at this; exact this
theorem tr_still {a : Au} {n : Nat} (hn : (Tr a n).length ≤ n) : ∀ d, Tr a (n + d) = Tr a n
  | 0 => rfl
  | d + 1 => by
    have ih := tr_still hn d
    rw [← Nat.add_assoc, Tr, ih, List.getElem?_eq_none (by omega)]
theorem lf_none {a : Au} (h0 : 0 < a.st) {onto ob : List Int} {mk : Bool} {n : Nat} (hl : (Tr (plA a onto ob) n).length ≤ n) (hn : ∀ (j : Nat) (r : Int × List Int), (Tr (plA a onto ob) n)[j]? = some r → glB a ob mk r.1 = false) (hN : n ≤ (plA a onto ob).st.toNat) : lfO a onto ob mk = none := by
  have e : trA (plA a onto ob) = Tr (plA a onto ob) n := by
    obtain ⟨d, hd⟩ : ∃ d, (plA a onto ob).st.toNat = n + d := ⟨_, (Nat.add_sub_cancel' hN).symm⟩
    rw [trA, hd, tr_still hl]
  unfold lfO
  rw [if_neg (by omega), e, Option.map_eq_none_iff, List.find?_eq_none]
  intro r hr
  obtain ⟨j, hj⟩ := List.getElem?_of_mem hr
  rw [hn j r hj]; simp
/-- What is observed of a word. -/
def obR (onto ws : List Int) : List Int := ws.filter fun x => decide (x ∈ onto)
theorem pl_run {a : Au} (h : RightW a) (h0 : 0 < a.st) {onto ob : List Int} : ∀ (v : List Int) (p : Nat × Int), PlOk a ob p → (∀ e ∈ v, e ∈ a.al) → ∀ x, rO (plA a onto ob) ((p.1 : Int) * a.st + p.2) v = some x ↔ ∃ q, rO a p.2 v = some q ∧ x = ((p.1 + (obR onto v).length : Nat) : Int) * a.st + q ∧ obR onto v <+: ob.drop p.1
  | [], p, hp, _, x => by
    simp only [rO, obR, List.filter_nil, List.length_nil, Nat.add_zero, List.nil_prefix, and_true, Option.some.injEq]
    constructor
    · rintro rfl; exact ⟨_, rfl, rfl⟩
    · rintro ⟨q, rfl, rfl⟩; rfl
  | e :: v, p, hp, hv, x => by
    have hev := hv e (List.mem_cons_self ..)
    have hstep : stepO (plA a onto ob) ((p.1 : Int) * a.st + p.2) e = (match stepO a p.2 e with | none => none | some t => if e ∈ onto then (if ob[p.1]? = some e then some (((p.1 + 1 : Nat) : Int) * a.st + t) else none) else some ((p.1 : Int) * a.st + t)) := by
      rw [stepO, pl_edgeO h h0 hp hev, stepO]
      cases hy : edgeO a.ed p.2 e with
      | none => rfl
      | some y =>
        obtain ⟨_, _, k3⟩ := (edgeO_some h.edo).1 hy
        show Option.map _ (plY a onto ob p y) = _
        unfold plY
        rw [k3]
        simp only [Option.map_some]
        split
        · split <;> rfl
        · rfl
    rw [rO, hstep, rO]
    cases hs : stepO a p.2 e with
    | none => simp
    | some t =>
      have ht := step_range h hs
      have hv' : ∀ e ∈ v, e ∈ a.al := fun y hy => hv y (List.mem_cons_of_mem _ hy)
      simp only
      by_cases h1 : e ∈ onto
      · have ho : obR onto (e :: v) = e :: obR onto v := by unfold obR; simp [h1]
        rw [if_pos h1, ho]
        by_cases h2 : ob[p.1]? = some e
        · obtain ⟨h3, h4⟩ := List.getElem?_eq_some_iff.1 h2
          rw [if_pos h2]
          have ih := pl_run h h0 (onto := onto) v (p.1 + 1, t) ⟨h3, ht⟩ hv' x
          simp only at ih ⊢
          rw [ih]
          have e1 : ob.drop p.1 = e :: ob.drop (p.1 + 1) := by rw [List.drop_eq_getElem_cons h3, h4]
          rw [e1, List.length_cons]
          constructor
          · rintro ⟨q, k1, k2, k3⟩
            exact ⟨q, k1, by rw [k2]; congr 2; omega, List.cons_prefix_cons.2 ⟨rfl, k3⟩⟩
          · rintro ⟨q, k1, k2, k3⟩
            exact ⟨q, k1, by rw [k2]; congr 2; omega, (List.cons_prefix_cons.1 k3).2⟩
        · rw [if_neg h2]
          constructor
          · intro hh; cases hh
          · rintro ⟨q, k1, k2, k3⟩
            exfalso
            obtain ⟨r, hr⟩ := k3
            have h5 : (ob.drop p.1)[0]? = some e := by rw [← hr]; rfl
            rw [List.getElem?_drop] at h5
            exact h2 (by simpa using h5)
      · have ho : obR onto (e :: v) = obR onto v := by unfold obR; simp [h1]
        rw [if_neg h1, ho]
        exact pl_run h h0 v (p.1, t) ⟨hp.1, ht⟩ hv' x
theorem run_al {a : Au} (h : RightW a) : ∀ (v : List Int) (q t : Int), rO a q v = some t → ∀ e ∈ v, e ∈ a.al
  | [], _, _, _, e, he => by cases he
  | x :: v, q, t, hr, e, he => by
    rw [rO] at hr
    cases hs : stepO a q x with
    | none => rw [hs] at hr; cases hr
    | some u =>
      rw [hs] at hr
      rcases List.mem_cons.1 he with rfl | he
      · cases hy : edgeO a.ed q e with
        | none => rw [stepO, hy] at hs; cases hs
        | some y =>
          obtain ⟨k1, _, k3⟩ := (edgeO_some h.edo).1 hy
          rw [← k3]; exact (h.edr y k1).2.2
      · exact run_al h v u t hr e he
/-- Of a word that a generates, the word that is found for its observation: alike, generated, not greater. -/
theorem lf_least {a : Au} (h : RightW a) (h0 : 0 < a.st) {onto w : List Int} {q : Int} (hw : rO a 0 w = some q) : ∃ v, lfO a onto (obR onto w) false = some v ∧ obR onto v = obR onto w ∧ (∃ t, rO a 0 v = some t) ∧ (v = w ∨ slx v w) := by
  have hal := run_al h w 0 q hw
  have hz : PlOk a (obR onto w) (0, 0) := ⟨Nat.zero_le _, Int.le_refl _, h0⟩
  have hR := plc_right h h0 (onto := onto) (ob := obR onto w)
  have hP := plc_pos h0 (onto := onto) (ob := obR onto w)
  have e0 : ((0 : Nat) : Int) * a.st + 0 = 0 := by simp
  have hq0 : 0 ≤ q ∧ q < a.st := by
    cases w with
    | nil => simp [rO] at hw; omega
    | cons x w =>
      obtain ⟨u, e, hu⟩ : ∃ u e, x :: w = u ++ [e] := ⟨(x :: w).dropLast, (x :: w).getLast (by simp), (List.dropLast_concat_getLast _).symm⟩
      rw [hu, rO_snoc'] at hw
      cases h1 : rO a 0 u with
      | none => rw [h1] at hw; cases hw
      | some s => rw [h1] at hw; exact step_range h hw
  have hrun := (pl_run h h0 (onto := onto) (ob := obR onto w) w (0, 0) hz hal _).2 ⟨q, hw, rfl, by simp⟩
  simp only [Nat.zero_add, e0] at hrun
  obtain ⟨w', hm, hle⟩ := trA_least hR hP w _ hrun
  have hgl : glB a (obR onto w) false ((((obR onto w).length : Nat) : Int) * a.st + q) = true := by
    have := gl_place (mk := false) (show PlOk a (obR onto w) ((obR onto w).length, q) from ⟨Nat.le_refl _, hq0⟩)
    simpa using this
  cases hf : (trA (plA a onto (obR onto w))).find? (fun p => glB a (obR onto w) false p.1) with
  | none =>
    rw [List.find?_eq_none] at hf
    exact absurd hgl (hf _ hm)
  | some p =>
    obtain ⟨hg, i, hi, e, hbef⟩ := List.find?_eq_some_iff_getElem.1 hf
    have hpm : p ∈ trA (plA a onto (obR onto w)) := by rw [← e]; exact List.getElem_mem _
    have hpr := trA_run hR p hpm
    have hpal : ∀ x ∈ p.2, x ∈ a.al := run_al hR p.2 0 p.1 hpr
    rw [show (0 : Int) = ((0 : Nat) : Int) * a.st + 0 by simp] at hpr
    obtain ⟨t, k1, k2, k3⟩ := (pl_run h h0 p.2 (0, 0) hz hpal _).1 hpr
    simp only [Nat.zero_add, List.drop_zero] at k2 k3
    refine ⟨p.2, by unfold lfO; rw [if_neg (by omega), hf]; rfl, ?_, ⟨t, k1⟩, ?_⟩
    · obtain ⟨r, hr⟩ := k3
      have hlen : (obR onto p.2).length ≤ (obR onto w).length := by rw [← hr]; simp
      have ht0 : 0 ≤ t ∧ t < a.st := by
        cases hp2 : p.2 with
        | nil => rw [hp2] at k1; simp [rO] at k1; omega
        | cons x u =>
          obtain ⟨u', e', hu⟩ : ∃ u' e', x :: u = u' ++ [e'] := ⟨(x :: u).dropLast, (x :: u).getLast (by simp), (List.dropLast_concat_getLast _).symm⟩
          rw [hp2, hu, rO_snoc'] at k1
          cases h1 : rO a 0 u' with
          | none => rw [h1] at k1; cases k1
          | some s => rw [h1] at k1; exact step_range h k1
      rw [k2] at hg
      have h5 := gl_place (mk := false) (show PlOk a (obR onto w) ((obR onto p.2).length, t) from ⟨hlen, ht0⟩)
      simp only at h5
      rw [h5] at hg
      simp at hg
      have : r = [] := List.eq_nil_of_length_eq_zero (by have := congrArg List.length hr; rw [List.length_append] at this; omega)
      rw [this, List.append_nil] at hr; exact hr
    · obtain ⟨j, hj, ej⟩ := List.getElem_of_mem hm
      have hij : i ≤ j := by
        rcases Nat.lt_or_ge j i with hlt | hge
        · have := hbef j hlt
          rw [ej, hgl] at this; cases this
        · exact hge
      have hup := trA_up hR
      rcases Nat.eq_or_lt_of_le hij with rfl | hlt
      · have : p = (((((obR onto w).length : Nat) : Int) * a.st + q), w') := by rw [← e, ej]
        rw [this]; exact hle
      · have h6 := List.pairwise_iff_getElem.1 hup i j (by simpa using hi) (by simpa using hj) hlt
        simp [e, ej] at h6
        rcases hle with rfl | hle
        · exact .inr h6
        · exact .inr (slx_trans h6 hle)
end Go.Proofs.Ytmghngehpgolgaa

/- Layer 7: the errors of an automaton, of a list of events and of a set of states. -/
namespace Go.Proofs.Ytmghngehpgolgaa
open Go.RowKit

/-- The first error of a list. -/
def fstE : List Int → Int
  | [] => 0
  | x :: r => if x ≠ 0 then x else fstE r
theorem fst_drop {xs : List Int} {k : Nat} (h : k < xs.length) : fstE (xs.drop k) = if xs.getD k 0 ≠ 0 then xs.getD k 0 else fstE (xs.drop (k + 1)) := by
  have e : xs.getD k 0 = xs[k] := by simp [List.getD, List.getElem?_eq_getElem h]
  rw [List.drop_eq_getElem_cons h, fstE, e]
set_option maxHeartbeats 800000 in
theorem cmpOr_any (A : Option Addr) (n c B : Nat) (xs : List Int) (w : World) (hx : RdI w B A xs) (hn : xs.length = n) (hb : n ≤ 100000) :
    Calls Try.prog 37 #[.slice A n c] w fun e w' => e = .returned (.int .i64 (fstE xs)) ∧ w = w' := by
  have HX := Lib.hid hx
  have HN := Lib.hid hn
  obtain ⟨u, hu⟩ : ∃ u, u = fstE xs := ⟨_, rfl⟩
  rw [← hu]
  have HU := Lib.hid (show u = fstE (xs.drop 0) by rw [List.drop_zero]; exact hu)
  clear hx hn hu
  go_enter Try.func37, Try.ntmps37
  go_wp2_with fail
  go_loopw [5, 8] (fun _ i wr => ∃ k : Nat, k ≤ n ∧ i = .int .i64 k ∧ w = wr ∧ Hid (u = fstE (xs.drop k))) (fun _ i _ => n - (intOf i).toNat)
  case atStart => exact ⟨0, Nat.zero_le _, rfl, rfl, HU⟩
  case round =>
    obtain ⟨k, hk, rfl, rfl, hf⟩ := hrel
    by_cases hlt : k < n
    · obtain ⟨b, o, rfl, _, hc⟩ := HX.out (by rw [HN.out]; omega)
      have hz : k < xs.length := by rw [HN.out]; exact hlt
      have hc1 := hc k hz
      obtain ⟨x, hxe⟩ : ∃ x, x = xs.getD k 0 := ⟨_, rfl⟩
      have hd := fst_drop hz
      rw [← hxe] at hc1 hd
      have HD := Lib.hid hd
      have z0 : (k : Int) < (n : Int) := by omega
      have z1 : (0 : Int) ≤ (k : Int) := by omega
      clear hc hz hxe hd
      by_cases h0 : x = 0
      · have hb : (x != 0) = false := by simp [h0]
        have hg := Lib.hid (show u = fstE (xs.drop (k + 1)) by rw [hf.out, HD.out, if_neg (by simp [h0])])
        clear h0
        go_wp2_with fail
        go_roundw
        case rel => exact ⟨k + 1, by omega, by go_num, by first | rfl | trivial, hg⟩
        case measure => simp [intOf]; omega
      · have hb : (x != 0) = true := by simp [h0]
        have hg := Lib.hid (show u = x by rw [hf.out, HD.out, if_pos h0])
        clear h0
        go_wp2_with fail
        go_ret
        exact ⟨by rw [hg.out]; rfl, rfl⟩
    · have hg := Lib.hid (show u = 0 by rw [hf.out, List.drop_of_length_le (by rw [HN.out]; omega)]; rfl)
      have z0 : (n : Int) ≤ (k : Int) := by omega
      go_wp2_with fail
      go_ret
      exact ⟨by rw [hg.out]; rfl, rfl⟩
theorem au_events {w : World} {A : Option Addr} {n c : Nat} {zs : List Int} (h : RdI w w.heap.size A zs) (hn : zs.length = n) (hc : n ≤ c ∧ c ≤ 9223372036854775807) (hb : n ≤ 100000) : AuR w w.heap.size A n c 0 none 0 0 none 0 0 ⟨zs, 0, [], []⟩ where
  al := h
  mr := RdI.nil _ _ _
  ed := fun h0 => by simp at h0
  hn := hn
  hm := rfl
  hk := rfl
  st := rfl
  cn := hc
  cm := by omega
  ck := by omega
  bn := hb
  bm := by omega
  bk := by omega
theorem au_states {w : World} {A : Option Addr} {n c : Nat} {s : Int} {zs : List Int} (h : RdI w w.heap.size A zs) (hn : zs.length = n) (hc : n ≤ c ∧ c ≤ 9223372036854775807) (hb : n ≤ 100000) : AuR w w.heap.size none 0 0 s A n c none 0 0 ⟨[], s, zs, []⟩ where
  al := RdI.nil _ _ _
  mr := h
  ed := fun h0 => by simp at h0
  hn := rfl
  hm := hn
  hk := rfl
  st := rfl
  cn := by omega
  cm := hc
  ck := by omega
  bn := by omega
  bm := hb
  bk := by omega
theorem rd_two {w : World} {x y : Int} : RdI (w.alloc (.cells #[.int .i64 x, .int .i64 y] 27)) (w.alloc (.cells #[.int .i64 x, .int .i64 y] 27)).heap.size (some ⟨w.heap.size, 0, none⟩) [x, y] := fun _ => ⟨w.heap.size, 0, rfl, by simp, fun j hj => by
  match j, hj with
  | 0, _ => rw [World.cell?_alloc_at _ _ _ _ rfl]; rfl
  | 1, _ => rw [World.cell?_alloc_at _ _ _ _ rfl]; rfl
  | j + 2, hj => (simp at hj) <;> omega⟩
/-- The error of an automaton and of a list of events. -/
def cweE (a : Au) (ev : List Int) : Int := fstE [chkE a, chkE ⟨ev, 0, [], []⟩]
set_option maxHeartbeats 1600000 in
theorem jCheckEvents_any (A : Option Addr) (n c : Nat) (s : Int) (M : Option Addr) (m d : Nat) (E : Option Addr) (k g : Nat) (a : Au) (A2 : Option Addr) (n2 c2 : Nat) (ev : List Int) (w : World) (h : AuR w w.heap.size A n c s M m d E k g a) (hx : RdI w w.heap.size A2 ev) (hn : ev.length = n2) (hc : n2 ≤ c2 ∧ c2 ≤ 9223372036854775807) (hb : n2 ≤ 100000) :
    Calls Try.prog 23 #[.agg #[.slice A n c, .int .i64 s, .slice M m d, .slice E k g], .slice A2 n2 c2] w fun e w' => e = .returned (.int .i64 (cweE a ev)) ∧ Below w.heap.size w w' := by
  have hb1 := (Below.refl w.heap.size w).alloc (Nat.le_refl _) (.cells #[.slice A n c, .int .i64 s, .slice M m d, .slice E k g] 25)
  have HB1 := Lib.hid hb1
  have HC := Lib.hid (mCheck_any A n c s M m d E k g a _ ((h.below hb1 (Nat.le_refl _)).more (by simp)))
  have HE := Lib.hid (fun W (hW : Below w.heap.size w W) => mCheck_any A2 n2 c2 0 none 0 0 none 0 0 ⟨ev, 0, [], []⟩ W (au_events ((hx.below hW (Nat.le_refl _)).more hW.size) hn hc hb))
  have HX := Lib.hid (BoxA.made w A n c s M m d E k g 25)
  obtain ⟨u, hu⟩ : ∃ u, u = chkE a := ⟨_, rfl⟩
  obtain ⟨v, hv⟩ : ∃ v, v = chkE ⟨ev, 0, [], []⟩ := ⟨_, rfl⟩
  rw [← hu] at HC
  rw [← hv] at HE
  have HR := Lib.hid (show cweE a ev = fstE [u, v] by rw [cweE, hu, hv])
  rw [HR.out]
  clear h hx hn hu hv hb1 HR
  go_enter Try.func23, Try.ntmps23
  go_wp2_with fail
  refine HC.out.mono ?_
  rintro e w1 ⟨rfl, hbw⟩
  have hB := Lib.hid (HB1.out.trans (hbw.mono HB1.out.size))
  clear hbw
  go_wp2_with fail
  refine (HE.out _ hB.out).mono ?_
  rintro e w2 ⟨rfl, hbw⟩
  have hB := Lib.hid (hB.out.trans (hbw.mono hB.out.size))
  clear hbw
  go_wp2_with fail
  refine (cmpOr_any _ 2 2 _ [u, v] _ rd_two rfl (by omega)).mono ?_
  rintro e w3 ⟨rfl, rfl⟩
  go_wp2_with fail
  go_ret
  exact ⟨rfl, hB.out.alloc hB.out.size _⟩
/-- The error of a set of states. -/
def cstE (s : Int) (zs : List Int) : Int := chkE ⟨[], s, zs, []⟩
set_option maxHeartbeats 1600000 in
theorem jCheckStates_any (A : Option Addr) (n c : Nat) (s : Int) (M : Option Addr) (m d : Nat) (E : Option Addr) (k g : Nat) (a : Au) (A2 : Option Addr) (n2 c2 : Nat) (zs : List Int) (w : World) (_h : AuR w w.heap.size A n c s M m d E k g a) (hx : RdI w w.heap.size A2 zs) (hn : zs.length = n2) (hc : n2 ≤ c2 ∧ c2 ≤ 9223372036854775807) (hb : n2 ≤ 100000) :
    Calls Try.prog 38 #[.agg #[.slice A n c, .int .i64 s, .slice M m d, .slice E k g], .slice A2 n2 c2] w fun e w' => e = .returned (.int .i64 (cstE s zs)) ∧ Below w.heap.size w w' := by
  have hb1 := (Below.refl w.heap.size w).alloc (Nat.le_refl _) (.cells #[.slice A n c, .int .i64 s, .slice M m d, .slice E k g] 25)
  have HB1 := Lib.hid hb1
  have HC := Lib.hid (mCheck_any none 0 0 s A2 n2 c2 none 0 0 ⟨[], s, zs, []⟩ _ (au_states ((hx.below hb1 (Nat.le_refl _)).more (by simp)) hn hc hb))
  obtain ⟨p0, p1, p2, p3⟩ := BoxA.made w A n c s M m d E k g 25
  obtain ⟨u, hu⟩ : ∃ u, u = chkE ⟨[], s, zs, []⟩ := ⟨_, rfl⟩
  rw [← hu] at HC
  have HR := Lib.hid (show cstE s zs = u by rw [cstE, hu])
  rw [HR.out]
  clear _h hx hn hu hb1 HR
  go_enter Try.func38, Try.ntmps38
  go_wp2_with fail
  refine HC.out.mono ?_
  rintro e w1 ⟨rfl, hbw⟩
  have hB := HB1.out.trans (hbw.mono HB1.out.size)
  clear hbw p0 p1 p2 p3
  go_wp2_with fail
  go_ret
  exact ⟨rfl, hB⟩
end Go.Proofs.Ytmghngehpgolgaa

/- Layer 7: graphOf: the edges that leave each state. -/
namespace Go.Proofs.Ytmghngehpgolgaa
open Go.RowKit Go.Sort

theorem info_edges : (Try.prog.info? 23).map (fun i => (i.zero, i.size, i.bytes)) = some (some (.slice none 0 0), 1, 24) := by kernel_rfl
theorem make_graph (N : Nat) (hN : N ≤ 100000) (w : World) :
    (Instr.makeSlice 60 (.int .i64 (N : Int)) (.int .i64 (N : Int))).run Try.prog w = .ok (.slice (some ⟨w.heap.size, 0, none⟩) N N) (w.alloc (.cells (List.replicate N (Value.slice none 0 0)).toArray 23)) := by
  obtain ⟨i0, hi, hz0, hz1, hz2⟩ := info_parts info_edges
  have := run_make_rowN 60 23 i0 (.slice none 0 0) Try.underlying60 hi hz0 .i64 .i64 N N (Nat.le_refl _) (by rw [hz2]; omega) (by omega) w
  rw [this, hz1, Nat.mul_one]
  have e : madeCells (Value.slice none 0 0).cells N = (List.replicate N (Value.slice none 0 0)).toArray := by
    rw [← toList_madeCells_one (.slice none 0 0) N]; simp [Value.cells]
  rw [e]
/-- The edges from state q on. -/
def fromE (a : Au) (q : Nat) : List Ed := a.ed.drop (startN a.ed q)
theorem fromE_ge {a : Au} (h : a.ed.Pairwise ltE) (q : Nat) : ∀ x ∈ fromE a q, (q : Int) ≤ x.f := fun x hx => by
  have h1 := split_f a.ed (q : Int) (le_of_ltE h)
  have e1 : (a.ed.filter fun x => decide (x.f < (q : Int))).length = startN a.ed q := by rw [startN, List.countP_eq_length_filter]
  have e2 : fromE a q = a.ed.filter fun x => decide (¬ x.f < (q : Int)) :=
    (congrArg (List.drop (startN a.ed q)) h1).trans (by rw [← e1, List.drop_left])
  rw [e2, List.mem_filter] at hx
  have := hx.2
  simp at this
  omega
theorem fromE_split {a : Au} (h : a.ed.Pairwise ltE) (q : Nat) : fromE a q = succ a.ed (q : Int) ++ fromE a (q + 1) := by
  have h1 := slice_succ h q
  have h2 := startN_succ a.ed q
  unfold fromE
  rw [← h1]
  have : a.ed.drop (startN a.ed (q + 1)) = (a.ed.drop (startN a.ed q)).drop (startN a.ed (q + 1) - startN a.ed q) := by
    rw [List.drop_drop]; congr 1; omega
  rw [this, List.take_append_drop]
theorem fromE_zero {a : Au} (h : RightW a) : fromE a 0 = a.ed := by
  unfold fromE
  rw [startN_zero fun x hx => (h.edr x hx).1.1, List.drop_zero]
/-- A slice value that holds these edges. -/
def SlGr (w : World) (B : Nat) (v : Value) (l : List Ed) : Prop := ∃ A c, v = .slice A l.length c ∧ RdG w B A l ∧ l.length ≤ c ∧ c ≤ 9223372036854775807
/-- The rows of a graph that are filled. -/
def GrI (w : World) (a : Au) (gs : List Value) (k : Nat) : Prop := gs.length = a.st.toNat ∧ ∀ q, q < k → ∃ v, gs[q]? = some v ∧ SlGr w w.heap.size v (succ a.ed (q : Int))
/-- A graph in memory. -/
def RdGr (w : World) (B : Nat) (b : Nat) (a : Au) : Prop := b < B ∧ ∀ q : Nat, q < a.st.toNat → ∃ v, w.cell? ⟨b, q, none⟩ = some v ∧ SlGr w B v (succ a.ed (q : Int))
theorem slg_take {w : World} {B : Nat} {A : Option Addr} {l1 l2 : List Ed} {c : Nat} (h : RdG w B A (l1 ++ l2)) (hc : (l1 ++ l2).length ≤ c) (hm : c ≤ 9223372036854775807) : SlGr w B (.slice A l1.length c) l1 :=
  ⟨A, c, rfl, fun h0 => by
    obtain ⟨b, o, e, hb, hx⟩ := h (by rw [List.length_append]; omega)
    exact ⟨b, o, e, hb, fun j x hj => hx j x (by rw [List.getElem?_append_left (List.getElem?_eq_some_iff.1 hj).1]; exact hj)⟩, by rw [List.length_append] at hc; omega, hm⟩
theorem slg_drop {w : World} {B b o : Nat} {l1 l2 : List Ed} {c : Nat} (h : RdG w B (some ⟨b, o, none⟩) (l1 ++ l2)) (hc : (l1 ++ l2).length ≤ c) (hm : c ≤ 9223372036854775807) : SlGr w B (.slice (if c = l1.length then some ⟨b, o, none⟩ else some ⟨b, o + l1.length * 3, none⟩) l2.length (c - l1.length)) l2 := by
  rw [List.length_append] at hc
  refine ⟨_, _, rfl, fun h0 => ?_, by omega, by omega⟩
  obtain ⟨b', o', e, hb, hx⟩ := h (by rw [List.length_append]; omega)
  injection e with e; injection e with e1 e2; subst e1 e2
  rw [if_neg (by omega)]
  refine ⟨b, o + l1.length * 3, rfl, hb, fun j x hj => ?_⟩
  have := hx (l1.length + j) x (by rw [List.getElem?_append_right (by omega), Nat.add_sub_cancel_left]; exact hj)
  rw [show o + l1.length * 3 + j * 3 = o + (l1.length + j) * 3 by omega]; exact this
theorem slg_nil {w : World} {B : Nat} {A : Option Addr} {c : Nat} (hm : c ≤ 9223372036854775807) : SlGr w B (.slice A 0 c) [] := ⟨A, c, rfl, fun h0 => by simp at h0, by simp, hm⟩
theorem gr_set {w : World} {a : Au} {gs : List Value} {q : Nat} {v : Value} (h : GrI w a gs q) (hq : q < gs.length) (hv : SlGr w w.heap.size v (succ a.ed (q : Int))) : GrI w a (gs.set q v) (q + 1) :=
  ⟨by rw [List.length_set]; exact h.1, fun p hp => by
    by_cases e : p = q
    · subst e; exact ⟨v, by rw [List.getElem?_set_self hq], hv⟩
    · obtain ⟨u, h1, h2⟩ := h.2 p (by omega)
      exact ⟨u, by rw [List.getElem?_set_ne (fun e' => e e'.symm)]; exact h1, h2⟩⟩
/-- Each row of a graph holds edges of the automaton that came in. -/
def GrO (w0 w' : World) (b : Nat) (a : Au) : Prop := ∀ q : Nat, q < a.st.toNat → ∃ v, w'.cell? ⟨b, q, none⟩ = some v ∧ SlGr w0 w0.heap.size v (succ a.ed (q : Int))
set_option maxHeartbeats 4000000 in
set_option maxRecDepth 100000 in
theorem graphOf_o (A : Option Addr) (n c : Nat) (s : Int) (M : Option Addr) (m d : Nat) (E : Option Addr) (k g : Nat) (a : Au) (S : Nat) (w : World) (h : AuR w w.heap.size A n c s M m d E k g a) (hr : RightW a) (hS : s = (S : Int)) (hSb : S ≤ 4096) :
    Calls Try.prog 39 #[.agg #[.slice A n c, .int .i64 s, .slice M m d, .slice E k g]] w fun e w' => ∃ b, e = .returned (.slice (some ⟨b, 0, none⟩) S S) ∧ w.heap.size ≤ b ∧ RdGr w' w'.heap.size b a ∧ Below w.heap.size w w' ∧ GrO w w' b a := by
  subst hS
  have hb1 := (Below.refl w.heap.size w).alloc (Nat.le_refl _) (.cells #[.slice A n c, .int .i64 (S : Int), .slice M m d, .slice E k g] 25)
  have HB1 := Lib.hid hb1
  obtain ⟨p0, p1, p2, p3⟩ := BoxA.made w A n c (S : Int) M m d E k g 25
  have hmk := make_graph S (by omega)
  have HR := Lib.hid h
  have HW := Lib.hid hr
  have hst := h.st
  have HED := Lib.hid (show SlGr w w.heap.size (.slice E k g) (fromE a 0) from by
    rw [fromE_zero hr]
    exact ⟨E, g, by rw [h.hk], h.ed, by rw [h.hk]; exact h.ck.1, h.ck.2⟩)
  clear h hr hb1
  go_enter Try.func39, Try.ntmps39
  have hR := Row.new (w.alloc (.cells #[.slice A n c, .int .i64 (S : Int), .slice M m d, .slice E k g] 25)) (List.replicate S (.slice none 0 0)) 23
  rw [World.size_alloc] at hR
  simp only [List.toArray_replicate] at hR
  have HR0 := Lib.hid hR
  have HB2 := Lib.hid (HB1.out.alloc HB1.out.size (.cells (Array.replicate S (.slice none 0 0)) 23))
  have hbk := HR.out.bk
  clear hR
  go_wp2_with fail
  go_loopw [4, 5, 6, 14] (fun rv _ _ iv wr => ∃ (q : Nat) (gs : List Value), iv = .int .i64 q ∧ q ≤ S ∧ Hid (SlGr w w.heap.size rv (fromE a q)) ∧ Hid (GrI w a gs q) ∧ Hid (Row wr (w.heap.size + 1) 23 gs) ∧ Hid (Below w.heap.size w wr)) (fun _ _ _ i _ => S - (intOf i).toNat)
  case atStart => exact ⟨0, List.replicate S (.slice none 0 0), rfl, Nat.zero_le _, HED, Lib.hid ⟨by rw [List.length_replicate, hst]; simp, fun q hq => by omega⟩, HR0, HB2⟩
  case round =>
    clear HR0 HB2 HED p0 p1 p2 p3 hmk
    obtain ⟨q, gs, rfl, hq, hsl, hgr, hrow, hbel⟩ := hrel
    by_cases hlt : q < S
    · obtain ⟨A4, c4, rfl, hrd, hlc, hcm⟩ := hsl.out
      have hsp := fromE_split HW.out.edo q
      have hge := fromE_ge HW.out.edo (q + 1)
      obtain ⟨L, hL⟩ : ∃ L, L = (fromE a q).length := ⟨_, rfl⟩
      obtain ⟨D, hD⟩ : ∃ D, D = (succ a.ed (q : Int)).length := ⟨_, rfl⟩
      have hDL : D ≤ L := by rw [hL, hsp, List.length_append, hD]; omega
      rw [← hL] at hlc ⊢
      have HL := Lib.hid hL
      have HD := Lib.hid hD
      have HSP := Lib.hid hsp
      have HGE := Lib.hid hge
      have HRD := Lib.hid hrd
      have hLb : L ≤ 1000000 := by
        have : L ≤ a.ed.length := by rw [hL]; unfold fromE; rw [List.length_drop]; omega
        rw [HR.out.hk] at this; omega
      have z1 : (q : Int) < (S : Int) := by omega
      have z0 : (0 : Int) ≤ (q : Int) := by omega
      clear hL hD hsp hge hrd hsl
      go_wp2_with fail
      go_loopw [6] (fun nv wx => ∃ t : Nat, t ≤ D ∧ nv = .int .i64 t ∧ wx = wr) (fun nv _ => D - (intOf nv).toNat)
      case atStart => exact ⟨0, Nat.zero_le _, rfl, rfl⟩
      case round =>
        obtain ⟨t, ht, rfl, hwx⟩ := hrel
        subst hwx
        by_cases h1 : t < D
        · obtain ⟨b, o, rfl, hb, hc⟩ := HRD.out (by rw [← HL.out]; omega)
          obtain ⟨y, hy⟩ : ∃ y, (succ a.ed (q : Int))[t]? = some y := ⟨_, List.getElem?_eq_getElem (by rw [← HD.out]; exact h1)⟩
          have hyf := (mem_succ.1 (List.mem_of_getElem? hy)).2
          have hy2 : (fromE a q)[t]? = some y := by rw [HSP.out, List.getElem?_append_left (by rw [← HD.out]; exact h1)]; exact hy
          have hcell := (hbel.out.cell (p := ⟨b, o + t * 3, none⟩) hb).trans (hc t y hy2).1
          rw [hyf] at hcell
          have z2 : (t : Int) < (L : Int) := by omega
          have z3 : (0 : Int) ≤ (t : Int) := by omega
          have z4 : ((q : Int) == (q : Int)) = true := by simp
          clear hc hy hyf hy2
          go_wp2_with fail
          go_roundw
          case rel => exact ⟨t + 1, by omega, by go_num, by first | rfl | trivial⟩
          case measure => simp [intOf]; omega
        · obtain rfl : t = D := by omega
          obtain ⟨hgl, hgv⟩ := hgr.out
          obtain ⟨g0, hg0⟩ : ∃ v, gs[q]? = some v := ⟨_, List.getElem?_eq_getElem (by rw [hgl, hst]; simpa using hlt)⟩
          have c0 := hrow.out.cell q hg0
          have f0 := hrow.out.frozen q
          have z5 : (0 : Int) ≤ (t : Int) := by omega
          have z6 : (t : Int) ≤ (L : Int) := by omega
          have z7 : (t : Int) ≤ (c4 : Int) := by omega
          have z8 : (L : Int) ≤ (c4 : Int) := by omega
          by_cases h2 : t < L
          · obtain ⟨b, o, rfl, hb, hc⟩ := HRD.out (by rw [← HL.out]; omega)
            obtain ⟨y, hy⟩ : ∃ y, (fromE a q)[t]? = some y := ⟨_, List.getElem?_eq_getElem (by rw [← HL.out]; exact h2)⟩
            have hyg : (q : Int) + 1 ≤ y.f := by
              have h3 := hy
              rw [HSP.out, List.getElem?_append_right (by rw [← HD.out]; omega)] at h3
              have := HGE.out y (List.mem_of_getElem? h3)
              omega
            have hcell := (hbel.out.cell (p := ⟨b, o + t * 3, none⟩) hb).trans (hc t y hy).1
            obtain ⟨yf, hyf⟩ : ∃ x, x = y.f := ⟨_, rfl⟩
            rw [← hyf] at hcell hyg
            have z2 : (t : Int) < (L : Int) := by omega
            have z3 : (0 : Int) ≤ (t : Int) := by omega
            have z4 : (yf == (q : Int)) = false := by simp; omega
            clear hc hy hyf
            go_wp2_with fail
            go_region_law (fail)
            all_goals
              go_wp2_with fail
              go_roundw
              case rel =>
                have hrd := HRD.out
                rw [HSP.out] at hrd
                have hLe : ((succ a.ed (q : Int)) ++ fromE a (q + 1)).length = L := by rw [← HSP.out]; exact HL.out.symm
                have hL2 : (fromE a (q + 1)).length = L - t := by rw [List.length_append, ← HD.out] at hLe; omega
                have k1 := slg_take hrd (by rw [hLe]; exact hlc) hcm
                have k2 := slg_drop hrd (by rw [hLe]; exact hlc) hcm
                rw [← HD.out] at k1 k2
                rw [hL2] at k2
                exact ⟨q + 1, gs.set q (.slice (some ⟨b, o, none⟩) t c4), by go_num, by omega, Lib.hid k2, Lib.hid (gr_set hgr.out (List.getElem?_eq_some_iff.1 hg0).1 k1), Lib.hid (hrow.out.set q _), Lib.hid (by first | exact hbel.out.setCell (p := ⟨w.heap.size + 1, q, none⟩) (by simp) _ | exact (hbel.out.setCell (p := ⟨w.heap.size + 1, q, none⟩) (by simp) _).drew)⟩
              case measure => simp [intOf]; omega
          · have z2 : (L : Int) ≤ (t : Int) := by omega
            obtain rfl : t = L := by omega
            go_wp2_with fail
            cases A4
            all_goals
              go_region_law (fail)
              all_goals
                go_wp2_with fail
                go_roundw
                case rel =>
                  have hrd := HRD.out
                  rw [HSP.out] at hrd
                  have hLe : ((succ a.ed (q : Int)) ++ fromE a (q + 1)).length = t := by rw [← HSP.out]; exact HL.out.symm
                  have hnil : fromE a (q + 1) = [] := List.eq_nil_of_length_eq_zero (by rw [List.length_append, ← HD.out] at hLe; omega)
                  have k1 := slg_take hrd (by rw [hLe]; exact hlc) hcm
                  rw [← HD.out] at k1
                  exact ⟨q + 1, gs.set q _, by go_num, by omega, Lib.hid (by rw [hnil]; exact slg_nil (by omega)), Lib.hid (gr_set hgr.out (List.getElem?_eq_some_iff.1 hg0).1 k1), Lib.hid (by first | exact hrow.out.set q _ | exact (hrow.out.set q _).drew), Lib.hid (by first | exact hbel.out.setCell (p := ⟨w.heap.size + 1, q, none⟩) (by simp) _ | exact (hbel.out.setCell (p := ⟨w.heap.size + 1, q, none⟩) (by simp) _).drew)⟩
                case measure => simp [intOf]; omega
    · obtain rfl : q = S := by omega
      have HF := Lib.hid (show RdGr wr wr.heap.size (w.heap.size + 1) a from ⟨hrow.out.lt, fun p hp => by
        obtain ⟨v, h1, A5, c5, rfl, h2, h3, h4⟩ := hgr.out.2 p (by rw [hst] at hp; simpa using hp)
        exact ⟨_, hrow.out.cell p h1, A5, c5, rfl, (h2.below hbel.out (Nat.le_refl _)).more hbel.out.size, h3, h4⟩⟩)
      have HF2 := Lib.hid (show GrO w wr (w.heap.size + 1) a from fun p hp => by
        obtain ⟨v, h1, h2⟩ := hgr.out.2 p (by rw [hst] at hp; simpa using hp)
        exact ⟨v, hrow.out.cell p h1, h2⟩)
      go_wp2_with fail
      go_ret
      exact ⟨_, rfl, by omega, HF.out, hbel.out, HF2.out⟩
theorem graphOf_any (A : Option Addr) (n c : Nat) (s : Int) (M : Option Addr) (m d : Nat) (E : Option Addr) (k g : Nat) (a : Au) (S : Nat) (w : World) (h : AuR w w.heap.size A n c s M m d E k g a) (hr : RightW a) (hS : s = (S : Int)) (hSb : S ≤ 4096) :
    Calls Try.prog 39 #[.agg #[.slice A n c, .int .i64 s, .slice M m d, .slice E k g]] w fun e w' => ∃ b, e = .returned (.slice (some ⟨b, 0, none⟩) S S) ∧ w.heap.size ≤ b ∧ RdGr w' w'.heap.size b a ∧ Below w.heap.size w w' :=
  (graphOf_o A n c s M m d E k g a S w h hr hS hSb).mono fun _ _ ⟨b, h1, h2, h3, h4, _⟩ => ⟨b, h1, h2, h3, h4⟩
theorem GrO.rd {w0 w7 w' : World} {b : Nat} {a : Au} (h : GrO w0 w7 b a) (hb : b < w'.heap.size) (hz : w0.heap.size ≤ w'.heap.size) (hc : ∀ q : Nat, w'.cell? ⟨b, q, none⟩ = w7.cell? ⟨b, q, none⟩) (hw : Below w0.heap.size w0 w') : RdGr w' w'.heap.size b a :=
  ⟨hb, fun q hq => by
    obtain ⟨v, h1, A5, c5, rfl, h2, h3, h4⟩ := h q hq
    exact ⟨_, (hc q).trans h1, A5, c5, rfl, (h2.below hw (Nat.le_refl _)).more hz, h3, h4⟩⟩
end Go.Proofs.Ytmghngehpgolgaa

/- Layer 7: the closure of spread, which finds a state once. -/
namespace Go.Proofs.Ytmghngehpgolgaa
open Go.RowKit Go.Sort

theorem rows_neJ {w : World} {g1 g2 : Nat} {e1 e2 : TypeId} {c1 c2 : List Value} (h1 : Row w g1 e1 c1) (h2 : Row w g2 e2 c2) (he : e1 ≠ e2) : g1 ≠ g2 := by
  rintro rfl
  have h := h1.symm.trans h2
  simp only [Option.some.injEq, Obj.cells.injEq] at h
  exact he h.2.1
/-- What a search has found: flags, and the list. -/
structure Sp (w : World) (bs bm bf base S : Nat) (v : Value) (F : List Int) : Prop where
  sb : Row w bs 108 [.slice (some ⟨bm, 0, none⟩) S S]
  sm : Row w bm 4 ((List.range S).map fun q : Nat => .bool (decide ((q : Int) ∈ F)))
  fb : Row w bf 22 [v]
  ow : Own w base v F
  fr : ∀ q ∈ F, 0 ≤ q ∧ q < (S : Int)
  nd : F.Nodup
/-- All but the flags, the list's box and the list lies as it lay. -/
structure KpJ (w w' : World) (bm bf : Nat) (v : Value) : Prop where
  os : w'.os = w.os
  tape : w'.tape = w.tape
  output : w'.output = w.output
  size : w.heap.size ≤ w'.heap.size
  block : ∀ k, k < w.heap.size → k ≠ bm → k ≠ bf → some k ≠ v.ownBlock → w'.heap[k]? = w.heap[k]?
theorem sm_cell {w : World} {bs bm bf base S : Nat} {v : Value} {F : List Int} (h : Sp w bs bm bf base S v F) {q : Nat} (hq : q < S) : w.cell? ⟨bm, q, none⟩ = some (.bool (decide ((q : Int) ∈ F))) :=
  h.sm.cell q (by rw [List.getElem?_map, List.getElem?_range hq]; rfl)
theorem sm_set {F : List Int} {S q : Nat} : ((List.range S).map fun p : Nat => Value.bool (decide ((p : Int) ∈ F))).set q (.bool true) = (List.range S).map fun p : Nat => .bool (decide ((p : Int) ∈ F ++ [(q : Int)])) := by
  apply List.ext_getElem
  · simp
  · intro i h1 h2
    rw [List.getElem_set]
    simp only [List.getElem_map, List.getElem_range]
    by_cases e : q = i
    · subst e; simp
    · rw [if_neg e]
      congr 1
      have : ¬ (i : Int) = (q : Int) := by omega
      simp [this]
set_option maxHeartbeats 4000000 in
set_option maxRecDepth 100000 in
theorem jFind_any (bs bm bf base S q : Nat) (v : Value) (F : List Int) (w : World) (h : Sp w bs bm bf base S v F) (hq : q < S) (hS : S ≤ 4096) (hba : base ≤ w.heap.size) :
    Calls Try.prog 66 #[.int .i64 (q : Int), .pointer (some ⟨bs, 0, none⟩), .pointer (some ⟨bf, 0, none⟩)] w fun e w' => e = .returned (.tuple #[]) ∧ ∃ v', Sp w' bs bm bf base S v' (visit F (q : Int)) ∧ KpJ w w' bm bf v := by
  have H := Lib.hid h
  have c1 := h.sb.cell 0 rfl
  have c2 := sm_cell h hq
  have c3 := h.fb.cell 0 rfl
  have f2 := h.sm.frozen q
  have f3 := h.fb.frozen 0
  have hFl : F.length ≤ S := nodup_len h.nd fun x hx => h.fr x hx
  obtain ⟨l, hl⟩ : ∃ l, l = F.length := ⟨_, rfl⟩
  rw [← hl] at hFl
  have HL := Lib.hid hl
  obtain ⟨iI, iI0, iI1, iI2, iI3⟩ := info_parts info_int
  have z0 : (0 : Int) ≤ (q : Int) := by omega
  have z1 : (q : Int) < (S : Int) := by omega
  clear h hl
  by_cases hin : (q : Int) ∈ F
  · rw [decide_eq_true hin] at c2
    have hv : visit F (q : Int) = F := by unfold visit; rw [if_pos hin]
    have HV := Lib.hid hv
    clear hin hv
    go_enter Try.func66, Try.ntmps66
    go_wp2_with fail
    first | go_end0 | refine bodyPost_ret (results_none rfl _ _ _) rfl ?_
    exact ⟨rfl, v, by rw [HV.out]; exact H.out, rfl, rfl, rfl, Nat.le_refl _, fun _ _ _ _ _ => rfl⟩
  · rw [decide_eq_false hin] at c2
    have hv : visit F (q : Int) = F ++ [(q : Int)] := by unfold visit; rw [if_neg hin]
    have HV := Lib.hid hv
    have HIN := Lib.hid hin
    have hMF := rows_neJ H.out.sm H.out.fb (by decide)
    have hMS := rows_neJ H.out.sm H.out.sb (by decide)
    have hFS := rows_neJ H.out.fb H.out.sb (by decide)
    have HFB := Lib.hid (H.out.fb.setOther (p := ⟨bm, q, none⟩) (fun e => hMF e.symm) (.bool true))
    have HSB := Lib.hid (H.out.sb.setOther (p := ⟨bm, q, none⟩) (fun e => hMS e.symm) (.bool true))
    have hsm := H.out.sm.set q (.bool true)
    rw [sm_set] at hsm
    have HSM := Lib.hid hsm
    have HOW := Lib.hid (ownsRow_setCell_other H.out.ow (a := ⟨bm, q, none⟩) (row_ne_own H.out.sm H.out.ow (by decide)) (.bool true))
    have c4 := HFB.out.cell 0 rfl
    have hsz : (w.setCell ⟨bm, q, none⟩ (.bool true)).heap.size = w.heap.size := by simp [World.setCell]
    have HSZ := Lib.hid hsz
    have hown := HOW.out
    rw [← HL.out] at hown
    have HOWl := Lib.hid hown
    clear hin hv hsm hsz hown
    go_enter Try.func66, Try.ntmps66
    go_wp2_with (at_builtin; refine wpList_append_own_at _ rfl _ _ 22 rfl base 3 iI (.int .i64 0) 1 8 Try.underlying22 iI0 iI1 iI2 iI3 rfl (by decide) _ l (F.map (Value.int .i64)) rfl (HOWl.out.alloc _) ⟨w.heap.size, 0, none⟩ 1 1 [.int .i64 (q : Int)] rfl rfl (news_one HSZ.out) (by intro u hu; simp at hu; subst hu; rfl) (by unfold maxLen; omega) (by omega) (by rw [World.size_alloc, HSZ.out]; omega) ?_)
    intro v6 w6 hown6 hgrow6 _ hat6
    obtain ⟨gG, capG, rfl⟩ : ∃ g cap, v6 = .slice (some ⟨g, 0, none⟩) (l + 1) cap := by
      rcases hown6.2 with ⟨rfl, h0⟩ | ⟨g, cap, cur, rfl, _⟩
      · omega
      · exact ⟨g, cap, rfl⟩
    have hown7 : Own w6 base (.slice (some ⟨gG, 0, none⟩) (l + 1) capG) (F ++ [(q : Int)]) := by unfold Own; rw [List.length_append, ← HL.out, List.map_append]; exact hown6
    have hbf6 := Lib.hid ((HFB.out.alloc (.cells #[.int .i64 (q : Int)] 3)).grown hgrow6 (row_ne_own HFB.out HOW.out (by decide)))
    have hbs6 := Lib.hid ((HSB.out.alloc (.cells #[.int .i64 (q : Int)] 3)).grown hgrow6 (row_ne_own HSB.out HOW.out (by decide)))
    have hsm6 := Lib.hid ((HSM.out.alloc (.cells #[.int .i64 (q : Int)] 3)).grown hgrow6 (row_ne_own HSM.out HOW.out (by decide)))
    have HO7 := Lib.hid hown7
    have HG6 := Lib.hid hgrow6
    have c6 := hbf6.out.cell 0 rfl
    have f6 := hbf6.out.frozen 0
    clear hown6 hown7 hgrow6 hat6 c1 c2 c3 c4 f2 f3
    go_wp2_with fail
    first | go_end0 | refine bodyPost_ret (results_none rfl _ _ _) rfl ?_
    have hg := HG6.out
    have hsz6 := hg.size
    simp only [World.size_alloc, HSZ.out] at hsz6
    rw [HV.out]
    refine ⟨rfl, .slice (some ⟨gG, 0, none⟩) (l + 1) capG, ⟨hbs6.out.setOther (p := ⟨bf, 0, none⟩) (fun e => hFS e.symm) _, hsm6.out.setOther (p := ⟨bf, 0, none⟩) hMF _, hbf6.out.set 0 _, ?_, ?_, ?_⟩, ⟨?_, ?_, ?_, ?_, ?_⟩⟩
    · exact ownsRow_setCell_other HO7.out (a := ⟨bf, 0, none⟩) (row_ne_own hbf6.out HO7.out (by decide)) _
    · intro x hx
      rcases List.mem_append.1 hx with hx | hx
      · exact H.out.fr x hx
      · rw [List.mem_singleton] at hx; omega
    · rw [List.nodup_append]
      exact ⟨H.out.nd, by simp, fun x hx y hy e => by rw [List.mem_singleton] at hy; subst hy; exact HIN.out (e ▸ hx)⟩
    · exact Eq.trans (b := w6.os) rfl hg.os
    · exact Eq.trans (b := w6.tape) rfl hg.tape
    · exact Eq.trans (b := w6.output) rfl hg.output
    · simp [World.setCell]; omega
    · intro k hk h1 h2 h3
      rw [Below.heap_setCell _ _ _ _ (show k ≠ (⟨bf, 0, none⟩ : Addr).block from h2), hg.block k (by rw [World.size_alloc, HSZ.out]; omega) h3, Below.heap_alloc _ _ _ (by rw [HSZ.out]; exact hk), Below.heap_setCell _ _ _ _ (show k ≠ (⟨bm, q, none⟩ : Addr).block from h1)]
end Go.Proofs.Ytmghngehpgolgaa

/- Layer 7: spread: what some events reach from some states. -/
namespace Go.Proofs.Ytmghngehpgolgaa
open Go.RowKit Go.Sort

/-- Flags of events, as cells. -/
def flR (ev : List Int) : List Value := (List.range 32).map fun e : Nat => .bool (decide ((e : Int) ∈ ev))
theorem flR_at (ev : List Int) {e : Nat} (h : e < 32) : (flR ev)[e]? = some (.bool (decide ((e : Int) ∈ ev))) := by
  unfold flR; rw [List.getElem?_map, List.getElem?_range h]; rfl
/-- What spread keeps. -/
structure Sq (w0 wr : World) (S : Nat) (ev : List Int) (v : Value) (F : List Int) : Prop where
  bel : Below w0.heap.size w0 wr
  sp : Sp wr (w0.heap.size + 1 + 1 + 1) (w0.heap.size + 1 + 1) (w0.heap.size + 1) w0.heap.size S v F
  fg : Row wr w0.heap.size 62 (flR ev)
theorem Sq.find {w0 wr w' : World} {S : Nat} {ev : List Int} {v v' : Value} {F F' : List Int} (h : Sq w0 wr S ev v F) (hs : Sp w' (w0.heap.size + 1 + 1 + 1) (w0.heap.size + 1 + 1) (w0.heap.size + 1) w0.heap.size S v' F') (hk : KpJ wr w' (w0.heap.size + 1 + 1) (w0.heap.size + 1) v) : Sq w0 w' S ev v' F' := by
  have hz := h.bel.size
  refine ⟨⟨hk.os.trans h.bel.os, hk.tape.trans h.bel.tape, hk.output.trans h.bel.output, Nat.le_trans hz hk.size, fun k hk1 => (hk.block k (by omega) (by omega) (by omega) (fun e => by have := (h.sp.ow.lt k e.symm).1; omega)).trans (h.bel.block k hk1)⟩, hs, ?_⟩
  exact (hk.block _ h.fg.lt (by omega) (by omega) (fun e => row_ne_own h.fg h.sp.ow (by decide) e.symm)).trans h.fg
theorem Sq.alloc {w0 wr : World} {S : Nat} {ev : List Int} {v : Value} {F : List Int} (h : Sq w0 wr S ev v F) (o : Obj) : Sq w0 (wr.alloc o) S ev v F :=
  ⟨h.bel.alloc h.bel.size o, ⟨h.sp.sb.alloc o, h.sp.sm.alloc o, h.sp.fb.alloc o, h.sp.ow.alloc o, h.sp.fr, h.sp.nd⟩, h.fg.alloc o⟩
theorem sm_nil (S : Nat) : ((List.range S).map fun q : Nat => Value.bool (decide ((q : Int) ∈ ([] : List Int)))) = List.replicate S (.bool false) := by
  apply List.ext_getElem <;> simp
theorem sq_start (w : World) (S : Nat) (ev : List Int) : Sq w ((((w.alloc (.cells (flR ev).toArray 62)).alloc (.cells #[.slice none 0 0] 22)).alloc (.cells (Array.replicate S (.bool false)) 4)).alloc (.cells #[.slice (some ⟨w.heap.size + 1 + 1, 0, none⟩) S S] 108)) S ev (.slice none 0 0) [] where
  bel := ((((Below.refl _ w).alloc (Nat.le_refl _) _).alloc (by simp) _).alloc (by simp; omega) _).alloc (by simp; omega) _
  sp := {
    sb := by
      have := Row.new (((w.alloc (.cells (flR ev).toArray 62)).alloc (.cells #[.slice none 0 0] 22)).alloc (.cells (Array.replicate S (.bool false)) 4)) [.slice (some ⟨w.heap.size + 1 + 1, 0, none⟩) S S] 108
      simpa using this
    sm := by
      have := (Row.new ((w.alloc (.cells (flR ev).toArray 62)).alloc (.cells #[.slice none 0 0] 22)) (List.replicate S (.bool false)) 4).alloc (.cells #[.slice (some ⟨w.heap.size + 1 + 1, 0, none⟩) S S] 108)
      rw [sm_nil]
      simpa using this
    fb := by
      have := ((Row.new (w.alloc (.cells (flR ev).toArray 62)) [.slice none 0 0] 22).alloc (.cells (Array.replicate S (.bool false)) 4)).alloc (.cells #[.slice (some ⟨w.heap.size + 1 + 1, 0, none⟩) S S] 108)
      simpa using this
    ow := World.ownsRow_nil _ _ _ _
    fr := fun q hq => by cases hq
    nd := List.nodup_nil }
  fg := (((Row.new w (flR ev) 62).alloc _).alloc _).alloc _
theorem visit_take {fr : List Int} {k : Nat} (h : k < fr.length) (F : List Int) : (fr.take (k + 1)).foldl visit F = visit ((fr.take k).foldl visit F) (fr.getD k 0) := by
  have e : fr.getD k 0 = fr[k] := by simp [List.getD, List.getElem?_eq_getElem h]
  rw [List.take_succ_eq_append_getElem h, List.foldl_append, e]; rfl
/-- What the search keeps: the first i found states are done, of the next one t edges. -/
structure SI (a : Au) (ev fr F : List Int) (i t : Nat) : Prop where
  beg : ∀ q ∈ fr, q ∈ F
  rc : ∀ q ∈ F, Rc a ev fr q
  dn : ∀ j, j < i → ∀ x ∈ succ a.ed (F.getD j 0), x.e ∈ ev → x.t ∈ F
  cu : ∀ x ∈ (succ a.ed (F.getD i 0)).take t, x.e ∈ ev → x.t ∈ F
theorem mem_foldv : ∀ (l F : List Int) (q : Int), q ∈ l.foldl visit F ↔ q ∈ F ∨ q ∈ l
  | [], F, q => by simp
  | x :: l, F, q => by rw [List.foldl_cons, mem_foldv l, mem_visit, List.mem_cons, or_assoc]
theorem si_start {a : Au} {ev fr : List Int} : SI a ev fr (fr.foldl visit []) 0 0 :=
  ⟨fun q hq => (mem_foldv _ _ _).2 (.inr hq), fun q hq => .base (((mem_foldv _ _ _).1 hq).resolve_left (by simp)), fun j hj => by omega, fun x hx => by simp at hx⟩
theorem si_in {a : Au} {ev fr F : List Int} {i t : Nat} {x : Ed} (h : SI a ev fr F i t) (hi : i < F.length) (hx : (succ a.ed (F.getD i 0))[t]? = some x) (he : x.e ∈ ev) : SI a ev fr (visit F x.t) i (t + 1) ∧ (visit F x.t).getD i 0 = F.getD i 0 ∧ i < (visit F x.t).length := by
  have hpre := visit_pre F x.t
  have hg : ∀ j, j ≤ i → (visit F x.t).getD j 0 = F.getD j 0 := fun j hj => getD_pre hpre (by omega)
  have hsub := hpre.subset
  have hxm := List.mem_of_getElem? hx
  refine ⟨⟨fun q hq => hsub (h.beg q hq), fun q hq => ?_, fun j hj y hy hye => ?_, fun y hy hye => ?_⟩, hg i (Nat.le_refl _), Nat.lt_of_lt_of_le hi hpre.length_le⟩
  · rcases mem_visit.1 hq with hq | rfl
    · exact h.rc q hq
    · have hm := mem_succ.1 hxm
      refine .step ?_ hm.1 he
      rw [hm.2]
      exact h.rc _ (getD_mem hi)
  · rw [hg j (by omega)] at hy
    exact hsub (h.dn j hj y hy hye)
  · rw [hg i (Nat.le_refl _)] at hy
    obtain ⟨hl, e⟩ := List.getElem?_eq_some_iff.1 hx
    rw [List.take_succ_eq_append_getElem hl, List.mem_append, List.mem_singleton] at hy
    rcases hy with hy | hy
    · exact hsub (h.cu y hy hye)
    · rw [hy, e]; exact mem_visit.2 (.inr rfl)
theorem si_out {a : Au} {ev fr F : List Int} {i t : Nat} {x : Ed} (h : SI a ev fr F i t) (hx : (succ a.ed (F.getD i 0))[t]? = some x) (he : x.e ∉ ev) : SI a ev fr F i (t + 1) :=
  ⟨h.beg, h.rc, h.dn, fun y hy hye => by
    obtain ⟨hl, e⟩ := List.getElem?_eq_some_iff.1 hx
    rw [List.take_succ_eq_append_getElem hl, List.mem_append, List.mem_singleton] at hy
    rcases hy with hy | hy
    · exact h.cu y hy hye
    · rw [hy, e] at hye; exact absurd hye he⟩
theorem si_next {a : Au} {ev fr F : List Int} {i : Nat} (h : SI a ev fr F i (succ a.ed (F.getD i 0)).length) : SI a ev fr F (i + 1) 0 :=
  ⟨h.beg, h.rc, fun j hj y hy hye => by
    by_cases e : j = i
    · subst e; exact h.cu y (by rw [List.take_length]; exact hy) hye
    · exact h.dn j (by omega) y hy hye, fun x hx => by simp at hx⟩
theorem si_end {a : Au} {ev fr F : List Int} (h : SI a ev fr F F.length 0) (q : Int) : q ∈ F ↔ Rc a ev fr q :=
  rc_found h.beg h.rc (fun x hx hf he => by
    have hj := List.idxOf_lt_length_iff.2 hf
    exact h.dn _ hj x (mem_succ.2 ⟨hx, by rw [getD_idxOf hf]⟩) he) q
theorem info_bool : (Try.prog.info? 4).map (fun i => (i.zero, i.size, i.bytes)) = some (some (.bool false), 1, 1) := by kernel_rfl
theorem make_bools (N : Nat) (hN : N ≤ 100000) (w : World) :
    (Instr.makeSlice 108 (.int .i64 (N : Int)) (.int .i64 (N : Int))).run Try.prog w = .ok (.slice (some ⟨w.heap.size, 0, none⟩) N N) (w.alloc (.cells (List.replicate N (Value.bool false)).toArray 4)) := by
  obtain ⟨i0, hi, hz0, hz1, hz2⟩ := info_parts info_bool
  have := run_make_rowN 108 4 i0 (.bool false) Try.underlying108 hi hz0 .i64 .i64 N N (Nat.le_refl _) (by rw [hz2]; omega) (by omega) w
  rw [this, hz1, Nat.mul_one]
  have e : madeCells (Value.bool false).cells N = (List.replicate N (Value.bool false)).toArray := by
    rw [← toList_madeCells_one (.bool false) N]; simp [Value.cells]
  rw [e]
set_option maxHeartbeats 8000000 in
set_option maxRecDepth 100000 in
theorem jSpread_any (bg S : Nat) (a : Au) (A2 : Option Addr) (n2 c2 : Nat) (fr ev : List Int) (w : World) (hg : RdGr w w.heap.size bg a) (hr : RightW a) (hS : a.st = (S : Int)) (hSb : S ≤ 4096) (hx : RdI w w.heap.size A2 fr) (hn : fr.length = n2) (hnb : n2 ≤ 1000000) (hf : ∀ q ∈ fr, 0 ≤ q ∧ q < (S : Int)) :
    Calls Try.prog 40 #[.slice (some ⟨bg, 0, none⟩) S S, .slice A2 n2 c2, .agg (flR ev).toArray] w fun e w' => ∃ v, e = .returned v ∧ Own w' w.heap.size v (reR a ev fr) ∧ Below w.heap.size w w' := by
  have hmk := make_bools S (by omega)
  have HG := Lib.hid hg
  have HW := Lib.hid hr
  have HX := Lib.hid hx
  have HN := Lib.hid hn
  have HF := Lib.hid hf
  have HS := Lib.hid hS
  clear hg hr hx hn hf hS
  go_enter Try.func40, Try.ntmps40
  have HQ0 := Lib.hid (sq_start w S ev)
  go_wp2_with fail
  go_loopw [11, 21] (fun _ iv wr => ∃ (k : Nat) (v : Value), k ≤ n2 ∧ iv = .int .i64 k ∧ Hid (Sq w wr S ev v ((fr.take k).foldl visit []))) (fun _ i _ => n2 - (intOf i).toNat)
  case atStart => exact ⟨0, _, Nat.zero_le _, rfl, HQ0⟩
  case round =>
    clear HQ0 hmk
    obtain ⟨k, v, hk, rfl, hsq⟩ := hrel
    by_cases hlt : k < n2
    · obtain ⟨b, o, rfl, hb, hc⟩ := HX.out (by rw [HN.out]; omega)
      have hz : k < fr.length := by rw [HN.out]; exact hlt
      have hc1 := (hsq.out.bel.cell (p := ⟨b, o + k, none⟩) hb).trans (hc k hz)
      have hfr := HF.out _ (getD_mem hz)
      obtain ⟨q, hq⟩ : ∃ q : Nat, fr.getD k 0 = (q : Int) := ⟨(fr.getD k 0).toNat, by omega⟩
      rw [hq] at hc1 hfr
      have hnx := visit_take hz []
      rw [hq] at hnx
      have HNX := Lib.hid hnx
      have hqS : q < S := by omega
      have z0 : (k : Int) < (n2 : Int) := by omega
      have z1 : (0 : Int) ≤ (k : Int) := by omega
      clear hc hz hq hnx hfr
      go_wp2_with fail
      refine (jFind_any _ _ _ _ _ q _ _ _ hsq.out.sp hqS hSb hsq.out.bel.size).mono ?_
      rintro e w5 ⟨rfl, v', hs', hk'⟩
      have hsq' := Lib.hid (hsq.out.find hs' hk')
      clear hs' hk'
      go_wp2_with fail
      go_roundw
      case rel => exact ⟨k + 1, v', by omega, by go_num, by rw [HNX.out]; exact hsq'⟩
      case measure => simp [intOf]; omega
    · have hF0 : fr.take k = fr := List.take_of_length_le (by rw [HN.out]; omega)
      rw [hF0] at hsq
      have hsi := Lib.hid (si_start (a := a) (ev := ev) (fr := fr))
      obtain ⟨F0, hF⟩ : ∃ F, F = fr.foldl visit [] := ⟨_, rfl⟩
      rw [← hF] at hsq hsi
      clear hF hF0
      go_wp2_with fail
      go_loopw [12, 14] (fun iv _ wr => ∃ (i : Nat) (v : Value) (F : List Int), i ≤ F.length ∧ iv = .int .i64 i ∧ Hid (Sq w wr S ev v F) ∧ Hid (SI a ev fr F i 0)) (fun iv _ _ => S - (intOf iv).toNat)
      case atStart => exact ⟨0, v, F0, Nat.zero_le _, rfl, hsq, hsi⟩
      case round =>
        clear hsq hsi
        obtain ⟨i, v, F, hi, rfl, hsq, hsi⟩ := hrel
        have hFS : F.length ≤ S := nodup_len hsq.out.sp.nd fun x hx => hsq.out.sp.fr x hx
        obtain ⟨Av, cv, rfl, hRd, _, _⟩ := own_rdc hsq.out.sp.ow
        have c3 := hsq.out.sp.fb.cell 0 rfl
        obtain ⟨l, hl⟩ : ∃ l, l = F.length := ⟨_, rfl⟩
        rw [← hl] at hi hFS c3
        have HL := Lib.hid hl
        have HRd := Lib.hid hRd
        clear hl hRd
        by_cases hlt : i < l
        · obtain ⟨b, o, rfl, hb, hc⟩ := HRd.out (by rw [← HL.out]; omega)
          have hil : i < F.length := by rw [← HL.out]; exact hlt
          have hc1 := hc i hil
          have hqr := hsq.out.sp.fr _ (getD_mem hil)
          obtain ⟨q, hq⟩ : ∃ q : Nat, F.getD i 0 = (q : Int) := ⟨(F.getD i 0).toNat, by omega⟩
          rw [hq] at hc1 hqr
          have HQ := Lib.hid hq
          have hqS : q < S := by omega
          obtain ⟨vE, hv1, AE, cE, rfl, hrE, hlE, hmE⟩ := HG.out.2 q (by rw [HS.out]; simpa using hqS)
          have cg := (hsq.out.bel.cell (p := ⟨bg, q, none⟩) HG.out.1).trans hv1
          obtain ⟨D, hD⟩ : ∃ D, D = (succ a.ed (q : Int)).length := ⟨_, rfl⟩
          rw [← hD] at cg hlE
          have HD := Lib.hid hD
          have HRE := Lib.hid hrE
          have HIL := Lib.hid hil
          have z0 : (i : Int) < (l : Int) := by omega
          have z1 : (0 : Int) ≤ (i : Int) := by omega
          have z2 : (0 : Int) ≤ (q : Int) := by omega
          have z3 : (q : Int) < (S : Int) := by omega
          have HQ2 := Lib.hid (show SI a ev fr F i 0 ∧ F.getD i 0 = (q : Int) ∧ i < F.length from ⟨hsi.out, hq, hil⟩)
          clear hc hq hv1 hrE hD hil hqr
          go_wp2_with fail
          go_loopw [14, 43] (fun _ jv wx => ∃ (t : Nat) (v : Value) (F : List Int), t ≤ D ∧ jv = .int .i64 t ∧ Hid (Sq w wx S ev v F) ∧ Hid (SI a ev fr F i t ∧ F.getD i 0 = (q : Int) ∧ i < F.length)) (fun _ jv _ => D - (intOf jv).toNat)
          case atStart => exact ⟨0, _, F, Nat.zero_le _, rfl, hsq, HQ2⟩
          case round =>
            clear hsq hsi HQ2 c3 hc1 cg HQ HL HRd HIL
            obtain ⟨t, v, F, htD, rfl, hsq, hsi⟩ := hrel
            by_cases h1 : t < D
            · obtain ⟨b2, o2, rfl, hb2, hc2⟩ := HRE.out (by rw [← HD.out]; omega)
              obtain ⟨x, hx⟩ : ∃ x, (succ a.ed (q : Int))[t]? = some x := ⟨_, List.getElem?_eq_getElem (by rw [← HD.out]; exact h1)⟩
              obtain ⟨g1, g2, g3⟩ := hc2 t x hx
              have d1 := (hsq.out.bel.cell (p := ⟨b2, o2 + t * 3, none⟩) hb2).trans g1
              have d2 := (hsq.out.bel.cell (p := ⟨b2, o2 + t * 3 + 1, none⟩) hb2).trans g2
              have d3 := (hsq.out.bel.cell (p := ⟨b2, o2 + t * 3 + 2, none⟩) hb2).trans g3
              have hxs : (succ a.ed (F.getD i 0))[t]? = some x := by rw [hsi.out.2.1]; exact hx
              have hed := HW.out.edr x (mem_succ.1 (List.mem_of_getElem? hx)).1
              have hev := HW.out.alr _ hed.2.2
              rw [HS.out] at hed
              obtain ⟨e, he⟩ : ∃ e : Nat, x.e = (e : Int) := ⟨x.e.toNat, by omega⟩
              obtain ⟨p, hp⟩ : ∃ p : Nat, x.t = (p : Int) := ⟨x.t.toNat, by omega⟩
              obtain ⟨f, hfv⟩ : ∃ f, f = x.f := ⟨_, rfl⟩
              have hpS : p < S := by omega
              have he32 : e < 32 := by omega
              rw [← hfv] at d1
              rw [he] at d2
              rw [hp] at d3
              have hfl := hsq.out.fg.cell e (flR_at ev he32)
              have hflt := hsq.out.fg.lt
              obtain ⟨r, hr⟩ : ∃ r, decide ((e : Int) ∈ ev) = r := ⟨_, rfl⟩
              rw [hr] at hfl
              have cfl := (World.cell?_alloc_lt wr (.cells #[.int .i64 f, .int .i64 (e : Int), .int .i64 (p : Int)] 55) ⟨w.heap.size, e, none⟩ hflt).trans hfl
              have hsq2 := Lib.hid (hsq.out.alloc (.cells #[.int .i64 f, .int .i64 (e : Int), .int .i64 (p : Int)] 55))
              have z4 : (t : Int) < (D : Int) := by omega
              have z5 : (0 : Int) ≤ (t : Int) := by omega
              have z6 : (0 : Int) ≤ (e : Int) := by omega
              have z7 : (e : Int) < 32 := by omega
              cases r
              · have hne : x.e ∉ ev := by rw [he]; simpa using hr
                have hnx := Lib.hid (show SI a ev fr F i (t + 1) ∧ F.getD i 0 = (q : Int) ∧ i < F.length from ⟨si_out hsi.out.1 hxs hne, hsi.out.2⟩)
                clear hx g1 g2 g3 hxs hed hev he hp hfv hr hne hc2 hfl
                go_wp2_with fail
                go_roundw
                case rel => exact ⟨t + 1, v, F, by omega, by go_num, hsq2, hnx⟩
                case measure => simp [intOf]; omega
              · have hye : x.e ∈ ev := by rw [he]; simpa using hr
                have hin := si_in hsi.out.1 hsi.out.2.2 hxs hye
                rw [hp] at hin
                have hnx := Lib.hid (show SI a ev fr (visit F (p : Int)) i (t + 1) ∧ (visit F (p : Int)).getD i 0 = (q : Int) ∧ i < (visit F (p : Int)).length from ⟨hin.1, hin.2.1.trans hsi.out.2.1, hin.2.2⟩)
                clear hx g1 g2 g3 hxs hed hev he hp hfv hr hye hc2 hfl hin
                go_wp2_with fail
                refine (jFind_any _ _ _ _ _ p _ _ _ hsq2.out.sp hpS hSb hsq2.out.bel.size).mono ?_
                rintro e5 w5 ⟨rfl, v', hs', hk'⟩
                have hsq' := Lib.hid (hsq2.out.find hs' hk')
                clear hs' hk'
                go_wp2_with fail
                go_roundw
                case rel => exact ⟨t + 1, v', _, by omega, by go_num, hsq', hnx⟩
                case measure => simp [intOf]; omega
            · obtain rfl : t = D := by omega
              have hnx := Lib.hid (show SI a ev fr F (i + 1) 0 from si_next (by
                have := hsi.out.1
                rw [HD.out, ← hsi.out.2.1] at this
                exact this))
              have hil := hsi.out.2.2
              go_wp2_with fail
              go_roundw
              case rel => exact ⟨i + 1, v, F, by omega, by go_num, hsq, hnx⟩
              case measure => simp [intOf]; omega
        · obtain rfl : i = l := by omega
          have hend := hsi.out
          rw [HL.out] at hend
          have hiff := si_end hend
          have hown : Own wr w.heap.size (.slice Av i cv) F := by rw [HL.out]; exact hsq.out.sp.ow
          have hFl : F.length ≤ 100000 := by rw [← HL.out]; omega
          have hsub : ∀ q ∈ fr, 0 ≤ q ∧ q < a.st := fun q hq => by rw [HS.out]; exact HF.out q hq
          have hres := Lib.hid (reR_of HW.out hsub (srtI_lt hsq.out.sp.nd) (fun q => ((srtI_perm F).mem_iff).trans (hiff q)))
          have z0 : (i : Int) ≤ (i : Int) := by omega
          clear hend hiff hsub
          go_wp2_with fail
          refine (sort_own wr hown hFl).mono ?_
          rintro e5 w5 ⟨rfl, hown5, hgrow5⟩
          have hfb := hsq.out.sp.fb.grown hgrow5 (row_ne_own hsq.out.sp.fb hown (by decide))
          have hlen : (srtI F).length = F.length := srtI_len F
          obtain ⟨hbel⟩ : Nonempty (Below w.heap.size w w5) := ⟨hsq.out.bel.grown hgrow5 hsq.out.bel.size (fun k hk => (hown.lt k hk).1)⟩
          have c5 := hfb.cell 0 rfl
          rw [← HL.out] at c5
          go_wp2_with fail
          go_ret
          exact ⟨_, rfl, by rw [← hres.out]; exact hown5, hbel⟩
end Go.Proofs.Ytmghngehpgolgaa

/- Layer 7: sets of states as texts, which are the keys of a map of the sets that have been found. -/
namespace Go.Proofs.Ytmghngehpgolgaa
open Go.RowKit Go.Sort Go.Maps Go.WideMaps

/-- The numbers of the bytes of a set's text. -/
def keyL (s : List Int) : List Int := s.flatMap fun x => [x / 256, x % 256]
theorem keyL_nil : keyL [] = [] := rfl
theorem keyL_cons (x : Int) (s : List Int) : keyL (x :: s) = x / 256 :: x % 256 :: keyL s := rfl
theorem keyL_snoc (s : List Int) (x : Int) : keyL (s ++ [x]) = keyL s ++ [x / 256, x % 256] := by simp [keyL]
theorem keyL_len (s : List Int) : (keyL s).length = 2 * s.length := by
  induction s with
  | nil => rfl
  | cons x s ih => rw [keyL_cons, List.length_cons, List.length_cons, List.length_cons, ih]; omega
/-- A set whose states have at most sixteen bits. -/
def OkK (s : List Int) : Prop := ∀ x ∈ s, 0 ≤ x ∧ x < 65536
def byt (s : List Int) : List UInt8 := (keyL s).map fun n => UInt8.ofNat n.toNat
theorem byt_str (s : List Int) : (strOfNums (keyL s)).data.toList = byt s := strOfNums_data _
theorem u8_inj {x y : Int} (hx : 0 ≤ x ∧ x < 256) (hy : 0 ≤ y ∧ y < 256) (h : UInt8.ofNat x.toNat = UInt8.ofNat y.toNat) : x = y := by
  have h1 := congrArg UInt8.toNat h
  rw [UInt8.toNat_ofNat', UInt8.toNat_ofNat'] at h1
  omega
theorem byt_inj : ∀ {s t : List Int}, OkK s → OkK t → byt s = byt t → s = t
  | [], [], _, _, _ => rfl
  | [], y :: t, _, _, h => by simp [byt, keyL_cons, keyL_nil] at h
  | x :: s, [], _, _, h => by simp [byt, keyL_cons, keyL_nil] at h
  | x :: s, y :: t, hs, ht, h => by
    simp only [byt, keyL_cons, List.map_cons, List.cons.injEq] at h
    obtain ⟨h1, h2, h3⟩ := h
    have hx := hs x (by simp)
    have hy := ht y (by simp)
    have e1 := u8_inj (by omega) (by omega) h1
    have e2 := u8_inj (by omega) (by omega) h2
    have e3 := byt_inj (fun z hz => hs z (List.mem_cons_of_mem _ hz)) (fun z hz => ht z (List.mem_cons_of_mem _ hz)) h3
    rw [e3, show x = y by omega]
def KS (s : List Int) : Lit := .string (byt s)
theorem KS_inj {s t : List Int} (hs : OkK s) (ht : OkK t) (h : KS s = KS t) : s = t := byt_inj hs ht (by injection h)
theorem lawStr : Keyed Try.prog 9 := string_keyed Try.underlying9
theorem key_set {s : List Int} (h : s.length ≤ 100000) : keyOf Try.prog 9 (.string (strOfNums (keyL s))) = some (KS s) := by
  have := keyOf_string_mk (P := Try.prog) Try.underlying9 (s := strOfNums (keyL s)) (by rw [strOfNums_size, keyL_len]; unfold maxLen; omega)
  rw [this, byt_str]; rfl
theorem KS_key {s : List Int} (h : s.length ≤ 100000) : WideAt.IsKeyLit (KS s) := lawStr.key (key_set h)
/-- The map of the sets that have been found, with their numbers. -/
def mpS (ts : List (List Int)) : DataW Unit := ts.zipIdx.foldl (fun D p => D.put (KS p.1) (.lit (.int .i64 (p.2 : Int)))) (.map [])
theorem mpS_snoc (ts : List (List Int)) (t : List Int) : mpS (ts ++ [t]) = (mpS ts).put (KS t) (.lit (.int .i64 (ts.length : Int))) := by
  unfold mpS
  rw [List.zipIdx_append, List.foldl_append]
  simp
theorem mpS_isMap (ts : List (List Int)) : IsMap (mpS ts) := by
  have key : ∀ (l : List (List Int × Nat)) (D : DataW Unit), IsMap D → IsMap (l.foldl (fun D p => D.put (KS p.1) (.lit (.int .i64 (p.2 : Int)))) D) := by
    intro l
    induction l with
    | nil => intro D h; exact h
    | cons p l ih =>
      intro D h
      refine ih _ ?_
      obtain ⟨es, rfl⟩ := h
      exact ⟨_, rfl⟩
  exact key _ _ ⟨_, rfl⟩
theorem snocIndS {α : Type} {P : List α → Prop} (h0 : P []) (h1 : ∀ l a, P l → P (l ++ [a])) (l : List α) : P l := by
  have : ∀ l : List α, P l.reverse := by
    intro l
    induction l with
    | nil => exact h0
    | cons a l ih => rw [List.reverse_cons]; exact h1 _ _ ih
  have h := this l.reverse
  rwa [List.reverse_reverse] at h
/-- A set that can be a key. -/
def SKey (s : List Int) : Prop := OkK s ∧ s.length ≤ 100000
theorem mpS_reads (ts : List (List Int)) : (∀ t ∈ ts, SKey t) → ts.Nodup → ∀ t, SKey t → Maps.has (mpS ts) (KS t) = decide (t ∈ ts) ∧ (mpS ts).atKey (KS t) (.lit (.int .i64 0)) = .lit (.int .i64 (if t ∈ ts then (ts.idxOf t : Int) else 0)) := by
  refine snocIndS (P := fun ts => (∀ t ∈ ts, SKey t) → ts.Nodup → ∀ t, SKey t → Maps.has (mpS ts) (KS t) = decide (t ∈ ts) ∧ (mpS ts).atKey (KS t) (.lit (.int .i64 0)) = .lit (.int .i64 (if t ∈ ts then (ts.idxOf t : Int) else 0))) ?_ ?_ ts
  · intro _ _ t _
    exact ⟨rfl, rfl⟩
  · intro ts u ih hv hn t ht
    have hvu : SKey u := hv u (by simp)
    have hn' := List.nodup_append.1 hn
    have hu : u ∉ ts := fun hc => hn'.2.2 u hc u (by simp) rfl
    have := ih (fun t h => hv t (by simp [h])) hn'.1 t ht
    rw [mpS_snoc]
    by_cases htu : t = u
    · subst htu
      refine ⟨?_, ?_⟩
      · rw [has_put_same (mpS_isMap ts) (KS_key hvu.2)]; simp
      · rw [atKey_put_same (mpS_isMap ts) (KS_key hvu.2)]
        simp [List.idxOf_append, hu]
    · have hne : KS t ≠ KS u := fun h => htu (KS_inj ht.1 hvu.1 h)
      rw [has_put_other hne, atKey_put_other hne, this.1, this.2]
      by_cases hm : t ∈ ts
      · simp [hm, List.idxOf_append]
      · simp [hm, htu]
end Go.Proofs.Ytmghngehpgolgaa
