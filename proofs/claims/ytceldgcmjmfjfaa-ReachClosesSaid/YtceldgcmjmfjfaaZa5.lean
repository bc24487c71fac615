/- Texts merged: what follows were texts of their own. -/
import Derived.Test.YtceldgcmjmfjfaaZa4
import Derived.Laws.EntriesVeiled
set_option linter.unusedVariables false
set_option linter.unusedSimpArgs false
set_option linter.unusedSectionVars false
/- Layer 4: a region in a round of a loop over a function, whose operations read, but for a chain of them, of which the last one ends the region: one walk serves every order. -/
namespace Go.Proofs.Ytceldgcmjmfjfaa
open Go.RowKit

/-- Operation i waits for operation j. -/
def waitsB (ops : Array Oper) (i j : Nat) : Bool := match ops[i]? with | none => false | some o => o.after.any fun e => Region.binds .any e && e.on == j
def dstI (ops : Array Oper) (i : Nat) : Option Tmp := match ops[i]? with | none => none | some o => o.dst
def plainB (o : Oper) : Bool := o.guard.isNone && match o.op with | .select _ _ => false | .defer _ => false | _ => true
def operB (ops : Array Oper) (L i : Nat) : Bool := match ops[i]? with
  | none => false
  | some o => plainB o && o.op.operands.toList.all (fun x => match x with | .tmp s => (List.range L).all (fun j => !(dstI ops j == some s) || waitsB ops i j) | _ => true) && o.after.toList.all (fun e => decide (e.on < i))
/-- What the kernel sees of the operations: no guards, no choices, no deferred calls; each operand that another operation writes is waited for; all is waited for by something later; nothing waits for something later. -/
def regB (ops : Array Oper) (L : Nat) (cs : List Nat) : Bool :=
  (ops.size == L + 1) && (List.range (L + 1)).all (operB ops L) &&
  (List.range L).all (fun i => (List.range (L + 1)).any (fun j => decide (i < j) && waitsB ops j i)) &&
  (List.range L).all (fun i => (List.range L).all (fun j => i == j || !(dstI ops i == dstI ops j) || (dstI ops i).isNone)) &&
  cs.all (fun c => decide (c < L)) && decide cs.Nodup &&
  (List.range (cs.length - 1)).all (fun k => waitsB ops (cs.getD (k + 1) 0) (cs.getD k 0))
structure RegOk (ops : Array Oper) (L : Nat) (cs : List Nat) : Prop where
  size : ops.size = L + 1
  op : ∀ i, i ≤ L → ∃ o, ops[i]? = some o ∧ o.guard = none ∧ (∀ cs b, o.op ≠ .select cs b) ∧ ∀ c, o.op ≠ .defer c
  opn : ∀ i o s j, i ≤ L → ops[i]? = some o → Operand.tmp s ∈ o.op.operands → j < L → dstI ops j = some s → waitsB ops i j = true
  dn : ∀ i j, i ≤ L → waitsB ops i j = true → j < i
  up : ∀ i, i < L → ∃ j, i < j ∧ j ≤ L ∧ waitsB ops j i = true
  uq : ∀ i j s, i < L → j < L → dstI ops i = some s → dstI ops j = some s → i = j
  cl : ∀ c ∈ cs, c < L
  nd : cs.Nodup
  ch : ∀ k, k + 1 < cs.length → waitsB ops (cs.getD (k + 1) 0) (cs.getD k 0) = true
theorem plain_of {o : Oper} (h : plainB o = true) : o.guard = none ∧ (∀ cs b, o.op ≠ .select cs b) ∧ ∀ c, o.op ≠ .defer c := by
  unfold plainB at h
  rw [Bool.and_eq_true] at h
  refine ⟨by simpa using h.1, fun cs b e => ?_, fun c e => ?_⟩
  · rw [e] at h; simp at h
  · rw [e] at h; simp at h
theorem regOk_of {ops : Array Oper} {L : Nat} {cs : List Nat} (h : regB ops L cs = true) : RegOk ops L cs := by
  unfold regB at h
  simp only [Bool.and_eq_true, List.all_eq_true, List.mem_range, List.any_eq_true, decide_eq_true_eq, beq_iff_eq, Bool.or_eq_true, Bool.not_eq_true'] at h
  obtain ⟨⟨⟨⟨⟨⟨h1, h2⟩, h3⟩, h4⟩, h5⟩, h6⟩, h7⟩ := h
  have hop : ∀ i, i ≤ L → ∃ o, ops[i]? = some o ∧ plainB o = true ∧ (∀ x ∈ o.op.operands.toList, (match x with | .tmp s => (List.range L).all (fun j => !(dstI ops j == some s) || waitsB ops i j) | _ => true) = true) ∧ ∀ e ∈ o.after.toList, e.on < i := fun i hi => by
    have := h2 i (by omega)
    unfold operB at this
    cases ho : ops[i]? with
    | none => rw [ho] at this; cases this
    | some o =>
      rw [ho] at this
      simp only [Bool.and_eq_true, List.all_eq_true, decide_eq_true_eq] at this
      exact ⟨o, rfl, this.1.1, this.1.2, this.2⟩
  refine ⟨h1, fun i hi => ?_, fun i o s j hi ho hs hj hd => ?_, fun i j hi hw => ?_, fun i hi => ?_, fun i j s hi hj h8 h9 => ?_, h5, h6, fun k hk => h7 k (by omega)⟩
  · obtain ⟨o, ho, hp, _⟩ := hop i hi
    exact ⟨o, ho, plain_of hp⟩
  · obtain ⟨o', ho', _, hx, _⟩ := hop i hi
    rw [ho] at ho'; cases ho'
    have := hx _ (Array.mem_toList_iff.2 hs)
    simp only [List.all_eq_true, List.mem_range, Bool.or_eq_true, Bool.not_eq_true'] at this
    rcases this j hj with h | h
    · rw [hd] at h; simp at h
    · exact h
  · obtain ⟨o, ho, _, _, hx⟩ := hop i hi
    unfold waitsB at hw
    rw [ho] at hw
    simp only [Array.any_eq_true', Bool.and_eq_true, beq_iff_eq] at hw
    obtain ⟨e, he, _, h⟩ := hw
    rw [← h]; exact hx e (Array.mem_toList_iff.2 he)
  · obtain ⟨j, hj, h8, h9⟩ := h3 i hi
    exact ⟨j, h8, by omega, h9⟩
  · rcases h4 i hi j hj with (h | h) | h
    · exact h
    · rw [h8, h9] at h; simp at h
    · rw [h8] at h; simp at h
def isL (listed : Array Bool) (i : Nat) : Prop := listed[i]? = some true
structure RInv (ops : Array Oper) (L : Nat) (cs : List Nat) (aF : Act) (W : Nat → World) (listed : Array Bool) (a : Act) (w : World) : Prop where
  sz : listed.size = L + 1
  cl : ∀ i j, isL listed i → waitsB ops i j = true → isL listed j
  df : a.defers = aF.defers
  ts : a.tmps.size = aF.tmps.size
  sl : ∀ s, (∀ i, i < L → dstI ops i = some s → isL listed i) → a.tmps[s]? = aF.tmps[s]?
  ph : ∃ p, p ≤ cs.length ∧ w = W p ∧ ∀ k, k < cs.length → (isL listed (cs.getD k 0) ↔ k < p)
theorem isL_set {listed : Array Bool} {i j : Nat} (hi : i < listed.size) : isL (listed.setIfInBounds i true) j ↔ j = i ∨ isL listed j := by
  unfold isL
  rw [Array.getElem?_setIfInBounds]
  by_cases e : i = j
  · subst e; simp [hi]
  · rw [if_neg e]
    exact ⟨.inr, fun h => h.elim (fun h => absurd h.symm e) id⟩
theorem not_isL {listed : Array Bool} {i : Nat} (hi : i < listed.size) (h : ¬ isL listed i) : (!listed.getD i true) = true := by
  have h1 : listed[i]? = some listed[i] := Array.getElem?_eq_getElem hi
  unfold isL at h
  rw [Array.getD_eq_getD_getElem?, h1]
  rw [h1] at h
  simpa using h
/-- Who may come up: those that aren't listed, and wait for listed ones only. -/
theorem ready_iff {ops : Array Oper} {listed : Array Bool} (hs : listed.size = ops.size) {i : Nat} : i ∈ Region.ready .any ops listed ↔ i < ops.size ∧ ¬ isL listed i ∧ ∀ j, waitsB ops i j = true → isL listed j := by
  unfold Region.ready
  rw [List.mem_filter, List.mem_range]
  constructor
  · rintro ⟨h1, h2⟩
    rw [Bool.and_eq_true] at h2
    refine ⟨h1, fun hl => ?_, fun j hj => ?_⟩
    · have := h2.1
      unfold isL at hl
      simp [Array.getD_eq_getD_getElem?, hl] at this
    · obtain ⟨o, ho⟩ : ∃ o, ops[i]? = some o := ⟨_, Array.getElem?_eq_getElem h1⟩
      have h3 := h2.2
      unfold waitsB at hj
      rw [ho] at h3 hj
      simp only [Option.map_some, Option.getD_some, Array.all_eq_true', Bool.or_eq_true, Bool.not_eq_true'] at h3
      simp only [Array.any_eq_true', Bool.and_eq_true, beq_iff_eq] at hj
      obtain ⟨e, he, hb, hj⟩ := hj
      subst hj
      rcases h3 e he with h | h
      · rw [hb] at h; cases h
      · unfold isL
        cases hx : listed[e.on]? with
        | none => simp [Array.getD_eq_getD_getElem?, hx] at h
        | some b => simp [Array.getD_eq_getD_getElem?, hx] at h; rw [h]
  · rintro ⟨h1, h2, h3⟩
    refine ⟨h1, ?_⟩
    rw [Bool.and_eq_true]
    obtain ⟨o, ho⟩ : ∃ o, ops[i]? = some o := ⟨_, Array.getElem?_eq_getElem h1⟩
    constructor
    · exact not_isL (by omega) h2
    · rw [ho]
      simp only [Option.map_some, Option.getD_some, Array.all_eq_true', Bool.or_eq_true, Bool.not_eq_true']
      intro e he
      cases hb : Region.binds .any e with
      | false => exact .inl rfl
      | true =>
        have := h3 e.on (by unfold waitsB; rw [ho]; simp only [Array.any_eq_true', Bool.and_eq_true, beq_iff_eq]; exact ⟨e, he, hb, rfl⟩)
        unfold isL at this
        exact .inr (by simp [Array.getD_eq_getD_getElem?, this])
theorem all_listed {ops : Array Oper} {L : Nat} {cs : List Nat} (hr : RegOk ops L cs) {listed : Array Bool} (cl : ∀ i j, isL listed i → waitsB ops i j = true → isL listed j) (hL : ∀ j, waitsB ops L j = true → isL listed j) : ∀ i, i < L → isL listed i := by
  have key : ∀ d i, L - i = d → i < L → isL listed i := by
    intro d
    induction d using Nat.strongRecOn with
    | _ d ih =>
      intro i hd hi
      obtain ⟨j, h1, h2, h3⟩ := hr.up i hi
      by_cases e : j = L
      · subst e; exact hL i h3
      · exact cl j i (ih (L - j) (by omega) j rfl (by omega)) h3
  exact fun i hi => key _ i rfl hi
theorem act_ext {a b : Act} (h1 : a.defers = b.defers) (h2 : a.tmps.size = b.tmps.size) (h3 : ∀ s : Nat, a.tmps[s]? = b.tmps[s]?) : a = b := by
  obtain ⟨t, d⟩ := a
  obtain ⟨t', d'⟩ := b
  simp only at h1 h2 h3
  subst h1
  congr 1
  exact Array.ext_getElem? h3
theorem wpAny_done {F : Fence} {n : Nat} {P : Program} {ops : Array Oper} {Q : Exit → Act → World → Prop} {listed : Array Bool} {a : Act} {w : World} (h : Region.ready .any ops listed = []) (hq : Q .normal a w) : ∀ fuel, wpAnyIn F n P .any ops Q fuel listed a w
  | 0 => ⟨h, hq⟩
  | _ + 1 => ⟨fun _ => hq, fun i hi => by rw [h] at hi; cases hi⟩
theorem cnt_lt {sz : Nat} {p p' : Nat → Bool} (h1 : ∀ i, p' i = true → p i = true) {i : Nat} (hi : i < sz) (h2 : p i = true) (h3 : p' i = false) : ((List.range sz).filter p').length < ((List.range sz).filter p).length := by
  have e : (List.range sz).filter p' = ((List.range sz).filter p).filter p' := by
    rw [List.filter_filter]
    congr 1
    funext x
    cases hx : p' x
    · simp
    · simp [h1 x hx]
  rw [e, List.length_filter_lt_length_iff_exists]
  exact ⟨i, List.mem_filter.2 ⟨List.mem_range.2 hi, h2⟩, by rw [h3]; simp⟩
section
variable {F : Fence} {n : Nat} {P : Program} {ops : Array Oper} {Q : Exit → Act → World → Prop} {L : Nat} {cs : List Nat} {aF : Act} {W : Nat → World}
theorem rinv_eval (hr : RegOk ops L cs) {listed : Array Bool} {a : Act} {w : World} (h : RInv ops L cs aF W listed a w) {i : Nat} {o : Oper} (hi : i ≤ L) (ho : ops[i]? = some o) (hw : ∀ j, waitsB ops i j = true → isL listed j) : execOp a.eval o = execOp aF.eval o := by
  obtain ⟨o', ho', _, hs, _⟩ := hr.op i hi
  rw [ho] at ho'; cases ho'
  refine execOp_congr o hs fun x hx => ?_
  cases x with
  | tmp s =>
    have := h.sl s fun j hj hd => hw j (hr.opn i o s j hi ho hx hj hd)
    show a.tmps.getD s undef = aF.tmps.getD s undef
    rw [Array.getD_eq_getD_getElem?, Array.getD_eq_getD_getElem?, this]
  | const v => rfl
  | global g => rfl
  | func f => rfl
theorem rinv_put {listed : Array Bool} {a : Act} {w w' : World} (h : RInv ops L cs aF W listed a w) {i : Nat} {o : Oper} (hi : i < L) (ho : ops[i]? = some o) (hw : ∀ j, waitsB ops i j = true → isL listed j) {d : Nat} {v : Value} (hd : o.dst = some d) (hv : aF.tmps[d]? = some v)
    (hph : ∃ p, p ≤ cs.length ∧ w' = W p ∧ ∀ k, k < cs.length → ((cs.getD k 0 = i ∨ isL listed (cs.getD k 0)) ↔ k < p)) : RInv ops L cs aF W (listed.setIfInBounds i true) (a.put o.dst v) w' := by
  have hil : i < listed.size := by rw [h.sz]; omega
  have hdi : dstI ops i = some d := by unfold dstI; rw [ho]; exact hd
  rw [hd]
  refine ⟨by rw [Array.size_setIfInBounds]; exact h.sz, fun j k hj hk => ?_, h.df, by show (a.tmps.setIfInBounds d v).size = _; rw [Array.size_setIfInBounds]; exact h.ts, fun s hs => ?_, ?_⟩
  · rw [isL_set hil] at hj ⊢
    rcases hj with rfl | hj
    · exact .inr (hw k hk)
    · exact .inr (h.cl j k hj hk)
  · show (a.tmps.setIfInBounds d v)[s]? = _
    rw [Array.getElem?_setIfInBounds]
    by_cases e : d = s
    · subst e
      rw [if_pos rfl, h.ts, hv, if_pos (Array.getElem?_eq_some_iff.1 hv).1]
    · rw [if_neg e]
      refine h.sl s fun j hj hdj => ?_
      have := hs j hj hdj
      rw [isL_set hil] at this
      rcases this with rfl | this
      · rw [hdi] at hdj; injection hdj with hdj; exact absurd hdj e
      · exact this
  · obtain ⟨p, h1, h2, h3⟩ := hph
    exact ⟨p, h1, h2, fun k hk => by rw [isL_set hil]; exact h3 k hk⟩
theorem getD_nodup {cs : List Nat} (h : cs.Nodup) {j k : Nat} (hj : j < cs.length) (hk : k < cs.length) (e : cs.getD j 0 = cs.getD k 0) : j = k := by
  simp only [List.getD, List.getElem?_eq_getElem hj, List.getElem?_eq_getElem hk, Option.getD_some] at e
  exact (List.getElem_inj h).1 e
theorem region_main (hr : RegOk ops L cs) (hF : ∀ f, F.fn f)
    (hrd : ∀ i o, i < L → i ∉ cs → ops[i]? = some o → ∃ d v, o.dst = some d ∧ aF.tmps[d]? = some v ∧ ∀ p, p ≤ cs.length → (execOp aF.eval o).run P (W p) = .ok (.value v) (W p))
    (hch : ∀ k o, k < cs.length → ops[cs.getD k 0]? = some o → ∃ d v, o.dst = some d ∧ aF.tmps[d]? = some v ∧ (execOp aF.eval o).run P (W k) = .ok (.value v) (W (k + 1)))
    (hla : ∀ o, ops[L]? = some o → o.wpIn F n P aF (W cs.length) (fun a w => Q .normal a w) Q) : ∀ (fuel : Nat) (listed : Array Bool) (a : Act) (w : World), RInv ops L cs aF W listed a w → ¬ isL listed L → ((List.range (L + 1)).filter fun i => !listed.getD i true).length ≤ fuel →
    wpAnyIn F n P .any ops Q fuel listed a w
  | 0, listed, a, w, h, hL, hc => by
    have : L ∈ ((List.range (L + 1)).filter fun i => !listed.getD i true) := by
      rw [List.mem_filter, List.mem_range]
      exact ⟨by omega, not_isL (by rw [h.sz]; omega) hL⟩
    have := List.length_pos_of_mem this
    omega
  | fuel + 1, listed, a, w, h, hL, hc => by
    have hss : listed.size = ops.size := by rw [h.sz, hr.size]
    refine ⟨fun hnil => ?_, fun i hi => ?_⟩
    · -- something may always come up
      have key : ∀ i, i ≤ L → isL listed i := by
        intro i
        induction i using Nat.strongRecOn with
        | _ i ih =>
          intro hi
          refine Classical.byContradiction fun hn => ?_
          have hm : i ∈ Region.ready .any ops listed := (ready_iff hss).2 ⟨by rw [hr.size]; omega, hn, fun j hj => ih j (hr.dn i j hi hj) (by have := hr.dn i j hi hj; omega)⟩
          rw [hnil] at hm; cases hm
      exact absurd (key L (Nat.le_refl _)) hL
    · obtain ⟨h1, h2, h3⟩ := (ready_iff hss).1 hi
      rw [hr.size] at h1
      obtain ⟨o, ho, hg, hsel, hdf⟩ := hr.op i (by omega)
      have hil : i < listed.size := by rw [h.sz]; exact h1
      have hcnt : ((List.range (L + 1)).filter fun j => !(listed.setIfInBounds i true).getD j true).length ≤ fuel := by
        have : ((List.range (L + 1)).filter fun j => !(listed.setIfInBounds i true).getD j true).length < ((List.range (L + 1)).filter fun j => !listed.getD j true).length := by
          refine cnt_lt (fun j hj => ?_) h1 (?_ : (!listed.getD i true) = true) (?_ : (!(listed.setIfInBounds i true).getD i true) = false)
          · simp only [Array.getD_eq_getD_getElem?, Array.getElem?_setIfInBounds] at hj ⊢
            by_cases e : i = j
            · subst e; simp [hil] at hj
            · rw [if_neg e] at hj; exact hj
          · exact not_isL hil h2
          · simp [Array.getD_eq_getD_getElem?, hil]
        omega
      have hev := rinv_eval hr h (by omega) ho h3
      unfold wpOpIn
      simp only [ho]
      rw [if_pos (by unfold Region.wanted; rw [hg])]
      by_cases hiL : i = L
      · subst hiL
        have hall := all_listed hr h.cl h3
        have haF : a = aF := act_ext h.df h.ts fun s => h.sl s fun j hj _ => hall j hj
        subst haF
        obtain ⟨p, hp1, hp2, hp3⟩ := h.ph
        have hpe : p = cs.length := by
          rcases Nat.lt_or_ge p cs.length with hlt | hge
          · have := (hp3 p hlt).1 (hall _ (hr.cl _ (by simp only [List.getD, List.getElem?_eq_getElem hlt, Option.getD_some]; exact List.getElem_mem hlt)))
            omega
          · omega
        rw [hp2, hpe]
        refine Oper.wpIn_mono (fun a' w' hq => wpAny_done ?_ hq fuel) (hla o ho)
        rw [List.eq_nil_iff_forall_not_mem]
        intro j hj
        obtain ⟨k1, k2, _⟩ := (ready_iff (by rw [Array.size_setIfInBounds, hss])).1 hj
        rw [hr.size] at k1
        rw [isL_set hil] at k2
        refine k2 ?_
        by_cases e : j = i
        · exact .inl e
        · exact .inr (hall j (by omega))
      · have hiL' : i < L := by omega
        unfold Oper.wpIn
        refine ⟨fun f _ => hF f, ?_⟩
        rw [Oper.semAt_eq _ _ _ hdf, hev]
        have hnl : ¬ isL (listed.setIfInBounds i true) L := by
          rw [isL_set hil]; exact fun e => e.elim (fun e => hiL e.symm) hL
        obtain ⟨p, hp1, hp2, hp3⟩ := h.ph
        by_cases hic : i ∈ cs
        · obtain ⟨k, hk, hki⟩ := List.getElem_of_mem hic
          have hkd : cs.getD k 0 = i := by simp only [List.getD, List.getElem?_eq_getElem hk, Option.getD_some]; exact hki
          have hkp : k = p := by
            have h5 : ¬ k < p := fun hlt => h2 (by have := (hp3 k hk).2 hlt; rwa [hkd] at this)
            rcases Nat.lt_or_ge p k with hlt | hge
            · obtain ⟨k', rfl⟩ : ∃ k', k = k' + 1 := ⟨k - 1, by omega⟩
              have := hr.ch k' hk
              rw [hkd] at this
              have := (hp3 k' (by omega)).1 (h3 _ this)
              omega
            · omega
          subst hkp
          obtain ⟨d, v, hd, hv, hrun⟩ := hch k o hk (by rw [hkd]; exact ho)
          rw [hp2, hrun, Oper.uponIn_value]
          refine region_main hr hF hrd hch hla fuel _ _ _ (rinv_put h hiL' ho h3 hd hv ⟨k + 1, by omega, rfl, fun j hj => ?_⟩) hnl hcnt
          constructor
          · rintro (h6 | h6)
            · have := getD_nodup hr.nd hj hk (h6.trans hkd.symm); omega
            · have := (hp3 j hj).1 h6; omega
          · intro h6
            rcases Nat.lt_or_ge j k with h7 | h7
            · exact .inr ((hp3 j hj).2 h7)
            · obtain rfl : j = k := by omega
              exact .inl hkd
        · obtain ⟨d, v, hd, hv, hrun⟩ := hrd i o hiL' hic ho
          rw [hp2, hrun p hp1, Oper.uponIn_value]
          refine region_main hr hF hrd hch hla fuel _ _ _ (rinv_put h hiL' ho h3 hd hv ⟨p, hp1, rfl, fun j hj => ?_⟩) hnl hcnt
          rw [← hp3 j hj]
          refine ⟨fun h6 => h6.elim (fun h6 => ?_) id, .inr⟩
          exact absurd (by rw [← h6]; simp only [List.getD, List.getElem?_eq_getElem hj, Option.getD_some]; exact List.getElem_mem hj) hic
/-- A region whose order is open, of reading operations and a chain that ends it. -/
theorem wpIn_region_chain {id : Nat} {a : Act} {w : World} (hm : P.follows .mixedOrders = true) (hr : RegOk ops L cs) (hF : ∀ f, F.fn f) (hW : W 0 = { w with drawn := w.drawn + 1 }) (hdf : a.defers = aF.defers) (hts : a.tmps.size = aF.tmps.size)
    (hsl : ∀ s, (∀ i, i < L → dstI ops i ≠ some s) → a.tmps[s]? = aF.tmps[s]?)
    (hrd : ∀ i o, i < L → i ∉ cs → ops[i]? = some o → ∃ d v, o.dst = some d ∧ aF.tmps[d]? = some v ∧ ∀ p, p ≤ cs.length → (execOp aF.eval o).run P (W p) = .ok (.value v) (W p))
    (hch : ∀ k o, k < cs.length → ops[cs.getD k 0]? = some o → ∃ d v, o.dst = some d ∧ aF.tmps[d]? = some v ∧ (execOp aF.eval o).run P (W k) = .ok (.value v) (W (k + 1)))
    (hla : ∀ o, ops[L]? = some o → o.wpIn F n P aF (W cs.length) (fun a w => Q .normal a w) Q) : (Code.region id ops true).wpIn F n P Q a w := by
  have hno : ∀ i, ¬ isL (Array.replicate ops.size false) i := fun i h => by
    unfold isL at h
    rw [Array.getElem?_replicate] at h
    split at h <;> simp at h
  refine wpIn_region_any hm (region_main hr hF hrd hch hla ops.size _ a _ ⟨by simp [hr.size], fun i j h _ => absurd h (hno i), hdf, hts, fun s hs => hsl s fun i hi h => hno i (hs i hi h), 0, Nat.zero_le _, hW.symm, fun k _ => ⟨fun h => absurd h (hno _), fun h => by omega⟩⟩ (hno L) ?_)
  refine Nat.le_trans (List.length_filter_le _ _) ?_
  simp [hr.size]
end
end Go.Proofs.Ytceldgcmjmfjfaa

/- Layer 4: spread: a breadth-first search. -/
namespace Go.Proofs.Ytceldgcmjmfjfaa
open Go.RowKit Go.Sort Go.Shelf
attribute [local go_sem] Oper.semAt_some

/-- All but one block lies as it lay. -/
structure KpO (w w' : World) (bs : Nat) : Prop where
  os : w'.os = w.os
  tape : w'.tape = w.tape
  output : w'.output = w.output
  size : w.heap.size ≤ w'.heap.size
  block : ∀ k, k < w.heap.size → k ≠ bs → w'.heap[k]? = w.heap[k]?
theorem KpO.cell {w w' : World} {bs b o : Nat} (h : KpO w w' bs) (hb : b < w.heap.size) (hn : b ≠ bs) : w'.cell? ⟨b, o, none⟩ = w.cell? ⟨b, o, none⟩ := World.cell?_of_block (h.block b hb hn)
/-- Cells that hold a graph, not in the block of the flags. -/
def GrZ (w : World) (bs bg S : Nat) (es : List Ed) : Prop := (bg < w.heap.size ∧ bg ≠ bs) ∧ ∀ q : Nat, q < S → ∃ A c, w.cell? ⟨bg, q, none⟩ = some (.slice A (succ es (q : Int)).length c) ∧
  (0 < (succ es (q : Int)).length → ∃ b off, A = some ⟨b, off, none⟩ ∧ (b < w.heap.size ∧ b ≠ bs) ∧ ∀ j x, (succ es (q : Int))[j]? = some x → EdAt w b (off + j * 3) x)
def RdZ (w : World) (bs : Nat) (A : Option Addr) (zs : List Int) : Prop :=
  0 < zs.length → ∃ b off, A = some ⟨b, off, none⟩ ∧ (b < w.heap.size ∧ b ≠ bs) ∧ ∀ j, j < zs.length → w.cell? ⟨b, off + j, none⟩ = some (.int .i64 (zs.getD j 0))
/-- Marks of loops over functions that have run. -/
def mks (Ds : List Nat) : List Deferred := Ds.map fun D => { target := .collected D, args := #[] }
structure MkOk (B : Nat) (W : World) (Ds : List Nat) : Prop where
  nd : Ds.Nodup
  ok : ∀ D ∈ Ds, B ≤ D ∧ W.heap[D]? = some (.deferred (some []))
theorem MkOk.keeps {B : Nat} {W W' : World} {Ds : List Nat} (h : MkOk B W Ds) (hk : KeepsOthers W W') : MkOk B W' Ds := ⟨h.nd, fun D hD => ⟨(h.ok D hD).1, hk.same D _ (h.ok D hD).2 rfl⟩⟩
/-- What the search keeps between its rounds. -/
structure Sq (w0 wr : World) (bs : Nat) (B : Nat → Bool) (v : Value) (V : List Vi) : Prop where
  kp : KpO w0 wr bs
  sv : Sv wr w0.heap.size bs (w0.heap.size + 1) w0.heap.size B v V
  fb : Row wr (w0.heap.size + 1 + 1) 111 [.func (.func 79) #[] #[.pointer (some ⟨w0.heap.size, 0, none⟩), .pointer (some ⟨w0.heap.size + 1, 0, none⟩)]]
theorem Sq.find {w0 wr w' : World} {bs : Nat} {B : Nat → Bool} {v v' : Value} {V V' : List Vi} (h : Sq w0 wr bs B v V) (hs : Sv w' w0.heap.size bs (w0.heap.size + 1) w0.heap.size B v' V') (hk : KpS wr w' bs (w0.heap.size + 1) v) : Sq w0 w' bs B v' V' := by
  have hz := h.kp.size
  refine ⟨⟨hk.os.trans h.kp.os, hk.tape.trans h.kp.tape, hk.output.trans h.kp.output, Nat.le_trans hz hk.size, fun k hk1 hk2 => (hk.block k (by omega) hk2 (by omega) (fun e => by have := (h.sv.ow.lt k e.symm).1; omega)).trans (h.kp.block k hk1 hk2)⟩, hs, ?_⟩
  exact (hk.block _ h.fb.lt (rows_neG h.fb h.sv.sn (by decide)) (by omega) (fun e => row_ne_own h.fb h.sv.ow (by decide) e.symm)).trans h.fb
theorem Sq.below {w0 wr w' : World} {bs : Nat} {B : Nat → Bool} {v : Value} {V : List Vi} (h : Sq w0 wr bs B v V) (hb : Below wr.heap.size wr w') : Sq w0 w' bs B v V :=
  ⟨⟨hb.os.trans h.kp.os, hb.tape.trans h.kp.tape, hb.output.trans h.kp.output, Nat.le_trans h.kp.size hb.size, fun k hk1 hk2 => (hb.block k (Nat.lt_of_lt_of_le hk1 h.kp.size)).trans (h.kp.block k hk1 hk2)⟩,
   ⟨h.sv.pb.below hb h.sv.pb.lt, h.sv.sn.below hb h.sv.sn.lt, h.sv.qb.below hb h.sv.qb.lt, own_below h.sv.ow hb⟩, h.fb.below hb h.fb.lt⟩
theorem seenF_nil (B : Nat → Bool) : seenF B [] = B := by funext q; simp [seenF, sts]
theorem sq_start (w : World) (bs : Nat) (B : Nat → Bool) (hbs : Row w bs 76 (flV B)) (W : World) (hW : W = ((w.alloc (.cells #[.pointer (some ⟨bs, 0, none⟩)] 83)).alloc (.cells #[.slice none 0 0] 77)).alloc (.cells #[.func (.func 79) #[] #[.pointer (some ⟨w.heap.size, 0, none⟩), .pointer (some ⟨w.heap.size + 1, 0, none⟩)]] 111)) : Sq w W bs B (.slice none 0 0) [] := by
  subst hW
  have hb : Below w.heap.size w (((w.alloc (.cells #[.pointer (some ⟨bs, 0, none⟩)] 83)).alloc (.cells #[.slice none 0 0] 77)).alloc (.cells #[.func (.func 79) #[] #[.pointer (some ⟨w.heap.size, 0, none⟩), .pointer (some ⟨w.heap.size + 1, 0, none⟩)]] 111)) := (((Below.refl _ w).alloc (Nat.le_refl _) _).alloc (by simp) _).alloc (by simp; omega) _
  refine ⟨⟨hb.os, hb.tape, hb.output, hb.size, fun k hk _ => hb.block k hk⟩, ⟨((Row.new w _ 83).alloc _).alloc _, ?_, ?_, World.ownsRow_nil _ _ _ _⟩, ?_⟩
  · rw [seenF_nil]; exact hbs.below hb hbs.lt
  · have := (Row.new (w.alloc (.cells #[.pointer (some ⟨bs, 0, none⟩)] 83)) [.slice none 0 0] 77).alloc (.cells #[.func (.func 79) #[] #[.pointer (some ⟨w.heap.size, 0, none⟩), .pointer (some ⟨w.heap.size + 1, 0, none⟩)]] 111)
    simp only [World.size_alloc] at this
    exact this
  · have := Row.new ((w.alloc (.cells #[.pointer (some ⟨bs, 0, none⟩)] 83)).alloc (.cells #[.slice none 0 0] 77)) [.func (.func 79) #[] #[.pointer (some ⟨w.heap.size, 0, none⟩), .pointer (some ⟨w.heap.size + 1, 0, none⟩)]] 111
    simp only [World.size_alloc] at this
    exact this
theorem frV_take {B : Nat → Bool} {fr : List Int} {k : Nat} (h : k < fr.length) : frV B (fr.take (k + 1)) = fndV B (frV B (fr.take k)) (viI (fr.getD k 0)) := by
  have e : fr.getD k 0 = fr[k] := by simp [List.getD, List.getElem?_eq_getElem h]
  rw [List.take_succ_eq_append_getElem h, frV_snoc, e]
/-- Two lists of slots agree but at some. -/
def agr (D : List Nat) : Nat → List Value → List Value → Prop
  | _, [], [] => True
  | k, x :: xs, y :: ys => (k ∈ D ∨ x = y) ∧ agr D (k + 1) xs ys
  | _, _, _ => False
theorem agr_at {D : List Nat} : ∀ (xs ys : List Value) (k s : Nat), agr D k xs ys → k + s ∉ D → xs[s]? = ys[s]?
  | [], [], _, _, _, _ => rfl
  | x :: xs, y :: ys, k, 0, h, hs => by
    rcases h.1 with h1 | h1
    · exact absurd h1 (by simpa using hs)
    · simp [h1]
  | x :: xs, y :: ys, k, s + 1, h, hs => by
    simp only [List.getElem?_cons_succ]
    exact agr_at xs ys (k + 1) s h.2 (by rw [show k + 1 + s = k + (s + 1) by omega]; exact hs)
  | [], _ :: _, _, _, h, _ => h.elim
  | _ :: _, [], _, _, h, _ => h.elim
theorem sl_of {ops : Array Oper} {L : Nat} {D : List Nat} {xs ys : List Value} (hD : ∀ d ∈ D, ∃ i, i < L ∧ dstI ops i = some d) (h : agr D 0 xs ys) : ∀ s : Nat, (∀ i, i < L → dstI ops i ≠ some s) → xs.toArray[s]? = ys.toArray[s]? := fun s hs => by
  have hn : s ∉ D := fun hd => by obtain ⟨i, hi, e⟩ := hD s hd; exact hs i hi e
  simp only [List.getElem?_toArray]
  exact agr_at xs ys 0 s h (by rw [Nat.zero_add]; exact hn)
def dstB (ops : Array Oper) (L : Nat) (D : List Nat) : Bool := D.all fun d => (List.range L).any fun i => dstI ops i == some d
theorem dst_of {ops : Array Oper} {L : Nat} {D : List Nat} (h : dstB ops L D = true) : ∀ d ∈ D, ∃ i, i < L ∧ dstI ops i = some d := fun d hd => by
  unfold dstB at h
  simp only [List.all_eq_true, List.any_eq_true, List.mem_range, beq_iff_eq] at h
  obtain ⟨i, hi, e⟩ := h d hd
  exact ⟨i, hi, e⟩
def cellOf (w : World) : Value → Value
  | .pointer (some p) => (w.cell? p).getD undef
  | _ => undef
theorem Row.nonc {X : World} {b : Nat} {e : TypeId} {c : List Value} {row : Option Nat} (h : Row X b e c) (hr : ∀ r, row = some r → ∃ o : Obj, X.heap[r]? = some o ∧ o.isCells = false) : row ≠ some b := fun e' => by
  obtain ⟨o, ho, hc⟩ := hr b e'
  rw [show X.heap[b]? = _ from h] at ho; cases ho; cases hc
theorem own_nonc {X : World} {base sz n : Nat} {e : TypeId} {v : Value} {xs : List Value} {row : Option Nat} (h : X.ownsRow base e sz v n xs) (hr : ∀ r, row = some r → ∃ o : Obj, X.heap[r]? = some o ∧ o.isCells = false) : v.ownBlock = none ∨ v.ownBlock ≠ row := by
  rcases h.2 with ⟨rfl, _⟩ | ⟨g, cap, cur, rfl, _, hgb, _⟩
  · exact .inl rfl
  · refine .inr fun e' => ?_
    obtain ⟨o, ho, hc⟩ := hr g (by rw [← e']; rfl)
    rw [hgb] at ho; cases ho; cases hc
theorem Sq.grown {w0 X Y : World} {bs : Nat} {B : Nat → Bool} {v : Value} {V : List Vi} {row : Option Nat} {B0 : Nat} (h : Sq w0 X bs B v V) (hg : X.grownBy Y row) (hB : w0.heap.size ≤ B0) (hr : ∀ r, row = some r → B0 ≤ r ∧ ∃ o : Obj, X.heap[r]? = some o ∧ o.isCells = false) : Sq w0 Y bs B v V := by
  have hr' : ∀ r, row = some r → ∃ o : Obj, X.heap[r]? = some o ∧ o.isCells = false := fun r e => (hr r e).2
  refine ⟨⟨hg.os.trans h.kp.os, hg.tape.trans h.kp.tape, hg.output.trans h.kp.output, Nat.le_trans h.kp.size hg.size, fun k hk1 hk2 => (hg.block k (Nat.lt_of_lt_of_le hk1 h.kp.size) (fun e => by have := (hr k e.symm).1; omega)).trans (h.kp.block k hk1 hk2)⟩, ⟨h.sv.pb.grown hg (h.sv.pb.nonc hr'), h.sv.sn.grown hg (h.sv.sn.nonc hr'), h.sv.qb.grown hg (h.sv.qb.nonc hr'), World.ownsRow.kept h.sv.ow hg (own_nonc h.sv.ow hr')⟩, h.fb.grown hg (h.fb.nonc hr')⟩
theorem MkOk.grown {B : Nat} {X Y : World} {Ds : List Nat} {row : Option Nat} {B0 : Nat} (h : MkOk B X Ds) (hg : X.grownBy Y row) (hD : ∀ D ∈ Ds, D < B0) (hr : ∀ r, row = some r → B0 ≤ r ∧ ∃ o : Obj, X.heap[r]? = some o ∧ o.isCells = false) : MkOk B Y Ds :=
  ⟨h.nd, fun D hD' => ⟨(h.ok D hD').1, (hg.block D (Array.getElem?_eq_some_iff.1 (h.ok D hD').2).1 (fun e => by have := (hr D e.symm).1; have := hD D hD'; omega)).trans (h.ok D hD').2⟩⟩
/-- What a round over the edges keeps. -/
def EI (w : World) (bs : Nat) (B : Nat → Bool) (i g : Nat) (p : Vi) (V0 : List Vi) (Ds : List Nat) (S : Nat) (pre : List (EdT S)) (W : World) : Prop :=
  ∃ (v : Value), Sq w W bs B v (edsV B i p V0 (pre.map (·.1))) ∧ Row W g 3 [.int .i64 (i : Int)] ∧ MkOk w.heap.size W Ds
theorem ei_own {w : World} {bs : Nat} {B : Nat → Bool} {i g : Nat} {p : Vi} {V0 : List Vi} {Ds : List Nat} {S : Nat} {B0 : Nat} (hB : w.heap.size ≤ B0) (hD : ∀ D ∈ Ds, D < B0) : OwnFrom B0 (EI w bs B i g p V0 Ds S) :=
  fun _ _ _ _ ⟨v, h1, h2, h3⟩ hg hr => ⟨v, h1.grown hg hB hr, h2.grown hg (h2.nonc fun r e => (hr r e).2), h3.grown hg hD hr⟩
/-- What the marks leave when they are taken up: cells, and all that lies below B. -/
structure KpM (B : Nat) (w w' : World) : Prop where
  os : w'.os = w.os
  tape : w'.tape = w.tape
  output : w'.output = w.output
  size : w'.heap.size = w.heap.size
  block : ∀ k o, w.heap[k]? = some o → o.isCells = true ∨ k < B → w'.heap[k]? = some o
theorem KpM.trans {B : Nat} {a b c : World} (h : KpM B a b) (k : KpM B b c) : KpM B a c :=
  ⟨k.os.trans h.os, k.tape.trans h.tape, k.output.trans h.output, k.size.trans h.size, fun i o h1 h2 => k.block i o (h.block i o h1 h2) h2⟩
theorem KpM.row {B : Nat} {w w' : World} (h : KpM B w w') {b : Nat} {e : TypeId} {c : List Value} (hr : Row w b e c) : Row w' b e c := h.block b _ hr (.inl rfl)
theorem KpM.own {B : Nat} {w w' : World} (h : KpM B w w') {base sz n : Nat} {e : TypeId} {v : Value} {xs : List Value} (ho : w.ownsRow base e sz v n xs) : w'.ownsRow base e sz v n xs := by
  refine ⟨ho.1, ?_⟩
  rcases ho.2 with hn | ⟨g, cap, cur, rfl, hb, hg, r⟩
  · exact .inl hn
  · exact .inr ⟨g, cap, cur, rfl, hb, h.block g _ hg (.inl rfl), r⟩
theorem KpM.below {B : Nat} {w w' : World} (h : KpM B w w') : Below B w w' :=
  ⟨h.os, h.tape, h.output, Nat.le_of_eq h.size.symm, fun k hk => by
    cases hx : w.heap[k]? with
    | none => rw [Array.getElem?_eq_none_iff] at hx ⊢; rw [h.size]; exact hx
    | some o => exact h.block k o hx (.inr hk)⟩
theorem leaves_marks {F : Fence} {n : Nat} {P : Program} {fn : Func} {tmps : Array Value} {R : Ending → World → Prop} {B : Nat} : ∀ (Ds : List Nat) (w : World), MkOk B w Ds → (∀ w', KpM B w w' → LeavesInM F n P fn tmps R [] .returning w') → LeavesInM F n P fn tmps R (mks Ds) .returning w
  | [], w, _, h => h w ⟨rfl, rfl, rfl, rfl, fun _ _ h _ => h⟩
  | D :: Ds, w, hm, h => by
    have hD := hm.ok D (List.mem_cons_self ..)
    have hnd := List.nodup_cons.1 hm.nd
    refine ⟨by simp, .inl ⟨D, _, rfl, run_takeDeferred hD.2, leaves_marks Ds _ ⟨hnd.2, fun E hE => ⟨(hm.ok E (List.mem_cons_of_mem _ hE)).1, ?_⟩⟩ fun w' hk => h w' (KpM.trans ?_ hk)⟩⟩
    · rw [World.putObj_heap_other (by intro e; subst e; exact hnd.1 hE)]
      exact (hm.ok E (List.mem_cons_of_mem _ hE)).2
    · have hg := grownBy_putObj' w D (.deferred none)
      refine ⟨hg.os, hg.tape, hg.output, by simp, fun k o hkk ho => ?_⟩
      rw [hg.block k (Array.getElem?_eq_some_iff.1 hkk).1 (fun e => ?_)]
      · exact hkk
      · injection e with e
        subst e
        rw [hD.2] at hkk
        cases hkk
        rcases ho with ho | ho
        · cases ho
        · have := hD.1; omega
set_option maxHeartbeats 8000000 in
set_option maxRecDepth 100000 in
theorem qSpread_any (bg S : Nat) (es : List Ed) (A2 : Option Addr) (n2 c2 bs : Nat) (fr : List Int) (B : Nat → Bool) (w : World) (hg : GrZ w bs bg S es) (he : EdOk S es) (hS : S ≤ 4096) (hel : es.length ≤ 1000000) (hx : RdZ w bs A2 fr) (hn : fr.length = n2) (hnb : n2 ≤ 1000000) (hf : ∀ q ∈ fr, 0 ≤ q ∧ q < (S : Int)) (hbs : Row w bs 76 (flV B)) :
    Calls Try.prog 45 #[.slice (some ⟨bg, 0, none⟩) S S, .slice A2 n2 c2, .pointer (some ⟨bs, 0, none⟩)] w fun e w' => ∃ v, e = .returned v ∧ OwnV w' w.heap.size v (spV B S es fr) ∧ Row w' bs 76 (flV (seenF B (spV B S es fr))) ∧ KpO w w' bs := by
  refine (callsIn_wide (n := 3)).1 (callsIn_of_wp_marks Try.func45 rfl trivial (wpIn_wide.2 ?_) rfl)
  simp only [Try.ntmps45, List.size_toArray, List.length_cons, List.length_nil, Nat.reduceAdd, Nat.reduceSub, Array.replicate_succ, Array.replicate_zero, List.push_toArray, List.append_toArray, List.nil_append, List.cons_append]
  obtain ⟨W0, hW0⟩ : ∃ W, W = ((w.alloc (.cells #[.pointer (some ⟨bs, 0, none⟩)] 83)).alloc (.cells #[.slice none 0 0] 77)).alloc (.cells #[.func (.func 79) #[] #[.pointer (some ⟨w.heap.size, 0, none⟩), .pointer (some ⟨w.heap.size + 1, 0, none⟩)]] 111) := ⟨_, rfl⟩
  have HQ0 := Lib.hid (sq_start w bs B hbs W0 hW0)
  have HG := Lib.hid hg
  have HE := Lib.hid he
  have HX := Lib.hid hx
  have HN := Lib.hid hn
  have HF := Lib.hid hf
  have HW0 := Lib.hid hW0
  have HEL := Lib.hid hel
  clear hg he hx hn hf hbs hW0 hel
  go_wp2_with fail
  rw [← HW0.out]
  go_loopw [10, 16] (fun _ iv wr => ∃ (k : Nat) (v : Value), k ≤ n2 ∧ iv = .int .i64 k ∧ Hid (Sq w wr bs B v (frV B (fr.take k)))) (fun _ iv _ => n2 - (intOf iv).toNat)
  case atStart => exact ⟨0, _, Nat.zero_le _, rfl, HQ0⟩
  case round =>
    clear HQ0 HW0
    obtain ⟨k, v, hk, rfl, hsq⟩ := hrel
    have c8 := hsq.out.fb.cell 0 rfl
    by_cases hlt : k < n2
    · obtain ⟨b, o, rfl, ⟨hb, hbn⟩, hc⟩ := HX.out (by rw [HN.out]; omega)
      have hz : k < fr.length := by rw [HN.out]; exact hlt
      have hc1 := (hsq.out.kp.cell (o := o + k) hb hbn).trans (hc k hz)
      have hfr := HF.out _ (getD_mem hz)
      obtain ⟨q, hq⟩ : ∃ q : Nat, fr.getD k 0 = (q : Int) := ⟨(fr.getD k 0).toNat, by omega⟩
      rw [hq] at hc1 hfr
      have hnx := frV_take (B := B) hz
      rw [hq] at hnx
      have HNX := Lib.hid hnx
      have hqS : q < 4096 := by omega
      have hVl : (frV B (fr.take k)).length ≤ 4096 := by
        have := (frV_ok (B := B) (S := S) (fr := fr.take k) fun q hq => HF.out q (List.mem_of_mem_take hq)).len
        omega
      have z0 : (k : Int) < (n2 : Int) := by omega
      have z1 : (0 : Int) ≤ (k : Int) := by omega
      clear hc hz hq hnx hfr
      go_wp2_with fail
      refine (qFind_any _ bs _ _ q B v _ (q : Int) 0 0 (-1) wr hsq.out.sv rfl hqS hVl hsq.out.kp.size).mono ?_
      rintro e w5 ⟨rfl, v', hs', hk'⟩
      have hsq' := Lib.hid (hsq.out.find hs' hk')
      clear hs' hk'
      go_wp2_with fail
      go_roundw
      case rel => exact ⟨k + 1, v', by omega, by go_num, by rw [HNX.out]; exact hsq'⟩
      case measure => simp [intOf]; omega
    · have hF0 : fr.take k = fr := List.take_of_length_le (by rw [HN.out]; omega)
      rw [hF0] at hsq
      clear hF0
      have HBR := Lib.hid (Row.new wr [.int .i64 0] 3)
      have HSQ1 := Lib.hid (hsq.out.below ((Below.refl wr.heap.size wr).alloc (Nat.le_refl _) (.cells #[.int .i64 0] 3)))
      have hge := hsq.out.kp.size
      obtain ⟨g0, hg0⟩ : ∃ g, g = wr.heap.size := ⟨_, rfl⟩
      obtain ⟨W1, hW1⟩ : ∃ W, W = wr.alloc (.cells #[.int .i64 0] 3) := ⟨_, rfl⟩
      rw [← hg0] at hge
      have HBR1 := Lib.hid (show Row W1 g0 3 [.int .i64 ((0 : Nat) : Int)] from by rw [hW1, hg0]; exact HBR.out)
      have HSQ := Lib.hid (show Sq w W1 bs B v (frV B fr) from by rw [hW1]; exact HSQ1.out)
      have HG0 := Lib.hid hg0
      have HW1 := Lib.hid hW1
      clear HBR HSQ1 hg0 hW1 hsq
      go_wp2_with fail
      rw [← HW1.out, ← HG0.out]
      refine wp_loop (fun a' wr' => ∃ (i g : Nat) (v : Value) (V : List Vi) (Ds : List Nat) (y25 y26 y27 y28 y29 y30 y31 y32 y33 y34 y35 y36 y37 y53 : Value), i ≤ V.length ∧ Hid (Sq w wr' bs B v V) ∧ Hid (V = spN B es fr i) ∧ Hid (Row wr' g 3 [.int .i64 (i : Int)]) ∧ Hid (w.heap.size ≤ g) ∧ Hid (MkOk w.heap.size wr' Ds) ∧ a' = { tmps := List.toArray ((Value.slice (some ⟨bg, 0, none⟩) S S) :: (Value.slice A2 n2 c2) :: (.pointer (some ⟨bs, 0, none⟩)) :: undef :: undef :: (.pointer (some ⟨w.heap.size, 0, none⟩)) :: (.slice none 0 0) :: (.pointer (some ⟨w.heap.size + 1, 0, none⟩)) :: (.pointer (some ⟨w.heap.size + 1 + 1, 0, none⟩)) :: undef :: u10 :: (.pointer (some ⟨g, 0, none⟩)) :: undef :: (.func (.func 79) #[] #[.pointer (some ⟨w.heap.size, 0, none⟩), .pointer (some ⟨w.heap.size + 1, 0, none⟩)]) :: (.slice A2 n2 c2) :: (.int .i64 (n2 : Int)) :: (.int .i64 (k : Int)) :: (.bool false) :: u18 :: u19 :: u20 :: u21 :: u22 :: u23 :: u24 :: y25 :: y26 :: y27 :: y28 :: y29 :: y30 :: y31 :: y32 :: y33 :: y34 :: y35 :: y36 :: y37 :: undef :: undef :: undef :: undef :: undef :: undef :: undef :: undef :: undef :: undef :: undef :: undef :: undef :: undef :: undef :: y53 :: undef :: ([] : List Value)), defers := mks Ds }) (fun a' wr' => S - (intOf (cellOf wr' (a'.tmps.getD 11 undef))).toNat) ?start ?round
      case start => exact ⟨0, g0, v, frV B fr, [], undef, undef, undef, undef, undef, undef, undef, undef, undef, undef, undef, undef, undef, undef, Nat.zero_le _, HSQ, Lib.hid rfl, HBR1, Lib.hid hge, Lib.hid ⟨List.nodup_nil, fun D hD => by cases hD⟩, rfl⟩
      case round =>
        clear HSQ HBR1 HG0 HW1 hge
        rintro a' wr' ⟨i, g, v, V, Ds, y25, y26, y27, y28, y29, y30, y31, y32, y33, y34, y35, y36, y37, y53, hi, hsq, hV, hrow, hgb, hmk, rfl⟩
        obtain ⟨Av, cv, rfl, hRd, _, _⟩ := ownV_rd hsq.out.sv.ow
        have cq := hsq.out.sv.qb.cell 0 rfl
        have ci := hrow.out.cell 0 rfl
        obtain ⟨l, hl⟩ : ∃ l, l = V.length := ⟨_, rfl⟩
        have hok := spN_ok (B := B) (fr := fr) HE.out HF.out i
        have hlS := hok.len
        rw [← hV.out, ← hl] at hlS
        rw [← hl] at hi cq
        have HL := Lib.hid hl
        have HRd := Lib.hid hRd
        have HOK := Lib.hid hok
        clear hl hRd hok
        by_cases hlt2 : i < l
        · obtain ⟨b, o, rfl, hb, hc⟩ := HRd.out (by rw [← HL.out]; omega)
          obtain ⟨p, hp⟩ : ∃ p, V[i]? = some p := ⟨_, List.getElem?_eq_getElem (by rw [← HL.out]; exact hlt2)⟩
          obtain ⟨p0, p1, p2, p3⟩ := hc i p hp
          have HP := Lib.hid hp
          have hrg := HOK.out.rg p (by rw [← hV.out]; exact List.mem_of_getElem? hp)
          obtain ⟨q, hq⟩ : ∃ q : Nat, p.s = (q : Int) := ⟨p.s.toNat, by omega⟩
          obtain ⟨D0, hD0⟩ : ∃ d, d = p.d := ⟨_, rfl⟩
          rw [hq] at p0 hrg
          rw [← hD0] at p1
          have HQ := Lib.hid hq
          have HD0 := Lib.hid hD0
          have z0 : (0 : Int) ≤ (i : Int) := by omega
          have z1 : (i : Int) < (l : Int) := by omega
          clear hc hp hq hD0
          obtain ⟨Ae, ce, cg, hre⟩ := HG.out.2 q (by omega)
          obtain ⟨DL, hDL⟩ : ∃ D, D = (succ es (q : Int)).length := ⟨_, rfl⟩
          have hDb : DL ≤ 1000000 := by rw [hDL]; exact Nat.le_trans (List.length_filter_le _ _) HEL.out
          rw [← hDL] at cg
          have HDL := Lib.hid hDL
          have HRE := Lib.hid hre
          have hqS : q < S := by omega
          have hd0 := spN_d (B := B) (es := es) (fr := fr) i p (by rw [← hV.out]; exact List.mem_of_getElem? HP.out)
          rw [← HD0.out] at hd0
          have hkz := hsq.out.kp.size
          clear hDL hre
          go_wp2_with fail
          refine (qEdges_any S bg (q : Int) wr').mono ?_
          rintro e5 w5 ⟨rfl, hw5⟩
          obtain ⟨E1, hE1⟩ : ∃ g, g = wr'.heap.size := ⟨_, rfl⟩
          have hbw5 : Below wr'.heap.size wr' w5 := by rw [hw5]; exact ((Below.refl _ wr').alloc (Nat.le_refl _) _).alloc (by simp) _
          have hs5 : w5.heap.size = E1 + 2 := by rw [hw5, hE1]; simp
          have hc51 : w5.cell? ⟨E1, 0, none⟩ = some (.slice (some ⟨bg, 0, none⟩) S S) := by
            rw [hw5, hE1]; exact ((Row.new wr' [.slice (some ⟨bg, 0, none⟩) S S] 79).alloc _).cell 0 rfl
          have hc52 : w5.cell? ⟨E1 + 1, 0, none⟩ = some (.int .i64 (q : Int)) := by
            have := (Row.new (wr'.alloc (.cells #[.slice (some ⟨bg, 0, none⟩) S S] 79)) [.int .i64 (q : Int)] 3).cell 0 rfl
            simp only [World.size_alloc] at this
            rw [hw5, hE1]; exact this
          have hkp5 : KpO w w5 bs := (hsq.out.below hbw5).kp
          have hbgz := HG.out.1
          have hcg5 : w5.cell? ⟨bg, q, none⟩ = some (.slice Ae DL ce) := (hkp5.cell hbgz.1 hbgz.2).trans cg
          have hDlt : ∀ D ∈ Ds, D < w5.heap.size := fun D hD => by
            have := (Array.getElem?_eq_some_iff.1 (hmk.out.ok D hD).2).1
            omega
          have HEI0 := Lib.hid (show EI w bs B i g p (spN B es fr i) Ds S [] w5 from ⟨_, by have := hsq.out.below hbw5; rwa [hV.out] at this, hrow.out.below hbw5 hrow.out.lt, hmk.out.keeps ⟨hbw5.size, fun k o hk _ => (hbw5.block k (Array.getElem?_eq_some_iff.1 hk).1).trans hk⟩⟩)
          have hsx : ∀ x ∈ succ es (q : Int), 0 ≤ x.t ∧ x.t < (S : Int) := fun x hx => (HE.out x (mem_succ.1 hx).1).2
          have HSX := Lib.hid hsx
          have HST := Lib.hid (qEdges_stops Fence.wide (3 - 1) trivial rfl (by omega) E1 (E1 + 1) S bg q DL ce Ae (edT S (succ es (q : Int)) HSX.out) (fun k => k < w.heap.size ∧ k ≠ bs) w5 (fun k hk => by omega) hqS ((edT_len HSX.out).trans HDL.out.symm) hDb (by omega) (by omega) (by omega) hc51 hc52 hcg5 (fun h => by
            obtain ⟨b, off, e, hz, hc⟩ := HRE.out (by rw [edT_len] at h; exact h)
            exact ⟨b, off, e, hz, fun j x hj => (hc j x.1 (edT_at HSX.out hj)).keep fun o => hkp5.cell hz.1 hz.2⟩))
          have HE1 := Lib.hid hE1
          have HB5 := Lib.hid hbw5
          have hw5s : w.heap.size ≤ w5.heap.size := by omega
          rw [← hE1]
          clear hw5 hbw5 hc51 hc52 hcg5 hkp5 cg hE1 hsx p0 p1 p2 p3 cq ci
          go_wp2_with fail
          refine (wpIn_wide (n := 3)).1 (wpIn_rangeFunc_ownH (α := EdT S) rfl (by omega) (gf := 100) (lb := #[.pointer (some ⟨E1, 0, none⟩), .pointer (some ⟨E1 + 1, 0, none⟩)]) rfl trivial (enters_of Try.func100 (by kernel_rfl) rfl)
            (encs := fun x => #[edL x.1]) (Kp := KpZ (fun k => k < w.heap.size ∧ k ≠ bs)) HST.out KpZ.trans (fun W l _ o' hl _ _ _ => KpZ.putObj W o' hl fun k hk => by omega) (Below.refl _ _) (fun _ => rfl)
            (EI w bs B i g p (spN B es fr i) Ds S) (fun _ _ _ => False) (ei_own hw5s hDlt) (fun _ _ _ _ _ hs _ _ => hs) HEI0.out
            (fun x a' W => ∃ Bx, Row W Bx 70 [.int .i64 x.1.f, .int .i64 x.1.e, .int .i64 x.1.t] ∧ a' = { tmps := List.toArray ((Value.slice (some ⟨bg, 0, none⟩) S S) :: (Value.slice A2 n2 c2) :: (.pointer (some ⟨bs, 0, none⟩)) :: undef :: undef :: (.pointer (some ⟨w.heap.size, 0, none⟩)) :: (.slice none 0 0) :: (.pointer (some ⟨w.heap.size + 1, 0, none⟩)) :: (.pointer (some ⟨w.heap.size + 1 + 1, 0, none⟩)) :: undef :: u10 :: (.pointer (some ⟨g, 0, none⟩)) :: (.pointer (some ⟨Bx, 0, none⟩)) :: (.func (.func 79) #[] #[.pointer (some ⟨w.heap.size, 0, none⟩), .pointer (some ⟨w.heap.size + 1, 0, none⟩)]) :: (.slice A2 n2 c2) :: (.int .i64 (n2 : Int)) :: (.int .i64 (k : Int)) :: (.bool false) :: u18 :: u19 :: u20 :: u21 :: u22 :: u23 :: u24 :: (.int .i64 (i : Int)) :: (.slice (some ⟨b, o, none⟩) l cv) :: (.int .i64 (l : Int)) :: (.bool true) :: y29 :: y30 :: (.slice (some ⟨bg, 0, none⟩) S S) :: (.slice (some ⟨b, o, none⟩) l cv) :: (.int .i64 (i : Int)) :: (.pointer (some ⟨b, o + i * 4, none⟩)) :: (.pointer (some ⟨b, o + i * 4, none⟩)) :: (.int .i64 (q : Int)) :: (.func (.func 100) #[] #[.pointer (some ⟨E1, 0, none⟩), .pointer (some ⟨E1 + 1, 0, none⟩)]) :: (edL x.1) :: undef :: undef :: undef :: undef :: undef :: undef :: undef :: undef :: undef :: undef :: undef :: undef :: undef :: undef :: y53 :: undef :: ([] : List Value)), defers := [] })
            (fun x a' _ X Y row ⟨Bx, h1, h2⟩ hg hr => ⟨Bx, h1.grown hg (h1.nonc fun r e => (hr r e).2), h2⟩) ?assign ?body ?done ?stop)
          case assign =>
            rintro l2 pre x W K hei hK
            have hes : w.heap.size ≤ W.heap.size := by obtain ⟨_, h1, _⟩ := hei; exact h1.kp.size
            have HK := Lib.hid hK
            have HEI := Lib.hid hei
            obtain ⟨⟨xf, xe, xt⟩, hxt⟩ := x
            clear hK hei
            dsimp only [edL]
            gi_wp2
            exact HK.out _ _ ((KeepsOthers.alloc _ _).from _) ((KpZ.refl _ _).alloc (fun k hk => by omega) _) ((ei_own hw5s hDlt).alloc _ HEI.out) ⟨_, Row.new _ _ _, rfl⟩
          case body =>
            rintro l2' pre x a' W hl2' _ ⟨v2, hsq2, hrow2, hmk2⟩ ⟨Bx, hbx, rfl⟩ hpl
            have HH := hsq2
            have hz2 := hsq2.kp.size
            obtain ⟨Aq, cv2, rfl, hRd2, _, _⟩ := ownV_rd hsq2.sv.ow
            have hpi : (edsV B i p (spN B es fr i) (pre.map (·.1)))[i]? = some p := pre_at (edsV_pre _ _ _ _ _) (by rw [← hV.out]; exact HP.out)
            obtain ⟨b2, o2, rfl, hb2, hc2⟩ := hRd2 (by have := (List.getElem?_eq_some_iff.1 hpi).1; omega)
            obtain ⟨_, k1, _, _⟩ := hc2 i p hpi
            rw [← HD0.out] at k1
            have hil2 := (List.getElem?_eq_some_iff.1 hpi).1
            have hok2 := VOk.eds (B := B) (S := S) (i := i) (p := p) (pre.map (·.1)) (V := spN B es fr i) HOK.out fun y hy => by
              obtain ⟨z, _, rfl⟩ := List.mem_map.1 hy
              exact z.2
            have hl2S := hok2.len
            obtain ⟨l2, hl2⟩ : ∃ l, l = (edsV B i p (spN B es fr i) (pre.map (·.1))).length := ⟨_, rfl⟩
            rw [← hl2] at hil2 hl2S
            have HL2 := Lib.hid hl2
            have HSQ2 := Lib.hid hsq2
            have HRW2 := Lib.hid hrow2
            have HMK2 := Lib.hid hmk2
            obtain ⟨⟨xf, xe, xt⟩, hxt⟩ := x
            have HBX := Lib.hid hbx
            dsimp only at hxt HBX
            have m0 := hsq2.fb.cell 0 rfl
            have m1 := hsq2.sv.qb.cell 0 rfl
            have m2 := hrow2.cell 0 rfl
            have m3 := HBX.out.cell 1 rfl
            have m4 := HBX.out.cell 2 rfl
            rw [← hl2] at m1
            have y0 : (0 : Int) ≤ (i : Int) := by omega
            have y1 : (i : Int) < (l2 : Int) := by omega
            have y2 : (0 : Int) ≤ D0 := hd0.1
            have y3 : D0 ≤ 5000 := by omega
            clear hsq2 hrow2 hmk2 hbx hl2 hpi hRd2 hc2 hok2 HH
            gi_wp2
            refine wpIn_region_chain (L := 13) (cs := []) (aF := { tmps := List.toArray ((Value.slice (some ⟨bg, 0, none⟩) S S) :: (Value.slice A2 n2 c2) :: (.pointer (some ⟨bs, 0, none⟩)) :: undef :: undef :: (.pointer (some ⟨w.heap.size, 0, none⟩)) :: (.slice none 0 0) :: (.pointer (some ⟨w.heap.size + 1, 0, none⟩)) :: (.pointer (some ⟨w.heap.size + 1 + 1, 0, none⟩)) :: undef :: u10 :: (.pointer (some ⟨g, 0, none⟩)) :: (.pointer (some ⟨Bx, 0, none⟩)) :: (.func (.func 79) #[] #[.pointer (some ⟨w.heap.size, 0, none⟩), .pointer (some ⟨w.heap.size + 1, 0, none⟩)]) :: (.slice A2 n2 c2) :: (.int .i64 (n2 : Int)) :: (.int .i64 (k : Int)) :: (.bool false) :: u18 :: u19 :: u20 :: u21 :: u22 :: u23 :: u24 :: (.int .i64 (i : Int)) :: (.slice (some ⟨b, o, none⟩) l cv) :: (.int .i64 (l : Int)) :: (.bool true) :: y29 :: y30 :: (.slice (some ⟨bg, 0, none⟩) S S) :: (.slice (some ⟨b, o, none⟩) l cv) :: (.int .i64 (i : Int)) :: (.pointer (some ⟨b, o + i * 4, none⟩)) :: (.pointer (some ⟨b, o + i * 4, none⟩)) :: (.int .i64 (q : Int)) :: (.func (.func 100) #[] #[.pointer (some ⟨E1, 0, none⟩), .pointer (some ⟨E1 + 1, 0, none⟩)]) :: (.agg #[.int .i64 xf, .int .i64 xe, .int .i64 xt]) :: (.func (.func 79) #[] #[.pointer (some ⟨w.heap.size, 0, none⟩), .pointer (some ⟨w.heap.size + 1, 0, none⟩)]) :: (.pointer (some ⟨Bx, 2, none⟩)) :: (.int .i64 xt) :: (.slice (some ⟨b2, o2, none⟩) l2 cv2) :: (.int .i64 (i : Int)) :: (.pointer (some ⟨b2, o2 + i * 4, none⟩)) :: (.pointer (some ⟨b2, o2 + i * 4 + 1, none⟩)) :: (.int .i64 D0) :: (.int .i64 (D0 + 1)) :: (.pointer (some ⟨Bx, 1, none⟩)) :: (.int .i64 xe) :: (.int .i64 (i : Int)) :: (.agg #[.int .i64 xt, .int .i64 (D0 + 1), .int .i64 xe, .int .i64 (i : Int)]) :: undef :: y53 :: undef :: ([] : List Value)), defers := [] }) (W := fun _ => W.drew) (by kernel_rfl) (regOk_of (by kernel_rfl)) (fun _ => trivial) rfl rfl rfl (sl_of (D := [39, 40, 41, 42, 43, 44, 45, 46, 47, 48, 49, 50, 51]) (dst_of (by kernel_rfl)) (by simp [agr, edL])) ?rd (fun k o hk => by simp at hk) ?la
            case rd =>
              intro i' o' hi' _ ho'
              have hi13 : i' = 0 ∨ i' = 1 ∨ i' = 2 ∨ i' = 3 ∨ i' = 4 ∨ i' = 5 ∨ i' = 6 ∨ i' = 7 ∨ i' = 8 ∨ i' = 9 ∨ i' = 10 ∨ i' = 11 ∨ i' = 12 := by omega
              clear hi'
              rcases hi13 with rfl | rfl | rfl | rfl | rfl | rfl | rfl | rfl | rfl | rfl | rfl | rfl | rfl
              all_goals
                injection ho' with ho'
                subst ho'
                refine ⟨_, _, rfl, rfl, fun _ _ => ?_⟩
                go_simp
              exact IntWalk.i64_in _ (by omega)
            case la =>
              intro o' ho'
              injection ho' with ho'
              subst ho'
              have HSD := Lib.hid (HSQ2.out.below ((Below.refl W.heap.size W).drew))
              obtain ⟨qt, hqt⟩ : ∃ q : Nat, xt = (q : Int) := ⟨xt.toNat, by omega⟩
              have hqt2 : qt < 4096 := by omega
              have HKO := Lib.hid hl2'
              have HC := Lib.hid (qFind_any w.heap.size bs (w.heap.size + 1) w.heap.size qt B _ _ xt (D0 + 1) xe (i : Int) W.drew HSD.out.sv hqt hqt2 (by rw [← HL2.out]; omega) HSD.out.kp.size)
              clear hqt
              unfold Oper.wpIn
              go_simp
              refine ⟨trivial, ?_⟩
              (with_reducible refine CallsIn.inRound l2' ?_)
              (with_reducible refine callsIn_wide.2 ?_)
              (with_reducible refine HC.out.mono ?_)
              rintro e6 w6 ⟨rfl, v6, hs6, hk6⟩
              have hsq6 := HSD.out.find hs6 hk6
              have hoth := hk6.others HSD.out.sv
              have hgN : g ≠ w.heap.size + 1 := rows_neG HRW2.out HSQ2.out.sv.qb (by decide)
              refine ⟨((KeepsOthers.drew W).trans hoth).from _, ⟨hoth.size, fun k' hk' => ?_⟩, v6, ?_, ?_, HMK2.out.keeps ((KeepsOthers.drew W).trans hoth)⟩
              · have hkz2 := HSQ2.out.kp.size
                exact hk6.block k' (Nat.lt_of_lt_of_le hk'.1 hkz2) hk'.2 (by omega) (fun e => by have := (HSQ2.out.sv.ow.lt k' e.symm).1; omega)
              · rw [List.map_append, List.map_singleton, edsV_snoc]
                have e7 : edV i p.d ⟨xf, xe, xt⟩ = ⟨xt, D0 + 1, xe, (i : Int)⟩ := by unfold edV; rw [HD0.out]
                show Sq w w6 bs B v6 (fndV B _ (edV i p.d ⟨xf, xe, xt⟩))
                rw [e7]
                exact hsq6
              · exact (hk6.block g HRW2.out.lt (rows_neG HRW2.out HSQ2.out.sv.sn (by decide)) hgN (fun e => row_ne_own HRW2.out HSQ2.out.sv.ow (by decide) e.symm)).trans HRW2.out
          case done =>
            rintro D xs W hDl rfl hei hmD
            have HEI := Lib.hid hei
            have HMD := Lib.hid hmD
            obtain ⟨v3, hsq3, hrow3, hmk3⟩ := hei
            have HSQ3 := Lib.hid hsq3
            have HRW3 := Lib.hid hrow3
            have HMK3 := Lib.hid hmk3
            have ci3 := hrow3.cell 0 rfl
            clear hmD hsq3 hrow3 hmk3
            have hDs : D ∉ Ds := fun h => by have := hDlt D h; omega
            have hci := hrow.out.cell 0 rfl
            go_wp2_with fail
            have hpi : (spN B es fr i)[i]? = some p := by rw [← hV.out]; exact HP.out
            have hgo := spN_go hpi
            have hpre := edsV_pre B i p (succ es p.s) (spN B es fr i)
            have hil : i < (spN B es fr i).length := (List.getElem?_eq_some_iff.1 hpi).1
            have e1 : (((i + 1 : Nat)) : Int) = (i : Int) + 1 := by omega
            have hnew := Row.new W [.int .i64 ((i : Int) + 1)] 3
            refine ⟨⟨i + 1, W.heap.size, v3, spN B es fr (i + 1), D :: Ds, _, _, _, _, _, _, _, _, _, _, _, _, _, _, ?_, ?_, Lib.hid rfl, ?_, ?_, ?_, rfl⟩, ?_⟩
            · rw [hgo]
              have hlast : i + 1 ≤ (spN B es fr i).length := hil
              exact Nat.le_trans hlast hpre.length_le
            · have h3 := HSQ3.out
              rw [edT_val, ← HQ.out, ← hgo] at h3
              exact Lib.hid (h3.below ((Below.refl _ W).alloc (Nat.le_refl _) _))
            · rw [e1]; exact Lib.hid hnew
            · exact Lib.hid (by have := HSQ3.out.kp.size; omega)
            · exact Lib.hid ⟨List.nodup_cons.2 ⟨hDs, HMK3.out.nd⟩, fun E hE => by
                rcases List.mem_cons.1 hE with rfl | hE
                · exact ⟨by omega, ((KeepsOthers.alloc W _).same _ _ HMD.out rfl)⟩
                · exact ((HMK3.out.keeps (KeepsOthers.alloc W _)).ok E hE)⟩
            · show S - (intOf (cellOf _ (.pointer (some ⟨W.heap.size, 0, none⟩)))).toNat < S - (intOf (cellOf wr' (.pointer (some ⟨g, 0, none⟩)))).toNat
              have a1 : cellOf (W.alloc (.cells #[.int .i64 ((i : Int) + 1)] 3)) (.pointer (some ⟨W.heap.size, 0, none⟩)) = .int .i64 ((i : Int) + 1) := by
                show ((W.alloc (.cells #[.int .i64 ((i : Int) + 1)] 3)).cell? ⟨W.heap.size, 0, none⟩).getD undef = _
                rw [show (W.alloc (.cells #[.int .i64 ((i : Int) + 1)] 3)).cell? ⟨W.heap.size, 0, none⟩ = _ from hnew.cell 0 rfl]; rfl
              have a2 : cellOf wr' (.pointer (some ⟨g, 0, none⟩)) = .int .i64 (i : Int) := by
                show (wr'.cell? ⟨g, 0, none⟩).getD undef = _
                rw [hci]; rfl
              rw [a1, a2]
              simp only [intOf]
              omega
          case stop => exact fun _ _ _ _ _ _ h => h.elim
        · obtain rfl : i = l := by omega
          have hend : V = spV B S es fr := by rw [hV.out]; exact (spV_at (by rw [← hV.out, ← HL.out]; exact Nat.le_refl _) hlS).symm
          have HEND := Lib.hid hend
          clear hend
          go_wp2_with fail
          refine leaves_marks Ds wr' hmk.out fun w' hk => ⟨_, results_tmp rfl _ _ _, ?_⟩
          have hb := hk.below
          refine ⟨_, rfl, ?_, ?_, ?_⟩
          · rw [← HEND.out]
            have := hk.own hsq.out.sv.ow
            rw [← HL.out] at this
            have h4 : OwnV w' w.heap.size (.slice Av i cv) V := by unfold OwnV; rw [← HL.out]; exact this
            exact h4
          · rw [← HEND.out]; exact hk.row hsq.out.sv.sn
          · exact ⟨hb.os.trans hsq.out.kp.os, hb.tape.trans hsq.out.kp.tape, hb.output.trans hsq.out.kp.output, Nat.le_trans hsq.out.kp.size hb.size, fun k' hk1 hk2 => (hb.block k' hk1).trans (hsq.out.kp.block k' hk1 hk2)⟩
end Go.Proofs.Ytceldgcmjmfjfaa

/- Layer 4: graphOf: the edges that leave each state, as lists of the call's own. -/
namespace Go.Proofs.Ytceldgcmjmfjfaa
open Go.RowKit Go.Sort

/-- A list of lists of edges, all of the call's own. -/
structure MG (w0 wr : World) (b S : Nat) (vs : List Value) (Ls : Nat → List Ed) : Prop where
  bel : Below w0.heap.size w0 wr
  bx : Row wr b 28 vs
  ge : w0.heap.size ≤ b
  len : vs.length = S
  ow : ∀ q : Nat, q < S → OwnE wr w0.heap.size (vs.getD q undef) (Ls q)
  dj : ∀ p q : Nat, p < S → q < S → p ≠ q → (vs.getD p undef).ownBlock = none ∨ (vs.getD p undef).ownBlock ≠ (vs.getD q undef).ownBlock
theorem MG.call {w0 wr w' : World} {b S : Nat} {vs : List Value} {Ls : Nat → List Ed} (h : MG w0 wr b S vs Ls) (hb : Below wr.heap.size wr w') : MG w0 w' b S vs Ls :=
  ⟨h.bel.trans (hb.mono h.bel.size), h.bx.below hb h.bx.lt, h.ge, h.len, fun q hq => own_below (h.ow q hq) hb, h.dj⟩
theorem getD_setG {vs : List Value} {e f : Nat} {v : Value} (he : e < vs.length) : (vs.set e v).getD f undef = if e = f then v else vs.getD f undef := by
  rw [List.getD, List.getD, List.getElem?_set]
  split
  · next h => subst h; simp
  · rfl
def updG (Ls : Nat → List Ed) (q : Nat) (y : Ed) : Nat → List Ed := fun p => if p = q then Ls q ++ [y] else Ls p
theorem MG.push {w0 wr w6 : World} {b S : Nat} {vs : List Value} {Ls : Nat → List Ed} {q N : Nat} {y : Ed} {v' : Value} (h : MG w0 wr b S vs Ls) (hq : q < S) (hg : wr.grownBy w6 (vs.getD q undef).ownBlock) (ho : OwnE w6 w0.heap.size v' (Ls q ++ [y]))
    (hat : v'.ownBlock = (vs.getD q undef).ownBlock ∨ v'.ownBlock = some N) (hN : ∀ p : Nat, p < S → ∀ g, (vs.getD p undef).ownBlock = some g → g < N) : MG w0 (w6.setCell ⟨b, q, none⟩ v') b S (vs.set q v') (updG Ls q y) := by
  have hz := h.bel.size
  have hel : q < vs.length := by rw [h.len]; exact hq
  have hb6 : Below w0.heap.size w0 w6 := h.bel.grown hg hz (fun k hk => ((h.ow q hq).lt k hk).1)
  have hbx6 : Row w6 b 28 vs := h.bx.grown hg (row_ne_own h.bx (h.ow q hq) (by decide))
  refine ⟨hb6.setCell (p := ⟨b, q, none⟩) h.ge _, hbx6.set q v', h.ge, by rw [List.length_set]; exact h.len, fun p hp => ?_, fun p r hp hr hpr => ?_⟩
  · rw [getD_setG hel]
    unfold updG
    by_cases e : q = p
    · subst e
      rw [if_pos rfl, if_pos rfl]
      exact ownsRow_setCell_other ho (row_ne_own hbx6 ho (by decide)) _
    · rw [if_neg e, if_neg (fun e' => e e'.symm)]
      have h1 : OwnE w6 w0.heap.size (vs.getD p undef) (Ls p) := World.ownsRow.kept (h.ow p hp) hg (h.dj p q hp hq (fun e' => e e'.symm))
      exact ownsRow_setCell_other h1 (row_ne_own hbx6 h1 (by decide)) _
  · rw [getD_setG hel, getD_setG hel]
    by_cases h1 : q = p
    · subst h1
      rw [if_pos rfl, if_neg hpr]
      rcases hat with hat | hat
      · rw [hat]; exact h.dj q r hp hr hpr
      · refine .inr fun e' => ?_
        rw [hat] at e'
        have := hN r hr N e'.symm
        omega
    · rw [if_neg h1]
      by_cases h2 : q = r
      · subst h2
        rw [if_pos rfl]
        rcases hat with hat | hat
        · rw [hat]; exact h.dj p q hp hr hpr
        · refine .inr fun e' => ?_
          rw [hat] at e'
          have := hN p hp N e'
          omega
      · rw [if_neg h2]; exact h.dj p r hp hr hpr
/-- An edge is appended to the list of a state: what the append does, and what is kept behind the store. -/
theorem MG.app {w0 W : World} {b S q : Nat} {vs : List Value} {Ls : Nat → List Ed} (h : MG w0 W b S vs Ls) (hq : q < S) (y : Ed) (hl : (Ls q).length ≤ 1000000) (ty : TypeId) :
    ∃ v6 w6, (Builtin.append_ #[28, 28] ty #[vs.getD q undef, .slice (some ⟨W.heap.size, 0, none⟩) 1 1]).run Try.prog (W.alloc (.cells #[.int .i64 y.f, .int .i64 y.e, .int .i64 y.t] 70)) = .ok v6 w6 ∧
      MG w0 (w6.setCell ⟨b, q, none⟩ v6) b S (vs.set q v6) (updG Ls q y) ∧ (W.alloc (.cells #[.int .i64 y.f, .int .i64 y.e, .int .i64 y.t] 70)).grownBy w6 (vs.getD q undef).ownBlock ∧ (∃ A n c, v6 = .slice A n c) := by
  obtain ⟨iE, iE0, iE1, iE2, iE3⟩ := info_parts info_edge
  have hA := h.call ((Below.refl W.heap.size W).alloc (Nat.le_refl _) (.cells #[.int .i64 y.f, .int .i64 y.e, .int .i64 y.t] 70))
  obtain ⟨v6, w6, hr, ho, hg, _, hat⟩ := run_append_own_at (P := Try.prog) (W.alloc (.cells #[.int .i64 y.f, .int .i64 y.e, .int .i64 y.t] 70)) w0.heap.size 28 ty 70 iE (.agg #[.int .i64 0, .int .i64 0, .int .i64 0]) 3 24 Try.underlying28 iE0 iE1 iE2 iE3 rfl (by decide) _ _ _ (hA.ow q hq) ⟨W.heap.size, 0, none⟩ 1 1 [.int .i64 y.f, .int .i64 y.e, .int .i64 y.t] rfl (news_three rfl) (by intro u hu; simp at hu; rcases hu with rfl | rfl | rfl <;> rfl) (by unfold maxLen; omega) (by omega) (by have := h.bel.size; simp; omega)
  have ho' : OwnE w6 w0.heap.size v6 (Ls q ++ [y]) := by
    unfold OwnE
    rw [List.length_append, encE_app]
    exact ho
  refine ⟨v6, w6, hr, hA.push hq hg ho' hat fun p hp g hg' => ((hA.ow p hp).lt g hg').2, hg, ?_⟩
  obtain ⟨A, c, e, _⟩ := ownE_rd ho'
  exact ⟨A, _, c, e⟩
/-- A graph in memory, in blocks from base on, below top. -/
def GrM (base top : Nat) (w : World) (b S : Nat) (es : List Ed) : Prop := (base ≤ b ∧ b < top) ∧ ∀ q : Nat, q < S → ∃ A c, w.cell? ⟨b, q, none⟩ = some (.slice A (succ es (q : Int)).length c) ∧
  (0 < (succ es (q : Int)).length → ∃ g off, A = some ⟨g, off, none⟩ ∧ (base ≤ g ∧ g < top) ∧ ∀ j x, (succ es (q : Int))[j]? = some x → EdAt w g (off + j * 3) x)
theorem MG.gr {w0 wr : World} {b S : Nat} {vs : List Value} {Ls : Nat → List Ed} {es : List Ed} (h : MG w0 wr b S vs Ls) (he : ∀ q : Nat, q < S → Ls q = succ es (q : Int)) : GrM w0.heap.size wr.heap.size wr b S es := by
  refine ⟨⟨h.ge, h.bx.lt⟩, fun q hq => ?_⟩
  have ho := h.ow q hq
  rw [he q hq] at ho
  obtain ⟨A, c, e, hr, _⟩ := ownE_rd ho
  refine ⟨A, c, h.bx.cell q (by rw [← e, List.getD, List.getElem?_eq_getElem (by rw [h.len]; exact hq)]; rfl), fun h0 => ?_⟩
  obtain ⟨g, off, rfl, hg, hc⟩ := hr h0
  refine ⟨g, off, rfl, ⟨?_, hg⟩, hc⟩
  rcases ho.2 with ⟨h1, _⟩ | ⟨g', _, _, h1, h2, _⟩
  · rw [e] at h1; cases h1
  · rw [e] at h1
    injection h1 with h1
    injection h1 with h1
    injection h1 with h1
    rw [h1]; exact h2
theorem GrM.keep {base top : Nat} {w w' : World} {b S : Nat} {es : List Ed} (h : GrM base top w b S es) (hk : ∀ g o, base ≤ g → g < top → w'.cell? ⟨g, o, none⟩ = w.cell? ⟨g, o, none⟩) : GrM base top w' b S es :=
  ⟨h.1, fun q hq => by
    obtain ⟨A, c, h1, h2⟩ := h.2 q hq
    refine ⟨A, c, (hk _ _ h.1.1 h.1.2).trans h1, fun h0 => ?_⟩
    obtain ⟨g, off, e, hg, hc⟩ := h2 h0
    exact ⟨g, off, e, hg, fun j x hj => (hc j x hj).keep fun o => hk g o hg.1 hg.2⟩⟩
theorem GrM.below {base top n : Nat} {w w' : World} {b S : Nat} {es : List Ed} (h : GrM base top w b S es) (hb : Below n w w') (hn : top ≤ n) : GrM base top w' b S es :=
  h.keep fun _ _ _ h2 => hb.cell (Nat.lt_of_lt_of_le h2 hn)
theorem GrM.toZ {base top : Nat} {w : World} {b S bs : Nat} {es : List Ed} (h : GrM base top w b S es) (ht : top ≤ w.heap.size) (hbs : bs < base ∨ top ≤ bs) : GrZ w bs b S es :=
  ⟨⟨by have := h.1.2; omega, by have := h.1; omega⟩, fun q hq => by
    obtain ⟨A, c, h1, h2⟩ := h.2 q hq
    refine ⟨A, c, h1, fun h0 => ?_⟩
    obtain ⟨g, off, e, hg, hc⟩ := h2 h0
    exact ⟨g, off, e, ⟨by omega, by omega⟩, hc⟩⟩
theorem info_edgesG : (Try.prog.info? 28).map (fun i => (i.zero, i.size, i.bytes)) = some (some (.slice none 0 0), 1, 24) := by kernel_rfl
theorem make_graphG (N : Nat) (hN : N ≤ 100000) (w : World) :
    (Instr.makeSlice 79 (.int .i64 (N : Int)) (.int .i64 (N : Int))).run Try.prog w = .ok (.slice (some ⟨w.heap.size, 0, none⟩) N N) (w.alloc (.cells (List.replicate N (Value.slice none 0 0)).toArray 28)) := by
  obtain ⟨i0, hi, hz0, hz1, hz2⟩ := info_parts info_edgesG
  have := run_make_rowN 79 28 i0 (.slice none 0 0) Try.underlying79 hi hz0 .i64 .i64 N N (Nat.le_refl _) (by rw [hz2]; omega) (by omega) w
  rw [this, hz1, Nat.mul_one]
  have e : madeCells (Value.slice none 0 0).cells N = (List.replicate N (Value.slice none 0 0)).toArray := by
    rw [← toList_madeCells_one (.slice none 0 0) N]; simp [Value.cells]
  rw [e]
theorem mg_start {w0 W : World} {b S : Nat} (hb : Below w0.heap.size w0 W) (hr : Row W b 28 (List.replicate S (.slice none 0 0))) (hge : w0.heap.size ≤ b) : MG w0 W b S (List.replicate S (.slice none 0 0)) (fun _ => []) := by
  have hd : ∀ q : Nat, q < S → (List.replicate S (Value.slice none 0 0)).getD q undef = .slice none 0 0 := fun q hq => by
    rw [List.getD, List.getElem?_replicate, if_pos hq]; rfl
  exact ⟨hb, hr, hge, List.length_replicate, fun q hq => by rw [hd q hq]; exact World.ownsRow_nil _ _ _ _, fun p q hp _ _ => by rw [hd p hp]; exact .inl rfl⟩
/-- The lists of graphOf when some edges have been gone through. -/
def gLs (p : Ed → Bool) (l : List Ed) (q : Nat) : List Ed := succ (l.filter p) (q : Int)
theorem gLs_yes {p : Ed → Bool} {l : List Ed} {x : Ed} {q : Nat} (hp : p x = true) (hx : x.f = (q : Int)) : updG (gLs p l) q x = gLs p (l ++ [x]) := by
  funext r
  unfold updG gLs succ
  rw [List.filter_append, List.filter_append]
  by_cases e : r = q
  · subst e; rw [if_pos rfl]; simp [hp, hx]
  · rw [if_neg e]
    have : ¬ x.f = (r : Int) := by rw [hx]; omega
    simp [hp, this]
theorem gLs_no {p : Ed → Bool} {l : List Ed} {x : Ed} (hp : p x = false) : gLs p l = gLs p (l ++ [x]) := by
  funext r
  unfold gLs succ
  rw [List.filter_append]
  simp [hp]
set_option maxHeartbeats 8000000 in
set_option maxRecDepth 100000 in
theorem gGraphOf_any (A : Option Addr) (n c : Nat) (s : Int) (M : Option Addr) (m d : Nat) (E : Option Addr) (k g : Nat) (a : Au) (S : Nat) (fn : Nat) (caps : Array Value) (p : Ed → Bool) (w : World) (hcf : ∀ args W, (callFunc fn args).run Try.prog W = .ok (.enter fn args) W)
    (hp : ∀ x ∈ a.ed, ∀ W, Below w.heap.size w W → Calls Try.prog fn (#[edL x] ++ caps) W fun e w' => e = .returned (.bool (p x)) ∧ Below W.heap.size W w')
    (h : AuR w w.heap.size A n c s M m d E k g a) (he : EdOk S a.ed) (hS : s = (S : Int)) (hSb : S ≤ 4096) :
    Calls Try.prog 43 #[.agg #[.slice A n c, .int .i64 s, .slice M m d, .slice E k g], .func (.func fn) #[] caps] w fun e w' => ∃ b, e = .returned (.slice (some ⟨b, 0, none⟩) S S) ∧ GrM w.heap.size w'.heap.size w' b S (a.ed.filter p) ∧ Below w.heap.size w w' := by
  subst hS
  have hb1 := (Below.refl w.heap.size w).alloc (Nat.le_refl _) (.cells #[.slice A n c, .int .i64 (S : Int), .slice M m d, .slice E k g] 30)
  have HB1 := Lib.hid hb1
  obtain ⟨p0, p1, p2, p3⟩ := BoxA.made w A n c (S : Int) M m d E k g 30
  have hmk := make_graphG S (by omega)
  have HR := Lib.hid h
  have HP := Lib.hid hp
  have HE := Lib.hid he
  have HK := Lib.hid h.hk
  have hbk := h.bk
  have hR := Row.new (w.alloc (.cells #[.slice A n c, .int .i64 (S : Int), .slice M m d, .slice E k g] 30)) (List.replicate S (.slice none 0 0)) 28
  rw [World.size_alloc] at hR
  simp only [List.toArray_replicate] at hR
  have HM0 := Lib.hid (mg_start (HB1.out.alloc HB1.out.size (.cells (Array.replicate S (.slice none 0 0)) 28)) hR (Nat.le_succ _))
  clear h hp he hb1 hR
  go_enter Try.func43, Try.ntmps43
  go_wp2_with fail
  go_loopw [7, 14] (fun _ iv wr => ∃ (t : Nat) (vs : List Value), t ≤ k ∧ iv = .int .i64 t ∧ Hid (MG w wr (w.heap.size + 1) S vs (gLs p (a.ed.take t)))) (fun _ iv _ => k - (intOf iv).toNat)
  case atStart => exact ⟨0, _, Nat.zero_le _, rfl, HM0⟩
  case round =>
    clear HM0 p0 p1 p2 p3 hmk
    obtain ⟨t, vs, ht, rfl, hmg⟩ := hrel
    by_cases hlt : t < k
    · obtain ⟨be, oe, rfl, hbe, hce⟩ := HR.out.ed (by rw [HK.out]; omega)
      obtain ⟨x, hx⟩ : ∃ x, a.ed[t]? = some x := ⟨_, List.getElem?_eq_getElem (by rw [HK.out]; exact hlt)⟩
      obtain ⟨e0, e1, e2⟩ := hce t x hx
      have d0 := (hmg.out.bel.cell (p := ⟨be, oe + t * 3, none⟩) hbe).trans e0
      have d1 := (hmg.out.bel.cell (p := ⟨be, oe + t * 3 + 1, none⟩) hbe).trans e1
      have d2 := (hmg.out.bel.cell (p := ⟨be, oe + t * 3 + 2, none⟩) hbe).trans e2
      have hxm := List.mem_of_getElem? hx
      have hxr := (HE.out x hxm).1
      obtain ⟨xf, xe, xt⟩ := x
      simp only at d0 d1 d2 hxr
      obtain ⟨Wx, hWx⟩ : ∃ W, W = wr.alloc (.cells #[.int .i64 xf, .int .i64 xe, .int .i64 xt] 70) := ⟨_, rfl⟩
      obtain ⟨Bx, hBx⟩ : ∃ g, g = wr.heap.size := ⟨_, rfl⟩
      have hbw : Below wr.heap.size wr Wx := by rw [hWx]; exact (Below.refl _ _).alloc (Nat.le_refl _) _
      have HMX := Lib.hid (hmg.out.call hbw)
      have HBX := Lib.hid (show Row Wx Bx 70 [.int .i64 xf, .int .i64 xe, .int .i64 xt] from by rw [hWx, hBx]; exact Row.new _ _ _)
      have HC := Lib.hid (HP.out _ hxm Wx HMX.out.bel)
      have HTK := Lib.hid (take_ed hx)
      have HNB := Lib.hid (show ∀ r : Nat, r < S → (vs.getD r undef).ownBlock ≠ some Bx from fun r hr e => by have := ((hmg.out.ow r hr).lt _ e).2; omega)
      have b0 := HBX.out.cell 0 rfl
      have b1 := HBX.out.cell 1 rfl
      have b2 := HBX.out.cell 2 rfl
      have z0 : (0 : Int) ≤ (t : Int) := by omega
      have z1 : (t : Int) < (k : Int) := by omega
      have HWX := Lib.hid hWx
      have HBXE := Lib.hid hBx
      obtain ⟨r, hr⟩ : ∃ r, p ⟨xf, xe, xt⟩ = r := ⟨_, rfl⟩
      rw [hr] at HC
      have HPR := Lib.hid hr
      clear hce e0 e1 e2 hx hxm hWx hBx hbw hmg hr
      go_upto_region 5 with fail
      rw [← HWX.out, ← HBXE.out]
      go_wp2_with fail
      refine HC.out.mono ?_
      rintro e w5 ⟨rfl, hb5⟩
      have HM5 := Lib.hid (HMX.out.call hb5)
      have HBX5 := Lib.hid (HBX.out.below hb5 HBX.out.lt)
      clear hb5 b0 b1 b2 d0 d1 d2
      cases r
      · go_wp2_with fail
        go_roundw
        case rel => exact ⟨t + 1, vs, by omega, by go_num, Lib.hid (by have := HM5.out; rw [gLs_no HPR.out, ← HTK.out] at this; exact this)⟩
        case measure => simp [intOf]; omega
      · obtain ⟨q, hq⟩ : ∃ q : Nat, xf = (q : Int) := ⟨xf.toNat, by omega⟩
        subst hq
        have hqS : q < S := by omega
        have hLl : (gLs p (a.ed.take t) q).length ≤ 1000000 := by
          unfold gLs succ
          refine Nat.le_trans (List.length_filter_le _ _) (Nat.le_trans (List.length_filter_le _ _) (Nat.le_trans (List.length_take_le' _ _) ?_))
          rw [HK.out]; exact hbk
        go_wp2_with fail
        obtain ⟨Wa, hWa⟩ : ∃ W, W = w5.drew := ⟨_, rfl⟩
        have HMa := Lib.hid (show MG w Wa (w.heap.size + 1) S vs (gLs p (a.ed.take t)) from by rw [hWa]; exact HM5.out.call ((Below.refl _ _).drew))
        have HXa := Lib.hid (show Row Wa Bx 70 [.int .i64 (q : Int), .int .i64 xe, .int .i64 xt] from by rw [hWa]; exact HBX5.out)
        obtain ⟨v6, w6, hrun, hmg6, hgrow6, As, ns, cs6, hv6⟩ := HMa.out.app hqS ⟨(q : Int), xe, xt⟩ hLl 28
        subst hv6
        obtain ⟨Wb, hWb⟩ : ∃ W, W = Wa.alloc (.cells #[.int .i64 ((q : Int)), .int .i64 (xe), .int .i64 (xt)] 70) := ⟨_, rfl⟩
        rw [← hWb] at hrun hgrow6
        have hbb : Below Wa.heap.size Wa Wb := by rw [hWb]; exact (Below.refl _ _).alloc (Nat.le_refl _) _
        have HMb := Lib.hid (HMa.out.call hbb)
        have HXb := Lib.hid (HXa.out.below hbb HXa.out.lt)
        have hownb := HMb.out.ow q hqS
        have HX6 := Lib.hid (HXb.out.grown hgrow6 (HNB.out q hqS))
        have HG6 := Lib.hid (HMb.out.bx.grown hgrow6 (row_ne_own HMb.out.bx hownb (by decide)))
        obtain ⟨ve, hve⟩ : ∃ v, v = vs.getD q undef := ⟨_, rfl⟩
        rw [← hve] at hrun
        have hvat : vs[q]? = some ve := by rw [hve, List.getD, List.getElem?_eq_getElem (by rw [HMa.out.len]; exact hqS)]; rfl
        have ga := HMa.out.bx.cell q hvat
        have xa0 := HXa.out.cell 0 rfl
        have xa1 := HXa.out.cell 1 rfl
        have xa2 := HXa.out.cell 2 rfl
        have gb := HMb.out.bx.cell q hvat
        have xb0 := HXb.out.cell 0 rfl
        have xb1 := HXb.out.cell 1 rfl
        have xb2 := HXb.out.cell 2 rfl
        have g6 := HG6.out.cell q hvat
        have x60 := HX6.out.cell 0 rfl
        have x61 := HX6.out.cell 1 rfl
        have x62 := HX6.out.cell 2 rfl
        have f6 := HG6.out.frozen q
        have q0 : (0 : Int) ≤ (q : Int) := by omega
        have q1 : (q : Int) < (S : Int) := by omega
        have HWB := Lib.hid hWb
        have HMG6 := Lib.hid hmg6
        have HGR6 := Lib.hid hgrow6
        have HRUN := Lib.hid hrun
        have HVE := Lib.hid hve
        have HWA := Lib.hid hWa
        clear hWb hmg6 hgrow6 hownb hrun hve hvat hWa hbb
        refine (wpIn_wide (n := 3)).1 (wpIn_region_chain (L := 12) (cs := [9, 10]) (aF := { tmps := List.toArray ((.agg #[.slice A n c, .int .i64 (S : Int), .slice M m d, .slice (some ⟨be, oe, none⟩) k g]) :: (.func (.func fn) #[] caps) :: (.pointer (some ⟨w.heap.size, 0, none⟩)) :: undef :: (.slice none 0 0) :: (.slice (some ⟨w.heap.size + 1, 0, none⟩) S S) :: undef :: (.pointer (some ⟨Bx, 0, none⟩)) :: (.pointer (some ⟨w.heap.size, 1, none⟩)) :: (.int .i64 (S : Int)) :: (.slice (some ⟨w.heap.size + 1, 0, none⟩) S S) :: (.pointer (some ⟨w.heap.size, 3, none⟩)) :: (.slice (some ⟨be, oe, none⟩) k g) :: (.int .i64 (k : Int)) :: (.int .i64 (t : Int)) :: (.bool true) :: (.pointer (some ⟨be, oe + t * 3, none⟩)) :: (.agg #[.int .i64 (q : Int), .int .i64 xe, .int .i64 xt]) :: (.func (.func fn) #[] caps) :: (.agg #[.int .i64 (q : Int), .int .i64 xe, .int .i64 xt]) :: (.bool true) :: (.slice (some ⟨w.heap.size + 1, 0, none⟩) S S) :: (.pointer (some ⟨Bx, 0, none⟩)) :: (.int .i64 (q : Int)) :: (.slice (some ⟨w.heap.size + 1, 0, none⟩) S S) :: (.pointer (some ⟨Bx, 0, none⟩)) :: (.int .i64 (q : Int)) :: (.pointer (some ⟨w.heap.size + 1, q, none⟩)) :: ve :: (.agg #[.int .i64 (q : Int), .int .i64 xe, .int .i64 xt]) :: (.slice (some ⟨Wa.heap.size, 0, none⟩) 1 1) :: (.slice As ns cs6) :: (.pointer (some ⟨w.heap.size + 1, q, none⟩)) :: u33 :: undef :: ([] : List Value)), defers := [] }) (W := fun p => match p with | 0 => Wa | 1 => Wb | _ => w6) (by kernel_rfl) (regOk_of (by kernel_rfl)) (fun _ => trivial) (by show Wa = _; rw [HWA.out]; rfl) rfl rfl (sl_of (D := [21, 22, 23, 24, 25, 26, 27, 28, 29, 30, 31, 32]) (dst_of (by kernel_rfl)) (by simp [agr])) ?rd ?ch ?la)
        case rd =>
          intro i' o' hi' hn' ho'
          have hi2 : i' = 0 ∨ i' = 1 ∨ i' = 2 ∨ i' = 3 ∨ i' = 4 ∨ i' = 5 ∨ i' = 6 ∨ i' = 7 ∨ i' = 8 ∨ i' = 11 := by simp at hn'; omega
          clear hi' hn'
          rcases hi2 with rfl | rfl | rfl | rfl | rfl | rfl | rfl | rfl | rfl | rfl
          all_goals
            injection ho' with ho'
            subst ho'
            refine ⟨_, _, rfl, rfl, fun p' hp' => ?_⟩
            have hp3 : p' = 0 ∨ p' = 1 ∨ p' = 2 := by simp at hp'; omega
            clear hp'
            rcases hp3 with rfl | rfl | rfl
            all_goals (dsimp only; first | (go_simp; done) | skip)
        case ch =>
          intro k' o' hk' ho'
          have hk2 : k' = 0 ∨ k' = 1 := by simp at hk'; omega
          clear hk'
          rcases hk2 with rfl | rfl
          · injection ho' with ho'
            subst ho'
            refine ⟨_, _, rfl, rfl, ?_⟩
            dsimp only
            rw [HWB.out]
            go_simp
          · simp only [List.getD_cons_succ, List.getD_cons_zero, List.getElem?_toArray, List.getElem?_cons_succ, List.getElem?_cons_zero, Option.some.injEq] at ho'
            subst ho'
            refine ⟨_, _, rfl, rfl, ?_⟩
            have hr := HRUN.out
            dsimp only
            unfold execOp
            simp only [resolve, invoke, builtin, Sem.run_bind, Sem.run_pure, Result.andThen_ok, List.map_toArray, List.map_cons, List.map_nil, Act.eval, Array.getD_eq_getD_getElem?, List.getElem?_toArray, List.getElem?_cons_succ, List.getElem?_cons_zero, Option.getD_some, hr]
            rfl
        case la =>
          intro o' ho'
          injection ho' with ho'
          subst ho'
          unfold Oper.wpIn
          go_simp
          go_wp2_with fail
          go_roundw
          case rel => exact ⟨t + 1, _, by omega, by go_num, Lib.hid (by have := HMG6.out; rw [gLs_yes HPR.out rfl, ← HTK.out] at this; exact this)⟩
          case measure => simp [intOf]; omega
    · obtain rfl : t = k := by omega
      have hall : a.ed.take t = a.ed := List.take_of_length_le (by rw [HK.out]; exact Nat.le_refl _)
      have HALL := Lib.hid hall
      clear hall
      go_wp2_with fail
      go_ret
      refine ⟨_, rfl, hmg.out.gr fun q hq => by rw [HALL.out]; rfl, hmg.out.bel⟩
end Go.Proofs.Ytceldgcmjmfjfaa
