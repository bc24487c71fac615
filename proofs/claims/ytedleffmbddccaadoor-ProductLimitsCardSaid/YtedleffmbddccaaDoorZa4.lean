/- Texts merged: what follows were texts of their own. -/
import Derived.Test.YtedleffmbddccaaDoorZa3
import Derived.Test.YtedleffmbddccaaDoorZa2
import Derived.Deep.MidRow
import Derived.Deep.RegionHeld3
import Derived.Deep.CutRange
import Derived.Laws.ResultCell
import Derived.Laws.CopyOwn
import Derived.Test.YtedleffmbddccaaDoorZa1
import Derived.Deep.QuietTactic
import Derived.BigQuiet
import Derived.OwnWalk
set_option linter.unusedVariables false
set_option linter.unusedSimpArgs false
set_option linter.unusedSectionVars false
/- Layer 3, the mathematics of the canonical form: it is right, it is its own canonical form, it has the same languages. -/
namespace Go.Proofs.YtedleffmbddccaaDoor
open Go.RowKit Go.Sort

theorem fnd_closed {a : Au} (h : RightW a) {i : Nat} (hi : i < (fnd a).length) {x : Ed} (hx : x ∈ succ a.ed ((fnd a).getD i 0)) : x.t ∈ fnd a := by
  by_cases h0 : 0 < a.st
  · have hl := fnd_len h
    have hlt : i < (Fd a i).length := by
      by_cases hh : i < (Fd a i).length
      · exact hh
      · rw [fnd_at h h0 (n := i) (by omega) (by omega)] at hi; exact hi
    have hp := Fd_fnd h h0 i
    rw [getD_pre hp hlt] at hx
    have h1 : x.t ∈ Fd a (i + 1) := by rw [Fd_go hlt, mem_visitL]; exact .inr ⟨x, hx, rfl⟩
    exact (Fd_fnd h h0 (i + 1)).subset h1
  · rw [fnd, if_pos (by omega)] at hi; simp at hi
theorem mem_canEn {a : Au} {n : Nat} {y : Ed} : y ∈ canEn a n ↔ ∃ i : Nat, i < n ∧ ∃ x ∈ succ a.ed ((fnd a).getD i 0), y = ⟨(i : Int), x.e, ((fnd a).idxOf x.t : Int)⟩ := by
  unfold canEn outE
  simp only [List.mem_flatMap, List.mem_range, List.mem_map]
  constructor
  · rintro ⟨i, hi, x, hx, e⟩; exact ⟨i, hi, x, hx, e.symm⟩
  · rintro ⟨i, hi, x, hx, e⟩; exact ⟨i, hi, x, hx, e.symm⟩
theorem outE_sorted {a : Au} (h : RightW a) (n : Nat) : (outE a (fnd a) n).Pairwise ltE := by
  unfold outE
  rw [List.pairwise_map]
  exact (succ_sorted h.edo _).imp fun hlt => by unfold ltE; simp; exact hlt
theorem canEn_sorted {a : Au} (h : RightW a) : ∀ n, (canEn a n).Pairwise ltE
  | 0 => by simp [canEn]
  | n + 1 => by
    rw [canEn_succ, List.pairwise_append]
    refine ⟨canEn_sorted h n, outE_sorted h n, fun x hx y hy => ?_⟩
    obtain ⟨i, hi, z, _, rfl⟩ := mem_canEn.1 hx
    unfold outE at hy
    obtain ⟨z2, _, rfl⟩ := List.mem_map.1 hy
    unfold ltE; simp; omega
theorem can_right {a : Au} (h : RightW a) : RightW (canA a) where
  alr := h.alr
  alo := h.alo
  st0 := by simp [canA]
  mrr x hx := by
    obtain ⟨i, h1, _, rfl⟩ := mem_canM.1 hx
    simp [canA]; omega
  mro := canM_lt a
  edr y hy := by
    obtain ⟨i, hi, x, hx, rfl⟩ := mem_canEn.1 hy
    have ht := List.idxOf_lt_length_iff.2 (fnd_closed h hi hx)
    refine ⟨by simp [canA]; omega, by simp [canA]; omega, (h.edr x (mem_succ.1 hx).1).2.2⟩
  edo := canEn_sorted h _
theorem Right.can {a : Au} (h : Right a) : Right (canA a) :=
  { can_right h.toRightW with st1 := by have := fnd_len h.toRightW; have := h.st1; have := h.st0; simp [canA]; omega }
theorem chk_can {a : Au} (h : chkE a = 0) : chkE (canA a) = 0 := (right_of h).can.chk

/-- The edges of a state of the canonical form. -/
theorem succ_canEn {a : Au} (i : Nat) : ∀ n, succ (canEn a n) (i : Int) = if i < n then outE a (fnd a) i else []
  | 0 => by simp [canEn, succ]
  | n + 1 => by
    rw [canEn_succ, succ, List.filter_append]
    have h1 := succ_canEn (a := a) i n
    unfold succ at h1
    rw [h1]
    have h2 : (outE a (fnd a) n).filter (fun x => decide (x.f = (i : Int))) = if i = n then outE a (fnd a) n else [] := by
      by_cases e : i = n
      · rw [if_pos e, List.filter_eq_self]
        intro x hx; unfold outE at hx; obtain ⟨z, _, rfl⟩ := List.mem_map.1 hx; simp [e]
      · rw [if_neg e, List.filter_eq_nil_iff]
        intro x hx; unfold outE at hx; obtain ⟨z, _, rfl⟩ := List.mem_map.1 hx; simp; omega
    rw [h2]
    by_cases e : i = n
    · subst e; rw [if_neg (by omega), if_pos rfl, if_pos (by omega), List.nil_append]
    · by_cases e2 : i < n
      · rw [if_pos e2, if_neg e, if_pos (by omega), List.append_nil]
      · rw [if_neg e2, if_neg e, if_neg (by omega), List.append_nil]
theorem succ_can {a : Au} {i : Nat} (hi : i < (fnd a).length) : succ (canA a).ed (i : Int) = outE a (fnd a) i := by
  show succ (canEn a (fnd a).length) (i : Int) = _
  rw [succ_canEn, if_pos hi]
/-- A step of the canonical form. -/
theorem step_can {a : Au} (h : RightW a) {i : Nat} (hi : i < (fnd a).length) (ev : Int) : stepO (canA a) (i : Int) ev = (stepO a ((fnd a).getD i 0) ev).map fun t => ((fnd a).idxOf t : Int) := by
  have hc := can_right h
  unfold stepO
  cases he : edgeO a.ed ((fnd a).getD i 0) ev with
  | none =>
    have : edgeO (canA a).ed (i : Int) ev = none := by
      rw [edgeO_none] at he ⊢
      rintro y hy ⟨h1, h2⟩
      have hy2 : y ∈ succ (canA a).ed (i : Int) := mem_succ.2 ⟨hy, h1⟩
      rw [succ_can hi] at hy2
      unfold outE at hy2
      obtain ⟨x, hx, rfl⟩ := List.mem_map.1 hy2
      exact he x (mem_succ.1 hx).1 ⟨(mem_succ.1 hx).2, h2⟩
    rw [this]; rfl
  | some x =>
    obtain ⟨h1, h2, h3⟩ := (edgeO_some h.edo).1 he
    have : edgeO (canA a).ed (i : Int) ev = some ⟨(i : Int), x.e, ((fnd a).idxOf x.t : Int)⟩ := by
      rw [edgeO_some hc.edo]
      refine ⟨?_, rfl, h3⟩
      exact mem_canEn.2 ⟨i, hi, x, mem_succ.2 ⟨h1, h2⟩, rfl⟩
    rw [this]; rfl
theorem step_in {a : Au} (h : RightW a) {q ev t : Int} (hq : q ∈ fnd a) (hs : stepO a q ev = some t) : t ∈ fnd a := by
  unfold stepO at hs
  cases he : edgeO a.ed q ev with
  | none => rw [he] at hs; simp at hs
  | some x =>
    rw [he] at hs; simp at hs; subst hs
    obtain ⟨h1, h2, h3⟩ := (edgeO_some h.edo).1 he
    refine fnd_closed h (i := (fnd a).idxOf q) (List.idxOf_lt_length_iff.2 hq) ?_
    rw [getD_idxOf hq]; exact mem_succ.2 ⟨h1, h2⟩
theorem run_can {a : Au} (h : RightW a) : ∀ (ws : List Int) (q : Int), q ∈ fnd a → (runE a q ws).1 ∈ fnd a ∧ runE (canA a) ((fnd a).idxOf q : Int) ws = (((fnd a).idxOf (runE a q ws).1 : Int), (runE a q ws).2)
  | [], q, hq => by rw [runE_nil, runE_nil]; exact ⟨hq, rfl⟩
  | x :: ws, q, hq => by
    have hs := step_can h (List.idxOf_lt_length_iff.2 hq) x
    rw [getD_idxOf hq] at hs
    cases e : stepO a q x with
    | none => rw [runE_stop e, runE_stop (by rw [hs, e]; rfl)]; exact ⟨hq, rfl⟩
    | some t =>
      have ht := step_in h hq e
      obtain ⟨h1, h2⟩ := run_can h ws t ht
      rw [runE_go e, runE_go (t := ((fnd a).idxOf t : Int)) (by rw [hs, e]; rfl), h2]
      exact ⟨h1, rfl⟩
theorem zero_fnd {a : Au} (h : RightW a) (h0 : 0 < a.st) : (0 : Int) ∈ fnd a ∧ (fnd a).idxOf 0 = 0 := by
  have hp : [(0 : Int)] <+: fnd a := Fd_fnd h h0 0
  refine ⟨hp.subset (by simp), ?_⟩
  rw [idx_pre hp (by simp)]; simp
theorem gen_can {a : Au} (h : RightW a) (ws : List Int) : genB (canA a) ws = genB a ws := by
  have h0 := h.st0
  by_cases hz : a.st = 0
  · have : (canA a).st = 0 := by simp [canA, fnd, hz]
    simp [genB, hz, this]
  · obtain ⟨hm, hi⟩ := zero_fnd h (by omega)
    have hr := (run_can h ws 0 hm).2
    rw [hi] at hr
    have hl := List.length_pos_of_mem hm
    have hs : ¬ (canA a).st = 0 := by simp [canA]; intro e; rw [e] at hl; simp at hl
    have hr2 : (runE (canA a) 0 ws).2 = (runE a 0 ws).2 := by have := congrArg Prod.snd hr; simpa using this
    simp [genB, hz, hs, hr2]
theorem acc_can {a : Au} (h : RightW a) (ws : List Int) : accB (canA a) ws = accB a ws := by
  unfold accB
  rw [gen_can h]
  cases hg : genB a ws with
  | false => rfl
  | true =>
    have hz : a.st ≠ 0 := by unfold genB at hg; simp at hg; exact hg.1
    have h0 := h.st0
    obtain ⟨hm, hi⟩ := zero_fnd h (by omega)
    obtain ⟨hq, hr⟩ := run_can h ws 0 hm
    rw [hi] at hr
    have hr1 : (runE (canA a) 0 ws).1 = ((fnd a).idxOf (runE a 0 ws).1 : Int) := by have := congrArg Prod.fst hr; simpa using this
    rw [hr1, Bool.true_and, Bool.true_and, decide_eq_decide]
    show ((fnd a).idxOf (runE a 0 ws).1 : Int) ∈ canM a ↔ _
    rw [mem_canM]
    constructor
    · rintro ⟨i, h1, h2, h3⟩
      have : i = (fnd a).idxOf (runE a 0 ws).1 := by omega
      rw [this, getD_idxOf hq] at h2; exact h2
    · intro h1
      exact ⟨_, List.idxOf_lt_length_iff.2 hq, by rw [getD_idxOf hq]; exact h1, rfl⟩
theorem run_take (a : Au) : ∀ (ws : List Int) (q : Int) (k : Nat), (runE a q ws).2 = ws.length → (runE a q (ws.take k)).2 = (ws.take k).length
  | [], q, k, _ => by simp [runE_nil]
  | x :: ws, q, 0, _ => by simp [runE_nil]
  | x :: ws, q, k + 1, hh => by
    rw [List.take_succ_cons]
    cases e : stepO a q x with
    | none => rw [runE_stop e] at hh; simp at hh
    | some t =>
      rw [runE_go e] at hh ⊢
      have := run_take a ws t k (by simpa using hh)
      simp [this]
theorem gen_take {a : Au} {ws : List Int} (h : genB a ws = true) (k : Nat) : genB a (ws.take k) = true := by
  unfold genB at h ⊢
  simp only [Bool.and_eq_true, decide_eq_true_eq] at h ⊢
  exact ⟨h.1, run_take a ws 0 k h.2⟩

/-- What is found, numbered. -/
theorem visitL_map {fl : List Int} {f : Int → Int} {g : Ed → Ed} (hinj : ∀ x y, x ∈ fl → y ∈ fl → f x = f y → x = y) : ∀ (l : List Ed) (r : List Int), r ⊆ fl → (∀ x ∈ l, x.t ∈ fl ∧ (g x).t = f x.t) → visitL (r.map f) (l.map g) = (visitL r l).map f
  | [], r, _, _ => rfl
  | x :: l, r, hr, hl => by
    obtain ⟨h1, h2⟩ := hl x (by simp)
    rw [List.map_cons, visitL_cons, visitL_cons, h2]
    have e : visit (r.map f) (f x.t) = (visit r x.t).map f := by
      by_cases hm : x.t ∈ r
      · rw [visit_in hm, visit_in (List.mem_map.2 ⟨_, hm, rfl⟩)]
      · rw [visit_new hm, visit_new, List.map_append]; · rfl
        rintro hm2
        obtain ⟨y, hy, e⟩ := List.mem_map.1 hm2
        exact hm (hinj y x.t (hr hy) h1 e ▸ hy)
    rw [e]
    refine visitL_map hinj l _ (fun y hy => ?_) fun y hy => hl y (by simp [hy])
    rcases mem_visit.1 hy with h | h
    · exact hr h
    · rw [h]; exact h1
def rng (n : Nat) : List Int := (List.range n).map fun i : Nat => (i : Int)
theorem rng_len (n : Nat) : (rng n).length = n := by simp [rng]
theorem rng_at {n i : Nat} (h : i < n) : (rng n).getD i 0 = (i : Int) := by simp [rng, List.getD, h]
theorem map_idx {fl r : List Int} (hp : r <+: fl) (hd : fl.Nodup) : r.map (fun t => (fl.idxOf t : Int)) = rng r.length := by
  apply List.ext_getElem
  · simp [rng]
  · intro i h1 h2
    have hi : i < r.length := by simpa using h1
    simp only [rng, List.getElem_map, List.getElem_range]
    have e : r[i] = fl.getD i 0 := by rw [getD_pre hp hi]; simp [List.getD, List.getElem?_eq_getElem hi]
    rw [e, idxOf_getD hd (Nat.lt_of_lt_of_le hi hp.length_le)]
theorem Fd_can {a : Au} (h : RightW a) (h0 : 0 < a.st) : ∀ n, Fd (canA a) n = (Fd a n).map fun t => ((fnd a).idxOf t : Int)
  | 0 => by simp [Fd, (zero_fnd h h0).2]
  | n + 1 => by
    have ih := Fd_can h h0 n
    have hp := Fd_fnd h h0 n
    by_cases hn : n < (Fd a n).length
    · rw [Fd_go hn, Fd_go (by rw [ih, List.length_map]; exact hn), ih]
      have hnl : n < (fnd a).length := Nat.lt_of_lt_of_le hn hp.length_le
      have e1 : ((Fd a n).map fun t => ((fnd a).idxOf t : Int)).getD n 0 = (n : Int) := by
        rw [map_idx hp (fnd_nodup a), rng_at hn]
      rw [e1, succ_can hnl]
      unfold outE
      rw [getD_pre hp hn]
      refine visitL_map (fl := fnd a) (fun x y hx hy e => idx_inj hx hy (by omega)) _ _ hp.subset fun x hx => ⟨?_, rfl⟩
      rw [← getD_pre hp hn] at hx
      exact fnd_closed h hnl hx
    · rw [Fd_stop hn, Fd_stop (by rw [ih, List.length_map]; exact hn), ih]
theorem fnd_can {a : Au} (h : RightW a) : fnd (canA a) = rng (fnd a).length := by
  by_cases h0 : 0 < a.st
  · have hl := List.length_pos_of_mem (zero_fnd h h0).1
    have hs : (0 : Int) < (canA a).st := by simp [canA]; omega
    have hst : (canA a).st.toNat = (fnd a).length := by simp [canA]
    have h1 : fnd (canA a) = Fd (canA a) a.st.toNat := by
      refine fnd_at (can_right h) hs (n := (canA a).st.toNat) ?_ (Nat.le_refl _) |>.trans ?_
      · exact Fd_len (can_right h) hs _
      · have := Fd_still (a := canA a) (n := (canA a).st.toNat) (Fd_len (can_right h) hs _) (a.st.toNat - (canA a).st.toNat)
        have hle := fnd_len h
        rw [show (canA a).st.toNat + (a.st.toNat - (canA a).st.toNat) = a.st.toNat by omega] at this
        exact this.symm
    rw [h1, Fd_can h h0, ← fnd_pos h0, map_idx List.prefix_rfl (fnd_nodup a)]
  · have hf : fnd a = [] := by rw [fnd, if_pos (by omega)]
    rw [fnd, if_pos (by simp [canA, hf]), hf]; rfl
theorem rng_idx {n i : Nat} (h : i < n) : (rng n).idxOf (i : Int) = i := by
  have := idxOf_getD (l := rng n) (i := i) (by
    unfold rng
    rw [List.nodup_iff_pairwise_ne, List.pairwise_map]
    exact List.pairwise_lt_range.imp fun h => by omega) (by rw [rng_len]; exact h)
  rwa [rng_at h] at this
/-- The canonical form is its own canonical form. -/
theorem can_can {a : Au} (h : RightW a) : canA (canA a) = canA a := by
  have hf := fnd_can h
  have hl : (fnd (canA a)).length = (fnd a).length := by rw [hf, rng_len]
  have h1 : canM (canA a) = canM a := by
    refine lt_ext (canM_lt _) (canM_lt a) fun x => ?_
    rw [mem_canM, hl, hf]
    constructor
    · rintro ⟨i, hi, h2, rfl⟩; rw [rng_at hi] at h2; exact h2
    · intro hx
      obtain ⟨i, hi, _, rfl⟩ := mem_canM.1 hx
      exact ⟨i, hi, by rw [rng_at hi]; exact hx, rfl⟩
  have h2 : canEn (canA a) (fnd a).length = canEn a (fnd a).length := by
    unfold canEn
    have h3 : ∀ i ∈ List.range (fnd a).length, outE (canA a) (fnd (canA a)) i = outE a (fnd a) i := fun i hi => by
      rw [List.mem_range] at hi
      rw [hf]
      conv => lhs; unfold outE
      rw [rng_at hi, succ_can hi]
      conv => rhs; rw [← List.map_id (outE a (fnd a) i)]
      refine List.map_congr_left fun y hy => ?_
      unfold outE at hy
      obtain ⟨x, hx, rfl⟩ := List.mem_map.1 hy
      have := List.idxOf_lt_length_iff.2 (fnd_closed h hi hx)
      simp only [id]
      rw [rng_idx this]
    rw [List.flatMap_def, List.flatMap_def, List.map_congr_left h3]
  unfold canA at *
  simp only at *
  rw [hl, h1, h2]
end Go.Proofs.YtedleffmbddccaaDoor

/- Layer 6, the mathematics of products: the automaton whose states are the numbers of tuples. -/
namespace Go.Proofs.YtedleffmbddccaaDoor
open Go.RowKit Go.Sort

/-- The number of a tuple of states, and the tuple of a number. -/
def cdT : List Int → List Int → Int
  | s :: ss, q :: qs => q + s * cdT ss qs
  | _, _ => 0
def dcT : List Int → Int → List Int
  | [], _ => []
  | s :: ss, x => x % s :: dcT ss (x / s)
def InT : List Int → List Int → Prop
  | [], [] => True
  | s :: ss, q :: qs => (0 ≤ q ∧ q < s) ∧ InT ss qs
  | _, _ => False
def prT : List Int → Int
  | [] => 1
  | s :: ss => s * prT ss
theorem prT_pos : ∀ {ss : List Int}, (∀ s ∈ ss, 0 < s) → 0 < prT ss
  | [], _ => by simp [prT]
  | s :: ss, h => by
    have h1 := prT_pos (ss := ss) fun x hx => h x (List.mem_cons_of_mem _ hx)
    have h2 := h s (List.mem_cons_self ..)
    rw [prT]; exact Int.mul_pos h2 h1
theorem cd_range : ∀ {ss qs : List Int}, InT ss qs → 0 ≤ cdT ss qs ∧ cdT ss qs < prT ss
  | [], [], _ => by simp [cdT, prT]
  | s :: ss, q :: qs, h => by
    obtain ⟨⟨h1, h2⟩, h3⟩ := h
    obtain ⟨h4, h5⟩ := cd_range h3
    rw [cdT, prT]
    have h6 : s * cdT ss qs + s ≤ s * prT ss := by
      have : s * (cdT ss qs + 1) ≤ s * prT ss := Int.mul_le_mul_of_nonneg_left (by omega) (by omega)
      rwa [Int.mul_add, Int.mul_one] at this
    have h7 : 0 ≤ s * cdT ss qs := Int.mul_nonneg (by omega) h4
    omega
  | [], _ :: _, h => h.elim
  | _ :: _, [], h => h.elim
theorem dc_cd : ∀ {ss qs : List Int}, InT ss qs → dcT ss (cdT ss qs) = qs
  | [], [], _ => rfl
  | s :: ss, q :: qs, h => by
    obtain ⟨⟨h1, h2⟩, h3⟩ := h
    rw [cdT, dcT, Int.add_mul_emod_self_left, Int.emod_eq_of_lt h1 h2, Int.add_mul_ediv_left _ _ (by omega), Int.ediv_eq_zero_of_lt h1 h2, Int.zero_add, dc_cd h3]
  | [], _ :: _, h => h.elim
  | _ :: _, [], h => h.elim
theorem dc_in : ∀ {ss : List Int} (x : Int), (∀ s ∈ ss, 0 < s) → InT ss (dcT ss x)
  | [], _, _ => trivial
  | s :: ss, x, h => by
    have h2 := h s (List.mem_cons_self ..)
    exact ⟨⟨Int.emod_nonneg _ (by omega), Int.emod_lt_of_pos _ h2⟩, dc_in _ fun y hy => h y (List.mem_cons_of_mem _ hy)⟩
theorem cd_dc : ∀ {ss : List Int} {x : Int}, (∀ s ∈ ss, 0 < s) → 0 ≤ x → x < prT ss → cdT ss (dcT ss x) = x
  | [], x, _, h0, h1 => by simp [prT] at h1; simp [cdT]; omega
  | s :: ss, x, h, h0, h1 => by
    have h2 := h s (List.mem_cons_self ..)
    rw [prT] at h1
    have h3 : x / s < prT ss := Int.ediv_lt_of_lt_mul h2 (by rw [Int.mul_comm]; exact h1)
    rw [dcT, cdT, cd_dc (fun y hy => h y (List.mem_cons_of_mem _ hy)) (Int.ediv_nonneg h0 (by omega)) h3]
    exact Int.emod_add_mul_ediv x s
theorem InT.len : ∀ {ss qs : List Int}, InT ss qs → qs.length = ss.length
  | [], [], _ => rfl
  | s :: ss, q :: qs, h => by simp [InT.len h.2]
  | [], _ :: _, h => h.elim
  | _ :: _, [], h => h.elim
theorem dc_zero : ∀ (ss : List Int), dcT ss 0 = ss.map fun _ => 0
  | [] => rfl
  | s :: ss => by rw [dcT, Int.zero_emod, Int.zero_ediv, dc_zero ss]; rfl
theorem cd_inj {ss p q : List Int} (hp : InT ss p) (hq : InT ss q) (h : cdT ss p = cdT ss q) : p = q := by rw [← dc_cd hp, ← dc_cd hq, h]

/-- Two increasing lists merged: what stands at the head of both is taken once. -/
def un : List Int → List Int → List Int
  | [], ys => ys
  | x :: xs, [] => x :: xs
  | x :: xs, y :: ys => if x < y then x :: un xs (y :: ys) else if y < x then y :: un (x :: xs) ys else x :: un xs ys
termination_by xs ys => xs.length + ys.length
theorem mem_un : ∀ (a b : List Int) (x : Int), x ∈ un a b ↔ x ∈ a ∨ x ∈ b
  | [], b, x => by rw [un]; simp
  | y :: a, [], x => by rw [un]; simp
  | y :: a, z :: b, x => by
    rw [un]
    have h1 := mem_un a (z :: b) x
    have h2 := mem_un (y :: a) b x
    have h3 := mem_un a b x
    by_cases c1 : y < z
    · rw [if_pos c1]; simp only [List.mem_cons] at *; rw [h1, or_assoc]
    · rw [if_neg c1]
      by_cases c2 : z < y
      · rw [if_pos c2]; simp only [List.mem_cons] at *; rw [h2]
        constructor
        · rintro (h | (h | h) | h)
          · exact .inr (.inl h)
          · exact .inl (.inl h)
          · exact .inl (.inr h)
          · exact .inr (.inr h)
        · rintro ((h | h) | h | h)
          · exact .inr (.inl (.inl h))
          · exact .inr (.inl (.inr h))
          · exact .inl h
          · exact .inr (.inr h)
      · rw [if_neg c2]
        have e : y = z := by omega
        subst e
        simp only [List.mem_cons] at *; rw [h3]
        constructor
        · rintro (h | h | h)
          · exact .inl (.inl h)
          · exact .inl (.inr h)
          · exact .inr (.inr h)
        · rintro ((h | h) | h | h)
          · exact .inl h
          · exact .inr (.inl h)
          · exact .inl h
          · exact .inr (.inr h)
termination_by a b => a.length + b.length
theorem un_sorted : ∀ (a b : List Int), a.Pairwise (· < ·) → b.Pairwise (· < ·) → (un a b).Pairwise (· < ·)
  | [], b, _, hb => by rw [un]; exact hb
  | y :: a, [], ha, _ => by rw [un]; exact ha
  | y :: a, z :: b, ha, hb => by
    have ca := List.pairwise_cons.1 ha
    have cb := List.pairwise_cons.1 hb
    rw [un]
    by_cases c1 : y < z
    · rw [if_pos c1]
      refine List.pairwise_cons.2 ⟨fun x hx => ?_, un_sorted a (z :: b) ca.2 hb⟩
      rcases (mem_un _ _ _).1 hx with h | h
      · exact ca.1 x h
      · rcases List.mem_cons.1 h with rfl | h
        · exact c1
        · have := cb.1 x h; omega
    · rw [if_neg c1]
      by_cases c2 : z < y
      · rw [if_pos c2]
        refine List.pairwise_cons.2 ⟨fun x hx => ?_, un_sorted (y :: a) b ha cb.2⟩
        rcases (mem_un _ _ _).1 hx with h | h
        · rcases List.mem_cons.1 h with rfl | h
          · exact c2
          · have := ca.1 x h; omega
        · exact cb.1 x h
      · rw [if_neg c2]
        refine List.pairwise_cons.2 ⟨fun x hx => ?_, un_sorted a b ca.2 cb.2⟩
        rcases (mem_un _ _ _).1 hx with h | h
        · exact ca.1 x h
        · have := cb.1 x h; omega
termination_by a b => a.length + b.length
/-- The step of all automata by an event. -/
def stpT : List Au → List Int → Int → Option (List Int)
  | a :: l, q :: qs, e =>
    match (if e ∈ a.al then stepO a q e else some q), stpT l qs e with
    | some t, some ts => some (t :: ts)
    | _, _ => none
  | _, _, _ => some []
def stsT (l : List Au) : List Int := l.map Au.st
def alT (l : List Au) : List Int := l.foldl (fun z a => un z a.al) []
def mkT : List Au → List Int → Bool
  | a :: l, q :: qs => decide (q ∈ a.mr) && mkT l qs
  | _, _ => true
def posT (l : List Au) : Bool := l.all fun a => decide (0 < a.st)
/-- The automaton of the tuples' numbers. -/
def prodA (l : List Au) : Au where
  al := alT l
  st := if posT l then prT (stsT l) else 0
  mr := if posT l then ((List.range (prT (stsT l)).toNat).filter fun (x : Nat) => mkT l (dcT (stsT l) (x : Int))).map fun (x : Nat) => (x : Int) else []
  ed := if posT l then (List.range (prT (stsT l)).toNat).flatMap fun (x : Nat) => (alT l).filterMap fun e => (stpT l (dcT (stsT l) (x : Int)) e).map fun t => ⟨(x : Int), e, cdT (stsT l) t⟩ else []
theorem posT_iff {l : List Au} : posT l = true ↔ ∀ s ∈ stsT l, 0 < s := by simp [posT, stsT]

theorem stp_in : ∀ {l : List Au} {qs : List Int} {e : Int} {t : List Int}, (∀ a ∈ l, RightW a) → InT (stsT l) qs → stpT l qs e = some t → InT (stsT l) t
  | [], [], _, t, _, _, h => by simp [stpT] at h; subst h; trivial
  | a :: l, q :: qs, e, t, hr, hi, h => by
    rw [stpT] at h
    split at h
    · rename_i u ts h1 h2
      injection h with h; subst h
      have h3 := stp_in (fun b hb => hr b (List.mem_cons_of_mem _ hb)) hi.2 h2
      refine ⟨?_, h3⟩
      have ha := hr a (List.mem_cons_self ..)
      split at h1
      · exact step_range ha h1
      · injection h1 with h1; subst h1; exact hi.1
    · cases h
  | [], _ :: _, _, _, _, hi, _ => hi.elim
  | _ :: _, [], _, _, _, hi, _ => hi.elim
theorem alT_mem {l : List Au} {e : Int} : e ∈ alT l ↔ ∃ a ∈ l, e ∈ a.al := by
  have key : ∀ (l : List Au) (z : List Int), e ∈ l.foldl (fun z a => un z a.al) z ↔ e ∈ z ∨ ∃ a ∈ l, e ∈ a.al := by
    intro l
    induction l with
    | nil => simp
    | cons a l ih => intro z; rw [List.foldl_cons, ih, mem_un]; simp [or_assoc]
  rw [alT, key]; simp
theorem alT_sorted {l : List Au} (h : ∀ a ∈ l, RightW a) : (alT l).Pairwise (· < ·) := by
  have key : ∀ (l : List Au) (z : List Int), (∀ a ∈ l, RightW a) → z.Pairwise (· < ·) → (l.foldl (fun z a => un z a.al) z).Pairwise (· < ·) := by
    intro l
    induction l with
    | nil => intro z _ hz; exact hz
    | cons a l ih => intro z h hz; exact ih _ (fun b hb => h b (List.mem_cons_of_mem _ hb)) (un_sorted _ _ hz (h a (List.mem_cons_self ..)).alo)
  exact key l [] h List.Pairwise.nil
theorem alT_range {l : List Au} (h : ∀ a ∈ l, RightW a) : ∀ x ∈ alT l, 0 ≤ x ∧ x < 32 := fun x hx => by
  obtain ⟨a, ha, hm⟩ := alT_mem.1 hx
  exact (h a ha).alr x hm
theorem sts_in_zero {l : List Au} (hp : posT l = true) : InT (stsT l) ((stsT l).map fun _ => 0) := by
  rw [← dc_zero]; exact dc_in 0 (posT_iff.1 hp)
theorem filterMap_lt {P : Int → Option Ed} {zs : List Int} {x : Int} (hz : zs.Pairwise (· < ·)) (hP : ∀ e y, P e = some y → y.f = x ∧ y.e = e) : (zs.filterMap P).Pairwise ltE := by
  rw [List.pairwise_filterMap]
  refine hz.imp fun {a b} hab y hy z hz => ?_
  obtain ⟨h1, h2⟩ := hP a y hy
  obtain ⟨h3, h4⟩ := hP b z hz
  exact .inr ⟨by rw [h1, h3], by rw [h2, h4]; exact hab⟩
theorem prod_edge {l : List Au} {y : Ed} : y ∈ (prodA l).ed ↔ posT l = true ∧ ∃ x : Nat, x < (prT (stsT l)).toNat ∧ y.f = (x : Int) ∧ y.e ∈ alT l ∧ ∃ t, stpT l (dcT (stsT l) (x : Int)) y.e = some t ∧ y.t = cdT (stsT l) t := by
  unfold prodA
  cases hp : posT l with
  | false => simp
  | true =>
    simp only [if_true, List.mem_flatMap, List.mem_range, List.mem_filterMap, Option.map_eq_some_iff, true_and]
    constructor
    · rintro ⟨x, hx, e, he, t, ht, rfl⟩; exact ⟨x, hx, rfl, he, t, ht, rfl⟩
    · rintro ⟨x, hx, h1, he, t, ht, h2⟩
      obtain ⟨f, e, u⟩ := y
      simp only at h1 h2 he ht
      subst h1 h2
      exact ⟨x, hx, e, he, t, ht, rfl⟩
theorem prod_right {l : List Au} (h : ∀ a ∈ l, RightW a) : RightW (prodA l) where
  alr := alT_range h
  alo := alT_sorted h
  st0 := by
    unfold prodA; simp only
    split
    · rename_i hp; exact Int.le_of_lt (prT_pos (posT_iff.1 hp))
    · exact Int.le_refl _
  mrr x hx := by
    unfold prodA at hx ⊢; simp only at hx ⊢
    split at hx
    · rename_i hp
      rw [if_pos hp]
      obtain ⟨y, hy, rfl⟩ := List.mem_map.1 hx
      have h1 := List.mem_range.1 (List.mem_filter.1 hy).1
      have h2 := prT_pos (posT_iff.1 hp)
      omega
    · simp at hx
  mro := by
    unfold prodA; simp only
    split
    · rw [List.pairwise_map]
      exact (List.Pairwise.filter _ List.pairwise_lt_range).imp fun h => by omega
    · exact List.Pairwise.nil
  edr y hy := by
    obtain ⟨hp, x, hx, h1, h2, t, ht, h3⟩ := prod_edge.1 hy
    have hpos := posT_iff.1 hp
    have h5 := cd_range (stp_in h (dc_in _ hpos) ht)
    have h6 := prT_pos hpos
    have hs : (prodA l).st = prT (stsT l) := by unfold prodA; simp [hp]
    rw [hs, h1, h3]
    exact ⟨by omega, h5, h2⟩
  edo := by
    unfold prodA; simp only
    split
    · rw [List.pairwise_flatMap]
      refine ⟨fun x _ => filterMap_lt (x := (x : Int)) (alT_sorted h) fun e y hy => ?_, List.pairwise_lt_range.imp fun {a b} hab y hy z hz => ?_⟩
      · obtain ⟨t, _, rfl⟩ := Option.map_eq_some_iff.1 hy; exact ⟨rfl, rfl⟩
      · obtain ⟨_, _, h1⟩ := List.mem_filterMap.1 hy
        obtain ⟨_, _, h2⟩ := List.mem_filterMap.1 hz
        obtain ⟨_, _, rfl⟩ := Option.map_eq_some_iff.1 h1
        obtain ⟨_, _, rfl⟩ := Option.map_eq_some_iff.1 h2
        exact .inl (by simp; omega)
    · exact List.Pairwise.nil
theorem prod_st {l : List Au} (hp : posT l = true) : (prodA l).st = prT (stsT l) := by unfold prodA; simp [hp]
theorem prod_st0 {l : List Au} (hp : posT l = false) : (prodA l).st = 0 := by unfold prodA; simp [hp]
/-- The step of the numbers is that of the tuples. -/
theorem prod_step {l : List Au} (h : ∀ a ∈ l, RightW a) (hp : posT l = true) {qs : List Int} (hq : InT (stsT l) qs) {e : Int} (he : e ∈ alT l) : stepO (prodA l) (cdT (stsT l) qs) e = (stpT l qs e).map (cdT (stsT l)) := by
  obtain ⟨r1, r2⟩ := cd_range hq
  cases hs : stpT l qs e with
  | none =>
    rw [stepO, edgeO_none.2]
    · rfl
    · rintro y hy ⟨h1, h2⟩
      obtain ⟨_, x, hx, h3, h4, t, ht, _⟩ := prod_edge.1 hy
      rw [← h3, h1, dc_cd hq, h2, hs] at ht
      cases ht
  | some t =>
    have : edgeO (prodA l).ed (cdT (stsT l) qs) e = some ⟨cdT (stsT l) qs, e, cdT (stsT l) t⟩ := by
      rw [edgeO_some (prod_right h).edo]
      refine ⟨prod_edge.2 ⟨hp, (cdT (stsT l) qs).toNat, by omega, by simp; omega, he, t, ?_, rfl⟩, rfl, rfl⟩
      rw [show ((cdT (stsT l) qs).toNat : Int) = cdT (stsT l) qs by omega, dc_cd hq]; exact hs
    rw [stepO, this]; rfl
theorem prod_mark {l : List Au} (hp : posT l = true) {qs : List Int} (hq : InT (stsT l) qs) : cdT (stsT l) qs ∈ (prodA l).mr ↔ mkT l qs = true := by
  obtain ⟨r1, r2⟩ := cd_range hq
  unfold prodA
  simp only [hp, if_true, List.mem_map, List.mem_filter, List.mem_range]
  constructor
  · rintro ⟨x, ⟨hx, hm⟩, e⟩
    rw [e, dc_cd hq] at hm; exact hm
  · intro hm
    refine ⟨(cdT (stsT l) qs).toNat, ⟨by omega, ?_⟩, by omega⟩
    rw [show ((cdT (stsT l) qs).toNat : Int) = cdT (stsT l) qs by omega, dc_cd hq]; exact hm
end Go.Proofs.YtedleffmbddccaaDoor

/- Layer 6: tuples in memory; alphabet.Contains; the step of all automata. -/
namespace Go.Proofs.YtedleffmbddccaaDoor
open Go.RowKit Go.Sort

set_option maxHeartbeats 400000 in
theorem aContains_any (A : Option Addr) (n c Bx : Nat) (zs : List Int) (x : Int) (w : World) (hx : RdI w Bx A zs) (hn : zs.length = n) (hb : n ≤ 140737488355328) (hup : Up zs) :
    Calls Tryd.prog 65 #[.slice A n c, .int .i64 x] w fun e w' => e = .returned (.bool (decide (x ∈ zs))) ∧ w = w' := by
  have H := Lib.hid (fun W (h : RdI W Bx A zs) => search_any A n c Bx zs x W h hn hb hup)
  obtain ⟨v, hv⟩ : ∃ v, v = decide (x ∈ zs) := ⟨_, rfl⟩
  clear hn hup
  go_enter Tryd.func65, Tryd.ntmps65
  go_wp2_with (go_at_call 84; refine (H.out _ hx).mono ?_; rintro e w' ⟨⟨i, _, rfl⟩, rfl⟩)
  go_ret
  exact ⟨rfl, rfl⟩

/-- A tuple as a value. -/
def encT (t : List Int) : List Value := t.map (Value.int .i64)
theorem encT_len (t : List Int) : (encT t).length = t.length := by simp [encT]
theorem encT_at {t : List Int} {i : Nat} (h : i < t.length) : (encT t)[i]? = some (.int .i64 (t.getD i 0)) := by
  simp [encT, List.getElem?_map, List.getD, List.getElem?_eq_getElem h]
theorem encT_set (t : List Int) (i : Nat) (x : Int) : (encT t).set i (.int .i64 x) = encT (t.set i x) := by simp [encT, List.map_set]
theorem encT_one (t : List Int) : (encT t).toArray.all (·.oneCell') = true := Go.all_oneCell_toArray fun v hv => by
  obtain ⟨x, _, rfl⟩ := List.mem_map.1 hv; rfl
def zeroT : List Int := List.replicate 12 0
theorem zeroT_enc : (encT zeroT).toArray = #[.int .i64 0, .int .i64 0, .int .i64 0, .int .i64 0, .int .i64 0, .int .i64 0, .int .i64 0, .int .i64 0, .int .i64 0, .int .i64 0, .int .i64 0, .int .i64 0] := rfl
theorem states_size : (Tryd.prog.info? 92).map (·.size) = some 12 := by kernel_rfl
/-- At this address lie the twelve cells of a tuple. -/
def StAt (w : World) (b o : Nat) (t : List Int) : Prop := t.length = 12 ∧ w.rangeAt b o (encT t)
theorem StAt.size {w : World} {b o : Nat} {t : List Int} (h : StAt w b o t) : (Tryd.prog.info? 92).map (·.size) = some (encT t).length := by rw [states_size, encT_len, h.1]
theorem StAt.cell {w : World} {b o : Nat} {t : List Int} (h : StAt w b o t) {i : Nat} (hi : i < 12) : w.cell? ⟨b, o + i, none⟩ = some (.int .i64 (t.getD i 0)) := h.2 i _ (encT_at (by rw [h.1]; exact hi))
theorem StAt.row {w : World} {b : Nat} {t : List Int} (hl : t.length = 12) (h : Row w b 92 (encT t)) : StAt w b 0 t := ⟨hl, fun i v hi => by rw [Nat.zero_add]; exact h.cell i hi⟩

/-- The bits of a list of numbers, as the machine joins them. -/
def maskZ (zs : List Int) : Int := zs.foldl (fun a x => bits BinOp.or IntKind.u32 a (2 ^ x.toNat % 4294967296)) 0
theorem maskZ_snoc (zs : List Int) (x : Int) : maskZ (zs ++ [x]) = bits BinOp.or IntKind.u32 (maskZ zs) (2 ^ x.toNat % 4294967296) := by
  unfold maskZ; rw [List.foldl_append]; rfl

/-- The automata's step, one after another from place i on: the tuple behind it (without meaning if an automaton refuses), and the automata that refuse. -/
def stG : List Au → Nat → List Int → Int → List Int
  | [], _, t, _ => t
  | a :: l, i, t, e => stG l (i + 1) (if e ∈ a.al then t.set i ((stepO a (t.getD i 0) e).getD 0) else t) e
def rfG : List Au → Nat → List Int → Int → List Int
  | [], _, _, _ => []
  | a :: l, i, t, e => (if e ∈ a.al ∧ stepO a (t.getD i 0) e = none then [(i : Int)] else []) ++ rfG l (i + 1) t e
theorem stG_len : ∀ (l : List Au) (i : Nat) (t : List Int) (e : Int), (stG l i t e).length = t.length
  | [], _, _, _ => rfl
  | a :: l, i, t, e => by rw [stG, stG_len l]; split <;> simp
theorem getD_set_ne {t : List Int} {i j : Nat} {x : Int} (h : i ≠ j) : (t.set i x).getD j 0 = t.getD j 0 := by
  simp [List.getD, List.getElem?_set_ne h]
theorem stG_far : ∀ (l : List Au) (i : Nat) (t : List Int) (e : Int) (j : Nat), i + l.length ≤ j → (stG l i t e).getD j 0 = t.getD j 0
  | [], _, _, _, _, _ => rfl
  | a :: l, i, t, e, j, h => by
    rw [List.length_cons] at h
    rw [stG, stG_far l (i + 1) _ e j (by omega)]
    split
    · exact getD_set_ne (by omega)
    · rfl
theorem stG_snoc : ∀ (l : List Au) (a : Au) (i : Nat) (t : List Int) (e : Int), stG (l ++ [a]) i t e = if e ∈ a.al then (stG l i t e).set (i + l.length) ((stepO a (t.getD (i + l.length) 0) e).getD 0) else stG l i t e
  | [], a, i, t, e => by simp [stG]
  | b :: l, a, i, t, e => by
    rw [List.cons_append, stG, stG_snoc l a (i + 1), stG, List.length_cons, show i + 1 + l.length = i + (l.length + 1) by omega]
    have : ∀ t' : List Int, (t' = t ∨ ∃ x, t' = t.set i x) → t'.getD (i + (l.length + 1)) 0 = t.getD (i + (l.length + 1)) 0 := by
      rintro t' (rfl | ⟨x, rfl⟩)
      · rfl
      · exact getD_set_ne (by omega)
    rw [this _ (by split
                   · exact .inr ⟨_, rfl⟩
                   · exact .inl rfl)]
theorem rfG_snoc : ∀ (l : List Au) (a : Au) (i : Nat) (t : List Int) (e : Int), rfG (l ++ [a]) i t e = rfG l i t e ++ (if e ∈ a.al ∧ stepO a (t.getD (i + l.length) 0) e = none then [((i + l.length : Nat) : Int)] else [])
  | [], a, i, t, e => by simp [rfG]
  | b :: l, a, i, t, e => by
    rw [List.cons_append, rfG, rfG_snoc l a (i + 1), rfG, List.length_cons, show i + 1 + l.length = i + (l.length + 1) by omega, List.append_assoc]
theorem rfG_len : ∀ (l : List Au) (i : Nat) (t : List Int) (e : Int), (rfG l i t e).length ≤ l.length
  | [], _, _, _ => Nat.le_refl _
  | a :: l, i, t, e => by
    have := rfG_len l (i + 1) t e
    rw [rfG, List.length_append, List.length_cons]
    split <;> simp <;> omega

/-- What the step's walk keeps. -/
structure SB (w : World) (t : List Int) (wr : World) : Prop where
  bel : Below w.heap.size w wr
  row : Row wr w.heap.size 92 (encT t)
  res : Row wr (w.heap.size + 1) 92 (encT zeroT)
theorem SB.call {w wr w' : World} {t : List Int} (h : SB w t wr) (hb : Below wr.heap.size wr w') : SB w t w' :=
  ⟨h.bel.trans (hb.mono h.bel.size), h.row.below hb h.row.lt, h.res.below hb h.res.lt⟩
theorem SB.alloc {w wr : World} {t : List Int} (h : SB w t wr) (o : Obj) : SB w t (wr.alloc o) := h.call ((Below.refl _ wr).alloc (Nat.le_refl _) o)
theorem SB.drew {w wr : World} {t : List Int} (h : SB w t wr) : SB w t wr.drew := ⟨h.bel.drew, h.row, h.res⟩
theorem SB.set {w wr : World} {t : List Int} (h : SB w t wr) (i : Nat) (x : Int) : SB w (t.set i x) (wr.setCell ⟨w.heap.size, i, none⟩ (.int .i64 x)) :=
  ⟨h.bel.setCell (Nat.le_refl _) _, by rw [← encT_set]; exact h.row.set i _, h.res.setOther (by simp) _⟩
theorem SB.made {w : World} {t : List Int} : SB w t ((w.alloc (.cells (encT t).toArray 92)).alloc (.cells (encT zeroT).toArray 92)) :=
  ⟨((Below.refl _ w).alloc (Nat.le_refl _) _).alloc (by simp) _, (Row.new w (encT t) 92).alloc _, by
    have := Row.new (w.alloc (.cells (encT t).toArray 92)) (encT zeroT) 92
    simpa using this⟩
end Go.Proofs.YtedleffmbddccaaDoor

/- Layer 6: the step of all automata, walked. -/
namespace Go.Proofs.YtedleffmbddccaaDoor
open Go.RowKit Go.Sort

set_option maxHeartbeats 8000000 in
set_option maxRecDepth 100000 in
theorem pStep1_any (A : Option Addr) (n c : Nat) (l : List Au) (t : List Int) (ev : Int) (bl : Nat) (w : World) (h : RdAs w w.heap.size A l) (hn : l.length = n) (hn12 : n ≤ 12) (hr : ∀ a ∈ l, RightW a) (ht : t.length = 12)
    (hbl : bl < w.heap.size) (hcl : w.cell? ⟨bl, 0, none⟩ = some (.slice A n c)) :
    Calls Tryd.prog 76 #[.agg (encT t).toArray, .int .i64 ev, .pointer (some ⟨bl, 0, none⟩)] w fun e w' => e = .returned (.tuple #[.agg (encT (stG l 0 t ev)).toArray, .int .u32 (maskZ (rfG l 0 t ev))]) ∧ Below w.heap.size w w' := by
  have HL := Lib.hid h
  have HN := Lib.hid hn
  have HRI := Lib.hid hr
  have HT := Lib.hid ht
  have HSB0 := Lib.hid (SB.made (w := w) (t := t))
  rw [zeroT_enc] at HSB0
  have c0 := HSB0.out.bel.cell (p := ⟨bl, 0, none⟩) hbl
  rw [hcl] at c0
  have HCL := Lib.hid (fun (W : World) (hW : Below w.heap.size w W) => (hW.cell (p := ⟨bl, 0, none⟩) hbl).trans hcl)
  clear h hn hr ht hcl
  go_enter Tryd.func76, Tryd.ntmps76
  go_wp2_with fail
  clear c0
  go_loopw [7, 14] (fun m i wr => ∃ k : Nat, k ≤ n ∧ i = .int .i64 k ∧ m = .int .u32 (maskZ (rfG (l.take k) 0 t ev)) ∧ Hid (SB w (stG (l.take k) 0 t ev) wr)) (fun _ i _ => n - (intOf i).toNat)
  case atStart => exact ⟨0, Nat.zero_le _, rfl, rfl, HSB0⟩
  case round =>
    clear HSB0
    obtain ⟨k, hkn, rfl, rfl, hsb⟩ := hrel
    obtain ⟨t', ht'⟩ : ∃ t', t' = stG (l.take k) 0 t ev := ⟨_, rfl⟩
    obtain ⟨rs, hrs⟩ : ∃ rs, rs = rfG (l.take k) 0 t ev := ⟨_, rfl⟩
    rw [← ht'] at hsb
    rw [← hrs]
    have HT' := Lib.hid ht'
    have HRS := Lib.hid hrs
    have htl := Lib.hid (show t'.length = 12 by rw [ht', stG_len, HT.out])
    have hsz := hsb.out.bel.size
    have hz3 := hsb.out.row.lt
    have hz5 := hsb.out.res.lt
    clear ht' hrs
    by_cases hlt : k < n
    · obtain ⟨a, ha⟩ : ∃ a, l[k]? = some a := ⟨_, List.getElem?_eq_getElem (by rw [HN.out]; exact hlt)⟩
      have HA := Lib.hid (HRI.out a (List.mem_of_getElem? ha))
      obtain ⟨b, o, rfl, hb, hc⟩ := HL.out (by rw [HN.out]; omega)
      obtain ⟨A1, n1, c1, s1, M1, m1, d1, E1, k1, g1, h0, h1, h2, h3, hr⟩ := hc k a ha
      have p0 := (hsb.out.bel.cell (p := ⟨b, o + k * 4, none⟩) hb).trans h0
      have p1 := (hsb.out.bel.cell (p := ⟨b, o + k * 4 + 1, none⟩) hb).trans h1
      have p2 := (hsb.out.bel.cell (p := ⟨b, o + k * 4 + 2, none⟩) hb).trans h2
      have p3 := (hsb.out.bel.cell (p := ⟨b, o + k * 4 + 3, none⟩) hb).trans h3
      have HR := Lib.hid ((hr.below hsb.out.bel (Nat.le_refl _)).more hsb.out.bel.size)
      have HTK := Lib.hid (take_au ha)
      have hlk : (l.take k).length = k := by rw [List.length_take, HN.out]; omega
      have hst := Lib.hid (stG_snoc (l.take k) a 0 t ev)
      have hrf := Lib.hid (rfG_snoc (l.take k) a 0 t ev)
      have hfar := stG_far (l.take k) 0 t ev k (by omega)
      rw [Nat.zero_add, hlk] at hst hrf
      rw [← HTK.out, ← hfar, ← HT'.out] at hst hrf
      rw [← HRS.out] at hrf
      obtain ⟨q, hq⟩ : ∃ q, q = t'.getD k 0 := ⟨_, rfl⟩
      rw [← hq] at hst hrf
      have HQ := Lib.hid hq
      have w0 : (k : Int) < (n : Int) := by omega
      have w1 : (0 : Int) ≤ (k : Int) := by omega
      have w2 : (k : Int) < 12 := by omega
      have w3 : k < 12 := by omega
      have HLK := Lib.hid hlk
      have hsbA := Lib.hid (fun (cs : Array Value) (T : TypeId) => hsb.out.alloc (.cells cs T))
      have HRa := Lib.hid (fun (cs : Array Value) (T : TypeId) => ((HR.out.below ((Below.refl wr.heap.size wr).alloc (Nat.le_refl _) (.cells cs T)) (Nat.le_refl _)).more (by simp) : AuR (wr.alloc (.cells cs T)) (wr.alloc (.cells cs T)).heap.size A1 n1 c1 s1 M1 m1 d1 E1 k1 g1 a))
      have HCn := Lib.hid (fun (cs : Array Value) (T : TypeId) => aContains_any A1 n1 c1 _ a.al ev _ (HRa.out cs T).al HR.out.hn (by have := HR.out.bn; omega) HA.out.up)
      clear h0 h1 h2 h3 hc ha hr hfar hlk hq
      by_cases hin : ev ∈ a.al
      · rw [if_pos hin] at hst
        have hin2 : decide (ev ∈ a.al) = true := decide_eq_true hin
        rw [hin2] at HCn
        have HIN := Lib.hid hin
        obtain ⟨tg, htg⟩ : ∃ tg, tg = (stepO a q ev).getD 0 := ⟨_, rfl⟩
        obtain ⟨ps, hps⟩ : ∃ ps, ps = (stepO a q ev).isSome := ⟨_, rfl⟩
        rw [← htg] at hst
        have HPS := Lib.hid hps
        have HTg := Lib.hid (fun (W : World) (hW : RdG W wr.heap.size E1 a.ed) (hz : wr.heap.size ≤ W.heap.size) => by
          have := pTarget_any E1 k1 g1 wr.heap.size a q ev W hW hz HR.out.hk HR.out.bk HA.out.edo
          rw [← htg, ← hps] at this; exact this)
        have HEd := Lib.hid HR.out.ed
        have HTGV := Lib.hid htg
        clear hin hin2 htg hps
        have f3 : (wr.alloc (.cells #[.slice A1 n1 c1, .int .i64 s1, .slice M1 m1 d1, .slice E1 k1 g1] 34)).cell? ⟨wr.heap.size, 3, none⟩ = some (.slice E1 k1 g1) := (Row.new wr [.slice A1 n1 c1, .int .i64 s1, .slice M1 m1 d1, .slice E1 k1 g1] 34).cell 3 rfl
        have fq : (wr.alloc (.cells #[.slice A1 n1 c1, .int .i64 s1, .slice M1 m1 d1, .slice E1 k1 g1] 34)).cell? ⟨w.heap.size, k, none⟩ = some (.int .i64 q) := by
          have := (hsbA.out #[.slice A1 n1 c1, .int .i64 s1, .slice M1 m1 d1, .slice E1 k1 g1] 34).row.cell k (encT_at (by rw [htl.out]; exact w3))
          rw [this, HQ.out]
        have HBA := Lib.hid ((Below.refl wr.heap.size wr).alloc (Nat.le_refl _) (.cells #[.slice A1 n1 c1, .int .i64 s1, .slice M1 m1 d1, .slice E1 k1 g1] 34))
        have HT1 := Lib.hid (HTg.out (wr.alloc (.cells #[.slice A1 n1 c1, .int .i64 s1, .slice M1 m1 d1, .slice E1 k1 g1] 34)) (HEd.out.below HBA.out (Nat.le_refl _)) HBA.out.size)
        have HT2 := Lib.hid (HTg.out (wr.alloc (.cells #[.slice A1 n1 c1, .int .i64 s1, .slice M1 m1 d1, .slice E1 k1 g1] 34)).drew (HEd.out.below HBA.out.drew (Nat.le_refl _)) HBA.out.size)
        have HSA := Lib.hid (hsbA.out #[.slice A1 n1 c1, .int .i64 s1, .slice M1 m1 d1, .slice E1 k1 g1] 34)
        have hza : wr.heap.size < (wr.alloc (.cells #[.slice A1 n1 c1, .int .i64 s1, .slice M1 m1 d1, .slice E1 k1 g1] 34)).heap.size := by simp
        have hzb : w.heap.size < (wr.alloc (.cells #[.slice A1 n1 c1, .int .i64 s1, .slice M1 m1 d1, .slice E1 k1 g1] 34)).heap.size := by simp; omega
        clear HTg hsbA HRa
        go_wp2_with fail
        refine (HCn.out _ _).mono ?_
        rintro e w4 ⟨rfl, rfl⟩
        clear HCn
        generalize (wr.alloc (.cells #[.slice A1 n1 c1, .int .i64 s1, .slice M1 m1 d1, .slice E1 k1 g1] 34)) = wA at *
        go_wp2_with fail
        go_upto_region 6 with fail
        go_cut [10, 11] from 24 to 43 (fun v p wx => v = .int .i64 tg ∧ p = .bool ps ∧ Hid (Below wA.heap.size wA wx))
        case first =>
          go_region_held3 (fun w' => w'.cell? ⟨wr.heap.size, 3, none⟩ = some (.slice E1 k1 g1) ∧ w'.cell? ⟨w.heap.size, k, none⟩ = some (.int .i64 q)) (first | with_reducible exact ⟨f3, fq⟩ | go_keep)
            (first | (go_simp; go_at_call 77; (first | with_reducible refine HT1.out.mono ?_ | with_reducible refine HT2.out.mono ?_); rintro e w5 ⟨rfl, hb5⟩
                      have HB5 := Lib.hid (by first | exact hb5 | exact (Below.refl wA.heap.size wA).drew.trans hb5 : Below wA.heap.size wA w5)
                      have f3 := (HB5.out.cell (p := ⟨wr.heap.size, 3, none⟩) hza).trans f3
                      have fq := (HB5.out.cell (p := ⟨w.heap.size, k, none⟩) hzb).trans fq
                      clear hb5))
          all_goals
            go_wp2_with fail
            go_meet
            case rel => exact ⟨rfl, rfl, by first | exact HB5 | exact Lib.hid HB5.out.drew⟩
        case rest =>
          obtain ⟨rfl, rfl, hbx⟩ := hcut
          have HSC := Lib.hid (HSA.out.call hbx.out)
          have fz := HSC.out.row.frozen k
          have hcz := HSC.out.bel.size
          have fk := HSC.out.row.cell k (encT_at (by rw [htl.out]; exact w3))
          clear f3 fq HT1 HT2 HSA hbx
          cases ps
          · have hno := Lib.hid (show stepO a q ev = none by
              have hp := HPS.out
              cases hh : stepO a q ev with
              | none => rfl
              | some y => rw [hh] at hp; cases hp)
            rw [if_pos ⟨HIN.out, hno.out⟩] at hrf
            have hmk := Lib.hid (maskZ_snoc rs (k : Int))
            go_wp2_with fail
            go_roundw
            case rel => exact ⟨k + 1, by omega, by go_num, by rw [hrf.out, hmk.out]; simp, by rw [hst.out]; exact Lib.hid (HSC.out.set k tg)⟩
            case measure => simp [intOf]; omega
          · have hno := Lib.hid (show stepO a q ev ≠ none by
              have hp := HPS.out
              intro hh
              rw [hh] at hp; cases hp)
            rw [if_neg (fun h => hno.out h.2), List.append_nil] at hrf
            go_wp2_with fail
            go_roundw
            case rel => exact ⟨k + 1, by omega, by go_num, by rw [hrf.out], by rw [hst.out]; exact Lib.hid (HSC.out.set k tg)⟩
            case measure => simp [intOf]; omega
      · rw [if_neg hin] at hst
        rw [if_neg (fun h => hin h.1), List.append_nil] at hrf
        rw [decide_eq_false hin] at HCn
        clear hin
        go_wp2_with fail
        refine (HCn.out _ _).mono ?_
        rintro e w4 ⟨rfl, rfl⟩
        go_wp2_with fail
        go_roundw
        case rel => exact ⟨k + 1, by omega, by go_num, by rw [hrf.out], by rw [hst.out]; exact Lib.hid (hsbA.out _ _)⟩
        case measure => simp [intOf]; omega
    · obtain rfl : k = n := by omega
      have HTA := Lib.hid (show l.take k = l from List.take_of_length_le (by rw [HN.out]; exact Nat.le_refl _))
      rw [HTA.out] at HT' HRS
      have HRT := Lib.hid (show t' = stG l 0 t ev from HT'.out)
      have HRR := Lib.hid (show rs = rfG l 0 t ev from HRS.out)
      have hold := Lib.hid hsb.out.res
      have HST := Lib.hid (StAt.row htl.out hsb.out.row)
      have hone := Lib.hid (encT_one t')
      have hsz' := Lib.hid (show (Tryd.prog.info? 92).map (·.size) = some (encT t').length by rw [states_size, encT_len, htl.out])
      go_wp2_with (first
        | refine wpList_load_mid rfl 92 (.tmp 3) rfl w.heap.size 0 rfl (encT t') _ HST.out.2 Tryd.underlying92 rfl hsz'.out ?_
        | refine wpList_store_row rfl 92 (.tmp 5) (.tmp 44) rfl (w.heap.size + 1) (encT t').toArray rfl rfl 92 (encT zeroT).toArray hold.out (by simpa using hsz'.out) (by simp [encT_len, htl.out, zeroT]) hone.out ?_)
      have hrow2 := setRow_heap wr (w.heap.size + 1) _ (encT t').toArray _ _ hold.out
      refine bodyPost_ret (v := .tuple #[.agg (encT t').toArray, .int .u32 (maskZ rs)]) ?_ rfl ⟨by rw [HRT.out, HRR.out], below_setRow hsb.out.bel (by omega) _⟩
      rw [results_cell_tmp1 rfl]
      have hld := run_loadVar_mid (P := Tryd.prog) (wr.setRow (w.heap.size + 1) (encT t').toArray) (w.heap.size + 1) 0 92 (encT t') _ (StAt.row htl.out (show Row _ _ _ _ from hrow2)).2 Tryd.underlying92 rfl hsz'.out
      simp [asAddr, hld, Result.andThen]
end Go.Proofs.YtedleffmbddccaaDoor

/- Layer 6: hasInitial. -/
namespace Go.Proofs.YtedleffmbddccaaDoor
open Go.RowKit Go.Sort

theorem callIni (args : Array Value) (W : World) : (callFunc 91 args).run Tryd.prog W = .ok (.enter 91 args) W := by
  first | kernel_rfl | rfl
theorem ini1_any (A : Option Addr) (n c : Nat) (s : Int) (M : Option Addr) (m d : Nat) (E : Option Addr) (k g : Nat) (w : World) : Calls Tryd.prog 91 #[.agg #[.slice A n c, .int .i64 s, .slice M m d, .slice E k g]] w fun e w' => e = .returned (.bool (decide (s = 0))) ∧ Below w.heap.size w w' := by
  have hb := Lib.hid ((Below.refl w.heap.size w).alloc (Nat.le_refl _) (.cells #[.slice A n c, .int .i64 s, .slice M m d, .slice E k g] 34))
  by_cases hs : s = 0
  · have hsb : (s == 0) = true := by simp [hs]
    have hd := Lib.hid (show decide (s = 0) = true from decide_eq_true hs)
    rw [hd.out]
    clear hs
    go_enter Tryd.func91, Tryd.ntmps91
    go_wp2_with fail
    go_ret
    exact ⟨rfl, hb.out⟩
  · have hsb : (s == 0) = false := by simp [hs]
    have hd := Lib.hid (show decide (s = 0) = false from decide_eq_false hs)
    rw [hd.out]
    clear hs
    go_enter Tryd.func91, Tryd.ntmps91
    go_wp2_with fail
    go_ret
    exact ⟨rfl, hb.out⟩
/-- The place of the first automaton without states, or -1. -/
def iniGo : Nat → List Au → Int
  | _, [] => -1
  | i, a :: l => if a.st = 0 then (i : Int) else iniGo (i + 1) l
theorem iniGo_neg : ∀ {l : List Au} {i : Nat}, iniGo i l < 0 ↔ ∀ a ∈ l, a.st ≠ 0
  | [], i => by simp [iniGo]
  | a :: l, i => by
    rw [iniGo]
    split
    · rename_i h
      exact ⟨fun e => by omega, fun e => absurd h (e a (List.mem_cons_self ..))⟩
    · rename_i h
      rw [iniGo_neg]
      simp only [List.mem_cons, forall_eq_or_imp]
      exact ⟨fun e => ⟨h, e⟩, fun e => e.2⟩

set_option maxHeartbeats 2000000 in
set_option maxRecDepth 20000 in
theorem indexIni_any (A : Option Addr) (n c : Nat) (l : List Au) (B : Nat) (w : World) (h : RdAs w B A l) (hB : B ≤ w.heap.size) (hn : l.length = n) (hnb : n ≤ 1000000) :
    Calls Tryd.prog 103 #[.slice A n c, .func (.func 91) #[] #[]] w fun e w' => e = .returned (.int .i64 (iniGo 0 l)) ∧ Below w.heap.size w w' := by
  have HL := Lib.hid h
  have HN := Lib.hid hn
  have HBw := Lib.hid hB
  have hmf := callIni
  obtain ⟨v, hv⟩ : ∃ v, v = iniGo 0 l := ⟨_, rfl⟩
  rw [← hv]
  have HV := Lib.hid (show iniGo 0 (l.drop 0) = v by rw [hv]; rfl)
  clear h hB hn hv
  go_enter Tryd.func103, Tryd.ntmps103
  go_wp2_with fail
  go_loopw [8] (fun i wr => ∃ t : Nat, t ≤ n ∧ i = .int .i64 t ∧ Hid (iniGo t (l.drop t) = v) ∧ Hid (Below w.heap.size w wr)) (fun i _ => n - (intOf i).toNat)
  case atStart => exact ⟨0, Nat.zero_le _, rfl, HV, Lib.hid (Below.refl _ _)⟩
  case round =>
    clear HV
    obtain ⟨t, htn, rfl, hv, hbel⟩ := hrel
    by_cases hlt : t < n
    · obtain ⟨a, ha⟩ : ∃ a, l[t]? = some a := ⟨_, List.getElem?_eq_getElem (by rw [HN.out]; exact hlt)⟩
      obtain ⟨b, o, rfl, hb, hc⟩ := HL.out (by rw [HN.out]; omega)
      obtain ⟨A1, n1, c1, s1, M1, m1, d1, E1, k1, g1, h0, h1, h2, h3, hr⟩ := hc t a ha
      have hbw : b < w.heap.size := Nat.lt_of_lt_of_le hb HBw.out
      have p0 := (hbel.out.cell (p := ⟨b, o + t * 4, none⟩) hbw).trans h0
      have p1 := (hbel.out.cell (p := ⟨b, o + t * 4 + 1, none⟩) hbw).trans h1
      have p2 := (hbel.out.cell (p := ⟨b, o + t * 4 + 2, none⟩) hbw).trans h2
      have p3 := (hbel.out.cell (p := ⟨b, o + t * 4 + 3, none⟩) hbw).trans h3
      have hst := hr.st
      have hv2 := hv.out
      rw [drop_au ha, iniGo, hst] at hv2
      have HC := Lib.hid (ini1_any A1 n1 c1 s1 M1 m1 d1 E1 k1 g1 wr)
      have w0 : (t : Int) < (n : Int) := by omega
      have w1 : (0 : Int) ≤ (t : Int) := by omega
      by_cases hs0 : s1 = 0
      · rw [if_pos hs0] at hv2
        rw [decide_eq_true hs0] at HC
        clear hv hr h0 h1 h2 h3 hc ha hst hs0
        subst hv2
        go_wp2_with fail
        refine HC.out.mono ?_
        rintro e w4 ⟨rfl, hb4⟩
        have hb5 := Lib.hid (hbel.out.trans (hb4.mono hbel.out.size))
        clear hb4 p0 p1 p2 p3
        go_wp2_with fail
        go_ret
        exact ⟨rfl, hb5.out⟩
      · rw [if_neg hs0] at hv2
        rw [decide_eq_false hs0] at HC
        have HV2 := Lib.hid hv2
        clear hv hr h0 h1 h2 h3 hc ha hst hs0 hv2
        go_wp2_with fail
        refine HC.out.mono ?_
        rintro e w4 ⟨rfl, hb4⟩
        have hb5 := Lib.hid (hbel.out.trans (hb4.mono hbel.out.size))
        clear hb4 p0 p1 p2 p3
        go_wp2_with fail
        go_roundw
        case rel => exact ⟨t + 1, by omega, by go_num, HV2, hb5⟩
        case measure => simp [intOf]; omega
    · obtain rfl : t = n := by omega
      obtain rfl : v = -1 := by have := hv.out; rw [List.drop_of_length_le (by rw [HN.out]; omega), iniGo] at this; exact this.symm
      clear hv
      go_wp2_with fail
      go_ret
      exact ⟨rfl, hbel.out⟩
/-- Whether all automata have a state. -/
def iniB (l : List Au) : Bool := l.all fun a => decide (a.st ≠ 0)
theorem iniB_iff {l : List Au} : iniB l = true ↔ ∀ a ∈ l, a.st ≠ 0 := by simp [iniB]
theorem pIni_any (A : Option Addr) (n c : Nat) (l : List Au) (B : Nat) (w : World) (h : RdAs w B A l) (hB : B ≤ w.heap.size) (hn : l.length = n) (hnb : n ≤ 1000000) :
    Calls Tryd.prog 74 #[.slice A n c] w fun e w' => e = .returned (.bool (iniB l)) ∧ Below w.heap.size w w' := by
  have HI := Lib.hid (indexIni_any A n c l B w h hB hn hnb)
  obtain ⟨v, hv⟩ : ∃ v, v = iniGo 0 l := ⟨_, rfl⟩
  have hC : ∀ r : Bool, decide (0 ≤ v) = r → Calls Tryd.prog 90 #[.slice A n c, .func (.func 91) #[] #[]] w fun e w' => e = .returned (.bool r) ∧ Below w.heap.size w w' := by
    intro r hr
    rw [← hv] at HI
    clear hv h hn
    subst hr
    go_enter Tryd.func90, Tryd.ntmps90
    go_wp2_with fail
    refine HI.out.mono ?_
    rintro e w1 ⟨rfl, hb⟩
    have HB := Lib.hid hb
    clear hb
    go_wp2_with fail
    go_ret
    exact ⟨rfl, HB.out⟩
  have hneg := iniGo_neg (l := l) (i := 0)
  rw [← hv] at hneg
  cases hi : iniB l with
  | true =>
    have h1 := iniB_iff.1 hi
    have HC := Lib.hid (hC false (decide_eq_false (by have := hneg.2 h1; omega)))
    clear hC hneg hi h1 h hn hv HI
    go_enter Tryd.func74, Tryd.ntmps74
    go_wp2_with fail
    refine HC.out.mono ?_
    rintro e w1 ⟨rfl, hb⟩
    have HB := Lib.hid hb
    clear hb
    go_wp2_with fail
    go_ret
    exact ⟨rfl, HB.out⟩
  | false =>
    have HC := Lib.hid (hC true (decide_eq_true (by
      by_cases h2 : v < 0
      · have := iniB_iff.2 (hneg.1 h2); rw [hi] at this; cases this
      · exact Int.not_lt.1 h2)))
    clear hC hneg hi h hn hv HI
    go_enter Tryd.func74, Tryd.ntmps74
    go_wp2_with fail
    refine HC.out.mono ?_
    rintro e w1 ⟨rfl, hb⟩
    have HB := Lib.hid hb
    clear hb
    go_wp2_with fail
    go_ret
    exact ⟨rfl, HB.out⟩
end Go.Proofs.YtedleffmbddccaaDoor

/- Layer 6: contracts of the two Unions of layer 1: both hand back, in new memory, the merged list. -/
namespace Go.Proofs.YtedleffmbddccaaDoor
open Go.RowKit

theorem un_nil (xs : List Int) : un xs [] = xs := by cases xs <;> rw [un]
theorem nil_un (ys : List Int) : un [] ys = ys := by rw [un]
theorem un_lt {x y : Int} {xs ys : List Int} (h : x < y) : un (x :: xs) (y :: ys) = x :: un xs (y :: ys) := by rw [un, if_pos h]
theorem un_gt {x y : Int} {xs ys : List Int} (h : y < x) : un (x :: xs) (y :: ys) = y :: un (x :: xs) ys := by rw [un, if_neg (by omega), if_pos h]
theorem un_eq {x y : Int} {xs ys : List Int} (h : x = y) : un (x :: xs) (y :: ys) = x :: un xs ys := by rw [un, if_neg (by omega), if_neg (by omega)]
theorem un_len : ∀ (xs ys : List Int), (un xs ys).length ≤ xs.length + ys.length
  | [], ys => by rw [un]; omega
  | x :: xs, [] => by rw [un]; simp
  | x :: xs, y :: ys => by
    rw [un]
    have h1 := un_len xs (y :: ys)
    have h2 := un_len (x :: xs) ys
    have h3 := un_len xs ys
    simp only [List.length_cons] at *
    split
    · simp only [List.length_cons]; omega
    · split
      · simp only [List.length_cons]; omega
      · simp only [List.length_cons]; omega
termination_by xs ys => xs.length + ys.length

/-- What 'without' makes of a list. -/
def wo (zs : List Int) (x : Int) : List Int := match zs with | [] => [] | z :: r => if z = x then r else z :: r

theorem wo_eq {z x : Int} {r : List Int} (h : z = x) : wo (z :: r) x = r := by rw [wo, if_pos h]
theorem wo_ne {z x : Int} {r : List Int} (h : z ≠ x) : wo (z :: r) x = z :: r := by rw [wo, if_neg h]
theorem rd_tail {w : World} {B b o : Nat} {z : Int} {r : List Int} (h : RdI w B (some ⟨b, o, none⟩) (z :: r)) : RdI w B (some ⟨b, o + 1, none⟩) r := fun h0 => by
  obtain ⟨b', o', e, hb, hc⟩ := h (by simp)
  cases e
  refine ⟨b, o + 1, rfl, hb, fun j hj => ?_⟩
  have := hc (j + 1) (by simp; omega)
  rw [show o + 1 + j = o + (j + 1) from by omega, this]
  simp

set_option maxHeartbeats 800000 in
theorem without_any (A : Option Addr) (n c B : Nat) (z : Int) (r : List Int) (x : Int) (w : World) (hx : RdI w B A (z :: r)) (hn : r.length + 1 = n) (hc : n ≤ c) (hb : c ≤ 9223372036854775807) :
    Calls Tryd.prog 86 #[.slice A n c, .int .i64 x] w fun e w' => (∃ A' n' c', e = .returned (.slice A' n' c') ∧ RdI w B A' (wo (z :: r) x) ∧ (wo (z :: r) x).length = n' ∧ n' ≤ c' ∧ c' ≤ 9223372036854775807) ∧ w = w' := by
  have hx0 := hx
  obtain ⟨b, o, rfl, hbB, hcell⟩ := hx (by simp)
  have h0 : w.cell? ⟨b, o, none⟩ = some (.int .i64 z) := by simpa using hcell 0 (by simp)
  have HX := Lib.hid hx0
  have HN := Lib.hid hn
  have hn1 : 1 ≤ n := by omega
  clear hcell hx hx0 hn
  by_cases hzx : z = x
  · have hb1 : (z == x) = true := by simpa using hzx
    have hw := Lib.hid (show wo (z :: r) x = r by rw [wo, if_pos hzx])
    clear hzx
    have hT := Lib.hid (rd_tail HX.out)
    have hk : r.length = n - 1 := by have := HN.out; omega
    have HKL := Lib.hid hk
    clear hk
    rw [hw.out]
    by_cases hc1 : c = 1
    · have hr : r = [] := by have := HKL.out; have : r.length = 0 := by omega
                             exact List.eq_nil_of_length_eq_zero this
      have HR := Lib.hid hr
      obtain rfl : n = 1 := by omega
      subst hc1
      clear hr
      go_enter Tryd.func86, Tryd.ntmps86
      go_wp2
      go_ret
      exact ⟨⟨_, _, _, rfl, by rw [HR.out]; exact RdI.nil _ _ _, by rw [HR.out]; rfl, by omega, by omega⟩, rfl⟩
    · have hc2 : ¬ c = 1 := hc1
      go_enter Tryd.func86, Tryd.ntmps86
      go_wp2
      go_ret
      exact ⟨⟨_, _, _, rfl, hT.out, HKL.out, by omega, by omega⟩, rfl⟩
  · have hb1 : (z == x) = false := by simpa using hzx
    have hw := Lib.hid (show wo (z :: r) x = z :: r by rw [wo, if_neg hzx])
    clear hzx
    rw [hw.out]
    go_enter Tryd.func86, Tryd.ntmps86
    go_wp2
    go_ret
    exact ⟨⟨_, _, _, rfl, HX.out, HN.out, hc, hb⟩, rfl⟩

/-- A list of the call's own is handed back. -/
def GivesU (w : World) (zs : List Int) (e : Ending) (w' : World) : Prop := ∃ A c, e = .returned (.slice A zs.length c) ∧ Own w' w.heap.size (.slice A zs.length c) zs ∧ Below w.heap.size w w'
theorem GivesU.gc {w w' : World} {zs : List Int} {e : Ending} (h : GivesU w zs e w') : GivesC w zs e w' := by
  obtain ⟨A, c, e1, ho, hb⟩ := h
  obtain ⟨A', c', e', hr, h1, h2⟩ := own_rdc ho
  injection e' with e2 _ e3
  subst e2 e3
  exact ⟨A, c, e1, hr, hb, h1, h2⟩
theorem un_fin {w : World} {B : Nat} {v : Value} {pre xs ys zs : List Int} {n m : Nat} (h : w.ownsRow B 3 1 v (pre.length + n + m) ((pre ++ xs ++ ys).map (Value.int .i64))) (hn : xs.length = n) (hm : ys.length = m) (hz : zs = pre ++ xs ++ ys) : ∃ A c, v = .slice A zs.length c ∧ Own w B (.slice A zs.length c) zs := by
  subst hz
  have ho : Own w B v (pre ++ xs ++ ys) := by
    unfold Own
    rw [show (pre ++ xs ++ ys).length = pre.length + n + m from by simp [hn, hm]; omega]
    exact h
  obtain ⟨A, c, e, _⟩ := own_rdc ho
  exact ⟨A, c, e, by rw [← e]; exact ho⟩

set_option maxHeartbeats 3200000 in
theorem aUnion_own (A C : Option Addr) (n c m d : Nat) (xs ys : List Int) (w : World) (hx : RdI w w.heap.size A xs) (hy : RdI w w.heap.size C ys) (hn : xs.length = n) (hm : ys.length = m) (hnc : n ≤ c) (hmd : m ≤ d) (hb : n * 16 ≤ 140737488351232) (hb' : m * 16 ≤ 140737488351232) (hcb : c ≤ 9223372036854775807) (hdb : d ≤ 9223372036854775807) :
    Calls Tryd.prog 70 #[.slice A n c, .slice C m d] w fun e w' => GivesU w (un xs ys) e w' := by
  obtain ⟨i0, hi, hz0, hz1, hz2⟩ := info_parts info_int
  obtain ⟨B, hB⟩ : ∃ B, B = w.heap.size := ⟨_, rfl⟩
  rw [← hB] at hx hy
  have HB := Lib.hid hB
  have hBw : B ≤ w.heap.size := by omega
  have hBw' : w.heap.size ≤ B := by omega
  have HX := Lib.hid hx
  have HY := Lib.hid hy
  have HN := Lib.hid hn
  have HM := Lib.hid hm
  clear hB hx hy hn hm
  go_enter Tryd.func70, Tryd.ntmps70
  go_wp2_with (at_make; refine wpList_make_own _ rfl _ _ 27 rfl B 3 i0 (.int .i64 0) 1 Tryd.underlying27 hi hz0 hz1 .i64 .i64 _ (n + m) rfl rfl ?c1 ?c2 ?c3 ?c4 ?_)
  case c1 => omega
  case c2 => rw [hz2]; omega
  case c3 => unfold maxLen; omega
  case c4 => omega
  intro w0 hown0 hgrow0
  have hb0 : Below B w w0 := (Below.refl _ _).grown hgrow0 hBw (fun k hk => by cases hk)
  have HO := Lib.hid hown0
  clear hown0 hgrow0
  go_wp2
  go_loopw [0, 1, 5] (fun sa sb v wr => ∃ A1 n1 c1 A2 n2 c2 xs1 ys1 pre, sa = .slice A1 n1 c1 ∧ sb = .slice A2 n2 c2 ∧ n1 ≤ c1 ∧ n2 ≤ c2 ∧ c1 ≤ 9223372036854775807 ∧ c2 ≤ 9223372036854775807 ∧ Hid (RdI w B A1 xs1) ∧ Hid (RdI w B A2 ys1) ∧ Hid (xs1.length = n1) ∧ Hid (ys1.length = n2) ∧
      Hid (Own wr B v pre) ∧ Hid (un xs ys = pre ++ un xs1 ys1) ∧ Hid (pre.length + n1 + n2 ≤ n + m) ∧ Below B w wr) (fun sa sb _ _ => (match sa with | .slice _ k _ => k | _ => 0) + (match sb with | .slice _ k _ => k | _ => 0))
  case atStart => exact ⟨A, n, c, C, m, d, xs, ys, [], rfl, rfl, hnc, hmd, hcb, hdb, HX, HY, HN, HM, HO, rfl, by show (0 + n + m ≤ n + m); omega, hb0⟩
  case round =>
    obtain ⟨A1, n1, c1, A2, n2, c2, xs1, ys1, pre, rfl, rfl, hc1, hc2, hcc1, hcc2, hr1, hr2, hl1, hl2, hown, hun, hlen, hnx⟩ := hrel
    by_cases h1 : 0 < n1
    · by_cases h2 : 0 < n2
      · obtain ⟨x, xr, rfl⟩ : ∃ x xr, xs1 = x :: xr := by
          cases xs1 with
          | nil => have := hl1.out; simp at this; omega
          | cons a r => exact ⟨a, r, rfl⟩
        obtain ⟨y, yr, rfl⟩ : ∃ y yr, ys1 = y :: yr := by
          cases ys1 with
          | nil => have := hl2.out; simp at this; omega
          | cons a r => exact ⟨a, r, rfl⟩
        obtain ⟨b1, o1, rfl, hbB1, hcx⟩ := hr1.out (by simp)
        obtain ⟨b2, o2, rfl, hbB2, hcy⟩ := hr2.out (by simp)
        have hx0 : wr.cell? ⟨b1, o1, none⟩ = some (.int .i64 x) := (hnx.cell hbB1).trans (by simpa using hcx 0 (by simp))
        have hy0 : wr.cell? ⟨b2, o2, none⟩ = some (.int .i64 y) := (hnx.cell hbB2).trans (by simpa using hcy 0 (by simp))
        clear hcx hcy
        rcases Int.lt_trichotomy x y with hxy | hxy | hxy
        · have hmin : min x y = x := by omega
          have hW1 := Lib.hid (show wo (x :: xr) x = xr from wo_eq rfl)
          have hW2 := Lib.hid (show wo (y :: yr) x = y :: yr from wo_ne (by omega))
          have hU := Lib.hid (show un (x :: xr) (y :: yr) = x :: un xr (y :: yr) from un_lt hxy)
          go_wp2
          go_quiet (fail)
          have hownd := Lib.hid (own_dr hown.out nq)
          have hnxd : Below B w (wr.drewN nq) := below_drewN hnx nq
          go_wp2_with (at_builtin; refine wpList_append_own _ rfl _ _ 27 rfl B 3 i0 (.int .i64 0) 1 8 Tryd.underlying27 hi hz0 hz1 hz2 rfl (by decide) _ _ _ rfl (hownd.out.alloc _) ⟨wr.heap.size, 0, none⟩ 1 1 [.int .i64 x] rfl rfl ?c1 ?c2 ?c3 ?c4 ?c5 ?_)
          case c1 => exact own_one
          case c2 => intro u hu; simp at hu; subst hu; rfl
          case c3 => have := hlen.out; unfold maxLen; omega
          case c4 => have := hlen.out; omega
          case c5 => have := hnx.size; simp; omega
          intro v' w1 hown' hgrow _
          have R := own_app (K' := pre ++ [x]) rfl hnxd hownd.out hown' hgrow hBw
          have R1 := Lib.hid R.1
          have R2 := R.2
          clear R hown' hgrow hownd hnxd hown hx0 hy0
          go_wp2_with fail
          refine (without_any (some ⟨b1, o1, none⟩) n1 c1 B x xr x w1 (hr1.out.below R2 (Nat.le_refl _)) hl1.out hc1 hcc1).mono ?_
          rw [hW1.out]
          rintro e w' ⟨⟨A3, n3, c3, rfl, hr3, hl3, hc3, hcc3⟩, rfl⟩
          have HR3 := Lib.hid (hr3.keep fun b o hb => (R2.cell (p := ⟨b, o, none⟩) hb).symm)
          have HL3 := Lib.hid hl3
          clear hr3 hl3
          go_wp2_with fail
          refine (without_any (some ⟨b2, o2, none⟩) n2 c2 B y yr x w1 (hr2.out.below R2 (Nat.le_refl _)) hl2.out hc2 hcc2).mono ?_
          rw [hW2.out]
          rintro e w' ⟨⟨A4, n4, c4, rfl, hr4, hl4, hc4, hcc4⟩, rfl⟩
          have HR4 := Lib.hid (hr4.keep fun b o hb => (R2.cell (p := ⟨b, o, none⟩) hb).symm)
          have HL4 := Lib.hid hl4
          clear hr4 hl4
          have hun' := Lib.hid (show un xs ys = (pre ++ [x]) ++ un xr (y :: yr) by rw [hun.out, hU.out]; simp)
          have e3 := HL3.out
          have e4 := HL4.out
          have e1 := hl1.out
          have e2 := hl2.out
          simp only [List.length_cons] at e1 e2 e3 e4
          have hlen' := Lib.hid (show (pre ++ [x]).length + n3 + n4 ≤ n + m by have := hlen.out; simp; omega)
          have hms : n3 + n4 < n1 + n2 := by omega
          clear e1 e2 e3 e4
          go_wp2
          go_roundw
          case rel => exact ⟨A3, n3, c3, A4, n4, c4, _, _, _, rfl, rfl, hc3, hc4, hcc3, hcc4, HR3, HR4, HL3, HL4, R1, hun', hlen', R2⟩
          case measure => exact hms
        · subst hxy
          have hW1 := Lib.hid (show wo (x :: xr) x = xr from wo_eq rfl)
          have hW2 := Lib.hid (show wo (x :: yr) x = yr from wo_eq rfl)
          have hU := Lib.hid (show un (x :: xr) (x :: yr) = x :: un xr yr from un_eq rfl)
          go_wp2
          go_quiet (fail)
          have hownd := Lib.hid (own_dr hown.out nq)
          have hnxd : Below B w (wr.drewN nq) := below_drewN hnx nq
          go_wp2_with (at_builtin; refine wpList_append_own _ rfl _ _ 27 rfl B 3 i0 (.int .i64 0) 1 8 Tryd.underlying27 hi hz0 hz1 hz2 rfl (by decide) _ _ _ rfl (hownd.out.alloc _) ⟨wr.heap.size, 0, none⟩ 1 1 [.int .i64 x] rfl rfl ?c1 ?c2 ?c3 ?c4 ?c5 ?_)
          case c1 => exact own_one
          case c2 => intro u hu; simp at hu; subst hu; rfl
          case c3 => have := hlen.out; unfold maxLen; omega
          case c4 => have := hlen.out; omega
          case c5 => have := hnx.size; simp; omega
          intro v' w1 hown' hgrow _
          have R := own_app (K' := pre ++ [x]) rfl hnxd hownd.out hown' hgrow hBw
          have R1 := Lib.hid R.1
          have R2 := R.2
          clear R hown' hgrow hownd hnxd hown hx0 hy0
          go_wp2_with fail
          refine (without_any (some ⟨b1, o1, none⟩) n1 c1 B x xr x w1 (hr1.out.below R2 (Nat.le_refl _)) hl1.out hc1 hcc1).mono ?_
          rw [hW1.out]
          rintro e w' ⟨⟨A3, n3, c3, rfl, hr3, hl3, hc3, hcc3⟩, rfl⟩
          have HR3 := Lib.hid (hr3.keep fun b o hb => (R2.cell (p := ⟨b, o, none⟩) hb).symm)
          have HL3 := Lib.hid hl3
          clear hr3 hl3
          go_wp2_with fail
          refine (without_any (some ⟨b2, o2, none⟩) n2 c2 B x yr x w1 (hr2.out.below R2 (Nat.le_refl _)) hl2.out hc2 hcc2).mono ?_
          rw [hW2.out]
          rintro e w' ⟨⟨A4, n4, c4, rfl, hr4, hl4, hc4, hcc4⟩, rfl⟩
          have HR4 := Lib.hid (hr4.keep fun b o hb => (R2.cell (p := ⟨b, o, none⟩) hb).symm)
          have HL4 := Lib.hid hl4
          clear hr4 hl4
          have hun' := Lib.hid (show un xs ys = (pre ++ [x]) ++ un xr yr by rw [hun.out, hU.out]; simp)
          have e3 := HL3.out
          have e4 := HL4.out
          have e1 := hl1.out
          have e2 := hl2.out
          simp only [List.length_cons] at e1 e2 e3 e4
          have hlen' := Lib.hid (show (pre ++ [x]).length + n3 + n4 ≤ n + m by have := hlen.out; simp; omega)
          have hms : n3 + n4 < n1 + n2 := by omega
          clear e1 e2 e3 e4
          go_wp2
          go_roundw
          case rel => exact ⟨A3, n3, c3, A4, n4, c4, _, _, _, rfl, rfl, hc3, hc4, hcc3, hcc4, HR3, HR4, HL3, HL4, R1, hun', hlen', R2⟩
          case measure => exact hms
        · have hmin : min x y = y := by omega
          have hW1 := Lib.hid (show wo (x :: xr) y = x :: xr from wo_ne (by omega))
          have hW2 := Lib.hid (show wo (y :: yr) y = yr from wo_eq rfl)
          have hU := Lib.hid (show un (x :: xr) (y :: yr) = y :: un (x :: xr) yr from un_gt hxy)
          go_wp2
          go_quiet (fail)
          have hownd := Lib.hid (own_dr hown.out nq)
          have hnxd : Below B w (wr.drewN nq) := below_drewN hnx nq
          go_wp2_with (at_builtin; refine wpList_append_own _ rfl _ _ 27 rfl B 3 i0 (.int .i64 0) 1 8 Tryd.underlying27 hi hz0 hz1 hz2 rfl (by decide) _ _ _ rfl (hownd.out.alloc _) ⟨wr.heap.size, 0, none⟩ 1 1 [.int .i64 y] rfl rfl ?c1 ?c2 ?c3 ?c4 ?c5 ?_)
          case c1 => exact own_one
          case c2 => intro u hu; simp at hu; subst hu; rfl
          case c3 => have := hlen.out; unfold maxLen; omega
          case c4 => have := hlen.out; omega
          case c5 => have := hnx.size; simp; omega
          intro v' w1 hown' hgrow _
          have R := own_app (K' := pre ++ [y]) rfl hnxd hownd.out hown' hgrow hBw
          have R1 := Lib.hid R.1
          have R2 := R.2
          clear R hown' hgrow hownd hnxd hown hx0 hy0
          go_wp2_with fail
          refine (without_any (some ⟨b1, o1, none⟩) n1 c1 B x xr y w1 (hr1.out.below R2 (Nat.le_refl _)) hl1.out hc1 hcc1).mono ?_
          rw [hW1.out]
          rintro e w' ⟨⟨A3, n3, c3, rfl, hr3, hl3, hc3, hcc3⟩, rfl⟩
          have HR3 := Lib.hid (hr3.keep fun b o hb => (R2.cell (p := ⟨b, o, none⟩) hb).symm)
          have HL3 := Lib.hid hl3
          clear hr3 hl3
          go_wp2_with fail
          refine (without_any (some ⟨b2, o2, none⟩) n2 c2 B y yr y w1 (hr2.out.below R2 (Nat.le_refl _)) hl2.out hc2 hcc2).mono ?_
          rw [hW2.out]
          rintro e w' ⟨⟨A4, n4, c4, rfl, hr4, hl4, hc4, hcc4⟩, rfl⟩
          have HR4 := Lib.hid (hr4.keep fun b o hb => (R2.cell (p := ⟨b, o, none⟩) hb).symm)
          have HL4 := Lib.hid hl4
          clear hr4 hl4
          have hun' := Lib.hid (show un xs ys = (pre ++ [y]) ++ un (x :: xr) yr by rw [hun.out, hU.out]; simp)
          have e3 := HL3.out
          have e4 := HL4.out
          have e1 := hl1.out
          have e2 := hl2.out
          simp only [List.length_cons] at e1 e2 e3 e4
          have hlen' := Lib.hid (show (pre ++ [y]).length + n3 + n4 ≤ n + m by have := hlen.out; simp; omega)
          have hms : n3 + n4 < n1 + n2 := by omega
          clear e1 e2 e3 e4
          go_wp2
          go_roundw
          case rel => exact ⟨A3, n3, c3, A4, n4, c4, _, _, _, rfl, rfl, hc3, hc4, hcc3, hcc4, HR3, HR4, HL3, HL4, R1, hun', hlen', R2⟩
          case measure => exact hms
      · have hz : ys1 = [] := List.eq_nil_of_length_eq_zero (by have := hl2.out; omega)
        have hp := Lib.hid (show un xs ys = pre ++ xs1 ++ ys1 by rw [hun.out, hz, un_nil]; simp)
        clear hz
        have hr1w := Lib.hid (hr1.out.below hnx (Nat.le_refl _))
        have hr2w := Lib.hid (hr2.out.below hnx (Nat.le_refl _))
        have hnz := hnx.size
        have hl3 : pre.length + n1 + n2 ≤ n + m := hlen.out
        go_wp2_with (first
          | (at_builtin; refine wpList_app_rd rfl (.tmp 38) (.tmp 39) rfl B _ pre.length pre rfl hown.out B A1 n1 c1 xs1 rfl hr1w.out hl1.out (by unfold maxLen; omega) (by omega) (by omega) ?_; intro v1 w1 ho1 hg1; have hb1 := below_gr hown.out hg1 (by omega); have hz1 := hb1.size; have ho1' := Lib.hid ho1; clear ho1 hg1)
          | (at_builtin; refine wpList_app_rd rfl (.tmp 40) (.tmp 41) rfl B _ (pre.length + n1) (pre ++ xs1) rfl ho1'.out B A2 n2 c2 ys1 rfl (hr2w.out.below hb1 (Nat.le_refl _)) hl2.out (by unfold maxLen; omega) (by omega) (by omega) ?_; intro v2 w2 ho2 hg2; have hb2 := below_gr ho1'.out hg2 (by omega); have ho2' := Lib.hid ho2; clear ho2 hg2))
        have hfin := Lib.hid (un_fin ho2'.out hl1.out hl2.out hp.out)
        have hnx' : Below w.heap.size w w2 := by rw [← HB.out]; exact (hnx.trans (hb1.mono (Nat.le_refl _))).trans (hb2.mono (Nat.le_refl _))
        clear ho2' ho1'
        go_ret
        obtain ⟨A', c', e', hr⟩ := hfin.out
        exact ⟨A', c', by rw [← e']; rfl, by rw [← HB.out]; exact hr, hnx'⟩
    · have hz : xs1 = [] := List.eq_nil_of_length_eq_zero (by have := hl1.out; omega)
      have hp := Lib.hid (show un xs ys = pre ++ xs1 ++ ys1 by rw [hun.out, hz, nil_un]; simp)
      clear hz
      have hr1w := Lib.hid (hr1.out.below hnx (Nat.le_refl _))
      have hr2w := Lib.hid (hr2.out.below hnx (Nat.le_refl _))
      have hnz := hnx.size
      have hl3 : pre.length + n1 + n2 ≤ n + m := hlen.out
      go_wp2_with (first
        | (at_builtin; refine wpList_app_rd rfl (.tmp 38) (.tmp 39) rfl B _ pre.length pre rfl hown.out B A1 n1 c1 xs1 rfl hr1w.out hl1.out (by unfold maxLen; omega) (by omega) (by omega) ?_; intro v1 w1 ho1 hg1; have hb1 := below_gr hown.out hg1 (by omega); have hz1 := hb1.size; have ho1' := Lib.hid ho1; clear ho1 hg1)
        | (at_builtin; refine wpList_app_rd rfl (.tmp 40) (.tmp 41) rfl B _ (pre.length + n1) (pre ++ xs1) rfl ho1'.out B A2 n2 c2 ys1 rfl (hr2w.out.below hb1 (Nat.le_refl _)) hl2.out (by unfold maxLen; omega) (by omega) (by omega) ?_; intro v2 w2 ho2 hg2; have hb2 := below_gr ho1'.out hg2 (by omega); have ho2' := Lib.hid ho2; clear ho2 hg2))
      have hfin := Lib.hid (un_fin ho2'.out hl1.out hl2.out hp.out)
      have hnx' : Below w.heap.size w w2 := by rw [← HB.out]; exact (hnx.trans (hb1.mono (Nat.le_refl _))).trans (hb2.mono (Nat.le_refl _))
      clear ho2' ho1'
      go_ret
      obtain ⟨A', c', e', hr⟩ := hfin.out
      exact ⟨A', c', by rw [← e']; rfl, by rw [← HB.out]; exact hr, hnx'⟩
theorem aUnion_any (A C : Option Addr) (n c m d : Nat) (xs ys : List Int) (w : World) (hx : RdI w w.heap.size A xs) (hy : RdI w w.heap.size C ys) (hn : xs.length = n) (hm : ys.length = m) (hnc : n ≤ c) (hmd : m ≤ d) (hb : n * 16 ≤ 140737488351232) (hb' : m * 16 ≤ 140737488351232) (hcb : c ≤ 9223372036854775807) (hdb : d ≤ 9223372036854775807) :
    Calls Tryd.prog 70 #[.slice A n c, .slice C m d] w fun e w' => GivesC w (un xs ys) e w' :=
  (aUnion_own A C n c m d xs ys w hx hy hn hm hnc hmd hb hb' hcb hdb).mono fun _ _ h => h.gc
end Go.Proofs.YtedleffmbddccaaDoor

/- Layer 3: slices.Grow from nil, slices.Concat of two lists; words held by slices; lists of words of the call's own. -/
namespace Go.Proofs.YtedleffmbddccaaDoor
open Go.RowKit Go.Sort

/-- The two slices that Concat takes. -/
structure TwoS (w : World) (b o : Nat) (A1 : Option Addr) (n1 c1 : Nat) (A2 : Option Addr) (n2 c2 : Nat) (xs ys : List Int) : Prop where
  c0 : w.cell? ⟨b, o, none⟩ = some (.slice A1 n1 c1)
  c1 : w.cell? ⟨b, o + 1, none⟩ = some (.slice A2 n2 c2)
  r0 : RdI w w.heap.size A1 xs
  r1 : RdI w w.heap.size A2 ys
  l0 : xs.length = n1
  l1 : ys.length = n2
  bb : b < w.heap.size
theorem TwoS.below {w w' : World} {b o : Nat} {A1 : Option Addr} {n1 c1 : Nat} {A2 : Option Addr} {n2 c2 : Nat} {xs ys : List Int} (h : TwoS w b o A1 n1 c1 A2 n2 c2 xs ys) (hb : Below w.heap.size w w') : TwoS w' b o A1 n1 c1 A2 n2 c2 xs ys :=
  ⟨(hb.cell (p := ⟨b, o, none⟩) h.bb).trans h.c0, (hb.cell (p := ⟨b, o + 1, none⟩) h.bb).trans h.c1, (h.r0.below hb (Nat.le_refl _)).more hb.size, (h.r1.below hb (Nat.le_refl _)).more hb.size, h.l0, h.l1, Nat.lt_of_lt_of_le h.bb hb.size⟩

end Go.Proofs.YtedleffmbddccaaDoor

/- Layer 3: lists of words of the call's own; the words of an automaton. -/
namespace Go.Proofs.YtedleffmbddccaaDoor
open Go.RowKit Go.Sort

theorem info_ints : (Tryd.prog.info? 27).map (fun i => (i.zero, i.size, i.bytes)) = some (some (.slice none 0 0), 1, 24) := by kernel_rfl
/-- A slice that holds a word: its address, its capacity, the word. -/
structure Hd where
  A : Option Addr
  c : Nat
  z : List Int
def Hd.enc (h : Hd) : Value := .slice h.A h.z.length h.c
instance : Inhabited Hd := ⟨⟨none, 0, []⟩⟩

theorem own_more {w : World} {base base' n : Nat} {e : TypeId} {sz : Nat} {v : Value} {xs : List Value} (h : w.ownsRow base e sz v n xs) (hb : base' ≤ base) : w.ownsRow base' e sz v n xs :=
  ⟨h.1, by
    rcases h.2 with h | ⟨g, cap, cur, e, hge, r⟩
    · exact .inl h
    · exact .inr ⟨g, cap, cur, e, by omega, r⟩⟩
/-- The words and the states to which they lead, in memory of the call's own. -/
structure GL (w : World) (base : Nat) (vw : Value) (hs : List Hd) (ve : Value) (es : List Int) : Prop where
  row : w.ownsRow base 27 1 vw hs.length (hs.map Hd.enc)
  own : ∀ h ∈ hs, Own w base h.enc h.z
  ends : Own w base ve es
  ne : ∀ h ∈ hs, h.enc.ownBlock = none ∨ h.enc.ownBlock ≠ ve.ownBlock
theorem GL.below {w w' : World} {base : Nat} {vw ve : Value} {hs : List Hd} {es : List Int} (h : GL w base vw hs ve es) (hb : Below w.heap.size w w') : GL w' base vw hs ve es :=
  ⟨own_below h.row hb, fun x hx => own_below (h.own x hx) hb, own_below h.ends hb, h.ne⟩
theorem GL.drewN {w : World} {base : Nat} {vw ve : Value} {hs : List Hd} {es : List Int} (h : GL w base vw hs ve es) (q : Nat) : GL (w.drewN q) base vw hs ve es := ⟨h.row, h.own, h.ends, h.ne⟩
theorem GL.base {w : World} {base B : Nat} {vw ve : Value} {hs : List Hd} {es : List Int} (h : GL w base vw hs ve es) (hB : B ≤ base) : GL w B vw hs ve es :=
  ⟨own_more h.row hB, fun x hx => own_more (h.own x hx) hB, own_more h.ends hB, h.ne⟩
theorem GL.drew {w : World} {base : Nat} {vw ve : Value} {hs : List Hd} {es : List Int} (h : GL w base vw hs ve es) : GL w.drew base vw hs ve es := ⟨h.row, h.own, h.ends, h.ne⟩
/-- A word in new memory is appended. -/
theorem GL.word {w w0 w1 : World} {base n : Nat} {vw vw' ve : Value} {hs : List Hd} {es : List Int} {x : Hd} (h : GL w base vw hs ve es) (hb : Below w.heap.size w w0) (hx : Own w0 w.heap.size x.enc x.z) (hbs : base ≤ w.heap.size)
    (hr : w1.ownsRow base 27 1 vw' n (hs.map Hd.enc ++ [x.enc])) (hn : n = hs.length + 1) (hg : w0.grownBy w1 vw.ownBlock) : GL w1 base vw' (hs ++ [x]) ve es := by
  subst hn
  have h0 := h.below hb
  have hxb : Own w0 base x.enc x.z := ⟨hx.1, by
    rcases hx.2 with h | ⟨g, cap, cur, e, hge, r⟩
    · exact .inl h
    · exact .inr ⟨g, cap, cur, e, by omega, r⟩⟩
  refine ⟨by simpa using hr, fun y hy => ?_, own_row h0.ends hg (owns_ne h0.ends h0.row (by decide)), fun y hy => ?_⟩
  · rcases List.mem_append.1 hy with hy | hy
    · exact own_row (h0.own y hy) hg (owns_ne (h0.own y hy) h0.row (by decide))
    · rw [List.mem_singleton] at hy; subst hy
      exact own_row hxb hg (owns_ne hxb h0.row (by decide))
  · rcases List.mem_append.1 hy with hy | hy
    · exact h.ne y hy
    · rw [List.mem_singleton] at hy; subst hy
      by_cases he : y.enc.ownBlock = none
      · exact .inl he
      · refine .inr fun e => ?_
        obtain ⟨j, hj⟩ := Option.ne_none_iff_exists'.1 he
        have h1 := (hx.lt j hj).1
        have h2 := (h.ends.lt j (by rw [← e, hj])).2
        omega
/-- A state is appended to the ends. -/
theorem GL.end_ {w w1 : World} {base : Nat} {vw ve ve' : Value} {hs : List Hd} {es : List Int} {t : Int} (h : GL w base vw hs ve es) (ho : Own w1 base ve' (es ++ [t])) (hg : w.grownBy w1 ve.ownBlock) (hs' : ∀ j, ve'.ownBlock = some j → ve.ownBlock = some j ∨ w.heap.size ≤ j) : GL w1 base vw hs ve' (es ++ [t]) := by
  refine ⟨own_row h.row hg (owns_ne h.row h.ends (by decide)), fun y hy => own_row (h.own y hy) hg (h.ne y hy), ho, fun y hy => ?_⟩
  by_cases he : y.enc.ownBlock = none
  · exact .inl he
  · refine .inr fun e => ?_
    obtain ⟨j, hj⟩ := Option.ne_none_iff_exists'.1 he
    have h1 := ((h.own y hy).lt j hj).2
    rcases hs' j (by rw [← e, hj]) with h2 | h2
    · rcases h.ne y hy with h3 | h3
      · exact he h3
      · exact h3 (by rw [hj, h2])
    · omega
theorem GL.len {w : World} {base : Nat} {vw ve : Value} {hs : List Hd} {es : List Int} {N : Nat} (h : GL w base vw hs ve es) (hN : hs.length = N) (h0 : 0 < N) : ∃ g cap, vw = .slice (some ⟨g, 0, none⟩) N cap ∧ N ≤ cap ∧ cap ≤ 9223372036854775807 ∧ ∀ j x, hs[j]? = some x → w.cell? ⟨g, j, none⟩ = some x.enc := by
  subst hN
  have hr := h.row
  rcases hr.2 with ⟨rfl, h1⟩ | ⟨g, cap, cur, rfl, hg, hh, hn, hcap, hsz, htake⟩
  · omega
  · refine ⟨g, cap, rfl, hn, by unfold maxLen at hcap; omega, fun j x hj => ?_⟩
    have hl := (List.getElem?_eq_some_iff.1 hj).1
    rw [World.ownsRow.cellAt (cap := cap) hr j (by omega), List.getElem?_map, hj]; rfl
theorem GL.word_rd {w : World} {base : Nat} {vw ve : Value} {hs : List Hd} {es : List Int} (h : GL w base vw hs ve es) {j : Nat} {x : Hd} (hj : hs[j]? = some x) : RdI w w.heap.size x.A x.z ∧ x.z.length ≤ x.c ∧ x.c ≤ 9223372036854775807 := by
  have ho := h.own x (List.mem_of_getElem? hj)
  obtain ⟨A, c, e, hrd, h1, h2⟩ := own_rdc ho
  unfold Hd.enc at e
  injection e with e1 e2 e3
  subst e1; subst e3
  exact ⟨hrd, h1, h2⟩

theorem two_made (w : World) {Ax : Option Addr} {lx cx : Nat} {zx : List Int} {xe : Int} (hr : RdI w w.heap.size Ax zx) (hl : zx.length = lx) :
    TwoS ((w.alloc (.cells #[.int .i64 xe] 3)).alloc (.cells #[.slice Ax lx cx, .slice (some ⟨w.heap.size, 0, none⟩) 1 1] 27)) (w.heap.size + 1) 0 Ax lx cx (some ⟨w.heap.size, 0, none⟩) 1 1 zx [xe] := by
  have hR := Row.new (w.alloc (.cells #[.int .i64 xe] 3)) [.slice Ax lx cx, .slice (some ⟨w.heap.size, 0, none⟩) 1 1] 27
  have hb := ((Below.refl w.heap.size w).alloc (Nat.le_refl _) (.cells #[.int .i64 xe] 3)).alloc (by simp) (.cells #[.slice Ax lx cx, .slice (some ⟨w.heap.size, 0, none⟩) 1 1] 27)
  have hI := (Row.new w [.int .i64 xe] 3).alloc (.cells #[.slice Ax lx cx, .slice (some ⟨w.heap.size, 0, none⟩) 1 1] 27)
  simp only [World.size_alloc] at hR
  exact ⟨hR.cell 0 rfl, hR.cell 1 rfl, (hr.below hb (Nat.le_refl _)).more (by simp; omega), fun _ => ⟨w.heap.size, 0, rfl, (by simp; try omega), fun j hj => by
    obtain rfl : j = 0 := by simp at hj; omega
    exact hI.cell 0 rfl⟩, hl, rfl, by simp⟩
/-- The words that go on from one. -/
def extW (a : Au) (p : List Int × Int) : List (List Int × Int) := (succ a.ed p.2).map fun x => (p.1 ++ [x.e], x.t)
/-- The words as they are found, from the i-th on; none if there are more than 1024. -/
def genF (a : Au) (most : Int) : Nat → Nat → List (List Int × Int) → Option (List (List Int × Int))
  | 0, _, _ => none
  | f + 1, i, L =>
    if i < L.length ∧ ((L.getD i ([], 0)).1.length : Int) < most then
      if 1024 < (L ++ extW a (L.getD i ([], 0))).length then none else genF a most f (i + 1) (L ++ extW a (L.getD i ([], 0)))
    else some L
def genO (a : Au) (most : Int) : Option (List (List Int × Int)) := if a.st = 0 then some [] else genF a most 1026 0 [([], 0)]
theorem genF_stop {a : Au} {most : Int} {f i : Nat} {L : List (List Int × Int)} {R : Option (List (List Int × Int))} (hR : genF a most f i L = R) (hf : 0 < f) (h : ¬ (i < L.length ∧ ((L.getD i ([], 0)).1.length : Int) < most)) : R = some L := by
  obtain ⟨g, rfl⟩ : ∃ g, f = g + 1 := ⟨f - 1, by omega⟩
  rw [genF, if_neg h] at hR; exact hR.symm
theorem genF_limit {a : Au} {most : Int} {f i : Nat} {L : List (List Int × Int)} {R : Option (List (List Int × Int))} (hR : genF a most f i L = R) (hf : 0 < f) (h : i < L.length ∧ ((L.getD i ([], 0)).1.length : Int) < most) (hl : 1024 < L.length + (extW a (L.getD i ([], 0))).length) : R = none := by
  obtain ⟨g, rfl⟩ : ∃ g, f = g + 1 := ⟨f - 1, by omega⟩
  rw [genF, if_pos h, if_pos (by rw [List.length_append]; exact hl)] at hR; exact hR.symm
theorem genF_go {a : Au} {most : Int} {f i : Nat} {L : List (List Int × Int)} {R : Option (List (List Int × Int))} (hR : genF a most f i L = R) (hf : 0 < f) (h : i < L.length ∧ ((L.getD i ([], 0)).1.length : Int) < most) (hl : L.length + (extW a (L.getD i ([], 0))).length ≤ 1024) : genF a most (f - 1) (i + 1) (L ++ extW a (L.getD i ([], 0))) = R := by
  obtain ⟨g, rfl⟩ : ∃ g, f = g + 1 := ⟨f - 1, by omega⟩
  rw [genF, if_pos h, if_neg (by rw [List.length_append]; omega)] at hR; exact hR
theorem extW_range {a : Au} (h : RightW a) (p : List Int × Int) : ∀ q ∈ extW a p, 0 ≤ q.2 ∧ q.2 < a.st := fun q hq => by
  obtain ⟨x, hx, rfl⟩ := List.mem_map.1 hq
  exact (h.edr x (mem_succ.1 hx).1).2.1
end Go.Proofs.YtedleffmbddccaaDoor
