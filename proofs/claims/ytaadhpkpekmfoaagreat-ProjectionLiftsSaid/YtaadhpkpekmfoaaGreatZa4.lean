/- Texts merged: what follows were texts of their own. -/
import Derived.Test.YtaadhpkpekmfoaaGreatZa3
import Derived.RangeFuncBox
import Derived.RangeFuncLeaves
import Derived.Shelf.Abstract
import Derived.OwnWalkIn
import Derived.TacticsInMore
import Derived.LoopNIn
import Derived.LoopIn
import Derived.Maps.AppendAt
import Derived.Test.YtaadhpkpekmfoaaGreatZa2
import Derived.Shelf.SlSortCmp.WholeK
import Derived.Shelf.SlSortCmp.NoneTotal
import Derived.Test.YtaadhpkpekmfoaaGreatProg
import Derived.Shelf.Spec.SlicesGrow
set_option linter.unusedVariables false
set_option linter.unusedSimpArgs false
set_option linter.unusedSectionVars false
/- Layer 3, the mathematics of the canonical form: it is right, it is its own canonical form, it has the same languages. -/
namespace Go.Proofs.YtaadhpkpekmfoaaGreat
open Go.RowKit Go.Sort

theorem fnd_closed {a : Au} (h : RightW a) {i : Nat} (hi : i < (fnd a).length) {x : Ed} (hx : x ∈ succ a.ed ((fnd a).getD i 0)) : x.t ∈ fnd a := by
  by_cases h0 : 0 < a.st
  · have hl := fnd_len h
    have hlt : i < (Fd a i).length := by
      by_cases hh : i < (Fd a i).length
      · exact hh
      · rw [fnd_at h h0 (n := i) (by omega) (by omega)] at hi; exact hi
    have hp := Fd_fnd h h0 i
    rw [getD_pre hp hlt] at hx
    have h1 : x.t ∈ Fd a (i + 1) := by rw [Fd_go hlt, mem_visitL]; exact .inr ⟨x, hx, rfl⟩
    exact (Fd_fnd h h0 (i + 1)).subset h1
  · rw [fnd, if_pos (by omega)] at hi; simp at hi
theorem mem_canEn {a : Au} {n : Nat} {y : Ed} : y ∈ canEn a n ↔ ∃ i : Nat, i < n ∧ ∃ x ∈ succ a.ed ((fnd a).getD i 0), y = ⟨(i : Int), x.e, ((fnd a).idxOf x.t : Int)⟩ := by
  unfold canEn outE
  simp only [List.mem_flatMap, List.mem_range, List.mem_map]
  constructor
  · rintro ⟨i, hi, x, hx, e⟩; exact ⟨i, hi, x, hx, e.symm⟩
  · rintro ⟨i, hi, x, hx, e⟩; exact ⟨i, hi, x, hx, e.symm⟩
theorem outE_sorted {a : Au} (h : RightW a) (n : Nat) : (outE a (fnd a) n).Pairwise ltE := by
  unfold outE
  rw [List.pairwise_map]
  exact (succ_sorted h.edo _).imp fun hlt => by unfold ltE; simp; exact hlt
theorem canEn_sorted {a : Au} (h : RightW a) : ∀ n, (canEn a n).Pairwise ltE
  | 0 => by simp [canEn]
  | n + 1 => by
    rw [canEn_succ, List.pairwise_append]
    refine ⟨canEn_sorted h n, outE_sorted h n, fun x hx y hy => ?_⟩
    obtain ⟨i, hi, z, _, rfl⟩ := mem_canEn.1 hx
    unfold outE at hy
    obtain ⟨z2, _, rfl⟩ := List.mem_map.1 hy
    unfold ltE; simp; omega
theorem can_right {a : Au} (h : RightW a) : RightW (canA a) where
  alr := h.alr
  alo := h.alo
  st0 := by simp [canA]
  mrr x hx := by
    obtain ⟨i, h1, _, rfl⟩ := mem_canM.1 hx
    simp [canA]; omega
  mro := canM_lt a
  edr y hy := by
    obtain ⟨i, hi, x, hx, rfl⟩ := mem_canEn.1 hy
    have ht := List.idxOf_lt_length_iff.2 (fnd_closed h hi hx)
    refine ⟨by simp [canA]; omega, by simp [canA]; omega, (h.edr x (mem_succ.1 hx).1).2.2⟩
  edo := canEn_sorted h _
theorem Right.can {a : Au} (h : Right a) : Right (canA a) :=
  { can_right h.toRightW with st1 := by have := fnd_len h.toRightW; have := h.st1; have := h.st0; simp [canA]; omega }
theorem chk_can {a : Au} (h : chkE a = 0) : chkE (canA a) = 0 := (right_of h).can.chk

/-- The edges of a state of the canonical form. -/
theorem succ_canEn {a : Au} (i : Nat) : ∀ n, succ (canEn a n) (i : Int) = if i < n then outE a (fnd a) i else []
  | 0 => by simp [canEn, succ]
  | n + 1 => by
    rw [canEn_succ, succ, List.filter_append]
    have h1 := succ_canEn (a := a) i n
    unfold succ at h1
    rw [h1]
    have h2 : (outE a (fnd a) n).filter (fun x => decide (x.f = (i : Int))) = if i = n then outE a (fnd a) n else [] := by
      by_cases e : i = n
      · rw [if_pos e, List.filter_eq_self]
        intro x hx; unfold outE at hx; obtain ⟨z, _, rfl⟩ := List.mem_map.1 hx; simp [e]
      · rw [if_neg e, List.filter_eq_nil_iff]
        intro x hx; unfold outE at hx; obtain ⟨z, _, rfl⟩ := List.mem_map.1 hx; simp; omega
    rw [h2]
    by_cases e : i = n
    · subst e; rw [if_neg (by omega), if_pos rfl, if_pos (by omega), List.nil_append]
    · by_cases e2 : i < n
      · rw [if_pos e2, if_neg e, if_pos (by omega), List.append_nil]
      · rw [if_neg e2, if_neg e, if_neg (by omega), List.append_nil]
theorem succ_can {a : Au} {i : Nat} (hi : i < (fnd a).length) : succ (canA a).ed (i : Int) = outE a (fnd a) i := by
  show succ (canEn a (fnd a).length) (i : Int) = _
  rw [succ_canEn, if_pos hi]
/-- A step of the canonical form. -/
theorem step_can {a : Au} (h : RightW a) {i : Nat} (hi : i < (fnd a).length) (ev : Int) : stepO (canA a) (i : Int) ev = (stepO a ((fnd a).getD i 0) ev).map fun t => ((fnd a).idxOf t : Int) := by
  have hc := can_right h
  unfold stepO
  cases he : edgeO a.ed ((fnd a).getD i 0) ev with
  | none =>
    have : edgeO (canA a).ed (i : Int) ev = none := by
      rw [edgeO_none] at he ⊢
      rintro y hy ⟨h1, h2⟩
      have hy2 : y ∈ succ (canA a).ed (i : Int) := mem_succ.2 ⟨hy, h1⟩
      rw [succ_can hi] at hy2
      unfold outE at hy2
      obtain ⟨x, hx, rfl⟩ := List.mem_map.1 hy2
      exact he x (mem_succ.1 hx).1 ⟨(mem_succ.1 hx).2, h2⟩
    rw [this]; rfl
  | some x =>
    obtain ⟨h1, h2, h3⟩ := (edgeO_some h.edo).1 he
    have : edgeO (canA a).ed (i : Int) ev = some ⟨(i : Int), x.e, ((fnd a).idxOf x.t : Int)⟩ := by
      rw [edgeO_some hc.edo]
      refine ⟨?_, rfl, h3⟩
      exact mem_canEn.2 ⟨i, hi, x, mem_succ.2 ⟨h1, h2⟩, rfl⟩
    rw [this]; rfl
theorem step_in {a : Au} (h : RightW a) {q ev t : Int} (hq : q ∈ fnd a) (hs : stepO a q ev = some t) : t ∈ fnd a := by
  unfold stepO at hs
  cases he : edgeO a.ed q ev with
  | none => rw [he] at hs; simp at hs
  | some x =>
    rw [he] at hs; simp at hs; subst hs
    obtain ⟨h1, h2, h3⟩ := (edgeO_some h.edo).1 he
    refine fnd_closed h (i := (fnd a).idxOf q) (List.idxOf_lt_length_iff.2 hq) ?_
    rw [getD_idxOf hq]; exact mem_succ.2 ⟨h1, h2⟩
theorem run_can {a : Au} (h : RightW a) : ∀ (ws : List Int) (q : Int), q ∈ fnd a → (runE a q ws).1 ∈ fnd a ∧ runE (canA a) ((fnd a).idxOf q : Int) ws = (((fnd a).idxOf (runE a q ws).1 : Int), (runE a q ws).2)
  | [], q, hq => by rw [runE_nil, runE_nil]; exact ⟨hq, rfl⟩
  | x :: ws, q, hq => by
    have hs := step_can h (List.idxOf_lt_length_iff.2 hq) x
    rw [getD_idxOf hq] at hs
    cases e : stepO a q x with
    | none => rw [runE_stop e, runE_stop (by rw [hs, e]; rfl)]; exact ⟨hq, rfl⟩
    | some t =>
      have ht := step_in h hq e
      obtain ⟨h1, h2⟩ := run_can h ws t ht
      rw [runE_go e, runE_go (t := ((fnd a).idxOf t : Int)) (by rw [hs, e]; rfl), h2]
      exact ⟨h1, rfl⟩
theorem zero_fnd {a : Au} (h : RightW a) (h0 : 0 < a.st) : (0 : Int) ∈ fnd a ∧ (fnd a).idxOf 0 = 0 := by
  have hp : [(0 : Int)] <+: fnd a := Fd_fnd h h0 0
  refine ⟨hp.subset (by simp), ?_⟩
  rw [idx_pre hp (by simp)]; simp
theorem gen_can {a : Au} (h : RightW a) (ws : List Int) : genB (canA a) ws = genB a ws := by
  have h0 := h.st0
  by_cases hz : a.st = 0
  · have : (canA a).st = 0 := by simp [canA, fnd, hz]
    simp [genB, hz, this]
  · obtain ⟨hm, hi⟩ := zero_fnd h (by omega)
    have hr := (run_can h ws 0 hm).2
    rw [hi] at hr
    have hl := List.length_pos_of_mem hm
    have hs : ¬ (canA a).st = 0 := by simp [canA]; intro e; rw [e] at hl; simp at hl
    have hr2 : (runE (canA a) 0 ws).2 = (runE a 0 ws).2 := by have := congrArg Prod.snd hr; simpa using this
    simp [genB, hz, hs, hr2]
theorem acc_can {a : Au} (h : RightW a) (ws : List Int) : accB (canA a) ws = accB a ws := by
  unfold accB
  rw [gen_can h]
  cases hg : genB a ws with
  | false => rfl
  | true =>
    have hz : a.st ≠ 0 := by unfold genB at hg; simp at hg; exact hg.1
    have h0 := h.st0
    obtain ⟨hm, hi⟩ := zero_fnd h (by omega)
    obtain ⟨hq, hr⟩ := run_can h ws 0 hm
    rw [hi] at hr
    have hr1 : (runE (canA a) 0 ws).1 = ((fnd a).idxOf (runE a 0 ws).1 : Int) := by have := congrArg Prod.fst hr; simpa using this
    rw [hr1, Bool.true_and, Bool.true_and, decide_eq_decide]
    show ((fnd a).idxOf (runE a 0 ws).1 : Int) ∈ canM a ↔ _
    rw [mem_canM]
    constructor
    · rintro ⟨i, h1, h2, h3⟩
      have : i = (fnd a).idxOf (runE a 0 ws).1 := by omega
      rw [this, getD_idxOf hq] at h2; exact h2
    · intro h1
      exact ⟨_, List.idxOf_lt_length_iff.2 hq, by rw [getD_idxOf hq]; exact h1, rfl⟩
theorem run_take (a : Au) : ∀ (ws : List Int) (q : Int) (k : Nat), (runE a q ws).2 = ws.length → (runE a q (ws.take k)).2 = (ws.take k).length
  | [], q, k, _ => by simp [runE_nil]
  | x :: ws, q, 0, _ => by simp [runE_nil]
  | x :: ws, q, k + 1, hh => by
    rw [List.take_succ_cons]
    cases e : stepO a q x with
    | none => rw [runE_stop e] at hh; simp at hh
    | some t =>
      rw [runE_go e] at hh ⊢
      have := run_take a ws t k (by simpa using hh)
      simp [this]
theorem gen_take {a : Au} {ws : List Int} (h : genB a ws = true) (k : Nat) : genB a (ws.take k) = true := by
  unfold genB at h ⊢
  simp only [Bool.and_eq_true, decide_eq_true_eq] at h ⊢
  exact ⟨h.1, run_take a ws 0 k h.2⟩

/-- What is found, numbered. -/
theorem visitL_map {fl : List Int} {f : Int → Int} {g : Ed → Ed} (hinj : ∀ x y, x ∈ fl → y ∈ fl → f x = f y → x = y) : ∀ (l : List Ed) (r : List Int), r ⊆ fl → (∀ x ∈ l, x.t ∈ fl ∧ (g x).t = f x.t) → visitL (r.map f) (l.map g) = (visitL r l).map f
  | [], r, _, _ => rfl
  | x :: l, r, hr, hl => by
    obtain ⟨h1, h2⟩ := hl x (by simp)
    rw [List.map_cons, visitL_cons, visitL_cons, h2]
    have e : visit (r.map f) (f x.t) = (visit r x.t).map f := by
      by_cases hm : x.t ∈ r
      · rw [visit_in hm, visit_in (List.mem_map.2 ⟨_, hm, rfl⟩)]
      · rw [visit_new hm, visit_new, List.map_append]; · rfl
        rintro hm2
        obtain ⟨y, hy, e⟩ := List.mem_map.1 hm2
        exact hm (hinj y x.t (hr hy) h1 e ▸ hy)
    rw [e]
    refine visitL_map hinj l _ (fun y hy => ?_) fun y hy => hl y (by simp [hy])
    rcases mem_visit.1 hy with h | h
    · exact hr h
    · rw [h]; exact h1
def rng (n : Nat) : List Int := (List.range n).map fun i : Nat => (i : Int)
theorem rng_len (n : Nat) : (rng n).length = n := by simp [rng]
theorem rng_at {n i : Nat} (h : i < n) : (rng n).getD i 0 = (i : Int) := by simp [rng, List.getD, h]
theorem map_idx {fl r : List Int} (hp : r <+: fl) (hd : fl.Nodup) : r.map (fun t => (fl.idxOf t : Int)) = rng r.length := by
  apply List.ext_getElem
  · simp [rng]
  · intro i h1 h2
    have hi : i < r.length := by simpa using h1
    simp only [rng, List.getElem_map, List.getElem_range]
    have e : r[i] = fl.getD i 0 := by rw [getD_pre hp hi]; simp [List.getD, List.getElem?_eq_getElem hi]
    rw [e, idxOf_getD hd (Nat.lt_of_lt_of_le hi hp.length_le)]
theorem Fd_can {a : Au} (h : RightW a) (h0 : 0 < a.st) : ∀ n, Fd (canA a) n = (Fd a n).map fun t => ((fnd a).idxOf t : Int)
  | 0 => by simp [Fd, (zero_fnd h h0).2]
  | n + 1 => by
    have ih := Fd_can h h0 n
    have hp := Fd_fnd h h0 n
    by_cases hn : n < (Fd a n).length
    · rw [Fd_go hn, Fd_go (by rw [ih, List.length_map]; exact hn), ih]
      have hnl : n < (fnd a).length := Nat.lt_of_lt_of_le hn hp.length_le
      have e1 : ((Fd a n).map fun t => ((fnd a).idxOf t : Int)).getD n 0 = (n : Int) := by
        rw [map_idx hp (fnd_nodup a), rng_at hn]
      rw [e1, succ_can hnl]
      unfold outE
      rw [getD_pre hp hn]
      refine visitL_map (fl := fnd a) (fun x y hx hy e => idx_inj hx hy (by omega)) _ _ hp.subset fun x hx => ⟨?_, rfl⟩
      rw [← getD_pre hp hn] at hx
      exact fnd_closed h hnl hx
    · rw [Fd_stop hn, Fd_stop (by rw [ih, List.length_map]; exact hn), ih]
theorem fnd_can {a : Au} (h : RightW a) : fnd (canA a) = rng (fnd a).length := by
  by_cases h0 : 0 < a.st
  · have hl := List.length_pos_of_mem (zero_fnd h h0).1
    have hs : (0 : Int) < (canA a).st := by simp [canA]; omega
    have hst : (canA a).st.toNat = (fnd a).length := by simp [canA]
    have h1 : fnd (canA a) = Fd (canA a) a.st.toNat := by
      refine fnd_at (can_right h) hs (n := (canA a).st.toNat) ?_ (Nat.le_refl _) |>.trans ?_
      · exact Fd_len (can_right h) hs _
      · have := Fd_still (a := canA a) (n := (canA a).st.toNat) (Fd_len (can_right h) hs _) (a.st.toNat - (canA a).st.toNat)
        have hle := fnd_len h
        rw [show (canA a).st.toNat + (a.st.toNat - (canA a).st.toNat) = a.st.toNat by omega] at this
        exact this.symm
    rw [h1, Fd_can h h0, ← fnd_pos h0, map_idx List.prefix_rfl (fnd_nodup a)]
  · have hf : fnd a = [] := by rw [fnd, if_pos (by omega)]
    rw [fnd, if_pos (by simp [canA, hf]), hf]; rfl
theorem rng_idx {n i : Nat} (h : i < n) : (rng n).idxOf (i : Int) = i := by
  have := idxOf_getD (l := rng n) (i := i) (by
    unfold rng
    rw [List.nodup_iff_pairwise_ne, List.pairwise_map]
    exact List.pairwise_lt_range.imp fun h => by omega) (by rw [rng_len]; exact h)
  rwa [rng_at h] at this
/-- The canonical form is its own canonical form. -/
theorem can_can {a : Au} (h : RightW a) : canA (canA a) = canA a := by
  have hf := fnd_can h
  have hl : (fnd (canA a)).length = (fnd a).length := by rw [hf, rng_len]
  have h1 : canM (canA a) = canM a := by
    refine lt_ext (canM_lt _) (canM_lt a) fun x => ?_
    rw [mem_canM, hl, hf]
    constructor
    · rintro ⟨i, hi, h2, rfl⟩; rw [rng_at hi] at h2; exact h2
    · intro hx
      obtain ⟨i, hi, _, rfl⟩ := mem_canM.1 hx
      exact ⟨i, hi, by rw [rng_at hi]; exact hx, rfl⟩
  have h2 : canEn (canA a) (fnd a).length = canEn a (fnd a).length := by
    unfold canEn
    have h3 : ∀ i ∈ List.range (fnd a).length, outE (canA a) (fnd (canA a)) i = outE a (fnd a) i := fun i hi => by
      rw [List.mem_range] at hi
      rw [hf]
      conv => lhs; unfold outE
      rw [rng_at hi, succ_can hi]
      conv => rhs; rw [← List.map_id (outE a (fnd a) i)]
      refine List.map_congr_left fun y hy => ?_
      unfold outE at hy
      obtain ⟨x, hx, rfl⟩ := List.mem_map.1 hy
      have := List.idxOf_lt_length_iff.2 (fnd_closed h hi hx)
      simp only [id]
      rw [rng_idx this]
    rw [List.flatMap_def, List.flatMap_def, List.map_congr_left h3]
  unfold canA at *
  simp only at *
  rw [hl, h1, h2]
end Go.Proofs.YtaadhpkpekmfoaaGreat

/- Layer 6, the mathematics of products: the automaton whose states are the numbers of tuples. -/
namespace Go.Proofs.YtaadhpkpekmfoaaGreat
open Go.RowKit Go.Sort

/-- The number of a tuple of states, and the tuple of a number. -/
def cdT : List Int → List Int → Int
  | s :: ss, q :: qs => q + s * cdT ss qs
  | _, _ => 0
def dcT : List Int → Int → List Int
  | [], _ => []
  | s :: ss, x => x % s :: dcT ss (x / s)
def InT : List Int → List Int → Prop
  | [], [] => True
  | s :: ss, q :: qs => (0 ≤ q ∧ q < s) ∧ InT ss qs
  | _, _ => False
def prT : List Int → Int
  | [] => 1
  | s :: ss => s * prT ss
theorem prT_pos : ∀ {ss : List Int}, (∀ s ∈ ss, 0 < s) → 0 < prT ss
  | [], _ => by simp [prT]
  | s :: ss, h => by
    have h1 := prT_pos (ss := ss) fun x hx => h x (List.mem_cons_of_mem _ hx)
    have h2 := h s (List.mem_cons_self ..)
    rw [prT]; exact Int.mul_pos h2 h1
theorem cd_range : ∀ {ss qs : List Int}, InT ss qs → 0 ≤ cdT ss qs ∧ cdT ss qs < prT ss
  | [], [], _ => by simp [cdT, prT]
  | s :: ss, q :: qs, h => by
    obtain ⟨⟨h1, h2⟩, h3⟩ := h
    obtain ⟨h4, h5⟩ := cd_range h3
    rw [cdT, prT]
    have h6 : s * cdT ss qs + s ≤ s * prT ss := by
      have : s * (cdT ss qs + 1) ≤ s * prT ss := Int.mul_le_mul_of_nonneg_left (by omega) (by omega)
      rwa [Int.mul_add, Int.mul_one] at this
    have h7 : 0 ≤ s * cdT ss qs := Int.mul_nonneg (by omega) h4
    omega
  | [], _ :: _, h => h.elim
  | _ :: _, [], h => h.elim
theorem dc_cd : ∀ {ss qs : List Int}, InT ss qs → dcT ss (cdT ss qs) = qs
  | [], [], _ => rfl
  | s :: ss, q :: qs, h => by
    obtain ⟨⟨h1, h2⟩, h3⟩ := h
    rw [cdT, dcT, Int.add_mul_emod_self_left, Int.emod_eq_of_lt h1 h2, Int.add_mul_ediv_left _ _ (by omega), Int.ediv_eq_zero_of_lt h1 h2, Int.zero_add, dc_cd h3]
  | [], _ :: _, h => h.elim
  | _ :: _, [], h => h.elim
theorem dc_in : ∀ {ss : List Int} (x : Int), (∀ s ∈ ss, 0 < s) → InT ss (dcT ss x)
  | [], _, _ => trivial
  | s :: ss, x, h => by
    have h2 := h s (List.mem_cons_self ..)
    exact ⟨⟨Int.emod_nonneg _ (by omega), Int.emod_lt_of_pos _ h2⟩, dc_in _ fun y hy => h y (List.mem_cons_of_mem _ hy)⟩
theorem cd_dc : ∀ {ss : List Int} {x : Int}, (∀ s ∈ ss, 0 < s) → 0 ≤ x → x < prT ss → cdT ss (dcT ss x) = x
  | [], x, _, h0, h1 => by simp [prT] at h1; simp [cdT]; omega
  | s :: ss, x, h, h0, h1 => by
    have h2 := h s (List.mem_cons_self ..)
    rw [prT] at h1
    have h3 : x / s < prT ss := Int.ediv_lt_of_lt_mul h2 (by rw [Int.mul_comm]; exact h1)
    rw [dcT, cdT, cd_dc (fun y hy => h y (List.mem_cons_of_mem _ hy)) (Int.ediv_nonneg h0 (by omega)) h3]
    exact Int.emod_add_mul_ediv x s
theorem InT.len : ∀ {ss qs : List Int}, InT ss qs → qs.length = ss.length
  | [], [], _ => rfl
  | s :: ss, q :: qs, h => by simp [InT.len h.2]
  | [], _ :: _, h => h.elim
  | _ :: _, [], h => h.elim
theorem dc_zero : ∀ (ss : List Int), dcT ss 0 = ss.map fun _ => 0
  | [] => rfl
  | s :: ss => by rw [dcT, Int.zero_emod, Int.zero_ediv, dc_zero ss]; rfl
theorem cd_inj {ss p q : List Int} (hp : InT ss p) (hq : InT ss q) (h : cdT ss p = cdT ss q) : p = q := by rw [← dc_cd hp, ← dc_cd hq, h]

/-- Two increasing lists merged: what stands at the head of both is taken once. -/
def un : List Int → List Int → List Int
  | [], ys => ys
  | x :: xs, [] => x :: xs
  | x :: xs, y :: ys => if x < y then x :: un xs (y :: ys) else if y < x then y :: un (x :: xs) ys else x :: un xs ys
termination_by xs ys => xs.length + ys.length
theorem mem_un : ∀ (a b : List Int) (x : Int), x ∈ un a b ↔ x ∈ a ∨ x ∈ b
  | [], b, x => by rw [un]; simp
  | y :: a, [], x => by rw [un]; simp
  | y :: a, z :: b, x => by
    rw [un]
    have h1 := mem_un a (z :: b) x
    have h2 := mem_un (y :: a) b x
    have h3 := mem_un a b x
    by_cases c1 : y < z
    · rw [if_pos c1]; simp only [List.mem_cons] at *; rw [h1, or_assoc]
    · rw [if_neg c1]
      by_cases c2 : z < y
      · rw [if_pos c2]; simp only [List.mem_cons] at *; rw [h2]
        constructor
        · rintro (h | (h | h) | h)
          · exact .inr (.inl h)
          · exact .inl (.inl h)
          · exact .inl (.inr h)
          · exact .inr (.inr h)
        · rintro ((h | h) | h | h)
          · exact .inr (.inl (.inl h))
          · exact .inr (.inl (.inr h))
          · exact .inl h
          · exact .inr (.inr h)
      · rw [if_neg c2]
        have e : y = z := by omega
        subst e
        simp only [List.mem_cons] at *; rw [h3]
        constructor
        · rintro (h | h | h)
          · exact .inl (.inl h)
          · exact .inl (.inr h)
          · exact .inr (.inr h)
        · rintro ((h | h) | h | h)
          · exact .inl h
          · exact .inr (.inl h)
          · exact .inl h
          · exact .inr (.inr h)
termination_by a b => a.length + b.length
theorem un_sorted : ∀ (a b : List Int), a.Pairwise (· < ·) → b.Pairwise (· < ·) → (un a b).Pairwise (· < ·)
  | [], b, _, hb => by rw [un]; exact hb
  | y :: a, [], ha, _ => by rw [un]; exact ha
  | y :: a, z :: b, ha, hb => by
    have ca := List.pairwise_cons.1 ha
    have cb := List.pairwise_cons.1 hb
    rw [un]
    by_cases c1 : y < z
    · rw [if_pos c1]
      refine List.pairwise_cons.2 ⟨fun x hx => ?_, un_sorted a (z :: b) ca.2 hb⟩
      rcases (mem_un _ _ _).1 hx with h | h
      · exact ca.1 x h
      · rcases List.mem_cons.1 h with rfl | h
        · exact c1
        · have := cb.1 x h; omega
    · rw [if_neg c1]
      by_cases c2 : z < y
      · rw [if_pos c2]
        refine List.pairwise_cons.2 ⟨fun x hx => ?_, un_sorted (y :: a) b ha cb.2⟩
        rcases (mem_un _ _ _).1 hx with h | h
        · rcases List.mem_cons.1 h with rfl | h
          · exact c2
          · have := ca.1 x h; omega
        · exact cb.1 x h
      · rw [if_neg c2]
        refine List.pairwise_cons.2 ⟨fun x hx => ?_, un_sorted a b ca.2 cb.2⟩
        rcases (mem_un _ _ _).1 hx with h | h
        · exact ca.1 x h
        · have := cb.1 x h; omega
termination_by a b => a.length + b.length
/-- The step of all automata by an event. -/
def stpT : List Au → List Int → Int → Option (List Int)
  | a :: l, q :: qs, e =>
    match (if e ∈ a.al then stepO a q e else some q), stpT l qs e with
    | some t, some ts => some (t :: ts)
    | _, _ => none
  | _, _, _ => some []
def stsT (l : List Au) : List Int := l.map Au.st
def alT (l : List Au) : List Int := l.foldl (fun z a => un z a.al) []
def mkT : List Au → List Int → Bool
  | a :: l, q :: qs => decide (q ∈ a.mr) && mkT l qs
  | _, _ => true
def posT (l : List Au) : Bool := l.all fun a => decide (0 < a.st)
/-- The automaton of the tuples' numbers. -/
def prodA (l : List Au) : Au where
  al := alT l
  st := if posT l then prT (stsT l) else 0
  mr := if posT l then ((List.range (prT (stsT l)).toNat).filter fun (x : Nat) => mkT l (dcT (stsT l) (x : Int))).map fun (x : Nat) => (x : Int) else []
  ed := if posT l then (List.range (prT (stsT l)).toNat).flatMap fun (x : Nat) => (alT l).filterMap fun e => (stpT l (dcT (stsT l) (x : Int)) e).map fun t => ⟨(x : Int), e, cdT (stsT l) t⟩ else []
theorem posT_iff {l : List Au} : posT l = true ↔ ∀ s ∈ stsT l, 0 < s := by simp [posT, stsT]

theorem stp_in : ∀ {l : List Au} {qs : List Int} {e : Int} {t : List Int}, (∀ a ∈ l, RightW a) → InT (stsT l) qs → stpT l qs e = some t → InT (stsT l) t
  | [], [], _, t, _, _, h => by simp [stpT] at h; subst h; trivial
  | a :: l, q :: qs, e, t, hr, hi, h => by
    rw [stpT] at h
    split at h
    · rename_i u ts h1 h2
      injection h with h; subst h
      have h3 := stp_in (fun b hb => hr b (List.mem_cons_of_mem _ hb)) hi.2 h2
      refine ⟨?_, h3⟩
      have ha := hr a (List.mem_cons_self ..)
      split at h1
      · exact step_range ha h1
      · injection h1 with h1; subst h1; exact hi.1
    · cases h
  | [], _ :: _, _, _, _, hi, _ => hi.elim
  | _ :: _, [], _, _, _, hi, _ => hi.elim
theorem alT_mem {l : List Au} {e : Int} : e ∈ alT l ↔ ∃ a ∈ l, e ∈ a.al := by
  have key : ∀ (l : List Au) (z : List Int), e ∈ l.foldl (fun z a => un z a.al) z ↔ e ∈ z ∨ ∃ a ∈ l, e ∈ a.al := by
    intro l
    induction l with
    | nil => simp
    | cons a l ih => intro z; rw [List.foldl_cons, ih, mem_un]; simp [or_assoc]
  rw [alT, key]; simp
theorem alT_sorted {l : List Au} (h : ∀ a ∈ l, RightW a) : (alT l).Pairwise (· < ·) := by
  have key : ∀ (l : List Au) (z : List Int), (∀ a ∈ l, RightW a) → z.Pairwise (· < ·) → (l.foldl (fun z a => un z a.al) z).Pairwise (· < ·) := by
    intro l
    induction l with
    | nil => intro z _ hz; exact hz
    | cons a l ih => intro z h hz; exact ih _ (fun b hb => h b (List.mem_cons_of_mem _ hb)) (un_sorted _ _ hz (h a (List.mem_cons_self ..)).alo)
  exact key l [] h List.Pairwise.nil
theorem alT_range {l : List Au} (h : ∀ a ∈ l, RightW a) : ∀ x ∈ alT l, 0 ≤ x ∧ x < 32 := fun x hx => by
  obtain ⟨a, ha, hm⟩ := alT_mem.1 hx
  exact (h a ha).alr x hm
theorem sts_in_zero {l : List Au} (hp : posT l = true) : InT (stsT l) ((stsT l).map fun _ => 0) := by
  rw [← dc_zero]; exact dc_in 0 (posT_iff.1 hp)
theorem filterMap_lt {P : Int → Option Ed} {zs : List Int} {x : Int} (hz : zs.Pairwise (· < ·)) (hP : ∀ e y, P e = some y → y.f = x ∧ y.e = e) : (zs.filterMap P).Pairwise ltE := by
  rw [List.pairwise_filterMap]
  refine hz.imp fun {a b} hab y hy z hz => ?_
  obtain ⟨h1, h2⟩ := hP a y hy
  obtain ⟨h3, h4⟩ := hP b z hz
  exact .inr ⟨by rw [h1, h3], by rw [h2, h4]; exact hab⟩
theorem prod_edge {l : List Au} {y : Ed} : y ∈ (prodA l).ed ↔ posT l = true ∧ ∃ x : Nat, x < (prT (stsT l)).toNat ∧ y.f = (x : Int) ∧ y.e ∈ alT l ∧ ∃ t, stpT l (dcT (stsT l) (x : Int)) y.e = some t ∧ y.t = cdT (stsT l) t := by
  unfold prodA
  cases hp : posT l with
  | false => simp
  | true =>
    simp only [if_true, List.mem_flatMap, List.mem_range, List.mem_filterMap, Option.map_eq_some_iff, true_and]
    constructor
    · rintro ⟨x, hx, e, he, t, ht, rfl⟩; exact ⟨x, hx, rfl, he, t, ht, rfl⟩
    · rintro ⟨x, hx, h1, he, t, ht, h2⟩
      obtain ⟨f, e, u⟩ := y
      simp only at h1 h2 he ht
      subst h1 h2
      exact ⟨x, hx, e, he, t, ht, rfl⟩
theorem prod_right {l : List Au} (h : ∀ a ∈ l, RightW a) : RightW (prodA l) where
  alr := alT_range h
  alo := alT_sorted h
  st0 := by
    unfold prodA; simp only
    split
    · rename_i hp; exact Int.le_of_lt (prT_pos (posT_iff.1 hp))
    · exact Int.le_refl _
  mrr x hx := by
    unfold prodA at hx ⊢; simp only at hx ⊢
    split at hx
    · rename_i hp
      rw [if_pos hp]
      obtain ⟨y, hy, rfl⟩ := List.mem_map.1 hx
      have h1 := List.mem_range.1 (List.mem_filter.1 hy).1
      have h2 := prT_pos (posT_iff.1 hp)
      omega
    · simp at hx
  mro := by
    unfold prodA; simp only
    split
    · rw [List.pairwise_map]
      exact (List.Pairwise.filter _ List.pairwise_lt_range).imp fun h => by omega
    · exact List.Pairwise.nil
  edr y hy := by
    obtain ⟨hp, x, hx, h1, h2, t, ht, h3⟩ := prod_edge.1 hy
    have hpos := posT_iff.1 hp
    have h5 := cd_range (stp_in h (dc_in _ hpos) ht)
    have h6 := prT_pos hpos
    have hs : (prodA l).st = prT (stsT l) := by unfold prodA; simp [hp]
    rw [hs, h1, h3]
    exact ⟨by omega, h5, h2⟩
  edo := by
    unfold prodA; simp only
    split
    · rw [List.pairwise_flatMap]
      refine ⟨fun x _ => filterMap_lt (x := (x : Int)) (alT_sorted h) fun e y hy => ?_, List.pairwise_lt_range.imp fun {a b} hab y hy z hz => ?_⟩
      · obtain ⟨t, _, rfl⟩ := Option.map_eq_some_iff.1 hy; exact ⟨rfl, rfl⟩
      · obtain ⟨_, _, h1⟩ := List.mem_filterMap.1 hy
        obtain ⟨_, _, h2⟩ := List.mem_filterMap.1 hz
        obtain ⟨_, _, rfl⟩ := Option.map_eq_some_iff.1 h1
        obtain ⟨_, _, rfl⟩ := Option.map_eq_some_iff.1 h2
        exact .inl (by simp; omega)
    · exact List.Pairwise.nil
theorem prod_st {l : List Au} (hp : posT l = true) : (prodA l).st = prT (stsT l) := by unfold prodA; simp [hp]
theorem prod_st0 {l : List Au} (hp : posT l = false) : (prodA l).st = 0 := by unfold prodA; simp [hp]
/-- The step of the numbers is that of the tuples. -/
theorem prod_step {l : List Au} (h : ∀ a ∈ l, RightW a) (hp : posT l = true) {qs : List Int} (hq : InT (stsT l) qs) {e : Int} (he : e ∈ alT l) : stepO (prodA l) (cdT (stsT l) qs) e = (stpT l qs e).map (cdT (stsT l)) := by
  obtain ⟨r1, r2⟩ := cd_range hq
  cases hs : stpT l qs e with
  | none =>
    rw [stepO, edgeO_none.2]
    · rfl
    · rintro y hy ⟨h1, h2⟩
      obtain ⟨_, x, hx, h3, h4, t, ht, _⟩ := prod_edge.1 hy
      rw [← h3, h1, dc_cd hq, h2, hs] at ht
      cases ht
  | some t =>
    have : edgeO (prodA l).ed (cdT (stsT l) qs) e = some ⟨cdT (stsT l) qs, e, cdT (stsT l) t⟩ := by
      rw [edgeO_some (prod_right h).edo]
      refine ⟨prod_edge.2 ⟨hp, (cdT (stsT l) qs).toNat, by omega, by simp; omega, he, t, ?_, rfl⟩, rfl, rfl⟩
      rw [show ((cdT (stsT l) qs).toNat : Int) = cdT (stsT l) qs by omega, dc_cd hq]; exact hs
    rw [stepO, this]; rfl
theorem prod_mark {l : List Au} (hp : posT l = true) {qs : List Int} (hq : InT (stsT l) qs) : cdT (stsT l) qs ∈ (prodA l).mr ↔ mkT l qs = true := by
  obtain ⟨r1, r2⟩ := cd_range hq
  unfold prodA
  simp only [hp, if_true, List.mem_map, List.mem_filter, List.mem_range]
  constructor
  · rintro ⟨x, ⟨hx, hm⟩, e⟩
    rw [e, dc_cd hq] at hm; exact hm
  · intro hm
    refine ⟨(cdT (stsT l) qs).toNat, ⟨by omega, ?_⟩, by omega⟩
    rw [show ((cdT (stsT l) qs).toNat : Int) = cdT (stsT l) qs by omega, dc_cd hq]; exact hm
end Go.Proofs.YtaadhpkpekmfoaaGreat

/- An automaton whose states are the numbers of things (subsets, pairs, tuples): one construction for all. -/
namespace Go.Proofs.YtaadhpkpekmfoaaGreat

/-- Things with numbers, a step by events and a mark. -/
structure Cod (S : Type) where
  al : List Int
  n : Nat
  en : S → Int
  de : Int → S
  st : S → Int → Option S
  mq : S → Bool
structure CodOk {S : Type} (c : Cod S) (ok : S → Prop) : Prop where
  alr : ∀ x ∈ c.al, 0 ≤ x ∧ x < 32
  alo : c.al.Pairwise (· < ·)
  enr : ∀ s, ok s → 0 ≤ c.en s ∧ c.en s < c.n
  den : ∀ s, ok s → c.de (c.en s) = s
  okd : ∀ x : Int, 0 ≤ x → x < c.n → ok (c.de x)
  edn : ∀ x : Int, 0 ≤ x → x < c.n → c.en (c.de x) = x
  sto : ∀ s e t, ok s → c.st s e = some t → ok t
def codA {S : Type} (c : Cod S) : Au where
  al := c.al
  st := c.n
  mr := ((List.range c.n).filter fun (x : Nat) => c.mq (c.de (x : Int))).map fun (x : Nat) => (x : Int)
  ed := (List.range c.n).flatMap fun (x : Nat) => c.al.filterMap fun e => (c.st (c.de (x : Int)) e).map fun t => ⟨(x : Int), e, c.en t⟩
variable {S : Type} {c : Cod S} {ok : S → Prop}
theorem cod_edge {y : Ed} : y ∈ (codA c).ed ↔ ∃ x : Nat, x < c.n ∧ y.f = (x : Int) ∧ y.e ∈ c.al ∧ ∃ t, c.st (c.de (x : Int)) y.e = some t ∧ y.t = c.en t := by
  unfold codA
  simp only [List.mem_flatMap, List.mem_range, List.mem_filterMap, Option.map_eq_some_iff]
  constructor
  · rintro ⟨x, hx, e, he, t, ht, rfl⟩
    exact ⟨x, hx, rfl, he, t, ht, rfl⟩
  · rintro ⟨x, hx, h1, he, t, ht, h2⟩
    exact ⟨x, hx, y.e, he, t, ht, by rw [← h1, ← h2]⟩
theorem cod_right (h : CodOk c ok) : RightW (codA c) where
  alr := h.alr
  alo := h.alo
  st0 := by show (0 : Int) ≤ (c.n : Int); omega
  mrr x hx := by
    obtain ⟨y, hy, rfl⟩ := List.mem_map.1 hx
    have h1 := List.mem_range.1 (List.mem_filter.1 hy).1
    exact ⟨by omega, by show (y : Int) < (c.n : Int); omega⟩
  mro := by
    unfold codA; simp only
    rw [List.pairwise_map]
    exact (List.Pairwise.filter _ List.pairwise_lt_range).imp fun h => by omega
  edr y hy := by
    obtain ⟨x, hx, h1, h2, t, ht, h3⟩ := cod_edge.1 hy
    have h4 := h.enr t (h.sto _ _ _ (h.okd (x : Int) (by omega) (by omega)) ht)
    exact ⟨⟨by omega, by show y.f < (c.n : Int); omega⟩, ⟨by omega, by show y.t < (c.n : Int); omega⟩, h2⟩
  edo := by
    unfold codA; simp only
    rw [List.pairwise_flatMap]
    refine ⟨fun x _ => filterMap_lt (x := (x : Int)) h.alo fun e y hy => ?_, List.pairwise_lt_range.imp fun {a b} hab y hy z hz => ?_⟩
    · obtain ⟨t, _, rfl⟩ := Option.map_eq_some_iff.1 hy; exact ⟨rfl, rfl⟩
    · obtain ⟨_, _, h1⟩ := List.mem_filterMap.1 hy
      obtain ⟨_, _, h2⟩ := List.mem_filterMap.1 hz
      obtain ⟨_, _, rfl⟩ := Option.map_eq_some_iff.1 h1
      obtain ⟨_, _, rfl⟩ := Option.map_eq_some_iff.1 h2
      exact .inl (Int.ofNat_lt.2 hab)
theorem cod_step (h : CodOk c ok) {s : S} (hs : ok s) {e : Int} (he : e ∈ c.al) : stepO (codA c) (c.en s) e = (c.st s e).map c.en := by
  have hr := h.enr s hs
  have hd := h.den s hs
  cases ht : c.st s e with
  | none =>
    rw [stepO, edgeO_none.2]
    · rfl
    · rintro y hy ⟨h1, h2⟩
      obtain ⟨x, hx, h3, h4, t, ht', _⟩ := cod_edge.1 hy
      rw [← h3, h1, hd, h2, ht] at ht'
      cases ht'
  | some t =>
    have : edgeO (codA c).ed (c.en s) e = some ⟨c.en s, e, c.en t⟩ := by
      rw [edgeO_some (cod_right h).edo]
      refine ⟨cod_edge.2 ⟨(c.en s).toNat, by omega, by simp; omega, he, t, ?_, rfl⟩, rfl, rfl⟩
      rw [show ((c.en s).toNat : Int) = c.en s by omega, hd]; exact ht
    rw [stepO, this]; rfl
theorem cod_mark (h : CodOk c ok) {s : S} (hs : ok s) : c.en s ∈ (codA c).mr ↔ c.mq s = true := by
  have hr := h.enr s hs
  have hd := h.den s hs
  unfold codA
  simp only [List.mem_map, List.mem_filter, List.mem_range]
  constructor
  · rintro ⟨x, ⟨hx, hm⟩, e⟩
    rw [e, hd] at hm; exact hm
  · intro hm
    exact ⟨(c.en s).toNat, ⟨by omega, by rw [show ((c.en s).toNat : Int) = c.en s by omega, hd]; exact hm⟩, by omega⟩
/-- One step of a search among things is an edge of their numbers. -/
theorem cod_link (h : CodOk c ok) {q e : Int} (hq : 0 ≤ q ∧ q < (codA c).st) (he : e ∈ c.al) : (c.st (c.de q) e = none ∧ edgeO (codA c).ed q e = none) ∨ ∃ t, c.st (c.de q) e = some t ∧ ok t ∧ (0 ≤ c.en t ∧ c.en t < (codA c).st) ∧ c.de (c.en t) = t ∧ edgeO (codA c).ed q e = some ⟨q, e, c.en t⟩ := by
  have hq2 : q < (c.n : Int) := hq.2
  have hs := cod_step h (h.okd q hq.1 hq2) he
  rw [h.edn q hq.1 hq2] at hs
  cases hx : edgeO (codA c).ed q e with
  | none =>
    rw [stepO, hx] at hs
    cases ht : c.st (c.de q) e with
    | none => exact .inl ⟨rfl, rfl⟩
    | some t => rw [ht] at hs; cases hs
  | some x =>
    obtain ⟨_, h3, h4⟩ := (edgeO_some (cod_right h).edo).1 hx
    rw [stepO, hx] at hs
    cases ht : c.st (c.de q) e with
    | none => rw [ht] at hs; cases hs
    | some t =>
      rw [ht] at hs
      have hok := h.sto _ _ _ (h.okd q hq.1 hq2) ht
      obtain ⟨xf, xe, xt⟩ := x
      simp only [Option.map_some, Option.some.injEq] at hs h3 h4
      exact .inr ⟨t, rfl, hok, h.enr t hok, h.den t hok, by rw [hs, h3, h4]⟩
end Go.Proofs.YtaadhpkpekmfoaaGreat

/- Subsets of the numbers below n as numbers below 2^n, shifted so that one given subset is 0. -/
namespace Go.Proofs.YtaadhpkpekmfoaaGreat

/-- A subset: a list that rises, of numbers below n. -/
def SubOk (n : Nat) (s : List Int) : Prop := s.Pairwise (· < ·) ∧ ∀ x ∈ s, 0 ≤ x ∧ x < (n : Int)
def twos (n : Nat) : List Int := List.replicate n 2
/-- The bits of a subset, from number m on. -/
def bitsS (s : List Int) : Nat → Int → List Int
  | 0, _ => []
  | n + 1, m => (if m ∈ s then 1 else 0) :: bitsS s n (m + 1)
def ofBits : List Int → Int → List Int
  | [], _ => []
  | b :: bs, m => if b = 1 then m :: ofBits bs (m + 1) else ofBits bs (m + 1)
theorem twos_pos (n : Nat) : ∀ s ∈ twos n, 0 < s := fun s hs => by rw [List.eq_of_mem_replicate hs]; omega
theorem bits_in (s : List Int) : ∀ (n : Nat) (m : Int), InT (twos n) (bitsS s n m)
  | 0, _ => trivial
  | n + 1, m => by
    refine ⟨?_, bits_in s n (m + 1)⟩
    split <;> omega
theorem ofBits_ge : ∀ {bs : List Int} {m x : Int}, x ∈ ofBits bs m → m ≤ x ∧ x < m + (bs.length : Int)
  | [], _, _, h => by simp [ofBits] at h
  | b :: bs, m, x, h => by
    rw [ofBits] at h
    split at h
    · rcases List.mem_cons.1 h with h | h
      · subst h; simp; omega
      · have := ofBits_ge h; simp; omega
    · have := ofBits_ge h; simp; omega
theorem ofBits_up : ∀ (bs : List Int) (m : Int), (ofBits bs m).Pairwise (· < ·)
  | [], _ => List.Pairwise.nil
  | b :: bs, m => by
    rw [ofBits]
    split
    · exact List.pairwise_cons.2 ⟨fun x hx => by have := ofBits_ge hx; omega, ofBits_up bs (m + 1)⟩
    · exact ofBits_up bs (m + 1)
theorem mem_ofBits (s : List Int) : ∀ (n : Nat) (m x : Int), x ∈ ofBits (bitsS s n m) m ↔ x ∈ s ∧ m ≤ x ∧ x < m + (n : Int)
  | 0, m, x => by simp [bitsS, ofBits]
  | n + 1, m, x => by
    rw [bitsS, ofBits]
    have ih := mem_ofBits s n (m + 1) x
    by_cases hm : m ∈ s
    · rw [if_pos hm, if_pos rfl, List.mem_cons, ih]
      constructor
      · rintro (rfl | ⟨h1, h2, h3⟩)
        · exact ⟨hm, by omega, by omega⟩
        · exact ⟨h1, by omega, by omega⟩
      · rintro ⟨h1, h2, h3⟩
        by_cases hx : x = m
        · exact .inl hx
        · exact .inr ⟨h1, by omega, by omega⟩
    · rw [if_neg hm, if_neg (by omega), ih]
      constructor
      · rintro ⟨h1, h2, h3⟩; exact ⟨h1, by omega, by omega⟩
      · rintro ⟨h1, h2, h3⟩
        refine ⟨h1, ?_, by omega⟩
        have : x ≠ m := fun e => hm (e ▸ h1)
        omega
theorem bits_ofBits : ∀ {n : Nat} {bs : List Int} {m : Int}, InT (twos n) bs → bitsS (ofBits bs m) n m = bs
  | 0, [], _, _ => rfl
  | n + 1, b :: bs, m, h => by
    have h1 : 0 ≤ b ∧ b < 2 := h.1
    have ih := bits_ofBits (m := m + 1) (n := n) (bs := bs) h.2
    have hn : m ∉ ofBits bs (m + 1) := fun hx => by have := ofBits_ge hx; omega
    rw [bitsS, ofBits]
    by_cases hb : b = 1
    · rw [if_pos hb, if_pos (by simp)]
      have : bitsS (m :: ofBits bs (m + 1)) n (m + 1) = bitsS (ofBits bs (m + 1)) n (m + 1) := bits_skip n (m + 1) (by omega)
      rw [this, ih, hb]
    · rw [if_neg hb, if_neg hn, ih]
      have : b = 0 := by omega
      rw [this]
where
  bits_skip {s : List Int} {x : Int} : ∀ (n : Nat) (m : Int), x < m → bitsS (x :: s) n m = bitsS s n m
    | 0, _, _ => rfl
    | n + 1, m, h => by
      rw [bitsS, bitsS, bits_skip n (m + 1) (by omega)]
      have : (m ∈ x :: s) ↔ m ∈ s := by
        rw [List.mem_cons]
        exact ⟨fun h' => h'.resolve_left (by omega), .inr⟩
      simp [this]
/-- The number of a subset, and the subset of a number, before the shift. -/
def cS (n : Nat) (s : List Int) : Int := cdT (twos n) (bitsS s n 0)
def dS (n : Nat) (x : Int) : List Int := ofBits (dcT (twos n) x) 0
theorem cS_range (n : Nat) (s : List Int) : 0 ≤ cS n s ∧ cS n s < prT (twos n) := cd_range (bits_in s n 0)
theorem dS_ok (n : Nat) (x : Int) : SubOk n (dS n x) := by
  have hin := dc_in x (twos_pos n)
  refine ⟨ofBits_up _ _, fun y hy => ?_⟩
  have := ofBits_ge hy
  rw [hin.len, twos, List.length_replicate] at this
  omega
theorem sub_ext {a b : List Int} (ha : a.Pairwise (· < ·)) (hb : b.Pairwise (· < ·)) (h : ∀ x, x ∈ a ↔ x ∈ b) : a = b :=
  ups_ext a b ha hb h
where
  ups_ext : ∀ (a b : List Int), a.Pairwise (· < ·) → b.Pairwise (· < ·) → (∀ x, x ∈ a ↔ x ∈ b) → a = b
    | [], [], _, _, _ => rfl
    | [], y :: b, _, _, h => absurd ((h y).2 (by simp)) (by simp)
    | x :: a, [], _, _, h => absurd ((h x).1 (by simp)) (by simp)
    | x :: a, y :: b, ha, hb, h => by
      rw [List.pairwise_cons] at ha hb
      have e : x = y := by
        have h1 := (h x).1 (by simp)
        have h2 := (h y).2 (by simp)
        rcases List.mem_cons.1 h1 with h1 | h1
        · exact h1
        · rcases List.mem_cons.1 h2 with h2 | h2
          · exact h2.symm
          · have := ha.1 y h2; have := hb.1 x h1; omega
      subst e
      rw [ups_ext a b ha.2 hb.2 fun z => by
        have hz := h z
        rw [List.mem_cons, List.mem_cons] at hz
        constructor
        · intro h1
          have := ha.1 z h1
          exact (hz.1 (.inr h1)).resolve_left (by omega)
        · intro h1
          have := hb.1 z h1
          exact (hz.2 (.inr h1)).resolve_left (by omega)]
theorem d_c {n : Nat} {s : List Int} (h : SubOk n s) : dS n (cS n s) = s := by
  unfold dS cS
  rw [dc_cd (bits_in s n 0)]
  refine sub_ext (ofBits_up _ _) h.1 fun x => ?_
  rw [mem_ofBits]
  exact ⟨fun h' => h'.1, fun h' => ⟨h', by have := h.2 x h'; omega, by have := h.2 x h'; omega⟩⟩
theorem c_d {n : Nat} {x : Int} (h0 : 0 ≤ x) (h1 : x < prT (twos n)) : cS n (dS n x) = x := by
  unfold cS dS
  rw [bits_ofBits (dc_in x (twos_pos n)), cd_dc (twos_pos n) h0 h1]
/-- The number of a subset so that s0 is 0. -/
def nmS (n : Nat) (s0 s : List Int) : Int := (cS n s - cS n s0) % prT (twos n)
def stS (n : Nat) (s0 : List Int) (x : Int) : List Int := dS n ((x + cS n s0) % prT (twos n))
theorem two_pos (n : Nat) : 0 < prT (twos n) := prT_pos (twos_pos n)
theorem nm_range (n : Nat) (s0 s : List Int) : 0 ≤ nmS n s0 s ∧ nmS n s0 s < prT (twos n) :=
  ⟨Int.emod_nonneg _ (by have := two_pos n; omega), Int.emod_lt_of_pos _ (two_pos n)⟩
theorem nm_self (n : Nat) (s0 : List Int) : nmS n s0 s0 = 0 := by simp [nmS]
theorem st_nm {n : Nat} {s0 s : List Int} (h : SubOk n s) : stS n s0 (nmS n s0 s) = s := by
  have hr := cS_range n s
  unfold stS nmS
  rw [Int.emod_add_emod, show cS n s - cS n s0 + cS n s0 = cS n s by omega, Int.emod_eq_of_lt hr.1 hr.2, d_c h]
theorem nm_st {n : Nat} {s0 : List Int} {x : Int} (h0 : 0 ≤ x) (h1 : x < prT (twos n)) : nmS n s0 (stS n s0 x) = x := by
  unfold stS nmS
  rw [c_d (Int.emod_nonneg _ (by have := two_pos n; omega)) (Int.emod_lt_of_pos _ (two_pos n)), Int.emod_sub_emod, show x + cS n s0 - cS n s0 = x by omega, Int.emod_eq_of_lt h0 h1]
theorem st_ok (n : Nat) (s0 : List Int) (x : Int) : SubOk n (stS n s0 x) := dS_ok n _
end Go.Proofs.YtaadhpkpekmfoaaGreat

/- Layer 7: what some events reach; the automaton of the estimates. -/
namespace Go.Proofs.YtaadhpkpekmfoaaGreat

/-- What edges by some events reach from some states. -/
inductive Rc (a : Au) (ev fr : List Int) : Int → Prop
  | base {q : Int} : q ∈ fr → Rc a ev fr q
  | step {x : Ed} : Rc a ev fr x.f → x ∈ a.ed → x.e ∈ ev → Rc a ev fr x.t
open Classical in
/-- The list of these states, in order. -/
noncomputable def reR (a : Au) (ev fr : List Int) : List Int := (rng a.st.toNat).filter fun q => decide (Rc a ev fr q)
theorem mem_rng {n : Nat} {x : Int} : x ∈ rng n ↔ 0 ≤ x ∧ x < (n : Int) := by
  unfold rng
  rw [List.mem_map]
  constructor
  · rintro ⟨i, hi, rfl⟩; have := List.mem_range.1 hi; omega
  · rintro ⟨h0, h1⟩; exact ⟨x.toNat, List.mem_range.2 (by omega), by omega⟩
theorem rng_up (n : Nat) : (rng n).Pairwise (· < ·) := by
  unfold rng; rw [List.pairwise_map]; exact List.pairwise_lt_range.imp fun h => Int.ofNat_lt.2 h
theorem rc_range {a : Au} (h : RightW a) {ev fr : List Int} (hf : ∀ q ∈ fr, 0 ≤ q ∧ q < a.st) {q : Int} (hq : Rc a ev fr q) : 0 ≤ q ∧ q < a.st := by
  cases hq with
  | base hq => exact hf q hq
  | step _ hx _ => exact (h.edr _ hx).2.1
open Classical in
theorem mem_reR {a : Au} (h : RightW a) {ev fr : List Int} (hf : ∀ q ∈ fr, 0 ≤ q ∧ q < a.st) {q : Int} : q ∈ reR a ev fr ↔ Rc a ev fr q := by
  unfold reR
  rw [List.mem_filter, mem_rng]
  simp only [decide_eq_true_eq]
  have := h.st0
  exact ⟨fun h' => h'.2, fun h' => ⟨by have := rc_range h hf h'; omega, h'⟩⟩
theorem reR_ok (a : Au) (ev fr : List Int) : SubOk a.st.toNat (reR a ev fr) :=
  ⟨(rng_up _).sublist List.filter_sublist, fun _ hx => mem_rng.1 (List.mem_filter.1 hx).1⟩
theorem reR_ok' {a : Au} (h : RightW a) (ev fr : List Int) : ∀ q ∈ reR a ev fr, 0 ≤ q ∧ q < a.st := fun q hq => by
  have := (reR_ok a ev fr).2 q hq
  have := h.st0
  omega
/-- A list that rises and has just these states is the list. -/
theorem reR_of {a : Au} (h : RightW a) {ev fr zs : List Int} (hf : ∀ q ∈ fr, 0 ≤ q ∧ q < a.st) (hu : zs.Pairwise (· < ·)) (hz : ∀ q, q ∈ zs ↔ Rc a ev fr q) : zs = reR a ev fr :=
  sub_ext hu (reR_ok a ev fr).1 fun q => (hz q).trans (mem_reR h hf).symm
/-- What a search has found when it ends. -/
theorem rc_found {a : Au} {ev fr F : List Int} (h1 : ∀ q ∈ fr, q ∈ F) (h2 : ∀ q ∈ F, Rc a ev fr q) (h3 : ∀ x ∈ a.ed, x.f ∈ F → x.e ∈ ev → x.t ∈ F) (q : Int) : q ∈ F ↔ Rc a ev fr q :=
  ⟨h2 q, fun h => by
    induction h with
    | base h => exact h1 _ h
    | step _ hx he ih => exact h3 _ hx ih he⟩
theorem rc_mono {a : Au} {ev ev' fr fr' : List Int} (he : ∀ e ∈ ev, e ∈ ev') (hf : ∀ q ∈ fr, Rc a ev' fr' q) {q : Int} (h : Rc a ev fr q) : Rc a ev' fr' q := by
  induction h with
  | base h => exact hf _ h
  | step _ hx h2 ih => exact .step ih hx (he _ h2)
theorem reR_same {a : Au} (h : RightW a) {ev fr fr' : List Int} (hf : ∀ q ∈ fr, 0 ≤ q ∧ q < a.st) (hs : ∀ q, q ∈ fr ↔ q ∈ fr') : reR a ev fr = reR a ev fr' :=
  reR_of h (fun q hq => hf q ((hs q).2 hq)) (reR_ok a ev fr).1 fun _ => (mem_reR h hf).trans ⟨rc_mono (fun _ h => h) fun q hq => .base ((hs q).1 hq), rc_mono (fun _ h => h) fun q hq => .base ((hs q).2 hq)⟩
/-- The states to which an event leads from those of a list. -/
def tgR (a : Au) (s : List Int) (e : Int) : List Int := (a.ed.filter fun x => decide (x.e = e ∧ x.f ∈ s)).map Ed.t
theorem mem_tgR {a : Au} {s : List Int} {e q : Int} : q ∈ tgR a s e ↔ ∃ x ∈ a.ed, x.e = e ∧ x.f ∈ s ∧ x.t = q := by
  unfold tgR
  rw [List.mem_map]
  constructor
  · rintro ⟨x, hx, rfl⟩
    obtain ⟨h1, h2⟩ := List.mem_filter.1 hx
    rw [decide_eq_true_eq] at h2
    exact ⟨x, h1, h2.1, h2.2, rfl⟩
  · rintro ⟨x, h1, h2, h3, rfl⟩
    exact ⟨x, List.mem_filter.2 ⟨h1, decide_eq_true ⟨h2, h3⟩⟩, rfl⟩
theorem tgR_range {a : Au} (h : RightW a) {s : List Int} {e : Int} : ∀ q ∈ tgR a s e, 0 ≤ q ∧ q < a.st := fun q hq => by
  obtain ⟨x, hx, _, _, rfl⟩ := mem_tgR.1 hq
  exact (h.edr _ hx).2.1
/-- The events that are kept, and those that are erased. -/
def kpR (a : Au) (onto : List Int) : List Int := a.al.filter fun x => decide (x ∈ onto)
def erR (a : Au) (onto : List Int) : List Int := a.al.filter fun x => !decide (x ∈ onto)
theorem mem_kpR {a : Au} {onto : List Int} {x : Int} : x ∈ kpR a onto ↔ x ∈ a.al ∧ x ∈ onto := by simp [kpR]
theorem mem_erR {a : Au} {onto : List Int} {x : Int} : x ∈ erR a onto ↔ x ∈ a.al ∧ x ∉ onto := by simp [erR]
/-- The estimate after an event; the first one. -/
noncomputable def nxR (a : Au) (onto s : List Int) (e : Int) : List Int := reR a (erR a onto) (tgR a s e)
noncomputable def fsR (a : Au) (onto : List Int) : List Int := if a.st = 0 then [] else reR a (erR a onto) [0]
noncomputable def esR (a : Au) (onto ws : List Int) : List Int := ws.foldl (nxR a onto) (fsR a onto)
theorem nxR_nil {a : Au} (h : RightW a) {onto s : List Int} {e : Int} : nxR a onto s e = [] ↔ tgR a s e = [] := by
  constructor
  · intro h1
    cases ht : tgR a s e with
    | nil => rfl
    | cons q l =>
      have : q ∈ nxR a onto s e := (mem_reR h (tgR_range h)).2 (.base (by rw [ht]; simp))
      rw [h1] at this; cases this
  · intro h1
    cases ht : nxR a onto s e with
    | nil => rfl
    | cons q l =>
      have hq : Rc a (erR a onto) (tgR a s e) q := (mem_reR h (tgR_range h)).1 (by show q ∈ nxR a onto s e; rw [ht]; simp)
      rw [h1] at hq
      exfalso
      clear ht
      induction hq with
      | base h => cases h
      | step _ _ _ ih => exact ih
/-- Estimates with their numbers. -/
noncomputable def detC (a : Au) (onto : List Int) : Cod (List Int) where
  al := kpR a onto
  n := (prT (twos a.st.toNat)).toNat
  en := nmS a.st.toNat (fsR a onto)
  de := stS a.st.toNat (fsR a onto)
  st s e := if tgR a s e = [] then none else some (nxR a onto s e)
  mq s := s.any fun q => decide (q ∈ a.mr)
theorem det_ok {a : Au} (h : RightW a) (onto : List Int) : CodOk (detC a onto) (SubOk a.st.toNat) where
  alr x hx := h.alr x (mem_kpR.1 hx).1
  alo := h.alo.sublist List.filter_sublist
  enr s _ := by
    have := nm_range a.st.toNat (fsR a onto) s
    exact ⟨this.1, by show nmS _ _ _ < ((prT (twos a.st.toNat)).toNat : Int); omega⟩
  den s hs := st_nm hs
  okd x _ _ := st_ok _ _ _
  edn x h0 h1 := nm_st h0 (by have h1 : x < ((prT (twos a.st.toNat)).toNat : Int) := h1; have := two_pos a.st.toNat; omega)
  sto s e t _ ht := by
    have ht' : (if tgR a s e = [] then none else some (nxR a onto s e)) = some t := ht
    split at ht'
    · cases ht'
    · injection ht' with ht'; rw [← ht']; exact reR_ok _ _ _
/-- The automaton of the estimates' numbers. -/
noncomputable def detA (a : Au) (onto : List Int) : Au := if a.st = 0 then ⟨kpR a onto, 0, [], []⟩ else codA (detC a onto)
theorem det_right {a : Au} (h : RightW a) (onto : List Int) : RightW (detA a onto) := by
  unfold detA
  split
  · exact { alr := fun x hx => h.alr x (mem_kpR.1 hx).1, alo := h.alo.sublist List.filter_sublist, st0 := Int.le_refl _, mrr := (fun x hx => by cases hx), mro := List.Pairwise.nil, edr := (fun x hx => by cases hx), edo := List.Pairwise.nil }
  · exact cod_right (det_ok h onto)
theorem fs_ok {a : Au} (onto : List Int) : SubOk a.st.toNat (fsR a onto) := by
  unfold fsR
  split
  · exact ⟨List.Pairwise.nil, fun x hx => by cases hx⟩
  · exact reR_ok _ _ _
/-- The first estimate has the number 0; a step of the numbers is that of the estimates. -/
theorem det_zero (a : Au) (onto : List Int) : (detC a onto).en (fsR a onto) = 0 := nm_self _ _
theorem det_step {a : Au} (h : RightW a) (h0 : a.st ≠ 0) {onto s : List Int} (hs : SubOk a.st.toNat s) {e : Int} (he : e ∈ kpR a onto) : stepO (detA a onto) ((detC a onto).en s) e = if tgR a s e = [] then none else some ((detC a onto).en (nxR a onto s e)) := by
  unfold detA
  rw [if_neg h0, cod_step (det_ok h onto) hs he]
  show Option.map _ (if tgR a s e = [] then none else some (nxR a onto s e)) = _
  split <;> rfl
theorem det_mark {a : Au} (h : RightW a) (h0 : a.st ≠ 0) {onto s : List Int} (hs : SubOk a.st.toNat s) : (detC a onto).en s ∈ (detA a onto).mr ↔ ∃ q ∈ s, q ∈ a.mr := by
  unfold detA
  rw [if_neg h0, cod_mark (det_ok h onto) hs]
  show (s.any fun q => decide (q ∈ a.mr)) = true ↔ _
  simp
end Go.Proofs.YtaadhpkpekmfoaaGreat

/- Layer 3: the state to which a whole word leads. -/
namespace Go.Proofs.YtaadhpkpekmfoaaGreat
open Go.RowKit Go.Sort

/-- The state to which a whole word leads. -/
def rO (a : Au) : Int → List Int → Option Int
  | q, [] => some q
  | q, x :: r => match stepO a q x with | none => none | some t => rO a t r
theorem rO_run (a : Au) : ∀ (ws : List Int) (q : Int), (∃ t, rO a q ws = some t ∧ runE a q ws = (t, ws.length)) ∨ (rO a q ws = none ∧ (runE a q ws).2 ≠ ws.length)
  | [], q => .inl ⟨q, rfl, runE_nil a q⟩
  | x :: r, q => by
    rw [rO]
    cases h : stepO a q x with
    | none => exact .inr ⟨rfl, by rw [runE_stop h]; simp⟩
    | some t =>
      rw [runE_go h]
      rcases rO_run a r t with ⟨u, h1, h2⟩ | ⟨h1, h2⟩
      · exact .inl ⟨u, h1, by rw [h2]; rfl⟩
      · exact .inr ⟨h1, by simp; exact h2⟩
theorem gen_rO {a : Au} {ws : List Int} (h : a.st ≠ 0) : genB a ws = (rO a 0 ws).isSome := by
  unfold genB
  rw [decide_eq_true h, Bool.true_and]
  rcases rO_run a ws 0 with ⟨t, h1, h2⟩ | ⟨h1, h2⟩
  · rw [h1, h2]; simp
  · rw [h1, decide_eq_false h2]; rfl
/-- A whole word leads to a marked state. -/
def mO (a : Au) (o : Option Int) : Bool := match o with | some t => decide (t ∈ a.mr) | none => false
theorem acc_rO {a : Au} {ws : List Int} (h : a.st ≠ 0) : accB a ws = mO a (rO a 0 ws) := by
  unfold accB
  rw [gen_rO h]
  rcases rO_run a ws 0 with ⟨t, h1, h2⟩ | ⟨h1, h2⟩
  · rw [h1, h2]; simp [mO]
  · rw [h1]; rfl
end Go.Proofs.YtaadhpkpekmfoaaGreat

/- Layer 7: words of an automaton and their observations among the estimates. -/
namespace Go.Proofs.YtaadhpkpekmfoaaGreat

/-- The thing to which a whole word leads. -/
def rC {S : Type} (c : Cod S) : S → List Int → Option S
  | s, [] => some s
  | s, x :: r => match c.st s x with | none => none | some t => rC c t r
theorem cod_rO {S : Type} {c : Cod S} {ok : S → Prop} (h : CodOk c ok) : ∀ (ws : List Int) (s : S), ok s → (∀ x ∈ ws, x ∈ c.al) → rO (codA c) (c.en s) ws = (rC c s ws).map c.en ∧ ∀ t, rC c s ws = some t → ok t
  | [], s, hs, _ => ⟨rfl, fun t ht => by simp [rC] at ht; subst ht; exact hs⟩
  | x :: r, s, hs, hx => by
    have h1 := cod_step h hs (hx x (List.mem_cons_self ..))
    rw [rO, rC, h1]
    cases e : c.st s x with
    | none => exact ⟨rfl, fun t ht => by simp at ht⟩
    | some t => exact cod_rO h r t (h.sto _ _ _ hs e) fun y hy => hx y (List.mem_cons_of_mem _ hy)
/-- A set of states that erased events do not leave. -/
def ClS (a : Au) (onto s : List Int) : Prop := ∀ x ∈ a.ed, x.f ∈ s → x.e ∈ erR a onto → x.t ∈ s
theorem reR_cls {a : Au} (h : RightW a) {onto fr : List Int} (hf : ∀ q ∈ fr, 0 ≤ q ∧ q < a.st) : ClS a onto (reR a (erR a onto) fr) := fun _ hx hs he =>
  (mem_reR h hf).2 (.step ((mem_reR h hf).1 hs) hx he)
theorem fs_cls {a : Au} (h : RightW a) (onto : List Int) : ClS a onto (fsR a onto) := by
  unfold fsR
  split
  · intro x _ hs; cases hs
  · have := h.st0
    exact reR_cls h fun q hq => by simp at hq; omega
theorem zero_fs {a : Au} (h : RightW a) (h0 : a.st ≠ 0) (onto : List Int) : (0 : Int) ∈ fsR a onto := by
  unfold fsR
  rw [if_neg h0]
  have := h.st0
  exact (mem_reR h fun q hq => by simp at hq; omega).2 (.base (by simp))
/-- The state of a word lies in the estimate of its observation. -/
theorem est_word {a : Au} (h : RightW a) {onto : List Int} : ∀ (ws : List Int) (q t : Int) (s : List Int), ClS a onto s → q ∈ s → rO a q ws = some t → ∃ s', rC (detC a onto) s (ws.filter fun x => decide (x ∈ onto)) = some s' ∧ t ∈ s' ∧ ClS a onto s'
  | [], q, t, s, hc, hq, hr => by
    simp [rO] at hr
    subst hr
    exact ⟨s, rfl, hq, hc⟩
  | x :: r, q, t, s, hc, hq, hr => by
    rw [rO] at hr
    cases hs : stepO a q x with
    | none => rw [hs] at hr; cases hr
    | some u =>
      rw [hs] at hr
      cases he : edgeO a.ed q x with
      | none => rw [stepO, he] at hs; cases hs
      | some y =>
        rw [stepO, he] at hs
        obtain ⟨hy, hf, hev⟩ := (edgeO_some h.edo).1 he
        injection hs with hs
        by_cases hx : x ∈ onto
        · rw [List.filter_cons_of_pos (by simpa using hx), rC]
          have htg : y.t ∈ tgR a s x := mem_tgR.2 ⟨y, hy, hev, by rw [hf]; exact hq, rfl⟩
          have hst : (detC a onto).st s x = some (nxR a onto s x) := by
            show (if tgR a s x = [] then none else some (nxR a onto s x)) = _
            rw [if_neg]
            intro e; rw [e] at htg; cases htg
          rw [hst]
          exact est_word h r u t (nxR a onto s x) (reR_cls h (tgR_range h)) ((mem_reR h (tgR_range h)).2 (.base (by rw [← hs]; exact htg))) hr
        · rw [List.filter_cons_of_neg (by simpa using hx)]
          refine est_word h r u t s hc ?_ hr
          rw [← hs]
          exact hc y hy (by rw [hf]; exact hq) (mem_erR.2 ⟨(h.edr y hy).2.2, by rw [hev]; exact hx⟩)
/-- Each state of an estimate has a word with the observation. -/
theorem rc_word {a : Au} (h : RightW a) {onto fr : List Int} {q : Int} (hq : Rc a (erR a onto) fr q) : ∃ p ∈ fr, ∃ ws, rO a p ws = some q ∧ (ws.filter fun x => decide (x ∈ onto)) = [] ∧ ∀ x ∈ ws, x ∈ a.al := by
  induction hq with
  | base hq => exact ⟨_, hq, [], rfl, rfl, by simp⟩
  | @step x _ hx he ih =>
    obtain ⟨p, hp, ws, h1, h2, h3⟩ := ih
    have hm := mem_erR.1 he
    refine ⟨p, hp, ws ++ [x.e], ?_, ?_, ?_⟩
    · have : rO a p (ws ++ [x.e]) = (match rO a p ws with | none => none | some u => stepO a u x.e) := rO_snoc a ws p x.e
      rw [this, h1]
      show stepO a x.f x.e = some x.t
      rw [stepO, (edgeO_some h.edo).2 ⟨hx, rfl, rfl⟩]; rfl
    · rw [List.filter_append, h2, List.filter_cons_of_neg (by simpa using hm.2)]; rfl
    · intro y hy
      rcases List.mem_append.1 hy with hy | hy
      · exact h3 y hy
      · rw [List.mem_singleton] at hy; subst hy; exact hm.1
where
  rO_snoc (a : Au) : ∀ (ws : List Int) (q x : Int), rO a q (ws ++ [x]) = (match rO a q ws with | none => none | some u => stepO a u x)
    | [], q, x => by
      show rO a q [x] = stepO a q x
      rw [rO]
      cases stepO a q x <;> rfl
    | y :: r, q, x => by
      rw [List.cons_append, rO, rO]
      cases stepO a q y with
      | none => rfl
      | some t => exact rO_snoc a r t x
/-- What an estimate after a word is. -/
theorem rC_fold {a : Au} {onto : List Int} : ∀ (ws : List Int) (s t : List Int), rC (detC a onto) s ws = some t → t = ws.foldl (nxR a onto) s
  | [], s, t, h => by simp [rC] at h; exact h.symm
  | x :: r, s, t, h => by
    rw [rC] at h
    have hst : (detC a onto).st s x = if tgR a s x = [] then none else some (nxR a onto s x) := rfl
    rw [hst] at h
    by_cases he : tgR a s x = []
    · rw [if_pos he] at h; cases h
    · rw [if_neg he] at h; exact rC_fold r _ t h
theorem rO_app (a : Au) : ∀ (v w : List Int) (q : Int), rO a q (v ++ w) = (match rO a q v with | none => none | some u => rO a u w)
  | [], w, q => rfl
  | x :: v, w, q => by
    rw [List.cons_append, rO, rO]
    cases stepO a q x with
    | none => rfl
    | some t => exact rO_app a v w t
/-- Each state of an estimate is reached, from one of the states before, by a word with the observation. -/
theorem est_has {a : Au} (h : RightW a) {onto : List Int} : ∀ (ws s s' : List Int) (t : Int), (∀ x ∈ ws, x ∈ onto) → rC (detC a onto) s ws = some s' → t ∈ s' → ∃ q ∈ s, ∃ w, rO a q w = some t ∧ (w.filter fun x => decide (x ∈ onto)) = ws ∧ ∀ x ∈ w, x ∈ a.al
  | [], s, s', t, _, hr, ht => by
    simp [rC] at hr
    subst hr
    exact ⟨t, ht, [], rfl, rfl, by simp⟩
  | x :: r, s, s', t, ho, hr, ht => by
    rw [rC] at hr
    have hst : (detC a onto).st s x = if tgR a s x = [] then none else some (nxR a onto s x) := rfl
    rw [hst] at hr
    by_cases he : tgR a s x = []
    · rw [if_pos he] at hr; cases hr
    · rw [if_neg he] at hr
      obtain ⟨u, hu, w, h1, h2, h3⟩ := est_has h r _ s' t (fun y hy => ho y (List.mem_cons_of_mem _ hy)) hr ht
      obtain ⟨v, hv, w2, g1, g2, g3⟩ := rc_word h ((mem_reR h (tgR_range h)).1 hu)
      obtain ⟨y, hy, hye, hyf, hyt⟩ := mem_tgR.1 hv
      refine ⟨y.f, hyf, x :: (w2 ++ w), ?_, ?_, ?_⟩
      · have hs : stepO a y.f x = some v := by rw [stepO, (edgeO_some h.edo).2 ⟨hy, rfl, hye⟩, ← hyt]; rfl
        rw [rO, hs]
        show rO a v (w2 ++ w) = _
        rw [rO_app, g1]; exact h1
      · rw [List.filter_cons_of_pos (by simpa using ho x (by simp)), List.filter_append, g2, h2]; rfl
      · intro z hz
        rcases List.mem_cons.1 hz with hz | hz
        · rw [hz, ← hye]; exact (h.edr y hy).2.2
        · rcases List.mem_append.1 hz with hz | hz
          · exact g3 z hz
          · exact h3 z hz
theorem rC_ne {a : Au} (h : RightW a) {onto : List Int} : ∀ (ws s s' : List Int), s ≠ [] → rC (detC a onto) s ws = some s' → s' ≠ []
  | [], s, s', hs, hr => by simp [rC] at hr; rwa [← hr]
  | x :: r, s, s', hs, hr => by
    rw [rC] at hr
    have hst : (detC a onto).st s x = if tgR a s x = [] then none else some (nxR a onto s x) := rfl
    rw [hst] at hr
    by_cases he : tgR a s x = []
    · rw [if_pos he] at hr; cases hr
    · rw [if_neg he] at hr
      exact rC_ne h r _ s' (fun e => he ((nxR_nil h).1 e)) hr
/-- The projected automaton generates just the observations of the words, and marks those of the marked ones. -/
theorem det_gen {a : Au} (h : RightW a) (h0 : a.st ≠ 0) {onto ws : List Int} (hw : ∀ x ∈ ws, x ∈ kpR a onto) : genB (detA a onto) ws = true ↔ ∃ w, (∀ x ∈ w, x ∈ a.al) ∧ (w.filter fun x => decide (x ∈ onto)) = ws ∧ genB a w = true := by
  have hn : (detA a onto).st ≠ 0 := by
    unfold detA; rw [if_neg h0]
    show ((prT (twos a.st.toNat)).toNat : Int) ≠ 0
    have := two_pos a.st.toNat
    omega
  have hd : rO (detA a onto) 0 ws = (rC (detC a onto) (fsR a onto) ws).map (detC a onto).en := by
    have := (cod_rO (det_ok h onto) ws (fsR a onto) (fs_ok onto) hw).1
    rw [det_zero] at this
    unfold detA; rw [if_neg h0]; exact this
  rw [gen_rO hn, hd, Option.isSome_map]
  constructor
  · intro hs
    obtain ⟨s', hs'⟩ := Option.isSome_iff_exists.1 hs
    have hne := rC_ne h ws _ s' (fun e => by have := zero_fs h h0 onto; rw [e] at this; cases this) hs'
    obtain ⟨t, l, rfl⟩ : ∃ t l, s' = t :: l := by
      cases s' with
      | nil => exact absurd rfl hne
      | cons t l => exact ⟨t, l, rfl⟩
    obtain ⟨q, hq, w, g1, g2, g3⟩ := est_has h ws _ _ t (fun x hx => (mem_kpR.1 (hw x hx)).2) hs' (by simp)
    have hq' : Rc a (erR a onto) [0] q := by
      unfold fsR at hq
      rw [if_neg h0] at hq
      have := h.st0
      exact (mem_reR h fun y hy => by simp at hy; omega).1 hq
    obtain ⟨p, hp, v, k1, k2, k3⟩ := rc_word h hq'
    rw [List.mem_singleton] at hp
    subst hp
    refine ⟨v ++ w, fun x hx => (List.mem_append.1 hx).elim (k3 x) (g3 x), by rw [List.filter_append, k2, g2]; rfl, ?_⟩
    rw [gen_rO h0, rO_app, k1]
    show (rO a q w).isSome = true
    rw [g1]; rfl
  · rintro ⟨w, _, h2, h3⟩
    rw [gen_rO h0] at h3
    obtain ⟨t, ht⟩ := Option.isSome_iff_exists.1 h3
    obtain ⟨s', hs', _⟩ := est_word h w 0 t _ (fs_cls h onto) (zero_fs h h0 onto) ht
    rw [← h2, hs']; rfl
end Go.Proofs.YtaadhpkpekmfoaaGreat

/- Layer 3: slices.Sorted(slices.Values(l)): the numbers of a list in increasing order, in new memory. -/
namespace Go.Proofs.YtaadhpkpekmfoaaGreat
open Go.RowKit Go.Shelf

attribute [local go_sem] Oper.semAt_some

def uptoF {α : Type} (f : Nat → α) (k : Nat) : List α := (List.range k).map f
theorem uptoF_succ {α : Type} (f : Nat → α) (k : Nat) : uptoF f (k + 1) = uptoF f k ++ [f k] := by simp [uptoF, List.range_succ]
theorem uptoF_length {α : Type} (f : Nat → α) (k : Nat) : (uptoF f k).length = k := by simp [uptoF]
theorem uptoF_all (zs : List Int) : uptoF (fun j => zs[j]?.getD 0) zs.length = zs := by
  apply List.ext_getElem
  · simp [uptoF]
  · intro i h1 h2
    simp [uptoF, h2]
theorem uptoF_take (zs : List Int) {k : Nat} (hk : k ≤ zs.length) : uptoF (fun j => zs[j]?.getD 0) k = zs.take k := by
  apply List.ext_getElem
  · simp [uptoF, hk]
  · intro i h1 h2
    have : i < zs.length := by simp [uptoF] at h1; omega
    simp [uptoF, this]

set_option maxRecDepth 100000 in
set_option maxHeartbeats 2000000 in
/-- The iterator of slices.Values: each number in its turn, for every round that keeps what lay below n₀. -/
theorem values1_in (F : Fence) (n : Nat) (hf : F.fn 101) (hro : F.round = none) (hn : 1 ≤ n) (l Bs n₀ b off len cap : Nat) (zs : List Int) (hreach : len * 8 ≤ 140737488351232) (hb : b < n₀) (J Jx : List Int → World → Prop)
    (hY : ∀ pre x W, J pre W → pre.length < len → YieldAt F (n - 1) Tryz.prog l #[.int .i64 x] W fun e W' =>
      (e = .returned (.bool true) ∧ J (pre ++ [x]) W' ∧ Below n₀ W W') ∨ (e = .returned (.bool false) ∧ Jx (pre ++ [x]) W'))
    (W : World) (hBs : W.cell? ⟨Bs, 0, none⟩ = some (.slice (some ⟨b, off, none⟩) len cap)) (hc : ∀ j, j < len → W.cell? ⟨b, off + j, none⟩ = some (.int .i64 (zs[j]?.getD 0))) (h0 : J [] W) :
    CallsIn F n Tryz.prog 101 #[.func (.yield l) #[] #[], .pointer (some ⟨Bs, 0, none⟩)] W fun e W' => (∃ v, e = .returned v) ∧
      ((∃ ys, ys = uptoF (fun j => zs[j]?.getD 0) len ∧ J ys W') ∨ (∃ pre, (∃ k, k ≤ len ∧ pre = uptoF (fun j => zs[j]?.getD 0) k) ∧ Jx pre W')) := by
  refine callsIn_of_wp Tryz.func101 rfl hf ?_ hro
  simp only [Tryz.ntmps101, List.size_toArray, List.length_cons, List.length_nil, Nat.reduceAdd, Nat.reduceSub, Array.replicate_succ, Array.replicate_zero, List.push_toArray, List.append_toArray, List.nil_append, List.cons_append]
  gi_wp2
  gi_loopw [7] (fun i wr => ∃ k : Nat, k ≤ len ∧ i = .int .i64 k ∧ J (uptoF (fun j => zs[j]?.getD 0) k) wr ∧ Below n₀ W wr)
    (fun i _ => len - (intOf i).toNat)
  case atStart => exact ⟨0, Nat.zero_le _, rfl, h0, Below.refl _ _⟩
  case round =>
    obtain ⟨k, hk, rfl, hJs, hnx⟩ := hrel
    have hcx : k < len → wr.cell? ⟨b, off + k, none⟩ = some (.int .i64 (zs[k]?.getD 0)) := fun h => (hnx.cell (p := ⟨b, off + k, none⟩) hb).trans (hc k h)
    by_cases hlt : k < len
    · obtain ⟨fn, tmps, assign, body, hy, hR⟩ := hY _ (zs[k]?.getD 0) wr hJs (by rw [uptoF_length]; exact hlt)
      have hcx' := hcx hlt
      gi_wp2
      refine hR.mono ?_
      rintro e W3 (⟨rfl, hJ3, hk3⟩ | ⟨rfl, hJx3⟩)
      · gi_wp2
        go_roundw
        case rel => exact ⟨k + 1, by omega, by simp, by rw [uptoF_succ]; exact hJ3, hnx.trans hk3⟩
        case measure => simp [intOf]; omega
      · gi_wp2
        refine bodyPost_ret (results_none rfl _ _ _) rfl ?_
        exact ⟨⟨_, rfl⟩, .inr ⟨_, ⟨k + 1, by omega, (uptoF_succ _ _).symm⟩, hJx3⟩⟩
    · obtain rfl : k = len := by omega
      gi_wp2
      go_end0
      exact ⟨⟨_, rfl⟩, .inl ⟨_, rfl, hJs⟩⟩

set_option maxRecDepth 100000 in
set_option maxHeartbeats 1000000 in
theorem values1_nil_in (F : Fence) (n : Nat) (hf : F.fn 101) (hro : F.round = none) (l Bs : Nat) (ad : Option Addr) (cap : Nat) (J : List Int → World → Prop) (W : World) (hBs : W.cell? ⟨Bs, 0, none⟩ = some (.slice ad 0 cap)) (h0 : J [] W) :
    CallsIn F n Tryz.prog 101 #[.func (.yield l) #[] #[], .pointer (some ⟨Bs, 0, none⟩)] W fun e W' => (∃ v, e = .returned v) ∧ J [] W' := by
  refine callsIn_of_wp Tryz.func101 rfl hf ?_ hro
  simp only [Tryz.ntmps101, List.size_toArray, List.length_cons, List.length_nil, Nat.reduceAdd, Nat.reduceSub, Array.replicate_succ, Array.replicate_zero, List.push_toArray, List.append_toArray, List.nil_append, List.cons_append]
  gi_wp2
  gi_loopw [7] (fun i wr => i = .int .i64 0 ∧ J [] wr) (fun _ _ => 0)
  case atStart => exact ⟨rfl, h0⟩
  case round =>
    obtain ⟨rfl, hJs⟩ := hrel
    gi_wp2
    go_end0
    exact ⟨⟨_, rfl⟩, hJs⟩

theorem values_stops (F : Fence) (n : Nat) (hf : F.fn 101) (hro : F.round = none) (hn : 1 ≤ n) (Bs n₀ : Nat) (ad : Option Addr) (len cap : Nat) (zs : List Int) (hlen : zs.length = len) (hreach : len * 8 ≤ 140737488351232) (w : World) (hBs : Bs < w.heap.size) (hn₀ : n₀ ≤ w.heap.size)
    (hc : w.cell? ⟨Bs, 0, none⟩ = some (.slice ad len cap)) (hI : RdI w n₀ ad zs) :
    SeqStopsK F n Tryz.prog 101 #[.pointer (some ⟨Bs, 0, none⟩)] (fun x : Int => #[Value.int .i64 x]) (Below n₀) (fun ys => ys = zs) (fun pre => pre <+: zs) zs.length w := fun l J Jx W hW _ _ hY h0 => by
  have hc' := (hW.cell (p := ⟨Bs, 0, none⟩) hBs).trans hc
  have hI' := hI.below (hW.mono hn₀) (Nat.le_refl _)
  rcases Nat.eq_zero_or_pos len with h | h
  · subst h
    have hz : zs = [] := List.eq_nil_of_length_eq_zero hlen
    subst hz
    exact (values1_nil_in F n hf hro l Bs ad cap J W hc' h0).mono fun e W' ⟨he, hj⟩ => ⟨he, .inl ⟨_, rfl, hj⟩⟩
  · obtain ⟨b, off, rfl, hb, hcs⟩ := hI' (by omega)
    refine (values1_in F n hf hro hn l Bs n₀ b off len cap zs hreach hb J Jx (by rw [← hlen]; exact hY) W hc' (fun j hj => by rw [hcs j (by omega)]; rfl) h0).mono ?_
    rintro e W' ⟨he, ⟨ys, rfl, hj⟩ | ⟨pre, ⟨k, hk, rfl⟩, hj⟩⟩
    · exact ⟨he, .inl ⟨_, by rw [← hlen]; exact uptoF_all zs, hj⟩⟩
    · exact ⟨he, .inr ⟨_, by rw [uptoF_take zs (by omega)]; exact List.take_prefix _ _, hj⟩⟩

set_option maxRecDepth 100000 in
set_option maxHeartbeats 2000000 in
theorem appendSeq_in (F : Fence) (n : Nat) (hf : F.fn 115) (hf2 : F.fn 101) (hro : F.round = none) (hn : 3 ≤ n) (Bs : Nat) (ad : Option Addr) (len cap : Nat) (zs : List Int) (hl : zs.length = len) (hlen : len ≤ 100000) (w : World) (hBs : Bs < w.heap.size)
    (hc0 : w.cell? ⟨Bs, 0, none⟩ = some (.slice ad len cap)) (hI : RdI w w.heap.size ad zs) :
    CallsIn F n Tryz.prog 115 #[.slice none 0 0, .func (.func 101) #[] #[.pointer (some ⟨Bs, 0, none⟩)]] w fun e W' => ∃ v, e = .returned v ∧ W'.ownsRow w.heap.size 3 1 v zs.length (zs.map (Value.int .i64)) ∧ Below w.heap.size w W' := by
  have h1 : 1 ≤ n := by omega
  obtain ⟨i0, hi, hz0, hz1, hz2⟩ := info_parts info_int
  refine callsIn_of_wp_marks Tryz.func115 rfl hf ?_ hro
  simp only [Tryz.ntmps115, List.size_toArray, List.length_cons, List.length_nil, Nat.reduceAdd, Nat.reduceSub, Array.replicate_succ, Array.replicate_zero, List.push_toArray, List.append_toArray, List.nil_append, List.cons_append]
  gi_wp2
  have bO := Boxed.new w 27 (.slice none 0 0)
  have hB0 : Below w.heap.size w (w.alloc (.cells #[.slice none 0 0] 27)) := (Below.refl _ w).alloc (Nat.le_refl _) _
  refine wpIn_rangeFunc_ownG hro h1 (gf := 101) (lb := #[.pointer (some ⟨Bs, 0, none⟩)]) rfl hf2 (enters_of Tryz.func101 (by kernel_rfl) rfl)
    (values_stops F (n - 1) hf2 hro (by omega) Bs w.heap.size ad len cap zs hl (by omega) _ (by simp; omega) (by simp) ((hB0.cell (p := ⟨Bs, 0, none⟩) hBs).trans hc0) (hI.below hB0 (Nat.le_refl _))) belowK_t (belowK_b (by simp)) (Below.refl _ _) (fun _ => rfl)
    (fun pre W => (∃ v, Boxed W w.heap.size 27 v ∧ W.ownsRow w.heap.size 3 1 v pre.length (pre.map (Value.int .i64)) ∧ (v = .slice none 0 0 ↔ pre = [])) ∧ Below w.heap.size w W)
    (fun _ _ _ => False)
    (OwnFrom.and (Own.from (holdsRow_own w.heap.size w.heap.size 27 3 1 (fun pre => pre.length) (fun pre => pre.map (Value.int .i64)) (fun pre v => v = .slice none 0 0 ↔ pre = [])) _) (ownFrom_below (Nat.le_refl _) (by simp)))
    (fun _ _ _ _ _ hs _ _ => hs)
    ⟨⟨_, bO, World.ownsRow_nil _ _ _ _, by simp⟩, hB0⟩
    (fun x => { tmps := #[.slice none 0 0, .func (.func 101) #[] #[.pointer (some ⟨Bs, 0, none⟩)], .pointer (some ⟨w.heap.size, 0, none⟩), undef, .slice none 0 0, .int .i64 x, .func (.func 101) #[] #[.pointer (some ⟨Bs, 0, none⟩)], .int .i64 x, undef, undef, undef, undef, undef], defers := [] }) ?assign ?body ?done ?stop
  case assign =>
    intro l x W K hK
    gi_wp2
    exact hK
  case body =>
    rintro l pre x W ⟨⟨v, hv, hrow, hnil⟩, hB⟩ hlt
    have hc := hv.cell
    gi_wp2_with (gi_at_builtin; refine wpListIn_append_own _ rfl _ _ 27 rfl w.heap.size 3 i0 (.int .i64 0) 1 8 Tryz.underlying27 hi hz0 hz1 hz2 rfl (by decide) _ _ _ rfl (hrow.alloc _) ⟨W.heap.size, 0, none⟩ 1 1 [.int .i64 x] rfl rfl (cell_one_new _ _ _) (by simp [Value.oneCell']) (by unfold maxLen; omega) (by omega) (by have := hB.size; simp; omega) ?_; intro v' w1 hown' hgrow _; obtain ⟨g', cap', rfl⟩ := ownsRow_succ hown'; obtain ⟨hv1, hv2, hr2, hk2, hb2⟩ := hv.appended (by decide) hrow hB.size (Nat.le_refl _) hown' hgrow; have hc1 := hv1.cell; have hf1 := hv1.frozen)
    exact ⟨hk2.from _, hb2, ⟨_, hv2, by simpa using hr2, by simp⟩, hB.trans hb2⟩
  case done =>
    rintro D ys W hD rfl ⟨⟨v, hv, hrow, hnil⟩, hB⟩ hK
    have hc := hv.cell
    gi_wp2
    refine ⟨by simp, .inl ⟨_, _, rfl, run_takeDeferred hK, ?_⟩⟩
    exact ⟨_, results_tmp rfl _ _ _, v, rfl, ownsRow_putObj hrow _ hK rfl, hB.trans (belowK_b (w := w) (Nat.le_refl _) W D _ _ (by simp at hD; omega) hK rfl rfl)⟩
  case stop =>
    rintro D c pre W _ _ h _
    exact h.elim
end Go.Proofs.YtaadhpkpekmfoaaGreat

/- Contracts of the library at this program, laid in plain words. -/
namespace Go.Proofs.YtaadhpkpekmfoaaGreat
open Go.Shelf
def layEd_ren : Go.Shelf.Ren := ⟨fun | 6 => 68 | 15 => 104 | 14 => 103 | 28 => 124 | 29 => 125 | 20 => 116 | 21 => 117 | 22 => 118 | 23 => 119 | 24 => 120 | 25 => 121 | 26 => 122 | 27 => 123 | 46 => 137 | 47 => 138 | 48 => 139 | 49 => 140 | 50 => 141 | 57 => 145 | n => n, fun | 22 => 31 | 24 => 79 | 25 => 109 | 3 => 3 | 39 => 142 | 0 => 0 | 53 => 170 | 55 => 172 | 4 => 4 | 46 => 164 | 45 => 163 | 50 => 120 | 5 => 5 | 9 => 9 | 66 => 179 | 70 => 183 | 76 => 187 | 77 => 124 | n => n, fun | n => n⟩
theorem layEd : Go.Proofs.SlLaysF0.n6 Tryz.prog layEd_ren := {
  mixed := by kernel_rfl
  f6 := ⟨Tryz.f68.name, by decide, Tryz.func68.trans (congrArg some (by kernel_rfl))⟩
  f14 := ⟨Tryz.f103.name, by decide, Tryz.func103.trans (congrArg some (by kernel_rfl))⟩
  f15 := Tryz.func104.trans (congrArg some (by kernel_rfl))
  f20 := ⟨Tryz.f116.name, by decide, Tryz.func116.trans (congrArg some (by kernel_rfl))⟩
  f21 := ⟨Tryz.f117.name, by decide, Tryz.func117.trans (congrArg some (by kernel_rfl))⟩
  f22 := ⟨Tryz.f118.name, by decide, Tryz.func118.trans (congrArg some (by kernel_rfl))⟩
  f23 := ⟨Tryz.f119.name, by decide, Tryz.func119.trans (congrArg some (by kernel_rfl))⟩
  f24 := ⟨Tryz.f120.name, by decide, Tryz.func120.trans (congrArg some (by kernel_rfl))⟩
  f25 := ⟨Tryz.f121.name, by decide, Tryz.func121.trans (congrArg some (by kernel_rfl))⟩
  f26 := ⟨Tryz.f122.name, by decide, Tryz.func122.trans (congrArg some (by kernel_rfl))⟩
  f27 := ⟨Tryz.f123.name, by decide, Tryz.func123.trans (congrArg some (by kernel_rfl))⟩
  f28 := Tryz.func124.trans (congrArg some (by kernel_rfl))
  f29 := Tryz.func125.trans (congrArg some (by kernel_rfl))
  f46 := ⟨Tryz.f137.name, by decide, Tryz.func137.trans (congrArg some (by kernel_rfl))⟩
  f47 := Tryz.func138.trans (congrArg some (by kernel_rfl))
  f48 := Tryz.func139.trans (congrArg some (by kernel_rfl))
  f49 := ⟨Tryz.f140.name, by decide, Tryz.func140.trans (congrArg some (by kernel_rfl))⟩
  f50 := ⟨Tryz.f141.name, by decide, Tryz.func141.trans (congrArg some (by kernel_rfl))⟩
  f57 := ⟨Tryz.f145.name, by decide, Tryz.func145.trans (congrArg some (by kernel_rfl))⟩
  t0 := Tryz.underlying0
  a0 := Tryz.isAgg0
  z0 := Tryz.sizeOf0
  v0 := Tryz.zeroValue0
  t3 := Tryz.underlying3
  a3 := Tryz.isAgg3
  z3 := Tryz.sizeOf3
  v3 := Tryz.zeroValue3
  t4 := Tryz.underlying4
  a4 := Tryz.isAgg4
  z4 := Tryz.sizeOf4
  v4 := Tryz.zeroValue4
  t5 := Tryz.underlying5
  a5 := Tryz.isAgg5
  z5 := Tryz.sizeOf5
  v5 := Tryz.zeroValue5
  t9 := Tryz.underlying9
  a9 := Tryz.isAgg9
  z9 := Tryz.sizeOf9
  v9 := Tryz.zeroValue9
  t22 := Tryz.underlying31
  a22 := Tryz.isAgg31
  z22 := Tryz.sizeOf31
  v22 := Tryz.zeroValue31
  t25 := Tryz.underlying109
  a25 := Tryz.isAgg109
  z25 := Tryz.sizeOf109
  v25 := Tryz.zeroValue109
  t39 := Tryz.underlying142
  a39 := Tryz.isAgg142
  z39 := Tryz.sizeOf142
  v39 := Tryz.zeroValue142
  t45 := Tryz.underlying163
  a45 := Tryz.isAgg163
  z45 := Tryz.sizeOf163
  v45 := Tryz.zeroValue163
  t46 := Tryz.underlying164
  a46 := Tryz.isAgg164
  z46 := Tryz.sizeOf164
  v46 := Tryz.zeroValue164
  t50 := Tryz.underlying120
  a50 := Tryz.isAgg120
  z50 := Tryz.sizeOf120
  v50 := Tryz.zeroValue120
  t53 := Tryz.underlying170
  a53 := Tryz.isAgg170
  z53 := Tryz.sizeOf170
  v53 := Tryz.zeroValue170
  t55 := Tryz.underlying172
  a55 := Tryz.isAgg172
  z55 := Tryz.sizeOf172
  v55 := Tryz.zeroValue172
  t66 := Tryz.underlying179
  a66 := Tryz.isAgg179
  z66 := Tryz.sizeOf179
  v66 := Tryz.zeroValue179
  t70 := Tryz.underlying183
  a70 := Tryz.isAgg183
  z70 := Tryz.sizeOf183
  v70 := Tryz.zeroValue183
  t76 := Tryz.underlying187
  a76 := Tryz.isAgg187
  z76 := Tryz.sizeOf187
  v76 := Tryz.zeroValue187
  t77 := Tryz.underlying124
  a77 := Tryz.isAgg124
  z77 := Tryz.sizeOf124
  v77 := Tryz.zeroValue124 }
end Go.Proofs.YtaadhpkpekmfoaaGreat

/- Layer 3: slices.Sorted, checkNewEvents, slices.SortFunc of edges. -/
namespace Go.Proofs.YtaadhpkpekmfoaaGreat
open Go.RowKit Go.Sort

set_option maxHeartbeats 400000 in
theorem collect_any (Bs : Nat) (ad : Option Addr) (len cap : Nat) (zs : List Int) (hl : zs.length = len) (hlen : len ≤ 100000) (w : World) (hBs : Bs < w.heap.size)
    (hc0 : w.cell? ⟨Bs, 0, none⟩ = some (.slice ad len cap)) (hI : RdI w w.heap.size ad zs) :
    Calls Tryz.prog 100 #[.func (.func 101) #[] #[.pointer (some ⟨Bs, 0, none⟩)]] w fun e W' => ∃ v, e = .returned v ∧ Own W' w.heap.size v zs ∧ Below w.heap.size w W' := by
  have H := Lib.hid ((callsIn_wide (n := 5)).1 (appendSeq_in Fence.wide 5 trivial trivial rfl (by omega) Bs ad len cap zs hl hlen w hBs hc0 hI))
  clear hl hc0 hI hBs
  go_enter Tryz.func100, Tryz.ntmps100
  go_wp2_with (go_at_call 115; refine H.out.mono ?_; rintro e w1 ⟨v, rfl, ho, hb⟩)
  go_ret
  exact ⟨v, rfl, ho, hb⟩
set_option maxHeartbeats 400000 in
theorem sorted_any (Bs : Nat) (ad : Option Addr) (len cap : Nat) (zs : List Int) (hl : zs.length = len) (hlen : len ≤ 100000) (w : World) (hBs : Bs < w.heap.size)
    (hc0 : w.cell? ⟨Bs, 0, none⟩ = some (.slice ad len cap)) (hI : RdI w w.heap.size ad zs) :
    Calls Tryz.prog 64 #[.func (.func 101) #[] #[.pointer (some ⟨Bs, 0, none⟩)]] w fun e W' => ∃ A c, e = .returned (.slice A len c) ∧ Own W' w.heap.size (.slice A len c) (srtI zs) ∧ Below w.heap.size w W' := by
  have H := Lib.hid (collect_any Bs ad len cap zs hl hlen w hBs hc0 hI)
  have HL := Lib.hid hl
  clear hl hc0 hI hBs
  go_enter Tryz.func64, Tryz.ntmps64
  go_wp2_with fail
  refine H.out.mono ?_
  rintro e w1 ⟨v, rfl, ho, hb⟩
  have HO := Lib.hid ho
  have HB := Lib.hid hb
  have HS := Lib.hid (sort_own w1 ho (by rw [HL.out]; exact hlen))
  clear ho hb
  go_wp2_with fail
  refine HS.out.mono ?_
  rintro e w2 ⟨rfl, ho2, hg2⟩
  have HB2 := Lib.hid (HB.out.grown hg2 HB.out.size (fun k hk => (HO.out.lt k hk).1))
  obtain ⟨A', c', rfl, _⟩ := own_rd ho2
  have e1 : (srtI zs).length = len := by rw [srtI_len, HL.out]
  have HO2 := Lib.hid ho2
  rw [e1] at HO2
  have HE := Lib.hid e1
  clear ho2 hg2 e1
  go_wp2_with fail
  go_ret
  exact ⟨A', c', congrArg (fun k : Nat => Ending.returned (.slice A' k c')) HE.out, HO2.out, HB2.out⟩
theorem values_any (A : Option Addr) (n c : Nat) (w : World) : Calls Tryz.prog 65 #[.slice A n c] w fun e w' => e = .returned (.func (.func 101) #[] #[.pointer (some ⟨w.heap.size, 0, none⟩)]) ∧ w' = w.alloc (.cells #[.slice A n c] 27) := by
  go_enter Tryz.func65, Tryz.ntmps65
  go_wp2
  go_ret
  exact ⟨rfl, rfl⟩

theorem idx_none {zs : List Int} {x : Int} {k : Nat} (hk : k = zs.length) (h : x ∉ zs.take k) : x ∉ zs := by
  rwa [List.take_of_length_le (by omega)] at h
/-- The first error of a list of new events. -/
def neGo : List Int → List Int → Int
  | _, [] => 0
  | seen, x :: r => if x < 0 ∨ 32 ≤ x then 2 else if x ∈ seen then 8 else neGo (seen ++ [x]) r
def neE (zs : List Int) : Int := neGo [] zs
theorem ne_range {zs : List Int} {k : Nat} {v : Int} (h : k < zs.length) (hv : neGo (zs.take k) (zs.drop k) = v) (hx : zs.getD k 0 < 0 ∨ 32 ≤ zs.getD k 0) : v = 2 := by
  rw [← hv, drop_step zs k h, neGo, if_pos hx]
theorem ne_dup {zs : List Int} {k : Nat} {v : Int} (h : k < zs.length) (hv : neGo (zs.take k) (zs.drop k) = v) (hx : ¬ (zs.getD k 0 < 0 ∨ 32 ≤ zs.getD k 0)) (hm : zs.getD k 0 ∈ zs.take k) : v = 8 := by
  rw [← hv, drop_step zs k h, neGo, if_neg hx, if_pos hm]
theorem ne_next {zs : List Int} {k : Nat} {v : Int} (h : k < zs.length) (hv : neGo (zs.take k) (zs.drop k) = v) (hx : ¬ (zs.getD k 0 < 0 ∨ 32 ≤ zs.getD k 0)) (hm : zs.getD k 0 ∉ zs.take k) : neGo (zs.take (k + 1)) (zs.drop (k + 1)) = v := by
  rw [← hv, drop_step zs k h, neGo, if_neg hx, if_neg hm]
  congr 1
  rw [List.take_succ_eq_append_getElem h]; simp [List.getD, List.getElem?_eq_getElem h]
theorem ne_end {zs : List Int} {k : Nat} {v : Int} (hk : k = zs.length) (hv : neGo (zs.take k) (zs.drop k) = v) : v = 0 := by
  rw [← hv, hk, List.drop_of_length_le (Nat.le_refl _), neGo]

theorem grown_sort {α : Type} [Inhabited α] (enc : α → Value) (w : World) (blk off m : Nat) (dk : Array α) (os : Array Obj) : w.grownBy (Go.Sort.grow (putRow enc (Go.Sort.ahead w m) blk off dk) os) (some blk) := by
  refine ⟨rfl, rfl, rfl, by simp, fun k hk hne => ?_⟩
  rw [heap_grow_old _ _ (by simpa using hk)]
  have hne' : blk ≠ k := fun e => hne (by rw [e])
  simp only [putRow, mapBlock, Array.getElem?_modify, if_neg hne']
  rfl
instance : Inhabited Ed := ⟨⟨0, 0, 0⟩⟩
def encEd (x : Ed) : List Value := [.int .i64 x.f, .int .i64 x.e, .int .i64 x.t]
theorem cmp_swo : SWO (Go.Proofs.ltOf cmpE) where
  irrefl x := by unfold Go.Proofs.ltOf; simp only [decide_eq_false_iff_not]; rw [cmpE_lt]; exact ltE_irrefl x
  trans x y z h1 h2 := by unfold Go.Proofs.ltOf at *; simp only [decide_eq_true_eq] at *; rw [cmpE_lt] at *; exact ltE_trans h1 h2
  ntrans x y z h1 h2 := by unfold Go.Proofs.ltOf at *; simp only [decide_eq_false_iff_not] at *; rw [cmpE_lt] at *; unfold ltE at *; omega
theorem cmp_lays (blk off size : Nat) (w : World) : CmpLays Tryz.prog 113 #[] encEd 3 cmpE blk off size w :=
  fun _ _ _ _ x y => compareEdges_any x.f x.e x.t y.f y.e y.t _
theorem sortEd_any {base : Nat} {v : Value} {l : List Ed} (w : World) (h : OwnE w base v l) (hl : l.length ≤ 1000000) :
    Calls Tryz.prog 68 #[v, .func (.func 113) #[] #[]] w fun e w' => e = .returned (.tuple #[]) ∧ ∃ A c l', v = .slice A l'.length c ∧ l'.Perm l ∧ l'.Pairwise (fun x y => ¬ ltE y x) ∧ RdG w' w'.heap.size A l' ∧ w.grownBy w' v.ownBlock ∧ l'.length ≤ c ∧ c ≤ 9223372036854775807 := by
  rcases h.2 with ⟨rfl, h0⟩ | ⟨g, cap, cur, rfl, hg, hh, hn, hcap, hsz, htake⟩
  · have hz : l = [] := List.eq_nil_of_length_eq_zero h0
    subst hz
    refine Calls.mono (show Calls Tryz.prog 68 _ w _ from AnyF.slices_SortFunc_none layEd none 0 _ w) ?_
    rintro e w' ⟨rfl, rfl⟩
    exact ⟨rfl, none, 0, [], rfl, List.Perm.refl _, List.Pairwise.nil, RdG.nil _ _ _, World.grownBy.refl _ _, Nat.le_refl _, by omega⟩
  · have hgl := (h.lt g rfl).2
    have hH : HoldsK encEd 3 w g 0 l.toArray := fun t ht => by
      rw [size_flatK] at ht
      have ht3 : t < l.length * 3 := by simpa using ht
      have hj : t / 3 < l.length := by omega
      refine ⟨?_, ?_⟩
      · rw [Nat.zero_add, World.ownsRow.cellAt (cap := cap) h t (by omega), get_flatK _ _ _ t (by simpa using ht3)]
        obtain ⟨e0, e1, e2⟩ := encE_at l (t / 3) _ (List.getElem?_eq_getElem hj)
        have hg : l.toArray[t / 3]! = l[t / 3] := by simp [hj]
        rw [hg]
        rcases (show t % 3 = 0 ∨ t % 3 = 1 ∨ t % 3 = 2 by omega) with hm | hm | hm
        · rw [hm]; have ht : t = t / 3 * 3 := by omega
          conv => lhs; rw [ht]
          rw [e0]; rfl
        · rw [hm]; have ht : t = t / 3 * 3 + 1 := by omega
          conv => lhs; rw [ht]
          rw [e1]; rfl
        · rw [hm]; have ht : t = t / 3 * 3 + 2 := by omega
          conv => lhs; rw [ht]
          rw [e2]; rfl
      · rw [Nat.zero_add]
        exact World.ownsRow.frozenAt (cap := cap) h t
    have eg : ∀ args w, (callFunc 113 args).run Tryz.prog w = .ok (.enter 113 args) w := enters_of Tryz.func113 (by kernel_rfl) rfl
    refine Calls.mono (show Calls Tryz.prog 68 _ w _ from AnyQ.slices_SortFunc layEd 3 Tryz.isAgg79 Tryz.sizeOf79 encEd (fun _ => rfl) (fun x v hv => by simp [encEd] at hv; rcases hv with rfl | rfl | rfl <;> rfl) cmpE cmp_swo 113 #[] g 0 cap l.toArray w eg (cmp_lays _ _ _ _) hH hgl (by simp; omega)) ?_
    rintro e w' ⟨rfl, d', nn, os, hp, hs, rfl⟩
    have hsz2 : d'.size = l.length := by have := hp.1; simpa using this
    have hH2 := holdsK_sortWorldK encEd 3 w g 0 nn l.toArray d' os hgl hH (by simpa using hsz2)
    have hlen2 : d'.toList.length = l.length := by simpa using hsz2
    have hperm : d'.toList.Perm l := by
      have := hp.2.2
      simpa [hsz2, Array.extract_eq_self_of_le] using this
    refine ⟨rfl, some ⟨g, 0, none⟩, cap, d'.toList, by rw [hlen2], hperm, ?_, ?_, grown_sort id w g 0 nn _ os, by rw [hlen2]; exact hn, by unfold maxLen at hcap; omega⟩
    · rw [List.pairwise_iff_getElem]
      intro i j hi hj hij
      have h1 := hs i j (Nat.zero_le _) hij (by simp; omega)
      have h2 : i < d'.size := by simpa using hi
      have h3 : j < d'.size := by simpa using hj
      unfold Go.Proofs.ltOf at h1
      simp only [decide_eq_false_iff_not] at h1
      rw [cmpE_lt] at h1
      simpa [h2, h3] using h1
    · intro h0
      refine ⟨g, 0, rfl, lt_sortWorldK encEd 3 w g 0 nn d' os hgl, fun j x hj => ?_⟩
      have hj2 : j < d'.size := by have := (List.getElem?_eq_some_iff.1 hj).1; simpa using this
      have hx : d'[j]! = x := by
        have := (List.getElem?_eq_some_iff.1 hj).2
        simpa [hj2] using this
      have c0 := (hH2.cell (i := j) (c := 0) hj2 (by omega)).1
      have c1 := (hH2.cell (i := j) (c := 1) hj2 (by omega)).1
      have c2 := (hH2.cell (i := j) (c := 2) hj2 (by omega)).1
      rw [hx] at c0 c1 c2
      exact ⟨c0, c1, c2⟩
end Go.Proofs.YtaadhpkpekmfoaaGreat

/- Contracts of the library at this program, laid in plain words. -/
namespace Go.Proofs.YtaadhpkpekmfoaaGreat
open Go.Shelf
def layGr_ren : Go.Shelf.Ren := ⟨fun | 4 => 102 | n => n, fun | 22 => 27 | 25 => 3 | 3 => 3 | 4 => 4 | 9 => 9 | 20 => 20 | 0 => 0 | n => n, fun | n => n⟩
theorem layGr : Go.Proofs.Lays8.n4 Tryz.prog layGr_ren := {
  mixed := by kernel_rfl
  f4 := ⟨Tryz.f102.name, by decide, Tryz.func102.trans (congrArg some (by kernel_rfl))⟩
  t0 := Tryz.underlying0
  a0 := Tryz.isAgg0
  z0 := Tryz.sizeOf0
  v0 := Tryz.zeroValue0
  t3 := Tryz.underlying3
  a3 := Tryz.isAgg3
  z3 := Tryz.sizeOf3
  v3 := Tryz.zeroValue3
  t4 := Tryz.underlying4
  a4 := Tryz.isAgg4
  z4 := Tryz.sizeOf4
  v4 := Tryz.zeroValue4
  t9 := Tryz.underlying9
  a9 := Tryz.isAgg9
  z9 := Tryz.sizeOf9
  v9 := Tryz.zeroValue9
  t20 := Tryz.underlying20
  a20 := Tryz.isAgg20
  z20 := Tryz.sizeOf20
  v20 := Tryz.zeroValue20
  t22 := Tryz.underlying27
  a22 := Tryz.isAgg27
  z22 := Tryz.sizeOf27
  v22 := Tryz.zeroValue27 }
end Go.Proofs.YtaadhpkpekmfoaaGreat
