/- Layer 3, the mathematics of the canonical form: it is right, it is its own canonical form, it has the same languages. -/
import Derived.Test.YtcciiikaejjooaaaCno
namespace Go.Proofs.Ytcciiikaejjooaa
open Go.RowKit Go.Sort

theorem fnd_closed {a : Au} (h : RightW a) {i : Nat} (hi : i < (fnd a).length) {x : Ed} (hx : x ∈ succ a.ed ((fnd a).getD i 0)) : x.t ∈ fnd a := by
  by_cases h0 : 0 < a.st
  · have hl := fnd_len h
    have hlt : i < (Fd a i).length := by
      by_cases hh : i < (Fd a i).length
      · exact hh
      · rw [fnd_at h h0 (n := i) (by omega) (by omega)] at hi; exact hi
    have hp := Fd_fnd h h0 i
    rw [getD_pre hp hlt] at hx
    have h1 : x.t ∈ Fd a (i + 1) := by rw [Fd_go hlt, mem_visitL]; exact .inr ⟨x, hx, rfl⟩
    exact (Fd_fnd h h0 (i + 1)).subset h1
  · rw [fnd, if_pos (by omega)] at hi; simp at hi
theorem mem_canEn {a : Au} {n : Nat} {y : Ed} : y ∈ canEn a n ↔ ∃ i : Nat, i < n ∧ ∃ x ∈ succ a.ed ((fnd a).getD i 0), y = ⟨(i : Int), x.e, ((fnd a).idxOf x.t : Int)⟩ := by
  unfold canEn outE
  simp only [List.mem_flatMap, List.mem_range, List.mem_map]
  constructor
  · rintro ⟨i, hi, x, hx, e⟩; exact ⟨i, hi, x, hx, e.symm⟩
  · rintro ⟨i, hi, x, hx, e⟩; exact ⟨i, hi, x, hx, e.symm⟩
theorem outE_sorted {a : Au} (h : RightW a) (n : Nat) : (outE a (fnd a) n).Pairwise ltE := by
  unfold outE
  rw [List.pairwise_map]
  exact (succ_sorted h.edo _).imp fun hlt => by unfold ltE; simp; exact hlt
theorem canEn_sorted {a : Au} (h : RightW a) : ∀ n, (canEn a n).Pairwise ltE
  | 0 => by simp [canEn]
  | n + 1 => by
    rw [canEn_succ, List.pairwise_append]
    refine ⟨canEn_sorted h n, outE_sorted h n, fun x hx y hy => ?_⟩
    obtain ⟨i, hi, z, _, rfl⟩ := mem_canEn.1 hx
    unfold outE at hy
    obtain ⟨z2, _, rfl⟩ := List.mem_map.1 hy
    unfold ltE; simp; omega
theorem can_right {a : Au} (h : RightW a) : RightW (canA a) where
  alr := h.alr
  alo := h.alo
  st0 := by simp [canA]
  mrr x hx := by
    obtain ⟨i, h1, _, rfl⟩ := mem_canM.1 hx
    simp [canA]; omega
  mro := canM_lt a
  edr y hy := by
    obtain ⟨i, hi, x, hx, rfl⟩ := mem_canEn.1 hy
    have ht := List.idxOf_lt_length_iff.2 (fnd_closed h hi hx)
    refine ⟨by simp [canA]; omega, by simp [canA]; omega, (h.edr x (mem_succ.1 hx).1).2.2⟩
  edo := canEn_sorted h _
theorem Right.can {a : Au} (h : Right a) : Right (canA a) :=
  { can_right h.toRightW with st1 := by have := fnd_len h.toRightW; have := h.st1; have := h.st0; simp [canA]; omega }
theorem chk_can {a : Au} (h : chkE a = 0) : chkE (canA a) = 0 := (right_of h).can.chk

/-- The edges of a state of the canonical form. -/
theorem succ_canEn {a : Au} (i : Nat) : ∀ n, succ (canEn a n) (i : Int) = if i < n then outE a (fnd a) i else []
  | 0 => by simp [canEn, succ]
  | n + 1 => by
    rw [canEn_succ, succ, List.filter_append]
    have h1 := succ_canEn (a := a) i n
    unfold succ at h1
    rw [h1]
    have h2 : (outE a (fnd a) n).filter (fun x => decide (x.f = (i : Int))) = if i = n then outE a (fnd a) n else [] := by
      by_cases e : i = n
      · rw [if_pos e, List.filter_eq_self]
        intro x hx; unfold outE at hx; obtain ⟨z, _, rfl⟩ := List.mem_map.1 hx; simp [e]
      · rw [if_neg e, List.filter_eq_nil_iff]
        intro x hx; unfold outE at hx; obtain ⟨z, _, rfl⟩ := List.mem_map.1 hx; simp; omega
    rw [h2]
    by_cases e : i = n
    · subst e; rw [if_neg (by omega), if_pos rfl, if_pos (by omega), List.nil_append]
    · by_cases e2 : i < n
      · rw [if_pos e2, if_neg e, if_pos (by omega), List.append_nil]
      · rw [if_neg e2, if_neg e, if_neg (by omega), List.append_nil]
theorem succ_can {a : Au} {i : Nat} (hi : i < (fnd a).length) : succ (canA a).ed (i : Int) = outE a (fnd a) i := by
  show succ (canEn a (fnd a).length) (i : Int) = _
  rw [succ_canEn, if_pos hi]
/-- A step of the canonical form. -/
theorem step_can {a : Au} (h : RightW a) {i : Nat} (hi : i < (fnd a).length) (ev : Int) : stepO (canA a) (i : Int) ev = (stepO a ((fnd a).getD i 0) ev).map fun t => ((fnd a).idxOf t : Int) := by
  have hc := can_right h
  unfold stepO
  cases he : edgeO a.ed ((fnd a).getD i 0) ev with
  | none =>
    have : edgeO (canA a).ed (i : Int) ev = none := by
      rw [edgeO_none] at he ⊢
      rintro y hy ⟨h1, h2⟩
      have hy2 : y ∈ succ (canA a).ed (i : Int) := mem_succ.2 ⟨hy, h1⟩
      rw [succ_can hi] at hy2
      unfold outE at hy2
      obtain ⟨x, hx, rfl⟩ := List.mem_map.1 hy2
      exact he x (mem_succ.1 hx).1 ⟨(mem_succ.1 hx).2, h2⟩
    rw [this]; rfl
  | some x =>
    obtain ⟨h1, h2, h3⟩ := (edgeO_some h.edo).1 he
    have : edgeO (canA a).ed (i : Int) ev = some ⟨(i : Int), x.e, ((fnd a).idxOf x.t : Int)⟩ := by
      rw [edgeO_some hc.edo]
      refine ⟨?_, rfl, h3⟩
      exact mem_canEn.2 ⟨i, hi, x, mem_succ.2 ⟨h1, h2⟩, rfl⟩
    rw [this]; rfl
theorem step_in {a : Au} (h : RightW a) {q ev t : Int} (hq : q ∈ fnd a) (hs : stepO a q ev = some t) : t ∈ fnd a := by
  unfold stepO at hs
  cases he : edgeO a.ed q ev with
  | none => rw [he] at hs; simp at hs
  | some x =>
    rw [he] at hs; simp at hs; subst hs
    obtain ⟨h1, h2, h3⟩ := (edgeO_some h.edo).1 he
    refine fnd_closed h (i := (fnd a).idxOf q) (List.idxOf_lt_length_iff.2 hq) ?_
    rw [getD_idxOf hq]; exact mem_succ.2 ⟨h1, h2⟩
theorem run_can {a : Au} (h : RightW a) : ∀ (ws : List Int) (q : Int), q ∈ fnd a → (runE a q ws).1 ∈ fnd a ∧ runE (canA a) ((fnd a).idxOf q : Int) ws = (((fnd a).idxOf (runE a q ws).1 : Int), (runE a q ws).2)
  | [], q, hq => by rw [runE_nil, runE_nil]; exact ⟨hq, rfl⟩
  | x :: ws, q, hq => by
    have hs := step_can h (List.idxOf_lt_length_iff.2 hq) x
    rw [getD_idxOf hq] at hs
    cases e : stepO a q x with
    | none => rw [runE_stop e, runE_stop (by rw [hs, e]; rfl)]; exact ⟨hq, rfl⟩
    | some t =>
      have ht := step_in h hq e
      obtain ⟨h1, h2⟩ := run_can h ws t ht
      rw [runE_go e, runE_go (t := ((fnd a).idxOf t : Int)) (by rw [hs, e]; rfl), h2]
      exact ⟨h1, rfl⟩
theorem zero_fnd {a : Au} (h : RightW a) (h0 : 0 < a.st) : (0 : Int) ∈ fnd a ∧ (fnd a).idxOf 0 = 0 := by
  have hp : [(0 : Int)] <+: fnd a := Fd_fnd h h0 0
  refine ⟨hp.subset (by simp), ?_⟩
  rw [idx_pre hp (by simp)]; simp
theorem gen_can {a : Au} (h : RightW a) (ws : List Int) : genB (canA a) ws = genB a ws := by
  have h0 := h.st0
  by_cases hz : a.st = 0
  · have : (canA a).st = 0 := by simp [canA, fnd, hz]
    simp [genB, hz, this]
  · obtain ⟨hm, hi⟩ := zero_fnd h (by omega)
    have hr := (run_can h ws 0 hm).2
    rw [hi] at hr
    have hl := List.length_pos_of_mem hm
    have hs : ¬ (canA a).st = 0 := by simp [canA]; intro e; rw [e] at hl; simp at hl
    have hr2 : (runE (canA a) 0 ws).2 = (runE a 0 ws).2 := by have := congrArg Prod.snd hr; simpa using this
    simp [genB, hz, hs, hr2]
theorem acc_can {a : Au} (h : RightW a) (ws : List Int) : accB (canA a) ws = accB a ws := by
  unfold accB
  rw [gen_can h]
  cases hg : genB a ws with
  | false => rfl
  | true =>
    have hz : a.st ≠ 0 := by unfold genB at hg; simp at hg; exact hg.1
    have h0 := h.st0
    obtain ⟨hm, hi⟩ := zero_fnd h (by omega)
    obtain ⟨hq, hr⟩ := run_can h ws 0 hm
    rw [hi] at hr
    have hr1 : (runE (canA a) 0 ws).1 = ((fnd a).idxOf (runE a 0 ws).1 : Int) := by have := congrArg Prod.fst hr; simpa using this
    rw [hr1, Bool.true_and, Bool.true_and, decide_eq_decide]
    show ((fnd a).idxOf (runE a 0 ws).1 : Int) ∈ canM a ↔ _
    rw [mem_canM]
    constructor
    · rintro ⟨i, h1, h2, h3⟩
      have : i = (fnd a).idxOf (runE a 0 ws).1 := by omega
      rw [this, getD_idxOf hq] at h2; exact h2
    · intro h1
      exact ⟨_, List.idxOf_lt_length_iff.2 hq, by rw [getD_idxOf hq]; exact h1, rfl⟩
theorem run_take (a : Au) : ∀ (ws : List Int) (q : Int) (k : Nat), (runE a q ws).2 = ws.length → (runE a q (ws.take k)).2 = (ws.take k).length
  | [], q, k, _ => by simp [runE_nil]
  | x :: ws, q, 0, _ => by simp [runE_nil]
  | x :: ws, q, k + 1, hh => by
    rw [List.take_succ_cons]
    cases e : stepO a q x with
    | none => rw [runE_stop e] at hh; simp at hh
    | some t =>
      rw [runE_go e] at hh ⊢
      have := run_take a ws t k (by simpa using hh)
      simp [this]
theorem gen_take {a : Au} {ws : List Int} (h : genB a ws = true) (k : Nat) : genB a (ws.take k) = true := by
  unfold genB at h ⊢
  simp only [Bool.and_eq_true, decide_eq_true_eq] at h ⊢
  exact ⟨h.1, run_take a ws 0 k h.2⟩

/-- What is found, numbered. -/
theorem visitL_map {fl : List Int} {f : Int → Int} {g : Ed → Ed} (hinj : ∀ x y, x ∈ fl → y ∈ fl → f x = f y → x = y) : ∀ (l : List Ed) (r : List Int), r ⊆ fl → (∀ x ∈ l, x.t ∈ fl ∧ (g x).t = f x.t) → visitL (r.map f) (l.map g) = (visitL r l).map f
  | [], r, _, _ => rfl
  | x :: l, r, hr, hl => by
    obtain ⟨h1, h2⟩ := hl x (by simp)
    rw [List.map_cons, visitL_cons, visitL_cons, h2]
    have e : visit (r.map f) (f x.t) = (visit r x.t).map f := by
      by_cases hm : x.t ∈ r
      · rw [visit_in hm, visit_in (List.mem_map.2 ⟨_, hm, rfl⟩)]
      · rw [visit_new hm, visit_new, List.map_append]; · rfl
        rintro hm2
        obtain ⟨y, hy, e⟩ := List.mem_map.1 hm2
        exact hm (hinj y x.t (hr hy) h1 e ▸ hy)
    rw [e]
    refine visitL_map hinj l _ (fun y hy => ?_) fun y hy => hl y (by simp [hy])
    rcases mem_visit.1 hy with h | h
    · exact hr h
    · rw [h]; exact h1
def rng (n : Nat) : List Int := (List.range n).map fun i : Nat => (i : Int)
theorem rng_len (n : Nat) : (rng n).length = n := by simp [rng]
theorem rng_at {n i : Nat} (h : i < n) : (rng n).getD i 0 = (i : Int) := by simp [rng, List.getD, h]
theorem map_idx {fl r : List Int} (hp : r <+: fl) (hd : fl.Nodup) : r.map (fun t => (fl.idxOf t : Int)) = rng r.length := by
  apply List.ext_getElem
  · simp [rng]
  · intro i h1 h2
    have hi : i < r.length := by simpa using h1
    simp only [rng, List.getElem_map, List.getElem_range]
    have e : r[i] = fl.getD i 0 := by rw [getD_pre hp hi]; simp [List.getD, List.getElem?_eq_getElem hi]
    rw [e, idxOf_getD hd (Nat.lt_of_lt_of_le hi hp.length_le)]
theorem Fd_can {a : Au} (h : RightW a) (h0 : 0 < a.st) : ∀ n, Fd (canA a) n = (Fd a n).map fun t => ((fnd a).idxOf t : Int)
  | 0 => by simp [Fd, (zero_fnd h h0).2]
  | n + 1 => by
    have ih := Fd_can h h0 n
    have hp := Fd_fnd h h0 n
    by_cases hn : n < (Fd a n).length
    · rw [Fd_go hn, Fd_go (by rw [ih, List.length_map]; exact hn), ih]
      have hnl : n < (fnd a).length := Nat.lt_of_lt_of_le hn hp.length_le
      have e1 : ((Fd a n).map fun t => ((fnd a).idxOf t : Int)).getD n 0 = (n : Int) := by
        rw [map_idx hp (fnd_nodup a), rng_at hn]
      rw [e1, succ_can hnl]
      unfold outE
      rw [getD_pre hp hn]
      refine visitL_map (fl := fnd a) (fun x y hx hy e => idx_inj hx hy (by omega)) _ _ hp.subset fun x hx => ⟨?_, rfl⟩
      rw [← getD_pre hp hn] at hx
      exact fnd_closed h hnl hx
    · rw [Fd_stop hn, Fd_stop (by rw [ih, List.length_map]; exact hn), ih]
theorem fnd_can {a : Au} (h : RightW a) : fnd (canA a) = rng (fnd a).length := by
  by_cases h0 : 0 < a.st
  · have hl := List.length_pos_of_mem (zero_fnd h h0).1
    have hs : (0 : Int) < (canA a).st := by simp [canA]; omega
    have hst : (canA a).st.toNat = (fnd a).length := by simp [canA]
    have h1 : fnd (canA a) = Fd (canA a) a.st.toNat := by
      refine fnd_at (can_right h) hs (n := (canA a).st.toNat) ?_ (Nat.le_refl _) |>.trans ?_
      · exact Fd_len (can_right h) hs _
      · have := Fd_still (a := canA a) (n := (canA a).st.toNat) (Fd_len (can_right h) hs _) (a.st.toNat - (canA a).st.toNat)
        have hle := fnd_len h
        rw [show (canA a).st.toNat + (a.st.toNat - (canA a).st.toNat) = a.st.toNat by omega] at this
        exact this.symm
    rw [h1, Fd_can h h0, ← fnd_pos h0, map_idx List.prefix_rfl (fnd_nodup a)]
  · have hf : fnd a = [] := by rw [fnd, if_pos (by omega)]
    rw [fnd, if_pos (by simp [canA, hf]), hf]; rfl
theorem rng_idx {n i : Nat} (h : i < n) : (rng n).idxOf (i : Int) = i := by
  have := idxOf_getD (l := rng n) (i := i) (by
    unfold rng
    rw [List.nodup_iff_pairwise_ne, List.pairwise_map]
    exact List.pairwise_lt_range.imp fun h => by omega) (by rw [rng_len]; exact h)
  rwa [rng_at h] at this
/-- The canonical form is its own canonical form. -/
theorem can_can {a : Au} (h : RightW a) : canA (canA a) = canA a := by
  have hf := fnd_can h
  have hl : (fnd (canA a)).length = (fnd a).length := by rw [hf, rng_len]
  have h1 : canM (canA a) = canM a := by
    refine lt_ext (canM_lt _) (canM_lt a) fun x => ?_
    rw [mem_canM, hl, hf]
    constructor
    · rintro ⟨i, hi, h2, rfl⟩; rw [rng_at hi] at h2; exact h2
    · intro hx
      obtain ⟨i, hi, _, rfl⟩ := mem_canM.1 hx
      exact ⟨i, hi, by rw [rng_at hi]; exact hx, rfl⟩
  have h2 : canEn (canA a) (fnd a).length = canEn a (fnd a).length := by
    unfold canEn
    have h3 : ∀ i ∈ List.range (fnd a).length, outE (canA a) (fnd (canA a)) i = outE a (fnd a) i := fun i hi => by
      rw [List.mem_range] at hi
      rw [hf]
      conv => lhs; unfold outE
      rw [rng_at hi, succ_can hi]
      conv => rhs; rw [← List.map_id (outE a (fnd a) i)]
      refine List.map_congr_left fun y hy => ?_
      unfold outE at hy
      obtain ⟨x, hx, rfl⟩ := List.mem_map.1 hy
      have := List.idxOf_lt_length_iff.2 (fnd_closed h hi hx)
      simp only [id]
      rw [rng_idx this]
    rw [List.flatMap_def, List.flatMap_def, List.map_congr_left h3]
  unfold canA at *
  simp only at *
  rw [hl, h1, h2]
end Go.Proofs.Ytcciiikaejjooaa
