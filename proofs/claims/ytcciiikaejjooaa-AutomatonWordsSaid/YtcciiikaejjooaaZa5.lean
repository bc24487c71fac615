/- Texts merged: what follows were texts of their own. -/
import Derived.Test.YtcciiikaejjooaaZa4
import Derived.Shelf.Spec.SlicesGrow
import Derived.Test.YtcciiikaejjooaaProg
import Derived.Test.YtcciiikaejjooaaZa3
/- Layer 3, the mathematics of the canonical form: it is right, it is its own canonical form, it has the same languages. -/
namespace Go.Proofs.Ytcciiikaejjooaa
open Go.RowKit Go.Sort

theorem fnd_closed {a : Au} (h : RightW a) {i : Nat} (hi : i < (fnd a).length) {x : Ed} (hx : x ∈ succ a.ed ((fnd a).getD i 0)) : x.t ∈ fnd a := by
  by_cases h0 : 0 < a.st
  · have hl := fnd_len h
    have hlt : i < (Fd a i).length := by
      by_cases hh : i < (Fd a i).length
      · exact hh
      · rw [fnd_at h h0 (n := i) (by omega) (by omega)] at hi; exact hi
    have hp := Fd_fnd h h0 i
    rw [getD_pre hp hlt] at hx
    have h1 : x.t ∈ Fd a (i + 1) := by rw [Fd_go hlt, mem_visitL]; exact .inr ⟨x, hx, rfl⟩
    exact (Fd_fnd h h0 (i + 1)).subset h1
  · rw [fnd, if_pos (by omega)] at hi; simp at hi
theorem mem_canEn {a : Au} {n : Nat} {y : Ed} : y ∈ canEn a n ↔ ∃ i : Nat, i < n ∧ ∃ x ∈ succ a.ed ((fnd a).getD i 0), y = ⟨(i : Int), x.e, ((fnd a).idxOf x.t : Int)⟩ := by
  unfold canEn outE
  simp only [List.mem_flatMap, List.mem_range, List.mem_map]
  constructor
  · rintro ⟨i, hi, x, hx, e⟩; exact ⟨i, hi, x, hx, e.symm⟩
  · rintro ⟨i, hi, x, hx, e⟩; exact ⟨i, hi, x, hx, e.symm⟩
theorem outE_sorted {a : Au} (h : RightW a) (n : Nat) : (outE a (fnd a) n).Pairwise ltE := by
  unfold outE
  rw [List.pairwise_map]
  exact (succ_sorted h.edo _).imp fun hlt => by unfold ltE; simp; exact hlt
theorem canEn_sorted {a : Au} (h : RightW a) : ∀ n, (canEn a n).Pairwise ltE
  | 0 => by simp [canEn]
  | n + 1 => by
    rw [canEn_succ, List.pairwise_append]
    refine ⟨canEn_sorted h n, outE_sorted h n, fun x hx y hy => ?_⟩
    obtain ⟨i, hi, z, _, rfl⟩ := mem_canEn.1 hx
    unfold outE at hy
    obtain ⟨z2, _, rfl⟩ := List.mem_map.1 hy
    unfold ltE; simp; omega
theorem can_right {a : Au} (h : RightW a) : RightW (canA a) where
  alr := h.alr
  alo := h.alo
  st0 := by simp [canA]
  mrr x hx := by
    obtain ⟨i, h1, _, rfl⟩ := mem_canM.1 hx
    simp [canA]; omega
  mro := canM_lt a
  edr y hy := by
    obtain ⟨i, hi, x, hx, rfl⟩ := mem_canEn.1 hy
    have ht := List.idxOf_lt_length_iff.2 (fnd_closed h hi hx)
    refine ⟨by simp [canA]; omega, by simp [canA]; omega, (h.edr x (mem_succ.1 hx).1).2.2⟩
  edo := canEn_sorted h _
theorem Right.can {a : Au} (h : Right a) : Right (canA a) :=
  { can_right h.toRightW with st1 := by have := fnd_len h.toRightW; have := h.st1; have := h.st0; simp [canA]; omega }
theorem chk_can {a : Au} (h : chkE a = 0) : chkE (canA a) = 0 := (right_of h).can.chk

/-- The edges of a state of the canonical form. -/
theorem succ_canEn {a : Au} (i : Nat) : ∀ n, succ (canEn a n) (i : Int) = if i < n then outE a (fnd a) i else []
  | 0 => by simp [canEn, succ]
  | n + 1 => by
    rw [canEn_succ, succ, List.filter_append]
    have h1 := succ_canEn (a := a) i n
    unfold succ at h1
    rw [h1]
    have h2 : (outE a (fnd a) n).filter (fun x => decide (x.f = (i : Int))) = if i = n then outE a (fnd a) n else [] := by
      by_cases e : i = n
      · rw [if_pos e, List.filter_eq_self]
        intro x hx; unfold outE at hx; obtain ⟨z, _, rfl⟩ := List.mem_map.1 hx; simp [e]
      · rw [if_neg e, List.filter_eq_nil_iff]
        intro x hx; unfold outE at hx; obtain ⟨z, _, rfl⟩ := List.mem_map.1 hx; simp; omega
    rw [h2]
    by_cases e : i = n
    · subst e; rw [if_neg (by omega), if_pos rfl, if_pos (by omega), List.nil_append]
    · by_cases e2 : i < n
      · rw [if_pos e2, if_neg e, if_pos (by omega), List.append_nil]
      · rw [if_neg e2, if_neg e, if_neg (by omega), List.append_nil]
theorem succ_can {a : Au} {i : Nat} (hi : i < (fnd a).length) : succ (canA a).ed (i : Int) = outE a (fnd a) i := by
  show succ (canEn a (fnd a).length) (i : Int) = _
  rw [succ_canEn, if_pos hi]
/-- A step of the canonical form. -/
theorem step_can {a : Au} (h : RightW a) {i : Nat} (hi : i < (fnd a).length) (ev : Int) : stepO (canA a) (i : Int) ev = (stepO a ((fnd a).getD i 0) ev).map fun t => ((fnd a).idxOf t : Int) := by
  have hc := can_right h
  unfold stepO
  cases he : edgeO a.ed ((fnd a).getD i 0) ev with
  | none =>
    have : edgeO (canA a).ed (i : Int) ev = none := by
      rw [edgeO_none] at he ⊢
      rintro y hy ⟨h1, h2⟩
      have hy2 : y ∈ succ (canA a).ed (i : Int) := mem_succ.2 ⟨hy, h1⟩
      rw [succ_can hi] at hy2
      unfold outE at hy2
      obtain ⟨x, hx, rfl⟩ := List.mem_map.1 hy2
      exact he x (mem_succ.1 hx).1 ⟨(mem_succ.1 hx).2, h2⟩
    rw [this]; rfl
  | some x =>
    obtain ⟨h1, h2, h3⟩ := (edgeO_some h.edo).1 he
    have : edgeO (canA a).ed (i : Int) ev = some ⟨(i : Int), x.e, ((fnd a).idxOf x.t : Int)⟩ := by
      rw [edgeO_some hc.edo]
      refine ⟨?_, rfl, h3⟩
      exact mem_canEn.2 ⟨i, hi, x, mem_succ.2 ⟨h1, h2⟩, rfl⟩
    rw [this]; rfl
theorem step_in {a : Au} (h : RightW a) {q ev t : Int} (hq : q ∈ fnd a) (hs : stepO a q ev = some t) : t ∈ fnd a := by
  unfold stepO at hs
  cases he : edgeO a.ed q ev with
  | none => rw [he] at hs; simp at hs
  | some x =>
    rw [he] at hs; simp at hs; subst hs
    obtain ⟨h1, h2, h3⟩ := (edgeO_some h.edo).1 he
    refine fnd_closed h (i := (fnd a).idxOf q) (List.idxOf_lt_length_iff.2 hq) ?_
    rw [getD_idxOf hq]; exact mem_succ.2 ⟨h1, h2⟩
theorem run_can {a : Au} (h : RightW a) : ∀ (ws : List Int) (q : Int), q ∈ fnd a → (runE a q ws).1 ∈ fnd a ∧ runE (canA a) ((fnd a).idxOf q : Int) ws = (((fnd a).idxOf (runE a q ws).1 : Int), (runE a q ws).2)
  | [], q, hq => by rw [runE_nil, runE_nil]; exact ⟨hq, rfl⟩
  | x :: ws, q, hq => by
    have hs := step_can h (List.idxOf_lt_length_iff.2 hq) x
    rw [getD_idxOf hq] at hs
    cases e : stepO a q x with
    | none => rw [runE_stop e, runE_stop (by rw [hs, e]; rfl)]; exact ⟨hq, rfl⟩
    | some t =>
      have ht := step_in h hq e
      obtain ⟨h1, h2⟩ := run_can h ws t ht
      rw [runE_go e, runE_go (t := ((fnd a).idxOf t : Int)) (by rw [hs, e]; rfl), h2]
      exact ⟨h1, rfl⟩
theorem zero_fnd {a : Au} (h : RightW a) (h0 : 0 < a.st) : (0 : Int) ∈ fnd a ∧ (fnd a).idxOf 0 = 0 := by
  have hp : [(0 : Int)] <+: fnd a := Fd_fnd h h0 0
  refine ⟨hp.subset (by simp), ?_⟩
  rw [idx_pre hp (by simp)]; simp
theorem gen_can {a : Au} (h : RightW a) (ws : List Int) : genB (canA a) ws = genB a ws := by
  have h0 := h.st0
  by_cases hz : a.st = 0
  · have : (canA a).st = 0 := by simp [canA, fnd, hz]
    simp [genB, hz, this]
  · obtain ⟨hm, hi⟩ := zero_fnd h (by omega)
    have hr := (run_can h ws 0 hm).2
    rw [hi] at hr
    have hl := List.length_pos_of_mem hm
    have hs : ¬ (canA a).st = 0 := by simp [canA]; intro e; rw [e] at hl; simp at hl
    have hr2 : (runE (canA a) 0 ws).2 = (runE a 0 ws).2 := by have := congrArg Prod.snd hr; simpa using this
    simp [genB, hz, hs, hr2]
theorem acc_can {a : Au} (h : RightW a) (ws : List Int) : accB (canA a) ws = accB a ws := by
  unfold accB
  rw [gen_can h]
  cases hg : genB a ws with
  | false => rfl
  | true =>
    have hz : a.st ≠ 0 := by unfold genB at hg; simp at hg; exact hg.1
    have h0 := h.st0
    obtain ⟨hm, hi⟩ := zero_fnd h (by omega)
    obtain ⟨hq, hr⟩ := run_can h ws 0 hm
    rw [hi] at hr
    have hr1 : (runE (canA a) 0 ws).1 = ((fnd a).idxOf (runE a 0 ws).1 : Int) := by have := congrArg Prod.fst hr; simpa using this
    rw [hr1, Bool.true_and, Bool.true_and, decide_eq_decide]
    show ((fnd a).idxOf (runE a 0 ws).1 : Int) ∈ canM a ↔ _
    rw [mem_canM]
    constructor
    · rintro ⟨i, h1, h2, h3⟩
      have : i = (fnd a).idxOf (runE a 0 ws).1 := by omega
      rw [this, getD_idxOf hq] at h2; exact h2
    · intro h1
      exact ⟨_, List.idxOf_lt_length_iff.2 hq, by rw [getD_idxOf hq]; exact h1, rfl⟩
theorem run_take (a : Au) : ∀ (ws : List Int) (q : Int) (k : Nat), (runE a q ws).2 = ws.length → (runE a q (ws.take k)).2 = (ws.take k).length
  | [], q, k, _ => by simp [runE_nil]
  | x :: ws, q, 0, _ => by simp [runE_nil]
  | x :: ws, q, k + 1, hh => by
    rw [List.take_succ_cons]
    cases e : stepO a q x with
    | none => rw [runE_stop e] at hh; simp at hh
    | some t =>
      rw [runE_go e] at hh ⊢
      have := run_take a ws t k (by simpa using hh)
      simp [this]
theorem gen_take {a : Au} {ws : List Int} (h : genB a ws = true) (k : Nat) : genB a (ws.take k) = true := by
  unfold genB at h ⊢
  simp only [Bool.and_eq_true, decide_eq_true_eq] at h ⊢
  exact ⟨h.1, run_take a ws 0 k h.2⟩

/-- What is found, numbered. -/
theorem visitL_map {fl : List Int} {f : Int → Int} {g : Ed → Ed} (hinj : ∀ x y, x ∈ fl → y ∈ fl → f x = f y → x = y) : ∀ (l : List Ed) (r : List Int), r ⊆ fl → (∀ x ∈ l, x.t ∈ fl ∧ (g x).t = f x.t) → visitL (r.map f) (l.map g) = (visitL r l).map f
  | [], r, _, _ => rfl
  | x :: l, r, hr, hl => by
    obtain ⟨h1, h2⟩ := hl x (by simp)
    rw [List.map_cons, visitL_cons, visitL_cons, h2]
    have e : visit (r.map f) (f x.t) = (visit r x.t).map f := by
      by_cases hm : x.t ∈ r
      · rw [visit_in hm, visit_in (List.mem_map.2 ⟨_, hm, rfl⟩)]
      · rw [visit_new hm, visit_new, List.map_append]; · rfl
        rintro hm2
        obtain ⟨y, hy, e⟩ := List.mem_map.1 hm2
        exact hm (hinj y x.t (hr hy) h1 e ▸ hy)
    rw [e]
    refine visitL_map hinj l _ (fun y hy => ?_) fun y hy => hl y (by simp [hy])
    rcases mem_visit.1 hy with h | h
    · exact hr h
    · rw [h]; exact h1
def rng (n : Nat) : List Int := (List.range n).map fun i : Nat => (i : Int)
theorem rng_len (n : Nat) : (rng n).length = n := by simp [rng]
theorem rng_at {n i : Nat} (h : i < n) : (rng n).getD i 0 = (i : Int) := by simp [rng, List.getD, h]
theorem map_idx {fl r : List Int} (hp : r <+: fl) (hd : fl.Nodup) : r.map (fun t => (fl.idxOf t : Int)) = rng r.length := by
  apply List.ext_getElem
  · simp [rng]
  · intro i h1 h2
    have hi : i < r.length := by simpa using h1
    simp only [rng, List.getElem_map, List.getElem_range]
    have e : r[i] = fl.getD i 0 := by rw [getD_pre hp hi]; simp [List.getD, List.getElem?_eq_getElem hi]
    rw [e, idxOf_getD hd (Nat.lt_of_lt_of_le hi hp.length_le)]
theorem Fd_can {a : Au} (h : RightW a) (h0 : 0 < a.st) : ∀ n, Fd (canA a) n = (Fd a n).map fun t => ((fnd a).idxOf t : Int)
  | 0 => by simp [Fd, (zero_fnd h h0).2]
  | n + 1 => by
    have ih := Fd_can h h0 n
    have hp := Fd_fnd h h0 n
    by_cases hn : n < (Fd a n).length
    · rw [Fd_go hn, Fd_go (by rw [ih, List.length_map]; exact hn), ih]
      have hnl : n < (fnd a).length := Nat.lt_of_lt_of_le hn hp.length_le
      have e1 : ((Fd a n).map fun t => ((fnd a).idxOf t : Int)).getD n 0 = (n : Int) := by
        rw [map_idx hp (fnd_nodup a), rng_at hn]
      rw [e1, succ_can hnl]
      unfold outE
      rw [getD_pre hp hn]
      refine visitL_map (fl := fnd a) (fun x y hx hy e => idx_inj hx hy (by omega)) _ _ hp.subset fun x hx => ⟨?_, rfl⟩
      rw [← getD_pre hp hn] at hx
      exact fnd_closed h hnl hx
    · rw [Fd_stop hn, Fd_stop (by rw [ih, List.length_map]; exact hn), ih]
theorem fnd_can {a : Au} (h : RightW a) : fnd (canA a) = rng (fnd a).length := by
  by_cases h0 : 0 < a.st
  · have hl := List.length_pos_of_mem (zero_fnd h h0).1
    have hs : (0 : Int) < (canA a).st := by simp [canA]; omega
    have hst : (canA a).st.toNat = (fnd a).length := by simp [canA]
    have h1 : fnd (canA a) = Fd (canA a) a.st.toNat := by
      refine fnd_at (can_right h) hs (n := (canA a).st.toNat) ?_ (Nat.le_refl _) |>.trans ?_
      · exact Fd_len (can_right h) hs _
      · have := Fd_still (a := canA a) (n := (canA a).st.toNat) (Fd_len (can_right h) hs _) (a.st.toNat - (canA a).st.toNat)
        have hle := fnd_len h
        rw [show (canA a).st.toNat + (a.st.toNat - (canA a).st.toNat) = a.st.toNat by omega] at this
        exact this.symm
    rw [h1, Fd_can h h0, ← fnd_pos h0, map_idx List.prefix_rfl (fnd_nodup a)]
  · have hf : fnd a = [] := by rw [fnd, if_pos (by omega)]
    rw [fnd, if_pos (by simp [canA, hf]), hf]; rfl
theorem rng_idx {n i : Nat} (h : i < n) : (rng n).idxOf (i : Int) = i := by
  have := idxOf_getD (l := rng n) (i := i) (by
    unfold rng
    rw [List.nodup_iff_pairwise_ne, List.pairwise_map]
    exact List.pairwise_lt_range.imp fun h => by omega) (by rw [rng_len]; exact h)
  rwa [rng_at h] at this
/-- The canonical form is its own canonical form. -/
theorem can_can {a : Au} (h : RightW a) : canA (canA a) = canA a := by
  have hf := fnd_can h
  have hl : (fnd (canA a)).length = (fnd a).length := by rw [hf, rng_len]
  have h1 : canM (canA a) = canM a := by
    refine lt_ext (canM_lt _) (canM_lt a) fun x => ?_
    rw [mem_canM, hl, hf]
    constructor
    · rintro ⟨i, hi, h2, rfl⟩; rw [rng_at hi] at h2; exact h2
    · intro hx
      obtain ⟨i, hi, _, rfl⟩ := mem_canM.1 hx
      exact ⟨i, hi, by rw [rng_at hi]; exact hx, rfl⟩
  have h2 : canEn (canA a) (fnd a).length = canEn a (fnd a).length := by
    unfold canEn
    have h3 : ∀ i ∈ List.range (fnd a).length, outE (canA a) (fnd (canA a)) i = outE a (fnd a) i := fun i hi => by
      rw [List.mem_range] at hi
      rw [hf]
      conv => lhs; unfold outE
      rw [rng_at hi, succ_can hi]
      conv => rhs; rw [← List.map_id (outE a (fnd a) i)]
      refine List.map_congr_left fun y hy => ?_
      unfold outE at hy
      obtain ⟨x, hx, rfl⟩ := List.mem_map.1 hy
      have := List.idxOf_lt_length_iff.2 (fnd_closed h hi hx)
      simp only [id]
      rw [rng_idx this]
    rw [List.flatMap_def, List.flatMap_def, List.map_congr_left h3]
  unfold canA at *
  simp only at *
  rw [hl, h1, h2]
end Go.Proofs.Ytcciiikaejjooaa

/- Contracts of the library at this program, laid in plain words. -/
namespace Go.Proofs.Ytcciiikaejjooaa
open Go.Shelf
def layGr_ren : Go.Shelf.Ren := ⟨fun | 4 => 85 | n => n, fun | 22 => 22 | 25 => 3 | 3 => 3 | 4 => 4 | 9 => 9 | 20 => 20 | 0 => 0 | n => n, fun | n => n⟩
theorem layGr : Go.Proofs.Lays8.n4 Try.prog layGr_ren := {
  mixed := by kernel_rfl
  f4 := ⟨Try.f85.name, by decide, Try.func85.trans (congrArg some (by kernel_rfl))⟩
  t0 := Try.underlying0
  a0 := Try.isAgg0
  z0 := Try.sizeOf0
  v0 := Try.zeroValue0
  t3 := Try.underlying3
  a3 := Try.isAgg3
  z3 := Try.sizeOf3
  v3 := Try.zeroValue3
  t4 := Try.underlying4
  a4 := Try.isAgg4
  z4 := Try.sizeOf4
  v4 := Try.zeroValue4
  t9 := Try.underlying9
  a9 := Try.isAgg9
  z9 := Try.sizeOf9
  v9 := Try.zeroValue9
  t20 := Try.underlying20
  a20 := Try.isAgg20
  z20 := Try.sizeOf20
  v20 := Try.zeroValue20
  t22 := Try.underlying22
  a22 := Try.isAgg22
  z22 := Try.sizeOf22
  v22 := Try.zeroValue22 }
end Go.Proofs.Ytcciiikaejjooaa

/- Layer 3: slices.Grow from nil, slices.Concat of two lists; words held by slices; lists of words of the call's own. -/
namespace Go.Proofs.Ytcciiikaejjooaa
open Go.RowKit Go.Sort

set_option maxHeartbeats 1000000 in
theorem grow_nil (N : Nat) (hN : N ≤ 100000) (w : World) :
    Calls Try.prog 85 #[.slice none 0 0, .int .i64 (N : Int)] w fun e w' => ∃ v, e = .returned v ∧ Own w' w.heap.size v [] ∧ Below w.heap.size w w' := by
  rcases Nat.eq_zero_or_pos N with h0 | h0
  · subst h0
    refine Calls.mono (show Calls Try.prog 85 _ w _ from Any8.slices_Grow_room layGr none 0 0 0 w (Nat.le_refl _) (by omega) (by omega) (by omega)) ?_
    rintro e w' ⟨rfl, rfl⟩
    exact ⟨_, rfl, World.ownsRow_nil _ _ _ _, Below.refl _ _⟩
  · obtain ⟨i0, hi, hz0, hz1, hz2⟩ := info_parts info_int
    refine Calls.mono (show Calls Try.prog 85 _ w _ from Any8.slices_Grow_grow layGr i0 (.int .i64 0) hi hz0 (by rw [hz1]; omega) none 0 0 N [] w (Nat.le_refl _) (by omega) (by rw [hz2]; omega) (by omega) (by simp) (fun _ => rfl) (fun a h => by cases h)) ?_
    rintro e w' ⟨rfl, rfl⟩
    have hge := grownCap_ge w (0 + N) 0 3
    have hle := grownCap_le_maxLen w (0 + N) 0 3 (by unfold maxLen; omega)
    refine ⟨_, rfl, ?_, (Below.refl _ w).drew.alloc (Nat.le_refl _) _⟩
    refine ⟨rfl, .inr ⟨w.heap.size, _, _, rfl, Nat.le_refl _, heap_alloc_new w.drew _, Nat.zero_le _, hle, ?_, ?_⟩⟩
    · simp only [Array.size_append, size_zeroCells, List.size_toArray, List.length_nil, Value.cells, Nat.mul_one]
      have e : layGr_ren.t 25 = 3 := rfl
      rw [e]
      simp only [Nat.zero_add, Nat.sub_zero] at hge ⊢
      simp
      omega
    · simp

/-- The two slices that Concat takes. -/
structure TwoS (w : World) (b o : Nat) (A1 : Option Addr) (n1 c1 : Nat) (A2 : Option Addr) (n2 c2 : Nat) (xs ys : List Int) : Prop where
  c0 : w.cell? ⟨b, o, none⟩ = some (.slice A1 n1 c1)
  c1 : w.cell? ⟨b, o + 1, none⟩ = some (.slice A2 n2 c2)
  r0 : RdI w w.heap.size A1 xs
  r1 : RdI w w.heap.size A2 ys
  l0 : xs.length = n1
  l1 : ys.length = n2
  bb : b < w.heap.size
theorem TwoS.below {w w' : World} {b o : Nat} {A1 : Option Addr} {n1 c1 : Nat} {A2 : Option Addr} {n2 c2 : Nat} {xs ys : List Int} (h : TwoS w b o A1 n1 c1 A2 n2 c2 xs ys) (hb : Below w.heap.size w w') : TwoS w' b o A1 n1 c1 A2 n2 c2 xs ys :=
  ⟨(hb.cell (p := ⟨b, o, none⟩) h.bb).trans h.c0, (hb.cell (p := ⟨b, o + 1, none⟩) h.bb).trans h.c1, (h.r0.below hb (Nat.le_refl _)).more hb.size, (h.r1.below hb (Nat.le_refl _)).more hb.size, h.l0, h.l1, Nat.lt_of_lt_of_le h.bb hb.size⟩

set_option maxHeartbeats 2000000 in
theorem concat_any (b o cp : Nat) (A1 : Option Addr) (n1 c1 : Nat) (A2 : Option Addr) (n2 c2 : Nat) (xs ys : List Int) (w : World) (h : TwoS w b o A1 n1 c1 A2 n2 c2 xs ys) (hb1 : n1 ≤ 50000) (hb2 : n2 ≤ 50000) :
    Calls Try.prog 75 #[.slice (some ⟨b, o, none⟩) 2 cp] w fun e w' => ∃ A c, e = .returned (.slice A (n1 + n2) c) ∧ Own w' w.heap.size (.slice A (n1 + n2) c) (xs ++ ys) ∧ Below w.heap.size w w' := by
  have HT := Lib.hid h
  have HG := Lib.hid (grow_nil (n1 + n2) (by omega) w)
  have c0 := h.c0
  have c1' := h.c1
  clear h
  go_enter Try.func75, Try.ntmps75
  go_wp2_with fail
  go_loop [3, 11] (fun u i => (i = .int .i64 0 ∧ u = .int .i64 0) ∨ (i = .int .i64 1 ∧ u = .int .i64 (n1 : Int)) ∨ (i = .int .i64 2 ∧ u = .int .i64 ((n1 + n2 : Nat) : Int))) (fun _ i => 2 - (intOf i).toNat)
  case atStart => exact .inl ⟨rfl, rfl⟩
  case round =>
    rcases hrel with ⟨rfl, rfl⟩ | ⟨rfl, rfl⟩ | ⟨rfl, rfl⟩
    · have hn : ¬ ((n1 : Int) < 0) := by omega
      go_wp2_with fail
      go_round
      case rel => exact .inr (.inl ⟨rfl, by go_num⟩)
      case measure => simp [intOf]
    · have hn : ¬ ((n1 : Int) + (n2 : Int) < 0) := by omega
      go_wp2_with fail
      go_round
      case rel => exact .inr (.inr ⟨rfl, by go_num⟩)
      case measure => simp [intOf]
    · go_wp2_with fail
      refine HG.out.mono ?_
      rintro e w1 ⟨v1, rfl, ho1, hbw1⟩
      have HO1 := Lib.hid ho1
      have HB1 := Lib.hid hbw1
      have HT1 := Lib.hid (HT.out.below hbw1)
      clear c0 c1' ho1 hbw1
      go_wp2_with fail
      go_loopw [6, 27] (fun v i wr => Hid (Below w.heap.size w wr) ∧ Hid (TwoS wr b o A1 n1 c1 A2 n2 c2 xs ys) ∧ ((i = .int .i64 0 ∧ Hid (Own wr w.heap.size v [])) ∨ (i = .int .i64 1 ∧ Hid (Own wr w.heap.size v xs)) ∨ (i = .int .i64 2 ∧ Hid (Own wr w.heap.size v (xs ++ ys))))) (fun _ i _ => 2 - (intOf i).toNat)
      case atStart => exact ⟨HB1, HT1, .inl ⟨rfl, HO1⟩⟩
      case round =>
        clear HB1 HT1 HO1
        obtain ⟨hbel, ht, hor⟩ := hrel
        have c0 := ht.out.c0
        have c1' := ht.out.c1
        have hsz := hbel.out.size
        rcases hor with ⟨rfl, ho⟩ | ⟨rfl, ho⟩ | ⟨rfl, ho⟩
        · go_wp2_with (at_builtin; refine wpList_app_rd rfl (.tmp 31) (.tmp 32) rfl w.heap.size _ 0 [] rfl ho.out wr.heap.size A1 n1 c1 xs rfl ht.out.r0 ht.out.l0 (by unfold maxLen; omega) (by omega) hsz ?_)
          intro v' w2 hown hgrow
          have HB2 := Lib.hid (hbel.out.grown hgrow hsz (fun k hk => (ho.out.lt k hk).1))
          have HO2 := Lib.hid (show Own w2 w.heap.size v' xs by unfold Own; rw [ht.out.l0]; simpa using hown)
          have HT2 := Lib.hid (show TwoS w2 b o A1 n1 c1 A2 n2 c2 xs ys from HT.out.below HB2.out)
          clear hown hgrow
          go_wp2_with fail
          go_roundw
          case rel => exact ⟨HB2, HT2, .inr (.inl ⟨rfl, HO2⟩)⟩
          case measure => simp [intOf]
        · have ho' : wr.ownsRow w.heap.size 3 1 u6 n1 (xs.map (Value.int .i64)) := by have := ho.out; unfold Own at this; rwa [ht.out.l0] at this
          have HO := Lib.hid ho'
          clear ho'
          go_wp2_with (at_builtin; refine wpList_app_rd rfl (.tmp 31) (.tmp 32) rfl w.heap.size _ n1 xs rfl HO.out wr.heap.size A2 n2 c2 ys rfl ht.out.r1 ht.out.l1 (by unfold maxLen; omega) (by omega) hsz ?_)
          intro v' w2 hown hgrow
          have HB2 := Lib.hid (hbel.out.grown hgrow hsz (fun k hk => (ho.out.lt k hk).1))
          have HO2 := Lib.hid (show Own w2 w.heap.size v' (xs ++ ys) by unfold Own; rw [List.length_append, ht.out.l0, ht.out.l1, List.map_append]; first | exact hown | simpa using hown)
          have HT2 := Lib.hid (show TwoS w2 b o A1 n1 c1 A2 n2 c2 xs ys from HT.out.below HB2.out)
          clear hown hgrow
          go_wp2_with fail
          go_roundw
          case rel => exact ⟨HB2, HT2, .inr (.inr ⟨rfl, HO2⟩)⟩
          case measure => simp [intOf]
        · obtain ⟨A3, c3, rfl, _⟩ := own_rd ho.out
          have HO3 := Lib.hid (show Own wr w.heap.size (.slice A3 (n1 + n2) c3) (xs ++ ys) by have := ho.out; rwa [List.length_append, ht.out.l0, ht.out.l1] at this)
          have hlen := Lib.hid (show (xs ++ ys).length = n1 + n2 by rw [List.length_append, ht.out.l0, ht.out.l1])
          go_wp2_with fail
          go_ret
          exact ⟨A3, c3, congrArg (fun k : Nat => Ending.returned (.slice A3 k c3)) hlen.out, HO3.out, hbel.out⟩
end Go.Proofs.Ytcciiikaejjooaa

/- Layer 3: lists of words of the call's own; the words of an automaton. -/
namespace Go.Proofs.Ytcciiikaejjooaa
open Go.RowKit Go.Sort

theorem info_ints : (Try.prog.info? 22).map (fun i => (i.zero, i.size, i.bytes)) = some (some (.slice none 0 0), 1, 24) := by kernel_rfl
/-- A slice that holds a word: its address, its capacity, the word. -/
structure Hd where
  A : Option Addr
  c : Nat
  z : List Int
def Hd.enc (h : Hd) : Value := .slice h.A h.z.length h.c
instance : Inhabited Hd := ⟨⟨none, 0, []⟩⟩

theorem own_more {w : World} {base base' n : Nat} {e : TypeId} {sz : Nat} {v : Value} {xs : List Value} (h : w.ownsRow base e sz v n xs) (hb : base' ≤ base) : w.ownsRow base' e sz v n xs :=
  ⟨h.1, by
    rcases h.2 with h | ⟨g, cap, cur, e, hge, r⟩
    · exact .inl h
    · exact .inr ⟨g, cap, cur, e, by omega, r⟩⟩
/-- The words and the states to which they lead, in memory of the call's own. -/
structure GL (w : World) (base : Nat) (vw : Value) (hs : List Hd) (ve : Value) (es : List Int) : Prop where
  row : w.ownsRow base 22 1 vw hs.length (hs.map Hd.enc)
  own : ∀ h ∈ hs, Own w base h.enc h.z
  ends : Own w base ve es
  ne : ∀ h ∈ hs, h.enc.ownBlock = none ∨ h.enc.ownBlock ≠ ve.ownBlock
theorem GL.below {w w' : World} {base : Nat} {vw ve : Value} {hs : List Hd} {es : List Int} (h : GL w base vw hs ve es) (hb : Below w.heap.size w w') : GL w' base vw hs ve es :=
  ⟨own_below h.row hb, fun x hx => own_below (h.own x hx) hb, own_below h.ends hb, h.ne⟩
theorem GL.drewN {w : World} {base : Nat} {vw ve : Value} {hs : List Hd} {es : List Int} (h : GL w base vw hs ve es) (q : Nat) : GL (w.drewN q) base vw hs ve es := ⟨h.row, h.own, h.ends, h.ne⟩
theorem GL.base {w : World} {base B : Nat} {vw ve : Value} {hs : List Hd} {es : List Int} (h : GL w base vw hs ve es) (hB : B ≤ base) : GL w B vw hs ve es :=
  ⟨own_more h.row hB, fun x hx => own_more (h.own x hx) hB, own_more h.ends hB, h.ne⟩
theorem GL.drew {w : World} {base : Nat} {vw ve : Value} {hs : List Hd} {es : List Int} (h : GL w base vw hs ve es) : GL w.drew base vw hs ve es := ⟨h.row, h.own, h.ends, h.ne⟩
/-- A word in new memory is appended. -/
theorem GL.word {w w0 w1 : World} {base n : Nat} {vw vw' ve : Value} {hs : List Hd} {es : List Int} {x : Hd} (h : GL w base vw hs ve es) (hb : Below w.heap.size w w0) (hx : Own w0 w.heap.size x.enc x.z) (hbs : base ≤ w.heap.size)
    (hr : w1.ownsRow base 22 1 vw' n (hs.map Hd.enc ++ [x.enc])) (hn : n = hs.length + 1) (hg : w0.grownBy w1 vw.ownBlock) : GL w1 base vw' (hs ++ [x]) ve es := by
  subst hn
  have h0 := h.below hb
  have hxb : Own w0 base x.enc x.z := ⟨hx.1, by
    rcases hx.2 with h | ⟨g, cap, cur, e, hge, r⟩
    · exact .inl h
    · exact .inr ⟨g, cap, cur, e, by omega, r⟩⟩
  refine ⟨by simpa using hr, fun y hy => ?_, own_row h0.ends hg (owns_ne h0.ends h0.row (by decide)), fun y hy => ?_⟩
  · rcases List.mem_append.1 hy with hy | hy
    · exact own_row (h0.own y hy) hg (owns_ne (h0.own y hy) h0.row (by decide))
    · rw [List.mem_singleton] at hy; subst hy
      exact own_row hxb hg (owns_ne hxb h0.row (by decide))
  · rcases List.mem_append.1 hy with hy | hy
    · exact h.ne y hy
    · rw [List.mem_singleton] at hy; subst hy
      by_cases he : y.enc.ownBlock = none
      · exact .inl he
      · refine .inr fun e => ?_
        obtain ⟨j, hj⟩ := Option.ne_none_iff_exists'.1 he
        have h1 := (hx.lt j hj).1
        have h2 := (h.ends.lt j (by rw [← e, hj])).2
        omega
/-- A state is appended to the ends. -/
theorem GL.end_ {w w1 : World} {base : Nat} {vw ve ve' : Value} {hs : List Hd} {es : List Int} {t : Int} (h : GL w base vw hs ve es) (ho : Own w1 base ve' (es ++ [t])) (hg : w.grownBy w1 ve.ownBlock) (hs' : ∀ j, ve'.ownBlock = some j → ve.ownBlock = some j ∨ w.heap.size ≤ j) : GL w1 base vw hs ve' (es ++ [t]) := by
  refine ⟨own_row h.row hg (owns_ne h.row h.ends (by decide)), fun y hy => own_row (h.own y hy) hg (h.ne y hy), ho, fun y hy => ?_⟩
  by_cases he : y.enc.ownBlock = none
  · exact .inl he
  · refine .inr fun e => ?_
    obtain ⟨j, hj⟩ := Option.ne_none_iff_exists'.1 he
    have h1 := ((h.own y hy).lt j hj).2
    rcases hs' j (by rw [← e, hj]) with h2 | h2
    · rcases h.ne y hy with h3 | h3
      · exact he h3
      · exact h3 (by rw [hj, h2])
    · omega
theorem GL.len {w : World} {base : Nat} {vw ve : Value} {hs : List Hd} {es : List Int} {N : Nat} (h : GL w base vw hs ve es) (hN : hs.length = N) (h0 : 0 < N) : ∃ g cap, vw = .slice (some ⟨g, 0, none⟩) N cap ∧ N ≤ cap ∧ cap ≤ 9223372036854775807 ∧ ∀ j x, hs[j]? = some x → w.cell? ⟨g, j, none⟩ = some x.enc := by
  subst hN
  have hr := h.row
  rcases hr.2 with ⟨rfl, h1⟩ | ⟨g, cap, cur, rfl, hg, hh, hn, hcap, hsz, htake⟩
  · omega
  · refine ⟨g, cap, rfl, hn, by unfold maxLen at hcap; omega, fun j x hj => ?_⟩
    have hl := (List.getElem?_eq_some_iff.1 hj).1
    rw [World.ownsRow.cellAt (cap := cap) hr j (by omega), List.getElem?_map, hj]; rfl
theorem GL.word_rd {w : World} {base : Nat} {vw ve : Value} {hs : List Hd} {es : List Int} (h : GL w base vw hs ve es) {j : Nat} {x : Hd} (hj : hs[j]? = some x) : RdI w w.heap.size x.A x.z ∧ x.z.length ≤ x.c ∧ x.c ≤ 9223372036854775807 := by
  have ho := h.own x (List.mem_of_getElem? hj)
  obtain ⟨A, c, e, hrd, h1, h2⟩ := own_rdc ho
  unfold Hd.enc at e
  injection e with e1 e2 e3
  subst e1; subst e3
  exact ⟨hrd, h1, h2⟩

theorem two_made (w : World) {Ax : Option Addr} {lx cx : Nat} {zx : List Int} {xe : Int} (hr : RdI w w.heap.size Ax zx) (hl : zx.length = lx) :
    TwoS ((w.alloc (.cells #[.int .i64 xe] 3)).alloc (.cells #[.slice Ax lx cx, .slice (some ⟨w.heap.size, 0, none⟩) 1 1] 22)) (w.heap.size + 1) 0 Ax lx cx (some ⟨w.heap.size, 0, none⟩) 1 1 zx [xe] := by
  have hR := Row.new (w.alloc (.cells #[.int .i64 xe] 3)) [.slice Ax lx cx, .slice (some ⟨w.heap.size, 0, none⟩) 1 1] 22
  have hb := ((Below.refl w.heap.size w).alloc (Nat.le_refl _) (.cells #[.int .i64 xe] 3)).alloc (by simp) (.cells #[.slice Ax lx cx, .slice (some ⟨w.heap.size, 0, none⟩) 1 1] 22)
  have hI := (Row.new w [.int .i64 xe] 3).alloc (.cells #[.slice Ax lx cx, .slice (some ⟨w.heap.size, 0, none⟩) 1 1] 22)
  simp only [World.size_alloc] at hR
  exact ⟨hR.cell 0 rfl, hR.cell 1 rfl, (hr.below hb (Nat.le_refl _)).more (by simp; omega), fun _ => ⟨w.heap.size, 0, rfl, (by simp; try omega), fun j hj => by
    obtain rfl : j = 0 := by simp at hj; omega
    exact hI.cell 0 rfl⟩, hl, rfl, by simp⟩
/-- The words that go on from one. -/
def extW (a : Au) (p : List Int × Int) : List (List Int × Int) := (succ a.ed p.2).map fun x => (p.1 ++ [x.e], x.t)
/-- The words as they are found, from the i-th on; none if there are more than 1024. -/
def genF (a : Au) (most : Int) : Nat → Nat → List (List Int × Int) → Option (List (List Int × Int))
  | 0, _, _ => none
  | f + 1, i, L =>
    if i < L.length ∧ ((L.getD i ([], 0)).1.length : Int) < most then
      if 1024 < (L ++ extW a (L.getD i ([], 0))).length then none else genF a most f (i + 1) (L ++ extW a (L.getD i ([], 0)))
    else some L
def genO (a : Au) (most : Int) : Option (List (List Int × Int)) := if a.st = 0 then some [] else genF a most 1026 0 [([], 0)]
theorem genF_stop {a : Au} {most : Int} {f i : Nat} {L : List (List Int × Int)} {R : Option (List (List Int × Int))} (hR : genF a most f i L = R) (hf : 0 < f) (h : ¬ (i < L.length ∧ ((L.getD i ([], 0)).1.length : Int) < most)) : R = some L := by
  obtain ⟨g, rfl⟩ : ∃ g, f = g + 1 := ⟨f - 1, by omega⟩
  rw [genF, if_neg h] at hR; exact hR.symm
theorem genF_limit {a : Au} {most : Int} {f i : Nat} {L : List (List Int × Int)} {R : Option (List (List Int × Int))} (hR : genF a most f i L = R) (hf : 0 < f) (h : i < L.length ∧ ((L.getD i ([], 0)).1.length : Int) < most) (hl : 1024 < L.length + (extW a (L.getD i ([], 0))).length) : R = none := by
  obtain ⟨g, rfl⟩ : ∃ g, f = g + 1 := ⟨f - 1, by omega⟩
  rw [genF, if_pos h, if_pos (by rw [List.length_append]; exact hl)] at hR; exact hR.symm
theorem genF_go {a : Au} {most : Int} {f i : Nat} {L : List (List Int × Int)} {R : Option (List (List Int × Int))} (hR : genF a most f i L = R) (hf : 0 < f) (h : i < L.length ∧ ((L.getD i ([], 0)).1.length : Int) < most) (hl : L.length + (extW a (L.getD i ([], 0))).length ≤ 1024) : genF a most (f - 1) (i + 1) (L ++ extW a (L.getD i ([], 0))) = R := by
  obtain ⟨g, rfl⟩ : ∃ g, f = g + 1 := ⟨f - 1, by omega⟩
  rw [genF, if_pos h, if_neg (by rw [List.length_append]; omega)] at hR; exact hR
theorem extW_range {a : Au} (h : RightW a) (p : List Int × Int) : ∀ q ∈ extW a p, 0 ≤ q.2 ∧ q.2 < a.st := fun q hq => by
  obtain ⟨x, hx, rfl⟩ := List.mem_map.1 hq
  exact (h.edr x (mem_succ.1 hx).1).2.1
end Go.Proofs.Ytcciiikaejjooaa

/- Layer 3: Empty of the reference. -/
namespace Go.Proofs.Ytcciiikaejjooaa
open Go.RowKit Go.Sort

theorem own_off4 {X base N : Nat} {v v0 v1 v2 v3 : Value} {w3 : World} {e : TypeId} {sz : Nat} {xs : List Value} (h : w3.ownsRow base e sz v N xs) (hr : v.ownBlock ≠ some X) :
    ((((w3.setCell ⟨X, 0, none⟩ v0).setCell ⟨X, 1, none⟩ v1).setCell ⟨X, 2, none⟩ v2).setCell ⟨X, 3, none⟩ v3).ownsRow base e sz v N xs :=
  ownsRow_setCell_other (a := ⟨X, 3, none⟩) (ownsRow_setCell_other (a := ⟨X, 2, none⟩) (ownsRow_setCell_other (a := ⟨X, 1, none⟩) (ownsRow_setCell_other (a := ⟨X, 0, none⟩) h hr v0) hr v1) hr v2) hr v3

set_option maxHeartbeats 2000000 in
set_option maxRecDepth 100000 in
theorem rEmpty_any (A : Option Addr) (n c B : Nat) (zs : List Int) (w : World) (hx : RdI w B A zs) (hB : B ≤ w.heap.size) (hn : zs.length = n) (hb : n ≤ 100000) :
    Calls Try.prog 66 #[.slice A n c] w fun e w' => ∃ A' c', e = .returned (.agg #[.slice A' n c', .int .i64 0, .slice none 0 0, .slice none 0 0]) ∧ Own w' w.heap.size (.slice A' n c') zs ∧ Below w.heap.size w w' ∧ n ≤ c' ∧ c' ≤ 9223372036854775807 := by
  have HN := Lib.hid hn
  have hRes := Lib.hid ((Row.new w [.slice none 0 0, .int .i64 0, .slice none 0 0, .slice none 0 0] 25).alloc (.cells #[] 3))
  have HB2 := Lib.hid (((Below.refl w.heap.size w).alloc (Nat.le_refl _) (.cells #[.slice none 0 0, .int .i64 0, .slice none 0 0, .slice none 0 0] 25)).alloc (by simp) (.cells #[] 3))
  have HX := Lib.hid (hx.below HB2.out hB)
  have HO := Lib.hid (show ((w.alloc (.cells #[.slice none 0 0, .int .i64 0, .slice none 0 0, .slice none 0 0] 25)).alloc (.cells #[] 3)).ownsRow (w.heap.size + 1) 3 1 (.slice (some ⟨w.heap.size + 1, 0, none⟩) 0 0) 0 (([] : List Int).map (Value.int .i64)) by
    have := World.ownsRow_lit (base := w.heap.size + 1) (size := 1) (e := 3) (w.alloc (.cells #[.slice none 0 0, .int .i64 0, .slice none 0 0, .slice none 0 0] 25)) #[] 0 (by simp) (by unfold maxLen; omega) rfl
    simpa using this)
  clear hx hn
  go_enter Try.func66, Try.ntmps66
  go_wp2_with (at_builtin; refine wpList_app_rd rfl (.tmp 3) (.tmp 4) rfl (w.heap.size + 1) _ 0 [] rfl HO.out B A n c zs rfl HX.out HN.out (by unfold maxLen; omega) (by omega) (by simp) ?_)
  intro v1 w1 hown hgrow
  have hown1 : Own w1 (w.heap.size + 1) v1 zs := by unfold Own; rw [HN.out]; simpa using hown
  obtain ⟨A', c', hv, _, hc1, hc2⟩ := own_rdc hown1
  rw [HN.out] at hv hc1
  subst hv
  have hr1 := Lib.hid (hRes.out.grown hgrow (by simp [Value.ownBlock]))
  have hb1 := Lib.hid (HB2.out.grown hgrow (by simp; omega) (fun k hk => by simp [Value.ownBlock] at hk; omega))
  have HO1 := Lib.hid hown1
  have r0 := hr1.out.cell 0 rfl
  have r1 := hr1.out.cell 1 rfl
  have r2 := hr1.out.cell 2 rfl
  have r3 := hr1.out.cell 3 rfl
  have z0 := hr1.out.frozen 0
  have z1 := hr1.out.frozen 1
  have z2 := hr1.out.frozen 2
  have z3 := hr1.out.frozen 3
  clear hown hown1 hgrow
  go_wp2_with fail
  (try simp only [Exit.inBlock, Exit.then])
  refine bodyPost_ret (v := .agg #[.slice A' n c', .int .i64 0, .slice none 0 0, .slice none 0 0]) ?_ rfl ⟨A', c', rfl, ?_, ?_, hc1, hc2⟩
  · rw [results_cell1 rfl]
    go_simp
  · exact own_more (own_off4 (X := w.heap.size) HO1.out (fun e => by have := (HO1.out.lt _ e).1; omega)) (by omega)
  · exact below_set4 hb1.out (Nat.le_refl _) _ _ _ _
end Go.Proofs.Ytcciiikaejjooaa

/- Layer 3: Closed of the program. -/
namespace Go.Proofs.Ytcciiikaejjooaa
open Go.RowKit Go.Sort

/-- The canonical form with all states marked. -/
def clsA (a : Au) : Au := ⟨a.al, ((fnd a).length : Int), rng (fnd a).length, canEn a (fnd a).length⟩
def clsR (a : Au) : Au × Int := if chkE a ≠ 0 then (zeroA, chkE a) else (clsA a, 0)
theorem rng_succ (t : Nat) : rng (t + 1) = rng t ++ [(t : Int)] := by simp [rng, List.range_succ]

set_option maxHeartbeats 4000000 in
set_option maxRecDepth 100000 in
theorem mClosed_any (A : Option Addr) (n c : Nat) (s : Int) (M : Option Addr) (m d : Nat) (E : Option Addr) (k g : Nat) (a : Au) (w : World) (h : AuR w w.heap.size A n c s M m d E k g a) :
    Calls Try.prog 26 #[.agg #[.slice A n c, .int .i64 s, .slice M m d, .slice E k g]] w fun e w' => GivesA w (clsR a) e w' := by
  have hb1 := ((Below.refl w.heap.size w).alloc (Nat.le_refl _) (.cells #[.slice A n c, .int .i64 s, .slice M m d, .slice E k g] 25)).alloc (by simp) (.cells #[.slice none 0 0, .int .i64 0, .slice none 0 0, .slice none 0 0] 25)
  have HB1 := Lib.hid hb1
  have hR1 := h.below hb1 (Nat.le_refl _)
  have HC := Lib.hid (mCheck_any A n c s M m d E k g a _ (hR1.more (by simp; omega)))
  have HA := Lib.hid ((Row.new w [.slice A n c, .int .i64 s, .slice M m d, .slice E k g] 25).alloc (.cells #[.slice none 0 0, .int .i64 0, .slice none 0 0, .slice none 0 0] 25))
  have HRes := Lib.hid (show Row ((w.alloc (.cells #[.slice A n c, .int .i64 s, .slice M m d, .slice E k g] 25)).alloc (.cells #[.slice none 0 0, .int .i64 0, .slice none 0 0, .slice none 0 0] 25)) (w.heap.size + 1) 25 [.slice none 0 0, .int .i64 0, .slice none 0 0, .slice none 0 0] by
    have := Row.new (w.alloc (.cells #[.slice A n c, .int .i64 s, .slice M m d, .slice E k g] 25)) [.slice none 0 0, .int .i64 0, .slice none 0 0, .slice none 0 0] 25
    simpa using this)
  have HR := Lib.hid h
  obtain ⟨i0, hi, hz0, hz1, hz2⟩ := info_parts info_int
  obtain ⟨u, hu⟩ : ∃ u, u = chkE a := ⟨_, rfl⟩
  rw [← hu] at HC
  have HU := Lib.hid hu
  clear h hR1 hu hb1
  by_cases h0 : u = 0
  · have hb0 : (u != 0) = false := by simp [h0]
    have hri := Lib.hid (right_of (a := a) (by rw [← HU.out, h0]))
    have hr := Lib.hid (show clsR a = (clsA a, 0) by rw [clsR, if_neg (by rw [← HU.out, h0]; simp)])
    have hS := Lib.hid (fun W (hW : Below w.heap.size w W) => canon_all A n c s M m d E k g a w.heap.size W (HR.out.below hW (Nat.le_refl _)) hW.size hri.out.toRightW (by have := hri.out.st1; omega))
    rw [hr.out]
    clear h0
    go_enter Try.func26, Try.ntmps26
    go_wp2_with fail
    refine HC.out.mono ?_
    rintro e w1 ⟨rfl, hbw⟩
    have hA1 := Lib.hid (HA.out.below hbw (by simp; omega))
    have hR1 := Lib.hid (HRes.out.below hbw (by simp))
    have hB1 := Lib.hid (HB1.out.trans (hbw.mono (by simp; omega)))
    have hz := hbw.size
    simp only [World.size_alloc] at hz
    clear hbw
    have p0 := hA1.out.cell 0 rfl
    have p1 := hA1.out.cell 1 rfl
    have p2 := hA1.out.cell 2 rfl
    have p3 := hA1.out.cell 3 rfl
    go_wp2_with fail
    refine (hS.out _ hB1.out).mono ?_
    rintro e w2 ⟨v, rfl, ⟨A2, n2, c2, s2, M2, m2, d2, E2, k2, g2, rfl, hau, ha1, ha2, ha3⟩, hbw⟩
    have hR2 := Lib.hid (hR1.out.below hbw (by omega))
    have hB2 := Lib.hid (hB1.out.trans (hbw.mono hB1.out.size))
    have HAU := Lib.hid hau
    have HA1 := Lib.hid ha1
    have HA3 := Lib.hid ha3
    have hs2 : s2 = ((fnd a).length : Int) := by have := hau.st; simp only [canA] at this; exact this.symm
    obtain ⟨S, hSd⟩ : ∃ S, S = (fnd a).length := ⟨_, rfl⟩
    rw [← hSd] at hs2
    subst hs2
    have HSD := Lib.hid hSd
    have hSb : S ≤ 4096 := by have h1 := fnd_len hri.out.toRightW; have h2 := hri.out.st1; have h3 := hri.out.st0; rw [← hSd] at h1; omega
    have hzz2 := hbw.size
    have hbd0 := Lib.hid (show Bd w2 w2.heap.size w2.heap.size true false (.slice A2 n2 c2) (S : Int) (w2.alloc (.cells #[.slice A2 n2 c2, .int .i64 (S : Int), .slice none 0 0, .slice E2 k2 g2] 25)) (rng 0) (.slice none 0 0) [] (.slice E2 k2 g2) from
      ⟨(Below.refl _ _).alloc (Nat.le_refl _) _, Row.new w2 [.slice A2 n2 c2, .int .i64 (S : Int), .slice none 0 0, .slice E2 k2 g2] 25, fun _ => World.ownsRow_nil _ _ _ _, fun h => (by cases h), Nat.le_refl _⟩)
    have hbd1 := Lib.hid (show Bd w2 w2.heap.size w2.heap.size true false (.slice A2 n2 c2) (S : Int) ((w2.alloc (.cells #[.slice A2 n2 c2, .int .i64 (S : Int), .slice M2 m2 d2, .slice E2 k2 g2] 25)).setCell ⟨w2.heap.size, 2, none⟩ (.slice none 0 0)) (rng 0) (.slice none 0 0) [] (.slice E2 k2 g2) from
      ⟨((Below.refl _ _).alloc (Nat.le_refl _) _).setCell (p := ⟨w2.heap.size, 2, none⟩) (Nat.le_refl _) _, (Row.new w2 [.slice A2 n2 c2, .int .i64 (S : Int), .slice M2 m2 d2, .slice E2 k2 g2] 25).set 2 _, fun _ => World.ownsRow_nil _ _ _ _, fun h => (by cases h), Nat.le_refl _⟩)
    clear hbw hau ha1 ha2 ha3 hSd p0 p1 p2 p3
    go_wp2_with fail
    go_loopw [18] (fun i wr => ∃ (t : Nat) (vm : Value), t ≤ S ∧ i = .int .i64 t ∧ Hid (Bd w2 w2.heap.size w2.heap.size true false (.slice A2 n2 c2) (S : Int) wr (rng t) vm [] (.slice E2 k2 g2))) (fun i _ => S - (intOf i).toNat)
    case atStart => exact ⟨0, _, Nat.zero_le _, rfl, by first | exact hbd1 | exact hbd0⟩
    case round =>
      clear hbd0 hbd1
      obtain ⟨t, vm, htS, rfl, hbd⟩ := hrel
      have hsz := hbd.out.h2
      have c2' := hbd.out.cb.cell 2 rfl
      have f2' := hbd.out.cb.frozen 2
      by_cases htl : t < S
      · obtain ⟨K0, hK0⟩ : ∃ K0, K0 = rng t := ⟨_, rfl⟩
        have hKl : K0.length = t := by rw [hK0, rng_len]
        have hy := Lib.hid (show rng (t + 1) = K0 ++ [(t : Int)] by rw [rng_succ, hK0])
        have HKL := Lib.hid hKl
        rw [← hK0] at hbd
        have hmo := Lib.hid (hbd.out.mo rfl)
        clear hK0
        go_wp2_with (at_builtin; refine wpList_append_own _ rfl _ _ 22 rfl w2.heap.size 3 i0 (.int .i64 0) 1 8 Try.underlying22 hi hz0 hz1 hz2 rfl (by decide) _ _ _ rfl (hmo.out.alloc _) ⟨wr.heap.size, 0, none⟩ 1 1 [.int .i64 (t : Int)] rfl rfl (news_one (by simp)) (by intro u hu; simp at hu; subst hu; rfl) (by unfold maxLen; omega) (by omega) (by simp; omega) ?_)
        intro v5 w5 hown5 hgrow5 _
        have hown6 : Own w5 w2.heap.size v5 (K0 ++ [(t : Int)]) := by unfold Own; rw [List.length_append, HKL.out]; simpa using hown5
        obtain ⟨A5, c5, hv5, _, _, _⟩ := own_rdc hown6
        rw [show (K0 ++ [(t : Int)]).length = t + 1 by simp [HKL.out]] at hv5
        subst hv5
        have hcb := Lib.hid ((hbd.out.alloc (.cells #[.int .i64 (t : Int)] 3)).cb.grown hgrow5 (fun e => (hbd.out.alloc (.cells #[.int .i64 (t : Int)] 3)).neM e.symm))
        have hbd6 := Lib.hid (Bd.mark (hbd.out.alloc (.cells #[.int .i64 (t : Int)] 3)) hgrow5 hown6)
        rw [← hy.out] at hbd6
        have c2' := hcb.out.cell 2 rfl
        have f2' := hcb.out.frozen 2
        clear hown5 hown6 hgrow5
        go_wp2_with fail
        go_roundw
        case rel => exact ⟨t + 1, _, by omega, by go_num, hbd6⟩
        case measure => simp [intOf]; omega
      · obtain rfl : t = S := by omega
        obtain ⟨M3, d3, rfl, hM1, hM2, hM3⟩ := own_rdc (hbd.out.mo rfl)
        have hMo := Lib.hid (own_from (hbd.out.mo rfl))
        have hrl := Lib.hid (rng_len t)
        have d0 := hbd.out.cb.cell 0 rfl
        have d1 := hbd.out.cb.cell 1 rfl
        have d2' := hbd.out.cb.cell 2 rfl
        have d3' := hbd.out.cb.cell 3 rfl
        have hRr := Lib.hid (hR2.out.below hbd.out.bel (by omega))
        have r0 := hRr.out.cell 0 rfl
        have r1 := hRr.out.cell 1 rfl
        have r2 := hRr.out.cell 2 rfl
        have r3 := hRr.out.cell 3 rfl
        have s0 := hRr.out.frozen 0
        have s1 := hRr.out.frozen 1
        have s2 := hRr.out.frozen 2
        have s3 := hRr.out.frozen 3
        have hfin := Lib.hid (show AuF (clsA a) (.agg #[.slice A2 n2 c2, .int .i64 (t : Int), .slice M3 (rng t).length d3, .slice E2 k2 g2]) wr w1.heap.size from by
          have hau := HAU.out.below hbd.out.bel (Nat.le_refl _)
          exact ⟨A2, n2, c2, (t : Int), M3, _, d3, E2, k2, g2, rfl,
            { al := hau.al.more hbd.out.bel.size, mr := by show RdI wr _ M3 (rng (fnd a).length); rw [← HSD.out]; exact hM1, ed := hau.ed.more hbd.out.bel.size, hn := hau.hn, hm := by show (rng (fnd a).length).length = _; rw [← HSD.out], hk := hau.hk, st := by show ((fnd a).length : Int) = _; rw [← HSD.out], cn := hau.cn, cm := ⟨hM2, hM3⟩, ck := hau.ck, bn := hau.bn, bm := by rw [hrl.out]; omega, bk := hau.bk },
            HA1.out, fun b o f e => by have := hMo.out b o f e; omega, HA3.out⟩)
        have HM1 := Lib.hid hM1
        clear hM1
        go_wp2_with fail
        (try simp only [Exit.inBlock, Exit.then])
        refine bodyPost_ret (v := .tuple #[.agg #[.slice A2 n2 c2, .int .i64 (t : Int), .slice M3 (rng t).length d3, .slice E2 k2 g2], .int .i64 0]) ?_ rfl ⟨_, rfl, ?_, ?_⟩
        · rw [results_cell_tmp1 rfl]
          go_simp
        · exact (hfin.out.set4 (by omega) _ _ _ _).more (by omega)
        · exact below_set4 (hB2.out.trans (hbd.out.bel.mono hB2.out.size)) (by omega) _ _ _ _
  · have hb0 : (u != 0) = true := by simp [h0]
    have hr := Lib.hid (show clsR a = (zeroA, u) by rw [clsR, if_pos (by rw [← HU.out]; exact h0), HU.out])
    rw [hr.out]
    clear h0
    go_enter Try.func26, Try.ntmps26
    go_wp2_with fail
    refine HC.out.mono ?_
    rintro e w1 ⟨rfl, hbw⟩
    have hR1 := Lib.hid (HRes.out.below hbw (by simp))
    have hB1 := Lib.hid (HB1.out.trans (hbw.mono (by simp; omega)))
    have hz := hbw.size
    simp only [World.size_alloc] at hz
    clear hbw
    have r0 := hR1.out.cell 0 rfl
    have r1 := hR1.out.cell 1 rfl
    have r2 := hR1.out.cell 2 rfl
    have r3 := hR1.out.cell 3 rfl
    have s0 := hR1.out.frozen 0
    have s1 := hR1.out.frozen 1
    have s2 := hR1.out.frozen 2
    have s3 := hR1.out.frozen 3
    go_wp2_with fail
    (try simp only [Exit.inBlock, Exit.then])
    refine bodyPost_ret (v := .tuple #[.agg #[.slice none 0 0, .int .i64 0, .slice none 0 0, .slice none 0 0], .int .i64 u]) ?_ rfl ⟨_, rfl, ?_, ?_⟩
    · rw [results_cell_tmp1 rfl]
      go_simp
    · exact AuF.zero _ _
    · exact below_set4 hB1.out (by omega) _ _ _ _
end Go.Proofs.Ytcciiikaejjooaa

/- Layer 3: Complete of the program. -/
namespace Go.Proofs.Ytcciiikaejjooaa
open Go.RowKit Go.Sort

/-- Where an event leads when the further state is there. -/
def toC (a : Au) (q ev : Int) : Int := (stepO a q ev).getD a.st
def rowC (a : Au) (q : Int) : List Ed := a.al.map fun ev => ⟨q, ev, toC a q ev⟩
def compE (a : Au) (n : Nat) : List Ed := (List.range n).flatMap fun (q : Nat) => rowC a (q : Int)
/-- An automaton with a further state to which all events lead that aren't possible. -/
def compA (a : Au) : Au := ⟨a.al, a.st + 1, a.mr, compE a (a.st.toNat + 1)⟩
def cmpR (a : Au) : Au × Int := if chkE a ≠ 0 then (zeroA, chkE a) else (canA (compA a), 0)
theorem compE_succ (a : Au) (n : Nat) : compE a (n + 1) = compE a n ++ rowC a (n : Int) := by simp [compE, List.range_succ]
theorem rowC_len (a : Au) (q : Int) : (rowC a q).length = a.al.length := by simp [rowC]
theorem compE_len (a : Au) : ∀ n, (compE a n).length = n * a.al.length
  | 0 => by simp [compE]
  | n + 1 => by rw [compE_succ, List.length_append, compE_len a n, rowC_len, Nat.add_mul, Nat.one_mul]
theorem rowC_take {a : Au} {q : Int} {t : Nat} (h : t < a.al.length) : (rowC a q).take (t + 1) = (rowC a q).take t ++ [⟨q, a.al.getD t 0, toC a q (a.al.getD t 0)⟩] := by
  unfold rowC
  rw [← List.map_take, ← List.map_take, take_getD h, List.map_append]; rfl
theorem rowC_all {a : Au} {q : Int} {n : Nat} (h : a.al.length = n) : (rowC a q).take n = rowC a q := List.take_of_length_le (by rw [rowC_len]; omega)
theorem mem_compE {a : Au} {n : Nat} {y : Ed} : y ∈ compE a n ↔ ∃ q : Nat, q < n ∧ ∃ ev ∈ a.al, y = ⟨(q : Int), ev, toC a q ev⟩ := by
  unfold compE rowC
  simp only [List.mem_flatMap, List.mem_range, List.mem_map]
  constructor
  · rintro ⟨i, hi, x, hx, e⟩; exact ⟨i, hi, x, hx, e.symm⟩
  · rintro ⟨i, hi, x, hx, e⟩; exact ⟨i, hi, x, hx, e.symm⟩
theorem toC_range {a : Au} (h : RightW a) (q ev : Int) : 0 ≤ toC a q ev ∧ toC a q ev < a.st + 1 := by
  unfold toC
  cases hs : stepO a q ev with
  | none => have := h.st0; simp; omega
  | some t => have := step_range h hs; simp; omega
theorem compE_sorted {a : Au} (h : RightW a) : ∀ n, (compE a n).Pairwise ltE
  | 0 => by simp [compE]
  | n + 1 => by
    rw [compE_succ, List.pairwise_append]
    refine ⟨compE_sorted h n, ?_, fun x hx y hy => ?_⟩
    · unfold rowC
      rw [List.pairwise_map]
      exact h.alo.imp fun hlt => by unfold ltE; simp; exact hlt
    · obtain ⟨i, hi, z, _, rfl⟩ := mem_compE.1 hx
      unfold rowC at hy
      obtain ⟨z2, _, rfl⟩ := List.mem_map.1 hy
      unfold ltE; simp; omega
theorem comp_right {a : Au} (h : RightW a) : RightW (compA a) where
  alr := h.alr
  alo := h.alo
  st0 := by have := h.st0; simp [compA]; omega
  mrr x hx := by have := h.mrr x hx; simp only [compA]; omega
  mro := h.mro
  edr y hy := by
    obtain ⟨q, hq, ev, hev, rfl⟩ := mem_compE.1 hy
    have := toC_range h q ev
    have := h.st0
    exact ⟨by simp only [compA]; omega, by simp only [compA]; omega, hev⟩
  edo := compE_sorted h _
theorem al_len {a : Au} (h : RightW a) : a.al.length ≤ 32 := nodup_len (lt_nodup h.alo) fun x hx => by have := h.alr x hx; omega
theorem news_three {W : World} {x y z : Value} {T : TypeId} {b : Nat} (hb : W.heap.size = b) : ∀ j u, [x, y, z][j]? = some u → (W.alloc (.cells #[x, y, z] T)).cell? ((⟨b, 0, none⟩ : Addr).add j) = some u := by
  subst hb
  intro j u hj
  rw [show ((⟨W.heap.size, 0, none⟩ : Addr).add j) = ⟨W.heap.size, j, none⟩ by (simp [Addr.add]; try exact fun h => h.symm)]
  exact (Row.new W [x, y, z] T).cell j hj

set_option maxHeartbeats 8000000 in
set_option maxRecDepth 100000 in
theorem mComplete_any (A : Option Addr) (n c : Nat) (s : Int) (M : Option Addr) (m d : Nat) (E : Option Addr) (k g : Nat) (a : Au) (w : World) (h : AuR w w.heap.size A n c s M m d E k g a) (hsm : chkE a = 0 → a.st ≤ 4000) :
    Calls Try.prog 25 #[.agg #[.slice A n c, .int .i64 s, .slice M m d, .slice E k g]] w fun e w' => GivesA w (cmpR a) e w' := by
  have hb1 := ((Below.refl w.heap.size w).alloc (Nat.le_refl _) (.cells #[.slice A n c, .int .i64 s, .slice M m d, .slice E k g] 25)).alloc (by simp) (.cells #[.slice none 0 0, .int .i64 0, .slice none 0 0, .slice none 0 0] 25)
  have HB1 := Lib.hid hb1
  have hR1 := h.below hb1 (Nat.le_refl _)
  have HC := Lib.hid (mCheck_any A n c s M m d E k g a _ (hR1.more (by simp; omega)))
  have HA := Lib.hid ((Row.new w [.slice A n c, .int .i64 s, .slice M m d, .slice E k g] 25).alloc (.cells #[.slice none 0 0, .int .i64 0, .slice none 0 0, .slice none 0 0] 25))
  have HRes := Lib.hid (show Row ((w.alloc (.cells #[.slice A n c, .int .i64 s, .slice M m d, .slice E k g] 25)).alloc (.cells #[.slice none 0 0, .int .i64 0, .slice none 0 0, .slice none 0 0] 25)) (w.heap.size + 1) 25 [.slice none 0 0, .int .i64 0, .slice none 0 0, .slice none 0 0] by
    have := Row.new (w.alloc (.cells #[.slice A n c, .int .i64 s, .slice M m d, .slice E k g] 25)) [.slice none 0 0, .int .i64 0, .slice none 0 0, .slice none 0 0] 25
    simpa using this)
  have HR := Lib.hid h
  obtain ⟨iE, iE0, iE1, iE2, iE3⟩ := info_parts info_edge
  obtain ⟨u, hu⟩ : ∃ u, u = chkE a := ⟨_, rfl⟩
  rw [← hu] at HC hsm
  have HU := Lib.hid hu
  clear h hR1 hu hb1
  by_cases h0 : u = 0
  · have hb0 : (u != 0) = false := by simp [h0]
    have hri := Lib.hid (right_of (a := a) (by rw [← HU.out, h0]))
    have hr := Lib.hid (show cmpR a = (canA (compA a), 0) by rw [cmpR, if_neg (by rw [← HU.out, h0]; simp)])
    have hs0 := hri.out.st0
    have hs1 := hsm h0
    rw [HR.out.st] at hs0 hs1
    obtain ⟨S, rfl⟩ : ∃ S : Nat, s = (S : Int) := ⟨s.toNat, by omega⟩
    have hS1 : S ≤ 4000 := by omega
    have HST := Lib.hid HR.out.st
    have hn32 := al_len hri.out.toRightW
    rw [HR.out.hn] at hn32
    rw [hr.out]
    clear h0 hsm hs0 hs1
    go_enter Try.func25, Try.ntmps25
    go_wp2_with fail
    refine HC.out.mono ?_
    rintro e w1 ⟨rfl, hbw⟩
    have hA1 := Lib.hid (HA.out.below hbw (by simp; omega))
    have hR1 := Lib.hid (HRes.out.below hbw (by simp))
    have hB1 := Lib.hid (HB1.out.trans (hbw.mono (by simp; omega)))
    have hz := hbw.size
    simp only [World.size_alloc] at hz
    have hwS : IntKind.i64.wrap ((S : Int) + 1) = (S : Int) + 1 := IntWalk.i64_in _ (by omega)
    have hbd0 := Lib.hid (show Bd w1 w1.heap.size w1.heap.size false true (.slice A n c) ((S : Int) + 1) (w1.alloc (.cells #[.slice A n c, .int .i64 ((S : Int) + 1), .slice M m d, .slice none 0 0] 25)) a.mr (.slice M m d) (compE a 0) (.slice none 0 0) from
      ⟨(Below.refl _ _).alloc (Nat.le_refl _) _, Row.new w1 [.slice A n c, .int .i64 ((S : Int) + 1), .slice M m d, .slice none 0 0] 25, fun h => (by cases h), fun _ => World.ownsRow_nil _ _ _ _, Nat.le_refl _⟩)
    clear hbw
    have p0 := hA1.out.cell 0 rfl
    have p1 := hA1.out.cell 1 rfl
    have p2 := hA1.out.cell 2 rfl
    have p3 := hA1.out.cell 3 rfl
    go_wp2_with fail
    go_loopw [31] (fun i wr => ∃ (j : Nat) (ve : Value), j ≤ S + 1 ∧ i = .int .i64 j ∧ Hid (Bd w1 w1.heap.size w1.heap.size false true (.slice A n c) ((S : Int) + 1) wr a.mr (.slice M m d) (compE a j) ve)) (fun i _ => S + 1 - (intOf i).toNat)
    case atStart => exact ⟨0, _, Nat.zero_le _, rfl, hbd0⟩
    case round =>
      clear hbd0 p0 p1 p2 p3
      obtain ⟨j, ve, hjS, rfl, hbd⟩ := hrel
      have hAr := Lib.hid (hA1.out.below hbd.out.bel (by omega))
      have p0 := hAr.out.cell 0 rfl
      have p1 := hAr.out.cell 1 rfl
      have p2 := hAr.out.cell 2 rfl
      have p3 := hAr.out.cell 3 rfl
      by_cases hjl : j < S + 1
      · have hj1 : (j : Int) < (S : Int) + 1 := by omega
        have HBD := Lib.hid hbd.out
        clear hbd
        go_wp2_with fail
        go_loopw [37] (fun i wx => ∃ (t : Nat) (ve : Value), t ≤ n ∧ i = .int .i64 t ∧ Hid (Bd w1 w1.heap.size w1.heap.size false true (.slice A n c) ((S : Int) + 1) wx a.mr (.slice M m d) (compE a j ++ (rowC a j).take t) ve)) (fun i _ => n - (intOf i).toNat)
        case atStart => exact ⟨0, _, Nat.zero_le _, rfl, by rw [List.take_zero, List.append_nil]; exact HBD⟩
        case round =>
          clear HBD p0 p1 p2 p3
          obtain ⟨t, ve, htn, rfl, hbd⟩ := hrel
          have hAr := Lib.hid (hA1.out.below hbd.out.bel (by omega))
          have p0 := hAr.out.cell 0 rfl
          have p1 := hAr.out.cell 1 rfl
          have p2 := hAr.out.cell 2 rfl
          have p3 := hAr.out.cell 3 rfl
          have hbn := HR.out.bn
          by_cases htl : t < n
          · obtain ⟨bA, oA, rfl, hbA, hcA⟩ := HR.out.al (by rw [HR.out.hn]; omega)
            have hz' : t < a.al.length := by rw [HR.out.hn]; exact htl
            have hbw2 := Lib.hid (hB1.out.trans (hbd.out.bel.mono hB1.out.size))
            have ca : wr.cell? ⟨bA, oA + t, none⟩ = some (.int .i64 (a.al.getD t 0)) := (hbw2.out.cell (p := ⟨bA, oA + t, none⟩) hbA).trans (hcA t hz')
            obtain ⟨ev, hev⟩ : ∃ ev, ev = a.al.getD t 0 := ⟨_, rfl⟩
            rw [← hev] at ca
            obtain ⟨es, hes⟩ : ∃ es, es = compE a j ++ (rowC a j).take t := ⟨_, rfl⟩
            have hel : es.length ≤ 200000 := by
              rw [hes, List.length_append, compE_len, List.length_take, HR.out.hn]
              have : j * n ≤ 4000 * 32 := Nat.mul_le_mul (by omega) hn32
              omega
            have hes2 : compE a j ++ (rowC a j).take (t + 1) = es ++ [⟨(j : Int), ev, toC a j ev⟩] := by rw [rowC_take hz', ← hev, hes, List.append_assoc]
            have HES := Lib.hid hes2
            rw [← hes] at hbd
            obtain ⟨sv, hsv⟩ : ∃ sv, sv = (stepO a j ev).getD 0 := ⟨_, rfl⟩
            obtain ⟨sb, hsb⟩ : ∃ sb, sb = (stepO a j ev).isSome := ⟨_, rfl⟩
            have HS := Lib.hid (by
              have := step_any (some ⟨bA, oA, none⟩) n c (S : Int) M m d E k g a j ev w.heap.size wr (HR.out.below hbw2.out (Nat.le_refl _)) hbw2.out.size hri.out.edo
              rw [← hsv, ← hsb] at this; exact this)
            obtain ⟨tt, htt⟩ : ∃ tt, tt = toC a j ev := ⟨_, rfl⟩
            rw [← htt] at HES
            have hcase : (sb = true ∧ tt = sv) ∨ (sb = false ∧ tt = (S : Int)) := by
              rw [hsb, hsv, htt, toC]
              cases stepO a j ev with
              | none => right; exact ⟨rfl, HST.out⟩
              | some y => left; exact ⟨rfl, rfl⟩
            clear hes hes2 hsv hsb htt hcA hev
            rcases hcase with ⟨rfl, rfl⟩ | ⟨rfl, rfl⟩
            all_goals
              go_wp2_with fail
              refine HS.out.mono ?_
              rintro e w4 ⟨rfl, hb4⟩
              have hbd4 := Lib.hid (hbd.out.call hb4)
              have e3 := hbd4.out.cb.cell 3 rfl
              have e3' := hbd4.out.cb.frozen 3
              have heo := Lib.hid (hbd4.out.eo rfl)
              have hs4 := hbd4.out.h2
              clear hb4
            · go_wp2_with (at_builtin; refine wpList_append_own _ rfl _ _ 23 rfl w1.heap.size 67 iE (.agg #[.int .i64 0, .int .i64 0, .int .i64 0]) 3 24 Try.underlying23 iE0 iE1 iE2 iE3 rfl (by decide) _ _ _ rfl (heo.out.alloc _) ⟨w4.heap.size, 0, none⟩ 1 1 [.int .i64 (j : Int), .int .i64 ev, .int .i64 tt] rfl rfl (news_three (by simp)) (by intro u hu; simp at hu; rcases hu with rfl | rfl | rfl <;> rfl) (by unfold maxLen; omega) (by omega) (by simp; omega) ?_)
              intro v5 w5 hown5 hgrow5 _
              have hown6 : OwnE w5 w1.heap.size v5 (es ++ [⟨(j : Int), ev, tt⟩]) := by unfold OwnE; rw [encE_app, List.length_append]; exact hown5
              obtain ⟨A5, c5, hv5, _, _, _⟩ := ownE_rd hown6
              rw [show (es ++ [(⟨(j : Int), ev, tt⟩ : Ed)]).length = es.length + 1 by simp] at hv5
              subst hv5
              have hba := hbd4.out.alloc (.cells #[.int .i64 (j : Int), .int .i64 ev, .int .i64 tt] 67)
              have hcb := Lib.hid (hba.cb.grown hgrow5 (fun e => hba.neE e.symm))
              have hbd6 := Lib.hid (Bd.edge hba hgrow5 hown6)
              rw [← HES.out] at hbd6
              have e3 := hcb.out.cell 3 rfl
              have e3' := hcb.out.frozen 3
              clear hown5 hown6 hgrow5 hba
              go_wp2_with fail
              go_roundw
              case rel => exact ⟨t + 1, _, by omega, by go_num, hbd6⟩
              case measure => simp [intOf]; omega
            · go_wp2_with (at_builtin; refine wpList_append_own _ rfl _ _ 23 rfl w1.heap.size 67 iE (.agg #[.int .i64 0, .int .i64 0, .int .i64 0]) 3 24 Try.underlying23 iE0 iE1 iE2 iE3 rfl (by decide) _ _ _ rfl (heo.out.alloc _) ⟨w4.heap.size, 0, none⟩ 1 1 [.int .i64 (j : Int), .int .i64 ev, .int .i64 (S : Int)] rfl rfl (news_three (by simp)) (by intro u hu; simp at hu; rcases hu with rfl | rfl | rfl <;> rfl) (by unfold maxLen; omega) (by omega) (by simp; omega) ?_)
              intro v5 w5 hown5 hgrow5 _
              have hown6 : OwnE w5 w1.heap.size v5 (es ++ [⟨(j : Int), ev, (S : Int)⟩]) := by unfold OwnE; rw [encE_app, List.length_append]; exact hown5
              obtain ⟨A5, c5, hv5, _, _, _⟩ := ownE_rd hown6
              rw [show (es ++ [(⟨(j : Int), ev, (S : Int)⟩ : Ed)]).length = es.length + 1 by simp] at hv5
              subst hv5
              have hba := hbd4.out.alloc (.cells #[.int .i64 (j : Int), .int .i64 ev, .int .i64 (S : Int)] 67)
              have hcb := Lib.hid (hba.cb.grown hgrow5 (fun e => hba.neE e.symm))
              have hbd6 := Lib.hid (Bd.edge hba hgrow5 hown6)
              rw [← HES.out] at hbd6
              have e3 := hcb.out.cell 3 rfl
              have e3' := hcb.out.frozen 3
              clear hown5 hown6 hgrow5 hba
              go_wp2_with fail
              go_roundw
              case rel => exact ⟨t + 1, _, by omega, by go_num, hbd6⟩
              case measure => simp [intOf]; omega
          · obtain rfl : t = n := by omega
            rw [rowC_all HR.out.hn, ← compE_succ] at hbd
            go_wp2_with fail
            go_roundw
            case rel => exact ⟨j + 1, _, by omega, by go_num, hbd⟩
            case measure => simp [intOf]; omega
      · obtain rfl : j = S + 1 := by omega
        obtain ⟨es, hes⟩ : ∃ es, es = compE a (S + 1) := ⟨_, rfl⟩
        have hel : es.length ≤ 200000 := by
          rw [hes, compE_len, HR.out.hn]
          have : (S + 1) * n ≤ 4001 * 32 := Nat.mul_le_mul (by omega) hn32
          omega
        rw [← hes] at hbd
        have hcr := Lib.hid (comp_right hri.out.toRightW)
        have hca := Lib.hid (show compA a = ⟨a.al, (S : Int) + 1, a.mr, es⟩ by rw [compA, HST.out, hes, Int.toNat_natCast])
        have hbw2 := Lib.hid (hB1.out.trans (hbd.out.bel.mono hB1.out.size))
        obtain ⟨E2, g2, rfl, hE1, hE2, hE3⟩ := ownE_rd (hbd.out.eo rfl)
        have hau := Lib.hid (show AuR wr wr.heap.size A n c ((S : Int) + 1) M m d E2 es.length g2 (compA a) from by
          rw [hca.out]
          exact { al := (HR.out.al.below hbw2.out (Nat.le_refl _)).more hbw2.out.size, mr := (HR.out.mr.below hbw2.out (Nat.le_refl _)).more hbw2.out.size, ed := hE1, hn := HR.out.hn, hm := HR.out.hm, hk := rfl, st := rfl, cn := HR.out.cn, cm := HR.out.cm, ck := ⟨hE2, hE3⟩, bn := HR.out.bn, bm := HR.out.bm, bk := by omega })
        have hCan := Lib.hid (canon_all A n c ((S : Int) + 1) M m d E2 es.length g2 (compA a) wr.heap.size wr hau.out (Nat.le_refl _) hcr.out (by rw [hca.out]; simp only; omega))
        have q0 := hbd.out.cb.cell 0 rfl
        have q1 := hbd.out.cb.cell 1 rfl
        have q2 := hbd.out.cb.cell 2 rfl
        have q3 := hbd.out.cb.cell 3 rfl
        have hszr := hbd.out.h2
        clear hE1 hes
        go_wp2_with fail
        refine hCan.out.mono ?_
        rintro e w3 ⟨v, rfl, ⟨A3, n3, c3, s3, M3, m3, d3, E3, k3, g3, rfl, hau3, ha1, ha2, ha3⟩, hb3⟩
        have hs3 : s3 ≤ 4096 := by
          have h1 := hau3.st
          have h2 := fnd_len hcr.out
          have h3 : (compA a).st = (S : Int) + 1 := by rw [hca.out]
          simp only [canA] at h1
          rw [h3] at h2
          omega
        have hau4 := Lib.hid (show AuF (canA (compA a)) (.agg #[.slice A3 n3 c3, .int .i64 s3, .slice M3 m3 d3, .slice E3 k3 g3]) w3 wr.heap.size from ⟨A3, n3, c3, s3, M3, m3, d3, E3, k3, g3, rfl, hau3, ha1, ha2, ha3⟩)
        have hB3 := Lib.hid (hbw2.out.trans (hb3.mono hbw2.out.size))
        have hRr := Lib.hid ((hR1.out.below hbd.out.bel (by omega)).below hb3 (by omega))
        have hs4 := hb3.size
        have hau5 := Lib.hid (hau4.out.below ((Below.refl w3.heap.size w3).alloc (Nat.le_refl _) (.cells #[.slice A3 n3 c3, .int .i64 s3, .slice M3 m3 d3, .slice E3 k3 g3] 25)))
        have hB5 := Lib.hid (hB3.out.alloc (by omega) (.cells #[.slice A3 n3 c3, .int .i64 s3, .slice M3 m3 d3, .slice E3 k3 g3] 25))
        have hRs := Lib.hid (hRr.out.alloc (.cells #[.slice A3 n3 c3, .int .i64 s3, .slice M3 m3 d3, .slice E3 k3 g3] 25))
        have r0 := hRs.out.cell 0 rfl
        have r1 := hRs.out.cell 1 rfl
        have r2 := hRs.out.cell 2 rfl
        have r3 := hRs.out.cell 3 rfl
        have z0 := hRs.out.frozen 0
        have z1 := hRs.out.frozen 1
        have z2 := hRs.out.frozen 2
        have z3 := hRs.out.frozen 3
        clear hb3 hau3 ha1 ha2 ha3 q0 q1 q2 q3
        go_wp2_with fail
        (try simp only [Exit.inBlock, Exit.then])
        refine bodyPost_ret (v := .tuple #[.agg #[.slice A3 n3 c3, .int .i64 s3, .slice M3 m3 d3, .slice E3 k3 g3], .int .i64 0]) ?_ rfl ⟨_, rfl, ?_, ?_⟩
        · rw [results_cell_tmp1 rfl]
          go_simp
        · exact (hau5.out.set4 (by omega) _ _ _ _).more (by omega)
        · exact below_set4 hB5.out (by omega) _ _ _ _
  · have hb0 : (u != 0) = true := by simp [h0]
    have hr := Lib.hid (show cmpR a = (zeroA, u) by rw [cmpR, if_pos (by rw [← HU.out]; exact h0), HU.out])
    rw [hr.out]
    clear h0
    go_enter Try.func25, Try.ntmps25
    go_wp2_with fail
    refine HC.out.mono ?_
    rintro e w1 ⟨rfl, hbw⟩
    have hR1 := Lib.hid (HRes.out.below hbw (by simp))
    have hB1 := Lib.hid (HB1.out.trans (hbw.mono (by simp; omega)))
    have hz := hbw.size
    simp only [World.size_alloc] at hz
    clear hbw
    have r0 := hR1.out.cell 0 rfl
    have r1 := hR1.out.cell 1 rfl
    have r2 := hR1.out.cell 2 rfl
    have r3 := hR1.out.cell 3 rfl
    have s0 := hR1.out.frozen 0
    have s1 := hR1.out.frozen 1
    have s2 := hR1.out.frozen 2
    have s3 := hR1.out.frozen 3
    go_wp2_with fail
    (try simp only [Exit.inBlock, Exit.then])
    refine bodyPost_ret (v := .tuple #[.agg #[.slice none 0 0, .int .i64 0, .slice none 0 0, .slice none 0 0], .int .i64 u]) ?_ rfl ⟨_, rfl, ?_, ?_⟩
    · rw [results_cell_tmp1 rfl]
      go_simp
    · exact AuF.zero _ _
    · exact below_set4 hB1.out (by omega) _ _ _ _
end Go.Proofs.Ytcciiikaejjooaa

/- Layer 3: Canonical of the reference. -/
namespace Go.Proofs.Ytcciiikaejjooaa
open Go.RowKit Go.Sort

/-- The marked states among the first ones found. -/
def canMn (a : Au) (j : Nat) : List Int := ((List.range j).filter fun i => decide ((fnd a).getD i 0 ∈ a.mr)).map fun (i : Nat) => (i : Int)
theorem canMn_yes {a : Au} {j : Nat} (h : (fnd a).getD j 0 ∈ a.mr) : canMn a (j + 1) = canMn a j ++ [(j : Int)] := by
  unfold canMn; rw [List.range_succ, List.filter_append]
  rw [List.filter_cons_of_pos (by simpa using h)]; simp
theorem canMn_no {a : Au} {j : Nat} (h : (fnd a).getD j 0 ∉ a.mr) : canMn a (j + 1) = canMn a j := by
  unfold canMn; rw [List.range_succ, List.filter_append]
  rw [List.filter_cons_of_neg (by simpa using h)]; simp
theorem canMn_len (a : Au) (j : Nat) : (canMn a j).length ≤ j := by
  unfold canMn; rw [List.length_map]; exact Nat.le_trans (List.length_filter_le _ _) (by simp)
/-- The edges of a found state by the first events. -/
def outK (a : Au) (j t : Nat) : List Ed := (succK a ((fnd a).getD j 0) t).map fun x => ⟨(j : Int), x.e, ((fnd a).idxOf x.t : Int)⟩
theorem outK_zero (a : Au) (j : Nat) : outK a j 0 = [] := by simp [outK, succK_zero]
theorem outK_some {a : Au} {j t : Nat} {x : Ed} (hk : t < a.al.length) (h : edgeO a.ed ((fnd a).getD j 0) (a.al.getD t 0) = some x) : outK a j (t + 1) = outK a j t ++ [⟨(j : Int), x.e, ((fnd a).idxOf x.t : Int)⟩] := by
  unfold outK; rw [succK_some hk h, List.map_append]; rfl
theorem outK_none {a : Au} {j t : Nat} (hk : t < a.al.length) (h : edgeO a.ed ((fnd a).getD j 0) (a.al.getD t 0) = none) : outK a j (t + 1) = outK a j t := by
  unfold outK; rw [succK_none hk h]
theorem outK_all {a : Au} (h : RightW a) {j n : Nat} (hn : a.al.length = n) : canEn a j ++ outK a j n = canEn a (j + 1) := by
  rw [canEn_succ]; unfold outK outE; rw [succK_all h hn]
theorem outK_len {a : Au} (h : RightW a) {j t : Nat} (hj : j < (fnd a).length) : (canEn a j ++ outK a j t).length ≤ a.ed.length := by
  have h1 := canEn_len a (show j + 1 ≤ (fnd a).length by omega)
  rw [canEn_succ, List.length_append] at h1
  have h2 := (succK_pre h ((fnd a).getD j 0) t).length_le
  rw [List.length_append]
  unfold outK outE at *
  rw [List.length_map] at h1 ⊢
  omega
theorem idxI_in {l : List Int} {x : Int} (h : x ∈ l) : idxI l x = (l.idxOf x : Int) := by rw [idxI, if_pos h]

set_option maxHeartbeats 16000000 in
set_option maxRecDepth 100000 in
theorem rCanonical_any (A : Option Addr) (n c : Nat) (s : Int) (M : Option Addr) (m d : Nat) (E : Option Addr) (k g : Nat) (a : Au) (B : Nat) (w : World) (h : AuR w B A n c s M m d E k g a) (hB : B ≤ w.heap.size) (hr : RightW a) (hS : s ≤ 5000) :
    Calls Try.prog 29 #[.agg #[.slice A n c, .int .i64 s, .slice M m d, .slice E k g]] w fun e w' => ∃ v, e = .returned v ∧ AuF (canA a) v w' w.heap.size ∧ Below w.heap.size w w' := by
  have hb1 := ((Below.refl w.heap.size w).alloc (Nat.le_refl _) (.cells #[.slice A n c, .int .i64 s, .slice M m d, .slice E k g] 25)).alloc (by simp) (.cells #[.slice none 0 0, .int .i64 0, .slice none 0 0, .slice none 0 0] 25)
  have HB1 := Lib.hid hb1
  have HBw := Lib.hid hB
  have HFn := Lib.hid (rFound_any A n c s M m d E k g a B _ (h.below hb1 hB) (Nat.le_trans hB hb1.size) hr hS)
  have HA := Lib.hid ((Row.new w [.slice A n c, .int .i64 s, .slice M m d, .slice E k g] 25).alloc (.cells #[.slice none 0 0, .int .i64 0, .slice none 0 0, .slice none 0 0] 25))
  have HRes := Lib.hid (show Row ((w.alloc (.cells #[.slice A n c, .int .i64 s, .slice M m d, .slice E k g] 25)).alloc (.cells #[.slice none 0 0, .int .i64 0, .slice none 0 0, .slice none 0 0] 25)) (w.heap.size + 1) 25 [.slice none 0 0, .int .i64 0, .slice none 0 0, .slice none 0 0] by
    have := Row.new (w.alloc (.cells #[.slice A n c, .int .i64 s, .slice M m d, .slice E k g] 25)) [.slice none 0 0, .int .i64 0, .slice none 0 0, .slice none 0 0] 25
    simpa using this)
  have HR := Lib.hid h
  have HRI := Lib.hid hr
  have HST := Lib.hid h.st
  have hbn := h.bn
  have hbk := h.bk
  have hnc := h.cn.1
  obtain ⟨iI, iI0, iI1, iI2, iI3⟩ := info_parts info_int
  obtain ⟨iE, iE0, iE1, iE2, iE3⟩ := info_parts info_edge
  obtain ⟨fl, hfl⟩ : ∃ fl, fl = fnd a := ⟨_, rfl⟩
  obtain ⟨L, hL⟩ : ∃ L, L = fl.length := ⟨_, rfl⟩
  have HFL := Lib.hid hfl
  have HLn := Lib.hid hL
  have hL5 : L ≤ 5000 := by have h1 := fnd_len hr; have h2 := hr.st0; rw [h.st] at h1 h2; rw [hL, hfl]; omega
  rw [← hfl] at HFn
  clear h hr hb1 hfl hL hB
  go_enter Try.func29, Try.ntmps29
  go_wp2_with fail
  refine HFn.out.mono ?_
  rintro e w1 ⟨Af, cF, rfl, hrf, hbw, hcf, _⟩
  rw [← HLn.out] at hcf ⊢
  have hA1 := Lib.hid (HA.out.below hbw (by simp; omega))
  have hR1 := Lib.hid (HRes.out.below hbw (by simp))
  have hB1 := Lib.hid (HB1.out.trans (hbw.mono (by simp; omega)))
  have HRF := Lib.hid hrf
  have HE := Lib.hid (rEmpty_any A n c B a.al w1 (HR.out.al.below hB1.out HBw.out) (Nat.le_trans HBw.out hB1.out.size) HR.out.hn hbn)
  have hz := hbw.size
  simp only [World.size_alloc] at hz
  clear hbw hrf
  have p0 := hA1.out.cell 0 rfl
  go_wp2_with fail
  refine HE.out.mono ?_
  rintro e w2 ⟨Ac, cc, rfl, hoc, hbw, hc1, hc2⟩
  have hA2 := Lib.hid (hA1.out.below hbw (by omega))
  have hR2 := Lib.hid (hR1.out.below hbw (by omega))
  have hB2 := Lib.hid (hB1.out.trans (hbw.mono hB1.out.size))
  have HRF2 := Lib.hid ((HRF.out.below hbw (Nat.le_refl _)).more hbw.size)
  have HCL := Lib.hid (show RdI w2 w2.heap.size Ac a.al by
    obtain ⟨A', c', e, hrd, _, _⟩ := own_rdc hoc
    injection e with e1 e2 e3
    subst e1; exact hrd)
  have HAC := Lib.hid (own_from hoc)
  have hz2 := hbw.size
  have hbd0 := Lib.hid (show Bd w2 w2.heap.size w2.heap.size true true (.slice Ac n cc) (L : Int) (w2.alloc (.cells #[.slice Ac n cc, .int .i64 (L : Int), .slice none 0 0, .slice none 0 0] 25)) (canMn a 0) (.slice none 0 0) (canEn a 0) (.slice none 0 0) from
      ⟨(Below.refl _ _).alloc (Nat.le_refl _) _, Row.new w2 [.slice Ac n cc, .int .i64 (L : Int), .slice none 0 0, .slice none 0 0] 25, fun _ => World.ownsRow_nil _ _ _ _, fun _ => World.ownsRow_nil _ _ _ _, Nat.le_refl _⟩)
  clear hbw hoc p0
  go_wp2_with fail
  go_loopw [5] (fun i wr => ∃ (j : Nat) (vm ve : Value), j ≤ L ∧ i = .int .i64 j ∧ Hid (Bd w2 w2.heap.size w2.heap.size true true (.slice Ac n cc) (L : Int) wr (canMn a j) vm (canEn a j) ve)) (fun i _ => L - (intOf i).toNat)
  case atStart => exact ⟨0, _, _, Nat.zero_le _, rfl, hbd0⟩
  case round =>
    clear hbd0
    obtain ⟨j, vm, ve, hjL, rfl, hbd⟩ := hrel
    by_cases hjl : j < L
    · obtain ⟨q, hq⟩ : ∃ q, q = fl.getD j 0 := ⟨_, rfl⟩
      have HQ := Lib.hid hq
      obtain ⟨bF, oF, rfl, hbF, hcF⟩ := HRF2.out (by rw [← HLn.out]; omega)
      have cF0 : w2.cell? ⟨bF, oF + j, none⟩ = some (.int .i64 q) := by rw [hq]; exact hcF j (by rw [← HLn.out]; exact hjl)
      have CF := Lib.hid (fun W (hW : Below w2.heap.size w2 W) => (hW.cell (p := ⟨bF, oF + j, none⟩) hbF).trans cF0)
      have CB := Lib.hid (fun W (hW : Below w2.heap.size w2 W) => box_row A n c s M m d E k g (hA2.out.below hW (by omega)))
      have hjz : (0 : Int) ≤ (j : Int) := by omega
      have hjL2 : (j : Int) < (L : Int) := by omega
      obtain ⟨r, hr⟩ : ∃ r, r = decide (q ∈ a.mr) := ⟨_, rfl⟩
      have HM := Lib.hid (fun W (hG : Bd w2 w2.heap.size w2.heap.size true true (.slice Ac n cc) (L : Int) W (canMn a j) vm (canEn a j) ve) => (rHas_any M m d B a.mr q W (HR.out.mr.below (hB2.out.trans (hG.bel.mono hB2.out.size)) HBw.out) HR.out.hm (by have := HR.out.bm; omega)).mono (R' := fun e w' => e = .returned (.bool r) ∧ Bd w2 w2.heap.size w2.heap.size true true (.slice Ac n cc) (L : Int) w' (canMn a j) vm (canEn a j) ve) fun e w' hh => ⟨by rw [hh.1, hr], hh.2 ▸ hG⟩)
      have HRr := Lib.hid hr
      have hbdd := Lib.hid hbd.out.drew
      obtain ⟨p0, p1, p2, p3⟩ := CB.out wr hbd.out.bel
      have cf := CF.out wr hbd.out.bel
      have hml := canMn_len a j
      clear hq hcF cF0 hr
      go_wp2_with fail
      go_region_held3 (fun w' => w'.cell? ⟨w.heap.size, 2, none⟩ = some (.slice M m d) ∧ w'.cell? ⟨bF, oF + j, none⟩ = some (.int .i64 q)) (first | with_reducible exact ⟨p2, cf⟩ | go_keep)
        (first
        | (go_simp; go_at_call 48; (first | with_reducible refine (HM.out _ hbd.out).mono ?_ | with_reducible refine (HM.out _ hbdd.out).mono ?_); rintro e w4 ⟨rfl, hG⟩
           have HG := Lib.hid hG
           have HGd := Lib.hid hG.drew
           have p2 := (CB.out _ hG.bel).c2
           have cf := CF.out _ hG.bel
           clear hG))
      all_goals
        go_upto_if 28 with fail
        go_cut [5] from 16 to 69 (fun i wx => i = .int .i64 (j : Int) ∧ ∃ vm, Hid (Bd w2 w2.heap.size w2.heap.size true true (.slice Ac n cc) (L : Int) wx (canMn a (j + 1)) vm (canEn a j) ve))
        case first =>
          cases r
          · have hno := Lib.hid (show canMn a (j + 1) = canMn a j from canMn_no (by have := HRr.out; rw [HQ.out, HFL.out] at this; simpa using this.symm))
            go_wp2_with fail
            go_meet
            case rel => exact ⟨rfl, vm, by rw [hno.out]; first | exact HG | exact HGd⟩
          · obtain ⟨K0, hK0⟩ : ∃ K0, K0 = canMn a j := ⟨_, rfl⟩
            obtain ⟨l0, hl0⟩ : ∃ l0, l0 = K0.length := ⟨_, rfl⟩
            have hyes := Lib.hid (show canMn a (j + 1) = K0 ++ [(j : Int)] by rw [hK0]; exact canMn_yes (by have := HRr.out; rw [HQ.out, HFL.out] at this; simpa using this.symm))
            have HL0 := Lib.hid hl0
            rw [← hK0] at HG hml
            rw [← hl0] at hml
            have hmo := Lib.hid (HG.out.mo rfl)
            have c2' := HG.out.cb.cell 2 rfl
            have f2' := HG.out.cb.frozen 2
            have hs4 := HG.out.h2
            have hmo2 := Lib.hid (show w4.ownsRow w2.heap.size 3 1 vm l0 (K0.map (Value.int .i64)) by rw [HL0.out]; exact hmo.out)
            clear hK0 hl0
            go_wp2_with (at_builtin; refine wpList_append_own _ rfl _ _ 22 rfl w2.heap.size 3 iI (.int .i64 0) 1 8 Try.underlying22 iI0 iI1 iI2 iI3 rfl (by decide) _ _ _ rfl (hmo2.out.alloc _) ⟨w4.heap.size, 0, none⟩ 1 1 [.int .i64 (j : Int)] rfl rfl (news_one (by simp)) (by intro u hu; simp at hu; subst hu; rfl) (by unfold maxLen; omega) (by omega) (by simp; omega) ?_)
            intro v5 w5 hown5 hgrow5 _
            have hown6 : Own w5 w2.heap.size v5 (K0 ++ [(j : Int)]) := by unfold Own; rw [List.length_append, ← HL0.out]; simpa using hown5
            obtain ⟨A5, c5, hv5, _, _, _⟩ := own_rdc hown6
            rw [show (K0 ++ [(j : Int)]).length = l0 + 1 by simp [HL0.out]] at hv5
            subst hv5
            have hba := HG.out.alloc (.cells #[.int .i64 (j : Int)] 3)
            have hcb := Lib.hid (hba.cb.grown hgrow5 (fun e => hba.neM e.symm))
            have hbd6 := Lib.hid (Bd.mark hba hgrow5 hown6)
            rw [← hyes.out] at hbd6
            have c2' := hcb.out.cell 2 rfl
            have f2' := hcb.out.frozen 2
            clear hown5 hown6 hgrow5 hba
            go_wp2_with fail
            go_meet
            case rel => exact ⟨rfl, _, hbd6⟩
        case rest =>
          clear hbd hbdd p0 p1 p2 p3 cf hml HM
          obtain ⟨rfl, vm, hbd⟩ := hcut
          go_wp2_with fail
          go_loopw [6] (fun i wx => ∃ (t : Nat) (ve : Value), t ≤ n ∧ i = .int .i64 t ∧ Hid (Bd w2 w2.heap.size w2.heap.size true true (.slice Ac n cc) (L : Int) wx (canMn a (j + 1)) vm (canEn a j ++ outK a j t) ve)) (fun i _ => n - (intOf i).toNat)
          case atStart => exact ⟨0, ve, Nat.zero_le _, rfl, by rw [outK_zero, List.append_nil]; exact hbd⟩
          case round =>
            clear hbd
            obtain ⟨t, ve, htn, rfl, hbd⟩ := hrel
            obtain ⟨p0, p1, p2, p3⟩ := CB.out wr hbd.out.bel
            have cf := CF.out wr hbd.out.bel
            by_cases htl : t < n
            · obtain ⟨bA, oA, rfl, hbA, hcA⟩ := HR.out.al (by rw [HR.out.hn]; omega)
              have hz' : t < a.al.length := by rw [HR.out.hn]; exact htl
              obtain ⟨ev, hev⟩ : ∃ ev, ev = a.al.getD t 0 := ⟨_, rfl⟩
              have CA := Lib.hid (fun W (hW : Below w2.heap.size w2 W) => by
                have := ((hB2.out.trans (hW.mono hB2.out.size)).cell (p := ⟨bA, oA + t, none⟩) (Nat.lt_of_lt_of_le hbA HBw.out)).trans (hcA t hz')
                rw [← hev] at this; exact this)
              have ca := CA.out wr hbd.out.bel
              obtain ⟨es, hes⟩ : ∃ es, es = canEn a j ++ outK a j t := ⟨_, rfl⟩
              have hel : es.length ≤ k := by rw [hes, ← HR.out.hk]; exact outK_len HRI.out (by rw [← HFL.out, ← HLn.out]; exact hjl)
              rw [← hes] at hbd
              have HES := Lib.hid hes
              have HEV := Lib.hid hev
              obtain ⟨tt, htt⟩ : ∃ tt, tt = stepI a q ev := ⟨_, rfl⟩
              have HTT := Lib.hid htt
              have HS := Lib.hid (fun W (hG : Bd w2 w2.heap.size w2.heap.size true true (.slice Ac n cc) (L : Int) W (canMn a (j + 1)) vm es ve) => (rStep_any (some ⟨bA, oA, none⟩) n c s M m d E k g a q ev B W (HR.out.below (hB2.out.trans (hG.bel.mono hB2.out.size)) HBw.out) (Nat.le_trans HBw.out (hB2.out.trans (hG.bel.mono hB2.out.size)).size)).mono (R' := fun e w' => e = .returned (.int .i64 tt) ∧ Bd w2 w2.heap.size w2.heap.size true true (.slice Ac n cc) (L : Int) w' (canMn a (j + 1)) vm es ve) fun e w' hh => ⟨by rw [hh.1, htt], hG.call hh.2⟩)
              have hbdd := Lib.hid hbd.out.drew
              have htz : (0 : Int) ≤ (t : Int) := by omega
              have htn2 : (t : Int) < (n : Int) := by omega
              have hqf : q = (fnd a).getD j 0 := by rw [HQ.out, HFL.out]
              have HQF := Lib.hid hqf
              clear hes hev htt hcA hqf
              go_wp2_with fail
              go_region_held3 (fun w' => w'.cell? ⟨w.heap.size, 0, none⟩ = some (.slice (some ⟨bA, oA, none⟩) n c) ∧ w'.cell? ⟨w.heap.size, 1, none⟩ = some (.int .i64 s) ∧ w'.cell? ⟨w.heap.size, 2, none⟩ = some (.slice M m d) ∧ w'.cell? ⟨w.heap.size, 3, none⟩ = some (.slice E k g) ∧ w'.cell? ⟨bF, oF + j, none⟩ = some (.int .i64 q) ∧ w'.cell? ⟨bA, oA + t, none⟩ = some (.int .i64 ev)) (first | with_reducible exact ⟨p0, p1, p2, p3, cf, ca⟩ | go_keep)
                (first
                | (go_simp; go_at_call 37; (first | with_reducible refine (HS.out _ hbd.out).mono ?_ | with_reducible refine (HS.out _ hbdd.out).mono ?_); rintro e w4 ⟨rfl, hG⟩
                   have HG := Lib.hid hG
                   have HGd := Lib.hid hG.drew
                   obtain ⟨p0, p1, p2, p3⟩ := CB.out _ hG.bel
                   have cf := CF.out _ hG.bel
                   have ca := CA.out _ hG.bel
                   clear hG))
              all_goals
                cases he : edgeO a.ed q ev with
                | none =>
                  have hto := stepI_no he
                  rw [← HTT.out] at hto
                  subst hto
                  have hnx := Lib.hid (show canEn a j ++ outK a j (t + 1) = es by rw [outK_none hz' (by rw [← HEV.out, ← HQF.out]; exact he), HES.out])
                  clear he
                  go_wp2_with fail
                  go_roundw
                  case rel => exact ⟨t + 1, _, by omega, by go_num, by rw [hnx.out]; first | exact HG | exact HGd⟩
                  case measure => simp [intOf]; omega
                | some x =>
                  have hto := stepI_of he
                  rw [← HTT.out] at hto
                  obtain ⟨hxm, hxf, hxe⟩ := (edgeO_some HRI.out.edo).1 he
                  have hxr := (HRI.out.edr x hxm).2.1
                  rw [← hto] at hxr
                  have hin : tt ∈ fl := by
                    rw [hto, HFL.out]
                    refine fnd_closed HRI.out (i := j) (by rw [← HFL.out, ← HLn.out]; exact hjl) (mem_succ.2 ⟨hxm, ?_⟩)
                    rw [hxf, HQF.out]
                  obtain ⟨ix, hix⟩ : ∃ ix, ix = fl.idxOf tt := ⟨_, rfl⟩
                  have hnx := Lib.hid (show canEn a j ++ outK a j (t + 1) = es ++ [⟨(j : Int), ev, (ix : Int)⟩] by rw [outK_some hz' (by rw [← HEV.out, ← HQF.out]; exact he), hxe, ← hto, ← HFL.out, ← hix, HES.out, List.append_assoc])
                  have hto0 : 0 ≤ tt := hxr.1
                  have HI := Lib.hid (fun W (hW : RdI W w2.heap.size (some ⟨bF, oF, none⟩) fl) => by
                    have := rIndex_any (some ⟨bF, oF, none⟩) L cF w2.heap.size fl tt W hW HLn.out.symm (by omega)
                    rw [idxI_in hin, ← hix] at this; exact this)
                  have HRF4 := Lib.hid (HRF2.out.below HG.out.bel (Nat.le_refl _))
                  have HRF4d := Lib.hid (show RdI w4.drew w2.heap.size (some ⟨bF, oF, none⟩) fl from RdI.keep HRF4.out fun b o _ => rfl)
                  have u0 := HG.out.cb.cell 3 rfl
                  have u3 := HG.out.cb.frozen 3
                  have hbl : w2.heap.size < w4.heap.size := HG.out.h2
                  have v0 := fun cs : Array Value => (World.cell?_alloc_lt w4 (.cells cs 67) ⟨w2.heap.size, 3, none⟩ hbl).trans u0
                  have v1 := fun cs : Array Value => (frozen?_alloc_cells w4 cs 67 ⟨w2.heap.size, 3, none⟩).trans u3
                  have hneV := HG.out.neE
                  have heo := Lib.hid (HG.out.eo rfl)
                  clear he hto hxm hxf hxe hxr hin hix
                  go_wp2_with fail
                  go_region_law (first
                    | (go_simp; go_at_call 67; (first | refine (HI.out w4.drew HRF4d.out).mono ?_ | refine (HI.out w4 HRF4.out).mono ?_); rintro e w7 ⟨rfl, rfl⟩)
                    | (refine step_append_lies _ (by rfl) (.tmp 56) (.tmp 67) _ (by rfl) w2.heap.size 67 iE (.agg #[.int .i64 0, .int .i64 0, .int .i64 0]) 3 24 Try.underlying23 iE0 iE1 iE2 iE3 rfl (by omega) ve es.length (encE es) (by rfl) (by first | exact (heo.out.alloc _).drew | exact (heo.out.alloc _)) ⟨w4.heap.size, 0, none⟩ 1 1 [.int .i64 (j : Int), .int .i64 ev, .int .i64 (ix : Int)] (by rfl) (by rfl) (World.news_of_block (cs := #[.int .i64 (j : Int), .int .i64 ev, .int .i64 (ix : Int)]) (t := 67) (fr := (0, 0)) (heap_alloc_new w4 _)) (by simp [Value.oneCell']) (by omega) (by unfold maxLen; omega) (by omega) (by simp; omega) (w4.heap.size + 1) (by simp) ?_; intro gG capG w6 hown6 hgrow6 hat6 hlt6; have hc6 := (hgrow6.cell_far ⟨w2.heap.size, 3, none⟩ (by simp; omega) hneV).trans (v0 _); have hf6 := (hgrow6.frozen_far ⟨w2.heap.size, 3, none⟩ (by simp; omega) hneV).trans (v1 _)))
                  all_goals
                    have hown7 : OwnE w6 w2.heap.size (.slice (some ⟨gG, 0, none⟩) (es.length + 1) capG) (es ++ [⟨(j : Int), ev, (ix : Int)⟩]) := by
                      unfold OwnE; rw [encE_app, List.length_append]; exact hown6
                    have hbd7 := Lib.hid (show Bd w2 w2.heap.size w2.heap.size true true (.slice Ac n cc) (L : Int) (w6.setCell ⟨w2.heap.size, 3, none⟩ (.slice (some ⟨gG, 0, none⟩) (es.length + 1) capG)) (canMn a (j + 1)) vm (es ++ [⟨(j : Int), ev, (ix : Int)⟩]) (.slice (some ⟨gG, 0, none⟩) (es.length + 1) capG) from by
                      first
                      | exact Bd.edge (HG.out.alloc _) hgrow6 hown7
                      | exact Bd.edge ((HG.out.alloc _).drew) hgrow6 hown7
                      | exact Bd.edge (HG.out.drew.alloc _) hgrow6 hown7)
                    rw [← hnx.out] at hbd7
                    clear hown7 hown6 hgrow6 hat6 hc6 hf6 hlt6
                    go_wp2_with fail
                    go_roundw
                    case measure => simp [intOf]; omega
                    case rel => exact ⟨t + 1, _, by omega, by go_num, by first | exact hbd7 | exact Lib.hid hbd7.out.drew⟩
            · obtain rfl : t = n := by omega
              rw [outK_all HRI.out HR.out.hn] at hbd
              go_wp2_with fail
              go_roundw
              case rel => exact ⟨j + 1, _, _, by omega, by go_num, hbd⟩
              case measure => simp [intOf]; omega
    · obtain rfl : j = L := by omega
      obtain ⟨M3, d3, rfl, hM1, hM2, hM3⟩ := own_rdc (hbd.out.mo rfl)
      obtain ⟨E3, g3, rfl, hE1, hE2, hE3⟩ := ownE_rd (hbd.out.eo rfl)
      have hMo := Lib.hid (own_from (hbd.out.mo rfl))
      have hEo := Lib.hid (own_from (hbd.out.eo rfl))
      have hRr := Lib.hid (hR2.out.below hbd.out.bel (by omega))
      have hjl2 := Lib.hid (show (fnd a).length = j by rw [HLn.out, HFL.out])
      have hml := canMn_len a j
      have hel := canEn_len a (n := j) (by rw [hjl2.out]; exact Nat.le_refl _)
      rw [HR.out.hk] at hel
      have hfin := Lib.hid (show AuF (canA a) (.agg #[.slice Ac n cc, .int .i64 (j : Int), .slice M3 (canMn a j).length d3, .slice E3 (canEn a j).length g3]) wr w1.heap.size from by
        have hca : canA a = ⟨a.al, (j : Int), canMn a j, canEn a j⟩ := by unfold canA canM; rw [hjl2.out]; rfl
        rw [hca]
        exact ⟨Ac, n, cc, (j : Int), M3, _, d3, E3, _, g3, rfl,
          { al := (HCL.out.below hbd.out.bel (Nat.le_refl _)).more hbd.out.bel.size, mr := hM1, ed := hE1, hn := HR.out.hn, hm := rfl, hk := rfl, st := rfl, cn := ⟨hc1, hc2⟩, cm := ⟨hM2, hM3⟩, ck := ⟨hE2, hE3⟩, bn := HR.out.bn, bm := by omega, bk := by omega },
          HAC.out, fun b o f e => by have := hMo.out b o f e; omega, fun b o f e => by have := hEo.out b o f e; omega⟩)
      have d0 := hbd.out.cb.cell 0 rfl
      have d1 := hbd.out.cb.cell 1 rfl
      have d2' := hbd.out.cb.cell 2 rfl
      have d3' := hbd.out.cb.cell 3 rfl
      have r0 := hRr.out.cell 0 rfl
      have r1 := hRr.out.cell 1 rfl
      have r2 := hRr.out.cell 2 rfl
      have r3 := hRr.out.cell 3 rfl
      have z0 := hRr.out.frozen 0
      have z1 := hRr.out.frozen 1
      have z2 := hRr.out.frozen 2
      have z3 := hRr.out.frozen 3
      clear hM1 hE1
      go_wp2_with fail
      (try simp only [Exit.inBlock, Exit.then])
      refine bodyPost_ret (v := .agg #[.slice Ac n cc, .int .i64 (j : Int), .slice M3 (canMn a j).length d3, .slice E3 (canEn a j).length g3]) ?_ rfl ⟨_, rfl, ?_, ?_⟩
      · rw [results_cell1 rfl]
        go_simp
      · exact (hfin.out.set4 (by omega) _ _ _ _).more (by omega)
      · exact below_set4 (hB2.out.trans (hbd.out.bel.mono hB2.out.size)) (by omega) _ _ _ _
end Go.Proofs.Ytcciiikaejjooaa
