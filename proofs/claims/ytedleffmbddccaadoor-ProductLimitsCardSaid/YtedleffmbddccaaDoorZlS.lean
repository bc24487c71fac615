/- Layer 6: circles: all tuples are found. -/
import Derived.Test.YtedleffmbddccaaDoorZlQ
set_option linter.unusedVariables false
set_option linter.unusedSimpArgs false
set_option linter.unusedSectionVars false
namespace Go.Proofs.YtedleffmbddccaaDoor
open Go.RowKit Go.Sort

def cirE (m k : Int) (n : Nat) : List Ed := (List.range n).map fun s : Nat => ⟨(s : Int), m, ((s : Int) + 1) % k⟩
/-- A circle of k states with one event. -/
def cir (m k : Int) : Au := ⟨[m], k, [0], cirE m k k.toNat⟩
def cirs : Int → List Int → List Au
  | _, [] => []
  | m, k :: ks => cir m k :: cirs (m + 1) ks
theorem cirE_succ (m k : Int) (n : Nat) : cirE m k (n + 1) = cirE m k n ++ [⟨(n : Int), m, ((n : Int) + 1) % k⟩] := by simp [cirE, List.range_succ]
theorem cirs_app : ∀ (ks : List Int) (m k : Int), cirs m (ks ++ [k]) = cirs m ks ++ [cir (m + ks.length) k]
  | [], m, k => by simp [cirs]
  | x :: ks, m, k => by
    rw [List.cons_append, cirs, cirs, cirs_app ks (m + 1) k]
    simp [Int.add_assoc, Int.add_comm 1]
theorem cirs_len : ∀ (ks : List Int) (m : Int), (cirs m ks).length = ks.length
  | [], _ => rfl
  | k :: ks, m => by rw [cirs, List.length_cons, List.length_cons, cirs_len ks]
theorem cirs_sts : ∀ (ks : List Int) (m : Int), stsT (cirs m ks) = ks
  | [], _ => rfl
  | k :: ks, m => by
    have := cirs_sts ks (m + 1)
    show (cir m k).st :: stsT (cirs (m + 1) ks) = _
    rw [this]; rfl
theorem cirs_mem : ∀ {ks : List Int} {m : Int} {a : Au}, a ∈ cirs m ks → ∃ i k, m ≤ i ∧ i < m + (ks.length : Int) ∧ k ∈ ks ∧ a = cir i k
  | [], _, _, h => by simp [cirs] at h
  | k :: ks, m, a, h => by
    rcases List.mem_cons.1 h with h | h
    · exact ⟨m, k, Int.le_refl _, by simp; omega, by simp, h⟩
    · obtain ⟨i, k', h1, h2, h3, h4⟩ := cirs_mem h
      exact ⟨i, k', by omega, by simp; omega, List.mem_cons_of_mem _ h3, h4⟩
theorem cirs_ev : ∀ {ks : List Int} {m i : Int}, m ≤ i → i < m + (ks.length : Int) → ∃ a ∈ cirs m ks, i ∈ a.al
  | [], m, i, h1, h2 => by simp at h2; omega
  | k :: ks, m, i, h1, h2 => by
    by_cases h : i = m
    · exact ⟨cir m k, by simp [cirs], by simp [cir, h]⟩
    · obtain ⟨a, ha, he⟩ := cirs_ev (ks := ks) (m := m + 1) (i := i) (by omega) (by simp at h2; omega)
      exact ⟨a, List.mem_cons_of_mem _ ha, he⟩
theorem cir_right {m k : Int} (hm : 0 ≤ m ∧ m < 32) (hk : 1 ≤ k) : RightW (cir m k) where
  alr x hx := by simp [cir] at hx; omega
  alo := by simp [cir]
  st0 := by show 0 ≤ k; omega
  mrr x hx := by simp [cir] at hx; subst hx; exact ⟨Int.le_refl _, by show 0 < k; omega⟩
  mro := by simp [cir]
  edr x hx := by
    obtain ⟨s, hs, rfl⟩ := List.mem_map.1 (show x ∈ (List.range k.toNat).map _ from hx)
    have := List.mem_range.1 hs
    refine ⟨⟨by show 0 ≤ (s : Int); omega, by show (s : Int) < k; omega⟩, ⟨Int.emod_nonneg _ (by omega), Int.emod_lt_of_pos _ (by omega)⟩, by simp [cir]⟩
  edo := by
    show (cirE m k k.toNat).Pairwise ltE
    unfold cirE
    rw [List.pairwise_map]
    exact List.pairwise_lt_range.imp fun h => .inl (Int.ofNat_lt.2 h)
theorem cir_step {m k : Int} (hm : 0 ≤ m ∧ m < 32) (hk : 1 ≤ k) {s : Int} (h : 0 ≤ s ∧ s < k) : stepO (cir m k) s m = some ((s + 1) % k) := by
  have : edgeO (cir m k).ed s m = some ⟨s, m, (s + 1) % k⟩ := (edgeO_some (cir_right hm hk).edo).2 ⟨List.mem_map.2 ⟨s.toNat, List.mem_range.2 (by omega), by
    have : ((s.toNat : Nat) : Int) = s := by omega
    rw [this]⟩, rfl, rfl⟩
  rw [stepO, this]; rfl
theorem cir_rO {m k : Int} (hm : 0 ≤ m ∧ m < 32) (hk : 1 ≤ k) : ∀ (n : Nat) (s : Int), 0 ≤ s → s + n < k → rO (cir m k) s (List.replicate n m) = some (s + n)
  | 0, s, _, _ => by simp [rO]
  | n + 1, s, h0, h1 => by
    rw [List.replicate_succ, rO, cir_step hm hk ⟨h0, by omega⟩]
    have : (s + 1) % k = s + 1 := Int.emod_eq_of_lt (by omega) (by omega)
    rw [this]
    show rO (cir m k) (s + 1) (List.replicate n m) = _
    rw [cir_rO hm hk n (s + 1) (by omega) (by omega)]
    congr 1; omega
/-- The word that leads to a tuple. -/
def wdT : Int → List Int → List Int
  | _, [] => []
  | m, q :: qs => List.replicate q.toNat m ++ wdT (m + 1) qs
theorem wdT_ge : ∀ {qs : List Int} {m x : Int}, x ∈ wdT m qs → m ≤ x ∧ x < m + (qs.length : Int)
  | [], m, x, h => by simp [wdT] at h
  | q :: qs, m, x, h => by
    rcases List.mem_append.1 h with h | h
    · have := List.eq_of_mem_replicate h; simp; omega
    · have := wdT_ge h; simp; omega
theorem rT_skip {l : List Au} {x : Int} : ∀ {qs : List Int}, (∀ a ∈ l, x ∉ a.al) → qs.length = l.length → stpT l qs x = some qs := by
  induction l with
  | nil => intro qs _ hl; match qs, hl with | [], _ => rfl
  | cons a l ih =>
    intro qs h hl
    match qs, hl with
    | q :: qs, hl =>
      rw [stpT, if_neg (h a (List.mem_cons_self ..)), ih (fun b hb => h b (List.mem_cons_of_mem _ hb)) (by simpa using hl)]
theorem rT_skips {l : List Au} {x : Int} {qs r : List Int} (h : ∀ a ∈ l, x ∉ a.al) (hl : qs.length = l.length) : ∀ n : Nat, rT l qs (List.replicate n x ++ r) = rT l qs r
  | 0 => rfl
  | n + 1 => by
    rw [List.replicate_succ, List.cons_append, rT, rT_skip h hl]
    exact rT_skips h hl n
theorem rT_cirs : ∀ (ks : List Int) (m : Int) (qs : List Int), 0 ≤ m → m + (ks.length : Int) ≤ 32 → (∀ k ∈ ks, 1 ≤ k) → InT ks qs → rT (cirs m ks) (zrT (cirs m ks)) (wdT m qs) = some qs
  | [], m, [], _, _, _, _ => rfl
  | k :: ks, m, q :: qs, h0, h1, hk, hq => by
    have hl : (m + 1) + (ks.length : Int) ≤ 32 := by simp at h1; omega
    have ih := rT_cirs ks (m + 1) qs (by omega) hl (fun x hx => hk x (List.mem_cons_of_mem _ hx)) hq.2
    show rT (cir m k :: cirs (m + 1) ks) (0 :: zrT (cirs (m + 1) ks)) (List.replicate q.toNat m ++ wdT (m + 1) qs) = _
    have hf : pjW (cir m k) (List.replicate q.toNat m ++ wdT (m + 1) qs) = List.replicate q.toNat m := by
      show List.filter _ _ = _
      rw [List.filter_append, List.filter_eq_self.2 (fun x hx => by have := List.eq_of_mem_replicate hx; simp [cir, this]), List.filter_eq_nil_iff.2 (fun x hx => by have := wdT_ge hx; simp [cir]; omega), List.append_nil]
    rw [rT_cons, hf, cir_rO ⟨h0, by simp at h1; omega⟩ (hk k (by simp)) _ 0 (Int.le_refl _) (by have := hq.1; omega), rT_skips (fun a ha => by
      obtain ⟨i, k', g1, _, _, rfl⟩ := cirs_mem ha
      simp [cir]; omega) (by simp [zrT]), ih]
    have : (0 : Int) + (q.toNat : Int) = q := by have := hq.1; omega
    rw [this]; rfl
theorem fnd_rO {a : Au} (h : RightW a) : ∀ (ws : List Int) (q t : Int), q ∈ fnd a → rO a q ws = some t → t ∈ fnd a
  | [], q, t, hq, e => by simp [rO] at e; subst e; exact hq
  | x :: r, q, t, hq, e => by
    rw [rO] at e
    cases hs : stepO a q x with
    | none => rw [hs] at e; cases e
    | some u => rw [hs] at e; exact fnd_rO h r u t (step_in h hq hs) e
section
variable {ks : List Int} (h6 : ks.length ≤ 6) (hk : ∀ k ∈ ks, 1 ≤ k)
include h6 hk
theorem cirs_rw : ∀ a ∈ cirs 0 ks, RightW a := fun a ha => by
  obtain ⟨i, k, h1, h2, h3, rfl⟩ := cirs_mem ha
  exact cir_right ⟨h1, by omega⟩ (hk k h3)
omit h6 in
theorem cirs_pos : posT (cirs 0 ks) = true := posT_iff.2 (by rw [cirs_sts]; intro s hs; have := hk s hs; omega)
theorem cirs_al : alT (cirs 0 ks) = rng ks.length :=
  sorted_ext (r := fun x y : Int => x < y) (fun x => by omega) (fun x y z h1 h2 => by omega) _ _ (alT_sorted (cirs_rw h6 hk)) (by unfold rng; rw [List.pairwise_map]; exact List.pairwise_lt_range.imp fun h => by omega) fun x => by
    rw [alT_mem]
    constructor
    · rintro ⟨a, ha, he⟩
      obtain ⟨i, k, h1, h2, _, rfl⟩ := cirs_mem ha
      simp [cir] at he
      exact List.mem_map.2 ⟨x.toNat, List.mem_range.2 (by omega), by omega⟩
    · intro h
      obtain ⟨i, hi, rfl⟩ := List.mem_map.1 h
      have := List.mem_range.1 hi
      exact cirs_ev (by omega) (by omega)
theorem cirs_all {x : Int} (h0 : 0 ≤ x) (h1 : x < prT ks) : x ∈ fnd (prodA (cirs 0 ks)) := by
  have hr := cirs_rw h6 hk
  have hp := cirs_pos hk
  have hks : ∀ s ∈ ks, 0 < s := fun s hs => by have := hk s hs; omega
  have hin := dc_in x hks
  have hrT := rT_cirs ks 0 (dcT ks x) (by omega) (by omega) hk hin
  have hw : ∀ y ∈ wdT 0 (dcT ks x), y ∈ alT (cirs 0 ks) := fun y hy => by
    have h2 := wdT_ge hy
    rw [hin.len] at h2
    rw [cirs_al h6 hk]
    exact List.mem_map.2 ⟨y.toNat, List.mem_range.2 (by omega), by omega⟩
  have hrO := (prod_rO hr hp _ _ (in_zr hp) hw).1
  rw [cd_zr, hrT, cirs_sts, Option.map_some, cd_dc hks h0 h1] at hrO
  exact fnd_rO (prod_right hr) _ _ _ (zero_fnd (prod_right hr) (by rw [prod_st hp]; exact prT_pos (posT_iff.1 hp))).1 hrO
omit h6 hk
theorem len_of_range : ∀ (N : Nat) (l : List Int), (∀ x : Nat, x < N → (x : Int) ∈ l) → N ≤ l.length
  | 0, _, _ => Nat.zero_le _
  | N + 1, l, h => by
    have h1 := h N (by omega)
    have h2 := len_of_range N (l.erase (N : Int)) fun x hx => (List.mem_erase_of_ne (by omega)).2 (h x (by omega))
    rw [List.length_erase_of_mem h1] at h2
    have := List.length_pos_of_mem h1
    omega
include h6 hk
theorem cirs_fnd : ((fnd (prodA (cirs 0 ks))).length : Int) = prT ks := by
  have hp := cirs_pos hk
  have h0 : 0 < prT ks := prT_pos fun s hs => by have := hk s hs; omega
  have h1 := fnd_len (prod_right (cirs_rw h6 hk))
  rw [prod_st hp, cirs_sts] at h1
  have h2 := len_of_range (prT ks).toNat (fnd (prodA (cirs 0 ks))) fun x hx => cirs_all h6 hk (by omega) (by omega)
  omega
omit h6 hk
theorem stp_cirs : ∀ {ks : List Int} {m : Int} {qs : List Int} {e : Int}, 0 ≤ m → m + (ks.length : Int) ≤ 32 → (∀ k ∈ ks, 1 ≤ k) → InT ks qs → (stpT (cirs m ks) qs e).isSome = true
  | [], _, [], _, _, _, _, _ => rfl
  | k :: ks, m, q :: qs, e, h0, h1, hk, hq => by
    have ih := stp_cirs (m := m + 1) (e := e) (by omega) (by simp at h1; omega) (fun x hx => hk x (List.mem_cons_of_mem _ hx)) hq.2
    obtain ⟨ts, hts⟩ := Option.isSome_iff_exists.1 ih
    rw [cirs, stpT, hts]
    by_cases he : e = m
    · subst he
      rw [if_pos (by simp [cir]), cir_step ⟨h0, by simp at h1; omega⟩ (hk k (by simp)) hq.1]; rfl
    · rw [if_neg (by simp [cir]; exact he)]; rfl
theorem fm_len {α β : Type} {f : α → Option β} : ∀ {l : List α}, (∀ x ∈ l, (f x).isSome = true) → (l.filterMap f).length = l.length
  | [], _ => rfl
  | x :: l, h => by
    obtain ⟨y, hy⟩ := Option.isSome_iff_exists.1 (h x (List.mem_cons_self ..))
    rw [List.filterMap_cons, hy]
    show (y :: _).length = _
    rw [List.length_cons, List.length_cons, fm_len fun z hz => h z (List.mem_cons_of_mem _ hz)]
theorem succ_flat {g : Nat → List Ed} (hg : ∀ x, ∀ y ∈ g x, y.f = (x : Int)) (q : Nat) : ∀ N : Nat, succ ((List.range N).flatMap g) (q : Int) = if q < N then g q else []
  | 0 => by simp [succ]
  | N + 1 => by
    have ih := succ_flat hg q N
    unfold succ at ih ⊢
    rw [List.range_succ, List.flatMap_append, List.filter_append, ih]
    by_cases h : q = N
    · subst h
      rw [if_neg (by omega), if_pos (by omega)]
      simp only [List.flatMap_cons, List.flatMap_nil, List.append_nil, List.nil_append]
      exact List.filter_eq_self.2 fun y hy => by simp [hg q y hy]
    · have : List.filter (fun x => decide (x.f = (q : Int))) (List.flatMap g [N]) = [] := by
        simp only [List.flatMap_cons, List.flatMap_nil, List.append_nil]
        exact List.filter_eq_nil_iff.2 fun y hy => by simp [hg N y hy]; omega
      rw [this, List.append_nil]
      by_cases h2 : q < N
      · rw [if_pos h2, if_pos (by omega)]
      · rw [if_neg h2, if_neg (by omega)]
theorem canEn_lenC {a : Au} {d : Nat} : ∀ n : Nat, (∀ i, i < n → (succ a.ed ((fnd a).getD i 0)).length = d) → (canEn a n).length = n * d
  | 0, _ => by simp [canEn]
  | n + 1, h => by
    rw [canEn_succ, List.length_append, canEn_lenC n fun i hi => h i (by omega), outE, List.length_map, h n (by omega), Nat.succ_mul]
include h6 hk
theorem cirs_ed : ((canA (prodA (cirs 0 ks))).ed.length : Int) = prT ks * (ks.length : Int) := by
  have hp := cirs_pos hk
  have hr := cirs_rw h6 hk
  have hl := cirs_fnd h6 hk
  have hks : ∀ s ∈ ks, 0 < s := fun s hs => by have := hk s hs; omega
  show ((canEn (prodA (cirs 0 ks)) (fnd (prodA (cirs 0 ks))).length).length : Int) = _
  rw [canEn_lenC (d := ks.length), Int.natCast_mul, hl]
  intro i hi
  have hx := fnd_range (prod_right hr) _ (getD_mem hi)
  rw [prod_st hp, cirs_sts] at hx
  obtain ⟨q, hq⟩ : ∃ q : Nat, (fnd (prodA (cirs 0 ks))).getD i 0 = (q : Int) := ⟨((fnd (prodA (cirs 0 ks))).getD i 0).toNat, by omega⟩
  rw [hq] at hx ⊢
  have he : (prodA (cirs 0 ks)).ed = (List.range (prT ks).toNat).flatMap fun (x : Nat) => (alT (cirs 0 ks)).filterMap fun e => (stpT (cirs 0 ks) (dcT ks (x : Int)) e).map fun t => ⟨(x : Int), e, cdT ks t⟩ := by
    unfold prodA; simp only [hp, if_true, cirs_sts]
  rw [he, succ_flat, if_pos (by omega), fm_len, cirs_al h6 hk, rng_len]
  · intro e _
    rw [Option.isSome_map]
    exact stp_cirs (Int.le_refl _) (by omega) hk (dc_in _ hks)
  · intro x y hy
    obtain ⟨e, _, h2⟩ := List.mem_filterMap.1 hy
    cases h3 : stpT (cirs 0 ks) (dcT ks (x : Int)) e with
    | none => rw [h3] at h2; cases h2
    | some t => rw [h3] at h2; simp at h2; rw [← h2]
omit h6 hk
theorem mk_cirs : ∀ {ks : List Int} {m : Int} {qs : List Int}, InT ks qs → mkT (cirs m ks) qs = true → cdT ks qs = 0
  | [], _, [], _, _ => rfl
  | k :: ks, m, q :: qs, hq, h => by
    rw [cirs, mkT, Bool.and_eq_true, decide_eq_true_eq] at h
    have h1 : q = 0 := by have := h.1; simpa [cir] using this
    rw [cdT, mk_cirs hq.2 h.2, h1]; simp
theorem mk_zr : ∀ (ks : List Int) (m : Int), mkT (cirs m ks) (zrT (cirs m ks)) = true
  | [], _ => rfl
  | k :: ks, m => by
    show mkT (cir m k :: cirs (m + 1) ks) (0 :: zrT (cirs (m + 1) ks)) = true
    rw [mkT, mk_zr ks (m + 1)]; simp [cir]
include h6 hk
theorem cirs_mr : (canA (prodA (cirs 0 ks))).mr = [0] := by
  have hp := cirs_pos hk
  have hr := cirs_rw h6 hk
  have hks : ∀ s ∈ ks, 0 < s := fun s hs => by have := hk s hs; omega
  have h0 : 0 < prT ks := prT_pos hks
  have hst : 0 < (prodA (cirs 0 ks)).st := by rw [prod_st hp, cirs_sts]; exact h0
  obtain ⟨hm, hi0⟩ := zero_fnd (prod_right hr) hst
  have hz : ∀ x : Int, x ∈ fnd (prodA (cirs 0 ks)) → (x ∈ (prodA (cirs 0 ks)).mr ↔ x = 0) := fun x hx => by
    have hxr := fnd_range (prod_right hr) x hx
    rw [prod_st hp, cirs_sts] at hxr
    have hin := dc_in x hks
    have hpm := prod_mark hp (qs := dcT ks x) (by rw [cirs_sts]; exact hin)
    rw [cirs_sts, cd_dc hks hxr.1 hxr.2] at hpm
    rw [hpm]
    constructor
    · intro h; have := mk_cirs hin h; rwa [cd_dc hks hxr.1 hxr.2] at this
    · rintro rfl
      have h1 := prod_mark hp (in_zr hp)
      rw [cd_zr] at h1
      rw [← hpm]; exact h1.2 (mk_zr ks 0)
  show canM (prodA (cirs 0 ks)) = [0]
  refine sorted_ext (r := fun x y : Int => x < y) (fun x => by omega) (fun x y z h1 h2 => by omega) _ _ ?_ (by simp) fun x => ?_
  · unfold canM
    rw [List.pairwise_map]
    exact (List.pairwise_lt_range.sublist List.filter_sublist).imp fun h => by omega
  · rw [mem_canM]
    constructor
    · rintro ⟨i, h1, h2, h3⟩
      have hmem := getD_mem h1
      have := (hz _ hmem).1 h2
      have hie := idxOf_getD (fnd_nodup _) h1
      rw [this, hi0] at hie
      simp; omega
    · intro h
      simp at h
      subst h
      have hlen := List.length_pos_of_mem hm
      refine ⟨0, hlen, ?_, rfl⟩
      have h1 := getD_idxOf hm
      rw [hi0] at h1
      rw [h1]; exact (hz 0 hm).2 rfl
end
end Go.Proofs.YtedleffmbddccaaDoor
