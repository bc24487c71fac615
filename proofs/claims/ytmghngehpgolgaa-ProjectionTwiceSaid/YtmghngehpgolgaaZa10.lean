/- Texts merged: what follows were texts of their own. -/
import Derived.Test.YtmghngehpgolgaaZa2
import Derived.OwnWalk
import Derived.Maps.AppendAt
import Derived.Test.YtmghngehpgolgaaZa9
import Derived.Test.YtmghngehpgolgaaZa6
import Derived.Deep.RegionHeld3
import Derived.Sort.WalkB12
import Derived.Lib.SlicesMore
import Derived.Deep.LoopGhost
set_option linter.unusedVariables false
set_option linter.unusedSimpArgs false
set_option linter.unusedSectionVars false
/- A queue: a list of the call's own whose head has moved on; an append to it. -/
namespace Go.Proofs.Ytmghngehpgolgaa
open Go.RowKit

/-- The slice value owns, among the blocks from base on, these cells; it need not begin at its block's first cell. -/
def ownsTail (w : World) (base : Nat) (e : TypeId) (size : Nat) (v : Value) (n : Nat) (xs : List Value) : Prop :=
  xs.length = n * size ∧ ((v = .slice none 0 0 ∧ n = 0) ∨
    ∃ g off cap cur, v = .slice (some ⟨g, off * size, none⟩) n cap ∧ base ≤ g ∧ w.heap[g]? = some (.cells cur e (0, 0)) ∧ n ≤ cap ∧ cap ≤ maxLen ∧ (off + cap) * size ≤ cur.size ∧ (cur.toList.drop (off * size)).take (n * size) = xs)
section
variable {w w' w0 : World} {base : Nat} {e : TypeId} {size : Nat} {v : Value} {n : Nat} {xs : List Value}
theorem ownsTail.of (h : w.ownsRow base e size v n xs) : ownsTail w base e size v n xs := by
  refine ⟨h.1, ?_⟩
  rcases h.2 with h | ⟨g, cap, cur, rfl, h1, h2, h3, h4, h5, h6⟩
  · exact .inl h
  · exact .inr ⟨g, 0, cap, cur, by rw [Nat.zero_mul], h1, h2, h3, h4, by rw [Nat.zero_add, h5]; exact Nat.le_refl _, by rw [Nat.zero_mul, List.drop_zero]; exact h6⟩
theorem ownsTail.nil (w : World) (base : Nat) (e : TypeId) (size : Nat) : ownsTail w base e size (.slice none 0 0) 0 [] := ⟨by simp, .inl ⟨rfl, rfl⟩⟩
theorem ownsTail.lt (h : ownsTail w base e size v n xs) : ∀ k, v.ownBlock = some k → base ≤ k ∧ k < w.heap.size := by
  intro k hk
  rcases h.2 with ⟨rfl, _⟩ | ⟨g, off, cap, cur, rfl, hb, hg, _⟩
  · simp [Value.ownBlock] at hk
  · simp [Value.ownBlock] at hk
    subst hk
    exact ⟨hb, (Array.getElem?_eq_some_iff.1 hg).1⟩
theorem ownsTail.same (h : ownsTail w base e size v n xs) (hk : ∀ g, v.ownBlock = some g → w'.heap[g]? = w.heap[g]?) : ownsTail w' base e size v n xs := by
  refine ⟨h.1, ?_⟩
  rcases h.2 with h | ⟨g, off, cap, cur, rfl, h1, h2, r⟩
  · exact .inl h
  · exact .inr ⟨g, off, cap, cur, rfl, h1, (hk g rfl).trans h2, r⟩
theorem ownsTail.below (h : ownsTail w base e size v n xs) (hb : Below w.heap.size w w') : ownsTail w' base e size v n xs :=
  h.same fun g hg => hb.block g (h.lt g hg).2
theorem ownsTail.shape (h : ownsTail w base e size v n xs) : ∃ A c, v = .slice A n c ∧ n ≤ c ∧ c ≤ maxLen := by
  rcases h.2 with ⟨rfl, rfl⟩ | ⟨g, off, cap, cur, rfl, _, _, h3, h4, _⟩
  · exact ⟨none, 0, rfl, Nat.le_refl _, by unfold maxLen; omega⟩
  · exact ⟨_, _, rfl, h3, h4⟩
theorem ownsTail.cell {g o c : Nat} (h : ownsTail w base e size (.slice (some ⟨g, o, none⟩) n c) n xs) (j : Nat) {u : Value} (hj : xs[j]? = some u) : w.cell? ⟨g, o + j, none⟩ = some u := by
  rcases h.2 with ⟨h1, _⟩ | ⟨g', off, cap, cur, h0, hb, hg, h3, h4, h5, h6⟩
  · cases h1
  · injection h0 with h0 _ _; injection h0 with h0; injection h0 with h7 h8; subst h7 h8
    rw [cell_of_row w g (off * size + j) cur e (0, 0) hg]
    rw [← h6, List.getElem?_take] at hj
    split at hj
    · rw [List.getElem?_drop] at hj; simpa using hj
    · cases hj
/-- There is an address where there is something. -/
theorem ownsTail.addr (h : ownsTail w base e size v n xs) (hn : 0 < n) : ∃ g o c, v = .slice (some ⟨g, o, none⟩) n c ∧ g < w.heap.size ∧ base ≤ g := by
  rcases h.2 with ⟨_, h1⟩ | ⟨g, off, cap, cur, h0, hb, hg, h3, _⟩
  · omega
  · exact ⟨g, off * size, cap, h0, (Array.getElem?_eq_some_iff.1 hg).1, hb⟩
/-- The head moves on. -/
theorem ownsTail.tail {g o c : Nat} {ys : List Value} (h : ownsTail w base e size (.slice (some ⟨g, o, none⟩) (n + 1) c) (n + 1) (xs ++ ys)) (hx : xs.length = size) : ownsTail w base e size (.slice (if c = 1 then some ⟨g, o, none⟩ else some ⟨g, o + 1 * size, none⟩) n (c - 1)) n ys := by
  have hl := h.1
  rw [List.length_append, hx, Nat.add_mul, Nat.one_mul] at hl
  refine ⟨by omega, ?_⟩
  rcases h.2 with ⟨h1, _⟩ | ⟨g', off, cap, cur, h0, hb, hg, h3, h4, h5, h6⟩
  · cases h1
  · injection h0 with h0 _ h9; injection h0 with h0; injection h0 with h7 h8; subst h7 h8 h9
    by_cases h1 : c = 1
    · subst h1
      obtain rfl : n = 0 := by omega
      have hy : ys = [] := List.eq_nil_of_length_eq_zero (by omega)
      subst hy
      rw [if_pos rfl]
      exact .inr ⟨g, off, 0, cur, rfl, hb, hg, by omega, by omega, Nat.le_trans (Nat.mul_le_mul_right _ (by omega)) h5, by simp⟩
    · rw [if_neg h1]
      refine .inr ⟨g, off + 1, c - 1, cur, by rw [Nat.add_mul], hb, hg, by omega, by omega, by rw [show off + 1 + (c - 1) = off + c by omega]; exact h5, ?_⟩
      have h7 := congrArg (List.drop size) h6
      rw [List.drop_take, List.drop_drop, ← hx, List.drop_left, hx] at h7
      rw [Nat.add_mul, Nat.one_mul]
      have h8 : (n + 1) * size - size = n * size := by rw [Nat.add_mul, Nat.one_mul]; omega
      rw [h8] at h7
      exact h7
end
section
variable {P : Program} (w : World)
theorem run_append_room_tail (t ty e : TypeId) (i : TypeInfo) (ht : P.underlying t = some (.slice e)) (hi : P.info? e = some i)
    (g off sLen sCap : Nat) (cur : Array Value) (hg : w.heap[g]? = some (.cells cur e (0, 0)))
    (a : Addr) (m c : Nat) (news : List Value) (hl : news.length = m * i.size) (hnews : ∀ j u, news[j]? = some u → w.cell? (a.add j) = some u) (h1 : ∀ u ∈ news, u.oneCell' = true)
    (hroom : sLen + m ≤ sCap) (hfit : off + sLen * i.size + news.length ≤ cur.size) :
    (Builtin.append_ #[t, t] ty #[.slice (some ⟨g, off, none⟩) sLen sCap, .slice (some a) m c]).run P w =
      .ok (.slice (some ⟨g, off, none⟩) (sLen + m) sCap) (w.setRow g (cur.toList.take (off + sLen * i.size) ++ news ++ cur.toList.drop (off + sLen * i.size + news.length)).toArray) := by
  have hf := run_firstCells_some (P := P) w i.size m a m c news hl hnews
  have hst := run_storeCells_at P g (off + sLen * i.size) e news 0 cur w hg (by simpa using hfit) h1
  have hadd : (⟨g, off, none⟩ : Addr).add (sLen * i.size) = ⟨g, off + sLen * i.size, none⟩ := by unfold Addr.add; split <;> simp_all
  simp only [Nat.add_zero] at hst
  simp [Builtin.append_, run_underlying ht, sizeOf, typeInfo, hi, Builtin.lenOf, hroom, hf, hadd, hst]
theorem run_append_tail (base : Nat) (t ty e : TypeId) (i : TypeInfo) (z : Value) (size bytes : Nat) (ht : P.underlying t = some (.slice e)) (hi : P.info? e = some i) (hz : i.zero = some z)
    (hsize : i.size = size) (hby : i.bytes = bytes) (hzs : z.cells.size = size) (hsz : 0 < size)
    (v : Value) (n : Nat) (xs : List Value) (hown : ownsTail w base e size v n xs)
    (a : Addr) (m c : Nat) (news : List Value) (hl : news.length = m * size) (hnews : ∀ j u, news[j]? = some u → w.cell? (a.add j) = some u) (h1 : ∀ u ∈ news, u.oneCell' = true)
    (h63 : n + m ≤ maxLen) (hbytes : (n + m) * bytes ≤ 140737488355328) (hbase : base ≤ w.heap.size) :
    ∃ v' w', (Builtin.append_ #[t, t] ty #[v, .slice (some a) m c]).run P w = .ok v' w' ∧ ownsTail w' base e size v' (n + m) (xs ++ news) ∧ w.grownBy w' v.ownBlock ∧ (v'.ownBlock = v.ownBlock ∨ v'.ownBlock = some w.heap.size) := by
  rcases hown.2 with ⟨rfl, rfl⟩ | ⟨g, off, cap, cur, rfl, hbg, hg, hnc, hcm, hcs, htake⟩
  · obtain ⟨v', w', h2, h3, h4, _, h5⟩ := run_append_own_at (P := P) w base t ty e i z size bytes ht hi hz hsize hby hzs hsz (.slice none 0 0) 0 xs ⟨hown.1, .inl ⟨rfl, rfl⟩⟩ a m c news hl hnews h1 h63 hbytes hbase
    exact ⟨v', w', h2, .of h3, h4, h5⟩
  · subst hsize
    subst hby
    have hlen : (xs ++ news).length = (n + m) * i.size := by rw [List.length_append, hown.1, hl, Nat.add_mul]
    by_cases hroom : n + m ≤ cap
    · have hmm : (n + m) * i.size ≤ cap * i.size := Nat.mul_le_mul_right _ hroom
      have hcs' := hcs
      rw [Nat.add_mul] at hcs' hmm
      have hfit : off * i.size + n * i.size + news.length ≤ cur.size := by rw [hl]; omega
      have hr := run_append_room_tail (P := P) w t ty e i ht hi g (off * i.size) n cap cur hg a m c news hl hnews h1 hroom hfit
      have hcl : cur.toList.length = cur.size := Array.length_toList
      refine ⟨_, _, hr, ⟨hlen, .inr ⟨g, off, cap, _, rfl, hbg, setRow_heap w g cur _ e _ hg, hroom, hcm, ?_, ?_⟩⟩, ⟨rfl, rfl, rfl, by simp, fun k _ hk => setRow_other w g k _ (fun e => hk (by simp [Value.ownBlock, e]))⟩, .inl rfl⟩
      · simp only [List.size_toArray, List.length_append, List.length_take, List.length_drop, Array.length_toList]
        omega
      · have e1 : cur.toList.take (off * i.size + n * i.size) = cur.toList.take (off * i.size) ++ xs := by rw [← htake, List.take_add]
        simp only [e1, List.append_assoc]
        have e2 : (cur.toList.take (off * i.size)).length = off * i.size := by rw [List.length_take]; omega
        have e3 : ∀ Z : List Value, (cur.toList.take (off * i.size) ++ Z).drop (off * i.size) = Z := fun Z => by
          have := List.drop_left (l₁ := cur.toList.take (off * i.size)) (l₂ := Z)
          rwa [e2] at this
        rw [e3, ← List.append_assoc, ← hlen]
        exact List.take_left
    · have holds : ∀ j u, xs[j]? = some u → w.cell? ((⟨g, off * i.size, none⟩ : Addr).add j) = some u := fun j u hj => by
        rw [show ((⟨g, off * i.size, none⟩ : Addr).add j) = ⟨g, off * i.size + j, none⟩ from by unfold Addr.add; split <;> simp_all]
        exact hown.cell j hj
      have hr := run_append_grow (P := P) w t ty e i z ht hi hz ⟨g, off * i.size, none⟩ n cap xs hown.1 holds a m c news hl hnews (by omega) (by unfold maxLen at h63; omega) (growslice_fits (by omega) hbytes)
      have hge := grownCap_ge w (n + m) cap e
      have hcm : grownCap w (n + m) cap e ≤ maxLen := grownCap_le_maxLen w (n + m) cap e h63
      refine ⟨_, _, hr, .of ⟨hlen, .inr ⟨w.heap.size, _, _, rfl, hbase, heap_alloc_new w.drew _, hge, hcm, ?_, ?_⟩⟩, ⟨rfl, rfl, rfl, by simp, fun k hk _ => Below.heap_alloc w.drew _ k hk⟩, .inr rfl⟩
      · simp only [Array.size_append, List.size_toArray, size_zeroCells, hzs, hown.1, hl, ← Nat.add_mul]
        congr 1
        omega
      · simp only [Array.toList_append, List.append_assoc]
        rw [← List.append_assoc, ← hlen]
        exact List.take_left
theorem wpList_append_tail {ops : Array Oper} {rest : List Oper} {o : Oper} {a : Act} {Q : Exit → Act → World → Prop} (hgd : o.guard = none) (s x : Operand) (t : TypeId)
    (ho : o.op = .call { callee := .builtin .append, args := #[s, x], argTypes := #[t, t] })
    (base : Nat) (e : TypeId) (i : TypeInfo) (z : Value) (size bytes : Nat) (ht : P.underlying t = some (.slice e)) (hi : P.info? e = some i) (hz : i.zero = some z)
    (hsize : i.size = size) (hby : i.bytes = bytes) (hzs : z.cells.size = size) (hsz : 0 < size)
    (v : Value) (n : Nat) (xs : List Value) (hs : a.eval s = v) (hown : ownsTail w base e size v n xs)
    (ad : Addr) (m c : Nat) (news : List Value) (hx : a.eval x = .slice (some ad) m c) (hl : news.length = m * size) (hnews : ∀ j u, news[j]? = some u → w.cell? (ad.add j) = some u) (h1 : ∀ u ∈ news, u.oneCell' = true)
    (h63 : n + m ≤ maxLen) (hbytes : (n + m) * bytes ≤ 140737488355328) (hbase : base ≤ w.heap.size)
    (h : ∀ v' w', ownsTail w' base e size v' (n + m) (xs ++ news) → w.grownBy w' v.ownBlock → (v'.ownBlock = v.ownBlock ∨ v'.ownBlock = some w.heap.size) → wpList P ops Q rest (a.put o.dst v') w') : wpList P ops Q (o :: rest) a w := by
  refine wpList_plain hgd fun K hK => ?_
  obtain ⟨v', w', hr, h2, h3, h4⟩ := run_append_tail (P := P) w base t o.type e i z size bytes ht hi hz hsize hby hzs hsz v n xs hown ad m c news hl hnews h1 h63 hbytes hbase
  unfold Oper.wp execOp
  simp only [ho, resolve, invoke, builtin, Sem.run_bind, Sem.run_pure, Result.andThen_ok, List.map_toArray, List.map_cons, List.map_nil, hs, hx, hr]
  exact hK _ _ (h v' w' h2 h3 h4)
end
end Go.Proofs.Ytmghngehpgolgaa

/- Layer 7: the memory of lift's search: origins, the queue; its closure, which finds a place once. -/
namespace Go.Proofs.Ytmghngehpgolgaa
open Go.RowKit Go.Sort

/-- What is known of the places: by which event, and from which state, each was found. -/
abbrev FoM := Nat → Nat → Option (Int × Int)
def updF (F : FoM) (d q : Nat) (x : Int × Int) : FoM := fun d' q' => if d' = d ∧ q' = q then some x else F d' q'
def orgC (o : Option (Int × Int)) (r : Nat) : Value := if r = 0 then .bool o.isSome else if r = 1 then .int .i8 ((o.getD (0, 0)).1) else .int .i16 ((o.getD (0, 0)).2)
/-- The cells of the origins of one number of events done. -/
def orgL (F : FoM) (S d : Nat) : List Value := (List.range (S * 3)).map fun i => orgC (F d (i / 3)) (i % 3)
theorem org_len (F : FoM) (S d : Nat) : (orgL F S d).length = S * 3 := by simp [orgL]
theorem org_at {F : FoM} {S d q r : Nat} (hq : q < S) (hr : r < 3) : (orgL F S d)[q * 3 + r]? = some (orgC (F d q) r) := by
  unfold orgL
  rw [List.getElem?_map, List.getElem?_range (by omega), Option.map_some, show (q * 3 + r) / 3 = q by omega, show (q * 3 + r) % 3 = r by omega]
theorem org_set {F : FoM} {S d q : Nat} (x : Int × Int) : (((orgL F S d).set (q * 3) (.bool true)).set (q * 3 + 1) (.int .i8 x.1)).set (q * 3 + 2) (.int .i16 x.2) = orgL (updF F d q x) S d := by
  apply List.ext_getElem
  · simp [orgL]
  · intro i h1 h2
    simp only [List.length_set] at h1
    rw [List.getElem_set, List.getElem_set, List.getElem_set]
    simp only [orgL, List.getElem_map, List.getElem_range, updF, true_and]
    by_cases e2 : q * 3 + 2 = i
    · subst e2
      rw [if_pos rfl, if_pos (by omega), show (q * 3 + 2) % 3 = 2 by omega]; rfl
    · rw [if_neg e2]
      by_cases e1 : q * 3 + 1 = i
      · subst e1
        rw [if_pos rfl, if_pos (by omega), show (q * 3 + 1) % 3 = 1 by omega]; rfl
      · rw [if_neg e1]
        by_cases e0 : q * 3 = i
        · subst e0
          rw [if_pos rfl, if_pos (by omega), show (q * 3) % 3 = 0 by omega]; rfl
        · rw [if_neg e0, if_neg (by omega)]
theorem org_upd_ne {F : FoM} {S d d' q : Nat} {x : Int × Int} (h : d' ≠ d) : orgL (updF F d q x) S d' = orgL F S d' := by
  unfold orgL updF; simp [h]
theorem org_none {F : FoM} {S d : Nat} (h : ∀ q, F d q = none) : orgL F S d = orgL (fun _ _ => none) S d := by
  unfold orgL; simp [h]
theorem info_originJ : (Try.prog.info? 119).map (fun i => (i.zero, i.size, i.bytes)) = some (some (.agg #[.bool false, .int .i8 0, .int .i16 0]), 3, 4) := by kernel_rfl
theorem info_originsJ : (Try.prog.info? 114).map (fun i => (i.zero, i.size, i.bytes)) = some (some (.slice none 0 0), 1, 24) := by kernel_rfl
theorem info_placeJ : (Try.prog.info? 113).map (fun i => (i.zero, i.size, i.bytes)) = some (some (.agg #[.int .i64 0, .int .i64 0]), 2, 16) := by kernel_rfl
theorem make_origins (N : Nat) (hN : N ≤ 100000) (w : World) :
    (Instr.makeSlice 114 (.int .i64 (N : Int)) (.int .i64 (N : Int))).run Try.prog w = .ok (.slice (some ⟨w.heap.size, 0, none⟩) N N) (w.alloc (.cells (orgL (fun _ _ => none) N 0).toArray 119)) := by
  obtain ⟨i0, hi, hz0, hz1, hz2⟩ := info_parts info_originJ
  have := run_make_rowN 114 119 i0 _ Try.underlying114 hi hz0 .i64 .i64 N N (Nat.le_refl _) (by rw [hz2]; omega) (by omega) w
  rw [this, hz1]
  have e : madeCells (Value.agg #[.bool false, .int .i8 0, .int .i16 0]).cells (N * 3) = (orgL (fun _ _ => none) N 0).toArray := by
    apply Array.toList_inj.1
    unfold madeCells orgL
    rw [Array.toList_map, Array.toList_range]
    refine List.map_congr_left fun i _ => ?_
    have h3 : i % 3 = 0 ∨ i % 3 = 1 ∨ i % 3 = 2 := by omega
    show (#[Value.bool false, .int .i8 0, .int .i16 0] : Array Value)[i % 3]! = _
    rcases h3 with h | h | h <;> rw [h] <;> rfl
  rw [e]
theorem make_rows (N : Nat) (hN : N ≤ 100000) (w : World) :
    (Instr.makeSlice 111 (.int .i64 (N : Int)) (.int .i64 (N : Int))).run Try.prog w = .ok (.slice (some ⟨w.heap.size, 0, none⟩) N N) (w.alloc (.cells (List.replicate N (Value.slice none 0 0)).toArray 114)) := by
  obtain ⟨i0, hi, hz0, hz1, hz2⟩ := info_parts info_originsJ
  have := run_make_rowN 111 114 i0 (.slice none 0 0) Try.underlying111 hi hz0 .i64 .i64 N N (Nat.le_refl _) (by rw [hz2]; omega) (by omega) w
  rw [this, hz1, Nat.mul_one]
  have e : madeCells (Value.slice none 0 0).cells N = (List.replicate N (Value.slice none 0 0)).toArray := by
    rw [← toList_madeCells_one (.slice none 0 0) N]; simp [Value.cells]
  rw [e]
/-- The rows of origins: nil where nothing is known, else S places. -/
structure OG (w : World) (bo base S l : Nat) (F : FoM) (ogs : List Value) : Prop where
  row : Row w bo 114 ogs
  len : ogs.length = l + 1
  at_ : ∀ d, d ≤ l → (ogs.getD d undef = .slice none 0 0 ∧ ∀ q, F d q = none) ∨ ∃ g, ogs.getD d undef = .slice (some ⟨g, 0, none⟩) S S ∧ base ≤ g ∧ Row w g 119 (orgL F S d)
  dj : ∀ d e g, d ≤ l → e ≤ l → d ≠ e → ogs.getD d undef = .slice (some ⟨g, 0, none⟩) S S → ogs.getD e undef ≠ .slice (some ⟨g, 0, none⟩) S S
section
variable {w w' : World} {bo base S l : Nat} {F : FoM} {ogs : List Value}
theorem OG.same (h : OG w bo base S l F ogs) (hk : ∀ g e cs, Row w g e cs → e = 114 ∨ e = 119 → Row w' g e cs) : OG w' bo base S l F ogs :=
  ⟨hk _ _ _ h.row (.inl rfl), h.len, fun d hd => (h.at_ d hd).imp id fun ⟨g, h1, h2, h3⟩ => ⟨g, h1, h2, hk _ _ _ h3 (.inr rfl)⟩, h.dj⟩
theorem OG.below (h : OG w bo base S l F ogs) (hb : Below w.heap.size w w') : OG w' bo base S l F ogs := h.same fun _ _ _ hr _ => hr.below hb hr.lt
/-- A row is made. -/
theorem OG.made (h : OG w bo base S l F ogs) (hb : base ≤ w.heap.size) {d : Nat} (hd : d ≤ l) (hn : ∀ q, F d q = none) :
    OG ((w.alloc (.cells (orgL (fun _ _ => none) S 0).toArray 119)).setCell ⟨bo, d, none⟩ (.slice (some ⟨w.heap.size, 0, none⟩) S S)) bo base S l F (ogs.set d (.slice (some ⟨w.heap.size, 0, none⟩) S S)) := by
  have hdl : d < ogs.length := by rw [h.len]; omega
  have hlt := h.row.lt
  have hnew := Row.new w (orgL (fun _ _ => none) S 0) 119
  refine ⟨(h.row.alloc _).set d _, by rw [List.length_set]; exact h.len, fun e he => ?_, fun e f g he hf hef h1 => ?_⟩
  · rw [getD_set hdl]
    by_cases hde : d = e
    · subst hde
      rw [if_pos rfl]
      refine .inr ⟨w.heap.size, rfl, hb, ?_⟩
      rw [org_none hn]
      exact Row.setOther (p := ⟨bo, d, none⟩) hnew (by show w.heap.size ≠ bo; omega) _
    · rw [if_neg hde]
      refine (h.at_ e he).imp id fun ⟨g, h1, h2, h3⟩ => ⟨g, h1, h2, ?_⟩
      exact Row.setOther (p := ⟨bo, d, none⟩) (h3.alloc _) (rows_neJ h3 h.row (by decide)) _
  · rw [getD_set hdl] at h1 ⊢
    have key : ∀ e, e ≤ l → ogs.getD e undef ≠ .slice (some ⟨w.heap.size, 0, none⟩) S S := fun e he h2 => by
      rcases h.at_ e he with ⟨h3, _⟩ | ⟨g', h3, _, h5⟩
      · rw [h3] at h2; cases h2
      · rw [h3] at h2
        injection h2 with h2 _ _; injection h2 with h2; injection h2 with h2 _ _
        have := h5.lt; omega
    by_cases h2 : d = e
    · subst h2
      rw [if_pos rfl] at h1
      rw [if_neg hef]
      injection h1 with h1 _ _; injection h1 with h1; injection h1 with h1 _ _
      rw [← h1]; exact key f hf
    · rw [if_neg h2] at h1
      by_cases h3 : d = f
      · subst h3
        rw [if_pos rfl]
        intro h4
        rw [← h4] at h1
        exact key e he h1
      · rw [if_neg h3]; exact h.dj e f g he hf hef h1
/-- An origin is written. -/
theorem OG.write (h : OG w bo base S l F ogs) {d q g : Nat} (hd : d ≤ l) (x : Int × Int) (hg : ogs.getD d undef = .slice (some ⟨g, 0, none⟩) S S) :
    OG (((w.setCell ⟨g, q * 3, none⟩ (.bool true)).setCell ⟨g, q * 3 + 1, none⟩ (.int .i8 x.1)).setCell ⟨g, q * 3 + 2, none⟩ (.int .i16 x.2)) bo base S l (updF F d q x) ogs := by
  have hrow : Row w g 119 (orgL F S d) ∧ base ≤ g := by
    rcases h.at_ d hd with ⟨h1, _⟩ | ⟨g', h1, h2, h3⟩
    · rw [h1] at hg; cases hg
    · rw [h1] at hg
      injection hg with hg _ _; injection hg with hg; injection hg with hg _ _
      rw [← hg]; exact ⟨h3, h2⟩
  have hne : bo ≠ g := fun e => rows_neJ h.row hrow.1 (by decide) e
  have hoth : ∀ g' e cs, Row w g' e cs → g' ≠ g → Row (((w.setCell ⟨g, q * 3, none⟩ (.bool true)).setCell ⟨g, q * 3 + 1, none⟩ (.int .i8 x.1)).setCell ⟨g, q * 3 + 2, none⟩ (.int .i16 x.2)) g' e cs := fun g' e cs hr hne =>
    ((hr.setOther (p := ⟨g, q * 3, none⟩) hne _).setOther (p := ⟨g, q * 3 + 1, none⟩) hne _).setOther (p := ⟨g, q * 3 + 2, none⟩) hne _
  refine ⟨hoth _ _ _ h.row hne, h.len, fun e he => ?_, h.dj⟩
  by_cases hde : e = d
  · subst hde
    refine .inr ⟨g, hg, hrow.2, ?_⟩
    have := ((hrow.1.set (q * 3) (.bool true)).set (q * 3 + 1) (.int .i8 x.1)).set (q * 3 + 2) (.int .i16 x.2)
    rwa [org_set x] at this
  · rcases h.at_ e he with ⟨h1, h2⟩ | ⟨g', h1, h2, h3⟩
    · exact .inl ⟨h1, fun p => by unfold updF; rw [if_neg (fun h => hde h.1)]; exact h2 p⟩
    · refine .inr ⟨g', h1, h2, ?_⟩
      rw [org_upd_ne hde]
      refine hoth _ _ _ h3 fun e' => ?_
      subst e'
      exact h.dj e d g' he hd hde h1 hg
end
/-- Places as cells. -/
def encP (ps : List (Nat × Nat)) : List Value := ps.flatMap fun p => [.int .i64 (p.1 : Int), .int .i64 (p.2 : Int)]
theorem encP_len (ps : List (Nat × Nat)) : (encP ps).length = ps.length * 2 := by
  unfold encP
  induction ps with
  | nil => rfl
  | cons p ps ih => rw [List.flatMap_cons, List.length_append, ih, List.length_cons]; simp; omega
theorem encP_snoc (ps : List (Nat × Nat)) (p : Nat × Nat) : encP (ps ++ [p]) = encP ps ++ [.int .i64 (p.1 : Int), .int .i64 (p.2 : Int)] := by simp [encP]
/-- What lift keeps: H its first block. -/
structure LS (w0 wr : World) (gv vk : Value) (er : List Int) (S l : Nat) (F : FoM) (ogs : List Value) (vq : Value) (ps : List (Nat × Nat)) : Prop where
  bel : Below w0.heap.size w0 wr
  ob : Row wr w0.heap.size 64 (obL gv vk er)
  qb : Row wr (w0.heap.size + 1) 110 [vq]
  og : OG wr (w0.heap.size + 1 + 1) w0.heap.size S l F ogs
  ox : Row wr (w0.heap.size + 1 + 1 + 1) 111 [.slice (some ⟨w0.heap.size + 1 + 1, 0, none⟩) (l + 1) (l + 1)]
  qo : ownsTail wr w0.heap.size 113 2 vq ps.length (encP ps)
theorem tail_ne {w : World} {g b2 : Nat} {e1 e2 : TypeId} {cs : List Value} {s2 : Nat} {v2 : Value} {n2 : Nat} {x2 : List Value} (h1 : Row w g e1 cs) (h2 : ownsTail w b2 e2 s2 v2 n2 x2) (he : e1 ≠ e2) : v2.ownBlock ≠ some g := by
  rcases h2.2 with ⟨rfl, _⟩ | ⟨g', off, cap, cur, rfl, _, hg, _⟩
  · simp [Value.ownBlock]
  · simp only [Value.ownBlock, ne_eq, Option.some.injEq]
    rintro rfl
    have h := h1.symm.trans hg
    simp only [Option.some.injEq, Obj.cells.injEq] at h
    exact he h.2.1
section
variable {w0 wr w' : World} {gv vk : Value} {er : List Int} {S l : Nat} {F : FoM} {ogs : List Value} {vq : Value} {ps : List (Nat × Nat)}
theorem LS.call (h : LS w0 wr gv vk er S l F ogs vq ps) (hb : Below wr.heap.size wr w') : LS w0 w' gv vk er S l F ogs vq ps :=
  ⟨h.bel.trans (hb.mono h.bel.size), h.ob.below hb h.ob.lt, h.qb.below hb h.qb.lt, h.og.below hb, h.ox.below hb h.ox.lt, h.qo.below hb⟩
/-- A row of origins is made. -/
theorem LS.made (h : LS w0 wr gv vk er S l F ogs vq ps) {d : Nat} (hd : d ≤ l) (hn : ∀ q, F d q = none) :
    LS w0 ((wr.alloc (.cells (orgL (fun _ _ => none) S 0).toArray 119)).setCell ⟨w0.heap.size + 1 + 1, d, none⟩ (.slice (some ⟨wr.heap.size, 0, none⟩) S S)) gv vk er S l F (ogs.set d (.slice (some ⟨wr.heap.size, 0, none⟩) S S)) vq ps := by
  have hz := h.bel.size
  have ha : Below wr.heap.size wr (wr.alloc (.cells (orgL (fun _ _ => none) S 0).toArray 119)) := (Below.refl _ _).alloc (Nat.le_refl _) _
  refine ⟨(h.bel.alloc hz _).setCell (p := ⟨w0.heap.size + 1 + 1, d, none⟩) (by show w0.heap.size ≤ w0.heap.size + 1 + 1; omega) _, Row.setOther (p := ⟨w0.heap.size + 1 + 1, d, none⟩) (h.ob.alloc _) (by show w0.heap.size ≠ w0.heap.size + 1 + 1; omega) _, Row.setOther (p := ⟨w0.heap.size + 1 + 1, d, none⟩) (h.qb.alloc _) (by show w0.heap.size + 1 ≠ w0.heap.size + 1 + 1; omega) _, h.og.made hz hd hn, Row.setOther (p := ⟨w0.heap.size + 1 + 1, d, none⟩) (h.ox.alloc _) (by show w0.heap.size + 1 + 1 + 1 ≠ w0.heap.size + 1 + 1; omega) _, ?_⟩
  refine (h.qo.below ha).same fun g hg => Below.heap_setCell _ ⟨w0.heap.size + 1 + 1, d, none⟩ _ g fun e => ?_
  exact tail_ne h.og.row h.qo (by decide) (by rw [hg, e])
/-- An origin is written, the place is queued. -/
theorem LS.found (h : LS w0 wr gv vk er S l F ogs vq ps) {d q g : Nat} (hd : d ≤ l) (x : Int × Int) (hg : ogs.getD d undef = .slice (some ⟨g, 0, none⟩) S S) {w4 : World} {o : Obj} {vq' : Value}
    (ho : ownsTail w4 w0.heap.size 113 2 vq' (ps.length + 1) (encP ps ++ [.int .i64 (d : Int), .int .i64 (q : Int)]))
    (hgr : ((((wr.setCell ⟨g, q * 3, none⟩ (.bool true)).setCell ⟨g, q * 3 + 1, none⟩ (.int .i8 x.1)).setCell ⟨g, q * 3 + 2, none⟩ (.int .i16 x.2)).alloc o).grownBy w4 vq.ownBlock) :
    LS w0 (w4.setCell ⟨w0.heap.size + 1, 0, none⟩ vq') gv vk er S l (updF F d q x) ogs vq' (ps ++ [(d, q)]) := by
  have hz := h.bel.size
  have hrow : Row wr g 119 (orgL F S d) ∧ w0.heap.size ≤ g := by
    rcases h.og.at_ d hd with ⟨h1, _⟩ | ⟨g', h1, h2, h3⟩
    · rw [h1] at hg; cases hg
    · rw [h1] at hg
      injection hg with hg _ _; injection hg with hg; injection hg with hg _ _
      rw [← hg]; exact ⟨h3, h2⟩
  obtain ⟨w3, hw3⟩ : ∃ w3, w3 = ((wr.setCell ⟨g, q * 3, none⟩ (.bool true)).setCell ⟨g, q * 3 + 1, none⟩ (.int .i8 x.1)).setCell ⟨g, q * 3 + 2, none⟩ (.int .i16 x.2) := ⟨_, rfl⟩
  have hoth : ∀ g' e cs, Row wr g' e cs → g' ≠ g → Row w3 g' e cs := fun g' e cs hr hne => by
    rw [hw3]; exact ((hr.setOther (p := ⟨g, q * 3, none⟩) hne _).setOther (p := ⟨g, q * 3 + 1, none⟩) hne _).setOther (p := ⟨g, q * 3 + 2, none⟩) hne _
  have hog := h.og.write (q := q) hd x hg
  rw [← hw3] at hog hgr
  have hb3 : Below w0.heap.size w0 w3 := by
    rw [hw3]; exact ((h.bel.setCell (p := ⟨g, q * 3, none⟩) hrow.2 _).setCell (p := ⟨g, q * 3 + 1, none⟩) hrow.2 _).setCell (p := ⟨g, q * 3 + 2, none⟩) hrow.2 _
  have hs3 : w3.heap.size = wr.heap.size := by rw [hw3]; simp [World.setCell]
  have hqlt : ∀ k, vq.ownBlock = some k → w0.heap.size ≤ k := fun k hk => (h.qo.lt k hk).1
  have step : ∀ g' e cs, Row w3 g' e cs → vq.ownBlock ≠ some g' → Row w4 g' e cs := fun g' e cs hr hne => (hr.alloc o).grown hgr hne
  have n0 := tail_ne h.ob h.qo (by decide)
  have n1 := tail_ne h.qb h.qo (by decide)
  have n3 := tail_ne h.ox h.qo (by decide)
  have hq4 : Row w4 (w0.heap.size + 1) 110 [vq] := step _ _ _ (hoth _ _ _ h.qb (rows_neJ h.qb hrow.1 (by decide))) n1
  have hog4 : OG w4 (w0.heap.size + 1 + 1) w0.heap.size S l (updF F d q x) ogs := hog.same fun g' e cs hr he => by
    refine step _ _ _ hr ?_
    intro hv
    have h1 := h.qo.2
    rcases h1 with ⟨h1, _⟩ | ⟨gq, off, cap, cur, h1, _, h2, _⟩
    · rw [h1] at hv; simp [Value.ownBlock] at hv
    · rw [h1] at hv
      simp only [Value.ownBlock, Option.some.injEq] at hv
      subst hv
      have hgg : gq ≠ g := by
        rintro rfl
        have h3 := h2.symm.trans hrow.1
        simp only [Option.some.injEq, Obj.cells.injEq] at h3
        exact absurd h3.2.1 (by decide)
      have h4 : w3.heap[gq]? = wr.heap[gq]? := by
        rw [hw3, Below.heap_setCell _ _ _ _ hgg, Below.heap_setCell _ _ _ _ hgg, Below.heap_setCell _ _ _ _ hgg]
      have h5 := (hr.symm.trans h4).trans h2
      simp only [Option.some.injEq, Obj.cells.injEq] at h5
      rcases he with rfl | rfl
      · exact absurd h5.2.1 (by decide)
      · exact absurd h5.2.1 (by decide)
  refine ⟨?_, ?_, hq4.set 0 vq', ?_, ?_, ?_⟩
  · exact ((hb3.alloc (by rw [hs3]; exact hz) o).grown hgr (by simp; omega) hqlt).setCell (p := ⟨w0.heap.size + 1, 0, none⟩) (by show w0.heap.size ≤ w0.heap.size + 1; omega) _
  · exact Row.setOther (p := ⟨w0.heap.size + 1, 0, none⟩) (step _ _ _ (hoth _ _ _ h.ob (rows_neJ h.ob hrow.1 (by decide))) n0) (by show w0.heap.size ≠ w0.heap.size + 1; omega) _
  · exact hog4.same fun g' e cs hr he => Row.setOther (p := ⟨w0.heap.size + 1, 0, none⟩) hr (rows_neJ hr hq4 (by rcases he with rfl | rfl <;> decide)) _
  · exact Row.setOther (p := ⟨w0.heap.size + 1, 0, none⟩) (step _ _ _ (hoth _ _ _ h.ox (rows_neJ h.ox hrow.1 (by decide))) n3) (by show w0.heap.size + 1 + 1 + 1 ≠ w0.heap.size + 1; omega) _
  · rw [List.length_append, encP_snoc]
    exact ho.same fun k hk => Below.heap_setCell _ ⟨w0.heap.size + 1, 0, none⟩ _ k fun e => tail_ne hq4 ho (by decide) (by rw [hk, e])
end
end Go.Proofs.Ytmghngehpgolgaa

/- Layer 7: the closure of lift, which finds a place once. -/
namespace Go.Proofs.Ytmghngehpgolgaa
open Go.RowKit Go.Sort

theorem origNil (n c : Nat) (W : World) : (binOp .eql 114 (.slice none n c) (.slice none 0 0)).run Try.prog W = .ok (.bool true) W := by kernel_rfl
theorem origSome (ad : Addr) (n c : Nat) (W : World) : (binOp .eql 114 (.slice (some ad) n c) (.slice none 0 0)).run Try.prog W = .ok (.bool false) W := by kernel_rfl
/-- What find does. -/
def fndF (F : FoM) (d q : Nat) (x : Int × Int) : FoM := if F d q = none then updF F d q x else F
def fndP (F : FoM) (d q : Nat) (ps : List (Nat × Nat)) : List (Nat × Nat) := if F d q = none then ps ++ [(d, q)] else ps
/-- Boxes of other kinds lie as they lay. -/
def KpL (w w' : World) (vq vq' : Value) : Prop := w.heap.size ≤ w'.heap.size ∧ ∀ g e cs, Row w g e cs → e ≠ 110 → e ≠ 114 → e ≠ 119 → vq.ownBlock ≠ some g → Row w' g e cs ∧ vq'.ownBlock ≠ some g
set_option maxHeartbeats 8000000 in
set_option maxRecDepth 100000 in
theorem jFindP_any (w0 w : World) (bg S l d q : Nat) (vk : Value) (er : List Int) (F : FoM) (ogs : List Value) (vq : Value) (ps : List (Nat × Nat)) (ev fr : Nat) (h : LS w0 w (.slice (some ⟨bg, 0, none⟩) S S) vk er S l F ogs vq ps) (hd : d ≤ l) (hq : q < S) (hS : S ≤ 4096) (hl : l ≤ 1000000) (hev : ev < 32) (hfr : fr < 4096) (hps : ps.length ≤ 10000000000) :
    Calls Try.prog 68 #[.agg #[.int .i64 (d : Int), .int .i64 (q : Int)], .int .i64 (ev : Int), .int .i64 (fr : Int), .pointer (some ⟨w0.heap.size + 1 + 1 + 1, 0, none⟩), .pointer (some ⟨w0.heap.size, 0, none⟩), .pointer (some ⟨w0.heap.size + 1, 0, none⟩)] w fun e w' =>
      e = .returned (.tuple #[]) ∧ ∃ ogs' vq', LS w0 w' (.slice (some ⟨bg, 0, none⟩) S S) vk er S l (fndF F d q ((ev : Int), (fr : Int))) ogs' vq' (fndP F d q ps) ∧ KpL w w' vq vq' := by
  have hb1 : Below w.heap.size w (w.alloc (.cells #[.int .i64 (d : Int), .int .i64 (q : Int)] 113)) := (Below.refl _ _).alloc (Nat.le_refl _) _
  have hbx := Row.new w [.int .i64 (d : Int), .int .i64 (q : Int)] 113
  obtain ⟨W1, hW1⟩ : ∃ W, W = w.alloc (.cells #[.int .i64 (d : Int), .int .i64 (q : Int)] 113) := ⟨_, rfl⟩
  obtain ⟨P, hP⟩ : ∃ P, P = w.heap.size := ⟨_, rfl⟩
  rw [← hW1] at hb1
  have HL1 := Lib.hid (h.call hb1)
  have HX1 := Lib.hid (show Row W1 P 113 [.int .i64 (d : Int), .int .i64 (q : Int)] from by rw [hW1, hP]; exact hbx)
  have hz1 : P < W1.heap.size := HX1.out.lt
  have hqP : vq.ownBlock ≠ some P := fun e => by have := (h.qo.lt P e).2; omega
  have HZ := Lib.hid h.bel.size
  have HMK := make_origins S (by omega)
  obtain ⟨od, hod⟩ : ∃ o, o = ogs.getD d undef := ⟨_, rfl⟩
  have hdl : d < ogs.length := by rw [h.og.len]; omega
  have hodc : ogs[d]? = some od := by rw [hod, List.getD, List.getElem?_eq_getElem hdl]; rfl
  have hat := h.og.at_ d hd
  rw [← hod] at hat
  have hoN := origNil
  have hoS := origSome
  have HKW := Lib.hid (show ∀ g e cs, Row w g e cs → Row W1 g e cs from fun g e cs hr => hr.below hb1 hr.lt)
  have HSZ := Lib.hid hb1.size
  have z0 : (0 : Int) ≤ (d : Int) := by omega
  have z1 : (d : Int) < (l : Int) + 1 := by omega
  have z2 : (0 : Int) ≤ (q : Int) := by omega
  have z3 : (q : Int) < (S : Int) := by omega
  have z4 : (0 : Int) ≤ (fr : Int) := by omega
  have z5 : (0 : Int) ≤ (ev : Int) := by omega
  have z6 : (fr : Int) < 4096 := by omega
  have z7 : (ev : Int) < 32 := by omega
  have HW1 := Lib.hid hW1
  have HP := Lib.hid hP
  have hx0 := HL1.out.ox.cell 0 rfl
  have hcd := HL1.out.og.row.cell d hodc
  have hp0 := HX1.out.cell 0 rfl
  have hp1 := HX1.out.cell 1 rfl
  have ho0 := HL1.out.ob.cell 0 (show (obL (.slice (some ⟨bg, 0, none⟩) S S) vk er)[0]? = some (.slice (some ⟨bg, 0, none⟩) S S) from rfl)
  have hqb := HL1.out.qb.cell 0 rfl
  have HOD := Lib.hid hod
  clear h hb1 hbx hW1 hP hod hodc hdl
  rcases hat with ⟨rfl, hnone⟩ | ⟨g, rfl, _, hgr⟩
  · have hF : fndF F d q ((ev : Int), (fr : Int)) = updF F d q ((ev : Int), (fr : Int)) := by unfold fndF; rw [if_pos (hnone q)]
    have hP : fndP F d q ps = ps ++ [(d, q)] := by unfold fndP; rw [if_pos (hnone q)]
    rw [hF, hP]
    have HNO := Lib.hid hnone
    obtain ⟨Aq, cq, hvq, hqn, hqc⟩ := HL1.out.qo.shape
    subst hvq
    have hfd := HL1.out.og.row.frozen d
    have hbz1 := HL1.out.bel.size
    have hl0 := HL1.out.ob.lt
    have hl3 := HL1.out.ox.lt
    have hPne : P ≠ w0.heap.size + 1 + 1 := fun e => rows_neJ HX1.out HL1.out.og.row (by decide) e
    have hl2 := HL1.out.og.row.lt
    clear hF hP hnone
    have a0 := fun cs : Array Value => fun ty => (World.cell?_alloc_lt W1 (.cells cs ty) ⟨w0.heap.size + 1 + 1 + 1, 0, none⟩ hl3).trans hx0
    have a1 := fun cs : Array Value => fun ty => (World.cell?_alloc_lt W1 (.cells cs ty) ⟨P, 0, none⟩ hz1).trans hp0
    have a2 := fun cs : Array Value => fun ty => (World.cell?_alloc_lt W1 (.cells cs ty) ⟨w0.heap.size, 0, none⟩ hl0).trans ho0
    have a3 := fun cs : Array Value => fun ty => (World.cell?_alloc_lt W1 (.cells cs ty) ⟨w0.heap.size + 1 + 1, d, none⟩ hl2).trans hcd
    have a4 := fun cs : Array Value => fun ty => (frozen?_alloc_cells W1 cs ty ⟨w0.heap.size + 1 + 1, d, none⟩).trans hfd
    have hsc : ∀ (W : World) (p : Addr) (v : Value), (W.setCell p v).heap.size = W.heap.size := fun W p v => by simp [World.setCell]
    have b0 := fun v : Value => fun cs : Array Value => fun ty => (World.cell?_alloc_lt (W1.setCell ⟨w0.heap.size + 1 + 1, d, none⟩ v) (.cells cs ty) ⟨w0.heap.size + 1 + 1 + 1, 0, none⟩ (by rw [hsc]; exact hl3)).trans ((cell_setT (by omega)).trans hx0)
    have b1 := fun v : Value => fun cs : Array Value => fun ty => (World.cell?_alloc_lt (W1.setCell ⟨w0.heap.size + 1 + 1, d, none⟩ v) (.cells cs ty) ⟨P, 0, none⟩ (by rw [hsc]; exact hz1)).trans ((cell_setT hPne).trans hp0)
    have b2 := fun v : Value => fun cs : Array Value => fun ty => (World.cell?_alloc_lt (W1.setCell ⟨w0.heap.size + 1 + 1, d, none⟩ v) (.cells cs ty) ⟨w0.heap.size, 0, none⟩ (by rw [hsc]; exact hl0)).trans ((cell_setT (by omega)).trans ho0)
    go_enter Try.func68, Try.ntmps68
    go_upto_region 1 with fail
    rw [← HW1.out, ← HP.out]
    go_wp2_with fail
    go_region_held3 (fun w' => w'.cell? ⟨w0.heap.size + 1 + 1 + 1, 0, none⟩ = some (.slice (some ⟨w0.heap.size + 1 + 1, 0, none⟩) (l + 1) (l + 1)) ∧ w'.cell? ⟨P, 0, none⟩ = some (.int .i64 (d : Int)) ∧ w'.cell? ⟨w0.heap.size, 0, none⟩ = some (.slice (some ⟨bg, 0, none⟩) S S)) (first | exact ⟨hx0, hp0, ho0⟩ | exact ⟨a0 _ _, a1 _ _, a2 _ _⟩ | exact ⟨b0 _ _ _, b1 _ _ _, b2 _ _ _⟩) (fail)
    obtain ⟨g, hg⟩ : ∃ g, g = W1.heap.size := ⟨_, rfl⟩
    obtain ⟨ogs2, hogs2⟩ : ∃ o, o = ogs.set d (.slice (some ⟨g, 0, none⟩) S S) := ⟨_, rfl⟩
    have hlm := HL1.out.made hd HNO.out
    rw [World.setCell_alloc_past (hn := hl2), ← hg, ← hogs2] at hlm
    rw [← hg]
    have hrm : Row ((W1.setCell ⟨w0.heap.size + 1 + 1, d, none⟩ (.slice (some ⟨g, 0, none⟩) S S)).alloc (.cells (orgL (fun _ _ => none) S 0).toArray 119)) g 119 (orgL F S d) := by
      rw [org_none HNO.out, ← World.setCell_alloc_past (hn := hl2)]
      refine Row.setOther (p := ⟨w0.heap.size + 1 + 1, d, none⟩) ?_ (by show g ≠ w0.heap.size + 1 + 1; omega) _
      rw [hg]; exact Row.new W1 _ _
    have hxm : Row ((W1.setCell ⟨w0.heap.size + 1 + 1, d, none⟩ (.slice (some ⟨g, 0, none⟩) S S)).alloc (.cells (orgL (fun _ _ => none) S 0).toArray 119)) P 113 [.int .i64 (d : Int), .int .i64 (q : Int)] := (Row.setOther (p := ⟨w0.heap.size + 1 + 1, d, none⟩) HX1.out hPne _).alloc _
    have hkm : ∀ g' e cs, Row w g' e cs → e ≠ 114 → Row ((W1.setCell ⟨w0.heap.size + 1 + 1, d, none⟩ (.slice (some ⟨g, 0, none⟩) S S)).alloc (.cells (orgL (fun _ _ => none) S 0).toArray 119)) g' e cs := fun g' e cs hr he =>
      (Row.setOther (p := ⟨w0.heap.size + 1 + 1, d, none⟩) (HKW.out g' e cs hr) (rows_neJ (HKW.out g' e cs hr) HL1.out.og.row he) _).alloc _
    obtain ⟨Wn, hWn⟩ : ∃ W, W = ((W1.setCell ⟨w0.heap.size + 1 + 1, d, none⟩ (.slice (some ⟨g, 0, none⟩) S S)).alloc (.cells (orgL (fun _ _ => none) S 0).toArray 119)).drew := ⟨_, rfl⟩
    have HLn := Lib.hid (show LS w0 Wn (.slice (some ⟨bg, 0, none⟩) S S) vk er S l F ogs2 (.slice Aq ps.length cq) ps from by rw [hWn]; exact hlm.call (Below.drew (Below.refl _ _)))
    have HXn := Lib.hid (show Row Wn P 113 [.int .i64 (d : Int), .int .i64 (q : Int)] from by rw [hWn]; exact hxm)
    have HGn := Lib.hid (show Row Wn g 119 (orgL F S d) from by rw [hWn]; exact hrm)
    have HKn := Lib.hid (show ∀ g' e cs, Row w g' e cs → e ≠ 114 → Row Wn g' e cs from fun g' e cs hr he => by rw [hWn]; exact hkm g' e cs hr he)
    have HSn := Lib.hid (show w.heap.size ≤ Wn.heap.size from by rw [hWn]; have := HSZ.out; simp; omega)
    have HODn := Lib.hid (show (.slice (some ⟨g, 0, none⟩) S S : Value) = ogs2.getD d undef from by rw [hogs2, getD_set (by rw [HL1.out.og.len]; omega), if_pos rfl])
    rw [← hWn]
    clear hlm hrm hxm hkm hWn a0 a1 a2 a3 a4 b0 b1 b2 hx0 hcd hp0 hp1 ho0 hqb hfd HMK HOD HL1 HX1 HKW HSZ HW1 hg hsc
    have y0 := HLn.out.ox.cell 0 rfl
    have y1 := HXn.out.cell 0 rfl
    have y2 := HXn.out.cell 1 rfl
    have y3 := HLn.out.og.row.cell d (v := .slice (some ⟨g, 0, none⟩) S S) (by rw [hogs2, List.getElem?_set_self (by rw [← List.length_set, ← hogs2, HLn.out.og.len]; omega)])
    have y4 := HLn.out.ob.cell 0 (show (obL (.slice (some ⟨bg, 0, none⟩) S S) vk er)[0]? = some (.slice (some ⟨bg, 0, none⟩) S S) from rfl)
    have y5 := HLn.out.qb.cell 0 rfl
    have HO2 := Lib.hid hogs2
    clear hogs2
    have hcf : Wn.cell? ⟨g, q * 3, none⟩ = some (.bool false) := by have := HGn.out.cell (q * 3 + 0) (org_at hq (by omega)); rw [HNO.out q] at this; exact this
    have hcf1 : Wn.cell? ⟨g, q * 3 + 1, none⟩ = some (.int .i8 0) := by have := HGn.out.cell (q * 3 + 1) (org_at hq (by omega)); rw [HNO.out q] at this; exact this
    have hcf2 : Wn.cell? ⟨g, q * 3 + 2, none⟩ = some (.int .i16 0) := by have := HGn.out.cell (q * 3 + 2) (org_at hq (by omega)); rw [HNO.out q] at this; exact this
    have ff0 := HGn.out.frozen (q * 3)
    have ff1 := HGn.out.frozen (q * 3 + 1)
    have ff2 := HGn.out.frozen (q * 3 + 2)
    go_wp2_with fail
    go_quiet (fail)
    have HL2 := Lib.hid (HLn.out.call (below_drewN (Below.refl _ _) nq))
    have HX2 := Lib.hid (show Row (Wn.drewN nq) P 113 [.int .i64 (d : Int), .int .i64 (q : Int)] from HXn.out)
    have HK2 := Lib.hid (show ∀ g e cs, Row w g e cs → e ≠ 114 → Row (Wn.drewN nq) g e cs from fun g e cs hr he => HKn.out g e cs hr he)
    have HG2 := Lib.hid (show Row (Wn.drewN nq) g 119 (orgL F S d) from HGn.out)
    have HS2 := Lib.hid (show w.heap.size ≤ (Wn.drewN nq).heap.size from HSn.out)
    have k0 : (Wn.drewN nq).cell? ⟨g, q * 3, none⟩ = some (.bool false) := hcf
    have k1 : (Wn.drewN nq).cell? ⟨g, q * 3 + 1, none⟩ = some (.int .i8 0) := hcf1
    have k2 : (Wn.drewN nq).cell? ⟨g, q * 3 + 2, none⟩ = some (.int .i16 0) := hcf2
    have m0 : (Wn.drewN nq).frozen? ⟨g, q * 3, none⟩ = false := ff0
    have m1 : (Wn.drewN nq).frozen? ⟨g, q * 3 + 1, none⟩ = false := ff1
    have m2 : (Wn.drewN nq).frozen? ⟨g, q * 3 + 2, none⟩ = false := ff2
    clear hcf hcf1 hcf2 ff0 ff1 ff2 y0 y1 y2 y3 y4 y5 HLn HXn HKn HGn HSn
    generalize Wn.drewN nq = W2 at *
    obtain ⟨W3, hW3⟩ : ∃ W, W = ((W2.setCell ⟨g, q * 3, none⟩ (.bool true)).setCell ⟨g, q * 3 + 1, none⟩ (.int .i8 (ev : Int))).setCell ⟨g, q * 3 + 2, none⟩ (.int .i16 (fr : Int)) := ⟨_, rfl⟩
    have hoth : ∀ g' e cs, Row W2 g' e cs → g' ≠ g → Row W3 g' e cs := fun g' e cs hr hne => by
      rw [hW3]; exact ((hr.setOther (p := ⟨g, q * 3, none⟩) hne _).setOther (p := ⟨g, q * 3 + 1, none⟩) hne _).setOther (p := ⟨g, q * 3 + 2, none⟩) hne _
    have hqb3 := hoth _ _ _ HL2.out.qb (rows_neJ HL2.out.qb HG2.out (by decide))
    have hx3 := hoth _ _ _ HX2.out (rows_neJ HX2.out HG2.out (by decide))
    have hqo3 : ownsTail W3 w0.heap.size 113 2 (.slice Aq ps.length cq) ps.length (encP ps) := HL2.out.qo.same fun k hk => by
      have hkg : k ≠ g := fun e => tail_ne HG2.out HL2.out.qo (by decide) (by rw [hk, e])
      rw [hW3, Below.heap_setCell _ _ _ _ hkg, Below.heap_setCell _ _ _ _ hkg, Below.heap_setCell _ _ _ _ hkg]
    have hs3 : W3.heap.size = W2.heap.size := by rw [hW3]; simp [World.setCell]
    have HQ3 := Lib.hid hqo3
    have HQB3 := Lib.hid hqb3
    have c3 := hqb3.cell 0 rfl
    have e3 := hx3.cell 0 rfl
    have g3 := hx3.cell 1 rfl
    have HOTH := Lib.hid hoth
    have hbz := HL2.out.bel.size
    rw [hW3] at c3 e3 g3
    have HW3 := Lib.hid hW3
    obtain ⟨iP, iP0, iP1, iP2, iP3⟩ := info_parts info_placeJ
    clear hoth hqb3 hx3 hqo3 hW3
    go_wp2_with (at_builtin; refine wpList_append_tail _ rfl (.tmp 44) (.tmp 46) 110 rfl w0.heap.size 113 iP _ 2 16 Try.underlying110 iP0 iP1 iP2 iP3 rfl (by omega) _ ps.length (encP ps) rfl (by rw [← HW3.out]; exact HQ3.out.below ((Below.refl _ W3).alloc (Nat.le_refl _) (.cells #[.int .i64 (d : Int), .int .i64 (q : Int)] 113))) ⟨W2.heap.size, 0, none⟩ 1 1 [.int .i64 (d : Int), .int .i64 (q : Int)] (by rw [← hs3]; rfl) rfl (by rw [← HW3.out, ← hs3]; exact World.news_of_block (cs := #[.int .i64 (d : Int), .int .i64 (q : Int)]) (t := 113) (fr := (0, 0)) (heap_alloc_new W3 _)) (by simp [Value.oneCell']) (by unfold maxLen; omega) (by omega) (by rw [← HW3.out]; simp; omega) ?_; intro v4 w4 ho4 hg4 hat4
                 have hg4' : (W3.alloc (.cells #[.int .i64 (d : Int), .int .i64 (q : Int)] 113)).grownBy w4 (Value.slice Aq ps.length cq).ownBlock := by rw [HW3.out]; exact hg4
                 obtain ⟨A4, c4, hv4, _, _⟩ := ho4.shape; subst hv4
                 have hq4 := (HQB3.out.alloc (.cells #[.int .i64 (d : Int), .int .i64 (q : Int)] 113)).grown hg4' (tail_ne HQB3.out HQ3.out (by decide))
                 have c4q := hq4.cell 0 rfl
                 have f4q := hq4.frozen 0
                 have HO4 := Lib.hid ho4; have HG4 := Lib.hid hg4'; have HAT4 := Lib.hid (show (Value.slice A4 (ps.length + 1) c4).ownBlock = (Value.slice Aq ps.length cq).ownBlock ∨ (Value.slice A4 (ps.length + 1) c4).ownBlock = some (W3.alloc (.cells #[.int .i64 (d : Int), .int .i64 (q : Int)] 113)).heap.size from by rw [HW3.out]; exact hat4)
                 clear ho4 hg4 hg4' hq4 hat4)
    go_end0
    have hLF := HL2.out.found (q := q) hd ((ev : Int), (fr : Int)) HODn.out.symm (o := .cells #[.int .i64 (d : Int), .int .i64 (q : Int)] 113) HO4.out (by have := HG4.out; rw [HW3.out] at this; exact this)
    refine ⟨rfl, ogs2, _, hLF, ?_⟩
    have hsz4 : W2.heap.size ≤ w4.heap.size := by have := HG4.out.size; rw [World.size_alloc, hs3] at this; omega
    refine ⟨by have := HS2.out; simp [World.setCell]; omega, fun g' e cs hr h1 h2 h3 h4 => ?_⟩
    have r2 := HK2.out g' e cs hr h2
    have r3 := HOTH.out g' e cs r2 (rows_neJ r2 HG2.out h3)
    have r4 : Row w4 g' e cs := (r3.alloc _).grown HG4.out h4
    refine ⟨Row.setOther (p := ⟨w0.heap.size + 1, 0, none⟩) r4 (rows_neJ r2 HL2.out.qb h1) _, fun e' => ?_⟩
    rcases HAT4.out with h5 | h5
    · rw [h5] at e'; exact h4 e'
    · rw [h5] at e'
      have := r2.lt
      have h6 : (W3.alloc (.cells #[.int .i64 (d : Int), .int .i64 (q : Int)] 113)).heap.size = W2.heap.size + 1 := by rw [World.size_alloc, hs3]
      injection e' with e'
      omega
  · obtain ⟨o, ho⟩ : ∃ o, o = F d q := ⟨_, rfl⟩
    have hcf : W1.cell? ⟨g, q * 3, none⟩ = some (.bool o.isSome) := by
      have := HKW.out _ _ _ hgr |>.cell (q * 3 + 0) (org_at hq (by omega))
      rw [← ho] at this; exact this
    cases o with
    | some y =>
      have hF : fndF F d q ((ev : Int), (fr : Int)) = F := by unfold fndF; rw [if_neg (by rw [← ho]; simp)]
      have hP : fndP F d q ps = ps := by unfold fndP; rw [if_neg (by rw [← ho]; simp)]
      rw [hF, hP]
      clear hF hP ho hgr HMK
      rw [show (Option.isSome (some y)) = true from rfl] at hcf
      go_enter Try.func68, Try.ntmps68
      go_upto_region 1 with fail
      rw [← HW1.out, ← HP.out]
      go_wp2_with fail
      go_quiet (fail)
      go_wp2_with fail
      go_end0
      refine ⟨rfl, ogs, vq, HL1.out.call (below_drewN (Below.refl _ _) _), ?_⟩
      exact ⟨HSZ.out, fun g e cs hr _ _ _ h4 => ⟨HKW.out g e cs hr, h4⟩⟩
    | none =>
      have hF : fndF F d q ((ev : Int), (fr : Int)) = updF F d q ((ev : Int), (fr : Int)) := by unfold fndF; rw [if_pos ho.symm]
      have hP : fndP F d q ps = ps ++ [(d, q)] := by unfold fndP; rw [if_pos ho.symm]
      rw [hF, hP]
      have hgr1 := HKW.out _ _ _ hgr
      have hcf1 : W1.cell? ⟨g, q * 3 + 1, none⟩ = some (orgC none 1) := by have := hgr1.cell (q * 3 + 1) (org_at hq (by omega)); rw [← ho] at this; exact this
      have hcf2 : W1.cell? ⟨g, q * 3 + 2, none⟩ = some (orgC none 2) := by have := hgr1.cell (q * 3 + 2) (org_at hq (by omega)); rw [← ho] at this; exact this
      rw [show orgC none 1 = .int .i8 0 from rfl] at hcf1
      rw [show orgC none 2 = .int .i16 0 from rfl] at hcf2
      have ff0 := hgr1.frozen (q * 3)
      have ff1 := hgr1.frozen (q * 3 + 1)
      have ff2 := hgr1.frozen (q * 3 + 2)
      have HGR := Lib.hid hgr1
      clear hF hP ho HMK hgr hgr1
      rw [show (Option.isSome (none : Option (Int × Int))) = false from rfl] at hcf
      obtain ⟨Aq, cq, hvq, hqn, hqc⟩ := HL1.out.qo.shape
      subst hvq
      go_enter Try.func68, Try.ntmps68
      go_upto_region 1 with fail
      rw [← HW1.out, ← HP.out]
      go_wp2_with fail
      go_quiet (fail)
      have HL2 := Lib.hid (HL1.out.call (below_drewN (Below.refl _ _) nq))
      have HX2 := Lib.hid (show Row (W1.drewN nq) P 113 [.int .i64 (d : Int), .int .i64 (q : Int)] from HX1.out)
      have HK2 := Lib.hid (show ∀ g e cs, Row w g e cs → Row (W1.drewN nq) g e cs from fun g e cs hr => HKW.out g e cs hr)
      have HG2 := Lib.hid (show Row (W1.drewN nq) g 119 (orgL F S d) from HGR.out)
      have HS2 := Lib.hid (show w.heap.size ≤ (W1.drewN nq).heap.size from HSZ.out)
      have k0 : (W1.drewN nq).cell? ⟨g, q * 3, none⟩ = some (.bool false) := hcf
      have k1 : (W1.drewN nq).cell? ⟨g, q * 3 + 1, none⟩ = some (.int .i8 0) := hcf1
      have k2 : (W1.drewN nq).cell? ⟨g, q * 3 + 2, none⟩ = some (.int .i16 0) := hcf2
      have m0 : (W1.drewN nq).frozen? ⟨g, q * 3, none⟩ = false := ff0
      have m1 : (W1.drewN nq).frozen? ⟨g, q * 3 + 1, none⟩ = false := ff1
      have m2 : (W1.drewN nq).frozen? ⟨g, q * 3 + 2, none⟩ = false := ff2
      clear hcf hcf1 hcf2 ff0 ff1 ff2 hx0 hcd hp0 hp1 ho0 hqb HL1 HX1 HKW HGR HSZ HW1
      generalize W1.drewN nq = W2 at *
      obtain ⟨W3, hW3⟩ : ∃ W, W = ((W2.setCell ⟨g, q * 3, none⟩ (.bool true)).setCell ⟨g, q * 3 + 1, none⟩ (.int .i8 (ev : Int))).setCell ⟨g, q * 3 + 2, none⟩ (.int .i16 (fr : Int)) := ⟨_, rfl⟩
      have hoth : ∀ g' e cs, Row W2 g' e cs → g' ≠ g → Row W3 g' e cs := fun g' e cs hr hne => by
        rw [hW3]; exact ((hr.setOther (p := ⟨g, q * 3, none⟩) hne _).setOther (p := ⟨g, q * 3 + 1, none⟩) hne _).setOther (p := ⟨g, q * 3 + 2, none⟩) hne _
      have hqb3 := hoth _ _ _ HL2.out.qb (rows_neJ HL2.out.qb HG2.out (by decide))
      have hx3 := hoth _ _ _ HX2.out (rows_neJ HX2.out HG2.out (by decide))
      have hqo3 : ownsTail W3 w0.heap.size 113 2 (.slice Aq ps.length cq) ps.length (encP ps) := HL2.out.qo.same fun k hk => by
        have hkg : k ≠ g := fun e => tail_ne HG2.out HL2.out.qo (by decide) (by rw [hk, e])
        rw [hW3, Below.heap_setCell _ _ _ _ hkg, Below.heap_setCell _ _ _ _ hkg, Below.heap_setCell _ _ _ _ hkg]
      have hs3 : W3.heap.size = W2.heap.size := by rw [hW3]; simp [World.setCell]
      have HQ3 := Lib.hid hqo3
      have HQB3 := Lib.hid hqb3
      have c3 := hqb3.cell 0 rfl
      have e3 := hx3.cell 0 rfl
      have g3 := hx3.cell 1 rfl
      have HOTH := Lib.hid hoth
      have hbz := HL2.out.bel.size
      rw [hW3] at c3 e3 g3
      have HW3 := Lib.hid hW3
      obtain ⟨iP, iP0, iP1, iP2, iP3⟩ := info_parts info_placeJ
      clear hoth hqb3 hx3 hqo3 hW3
      go_wp2_with (at_builtin; refine wpList_append_tail _ rfl (.tmp 44) (.tmp 46) 110 rfl w0.heap.size 113 iP _ 2 16 Try.underlying110 iP0 iP1 iP2 iP3 rfl (by omega) _ ps.length (encP ps) rfl (by rw [← HW3.out]; exact HQ3.out.below ((Below.refl _ W3).alloc (Nat.le_refl _) (.cells #[.int .i64 (d : Int), .int .i64 (q : Int)] 113))) ⟨W2.heap.size, 0, none⟩ 1 1 [.int .i64 (d : Int), .int .i64 (q : Int)] (by rw [← hs3]; rfl) rfl (by rw [← HW3.out, ← hs3]; exact World.news_of_block (cs := #[.int .i64 (d : Int), .int .i64 (q : Int)]) (t := 113) (fr := (0, 0)) (heap_alloc_new W3 _)) (by simp [Value.oneCell']) (by unfold maxLen; omega) (by omega) (by rw [← HW3.out]; simp; omega) ?_; intro v4 w4 ho4 hg4 hat4
                   have hg4' : (W3.alloc (.cells #[.int .i64 (d : Int), .int .i64 (q : Int)] 113)).grownBy w4 (Value.slice Aq ps.length cq).ownBlock := by rw [HW3.out]; exact hg4
                   obtain ⟨A4, c4, hv4, _, _⟩ := ho4.shape; subst hv4
                   have hq4 := (HQB3.out.alloc (.cells #[.int .i64 (d : Int), .int .i64 (q : Int)] 113)).grown hg4' (tail_ne HQB3.out HQ3.out (by decide))
                   have c4q := hq4.cell 0 rfl
                   have f4q := hq4.frozen 0
                   have HO4 := Lib.hid ho4; have HG4 := Lib.hid hg4'; have HAT4 := Lib.hid (show (Value.slice A4 (ps.length + 1) c4).ownBlock = (Value.slice Aq ps.length cq).ownBlock ∨ (Value.slice A4 (ps.length + 1) c4).ownBlock = some (W3.alloc (.cells #[.int .i64 (d : Int), .int .i64 (q : Int)] 113)).heap.size from by rw [HW3.out]; exact hat4)
                   clear ho4 hg4 hg4' hq4 hat4)
      go_end0
      have hLF := HL2.out.found (q := q) hd ((ev : Int), (fr : Int)) HOD.out.symm (o := .cells #[.int .i64 (d : Int), .int .i64 (q : Int)] 113) HO4.out (by have := HG4.out; rw [HW3.out] at this; exact this)
      refine ⟨rfl, ogs, _, hLF, ?_⟩
      have hsz4 : W2.heap.size ≤ w4.heap.size := by have := HG4.out.size; rw [World.size_alloc, hs3] at this; omega
      refine ⟨by have := HS2.out; simp [World.setCell]; omega, fun g' e cs hr h1 h2 h3 h4 => ?_⟩
      have r2 := HK2.out g' e cs hr
      have r3 := HOTH.out g' e cs r2 (rows_neJ r2 HG2.out h3)
      have r4 : Row w4 g' e cs := (r3.alloc _).grown HG4.out h4
      refine ⟨Row.setOther (p := ⟨w0.heap.size + 1, 0, none⟩) r4 (rows_neJ r2 HL2.out.qb h1) _, fun e' => ?_⟩
      rcases HAT4.out with h5 | h5
      · rw [h5] at e'; exact h4 e'
      · rw [h5] at e'
        have := r2.lt
        have h6 : (W3.alloc (.cells #[.int .i64 (d : Int), .int .i64 (q : Int)] 113)).heap.size = W2.heap.size + 1 := by rw [World.size_alloc, hs3]
        injection e' with e'
        omega
end Go.Proofs.Ytmghngehpgolgaa

/- slices.Reverse over a list of ints of the call's own. -/
namespace Go.Proofs.Ytmghngehpgolgaa
open Go.RowKit Go.Sort Go.Lib

set_option maxHeartbeats 1600000 in
set_option maxRecDepth 1000000 in
theorem reverse_arr (blk off cap : Nat) (d : Array Int) (w : World) (hH : Holds (Value.int .i64) w blk off d) (hsz : d.size ≤ 9223372036854775807) :
    Calls Try.prog 91 #[.slice (some ⟨blk, off, none⟩) d.size cap] w fun e w' => e = .returned (.tuple #[]) ∧ ∃ n, w' = putRow (Value.int .i64) (Sort.ahead w n) blk off d.reverse := by
  go_enter Try.func91, Try.ntmps91
  go_wp2
  go_loopg [2, 3] d.size (fun k s2 s3 wr => ∃ (i jn : Nat) (jz : Int) (dk : Array Int) (n : Nat), s2 = .int .i64 i ∧ s3 = .int .i64 jz ∧ ((i : Int) < jz → jz = jn ∧ jn < d.size) ∧ (¬ (i : Int) < jz → ¬ i < jn) ∧ jn - i ≤ k ∧
    dk.size = d.size ∧ wr = putRow (Value.int .i64) (Sort.ahead w n) blk off dk ∧ reverseLoop i jn dk = reverseLoop 0 (d.size - 1) d)
  case atStart => exact ⟨0, d.size - 1, (d.size : Int) - 1, d, 0, rfl, rfl, fun h => ⟨by omega, by omega⟩, fun h => by omega, by omega, rfl, (putRow_self (Value.int .i64) w blk off d hH).symm, rfl⟩
  case round =>
    obtain ⟨i, jn, jz, dk, n, rfl, rfl, h1, h2, hk, hds, hwr, heq⟩ := hrel
    by_cases hlt : (i : Int) < jz
    · obtain ⟨rfl, hjn⟩ := h1 hlt
      have hij : i < jn := by omega
      have hHk : Holds (Value.int .i64) wr blk off dk := by rw [hwr]; exact holds_putRow (Value.int .i64) _ blk off d dk (holds_ahead (Value.int .i64) w n blk off d hH) hds
      obtain ⟨ci, fi⟩ := hHk i (by omega)
      obtain ⟨cj, fj⟩ := hHk jn (by omega)
      have A : Aside (wr = putRow (Value.int .i64) (Sort.ahead w n) blk off dk) := hwr
      clear hwr hHk hH h1 h2
      have hi2 : i < d.size := by omega
      go_wp2_with fail
      go_region_law (fail)
      all_goals
        go_wp2_with fail
        go_roundg (jn - 1 - (i + 1))
        case measure => omega
        case rel =>
          rw [reverseLoop, if_pos hij] at heq
          exact ⟨i + 1, jn - 1, (jn : Int) - 1, swp dk i jn, n + 1, by simp, rfl, fun h => ⟨by omega, by omega⟩, fun h => by omega, Nat.le_refl _, by rw [size_swp]; exact hds,
            swap_world (Value.int .i64) (by omega) (by omega) A.out (by first | rfl | simp [getElem!_pos, show jn < dk.size by omega]) (by first | rfl | simp [getElem!_pos, show i < dk.size by omega]), heq⟩
    · have hnot := h2 hlt
      go_wp2
      go_end0
      refine ⟨rfl, n, ?_⟩
      rw [reverseLoop, if_neg hnot] at heq
      rw [← Lib.reverseLoop_reverse, ← heq]
theorem reverse_own {base : Nat} {v : Value} {zs : List Int} (w : World) (h : Own w base v zs) (hl : zs.length ≤ 1000000) :
    Calls Try.prog 91 #[v] w fun e w' => e = .returned (.tuple #[]) ∧ Own w' base v zs.reverse ∧ w.grownBy w' v.ownBlock := by
  rcases h.2 with ⟨rfl, h0⟩ | ⟨g, cap, cur, rfl, hb, hh, hn, hcap, hsz, htake⟩
  · have hz : zs = [] := List.eq_nil_of_length_eq_zero h0
    subst hz
    go_enter Try.func91, Try.ntmps91
    go_wp2
    go_loop [2, 3] (fun a b => a = .int .i64 0 ∧ b = .int .i64 (-1)) (fun _ _ => 0)
    case atStart => exact ⟨rfl, rfl⟩
    case round =>
      obtain ⟨rfl, rfl⟩ := hrel
      go_wp2
      go_end0
      exact ⟨rfl, by simpa using h, ⟨rfl, rfl, rfl, Nat.le_refl _, fun _ _ _ => rfl⟩⟩
  · rw [Nat.mul_one] at htake hsz
    have hH := holds_of_blockI (ss := zs) hh htake
    have hcon := reverse_arr g 0 cap zs.toArray w hH (by simp; omega)
    rw [List.size_toArray] at hcon
    refine hcon.mono ?_
    rintro e w' ⟨rfl, n, rfl⟩
    have e1 : putRow (Value.int .i64) (Sort.ahead w n) g 0 zs.toArray.reverse = grow (putRow (Value.int .i64) (Sort.ahead w n) g 0 zs.reverse.toArray) #[] := by
      rw [List.reverse_toArray]; simp [grow]; rfl
    rw [e1]
    refine ⟨rfl, ?_, grownBy_sortedI _⟩
    have := ownsRow_sortedI (base := base) (n := n) (os := #[]) (ss := zs) (ts := zs.reverse) (by simp) hb hh hn hcap (by omega)
    unfold Own
    rw [List.length_reverse]
    exact this
end Go.Proofs.Ytmghngehpgolgaa

/- Layer 7: wordTo: the word that led to a place. -/
namespace Go.Proofs.Ytmghngehpgolgaa
open Go.RowKit Go.Sort

/-- A word that led to a place. -/
inductive WT (F : FoM) (er : List Int) (S l : Nat) : Nat → Nat → List Int → Prop
  | root : 0 < S → WT F er S l 0 0 []
  | step {d q d' q' : Nat} {v : List Int} {e : Nat} : d ≤ l → q < S → ¬ (d = 0 ∧ q = 0) → F d q = some ((e : Int), (q' : Int)) → e < 32 → q' < 4096 → (if (e : Int) ∈ er then d' = d else d = d' + 1) → WT F er S l d' q' v → WT F er S l d q (v ++ [(e : Int)])
theorem exec_nePlace (a : Act) (d q : Nat) (dst : Option Nat) (T : TypeId) (pos : String) (af) (w : World) (hx : a.eval (.tmp 9) = .agg #[.int .i64 (d : Int), .int .i64 (q : Int)]) (hy : a.eval (.tmp 10) = .agg #[.int .i64 0, .int .i64 0]) :
    (execOp a.eval { dst := dst, op := .binOp .neq 113 (.tmp 9) (.tmp 10) 113, type := T, pos := pos, after := af, guard := none }).run Try.prog w = .ok (.value (.bool (!decide (d = 0 ∧ q = 0)))) w := by
  by_cases h1 : d = 0
  · by_cases h2 : q = 0
    · subst h1 h2
      unfold execOp
      simp only [hx, hy]
      kernel_rfl
    · subst h1
      have h3 : ¬ (q : Int) = 0 := by omega
      unfold execOp
      simp only [hx, hy]
      go_simp
  · have h3 : ¬ (d : Int) = 0 := by omega
    unfold execOp
    simp only [hx, hy]
    go_simp
theorem wpList_nePlace {ops : Array Oper} {rest : List Oper} {a : Act} {w : World} {Q : Exit → Act → World → Prop} {dst : Option Nat} {T : TypeId} {pos : String} {af : Array Edge} (d q : Nat) (hx : a.eval (.tmp 9) = .agg #[.int .i64 (d : Int), .int .i64 (q : Int)]) (hy : a.eval (.tmp 10) = .agg #[.int .i64 0, .int .i64 0]) (b : Bool) (hb : (!decide (d = 0 ∧ q = 0)) = b)
    (h : wpList Try.prog ops Q rest (a.put dst (.bool b)) w) : wpList Try.prog ops Q ({ dst := dst, op := .binOp .neq 113 (.tmp 9) (.tmp 10) 113, type := T, pos := pos, after := af, guard := none } :: rest) a w := by
  subst hb
  refine wpList_plain rfl fun K hK => ?_
  unfold Oper.wp
  rw [exec_nePlace a d q dst T pos af w hx hy]
  exact hK _ _ h
/-- What wordTo keeps. -/
structure WI (w wr : World) (gv vk : Value) (er : List Int) (d q : Nat) (vw : Value) (W : List Int) : Prop where
  bel : Below w.heap.size w wr
  ob : Row wr w.heap.size 64 (obL gv vk er)
  pb : Row wr (w.heap.size + 1) 113 [.int .i64 (d : Int), .int .i64 (q : Int)]
  wd : Own wr w.heap.size vw W
set_option maxHeartbeats 8000000 in
set_option maxRecDepth 100000 in
theorem jWordTo_any (gv vk : Value) (er : List Int) (bo base S l d0 q0 : Nat) (F : FoM) (ogs : List Value) (v0 : List Int) (w : World) (h : OG w bo base S l F ogs) (ht : WT F er S l d0 q0 v0) (hv : v0.length ≤ 100000) (hS : S ≤ 4096) (hl : l ≤ 100000) (hz : base ≤ w.heap.size) :
    Calls Try.prog 69 #[.agg (obL gv vk er).toArray, .agg #[.int .i64 (d0 : Int), .int .i64 (q0 : Int)], .slice (some ⟨bo, 0, none⟩) (l + 1) (l + 1)] w fun e w' => ∃ v, e = .returned v ∧ Own w' w.heap.size v v0 ∧ Below w.heap.size w w' := by
  have HO := Lib.hid h
  have HT := Lib.hid ht
  have HI0 := Lib.hid (show WI w ((w.alloc (.cells (obL gv vk er).toArray 64)).alloc (.cells #[.int .i64 (d0 : Int), .int .i64 (q0 : Int)] 113)) gv vk er d0 q0 (.slice none 0 0) [] from
    ⟨((Below.refl _ w).alloc (Nat.le_refl _) _).alloc (by simp) _, (ob_box w gv vk er).alloc _, by
      have := Row.new (w.alloc (.cells (obL gv vk er).toArray 64)) [.int .i64 (d0 : Int), .int .i64 (q0 : Int)] 113
      rw [World.size_alloc] at this; exact this, World.ownsRow_nil _ _ _ _⟩)
  clear h ht
  go_enter Try.func69, Try.ntmps69
  go_wp2_with fail
  go_loopg [7] v0.length (fun k vw wr => ∃ (d q : Nat) (v W : List Int), k = v.length ∧ Hid (WI w wr gv vk er d q vw W) ∧ Hid (WT F er S l d q v) ∧ Hid (v0 = v ++ W.reverse))
  case atStart => exact ⟨d0, q0, v0, [], rfl, HI0, HT, Lib.hid (by simp)⟩
  case round =>
    clear HI0 HT
    obtain ⟨d, q, v, W, hkv, hwi, hwt, hvw⟩ := hrel
    have hbz := hwi.out.bel.size
    have p0 := hwi.out.pb.cell 0 rfl
    have p1 := hwi.out.pb.cell 1 rfl
    cases hwt.out with
    | root hS0 =>
      obtain ⟨Aw, cw, hvw', _, _, _⟩ := own_rdc hwi.out.wd
      have HRV := Lib.hid (reverse_own wr hwi.out.wd (by have := congrArg List.length hvw.out; simp at this; omega))
      obtain ⟨W', hW'⟩ : ∃ W', W' = W.length := ⟨_, rfl⟩
      rw [← hW'] at hvw'
      subst hvw'
      clear hkv hwt hW'
      go_wp2_with fail
      refine HRV.out.mono ?_
      rintro e w5 ⟨rfl, ho5, hg5⟩
      have HB5 := Lib.hid (hwi.out.bel.grown hg5 hbz (fun k hk => (hwi.out.wd.lt k hk).1))
      go_wp2_with fail
      go_ret
      refine ⟨_, rfl, ?_, HB5.out⟩
      have := hvw.out
      rw [List.nil_append] at this
      rw [this]; exact ho5
    | @step _ _ d' q' v' e hd hq hne hF he hf hdd hwt' =>
      have hrow : ∃ g, ogs.getD d undef = .slice (some ⟨g, 0, none⟩) S S ∧ Row w g 119 (orgL F S d) := by
        rcases HO.out.at_ d hd with ⟨_, h2⟩ | ⟨g, h1, _, h3⟩
        · rw [h2 q] at hF; cases hF
        · exact ⟨g, h1, h3⟩
      obtain ⟨g, hgd, hgr⟩ := hrow
      have hcd : wr.cell? ⟨bo, d, none⟩ = some (.slice (some ⟨g, 0, none⟩) S S) := by
        refine (hwi.out.bel.cell (p := ⟨bo, d, none⟩) HO.out.row.lt).trans (HO.out.row.cell d ?_)
        rw [← hgd, List.getD, List.getElem?_eq_getElem (by rw [HO.out.len]; omega)]; rfl
      have o0 : wr.cell? ⟨g, q * 3, none⟩ = some (.bool true) := by
        have := (hwi.out.bel.cell (p := ⟨g, q * 3 + 0, none⟩) hgr.lt).trans (hgr.cell (q * 3 + 0) (org_at hq (by omega)))
        rw [hF] at this; exact this
      have o1 : wr.cell? ⟨g, q * 3 + 1, none⟩ = some (.int .i8 (e : Int)) := by
        have := (hwi.out.bel.cell (p := ⟨g, q * 3 + 1, none⟩) hgr.lt).trans (hgr.cell (q * 3 + 1) (org_at hq (by omega)))
        rw [hF] at this; exact this
      have o2 : wr.cell? ⟨g, q * 3 + 2, none⟩ = some (.int .i16 (q' : Int)) := by
        have := (hwi.out.bel.cell (p := ⟨g, q * 3 + 2, none⟩) hgr.lt).trans (hgr.cell (q * 3 + 2) (org_at hq (by omega)))
        rw [hF] at this; exact this
      have hgl : g < wr.heap.size := by have := hgr.lt; omega
      have hbl : bo < wr.heap.size := by have := HO.out.row.lt; omega
      have hpl := hwi.out.pb.lt
      have z0 : (0 : Int) ≤ (d : Int) := by omega
      have z1 : (d : Int) < (l : Int) + 1 := by omega
      have z2 : (0 : Int) ≤ (q : Int) := by omega
      have z3 : (q : Int) < (S : Int) := by omega
      have z4 : (0 : Int) ≤ (e : Int) := by omega
      have z5 : (e : Int) < 32 := by omega
      have z6 : (0 : Int) ≤ (q' : Int) := by omega
      have z7 : (q' : Int) < 4096 := by omega
      have HKV := Lib.hid hkv
      have HWT := Lib.hid hwt'
      have HVW := Lib.hid (show v0 = v' ++ (W ++ [(e : Int)]).reverse by rw [hvw.out]; simp)
      have hWl : W.length ≤ 100000 := by have := congrArg List.length hvw.out; simp at this; omega
      have HF := Lib.hid hF
      have hgE : ∀ cs : Array Value, ∀ ty, (wr.alloc (.cells cs ty)).cell? ⟨bo, d, none⟩ = some (.slice (some ⟨g, 0, none⟩) S S) := fun cs ty => (World.cell?_alloc_lt wr (.cells cs ty) ⟨bo, d, none⟩ hbl).trans hcd
      have a0 := fun cs : Array Value => fun ty => (World.cell?_alloc_lt wr (.cells cs ty) ⟨w.heap.size + 1, 0, none⟩ hpl).trans p0
      have a1 := fun cs : Array Value => fun ty => (World.cell?_alloc_lt wr (.cells cs ty) ⟨w.heap.size + 1, 1, none⟩ hpl).trans p1
      have a2 := fun cs : Array Value => fun ty => (World.cell?_alloc_lt wr (.cells cs ty) ⟨g, q * 3, none⟩ hgl).trans o0
      have a3 := fun cs : Array Value => fun ty => (World.cell?_alloc_lt wr (.cells cs ty) ⟨g, q * 3 + 1, none⟩ hgl).trans o1
      have a4 := fun cs : Array Value => fun ty => (World.cell?_alloc_lt wr (.cells cs ty) ⟨g, q * 3 + 2, none⟩ hgl).trans o2
      have hHd := hwi.out.ob.lt
      obtain ⟨r, hr⟩ : ∃ r, decide ((e : Int) ∈ er) = r := ⟨_, rfl⟩
      have cfl : wr.cell? ⟨w.heap.size, 2 + e, none⟩ = some (.bool r) := by have := hwi.out.ob.cell (2 + e) (ob_at2 gv vk er (by omega)); rw [hr] at this; exact this
      have HR := Lib.hid hr
      have HDD := Lib.hid hdd
      clear hF hwt hgr hgd hwt' hkv hvw hr hdd
      have zne : (!decide (d = 0 ∧ q = 0)) = true := by simp; omega
      obtain ⟨iI, iI0, iI1, iI2, iI3⟩ := info_parts info_int
      go_wp2_with (first | refine wpList_nePlace d q rfl rfl true zne ?_)
      go_region_held3 (fun w' => w'.cell? ⟨w.heap.size + 1, 0, none⟩ = some (.int .i64 (d : Int)) ∧ w'.cell? ⟨w.heap.size + 1, 1, none⟩ = some (.int .i64 (q : Int)) ∧ w'.cell? ⟨bo, d, none⟩ = some (.slice (some ⟨g, 0, none⟩) S S) ∧ w'.cell? ⟨g, q * 3, none⟩ = some (.bool true) ∧ w'.cell? ⟨g, q * 3 + 1, none⟩ = some (.int .i8 (e : Int)) ∧ w'.cell? ⟨g, q * 3 + 2, none⟩ = some (.int .i16 (q' : Int))) (first | exact ⟨p0, p1, hcd, o0, o1, o2⟩ | exact ⟨a0 _ _, a1 _ _, hgE _ _, a2 _ _, a3 _ _, a4 _ _⟩ | go_keep) (fail)
      obtain ⟨E, hE⟩ : ∃ E, E = wr.heap.size := ⟨_, rfl⟩
      have hb5 : Below wr.heap.size wr ((wr.alloc (.cells #[.bool true, .int .i8 (e : Int), .int .i16 (q' : Int)] 119)).drew) := Below.drew ((Below.refl _ _).alloc (Nat.le_refl _) _)
      have hrE : Row ((wr.alloc (.cells #[.bool true, .int .i8 (e : Int), .int .i16 (q' : Int)] 119)).drew) E 119 [.bool true, .int .i8 (e : Int), .int .i16 (q' : Int)] := by rw [hE]; exact Row.new wr [.bool true, .int .i8 (e : Int), .int .i16 (q' : Int)] 119
      have HW5 := Lib.hid (show WI w ((wr.alloc (.cells #[.bool true, .int .i8 (e : Int), .int .i16 (q' : Int)] 119)).drew) gv vk er d q u7 W from
        ⟨hwi.out.bel.trans (hb5.mono hbz), hwi.out.ob.below hb5 hHd, hwi.out.pb.below hb5 hpl, own_below hwi.out.wd hb5⟩)
      rw [← hE]
      clear hwi p0 p1 hcd o0 o1 o2 a0 a1 a2 a3 a4 hgE cfl hb5 hgl hbl hpl hHd hbz hE
      generalize (wr.alloc (.cells #[.bool true, .int .i8 (e : Int), .int .i16 (q' : Int)] 119)).drew = W5 at *
      have HRE := Lib.hid hrE
      have b1 := hrE.cell 1 rfl
      have hbz5 := HW5.out.bel.size
      clear hrE
      go_wp2_with (at_builtin; refine wpList_append_own _ rfl (.tmp 21) (.tmp 25) 22 rfl w.heap.size 3 iI (.int .i64 0) 1 8 Try.underlying22 iI0 iI1 iI2 iI3 rfl (by omega) u7 W.length (W.map (Value.int .i64)) rfl (HW5.out.wd.alloc _) ⟨W5.heap.size, 0, none⟩ 1 1 [.int .i64 (e : Int)] rfl rfl (World.news_of_block (cs := #[.int .i64 (e : Int)]) (t := 3) (fr := (0, 0)) (heap_alloc_new W5 _)) (by simp [Value.oneCell']) (by unfold maxLen; omega) (by omega) (by simp; omega) ?_; intro v6 w6 ho6 hg6 _
                   have hE6 := (HRE.out.alloc (.cells #[.int .i64 (e : Int)] 3)).grown hg6 (row_ne_own HRE.out HW5.out.wd (by decide))
                   have hob6 := (HW5.out.ob.alloc (.cells #[.int .i64 (e : Int)] 3)).grown hg6 (row_ne_own HW5.out.ob HW5.out.wd (by decide))
                   have hpb6 := (HW5.out.pb.alloc (.cells #[.int .i64 (e : Int)] 3)).grown hg6 (row_ne_own HW5.out.pb HW5.out.wd (by decide))
                   have h6 : Own w6 w.heap.size v6 (W ++ [(e : Int)]) := by simpa [Own] using ho6
                   have HW6 := Lib.hid (show WI w w6 gv vk er d q v6 (W ++ [(e : Int)]) from ⟨(HW5.out.bel.alloc hbz5 _).grown hg6 (by simp; omega) (fun j hj => (HW5.out.wd.lt j hj).1), hob6, hpb6, h6⟩)
                   have g1 := hE6.cell 1 rfl
                   have g2 := hE6.cell 2 rfl
                   have cfl := hob6.cell (2 + e) (ob_at2 gv vk er (show e < 32 by omega))
                   rw [HR.out] at cfl
                   have p0 := hpb6.cell 0 rfl
                   have p1 := hpb6.cell 1 rfl
                   have f0 := hpb6.frozen 0
                   have f1 := hpb6.frozen 1
                   clear ho6 hg6 hE6 hob6 hpb6 h6
                   cases r)
      · have hdd : d = d' + 1 := by have := HDD.out; have h := HR.out; rw [if_neg (by simpa using h)] at this; exact this
        have hw := HW6.out
        have hne := row_ne_own hw.pb hw.wd (by decide)
        have hdz : (d : Int) - 1 = (d' : Int) := by omega
        have r1 : Row ((w6.setCell ⟨w.heap.size + 1, 0, none⟩ (.int .i64 (d' : Int))).setCell ⟨w.heap.size + 1, 1, none⟩ (.int .i64 (q' : Int))) (w.heap.size + 1) 113 [.int .i64 (d' : Int), .int .i64 (q' : Int)] := by
          have := (hw.pb.set 0 (.int .i64 ((d : Int) - 1))).set 1 (.int .i64 (q' : Int))
          rw [hdz] at this; exact this
        rw [hdz]
        go_roundg v'.length
        case measure => have := HKV.out; rw [List.length_append, List.length_singleton] at this; omega
        case rel =>
          refine ⟨d', q', v', W ++ [(e : Int)], rfl, Lib.hid ⟨?_, ?_, r1, ?_⟩, HWT, HVW⟩
          · exact (hw.bel.setCell (p := ⟨w.heap.size + 1, 0, none⟩) (by show w.heap.size ≤ w.heap.size + 1; omega) _).setCell (p := ⟨w.heap.size + 1, 1, none⟩) (by show w.heap.size ≤ w.heap.size + 1; omega) _
          · exact (hw.ob.setOther (p := ⟨w.heap.size + 1, 0, none⟩) (by show w.heap.size ≠ w.heap.size + 1; omega) _).setOther (p := ⟨w.heap.size + 1, 1, none⟩) (by show w.heap.size ≠ w.heap.size + 1; omega) _
          · exact ownsRow_setCell_other (a := ⟨w.heap.size + 1, 1, none⟩) (ownsRow_setCell_other (a := ⟨w.heap.size + 1, 0, none⟩) hw.wd hne _) hne _
      · have hdd : d' = d := by have := HDD.out; have h := HR.out; rw [if_pos (by simpa using h)] at this; exact this
        have hw := HW6.out
        have hne := row_ne_own hw.pb hw.wd (by decide)
        have r1 : Row (w6.setCell ⟨w.heap.size + 1, 1, none⟩ (.int .i64 (q' : Int))) (w.heap.size + 1) 113 [.int .i64 (d' : Int), .int .i64 (q' : Int)] := by
          have := hw.pb.set 1 (.int .i64 (q' : Int))
          rw [hdd]; exact this
        go_roundg v'.length
        case measure => have := HKV.out; rw [List.length_append, List.length_singleton] at this; omega
        case rel =>
          refine ⟨d', q', v', W ++ [(e : Int)], rfl, Lib.hid ⟨?_, ?_, r1, ?_⟩, HWT, HVW⟩
          · exact hw.bel.setCell (p := ⟨w.heap.size + 1, 1, none⟩) (by show w.heap.size ≤ w.heap.size + 1; omega) _
          · exact hw.ob.setOther (p := ⟨w.heap.size + 1, 1, none⟩) (by show w.heap.size ≠ w.heap.size + 1; omega) _
          · exact ownsRow_setCell_other (a := ⟨w.heap.size + 1, 1, none⟩) hw.wd hne _
end Go.Proofs.Ytmghngehpgolgaa

/- Layer 7: what lift's search keeps. -/
namespace Go.Proofs.Ytmghngehpgolgaa
open Go.RowKit Go.Sort

/-- The head of the queue is taken. -/
theorem LS.pop {w0 wr : World} {gv vk : Value} {er : List Int} {S l : Nat} {F : FoM} {ogs : List Value} {vq vq' : Value} {p : Nat × Nat} {ps : List (Nat × Nat)} (h : LS w0 wr gv vk er S l F ogs vq (p :: ps)) (ht : ownsTail wr w0.heap.size 113 2 vq' ps.length (encP ps)) :
    LS w0 (wr.setCell ⟨w0.heap.size + 1, 0, none⟩ vq') gv vk er S l F ogs vq' ps :=
  ⟨h.bel.setCell (p := ⟨w0.heap.size + 1, 0, none⟩) (by show w0.heap.size ≤ w0.heap.size + 1; omega) _, Row.setOther (p := ⟨w0.heap.size + 1, 0, none⟩) h.ob (by show w0.heap.size ≠ w0.heap.size + 1; omega) _, h.qb.set 0 vq',
    h.og.same fun g e cs hr he => Row.setOther (p := ⟨w0.heap.size + 1, 0, none⟩) hr (rows_neJ hr h.qb (by rcases he with rfl | rfl <;> decide)) _,
    Row.setOther (p := ⟨w0.heap.size + 1, 0, none⟩) h.ox (by show w0.heap.size + 1 + 1 + 1 ≠ w0.heap.size + 1; omega) _,
    ht.same fun k hk => Below.heap_setCell _ ⟨w0.heap.size + 1, 0, none⟩ _ k fun e => tail_ne h.qb ht (by decide) (by rw [hk, e])⟩
/-- The place of a number. -/
def plD (a : Au) (x : Int) : Nat × Nat := ((x / a.st).toNat, (x % a.st).toNat)
def plE' (a : Au) (d q : Nat) : Int := (d : Int) * a.st + (q : Int)
theorem plD_E {a : Au} {S d q : Nat} (hS : a.st = (S : Int)) (hq : q < S) : plD a (plE' a d q) = (d, q) := by
  obtain ⟨h1, h2⟩ := pl_div (s := a.st) (q := (q : Int)) (d := d) (by omega) (by omega)
  unfold plD plE'
  rw [h1, h2]; simp
theorem WT.mono {F F' : FoM} {er : List Int} {S l : Nat} (hm : ∀ d q x, F d q = some x → F' d q = some x) {d q : Nat} {v : List Int} (h : WT F er S l d q v) : WT F' er S l d q v := by
  induction h with
  | root h => exact .root h
  | step h1 h2 h3 h4 h5 h6 h7 _ ih => exact .step h1 h2 h3 (hm _ _ _ h4) h5 h6 h7 ih
structure LI (a : Au) (er : List Int) (S l : Nat) (T : List (Int × List Int)) (i : Nat) (F : FoM) (ps : List (Nat × Nat)) : Prop where
  inF : ∀ d q, d ≤ l → q < S → (F d q ≠ none ↔ plE' a d q ∈ T.map Prod.fst)
  wt : ∀ p ∈ T, WT F er S l (plD a p.1).1 (plD a p.1).2 p.2
  ps : ps = (T.drop i).map fun p => plD a p.1
  root : F 0 0 ≠ none
theorem upd_same (F : FoM) (d q : Nat) (x : Int × Int) : updF F d q x d q = some x := by unfold updF; simp
theorem upd_keep {F : FoM} {d q : Nat} {x : Int × Int} (hn : F d q = none) : ∀ d' q' y, F d' q' = some y → updF F d q x d' q' = some y := fun d' q' y h => by
  unfold updF
  by_cases h1 : d' = d ∧ q' = q
  · rw [h1.1, h1.2, hn] at h; cases h
  · rw [if_neg h1]; exact h
/-- The search begins. -/
theorem li_start {a : Au} {S l : Nat} (hS : a.st = (S : Int)) (h0 : 0 < S) (er : List Int) (A : Au) : LI a er S l (Tr A 0) 0 (fndF (fun _ _ => none) 0 0 (0, 0)) (fndP (fun _ _ => none) 0 0 []) := by
  have e1 : fndF (fun _ _ => none) 0 0 (0, 0) = updF (fun _ _ => none) 0 0 (0, 0) := by unfold fndF; rw [if_pos rfl]
  have e2 : fndP (fun _ _ => none) 0 0 [] = [(0, 0)] := by unfold fndP; rw [if_pos rfl]; rfl
  have e3 : plD a 0 = (0, 0) := by have := plD_E (d := 0) hS h0; simpa [plE'] using this
  rw [e1, e2]
  refine ⟨fun d q _ hq => ?_, fun p hp => ?_, ?_, by rw [upd_same]; simp⟩
  · simp only [Tr, List.map_cons, List.map_nil, List.mem_singleton]
    constructor
    · intro h
      by_cases h1 : d = 0 ∧ q = 0
      · rw [h1.1, h1.2]; simp [plE']
      · unfold updF at h; rw [if_neg h1] at h; exact absurd rfl h
    · intro h
      have h2 := plD_E (d := d) hS hq
      rw [h, e3] at h2
      injection h2 with h3 h4
      rw [← h3, ← h4, upd_same]; simp
  · simp only [Tr, List.mem_singleton] at hp
    subst hp
    show WT _ er S l (plD a 0).1 (plD a 0).2 []
    rw [e3]; exact .root h0
  · simp [Tr, e3]
/-- One edge of a search. -/
theorem li_step {a : Au} {er : List Int} {S l i : Nat} {T : List (Int × List Int)} {F : FoM} {ps : List (Nat × Nat)} (h : LI a er S l T i F ps) (hS : a.st = (S : Int)) (hi : i ≤ T.length) {d q dn t e : Nat} {w : List Int} (hw : WT F er S l d q w) (hd : dn ≤ l) (ht : t < S) (he : e < 32) (hq : q < 4096) (hdd : if (e : Int) ∈ er then d = dn else dn = d + 1) (f : Int) :
    LI a er S l (visP w T ⟨f, (e : Int), plE' a dn t⟩) i (fndF F dn t ((e : Int), (q : Int))) (fndP F dn t ps) := by
  by_cases hn : F dn t = none
  · have e1 : fndF F dn t ((e : Int), (q : Int)) = updF F dn t ((e : Int), (q : Int)) := by unfold fndF; rw [if_pos hn]
    have e2 : fndP F dn t ps = ps ++ [(dn, t)] := by unfold fndP; rw [if_pos hn]
    have hnm : plE' a dn t ∉ T.map Prod.fst := fun hm => (h.inF dn t hd ht).2 hm hn
    have e3 : visP w T ⟨f, (e : Int), plE' a dn t⟩ = T ++ [(plE' a dn t, w ++ [(e : Int)])] := by unfold visP; rw [if_neg hnm]
    have hk := upd_keep (x := ((e : Int), (q : Int))) hn
    have hnz : ¬ (dn = 0 ∧ t = 0) := fun hz => by
      obtain ⟨rfl, rfl⟩ := hz
      exact h.root hn
    rw [e1, e2, e3]
    refine ⟨fun d' q' hd' hq' => ?_, fun p hp => ?_, ?_, fun h0 => ?_⟩
    · rw [List.map_append, List.mem_append]
      constructor
      · intro h1
        by_cases h2 : d' = dn ∧ q' = t
        · rw [h2.1, h2.2]; exact .inr (by simp)
        · refine .inl ((h.inF d' q' hd' hq').1 ?_)
          unfold updF at h1; rw [if_neg h2] at h1; exact h1
      · rintro (h1 | h1)
        · obtain ⟨y, hy⟩ := Option.ne_none_iff_exists'.1 ((h.inF d' q' hd' hq').2 h1)
          rw [hk _ _ _ hy]; simp
        · simp only [List.map_cons, List.map_nil, List.mem_singleton] at h1
          have h2 := plD_E (d := d') hS hq'
          rw [h1, plD_E hS ht] at h2
          injection h2 with h3 h4
          rw [← h3, ← h4, upd_same]; simp
    · rcases List.mem_append.1 hp with hp | hp
      · exact (h.wt p hp).mono hk
      · rw [List.mem_singleton] at hp
        subst hp
        show WT _ er S l (plD a (plE' a dn t)).1 (plD a (plE' a dn t)).2 _
        rw [plD_E hS ht]
        refine .step hd ht hnz (upd_same _ _ _ _) he hq ?_ (hw.mono hk)
        split
        · next hm => rw [if_pos hm] at hdd; exact hdd
        · next hm => rw [if_neg hm] at hdd; exact hdd
    · rw [List.drop_append_of_le_length hi, List.map_append, ← h.ps]
      simp [plD_E hS ht]
    · obtain ⟨y, hy⟩ := Option.ne_none_iff_exists'.1 h.root
      rw [hk _ _ _ hy] at h0; cases h0
  · have e1 : fndF F dn t ((e : Int), (q : Int)) = F := by unfold fndF; rw [if_neg hn]
    have e2 : fndP F dn t ps = ps := by unfold fndP; rw [if_neg hn]
    have hnm : plE' a dn t ∈ T.map Prod.fst := (h.inF dn t hd ht).1 hn
    have e3 : visP w T ⟨f, (e : Int), plE' a dn t⟩ = T := by unfold visP; rw [if_pos hnm]
    rw [e1, e2, e3]; exact h
theorem WT.rng {F : FoM} {er : List Int} {S l d q : Nat} {v : List Int} (h : WT F er S l d q v) : d ≤ l ∧ q < S := by
  cases h with
  | root h => exact ⟨Nat.zero_le _, h⟩
  | step h1 h2 _ _ _ _ _ _ => exact ⟨h1, h2⟩
/-- Words of a search have no more events than rounds were. -/
theorem tr_len_w (a : Au) : ∀ n, ∀ p ∈ Tr a n, p.2.length ≤ n
  | 0, p, hp => by simp [Tr] at hp; subst hp; simp
  | n + 1, p, hp => by
    rw [Tr] at hp
    cases h : (Tr a n)[n]? with
    | none => rw [h] at hp; have := tr_len_w a n p hp; omega
    | some r =>
      rw [h] at hp
      have hr := tr_len_w a n r (List.mem_of_getElem? h)
      have key : ∀ (l : List Ed) (T : List (Int × List Int)), (∀ p ∈ T, p.2.length ≤ n + 1) → ∀ p ∈ l.foldl (visP r.2) T, p.2.length ≤ n + 1 := by
        intro l
        induction l with
        | nil => intro T hT; exact hT
        | cons x l ih =>
          intro T hT
          refine ih _ fun p hp => ?_
          rcases visP_mem.1 hp with hp | ⟨_, rfl⟩
          · exact hT p hp
          · simp; exact hr
      exact key _ _ (fun p hp => by have := tr_len_w a n p hp; omega) p hp
/-- The places that were found so far, behind t edges of place number i. -/
def TrE (a : Au) (onto ob : List Int) (i t : Nat) (p : Nat × Int) (w : List Int) : List (Int × List Int) := (((succ a.ed p.2).take t).filterMap (plY a onto ob p)).foldl (visP w) (Tr (plA a onto ob) i)
theorem trE_zero (a : Au) (onto ob : List Int) (i : Nat) (p : Nat × Int) (w : List Int) : TrE a onto ob i 0 p w = Tr (plA a onto ob) i := rfl
theorem trE_succ {a : Au} {onto ob : List Int} {i t : Nat} {p : Nat × Int} {w : List Int} {y : Ed} (hy : (succ a.ed p.2)[t]? = some y) : TrE a onto ob i (t + 1) p w = (match plY a onto ob p y with | none => TrE a onto ob i t p w | some z => visP w (TrE a onto ob i t p w) z) := by
  obtain ⟨hl, e⟩ := List.getElem?_eq_some_iff.1 hy
  unfold TrE
  rw [List.take_succ_eq_append_getElem hl, e, List.filterMap_append, List.foldl_append]
  cases hz : plY a onto ob p y <;> simp [List.filterMap_cons, hz]
theorem trE_all {a : Au} (h : RightW a) (h0 : 0 < a.st) {onto ob : List Int} {i : Nat} {p : Nat × Int} {w : List Int} {x : Int} (hp : PlOk a ob p) (hx : x = (p.1 : Int) * a.st + p.2) (hi : (Tr (plA a onto ob) i)[i]? = some (x, w)) : TrE a onto ob i (succ a.ed p.2).length p w = Tr (plA a onto ob) (i + 1) := by
  unfold TrE
  rw [List.take_length, Tr, hi, ← pl_succ h h0 hp, hx]
theorem trE_pre {a : Au} {onto ob : List Int} {i t : Nat} {p : Nat × Int} {w : List Int} (_ht : t ≤ (succ a.ed p.2).length) : TrE a onto ob i t p w <+: TrE a onto ob i (succ a.ed p.2).length p w := by
  have e1 : (succ a.ed p.2).take (succ a.ed p.2).length = (succ a.ed p.2).take t ++ (succ a.ed p.2).drop t := by rw [List.take_length, List.take_append_drop]
  unfold TrE
  rw [e1, List.filterMap_append, List.foldl_append]
  exact visPL_pre w _ _
theorem trE_len {a : Au} {onto ob : List Int} {i t : Nat} {p : Nat × Int} {w : List Int} : (Tr (plA a onto ob) i).length ≤ (TrE a onto ob i t p w).length := (visPL_pre w _ _).length_le
end Go.Proofs.Ytmghngehpgolgaa
