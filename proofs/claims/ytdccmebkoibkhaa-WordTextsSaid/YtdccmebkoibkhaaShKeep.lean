/- What a call that grows rows of ints leaves: a frame that lets the spare cells of one row turn; append onto an own row, and what it leaves of the elder row. -/
import Derived.Test.YtdccmebkoibkhaaApp
import Derived.Deep.AppendLies
import Derived.Deep.RegionLaw
import Derived.ArgAppend
namespace Go.Proofs.Ytdccmebkoibkhaa
open Go.RowKit

theorem own_base {w : World} {base base' : Nat} {e : TypeId} {v : Value} {n : Nat} {xs : List Value} (h : w.ownsRow base' e 1 v n xs) (hb : base ≤ base') : w.ownsRow base e 1 v n xs := by
  refine ⟨h.1, ?_⟩
  rcases h.2 with h0 | ⟨g, cap, cur, e1, e2, r⟩
  · exact .inl h0
  · exact .inr ⟨g, cap, cur, e1, by omega, r⟩
theorem own_raise {w : World} {base base' : Nat} {e : TypeId} {v : Value} {n : Nat} {xs : List Value} (h : w.ownsRow base e 1 v n xs) (hb : ∀ k, v.ownBlock = some k → base' ≤ k) : w.ownsRow base' e 1 v n xs := by
  refine ⟨h.1, ?_⟩
  rcases h.2 with h0 | ⟨g, cap, cur, e1, e2, r⟩
  · exact .inl h0
  · exact .inr ⟨g, cap, cur, e1, hb g (by rw [e1]; rfl), r⟩
theorem own_types {w : World} {b1 b2 : Nat} {e1 e2 : TypeId} {v u : Value} {n m : Nat} {xs ys : List Value} (h : w.ownsRow b1 e1 1 v n xs) (k : w.ownsRow b2 e2 1 u m ys) (hne : e1 ≠ e2) : u.ownBlock = none ∨ u.ownBlock ≠ v.ownBlock := by
  rcases k.2 with ⟨rfl, _⟩ | ⟨g, cap, cur, rfl, _, hg, _⟩
  · exact .inl rfl
  · rcases h.2 with ⟨rfl, _⟩ | ⟨g', cap', cur', rfl, _, hg', _⟩
    · exact .inr (by simp [Value.ownBlock])
    · refine .inr fun he => ?_
      have : g = g' := by simpa [Value.ownBlock] using he
      subst this
      rw [hg] at hg'
      injection hg' with hg'
      injection hg' with _ ht
      exact hne ht.symm
/-- A row's beginning. -/
theorem own_prefix {w : World} {base : Nat} {e : TypeId} {g n k cap : Nat} {xs : List Value} (h : w.ownsRow base e 1 (.slice (some ⟨g, 0, none⟩) n cap) n xs) (hk : k ≤ n) : w.ownsRow base e 1 (.slice (some ⟨g, 0, none⟩) k cap) k (xs.take k) := by
  refine ⟨by have := h.1; simp at this; simp [List.length_take]; omega, ?_⟩
  rcases h.2 with ⟨h0, _⟩ | ⟨g', cap', cur, e1, e2, hg, hn, hc, hs, ht⟩
  · cases h0
  · injection e1 with a1 a2 a3
    injection a1 with a1
    injection a1 with a1
    subst a1; subst a3
    exact .inr ⟨g, cap, cur, rfl, e2, hg, by omega, hc, hs, by rw [← ht, List.take_take]; congr 1; omega⟩

theorem own_unique {w : World} {b1 b2 : Nat} {e1 e2 : TypeId} {v : Value} {n m : Nat} {xs ys : List Value} (h : w.ownsRow b1 e1 1 v n xs) (k : w.ownsRow b2 e2 1 v m ys) : n = m ∧ xs = ys := by
  rcases h.2 with ⟨rfl, rfl⟩ | ⟨g, cap, cur, rfl, _, hg, _, _, _, ht⟩
  · rcases k.2 with ⟨_, rfl⟩ | ⟨g, cap, cur, e, _⟩
    · have h1 := h.1
      have k1 := k.1
      exact ⟨rfl, (List.eq_nil_of_length_eq_zero (by simpa using h1) : xs = []).trans (List.eq_nil_of_length_eq_zero (by simpa using k1) : ys = []).symm⟩
    · cases e
  · rcases k.2 with ⟨e, _⟩ | ⟨g', cap', cur', e, _, hg', _, _, _, ht'⟩
    · cases e
    · injection e with a1 a2 a3
      injection a1 with a1; injection a1 with a1
      subst a1; subst a2
      rw [hg] at hg'
      injection hg' with hg'; injection hg' with hg'
      subst hg'
      exact ⟨rfl, by rw [← ht, ht']⟩

/-- The frame of a call that may write the spare cells of the row v, the cell ba, rows of other types, and new blocks. -/
structure Fr (base ba : Nat) (v : Value) (w w' : World) : Prop where
  os : w'.os = w.os
  tape : w'.tape = w.tape
  output : w'.output = w.output
  size : w.heap.size ≤ w'.heap.size
  low : ∀ k, k < base → k ≠ ba → w'.heap[k]? = w.heap[k]?
  rows : ∀ u k xs, w.ownsRow base 3 1 u k xs → (u.ownBlock = none ∨ u.ownBlock ≠ v.ownBlock) → w'.ownsRow base 3 1 u k xs
  self : ∀ k xs, w.ownsRow base 3 1 v k xs → w'.ownsRow base 3 1 v k xs
theorem Fr.refl (base ba : Nat) (v : Value) (w : World) : Fr base ba v w w := ⟨rfl, rfl, rfl, Nat.le_refl _, fun _ _ _ => rfl, fun _ _ _ h _ => h, fun _ _ h => h⟩
theorem Fr.trans {base ba : Nat} {v : Value} {a b c : World} (h : Fr base ba v a b) (k : Fr base ba v b c) : Fr base ba v a c :=
  ⟨k.os.trans h.os, k.tape.trans h.tape, k.output.trans h.output, Nat.le_trans h.size k.size, fun i h1 h2 => (k.low i h1 h2).trans (h.low i h1 h2), fun u j xs h1 h2 => k.rows u j xs (h.rows u j xs h1 h2) h2, fun j xs h1 => k.self j xs (h.self j xs h1)⟩
theorem Fr.of_below {base ba : Nat} {v : Value} {w w' : World} (hb : Below w.heap.size w w') (hB : base ≤ w.heap.size) : Fr base ba v w w' :=
  ⟨hb.os, hb.tape, hb.output, hb.size, fun k hk _ => hb.block k (by omega), fun u k xs h _ => World.ownsRow.kept (row := none) h ⟨hb.os, hb.tape, hb.output, hb.size, fun i hi _ => hb.block i hi⟩ (Classical.em _), fun k xs h => World.ownsRow.kept (row := none) h ⟨hb.os, hb.tape, hb.output, hb.size, fun i hi _ => hb.block i hi⟩ (Classical.em _)⟩
/-- Behind an append onto a row of another type. -/
theorem Fr.of_grown {base ba : Nat} {v va : Value} {w w' : World} {e : TypeId} {n : Nat} {ys : List Value} (ho : w.ownsRow base e 1 va n ys) (he : e ≠ 3) (hg : w.grownBy w' va.ownBlock) (hB : base ≤ w.heap.size) : Fr base ba v w w' :=
  ⟨hg.os, hg.tape, hg.output, hg.size, fun k hk _ => hg.block k (by omega) (fun h => by have := (ho.lt k h.symm).1; omega), fun u k xs h _ => h.kept hg (own_types ho h he), fun k xs h => h.kept hg (own_types ho h he)⟩
theorem Fr.of_store {base ba : Nat} {v : Value} {w : World} (hb : ba < base) (x : Value) : Fr base ba v w (w.setCell ⟨ba, 0, none⟩ x) :=
  ⟨rfl, rfl, rfl, by simp [World.setCell], fun k _ hk => Below.heap_setCell _ _ _ _ hk, fun u k xs h _ => ownsRow_setCell_below h hb x, fun k xs h => ownsRow_setCell_below h hb x⟩
theorem Fr.of_app {base ba n : Nat} {v : Value} {w w' : World} {xs : List Value} (ho : w.ownsRow base 3 1 v n xs) (hg : w.grownBy w' v.ownBlock) (hs : w'.ownsRow base 3 1 v n xs) (hB : base ≤ w.heap.size) : Fr base ba v w w' :=
  ⟨hg.os, hg.tape, hg.output, hg.size, fun k hk _ => hg.block k (by omega) (fun h => by have := (ho.lt k h.symm).1; omega), fun u k xs h h2 => h.kept hg h2, fun k ys h => by obtain ⟨rfl, rfl⟩ := own_unique ho h; exact hs⟩
theorem Fr.cell {base ba : Nat} {v : Value} {w w' : World} (h : Fr base ba v w w') {b o : Nat} (h1 : b < base) (h2 : b ≠ ba) : w'.cell? ⟨b, o, none⟩ = w.cell? ⟨b, o, none⟩ := World.cell?_of_block (h.low b h1 h2)
theorem Fr.rdI {base ba B : Nat} {v : Value} {w w' : World} (h : Fr base ba v w w') {A : Option Addr} {zs : List Int} (hr : RdI w B A zs) (h1 : B ≤ base) (h2 : B ≤ ba) : RdI w' B A zs :=
  hr.keep fun b o hb => h.cell (by omega) (by omega)
theorem Fr.below {base ba B : Nat} {v : Value} {w w' : World} (h : Fr base ba v w w') (h1 : B ≤ base) (h2 : B ≤ ba) : Below B w w' :=
  ⟨h.os, h.tape, h.output, h.size, fun k hk => h.low k (by omega) (by omega)⟩

/-- v1 is v with elements more, in the same array or in one that was made behind the world w. -/
def Onto (w : World) (v v1 : Value) (n : Nat) : Prop := (∃ g n1 cap, v = .slice (some ⟨g, 0, none⟩) n cap ∧ v1 = .slice (some ⟨g, 0, none⟩) n1 cap ∧ n ≤ n1) ∨ (∃ k, v1.ownBlock = some k ∧ w.heap.size ≤ k)
/-- A call on the longer row, seen from the shorter one. -/
theorem Fr.onto {base ba n : Nat} {v v1 : Value} {w w1 w2 : World} {ys : List Value} {m : Nat} (h : Fr base ba v w w1) (k : Fr base ba v1 w1 w2) (hv : Onto w v v1 n) (hown1 : w1.ownsRow base 3 1 v1 m ys) : Fr base ba v w w2 := by
  have hlt : ∀ u j xs, w.ownsRow base 3 1 u j xs → ∀ i, u.ownBlock = some i → i < w.heap.size := fun u j xs hu i hi => (hu.lt i hi).2
  refine ⟨k.os.trans h.os, k.tape.trans h.tape, k.output.trans h.output, Nat.le_trans h.size k.size, fun i h1 h2 => (k.low i h1 h2).trans (h.low i h1 h2), fun u j xs h1 h2 => ?_, fun j xs h1 => ?_⟩
  · refine k.rows u j xs (h.rows u j xs h1 h2) ?_
    rcases h2 with h2 | h2
    · exact .inl h2
    · rcases hv with ⟨g, n1, cap, rfl, rfl, _⟩ | ⟨i, hi, hle⟩
      · exact .inr (by simpa [Value.ownBlock] using h2)
      · refine .inr fun e => ?_
        rw [hi] at e
        have := hlt u j xs h1 i e
        omega
  · have h3 := h.self j xs h1
    rcases hv with ⟨g, n1, cap, rfl, rfl, hn⟩ | ⟨i, hi, hle⟩
    · have hj : j = n := by
        rcases h1.2 with ⟨e, _⟩ | ⟨_, _, _, e, _⟩
        · cases e
        · injection e with _ e _; exact e.symm
      subst hj
      have hm : m = n1 := by
        rcases hown1.2 with ⟨e, _⟩ | ⟨_, _, _, e, _⟩
        · cases e
        · injection e with _ e _; exact e.symm
      subst hm
      have h4 := own_prefix (k.self _ _ hown1) hn
      have h5 := own_prefix hown1 hn
      rw [(own_unique h3 h5).2]; exact h4
    · refine k.rows v j xs h3 ?_
      cases hvb : v.ownBlock with
      | none => exact .inl rfl
      | some i' =>
        refine .inr fun e => ?_
        have := hlt v j xs h1 i' hvb
        rw [hi] at e
        injection e with e
        omega
theorem onto_of {w w' : World} {v : Value} {n g cap : Nat} (h : v = .slice (some ⟨g, 0, none⟩) n cap ∨ (w.heap.size ≤ g ∧ w.grownBy w' none)) : Onto w v (.slice (some ⟨g, 0, none⟩) (n + 1) cap) n := by
  rcases h with rfl | ⟨h, _⟩
  · exact .inl ⟨g, n + 1, cap, rfl, rfl, by omega⟩
  · exact .inr ⟨g, rfl, h⟩

/-- append of one element onto a row of ints of the call's own: what becomes of the elder row. -/
theorem run_app_kept {w : World} {base : Nat} {v : Value} {n : Nat} {xs : List Value} (hown : w.ownsRow base 3 1 v n xs) (ad : Addr) (c : Nat) (x : Value) (hx : w.cell? ad = some x) (h1 : x.oneCell' = true)
    (h63 : n + 1 ≤ maxLen) (hbytes : (n + 1) * 8 ≤ 140737488355328) (hbase : base ≤ w.heap.size) (ty : TypeId) :
    ∃ g cap w', (Builtin.append_ #[22, 22] ty #[v, .slice (some ad) 1 c]).run Try.prog w = .ok (.slice (some ⟨g, 0, none⟩) (n + 1) cap) w' ∧
      w'.ownsRow base 3 1 (.slice (some ⟨g, 0, none⟩) (n + 1) cap) (n + 1) (xs ++ [x]) ∧ w.grownBy w' v.ownBlock ∧ w'.ownsRow base 3 1 v n xs ∧
      (v = .slice (some ⟨g, 0, none⟩) n cap ∨ (w.heap.size ≤ g ∧ w.grownBy w' none)) ∧ g < w'.heap.size := by
  obtain ⟨i0, hi, hz0, hz1, hz2⟩ := info_parts info_int
  have hnews : ∀ j u, [x][j]? = some u → w.cell? (ad.add j) = some u := fun j u hu => by
    have hj : j = 0 := by have := (List.getElem?_eq_some_iff.1 hu).1; simp at this; omega
    subst hj
    have : x = u := by simpa using hu
    subst this
    have : ad.add 0 = ad := by simp [Addr.add]
    rw [this]; exact hx
  have hone : ∀ u ∈ [x], u.oneCell' = true := fun u hu => by rw [List.mem_singleton] at hu; subst hu; exact h1
  have hnone : ∀ {w' : World} {v' : Value}, w'.ownsRow w.heap.size 3 1 v' (n + 1) (xs ++ [x]) → w.grownBy w' none → ∃ g cap, v' = .slice (some ⟨g, 0, none⟩) (n + 1) cap ∧ w'.ownsRow base 3 1 (.slice (some ⟨g, 0, none⟩) (n + 1) cap) (n + 1) (xs ++ [x]) ∧ w.grownBy w' v.ownBlock ∧ w'.ownsRow base 3 1 v n xs ∧ w.heap.size ≤ g ∧ g < w'.heap.size := by
    intro w' v' h2 h3
    obtain ⟨g, cap, rfl, hle, hlt⟩ := h2.form (by omega)
    exact ⟨g, cap, rfl, own_base h2 hbase, ⟨h3.os, h3.tape, h3.output, h3.size, fun k hk _ => h3.block k hk (by simp)⟩, hown.kept h3 (Classical.em _), hle, hlt⟩
  rcases hown.2 with ⟨rfl, rfl⟩ | ⟨g, cap, cur, rfl, hbg, hg, hnc, hcm, hcs, htake⟩
  · have hx0 : xs = [] := List.eq_nil_of_length_eq_zero (by simpa using hown.1)
    subst hx0
    obtain ⟨v', w', hr, h2, h3, _, h5⟩ := run_append_own_at (P := Try.prog) w base 22 ty 3 i0 (.int .i64 0) 1 8 Try.underlying22 hi hz0 hz1 hz2 rfl (by decide) _ 0 _ hown ad 1 c [x] rfl hnews hone h63 hbytes hbase
    obtain ⟨g, cap, rfl, hle, hlt⟩ := h2.form (by omega)
    have hgs : w.heap.size ≤ g := by
      rcases h5 with h5 | h5
      · simp [Value.ownBlock] at h5
      · simp [Value.ownBlock] at h5; omega
    exact ⟨g, cap, w', hr, h2, h3, World.ownsRow_nil _ _ _ _, .inr ⟨hgs, h3⟩, hlt⟩
  · by_cases hroom : n + 1 ≤ cap
    · have hfit : n * i0.size + [x].length ≤ cur.size := by rw [hz1]; simp at hcs ⊢; omega
      have hr := run_append_room (P := Try.prog) w 22 ty 3 i0 Try.underlying22 hi g n cap cur hg ad 1 c [x] (by rw [hz1]; rfl) hnews hone hroom hfit
      have hsz : (cur.toList.take (n * i0.size) ++ [x] ++ cur.toList.drop (n * i0.size + [x].length)).toArray.size = cap * 1 := by
        rw [hz1]
        simp only [List.size_toArray, List.length_append, List.length_take, List.length_drop, Array.length_toList, List.length_singleton]
        omega
      have hset := setRow_heap w g cur (cur.toList.take (n * i0.size) ++ [x] ++ cur.toList.drop (n * i0.size + [x].length)).toArray 3 _ hg
      have hl : xs.length = n := by have := hown.1; omega
      have htake' : cur.toList.take (n * i0.size) = xs := by rw [hz1]; exact htake
      refine ⟨g, cap, _, hr, ⟨by simp [hl], .inr ⟨g, cap, _, rfl, hbg, hset, hroom, hcm, hsz, ?_⟩⟩, ⟨rfl, rfl, rfl, by simp, fun k _ hk => setRow_other w g k _ (fun e => hk (by simp [Value.ownBlock, e]))⟩, ⟨hown.1, .inr ⟨g, cap, _, rfl, hbg, hset, hnc, hcm, hsz, ?_⟩⟩, .inl rfl, ?_⟩
      · simp only [htake']
        rw [List.take_append_of_le_length (by simp [hl])]
        exact List.take_of_length_le (by simp [hl])
      · simp only [htake', List.append_assoc]
        rw [List.take_append_of_le_length (by omega)]
        exact List.take_of_length_le (by omega)
      · have := (Array.getElem?_eq_some_iff.1 hset).1; exact this
    · have holds : ∀ j u, xs[j]? = some u → w.cell? ((⟨g, 0, none⟩ : Addr).add j) = some u := hown.cells (g := g) rfl
      obtain ⟨v', w', hr, h2, h3⟩ := run_append_arg_grows (P := Try.prog) w 22 ty 3 i0 (.int .i64 0) 1 8 Try.underlying22 hi hz0 hz1 hz2 rfl (by decide) ⟨g, 0, none⟩ n cap xs hown.1 holds ad 1 c [x] rfl hnews (by omega) h63 hbytes
      obtain ⟨g', cap', rfl, h4, h5, h6, h7, h8⟩ := hnone h2 h3
      exact ⟨g', cap', w', hr, h4, h5, h6, .inr ⟨h7, h3⟩, h8⟩

/-- At a step of a region that draws its order. -/
theorem step_app_kept {ops : Array Oper} {o : Oper} {a : Act} {w : World} {K : Act → World → Prop} {Q : Exit → Act → World → Prop} {E : Prop} (hgd : o.guard = none) (s x : Operand)
    (ho : o.op = .call { callee := .builtin .append, args := #[s, x], argTypes := #[22, 22] })
    (base : Nat) (v : Value) (n : Nat) (xs : List Value) (hs : a.eval s = v) (hown : w.ownsRow base 3 1 v n xs)
    (ad : Addr) (c : Nat) (y : Value) (hx : a.eval x = .slice (some ad) 1 c) (hc : w.cell? ad = some y) (h1 : y.oneCell' = true)
    (h63 : n + 1 ≤ maxLen) (hbytes : (n + 1) * 8 ≤ 140737488355328) (hbase : base ≤ w.heap.size)
    (h : ∀ g cap w', w'.ownsRow base 3 1 (.slice (some ⟨g, 0, none⟩) (n + 1) cap) (n + 1) (xs ++ [y]) → w.grownBy w' v.ownBlock → w'.ownsRow base 3 1 v n xs →
      (v = .slice (some ⟨g, 0, none⟩) n cap ∨ (w.heap.size ≤ g ∧ w.grownBy w' none)) → g < w'.heap.size → K (a.put o.dst (.slice (some ⟨g, 0, none⟩) (n + 1) cap)) w') :
    if Region.wanted o (yielded ops a.tmps) = true then Oper.wp Try.prog o a w K Q else E := by
  have hw : Region.wanted o (yielded ops a.tmps) = true := by simp [Region.wanted, hgd]
  rw [if_pos hw]
  obtain ⟨g, cap, w', hr, h2, h3, h4, h5, h6⟩ := run_app_kept hown ad c y hc h1 h63 hbytes hbase o.type
  unfold Oper.wp execOp
  simp only [ho, resolve, invoke, builtin, Sem.run_bind, Sem.run_pure, Result.andThen_ok, List.map_toArray, List.map_cons, List.map_nil, hs, hx, hr]
  exact h g cap w' h2 h3 h4 h5 h6
end Go.Proofs.Ytdccmebkoibkhaa
