/- Layer 7, the reference's Lift: the list of nodes; what one event adds. -/
import Derived.Test.YtaadhpkpekmfoaaGreatZsRS
import Derived.Test.YtaadhpkpekmfoaaGreatZa6
import Derived.Test.YtaadhpkpekmfoaaGreatZa5
set_option linter.unusedVariables false
set_option linter.unusedSimpArgs false
set_option linter.unusedSectionVars false
namespace Go.Proofs.YtaadhpkpekmfoaaGreat
open Go.RowKit Go.Sort

/-- A node: a state, the number of events that are done, a word. -/
structure Nd where
  q : Int
  d : Nat
  h : Hd
def encN (l : List Nd) : List Value := l.flatMap fun x => [.int .i64 x.q, .int .i64 (x.d : Int), x.h.enc]
theorem encN_len (l : List Nd) : (encN l).length = l.length * 3 := by
  induction l with
  | nil => rfl
  | cons x l ih => simp [encN] at ih ⊢; omega
theorem encN_app (l r : List Nd) : encN (l ++ r) = encN l ++ encN r := by simp [encN]
theorem encN_at : ∀ (l : List Nd) (j : Nat) (x : Nd), l[j]? = some x → (encN l)[j * 3]? = some (.int .i64 x.q) ∧ (encN l)[j * 3 + 1]? = some (.int .i64 (x.d : Int)) ∧ (encN l)[j * 3 + 2]? = some x.h.enc
  | [], j, x, h => by simp at h
  | y :: l, 0, x, h => by simp at h; subst h; exact ⟨rfl, rfl, rfl⟩
  | y :: l, j + 1, x, h => by
    obtain ⟨e0, e1, e2⟩ := encN_at l j x (by simpa using h)
    have h0 : (encN (y :: l))[(j + 1) * 3]? = (encN l)[j * 3]? := by rw [show (j + 1) * 3 = j * 3 + 3 by omega]; rfl
    have h1 : (encN (y :: l))[(j + 1) * 3 + 1]? = (encN l)[j * 3 + 1]? := by rw [show (j + 1) * 3 + 1 = j * 3 + 1 + 3 by omega]; rfl
    have h2 : (encN (y :: l))[(j + 1) * 3 + 2]? = (encN l)[j * 3 + 2]? := by rw [show (j + 1) * 3 + 2 = j * 3 + 2 + 3 by omega]; rfl
    exact ⟨h0.trans e0, h1.trans e1, h2.trans e2⟩
structure ND (w : World) (base : Nat) (vl : Value) (ns : List Nd) : Prop where
  row : w.ownsRow base 115 3 vl ns.length (encN ns)
  own : ∀ x ∈ ns, Own w base x.h.enc x.h.z
theorem ND.below {w w' : World} {base : Nat} {vl : Value} {ns : List Nd} (h : ND w base vl ns) (hb : Below w.heap.size w w') : ND w' base vl ns := ⟨own_below h.row hb, fun x hx => own_below (h.own x hx) hb⟩
theorem ND.at {w : World} {base : Nat} {vl : Value} {ns : List Nd} (h : ND w base vl ns) {j : Nat} {x : Nd} (hj : ns[j]? = some x) : ∃ g c, vl = .slice (some ⟨g, 0, none⟩) ns.length c ∧ base ≤ g ∧ g < w.heap.size ∧ w.cell? ⟨g, j * 3, none⟩ = some (.int .i64 x.q) ∧ w.cell? ⟨g, j * 3 + 1, none⟩ = some (.int .i64 (x.d : Int)) ∧ w.cell? ⟨g, j * 3 + 2, none⟩ = some x.h.enc := by
  have hl := (List.getElem?_eq_some_iff.1 hj).1
  have hr := h.row
  rcases hr.2 with ⟨rfl, h0⟩ | ⟨g, cap, cur, rfl, hg, hh, hn, hcap, hsz, htake⟩
  · omega
  · obtain ⟨e0, e1, e2⟩ := encN_at ns j x hj
    have hel := encN_len ns
    refine ⟨g, cap, rfl, hg, (hr.lt g rfl).2, ?_, ?_, ?_⟩
    · rw [World.ownsRow.cellAt (cap := cap) hr (j * 3) (by omega)]; exact e0
    · rw [World.ownsRow.cellAt (cap := cap) hr (j * 3 + 1) (by omega)]; exact e1
    · rw [World.ownsRow.cellAt (cap := cap) hr (j * 3 + 2) (by omega)]; exact e2
theorem ND.shape {w : World} {base : Nat} {vl : Value} {ns : List Nd} (h : ND w base vl ns) : ∃ A c, vl = .slice A ns.length c := by
  rcases h.row.2 with ⟨rfl, h0⟩ | ⟨g, cap, cur, rfl, _⟩
  · rw [h0]; exact ⟨none, 0, rfl⟩
  · exact ⟨_, cap, rfl⟩
theorem ND.push {wr w0 w1 : World} {base n : Nat} {vl vl' : Value} {ns : List Nd} {x : Nd} (h : ND wr base vl ns) (hb : Below wr.heap.size wr w0) (hbs : base ≤ wr.heap.size) (hx : Own w0 wr.heap.size x.h.enc x.h.z)
    (hr : w1.ownsRow base 115 3 vl' n (encN ns ++ [.int .i64 x.q, .int .i64 (x.d : Int), x.h.enc])) (hn : n = ns.length + 1) (hg : w0.grownBy w1 vl.ownBlock) : ND w1 base vl' (ns ++ [x]) := by
  have h0 := h.below hb
  refine ⟨by rw [List.length_append, encN_app]; rw [hn] at hr; exact hr, fun y hy => ?_⟩
  rcases List.mem_append.1 hy with hy | hy
  · exact World.ownsRow.kept (h0.own y hy) hg (owns_ne (h0.own y hy) h0.row (by decide))
  · rw [List.mem_singleton] at hy
    subst hy
    exact own_more (World.ownsRow.kept hx hg (owns_ne hx h0.row (by decide))) hbs
/-- The nodes are the places that are found, with their words. -/
structure NI (a : Au) (ob : List Int) (ns : List Nd) (T : List (Int × List Int)) : Prop where
  mp : ns.map (fun x => ((x.d : Int) * a.st + x.q, x.h.z)) = T
  ok : ∀ x ∈ ns, PlOk a ob (x.d, x.q)
theorem NI.at {a : Au} {ob : List Int} {ns : List Nd} {T : List (Int × List Int)} (h : NI a ob ns T) {j : Nat} {x : Nd} (hj : ns[j]? = some x) : T[j]? = some ((x.d : Int) * a.st + x.q, x.h.z) := by
  rw [← h.mp, List.getElem?_map, hj]; rfl
theorem NI.len {a : Au} {ob : List Int} {ns : List Nd} {T : List (Int × List Int)} (h : NI a ob ns T) : ns.length = T.length := by rw [← h.mp, List.length_map]
theorem NI.seen {a : Au} {ob : List Int} {ns : List Nd} {T : List (Int × List Int)} (h : NI a ob ns T) {d : Nat} {q : Int} (hp : PlOk a ob (d, q)) : (∃ x ∈ ns, x.q = q ∧ x.d = d) ↔ (d : Int) * a.st + q ∈ T.map Prod.fst := by
  rw [← h.mp, List.map_map]
  constructor
  · rintro ⟨x, hx, h1, h2⟩
    exact List.mem_map.2 ⟨x, hx, by show (x.d : Int) * a.st + x.q = _; rw [h1, h2]⟩
  · intro hm
    obtain ⟨x, hx, he⟩ := List.mem_map.1 hm
    have h1 := pl_inj (h.ok x hx) hp (by exact he)
    injection h1 with h2 h3
    exact ⟨x, hx, h3, h2⟩
theorem NI.add {a : Au} {ob : List Int} {ns : List Nd} {T : List (Int × List Int)} (h : NI a ob ns T) {d : Nat} {q : Int} (hp : PlOk a ob (d, q)) {w : List Int} {f e : Int} {hh : Hd} (hz : hh.z = w ++ [e]) (hn : (d : Int) * a.st + q ∉ T.map Prod.fst) : NI a ob (ns ++ [⟨q, d, hh⟩]) (visP w T ⟨f, e, (d : Int) * a.st + q⟩) := by
  refine ⟨?_, fun x hx => ?_⟩
  · unfold visP
    rw [if_neg hn, List.map_append, h.mp]
    simp [hz]
  · rcases List.mem_append.1 hx with hx | hx
    · exact h.ok x hx
    · rw [List.mem_singleton] at hx; subst hx; exact hp
/-- The search, in the midst of a node's events. -/
def TrK (D : Au) (T : List (Int × List Int)) (p : Int × List Int) (t : Nat) : List (Int × List Int) := (succK D p.1 t).foldl (visP p.2) T
theorem TrK_zero (D : Au) (T : List (Int × List Int)) (p : Int × List Int) : TrK D T p 0 = T := by unfold TrK; rw [succK_zero]; rfl
theorem TrK_none {D : Au} {T : List (Int × List Int)} {p : Int × List Int} {t : Nat} (ht : t < D.al.length) (h : edgeO D.ed p.1 (D.al.getD t 0) = none) : TrK D T p (t + 1) = TrK D T p t := by unfold TrK; rw [succK_none ht h]
theorem TrK_some {D : Au} {T : List (Int × List Int)} {p : Int × List Int} {t : Nat} {x : Ed} (ht : t < D.al.length) (h : edgeO D.ed p.1 (D.al.getD t 0) = some x) : TrK D T p (t + 1) = visP p.2 (TrK D T p t) x := by unfold TrK; rw [succK_some ht h, List.foldl_append]; rfl
theorem TrK_all {D : Au} (h : RightW D) {i n : Nat} {p : Int × List Int} (hp : (Tr D i)[i]? = some p) (hn : D.al.length = n) : TrK D (Tr D i) p n = Tr D (i + 1) := by
  unfold TrK
  rw [succK_all h hn, Tr, hp]
theorem TrK_pre {D : Au} (h : RightW D) {i t : Nat} {p : Int × List Int} (hp : (Tr D i)[i]? = some p) : Tr D i <+: TrK D (Tr D i) p t ∧ TrK D (Tr D i) p t <+: Tr D (i + 1) := by
  refine ⟨visPL_pre _ _ _, ?_⟩
  obtain ⟨r, hr⟩ := succK_pre h p.1 t
  rw [← TrK_all h hp rfl]
  unfold TrK
  rw [succK_all h rfl, ← hr, List.foldl_append]
  exact visPL_pre _ _ _
theorem visP_in {w : List Int} {T : List (Int × List Int)} {x : Ed} (h : x.t ∈ T.map Prod.fst) : visP w T x = T := by unfold visP; rw [if_pos h]
theorem plA_len {a : Au} (h : RightW a) (h0 : 0 < a.st) {onto ob : List Int} (hs : a.st ≤ 100) (hl : ob.length ≤ 10) (n : Nat) : (Tr (plA a onto ob) n).length ≤ 1100 := by
  have h1 := tr_len_le (plc_right h h0 (onto := onto) (ob := ob)) (plc_pos h0) n
  have h2 : (plA a onto ob).st.toNat = (ob.length + 1) * a.st.toNat := by
    show (((ob.length + 1) * a.st.toNat : Nat) : Int).toNat = _
    exact Int.toNat_natCast _
  have h3 : (ob.length + 1) * a.st.toNat ≤ 11 * 100 := Nat.mul_le_mul (by omega) (by omega)
  omega
theorem plA_al (a : Au) (onto ob : List Int) : (plA a onto ob).al = a.al := rfl
/-- What an event does at a place. -/
theorem pl_go {a : Au} (h : RightW a) (h0 : 0 < a.st) {onto ob : List Int} {d : Nat} {q e : Int} (hp : PlOk a ob (d, q)) (he : e ∈ a.al) {dn : Nat} (hd : if e ∈ onto then ob[d]? = some e ∧ dn = d + 1 else dn = d) :
    (stepI a q e < 0 ∧ edgeO (plA a onto ob).ed ((d : Int) * a.st + q) e = none) ∨ (0 ≤ stepI a q e ∧ PlOk a ob (dn, stepI a q e) ∧ edgeO (plA a onto ob).ed ((d : Int) * a.st + q) e = some ⟨(d : Int) * a.st + q, e, (dn : Int) * a.st + stepI a q e⟩) := by
  have hx := pl_edgeO h h0 hp he (onto := onto)
  simp only at hx
  cases hy : edgeO a.ed q e with
  | none =>
    rw [hy] at hx
    refine .inl ⟨?_, hx⟩
    unfold stepI
    rw [stepO, hy]; simp
  | some y =>
    obtain ⟨k1, k2, k3⟩ := (edgeO_some h.edo).1 hy
    have hr := (h.edr _ k1).2.1
    have hs : stepI a q e = y.t := by unfold stepI; rw [stepO, hy]; rfl
    rw [hy] at hx
    refine .inr ⟨by omega, ?_, ?_⟩
    · rw [hs]
      refine ⟨?_, hr.1, hr.2⟩
      by_cases h1 : e ∈ onto
      · rw [if_pos h1] at hd
        have := (List.getElem?_eq_some_iff.1 hd.1).1
        simp only; omega
      · rw [if_neg h1] at hd
        have := hp.1
        simp only at this ⊢; omega
    · rw [hx]
      show plY a onto ob (d, q) y = _
      unfold plY
      rw [k3, hs]
      by_cases h1 : e ∈ onto
      · rw [if_pos h1] at hd ⊢
        rw [if_pos hd.1, hd.2]
      · rw [if_neg h1] at hd ⊢
        rw [hd]
theorem pl_stop {a : Au} (h : RightW a) (h0 : 0 < a.st) {onto ob : List Int} {d : Nat} {q e : Int} (hp : PlOk a ob (d, q)) (he : e ∈ a.al) (h1 : e ∈ onto) (hd : ob[d]? ≠ some e) : edgeO (plA a onto ob).ed ((d : Int) * a.st + q) e = none := by
  have hx := pl_edgeO h h0 hp he (onto := onto)
  simp only at hx
  rw [hx]
  cases hy : edgeO a.ed q e with
  | none => rfl
  | some y =>
    obtain ⟨k1, k2, k3⟩ := (edgeO_some h.edo).1 hy
    show plY a onto ob (d, q) y = _
    unfold plY
    rw [k3, if_pos h1, if_neg hd]
end Go.Proofs.YtaadhpkpekmfoaaGreat
