/- Layer 7: the functions' contracts in a law's walk over graphs. -/
import Derived.Test.YtmghngehpgolgaaZa14
import Derived.Test.YtmghngehpgolgaaZa11
import Derived.Test.YtmghngehpgolgaaZsObs
import Derived.Test.YtmghngehpgolgaaZaByt
import Derived.Test.YtmghngehpgolgaaZa5
set_option linter.unusedVariables false
set_option linter.unusedSimpArgs false
set_option linter.unusedSectionVars false
namespace Go.Proofs.Ytmghngehpgolgaa
open Go.RowKit Go.Sort

theorem cs_mk {m : Int} {zs : List Int} (h1 : ∀ x ∈ zs, 0 ≤ x ∧ x < m) (h2 : zs.Pairwise (· < ·)) : csE m zs = 0 := csGo_mk zs none h1 h2 (fun _ h => by cases h)
theorem Ev5.cs {zs : List Int} (h : Ev5 5 zs) : csE 32 zs = 0 := cs_mk (fun x hx => by have := h.r x hx; omega) h.o
theorem chk_list7 (zs : List Int) : chkE ⟨zs, 0, [], []⟩ = csE 32 zs := by
  unfold chkE
  by_cases h : csE 32 zs = 0
  · rw [if_neg (by simpa using h)]
    simp [csE, csGo, egE, egGo, h]
    exact h.symm
  · rw [if_pos h]
theorem cwe_ok {a : Au} {zs : List Int} (h : chkE a = 0) (hz : csE 32 zs = 0) : cweE a zs = 0 := by
  unfold cweE
  rw [fstE, if_neg (by simpa using h), fstE, chk_list7, if_neg (by simpa using hz), fstE]
theorem cst_ok {S : Int} {zs : List Int} (h0 : 0 ≤ S) (h1 : S ≤ 4096) : cstE S zs = csE S zs := by
  unfold cstE chkE
  rw [if_neg (by simp [csE, csGo]), if_neg (by simp; omega), if_neg (by simp; omega)]
  by_cases h : csE S zs = 0
  · rw [if_neg (by simpa using h), h]
    simp [egE, egGo]
  · rw [if_pos h]
theorem rch_ok {a : Au} {fr ev : List Int} (h : cweE a ev = 0) : rchE a fr ev = cstE a.st fr := by
  unfold rchE
  rw [fstE, if_neg (by simpa using h), fstE]
  by_cases h2 : cstE a.st fr = 0
  · rw [if_neg (by simpa using h2), fstE, h2]
  · rw [if_pos h2]
theorem det_few {a : Au} (h : RightW a) (hs : a.st ≤ 5) (onto : List Int) : (fnd (detA a onto)).length ≤ 32 := by
  have h1 := fnd_len (det_right h onto)
  have h0 := h.st0
  unfold detA at h1 ⊢
  by_cases hz : a.st = 0
  · rw [if_pos hz] at h1 ⊢
    simp at h1
    simp [h1]
  · rw [if_neg hz] at h1 ⊢
    have h2 : (codA (detC a onto)).st = ((prT (twos a.st.toNat)).toNat : Int) := rfl
    rw [h2] at h1
    have h3 : prT (twos a.st.toNat) ≤ 32 := by
      obtain ⟨n, hn⟩ : ∃ n, n = a.st.toNat := ⟨_, rfl⟩
      rw [← hn]
      have : n ≤ 5 := by omega
      match n, this with
      | 0, _ => decide
      | 1, _ => decide
      | 2, _ => decide
      | 3, _ => decide
      | 4, _ => decide
      | 5, _ => decide
      | n + 6, h => exact absurd h (by omega)
    omega
section
variable {W w : World} {l : List (Nat × List Value)} {A : Option Addr} {n c : Nat} {s : Int} {M : Option Addr} {m d : Nat} {E : Option Addr} {k g : Nat} {a : Au} {A2 : Option Addr} {n2 c2 : Nat} {A3 : Option Addr} {n3 c3 : Nat} {fr ev ob : List Int}
/-- A list that a call hands back, of the call's own. -/
structure GL7 (w w' : World) (A : Option Addr) (n c : Nat) (zs : List Int) : Prop where
  len : zs.length = n
  cap : n ≤ c ∧ c ≤ 9223372036854775807
  rd : RdI w' w'.heap.size A zs
  own : Own w' w.heap.size (.slice A n c) zs
theorem gl7_of {v : Value} {w' : World} {zs : List Int} (h : Own w' w.heap.size v zs) : ∃ A n c, v = .slice A n c ∧ GL7 w w' A n c zs := by
  obtain ⟨A, c, rfl, h1, h2, h3⟩ := own_rdc h
  exact ⟨A, _, c, rfl, rfl, ⟨h2, h3⟩, h1, h⟩
theorem k_jreach {u : Int} {L : List Int} (hu : rchE a fr ev = u) (hL : (if u = 0 then reR a ev fr else []) = L) (ha : AuR w w.heap.size A n c s M m d E k g a) (hx : RdI w w.heap.size A2 fr) (hn : fr.length = n2) (hc : n2 ≤ c2 ∧ c2 ≤ 9223372036854775807) (hb : n2 ≤ 100000)
    (hx3 : RdI w w.heap.size A3 ev) (hn3 : ev.length = n3) (hc3 : n3 ≤ c3 ∧ c3 ≤ 9223372036854775807) (hb3 : n3 ≤ 100000) (h : LW W l w) :
    Calls Try.prog 10 #[.agg #[.slice A n c, .int .i64 s, .slice M m d, .slice E k g], .slice A2 n2 c2, .slice A3 n3 c3] w fun e w' => ∃ A n c, e = .returned (.tuple #[.slice A n c, .int .i64 u]) ∧ GL7 w w' A n c L ∧ KW W l w w' := by
  subst hu hL
  refine (jReach_any A n c s M m d E k g a A2 n2 c2 fr A3 n3 c3 ev w ha hx hn hc hb hx3 hn3 hc3 hb3).mono ?_
  rintro e w' ⟨v, he, ho, hb⟩
  obtain ⟨A, n, c, rfl, h1⟩ := gl7_of ho
  exact ⟨A, n, c, he, h1, KW.of h hb⟩
theorem k_jnext {x : Int} {u : Int} {L : List Int} (hu : nextE a ev fr x = u) (hL : (if u = 0 then nxR a ev fr x else []) = L) (ha : AuR w w.heap.size A n c s M m d E k g a) (hx : RdI w w.heap.size A2 fr) (hn : fr.length = n2) (hc : n2 ≤ c2 ∧ c2 ≤ 9223372036854775807) (hb : n2 ≤ 100000)
    (hx3 : RdI w w.heap.size A3 ev) (hn3 : ev.length = n3) (hc3 : n3 ≤ c3 ∧ c3 ≤ 9223372036854775807) (hb3 : n3 ≤ 100000) (h : LW W l w) :
    Calls Try.prog 12 #[.agg #[.slice A n c, .int .i64 s, .slice M m d, .slice E k g], .slice A3 n3 c3, .slice A2 n2 c2, .int .i64 x] w fun e w' => ∃ A n c, e = .returned (.tuple #[.slice A n c, .int .i64 u]) ∧ GL7 w w' A n c L ∧ KW W l w w' := by
  subst hu hL
  refine (jNextP_any A n c s M m d E k g A3 n3 c3 a ev A2 n2 c2 fr x w ha hx hn hc hb hx3 hn3 hc3 hb3).mono ?_
  rintro e w' ⟨hb, v, he, ho⟩
  obtain ⟨A, n, c, rfl, h1⟩ := gl7_of ho
  exact ⟨A, n, c, he, h1, KW.of h hb⟩
theorem k_jest {u : Int} {L : List Int} (hu : estE a ev ob = u) (hL : (if u = 0 then esR a ev ob else []) = L) (ha : AuR w w.heap.size A n c s M m d E k g a) (hx : RdI w w.heap.size A2 ob) (hn : ob.length = n2) (hb : n2 ≤ 100000)
    (hx3 : RdI w w.heap.size A3 ev) (hn3 : ev.length = n3) (hc3 : n3 ≤ c3 ∧ c3 ≤ 9223372036854775807) (hb3 : n3 ≤ 100000) (h : LW W l w) :
    Calls Try.prog 11 #[.agg #[.slice A n c, .int .i64 s, .slice M m d, .slice E k g], .slice A3 n3 c3, .slice A2 n2 c2] w fun e w' => ∃ A n c, e = .returned (.tuple #[.slice A n c, .int .i64 u]) ∧ GL7 w w' A n c L ∧ KW W l w w' := by
  subst hu hL
  refine (jEstimate_any A n c s M m d E k g A3 n3 c3 a ev A2 n2 c2 ob w ha hx3 hn3 hc3 hb3 hx hn hb).mono ?_
  rintro e w' ⟨hb, v, he, ho⟩
  obtain ⟨A, n, c, rfl, h1⟩ := gl7_of ho
  exact ⟨A, n, c, he, h1, KW.of h hb⟩
/-- The lists that Project hands back. -/
structure GV7 (w' : World) (V : Option Addr) (nV cV : Nat) (hs : List Hd) (zs : List (List Int)) : Prop where
  rd : RdL w' w'.heap.size V hs
  len : hs.length = nV
  z : hs.map Hd.z = zs
  cap : nV ≤ cV ∧ cV ≤ 9223372036854775807
theorem k_jproj {L : List (List Int)} {b : Au} (hc : cweE a ev = 0) (hf : (fnd (detA a ev)).length ≤ 4096) (hL : (fnd (detA a ev)).map (deR a ev) = L) (hB : canA (detA a ev) = b) (ha : AuR w w.heap.size A n c s M m d E k g a)
    (hx3 : RdI w w.heap.size A3 ev) (hn3 : ev.length = n3) (hc3 : n3 ≤ c3 ∧ c3 ≤ 9223372036854775807) (hb3 : n3 ≤ 100000) (h : LW W l w) :
    Calls Try.prog 8 #[.agg #[.slice A n c, .int .i64 s, .slice M m d, .slice E k g], .slice A3 n3 c3] w fun e w' => ∃ (A1 : Option Addr) (n1 c1 : Nat) (s1 : Int) (M1 : Option Addr) (m1 d1 : Nat) (E1 : Option Addr) (k1 g1 : Nat) (V : Option Addr) (nV cV : Nat) (hs : List Hd),
      e = .returned (.tuple #[.agg #[.slice A1 n1 c1, .int .i64 s1, .slice M1 m1 d1, .slice E1 k1 g1], .slice V nV cV, .int .i64 0]) ∧ AuR w' w'.heap.size A1 n1 c1 s1 M1 m1 d1 E1 k1 g1 b ∧ GV7 w' V nV cV hs L ∧ KW W l w w' := by
  subst hL hB
  refine (jProject_any A n c s M m d E k g A3 n3 c3 a ev w ha hx3 hn3 hc3 hb3).mono ?_
  rintro e w' ⟨hb, h1 | h1 | h1⟩
  · exact absurd hc h1.1
  · have := h1.2.1; omega
  · obtain ⟨_, _, A1, n1, c1, s1, M1, m1, d1, E1, k1, g1, V, nV, cV, hs, he, ha, hl, hlen, hm, q1, q2⟩ := h1
    exact ⟨A1, n1, c1, s1, M1, m1, d1, E1, k1, g1, V, nV, cV, hs, he, ha, ⟨hl, hlen, hm, q1, q2⟩, KW.of h hb⟩
theorem KW.gv {w w' wx : World} {V : Option Addr} {nV cV : Nat} {hs : List Hd} {zs : List (List Int)} (h : KW W l w w') (hv : GV7 w V nV cV hs zs) : GV7 w' V nV cV hs zs :=
  ⟨(hv.rd.below h.bel (Nat.le_refl _)).more h.bel.size, hv.len, hv.z, hv.cap⟩
end
end Go.Proofs.Ytmghngehpgolgaa
