/- What each call of the function value in itself wants and gives. -/
import Derived.Test.YtdccmebkoibkhaaShSt
namespace Go.Proofs.Ytdccmebkoibkhaa
open Go.RowKit

/-- The facts at a call behind an append of the head of one word. -/
structure Gen (B0 base ba bg b1 o1 n1 c1 nz : Nat) (va vb vA v fst snd : Value) (swap : Bool) (a b zs : List Int) (x : Int) (xs : List Value) (L : List (List Int)) (w : World) : Prop where
  head : w.cell? ⟨b1, o1, none⟩ = some (.int .i64 x)
  lt : b1 < B0
  neh : some b1 ≠ v.ownBlock
  neg : some bg ≠ v.ownBlock
  own : w.ownsRow base 3 1 v nz (zs.map (Value.int .i64))
  one : 1 ≤ n1
  cap : n1 ≤ c1
  top : c1 ≤ 9223372036854775807
  size : base ≤ w.heap.size
  self : w.cell? ⟨bg, 0, none⟩ = some (.func (.func 51) #[] #[.pointer (some ⟨ba, 0, none⟩), .pointer (some ⟨bg, 0, none⟩)])
  apd : ∀ (g cap : Nat) (w0 w1 : World), Below w.heap.size w w0 → w1.ownsRow base 3 1 (.slice (some ⟨g, 0, none⟩) (nz + 1) cap) (nz + 1) (zs.map (Value.int .i64) ++ [.int .i64 x]) → w0.grownBy w1 v.ownBlock → w1.ownsRow base 3 1 v nz (zs.map (Value.int .i64)) →
    (v = .slice (some ⟨g, 0, none⟩) nz cap ∨ (w0.heap.size ≤ g ∧ w0.grownBy w1 none)) → Apd B0 base ba bg va vb vA v (.slice (some ⟨g, 0, none⟩) (nz + 1) cap) a b zs x xs w w1
  call : ∀ (g cap : Nat) (W : World), Apd B0 base ba bg va vb vA v (.slice (some ⟨g, 0, none⟩) (nz + 1) cap) a b zs x xs w W →
    Calls Try.prog 51 #[.slice (some ⟨g, 0, none⟩) (nz + 1) cap, fst, snd, .pointer (some ⟨ba, 0, none⟩), .pointer (some ⟨bg, 0, none⟩)] W (Gp base ba (.slice (some ⟨g, 0, none⟩) (nz + 1) cap) L xs W)

theorem gen_l {B0 base ba bg N : Nat} (h0a : B0 ≤ ba) (hba : ba < base) (hbg : bg < base) (ih : GrowAt B0 base ba bg N) {vb vA v : Value} {b1 o1 c1 n1 nz : Nat} {zs a b : List Int} {x : Int} {xs : List Value} {w : World}
    (hN : a.length + b.length = N) (hv : Own w base v zs) (hnz : nz = zs.length) (hn1 : n1 = (x :: a).length) (hst : St B0 base ba bg (.slice (some ⟨b1, o1, none⟩) n1 c1) vb vA (x :: a) b xs w) (hz : zs.length + (N + 1) ≤ 4096) (hx : xs.length + 2 ^ N ≤ 100000) :
    Gen B0 base ba bg b1 o1 n1 c1 nz (.slice (some ⟨b1, o1, none⟩) n1 c1) vb vA v (.slice (if c1 = 1 then some ⟨b1, o1, none⟩ else some ⟨b1, o1 + 1, none⟩) (n1 - 1) (c1 - 1)) vb false (x :: a) b zs x xs (shufL (zs ++ [x]) a b) w := by
  obtain ⟨A, c, e, hra, hca1, hca2⟩ := hst.fst
  injection e with e1 e2 e3
  subst e1; subst e3
  obtain ⟨b1', o1', e, hbB1, hx1⟩ := hra (by simp)
  injection e with e
  injection e with e1 e4
  subst e1; subst e4
  have hta := rdI_tail hra
  have hltv : ∀ k, v.ownBlock = some k → base ≤ k := fun k hk => (hv.lt k hk).1
  subst hnz
  subst hn1
  refine ⟨by simpa using hx1 0 (by simp), hbB1, fun e => by have := hltv b1 e.symm; omega, fun e => by have := hltv bg e.symm; omega, hv, by simp, hca1, hca2, hst.size, hst.self, fun g cap w0 w1 k1 k2 k3 k4 k5 => apd_of hst hv k1 k2 k3 k4 k5 h0a hba hbg, fun g cap W ad => ?_⟩
  exact ih _ _ _ vA (zs ++ [x]) a b xs W hN ad.own ⟨sl_tail hta (ad.fr.below (by omega) h0a) rfl hca1 hca2, ad.st.snd, ad.st.cell, ad.st.frz, ad.st.row, ad.st.self, ad.st.size⟩ (by simp; omega) hx

theorem gen_r {B0 base ba bg N : Nat} (h0a : B0 ≤ ba) (hba : ba < base) (hbg : bg < base) (ih : GrowAt B0 base ba bg N) {va vA v : Value} {b1 o1 c1 n1 nz : Nat} {zs a b : List Int} {x : Int} {xs : List Value} {w : World}
    (hN : a.length + b.length = N) (hv : Own w base v zs) (hnz : nz = zs.length) (hn1 : n1 = (x :: b).length) (hst : St B0 base ba bg va (.slice (some ⟨b1, o1, none⟩) n1 c1) vA a (x :: b) xs w) (hz : zs.length + (N + 1) ≤ 4096) (hx : xs.length + 2 ^ N ≤ 100000) :
    Gen B0 base ba bg b1 o1 n1 c1 nz va (.slice (some ⟨b1, o1, none⟩) n1 c1) vA v va (.slice (if c1 = 1 then some ⟨b1, o1, none⟩ else some ⟨b1, o1 + 1, none⟩) (n1 - 1) (c1 - 1)) true a (x :: b) zs x xs (shufL (zs ++ [x]) a b) w := by
  obtain ⟨A, c, e, hra, hca1, hca2⟩ := hst.snd
  injection e with e1 e2 e3
  subst e1; subst e3
  obtain ⟨b1', o1', e, hbB1, hx1⟩ := hra (by simp)
  injection e with e
  injection e with e1 e4
  subst e1; subst e4
  have hta := rdI_tail hra
  have hltv : ∀ k, v.ownBlock = some k → base ≤ k := fun k hk => (hv.lt k hk).1
  subst hnz
  subst hn1
  refine ⟨by simpa using hx1 0 (by simp), hbB1, fun e => by have := hltv b1 e.symm; omega, fun e => by have := hltv bg e.symm; omega, hv, by simp, hca1, hca2, hst.size, hst.self, fun g cap w0 w1 k1 k2 k3 k4 k5 => apd_of hst hv k1 k2 k3 k4 k5 h0a hba hbg, fun g cap W ad => ?_⟩
  exact ih _ _ _ vA (zs ++ [x]) a b xs W hN ad.own ⟨ad.st.fst, sl_tail hta (ad.fr.below (by omega) h0a) rfl hca1 hca2, ad.st.cell, ad.st.frz, ad.st.row, ad.st.self, ad.st.size⟩ (by simp; omega) hx
end Go.Proofs.Ytdccmebkoibkhaa
