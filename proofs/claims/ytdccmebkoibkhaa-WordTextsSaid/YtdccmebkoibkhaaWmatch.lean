/- The contract of Match: the first error of the two Checks, or merge's answer. -/
import Derived.Test.YtdccmebkoibkhaaWmerge
import Derived.Test.YtdccmebkoibkhaaWchk
namespace Go.Proofs.Ytdccmebkoibkhaa
open Go.RowKit

/-- What Match answers where there is no error: the word, and whether there is one. -/
def mtZ (a f b s : List Int) : List Int × Bool := mg (f.filter fun x => decide (x ∈ s)) [] a b
theorem up_filter {f : List Int} (h : Up f) (p : Int → Bool) : Up (f.filter p) := by
  have hp : f.Pairwise (· < ·) := List.pairwise_iff_getElem.2 fun i j hi hj hij => by
    have := h i j hij hj
    simpa [List.getD, List.getElem?_eq_getElem hi, List.getElem?_eq_getElem hj] using this
  intro i j hij hj
  have := List.pairwise_iff_getElem.1 (hp.filter p) i j (by omega) hj hij
  simpa [List.getD, List.getElem?_eq_getElem hj, List.getElem?_eq_getElem (show i < (f.filter p).length by omega)] using this

set_option maxHeartbeats 800000 in
theorem wMatch_ok (A F B S : Option Addr) (c1 c2 c3 c4 : Nat) (a f b s : List Int) (w : World)
    (ha : RdI w w.heap.size A a) (hf : RdI w w.heap.size F f) (hb : RdI w w.heap.size B b) (hs : RdI w w.heap.size S s)
    (la : a.length ≤ c1) (lc : c1 ≤ 9223372036854775807) (lb : b.length ≤ c3) (ld : c3 ≤ 9223372036854775807)
    (ba : a.length ≤ 4096) (bf : f.length ≤ 4096) (bb : b.length ≤ 4096) (bs : s.length ≤ 4096) (e1 : wcE f a = 0) (e2 : wcE s b = 0) (uf : Up f) (us : Up s) :
    Calls Try.prog 35 #[.slice A a.length c1, .slice F f.length c2, .slice B b.length c3, .slice S s.length c4] w fun e w' =>
      ∃ C c, e = .returned (.tuple #[.slice C (mtZ a f b s).1.length c, .bool (mtZ a f b s).2, .int .i64 0]) ∧ RdI w' w'.heap.size C (mtZ a f b s).1 ∧ Below w.heap.size w w' := by
  have H1 := Lib.hid (wCheck_any A F _ c1 _ c2 _ _ a f w ha hf rfl rfl (by omega) (by omega))
  have H2 := Lib.hid (wCheck_any B S _ c3 _ c4 _ _ b s w hb hs rfl rfl (by omega) (by omega))
  rw [e1] at H1
  rw [e2] at H2
  have HI := Lib.hid (aIntersect_any F S _ c2 _ c4 f s w hf hs rfl rfl (by omega) (by omega) us)
  obtain ⟨g, hg⟩ : ∃ g, g = f.filter fun x => decide (x ∈ s) := ⟨_, rfl⟩
  have hgl : g.length ≤ 4096 := by rw [hg]; exact Nat.le_trans (List.length_filter_le _ _) bf
  have hgu : Up g := by rw [hg]; exact up_filter uf _
  rw [← hg] at HI
  obtain ⟨R, hR⟩ : ∃ R, R = mtZ a f b s := ⟨_, rfl⟩
  have HR := Lib.hid (show R = mg g [] a b by rw [hR, mtZ, hg])
  rw [← hR]
  have HM := Lib.hid (fun C d W (h : Below w.heap.size w W) (hr : RdI W W.heap.size C g) => by
    have := merge_any C _ d g (.slice A a.length c1) (.slice B b.length c3) a b W hr rfl (by omega) hgu
      ⟨A, c1, rfl, (ha.below h (Nat.le_refl _)).more h.size, la, lc⟩ ⟨B, c3, rfl, (hb.below h (Nat.le_refl _)).more h.size, lb, ld⟩ (by omega)
    rwa [← HR.out] at this)
  obtain ⟨n1, hn1⟩ : ∃ n, n = a.length := ⟨_, rfl⟩
  obtain ⟨n2, hn2⟩ : ∃ n, n = f.length := ⟨_, rfl⟩
  obtain ⟨n3, hn3⟩ : ∃ n, n = b.length := ⟨_, rfl⟩
  obtain ⟨n4, hn4⟩ : ∃ n, n = s.length := ⟨_, rfl⟩
  rw [← hn1, ← hn2] at H1
  rw [← hn3, ← hn4] at H2
  rw [← hn2, ← hn4] at HI
  rw [← hn1, ← hn3] at HM
  rw [← hn1, ← hn2, ← hn3, ← hn4]
  clear ha hf hb hs la lc lb ld ba bf bb bs e1 e2 uf us hg hgl hgu hR hn1 hn2 hn3 hn4
  go_enter Try.func35, Try.ntmps35
  go_wp2_with fail
  refine H1.out.mono ?_
  rintro e w' ⟨rfl, rfl⟩
  go_wp2_with fail
  refine H2.out.mono ?_
  rintro e w' ⟨rfl, rfl⟩
  go_wp2_with fail
  refine HI.out.mono ?_
  rintro e w1 ⟨G, cg, rfl, hrg, hb1⟩
  go_wp2_with fail
  refine (HM.out _ _ _ hb1 hrg).mono ?_
  rintro e w2 ⟨C, cc, rfl, hrc, hb2⟩
  go_wp2_with fail
  go_ret3
  exact ⟨C, cc, rfl, hrc, hb1.trans (hb2.mono hb1.size)⟩
end Go.Proofs.Ytdccmebkoibkhaa
