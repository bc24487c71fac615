/- The contract of Set of the law: the events from 0 to 4 whose bits are set. -/
import Derived.Test.YtdccmebkoibkhaaWword
import Derived.Test.YtdccmebkoibkhaaSearch
import Derived.Laws.BitsAllLaws
namespace Go.Proofs.Ytdccmebkoibkhaa
open Go.RowKit

/-- Is bit k of x set? As the machine asks it. -/
def sb (x : Int) (k : Nat) : Bool := bits BinOp.and IntKind.u8 (x / 2 ^ k) 1 == 1
theorem and_u8 (a b : Nat) (ha : a < 256) (hb : b < 256) : bits .and .u8 (a : Int) (b : Int) = ((a &&& b : Nat) : Int) := by
  have hx : a &&& b < 2 ^ 8 := Nat.and_lt_two_pow _ (by omega)
  have e1 : ∀ c : Nat, c < 256 → (BitVec.ofInt 8 (c : Int)).toNat = c := fun c hc => by
    rw [BitVec.ofInt_natCast, BitVec.toNat_ofNat]; exact Nat.mod_eq_of_lt (by omega)
  show IntKind.u8.wrap ((BitVec.ofInt 8 (a : Int) &&& BitVec.ofInt 8 (b : Int)).toNat : Int) = _
  rw [BitVec.toNat_and, e1 a ha, e1 b hb]
  simp [IntKind.wrap, IntKind.bits, IntKind.signed]
  omega
theorem sb_nat (n k : Nat) (h : n < 256) : sb (n : Int) k = n.testBit k := by
  have e : (n : Int) / 2 ^ k = ((n / 2 ^ k : Nat) : Int) := by simp
  have hlt : n / 2 ^ k < 256 := Nat.lt_of_le_of_lt (Nat.div_le_self _ _) h
  rw [sb, e, show (1 : Int) = ((1 : Nat) : Int) from rfl, and_u8 _ _ hlt (by omega), Nat.and_one_is_mod]
  rw [Nat.testBit_eq_decide_div_mod_eq]
  rw [Bool.eq_iff_iff]
  simp
  omega
/-- The events below k whose bits are set. -/
def setN (x : Int) (k : Nat) : List Int := ((List.range k).filter (sb x)).map Int.ofNat
def setZ (x : Int) : List Int := setN x 5
theorem setN_yes {x : Int} {k : Nat} (h : sb x k = true) : setN x (k + 1) = setN x k ++ [(k : Int)] := by
  unfold setN; rw [List.range_succ, List.filter_append, List.map_append]; simp [h]
theorem setN_no {x : Int} {k : Nat} (h : sb x k = false) : setN x (k + 1) = setN x k := by
  unfold setN; rw [List.range_succ, List.filter_append, List.map_append]; simp [h]
theorem setN_len (x : Int) (k : Nat) : (setN x k).length ≤ k := by
  unfold setN; rw [List.length_map]; exact Nat.le_trans (List.length_filter_le _ _) (by simp)
theorem mem_setZ {x e : Int} : e ∈ setZ x ↔ ∃ k : Nat, k < 5 ∧ e = (k : Int) ∧ sb x k = true := by
  unfold setZ setN
  simp only [List.mem_map, List.mem_filter, List.mem_range]
  constructor
  · rintro ⟨k, ⟨h1, h2⟩, rfl⟩; exact ⟨k, h1, rfl, h2⟩
  · rintro ⟨k, h1, rfl, h2⟩; exact ⟨k, ⟨h1, h2⟩, rfl⟩
theorem up_setZ (x : Int) : Up (setZ x) := by
  have hp : (setZ x).Pairwise (· < ·) := by
    unfold setZ setN
    rw [List.pairwise_map]
    exact (List.pairwise_lt_range.filter _).imp fun h => by simpa using h
  intro i j hij hj
  have := List.pairwise_iff_getElem.1 hp i j (by omega) hj hij
  simpa [List.getD, List.getElem?_eq_getElem hj, List.getElem?_eq_getElem (show i < (setZ x).length by omega)] using this

set_option maxHeartbeats 1600000 in
set_option maxRecDepth 4000 in
theorem lset_any (x : Int) (w : World) (_h0 : 0 ≤ x) (_h1 : x < 256) : Calls Try.prog 20 #[.int .u8 x] w (GivesD w (setZ x)) := by
  obtain ⟨i0, hi, hz0, hz1, hz2⟩ := info_parts info_int
  go_enter Try.func20, Try.ntmps20
  go_wp2_with fail
  go_loopw [3, 4] (fun v i wr => ∃ k : Nat, k ≤ 5 ∧ i = .int .i64 k ∧ Hid (Own wr w.heap.size v (setN x k)) ∧ Below w.heap.size w wr) (fun _ i _ => 5 - (intOf i).toNat)
  case atStart => exact ⟨0, Nat.zero_le _, rfl, World.ownsRow_nil _ _ _ _, Below.refl _ _⟩
  case round =>
    obtain ⟨k, hk, rfl, ho, hnx⟩ := hrel
    by_cases hlt : k < 5
    · have k1 : (k : Int) < 5 := by omega
      cases hsb : sb x k with
      | true =>
        have hs := Lib.hid (setN_yes hsb)
        have hbit : (bits BinOp.and IntKind.u8 (x / 2 ^ k) 1 == 1) = true := hsb
        have hl := Lib.hid (setN_len x k)
        obtain ⟨q, hq⟩ : ∃ q, q = (setN x k).length := ⟨_, rfl⟩
        have hown : wr.ownsRow w.heap.size 3 1 u3 q ((setN x k).map (Value.int .i64)) := by rw [hq]; exact ho.out
        have HO := Lib.hid hown
        have HQ := Lib.hid hq
        have hq5 : q ≤ 5 := by have := hl.out; omega
        have hws := hnx.size
        clear hsb hown hq
        go_wp2_with (at_builtin; refine wpList_append_own _ rfl _ _ 22 rfl w.heap.size 3 i0 (.int .i64 0) 1 8 Try.underlying22 hi hz0 hz1 hz2 rfl (by decide) _ _ _ rfl (HO.out.alloc _) ⟨wr.heap.size, 0, none⟩ 1 1 [.int .i64 k] rfl rfl own_one (by simp [Value.oneCell']) (by unfold maxLen; omega) (by omega) (by simp; omega) ?_)
        intro v' w1 hown1 hgrow _
        have HO1 := Lib.hid (show Own w1 w.heap.size v' (setN x (k + 1)) by
          rw [Own, hs.out]
          simp only [List.length_append, List.length_singleton, List.map_append, List.map_cons, List.map_nil, ← HQ.out]
          exact hown1)
        have HB1 := Lib.hid ((hnx.alloc hws (.cells #[.int .i64 k] 3)).grown hgrow (by simp; omega) (fun j hj => (HO.out.lt j hj).1))
        clear hown1 hgrow hnx
        go_wp2_with fail
        go_roundw
        case rel => exact ⟨k + 1, by omega, by go_num, HO1, HB1.out⟩
        case measure => simp [intOf]; omega
      | false =>
        have hs := Lib.hid (setN_no hsb)
        have hbit : (bits BinOp.and IntKind.u8 (x / 2 ^ k) 1 == 1) = false := hsb
        have HO1 := Lib.hid (show Own wr w.heap.size u3 (setN x (k + 1)) by rw [hs.out]; exact ho.out)
        clear hsb
        go_wp2_with fail
        go_roundw
        case rel => exact ⟨k + 1, by omega, by go_num, HO1, hnx⟩
        case measure => simp [intOf]; omega
    · have k1 : ¬ (k : Int) < 5 := by omega
      have hf := Lib.hid (show GivesD w (setZ x) (.returned u3) wr by
        obtain rfl : k = 5 := by omega
        obtain ⟨A', c', e, hr, h1, h2⟩ := own_rdc ho.out
        exact ⟨A', c', by rw [e]; rfl, hr, hnx, h1, h2⟩)
      go_wp2_with fail
      go_ret
      exact hf.out
end Go.Proofs.Ytdccmebkoibkhaa
