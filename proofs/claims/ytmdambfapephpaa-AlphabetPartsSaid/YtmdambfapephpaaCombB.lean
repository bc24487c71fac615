/- Contracts of the program's Subset, of the reference's Set, and of Minus and Intersect with the capacities told. -/
import Derived.Test.YtmdambfapephpaaUnion
namespace Go.Proofs.Ytmdambfapephpaa
open Go.RowKit

def subB (xs ys : List Int) : Bool := xs.all fun x => decide (x ∈ ys)
theorem sub_next {xs ys : List Int} {k : Nat} (h : k < xs.length) (ht : subB (xs.take k) ys = true) (he : decide (xs.getD k 0 ∈ ys) = true) : subB (xs.take (k + 1)) ys = true := by
  unfold subB at *
  rw [List.take_succ_eq_append_getElem h, List.all_append, ht, Bool.true_and, List.all_cons, List.all_nil, Bool.and_true]
  have e : xs.getD k 0 = xs[k] := by simp [List.getD, List.getElem?_eq_getElem h]
  rw [← e]; exact he
theorem sub_bad {xs ys : List Int} {k : Nat} (h : k < xs.length) (he : decide (xs.getD k 0 ∈ ys) = false) : subB xs ys = false := by
  unfold subB
  rw [List.all_eq_false]; exact ⟨_, getD_mem h, by simpa using he⟩
theorem sub_minus (xs ys : List Int) : decide ((xs.filter fun x => !decide (x ∈ ys)).length = 0) = subB xs ys := by
  unfold subB
  rw [Bool.eq_iff_iff]
  simp [List.all_eq_true]

set_option maxHeartbeats 800000 in
theorem aSubset_any (A C : Option Addr) (n c m d Bx By : Nat) (xs ys : List Int) (w : World) (hx : RdI w Bx A xs) (hy : RdI w By C ys) (hn : xs.length = n) (hm : ys.length = m) (hb : n ≤ 140737488355328) (hb' : m ≤ 140737488355328) (hup : Up ys) :
    Calls Try.prog 32 #[.slice A n c, .slice C m d] w fun e w' => e = .returned (.bool (subB xs ys)) ∧ w = w' := by
  have HC := Lib.hid (fun x => aContains_any C m d By ys x w hy hm hb' hup)
  have HN := Lib.hid hn
  clear hn hm hup hy
  go_enter Try.func32, Try.ntmps32
  go_wp2
  go_loop [9] (fun i => ∃ k : Nat, k ≤ n ∧ i = .int .i64 k ∧ Hid (subB (xs.take k) ys = true)) (fun i => n - (intOf i).toNat)
  case atStart => exact ⟨0, Nat.zero_le _, rfl, rfl⟩
  case round =>
    obtain ⟨k, hk, rfl, ht⟩ := hrel
    by_cases hlt : k < n
    · obtain ⟨b1, o1, rfl, _, hc1⟩ := hx (by rw [HN.out]; omega)
      have hz : k < xs.length := by rw [HN.out]; exact hlt
      have h1 := hc1 k hz
      obtain ⟨y, hye⟩ : ∃ y, y = xs.getD k 0 := ⟨_, rfl⟩
      rw [← hye] at h1
      have HCC := Lib.hid (HC.out y)
      have HYE := Lib.hid hye
      clear hc1 hx hye
      cases hm : decide (y ∈ ys)
      · have hr := Lib.hid (sub_bad hz (by rw [← HYE.out]; exact hm))
        rw [hm] at HCC
        clear hm ht hz
        go_wp2_with (go_at_call 33; refine HCC.out.mono ?_; rintro e w' ⟨rfl, rfl⟩)
        go_ret
        exact ⟨ret_bool hr.out.symm, rfl⟩
      · have hr := Lib.hid (sub_next hz ht.out (by rw [← HYE.out]; exact hm))
        rw [hm] at HCC
        clear hm ht hz
        go_wp2_with (go_at_call 33; refine HCC.out.mono ?_; rintro e w' ⟨rfl, rfl⟩)
        go_round
        case rel => exact ⟨k + 1, by omega, by go_num, hr⟩
        case measure => simp [intOf]; omega
    · have hkn : k = n := by omega
      have hr := Lib.hid (show subB xs ys = true by have := ht.out; rwa [List.take_of_length_le (by rw [HN.out]; omega)] at this)
      clear hkn ht
      go_wp2
      go_ret
      exact ⟨ret_bool hr.out.symm, rfl⟩

/-- The bits of a number that are set, from bit i on. -/
def bf : Nat → Int → Int → List Int
  | 0, _, _ => []
  | f + 1, i, m => if m % 2 = 1 then i :: bf f (i + 1) (m / 2) else bf f (i + 1) (m / 2)
def setZ (m : Int) : List Int := bf 32 0 m
theorem bf_mem : ∀ (f : Nat) (i m x : Int), x ∈ bf f i m → i ≤ x ∧ x < i + f
  | 0, i, m, x, h => by simp [bf] at h
  | f + 1, i, m, x, h => by
    rw [bf] at h
    split at h
    · rcases List.mem_cons.1 h with rfl | h
      · omega
      · have := bf_mem f _ _ _ h; omega
    · have := bf_mem f _ _ _ h; omega
theorem bf_up : ∀ (f : Nat) (i m : Int), (bf f i m).Pairwise (· < ·)
  | 0, i, m => by simp [bf]
  | f + 1, i, m => by
    rw [bf]
    split
    · refine List.pairwise_cons.2 ⟨fun x hx => ?_, bf_up f _ _⟩
      have := bf_mem f _ _ _ hx; omega
    · exact bf_up f _ _
theorem bf_len : ∀ (f : Nat) (i m : Int), (bf f i m).length ≤ f
  | 0, i, m => by simp [bf]
  | f + 1, i, m => by
    rw [bf]
    have := bf_len f (i + 1) (m / 2)
    split <;> simp <;> omega
theorem up_of_pairwise {zs : List Int} (h : zs.Pairwise (· < ·)) : Up zs := fun s t hst ht => by
  have := (List.pairwise_iff_getElem.1 h) s t (by omega) ht hst
  simpa [List.getD, List.getElem?_eq_getElem ht, List.getElem?_eq_getElem (show s < zs.length by omega)] using this
theorem setZ_up (m : Int) : Up (setZ m) := up_of_pairwise (bf_up 32 0 m)
theorem setZ_len (m : Int) : (setZ m).length ≤ 32 := bf_len 32 0 m
theorem bf_yes {f : Nat} {i m : Int} {zs pre : List Int} (h : zs = pre ++ bf (f + 1) i m) (hm : m % 2 = 1) : zs = (pre ++ [i]) ++ bf f (i + 1) (m / 2) := by
  rw [h, bf, if_pos hm]; simp
theorem bf_no {f : Nat} {i m : Int} {zs pre : List Int} (h : zs = pre ++ bf (f + 1) i m) (hm : ¬ m % 2 = 1) : zs = pre ++ bf f (i + 1) (m / 2) := by
  rw [h, bf, if_neg hm]

set_option maxHeartbeats 1600000 in
theorem r1Set_any (m : Int) (w : World) (h0 : 0 ≤ m) (h1 : m ≤ 4294967295) :
    Calls Try.prog 24 #[.int .u32 m] w fun e w' => GivesC w (setZ m) e w' := by
  obtain ⟨i0, hi, hz0, hz1, hz2⟩ := info_parts info_int
  obtain ⟨zs, hzs⟩ : ∃ zs, zs = setZ m := ⟨_, rfl⟩
  rw [← hzs]
  have HZ := Lib.hid hzs
  obtain ⟨B, hB⟩ : ∃ B, B = w.heap.size := ⟨_, rfl⟩
  have HB := Lib.hid hB
  have hBw : B ≤ w.heap.size := by omega
  clear hB hzs
  go_enter Try.func24, Try.ntmps24
  go_wp2
  go_loopw [0, 3, 4] (fun mv v i wr => ∃ (k : Nat) (mk : Int) (pre : List Int), k ≤ 32 ∧ 0 ≤ mk ∧ mk ≤ 4294967295 ∧ mv = .int .u32 mk ∧ i = .int .i64 k ∧ Hid (Own wr B v pre) ∧ Hid (zs = pre ++ bf (32 - k) k mk) ∧ pre.length ≤ k ∧ Below B w wr) (fun _ _ i _ => 32 - (intOf i).toNat)
  case atStart => exact ⟨0, m, [], by omega, h0, h1, rfl, rfl, World.ownsRow_nil _ _ _ _, HZ.out, by simp, Below.refl _ _⟩
  case round =>
    obtain ⟨k, mk, pre, hk, hm0, hm1, rfl, rfl, hown, hpre, hlen, hnx⟩ := hrel
    have hsz := hnx.size
    by_cases hlt : k < 32
    · have hpre' := Lib.hid (show zs = pre ++ bf ((31 - k) + 1) k mk by rw [show 31 - k + 1 = 32 - k from by omega]; exact hpre.out)
      by_cases hod : mk % 2 = 1
      · have hY := Lib.hid (bf_yes hpre'.out hod)
        have hb1 : (mk % 2 == 1) = true := by simpa using hod
        clear hod hpre hpre'
        go_wp2_with (at_builtin; refine wpList_append_own _ rfl _ _ 37 rfl B 3 i0 (.int .i64 0) 1 8 Try.underlying37 hi hz0 hz1 hz2 rfl (by decide) _ _ _ rfl (hown.out.alloc _) ⟨wr.heap.size, 0, none⟩ 1 1 [.int .i64 k] rfl rfl ?c1 ?c2 ?c3 ?c4 ?c5 ?_)
        case c1 => exact own_one
        case c2 => intro u hu; simp at hu; subst hu; rfl
        case c3 => unfold maxLen; omega
        case c4 => omega
        case c5 => simp; omega
        intro v' w1 hown' hgrow _
        have R := own_app (K' := pre ++ [(k : Int)]) rfl hnx hown.out hown' hgrow hBw
        have R1 := Lib.hid R.1
        have R2 := R.2
        have hl' : (pre ++ [(k : Int)]).length ≤ k + 1 := by simp; omega
        have hY' := Lib.hid (show zs = (pre ++ [(k : Int)]) ++ bf (32 - (k + 1)) ((k + 1 : Nat) : Int) (mk / 2) by rw [show 32 - (k + 1) = 31 - k from by omega]; exact hY.out)
        clear R hown' hgrow hY
        go_wp2
        go_roundw
        case rel => exact ⟨k + 1, mk / 2, _, by omega, by omega, by omega, by go_num, by go_num, R1, hY', hl', R2⟩
        case measure => simp [intOf]; omega
      · have hN := Lib.hid (bf_no hpre'.out hod)
        have hb1 : (mk % 2 == 1) = false := by simpa using hod
        have hN' := Lib.hid (show zs = pre ++ bf (32 - (k + 1)) ((k + 1 : Nat) : Int) (mk / 2) by rw [show 32 - (k + 1) = 31 - k from by omega]; exact hN.out)
        clear hod hpre hpre' hN
        go_wp2
        go_roundw
        case rel => exact ⟨k + 1, mk / 2, _, by omega, by omega, by omega, by go_num, by go_num, hown, hN', by omega, hnx⟩
        case measure => simp [intOf]; omega
    · have hk32 : 32 - k = 0 := by omega
      have e := Lib.hid (show zs = pre by rw [hpre.out, hk32, bf]; simp)
      have hf := Lib.hid (own_rdc hown.out)
      have hnx' : Below w.heap.size w wr := by rw [← HB.out]; exact hnx
      clear hk32 hpre hown
      go_wp2
      go_ret
      obtain ⟨A', c', e', hr, hcap1, hcap2⟩ := hf.out
      rw [e.out]
      exact ⟨A', c', by rw [← e']; rfl, hr, hnx', hcap1, hcap2⟩

theorem aMinusC_any (A Bd : Option Addr) (n c m d : Nat) (xs ys : List Int) (w : World) (hx : RdI w w.heap.size A xs) (hy : RdI w w.heap.size Bd ys) (hn : xs.length = n) (hm : ys.length = m) (hb : n * 8 ≤ 140737488351232) (hb' : m * 8 ≤ 140737488351232) (hup : Up ys) :
    Calls Try.prog 30 #[.slice A n c, .slice Bd m d] w fun e w' => GivesC w (xs.filter fun x => !decide (x ∈ ys)) e w' := by
  have hmf : ∀ (fn : Fn) (first cap : Array Value) (w : World), (Instr.makeFunc fn first cap).run Try.prog w = .ok (.func fn first cap) w := fun _ _ _ _ => rfl
  have hB1 : Below w.heap.size w (w.alloc (.cells #[.slice Bd m d] 37)) := (Below.refl _ _).alloc (Nat.le_refl _) _
  have hC1 : (w.alloc (.cells #[.slice Bd m d] 37)).cell? ⟨w.heap.size, 0, none⟩ = some (.slice Bd m d) := by
    rw [World.cell?_alloc_at _ _ _ _ rfl]; rfl
  have H := Lib.hid (keep_any 50 (.pointer (some ⟨w.heap.size, 0, none⟩)) (fun x => !decide (x ∈ ys)) (fun W => W.cell? ⟨w.heap.size, 0, none⟩ = some (.slice Bd m d) ∧ RdI W w.heap.size Bd ys) A n c xs (w.alloc (.cells #[.slice Bd m d] 37))
    ((hx.below hB1 (Nat.le_refl _)).more (by simp)) hn hb ⟨hC1, hy.below hB1 (Nat.le_refl _)⟩ (fun W W' hW hbel => ⟨(hbel.cell (by simp)).trans hW.1, hW.2.below hbel (by simp)⟩) callMinusFn
    (fun x W hW => minusFn_any w.heap.size Bd m d w.heap.size ys x W hW.1 hW.2 hm (by omega) hup))
  have HB1 := Lib.hid hB1
  clear hn hm hup hx hy hB1 hC1
  go_enter Try.func30, Try.ntmps30
  go_wp2_with (go_at_call 48; refine H.out.mono ?_; rintro e w' ⟨v, rfl, hown, hbel⟩)
  have hf := own_rdc hown
  have hbel' := HB1.out.trans (hbel.mono (by simp))
  clear hown hbel
  obtain ⟨A', c', rfl, hrd, hcap1, hcap2⟩ := hf
  go_ret
  exact ⟨A', c', rfl, hrd, hbel', hcap1, hcap2⟩

theorem aIntersectC_any (A Bd : Option Addr) (n c m d : Nat) (xs ys : List Int) (w : World) (hx : RdI w w.heap.size A xs) (hy : RdI w w.heap.size Bd ys) (hn : xs.length = n) (hm : ys.length = m) (hb : n * 8 ≤ 140737488351232) (hb' : m * 8 ≤ 140737488351232) (hup : Up ys) :
    Calls Try.prog 28 #[.slice A n c, .slice Bd m d] w fun e w' => GivesC w (xs.filter fun x => decide (x ∈ ys)) e w' := by
  have hmf : ∀ (fn : Fn) (first cap : Array Value) (w : World), (Instr.makeFunc fn first cap).run Try.prog w = .ok (.func fn first cap) w := fun _ _ _ _ => rfl
  have hB1 : Below w.heap.size w (w.alloc (.cells #[.slice Bd m d] 37)) := (Below.refl _ _).alloc (Nat.le_refl _) _
  have hC1 : (w.alloc (.cells #[.slice Bd m d] 37)).cell? ⟨w.heap.size, 0, none⟩ = some (.slice Bd m d) := by
    rw [World.cell?_alloc_at _ _ _ _ rfl]; rfl
  have H := Lib.hid (keep_any 49 (.pointer (some ⟨w.heap.size, 0, none⟩)) (fun x => decide (x ∈ ys)) (fun W => W.cell? ⟨w.heap.size, 0, none⟩ = some (.slice Bd m d) ∧ RdI W w.heap.size Bd ys) A n c xs (w.alloc (.cells #[.slice Bd m d] 37))
    ((hx.below hB1 (Nat.le_refl _)).more (by simp)) hn hb ⟨hC1, hy.below hB1 (Nat.le_refl _)⟩ (fun W W' hW hbel => ⟨(hbel.cell (by simp)).trans hW.1, hW.2.below hbel (by simp)⟩) callInterFn
    (fun x W hW => interFn_any w.heap.size Bd m d w.heap.size ys x W hW.1 hW.2 hm (by omega) hup))
  have HB1 := Lib.hid hB1
  clear hn hm hup hx hy hB1 hC1
  go_enter Try.func28, Try.ntmps28
  go_wp2_with (go_at_call 48; refine H.out.mono ?_; rintro e w' ⟨v, rfl, hown, hbel⟩)
  have hf := own_rdc hown
  have hbel' := HB1.out.trans (hbel.mono (by simp))
  clear hown hbel
  obtain ⟨A', c', rfl, hrd, hcap1, hcap2⟩ := hf
  go_ret
  exact ⟨A', c', rfl, hrd, hbel', hcap1, hcap2⟩

end Go.Proofs.Ytmdambfapephpaa
