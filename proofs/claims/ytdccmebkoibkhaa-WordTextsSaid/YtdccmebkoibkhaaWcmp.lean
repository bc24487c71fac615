/- Contracts of the comparisons of words: cmp.Compare, slices.Compare, word.Compare, word.Equal, the reference's Compare, and same. -/
import Derived.Test.YtdccmebkoibkhaaSearch
import Derived.Deep.QuietTactic
import Derived.BigQuiet
namespace Go.Proofs.Ytdccmebkoibkhaa
open Go.RowKit

/-- Two lists compared lexicographically. -/
def lexI : List Int → List Int → Int
  | [], [] => 0
  | [], _ :: _ => -1
  | _ :: _, [] => 1
  | x :: xs, y :: ys => if x < y then -1 else if y < x then 1 else lexI xs ys
/-- Words compared by their lengths, and then lexicographically. -/
def cmpI (a b : List Int) : Int := if a.length < b.length then -1 else if b.length < a.length then 1 else lexI a b

theorem lex_lt {xs ys : List Int} {k : Nat} {v : Int} (hx : k < xs.length) (hy : k < ys.length) (h : lexI (xs.drop k) (ys.drop k) = v) (hlt : xs.getD k 0 < ys.getD k 0) : v = -1 := by
  rw [← h, drop_step xs k hx, drop_step ys k hy, lexI, if_pos hlt]
theorem lex_gt {xs ys : List Int} {k : Nat} {v : Int} (hx : k < xs.length) (hy : k < ys.length) (h : lexI (xs.drop k) (ys.drop k) = v) (hlt : ys.getD k 0 < xs.getD k 0) : v = 1 := by
  rw [← h, drop_step xs k hx, drop_step ys k hy, lexI, if_neg (by omega), if_pos hlt]
theorem lex_eq {xs ys : List Int} {k : Nat} {v : Int} (hx : k < xs.length) (hy : k < ys.length) (h : lexI (xs.drop k) (ys.drop k) = v) (he : xs.getD k 0 = ys.getD k 0) : lexI (xs.drop (k + 1)) (ys.drop (k + 1)) = v := by
  rw [← h, drop_step xs k hx, drop_step ys k hy, lexI, if_neg (by omega), if_neg (by omega)]
theorem lex_end {xs ys : List Int} {k : Nat} {v : Int} (hx : xs.length = k) (hy : ys.length = k) (h : lexI (xs.drop k) (ys.drop k) = v) : v = 0 := by
  rw [← h, List.drop_of_length_le (by omega), List.drop_of_length_le (by omega), lexI]
theorem lex_short {xs ys : List Int} {k : Nat} {v : Int} (hx : xs.length = k) (hy : k < ys.length) (h : lexI (xs.drop k) (ys.drop k) = v) : v = -1 := by
  rw [← h, List.drop_of_length_le (by omega), drop_step ys k hy, lexI]
theorem lex_long {xs ys : List Int} {k : Nat} {v : Int} (hx : k < xs.length) (hy : ys.length = k) (h : lexI (xs.drop k) (ys.drop k) = v) : v = 1 := by
  rw [← h, drop_step xs k hx, List.drop_of_length_le (l := ys) (by omega), lexI]

/-- Two numbers compared. -/
def cmp1 (x y : Int) : Int := if x < y then -1 else if y < x then 1 else 0

set_option maxHeartbeats 400000 in
theorem cmpCompare_any (x y : Int) (w : World) : Calls Try.prog 46 #[.int .i64 x, .int .i64 y] w fun e w' => e = .returned (.int .i64 (cmp1 x y)) ∧ w = w' := by
  have H := Lib.hid cIsNaN_any
  by_cases h1 : x < y
  · have e := Lib.hid (show cmp1 x y = -1 by rw [cmp1, if_pos h1])
    rw [e.out]
    go_enter Try.func46, Try.ntmps46
    go_wp2_with (go_at_call 64; refine (H.out _ _).mono ?_; rintro e w' ⟨rfl, rfl⟩)
    go_ret
    exact ⟨rfl, rfl⟩
  · by_cases h2 : y < x
    · have e := Lib.hid (show cmp1 x y = 1 by rw [cmp1, if_neg h1, if_pos h2])
      rw [e.out]
      go_enter Try.func46, Try.ntmps46
      go_wp2_with (go_at_call 64; refine (H.out _ _).mono ?_; rintro e w' ⟨rfl, rfl⟩)
      go_ret
      exact ⟨rfl, rfl⟩
    · have e := Lib.hid (show cmp1 x y = 0 by rw [cmp1, if_neg h1, if_neg h2])
      rw [e.out]
      go_enter Try.func46, Try.ntmps46
      go_wp2_with (go_at_call 64; refine (H.out _ _).mono ?_; rintro e w' ⟨rfl, rfl⟩)
      go_ret
      exact ⟨rfl, rfl⟩

set_option maxHeartbeats 400000 in
theorem r2Compare_any (A B : Option Addr) (n m c d Bx By : Nat) (xs ys : List Int) (w : World) (hx : RdI w Bx A xs) (hy : RdI w By B ys) (hn : xs.length = n) (hm : ys.length = m) (hb : n ≤ 140737488355328) (hb' : m ≤ 140737488355328) :
    Calls Try.prog 18 #[.slice A n c, .slice B m d] w fun e w' => e = .returned (.int .i64 (cmpI xs ys)) ∧ ∃ q, w' = w.drewN q := by
  by_cases hnm : n = m
  · subst hnm
    have HN := Lib.hid hn
    have HM := Lib.hid hm
    obtain ⟨v, hv⟩ : ∃ v, cmpI xs ys = v := ⟨_, rfl⟩
    rw [hv]
    have hv0 := Lib.hid (show lexI (xs.drop 0) (ys.drop 0) = v by rw [← hv, cmpI, if_neg (by omega), if_neg (by omega)]; rfl)
    clear hn hm hv
    go_enter Try.func18, Try.ntmps18
    go_wp2
    go_loopw [5] (fun i wr => ∃ k : Nat, k ≤ n ∧ i = .int .i64 k ∧ Hid (lexI (xs.drop k) (ys.drop k) = v) ∧ ∃ q, wr = w.drewN q) (fun i _ => n - (intOf i).toNat)
    case atStart => exact ⟨0, Nat.zero_le _, rfl, hv0, 0, rfl⟩
    case round =>
      obtain ⟨k, hk, rfl, ht, q, rfl⟩ := hrel
      by_cases hlt : k < n
      · obtain ⟨b1, o1, rfl, _, hc1⟩ := hx (by rw [HN.out]; omega)
        obtain ⟨b2, o2, rfl, _, hc2⟩ := hy (by rw [HM.out]; omega)
        have h1 := hc1 k (by rw [HN.out]; exact hlt)
        have h2 := hc2 k (by rw [HM.out]; exact hlt)
        clear hc1 hc2 hx hy
        obtain ⟨x, hx⟩ : ∃ x, x = xs.getD k 0 := ⟨_, rfl⟩
        obtain ⟨y, hy⟩ : ∃ y, y = ys.getD k 0 := ⟨_, rfl⟩
        rw [← hx] at h1
        rw [← hy] at h2
        by_cases hxy : x < y
        · have hs := Lib.hid (lex_lt (by rw [HN.out]; exact hlt) (by rw [HM.out]; exact hlt) ht.out (by rw [← hx, ← hy]; exact hxy))
          clear hx hy ht
          go_wp2
          go_quiet (fail)
          go_wp2
          go_ret
          exact ⟨ret_int hs.out.symm, by first | exact ⟨_, rfl⟩ | exact dr_add _ _ _⟩
        · by_cases hyx : y < x
          · have hs := Lib.hid (lex_gt (by rw [HN.out]; exact hlt) (by rw [HM.out]; exact hlt) ht.out (by rw [← hx, ← hy]; exact hyx))
            clear hx hy ht
            go_wp2
            go_quiet (fail)
            go_wp2
            go_quiet (fail)
            go_wp2
            go_ret
            exact ⟨ret_int hs.out.symm, by first | exact ⟨_, rfl⟩ | exact dr_add _ _ _ | (simp only [World.drewN_drewN]; exact ⟨_, rfl⟩)⟩
          · have hs := Lib.hid (lex_eq (by rw [HN.out]; exact hlt) (by rw [HM.out]; exact hlt) ht.out (by rw [← hx, ← hy]; omega))
            clear hx hy ht
            go_wp2
            go_quiet (fail)
            go_wp2
            go_quiet (fail)
            go_wp2
            go_roundw
            case rel => exact ⟨k + 1, by omega, by go_num, hs, by first | exact ⟨_, rfl⟩ | exact dr_add _ _ _ | (simp only [World.drewN_drewN]; exact ⟨_, rfl⟩)⟩
            case measure => simp [intOf]; omega
      · have hkn : k = n := by omega
        have hf := Lib.hid (lex_end (by rw [HN.out, hkn]) (by rw [HM.out, hkn]) ht.out)
        clear hkn ht
        go_wp2
        go_ret
        exact ⟨ret_int hf.out.symm, _, rfl⟩
  · by_cases hlt : n < m
    · have hf := Lib.hid (show cmpI xs ys = -1 by rw [cmpI, if_pos (by omega)])
      rw [hf.out]
      have hne : ((n : Int) != (m : Int)) = true := by simp; omega
      clear hn hm
      go_enter Try.func18, Try.ntmps18
      go_wp2
      go_ret
      exact ⟨rfl, 0, rfl⟩
    · have hf := Lib.hid (show cmpI xs ys = 1 by rw [cmpI, if_neg (by omega), if_pos (by omega)])
      rw [hf.out]
      have hne : ((n : Int) != (m : Int)) = true := by simp; omega
      clear hn hm
      go_enter Try.func18, Try.ntmps18
      go_wp2
      go_ret
      exact ⟨rfl, 0, rfl⟩

set_option maxHeartbeats 400000 in
theorem slicesCompare_any (A B : Option Addr) (n c d Bx By : Nat) (xs ys : List Int) (w : World) (hx : RdI w Bx A xs) (hy : RdI w By B ys) (hn : xs.length = n) (hm : ys.length = n) (hb : n ≤ 140737488355328) :
    Calls Try.prog 47 #[.slice A n c, .slice B n d] w fun e w' => e = .returned (.int .i64 (lexI xs ys)) ∧ w = w' := by
  have HN := Lib.hid hn
  have HM := Lib.hid hm
  have HC := Lib.hid cmpCompare_any
  obtain ⟨v, hv⟩ : ∃ v, lexI xs ys = v := ⟨_, rfl⟩
  rw [hv]
  have hv0 := Lib.hid (show lexI (xs.drop 0) (ys.drop 0) = v from hv)
  clear hn hm hv
  go_enter Try.func47, Try.ntmps47
  go_wp2_with fail
  go_loopw [11] (fun i wr => ∃ k : Nat, k ≤ n ∧ i = .int .i64 k ∧ Hid (lexI (xs.drop k) (ys.drop k) = v) ∧ w = wr) (fun i _ => n - (intOf i).toNat)
  case atStart => exact ⟨0, Nat.zero_le _, rfl, hv0, rfl⟩
  case round =>
    obtain ⟨k, hk, rfl, ht, rfl⟩ := hrel
    by_cases hlt : k < n
    · obtain ⟨b1, o1, rfl, _, hc1⟩ := hx (by rw [HN.out]; omega)
      obtain ⟨b2, o2, rfl, _, hc2⟩ := hy (by rw [HM.out]; omega)
      have h1 := hc1 k (by rw [HN.out]; exact hlt)
      have h2 := hc2 k (by rw [HM.out]; exact hlt)
      clear hc1 hc2 hx hy
      obtain ⟨x, hx⟩ : ∃ x, x = xs.getD k 0 := ⟨_, rfl⟩
      obtain ⟨y, hy⟩ : ∃ y, y = ys.getD k 0 := ⟨_, rfl⟩
      rw [← hx] at h1
      rw [← hy] at h2
      by_cases hxy : x < y
      · have hs := Lib.hid (lex_lt (by rw [HN.out]; exact hlt) (by rw [HM.out]; exact hlt) ht.out (by rw [← hx, ← hy]; exact hxy))
        have e := Lib.hid (show cmp1 x y = -1 by rw [cmp1, if_pos hxy])
        have HC1 := Lib.hid (HC.out x y)
        rw [e.out] at HC1
        clear hx hy ht HC
        go_wp2_with fail
        refine (HC1.out _).mono ?_
        rintro e w' ⟨rfl, rfl⟩
        go_wp2
        go_ret
        exact ⟨ret_int hs.out.symm, rfl⟩
      · by_cases hyx : y < x
        · have hs := Lib.hid (lex_gt (by rw [HN.out]; exact hlt) (by rw [HM.out]; exact hlt) ht.out (by rw [← hx, ← hy]; exact hyx))
          have e := Lib.hid (show cmp1 x y = 1 by rw [cmp1, if_neg hxy, if_pos hyx])
          have HC1 := Lib.hid (HC.out x y)
          rw [e.out] at HC1
          clear hx hy ht HC
          go_wp2_with fail
          refine (HC1.out _).mono ?_
          rintro e w' ⟨rfl, rfl⟩
          go_wp2
          go_ret
          exact ⟨ret_int hs.out.symm, rfl⟩
        · have hs := Lib.hid (lex_eq (by rw [HN.out]; exact hlt) (by rw [HM.out]; exact hlt) ht.out (by rw [← hx, ← hy]; omega))
          have e := Lib.hid (show cmp1 x y = 0 by rw [cmp1, if_neg hxy, if_neg hyx])
          have HC1 := Lib.hid (HC.out x y)
          rw [e.out] at HC1
          clear hx hy ht HC
          go_wp2_with fail
          refine (HC1.out _).mono ?_
          rintro e w' ⟨rfl, rfl⟩
          go_wp2
          go_roundw
          case rel => exact ⟨k + 1, by omega, by go_num, hs, by trivial⟩
          case measure => simp [intOf]; omega
    · have hkn : k = n := by omega
      have hf := Lib.hid (lex_end (by rw [HN.out, hkn]) (by rw [HM.out, hkn]) ht.out)
      clear hkn ht
      go_wp2
      go_ret
      exact ⟨ret_int hf.out.symm, rfl⟩

set_option maxHeartbeats 400000 in
theorem wCompare_any (A B : Option Addr) (n m c d Bx By : Nat) (xs ys : List Int) (w : World) (hx : RdI w Bx A xs) (hy : RdI w By B ys) (hn : xs.length = n) (hm : ys.length = m) (hb : n ≤ 140737488355328) (hb' : m ≤ 140737488355328) :
    Calls Try.prog 17 #[.slice A n c, .slice B m d] w fun e w' => e = .returned (.int .i64 (cmpI xs ys)) ∧ w = w' := by
  have HC := Lib.hid (cmpCompare_any n m)
  by_cases hnm : n = m
  · subst hnm
    have e := Lib.hid (show cmp1 n n = 0 by rw [cmp1, if_neg (by omega), if_neg (by omega)])
    rw [e.out] at HC
    have HS := Lib.hid (slicesCompare_any A B n c d Bx By xs ys w hx hy hn hm hb)
    have hf := Lib.hid (show cmpI xs ys = lexI xs ys by rw [cmpI, if_neg (by omega), if_neg (by omega)])
    rw [hf.out]
    clear hn hm hx hy
    go_enter Try.func17, Try.ntmps17
    go_wp2_with fail
    refine (HC.out _).mono ?_
    rintro e w' ⟨rfl, rfl⟩
    go_wp2_with fail
    refine HS.out.mono ?_
    rintro e w' ⟨rfl, rfl⟩
    go_wp2
    go_ret
    exact ⟨rfl, rfl⟩
  · by_cases hlt : n < m
    · have hf := Lib.hid (show cmpI xs ys = -1 by rw [cmpI, if_pos (by omega)])
      have e := Lib.hid (show cmp1 n m = -1 by rw [cmp1, if_pos (by omega)])
      rw [e.out] at HC
      rw [hf.out]
      clear hn hm hx hy
      go_enter Try.func17, Try.ntmps17
      go_wp2_with fail
      refine (HC.out _).mono ?_
      rintro e w' ⟨rfl, rfl⟩
      go_wp2
      go_ret
      exact ⟨rfl, rfl⟩
    · have hf := Lib.hid (show cmpI xs ys = 1 by rw [cmpI, if_neg (by omega), if_pos (by omega)])
      have e := Lib.hid (show cmp1 n m = 1 by rw [cmp1, if_neg (by omega), if_pos (by omega)])
      rw [e.out] at HC
      rw [hf.out]
      clear hn hm hx hy
      go_enter Try.func17, Try.ntmps17
      go_wp2_with fail
      refine (HC.out _).mono ?_
      rintro e w' ⟨rfl, rfl⟩
      go_wp2
      go_ret
      exact ⟨rfl, rfl⟩

theorem lex_refl_eq : ∀ (xs ys : List Int), lexI xs ys = 0 → xs = ys
  | [], [], _ => rfl
  | [], _ :: _, h => by simp [lexI] at h
  | _ :: _, [], h => by simp [lexI] at h
  | x :: xs, y :: ys, h => by
    rw [lexI] at h
    by_cases h1 : x < y
    · rw [if_pos h1] at h; simp at h
    · rw [if_neg h1] at h
      by_cases h2 : y < x
      · rw [if_pos h2] at h; simp at h
      · rw [if_neg h2] at h
        rw [lex_refl_eq xs ys h, show x = y by omega]
theorem lex_refl : ∀ xs : List Int, lexI xs xs = 0
  | [] => rfl
  | x :: xs => by rw [lexI, if_neg (by omega), if_neg (by omega), lex_refl xs]
theorem cmp_zero (xs ys : List Int) : (cmpI xs ys == 0) = decide (xs = ys) := by
  rw [Bool.eq_iff_iff]
  simp only [beq_iff_eq, decide_eq_true_eq]
  constructor
  · intro h
    unfold cmpI at h
    split at h
    · simp at h
    · split at h
      · simp at h
      · exact lex_refl_eq _ _ h
  · rintro rfl
    rw [cmpI, if_neg (by omega), if_neg (by omega), lex_refl]

theorem l2same_any (A B : Option Addr) (n m c d Bx By : Nat) (xs ys : List Int) (w : World) (hx : RdI w Bx A xs) (hy : RdI w By B ys) (hn : xs.length = n) (hm : ys.length = m) (hb : n ≤ 140737488355328) (hb' : m ≤ 140737488355328) :
    Calls Try.prog 22 #[.slice A n c, .slice B m d] w fun e w' => e = .returned (.bool (decide (xs = ys))) ∧ ∃ q, w' = w.drewN q := by
  have H := Lib.hid (r2Compare_any A B n m c d Bx By xs ys w hx hy hn hm hb hb')
  have hz := Lib.hid (cmp_zero xs ys)
  obtain ⟨v, hv⟩ : ∃ v, cmpI xs ys = v := ⟨_, rfl⟩
  rw [hv] at H hz
  clear hn hm hx hy hv
  rw [← hz.out]
  go_enter Try.func22, Try.ntmps22
  go_wp2_with fail
  refine H.out.mono ?_
  rintro e w' ⟨rfl, q, rfl⟩
  go_wp2
  go_ret
  exact ⟨rfl, q, rfl⟩
end Go.Proofs.Ytdccmebkoibkhaa
