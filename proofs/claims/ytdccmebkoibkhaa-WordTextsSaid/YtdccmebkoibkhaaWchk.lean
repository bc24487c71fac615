/- Contracts of the two Checks of a word over a set: the first error. -/
import Derived.Test.YtdccmebkoibkhaaWhas
namespace Go.Proofs.Ytdccmebkoibkhaa
open Go.RowKit

/-- All numbers of a word are in a set. -/
def inB (zs w : List Int) : Bool := w.all fun x => decide (x ∈ zs)
/-- The first error of a word over a set. -/
def wcE (zs w : List Int) : Int := if csE 32 zs ≠ 0 then csE 32 zs else if 4096 < w.length then 3 else if inB zs w = true then 0 else 2
theorem in_next {zs w : List Int} {k : Nat} (h : k < w.length) (ht : inB zs (w.take k) = true) (he : decide (w.getD k 0 ∈ zs) = true) : inB zs (w.take (k + 1)) = true := by
  unfold inB at *
  rw [List.take_succ_eq_append_getElem h, List.all_append, ht]
  have e : w.getD k 0 = w[k] := by simp [List.getD, List.getElem?_eq_getElem h]
  rw [e] at he
  simpa using he
theorem in_bad {zs w : List Int} {k : Nat} (h : k < w.length) (he : decide (w.getD k 0 ∈ zs) = false) : inB zs w = false := by
  unfold inB
  rw [List.all_eq_false]
  exact ⟨w.getD k 0, getD_mem h, by simpa using he⟩
theorem in_all {zs w : List Int} {n : Nat} (hn : w.length = n) (ht : inB zs (w.take n) = true) : inB zs w = true := by
  rwa [List.take_of_length_le (by omega)] at ht

set_option maxHeartbeats 800000 in
theorem r2Check_any (A C : Option Addr) (n c m d Bx By : Nat) (ws zs : List Int) (w : World) (hx : RdI w Bx A ws) (hy : RdI w By C zs) (hn : ws.length = n) (hm : zs.length = m) (hb : n ≤ 140737488355328) (hb' : m ≤ 140737488355328) :
    Calls Try.prog 16 #[.slice A n c, .slice C m d] w fun e w' => e = .returned (.int .i64 (wcE zs ws)) ∧ ∃ q, w' = w.drewN q := by
  have HS := Lib.hid (r2Set_any C m d By zs 32 w hy hm hb')
  have HH := Lib.hid (fun x q => r2Has_any C m d By zs x (w.drewN q) hy hm hb')
  obtain ⟨v, hv⟩ : ∃ v, v = csE 32 zs := ⟨_, rfl⟩
  rw [← hv] at HS
  have HN := Lib.hid hn
  by_cases h0 : v = 0
  · subst h0
    by_cases h1 : 4096 < n
    · have hr := Lib.hid (show wcE zs ws = 3 by rw [wcE, ← hv, if_neg (by simp), if_pos (by omega)])
      rw [hr.out]
      clear hn hm hv hx hy HH
      go_enter Try.func16, Try.ntmps16
      go_wp2_with fail
      refine HS.out.mono ?_
      rintro e w' ⟨rfl, q, rfl⟩
      go_wp2
      go_ret
      exact ⟨rfl, q, rfl⟩
    · obtain ⟨u, hu⟩ : ∃ u, u = wcE zs ws := ⟨_, rfl⟩
      have HU := Lib.hid (show u = if inB zs ws = true then 0 else 2 by rw [hu, wcE, ← hv, if_neg (by simp), if_neg (by omega)])
      rw [← hu]
      clear hn hm hv hy hu
      go_enter Try.func16, Try.ntmps16
      go_wp2_with fail
      refine HS.out.mono ?_
      rintro e w' ⟨rfl, q0, rfl⟩
      go_wp2_with fail
      go_loopw [6] (fun i wr => ∃ k : Nat, k ≤ n ∧ i = .int .i64 k ∧ Hid (inB zs (ws.take k) = true) ∧ ∃ q, wr = w.drewN q) (fun i _ => n - (intOf i).toNat)
      case atStart => exact ⟨0, Nat.zero_le _, rfl, rfl, q0, rfl⟩
      case round =>
        obtain ⟨k, hk, rfl, ht, q, rfl⟩ := hrel
        by_cases hlt : k < n
        · obtain ⟨b1, o1, rfl, _, hc1⟩ := hx (by rw [HN.out]; omega)
          have hz : k < ws.length := by rw [HN.out]; exact hlt
          have h2 := hc1 k hz
          obtain ⟨x, hxe⟩ : ∃ x, x = ws.getD k 0 := ⟨_, rfl⟩
          rw [← hxe] at h2
          have HC := Lib.hid (HH.out x q)
          obtain ⟨r, hr⟩ : ∃ r, decide (x ∈ zs) = r := ⟨_, rfl⟩
          rw [hr] at HC
          clear hc1 hx
          cases r
          · have hf := Lib.hid (show u = 2 by rw [HU.out, in_bad hz (by rw [← hxe]; exact hr)]; rfl)
            clear hr hxe ht hz
            go_wp2_with fail
            refine HC.out.mono ?_
            rintro e w' ⟨rfl, rfl⟩
            go_wp2
            go_ret
            exact ⟨ret_int hf.out.symm, _, rfl⟩
          · have hf := Lib.hid (in_next hz ht.out (by rw [← hxe]; exact hr))
            clear hr hxe ht hz
            go_wp2_with fail
            refine HC.out.mono ?_
            rintro e w' ⟨rfl, rfl⟩
            go_wp2
            go_roundw
            case rel => exact ⟨k + 1, by omega, by go_num, hf, _, rfl⟩
            case measure => simp [intOf]; omega
        · have hkn : k = n := by omega
          rw [hkn] at ht
          have hf := Lib.hid (show u = 0 by rw [HU.out, in_all HN.out ht.out]; rfl)
          clear hkn ht
          go_wp2
          go_ret
          exact ⟨ret_int hf.out.symm, _, rfl⟩
  · have hr := Lib.hid (show wcE zs ws = v by rw [wcE, ← hv, if_pos h0])
    rw [hr.out]
    have hv0 : (v != 0) = true := by simpa using h0
    clear hn hm hv hx hy HH h0
    go_enter Try.func16, Try.ntmps16
    go_wp2_with fail
    refine HS.out.mono ?_
    rintro e w' ⟨rfl, q, rfl⟩
    go_wp2
    go_ret
    exact ⟨rfl, q, rfl⟩

set_option maxHeartbeats 800000 in
theorem wCheckOver_any (A C : Option Addr) (n c m d Bx By : Nat) (ws zs : List Int) (w : World) (hx : RdI w Bx A ws) (hy : RdI w By C zs) (hn : ws.length = n) (hm : zs.length = m) (hb : n ≤ 140737488355328) (hb' : m ≤ 140737488355328) :
    Calls Try.prog 43 #[.slice A n c, .slice C m d] w fun e w' => e = .returned (.int .i64 (wcE zs ws)) ∧ w = w' := by
  have HS := Lib.hid (aCheckSet_any C m d By zs 32 w hy hm hb')
  obtain ⟨v, hv⟩ : ∃ v, v = csE 32 zs := ⟨_, rfl⟩
  rw [← hv] at HS
  have HN := Lib.hid hn
  by_cases h0 : v = 0
  · subst h0
    have HH := Lib.hid (fun x => aContains_any C m d By zs x w hy hm hb' (cs_up hv.symm))
    by_cases h1 : 4096 < n
    · have hr := Lib.hid (show wcE zs ws = 3 by rw [wcE, ← hv, if_neg (by simp), if_pos (by omega)])
      rw [hr.out]
      clear hn hm hv hx hy HH
      go_enter Try.func43, Try.ntmps43
      go_wp2_with fail
      refine HS.out.mono ?_
      rintro e w' ⟨rfl, rfl⟩
      go_wp2
      go_ret
      exact ⟨rfl, rfl⟩
    · obtain ⟨u, hu⟩ : ∃ u, u = wcE zs ws := ⟨_, rfl⟩
      have HU := Lib.hid (show u = if inB zs ws = true then 0 else 2 by rw [hu, wcE, ← hv, if_neg (by simp), if_neg (by omega)])
      rw [← hu]
      clear hn hm hv hy hu
      go_enter Try.func43, Try.ntmps43
      go_wp2_with fail
      refine HS.out.mono ?_
      rintro e w' ⟨rfl, rfl⟩
      go_wp2_with fail
      go_loopw [18] (fun i wr => ∃ k : Nat, k ≤ n ∧ i = .int .i64 k ∧ Hid (inB zs (ws.take k) = true) ∧ w = wr) (fun i _ => n - (intOf i).toNat)
      case atStart => exact ⟨0, Nat.zero_le _, rfl, rfl, rfl⟩
      case round =>
        obtain ⟨k, hk, rfl, ht, rfl⟩ := hrel
        by_cases hlt : k < n
        · obtain ⟨b1, o1, rfl, _, hc1⟩ := hx (by rw [HN.out]; omega)
          have hz : k < ws.length := by rw [HN.out]; exact hlt
          have h2 := hc1 k hz
          obtain ⟨x, hxe⟩ : ∃ x, x = ws.getD k 0 := ⟨_, rfl⟩
          rw [← hxe] at h2
          have HC := Lib.hid (HH.out x)
          obtain ⟨r, hr⟩ : ∃ r, decide (x ∈ zs) = r := ⟨_, rfl⟩
          rw [hr] at HC
          clear hc1 hx
          cases r
          · have hf := Lib.hid (show u = 2 by rw [HU.out, in_bad hz (by rw [← hxe]; exact hr)]; rfl)
            clear hr hxe ht hz
            go_wp2_with fail
            refine HC.out.mono ?_
            rintro e w' ⟨rfl, rfl⟩
            go_wp2
            go_ret
            exact ⟨ret_int hf.out.symm, rfl⟩
          · have hf := Lib.hid (in_next hz ht.out (by rw [← hxe]; exact hr))
            clear hr hxe ht hz
            go_wp2_with fail
            refine HC.out.mono ?_
            rintro e w' ⟨rfl, rfl⟩
            go_wp2
            go_roundw
            case rel => exact ⟨k + 1, by omega, by go_num, hf, by trivial⟩
            case measure => simp [intOf]; omega
        · have hkn : k = n := by omega
          rw [hkn] at ht
          have hf := Lib.hid (show u = 0 by rw [HU.out, in_all HN.out ht.out]; rfl)
          clear hkn ht
          go_wp2
          go_ret
          exact ⟨ret_int hf.out.symm, rfl⟩
  · have hr := Lib.hid (show wcE zs ws = v by rw [wcE, ← hv, if_pos h0])
    rw [hr.out]
    have hv0 : (v != 0) = true := by simpa using h0
    clear hn hm hv hx hy h0
    go_enter Try.func43, Try.ntmps43
    go_wp2_with fail
    refine HS.out.mono ?_
    rintro e w' ⟨rfl, rfl⟩
    go_wp2
    go_ret
    exact ⟨rfl, rfl⟩
theorem wCheck_any (A C : Option Addr) (n c m d Bx By : Nat) (ws zs : List Int) (w : World) (hx : RdI w Bx A ws) (hy : RdI w By C zs) (hn : ws.length = n) (hm : zs.length = m) (hb : n ≤ 140737488355328) (hb' : m ≤ 140737488355328) :
    Calls Try.prog 15 #[.slice A n c, .slice C m d] w fun e w' => e = .returned (.int .i64 (wcE zs ws)) ∧ w = w' := by
  have H := Lib.hid (wCheckOver_any A C n c m d Bx By ws zs w hx hy hn hm hb hb')
  clear hn hm hx hy
  go_enter Try.func15, Try.ntmps15
  go_wp2_with fail
  refine H.out.mono ?_
  rintro e w' ⟨rfl, rfl⟩
  go_wp2
  go_ret
  exact ⟨rfl, rfl⟩
end Go.Proofs.Ytdccmebkoibkhaa
