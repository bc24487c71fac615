/- The contract of nextPart: the bounds of the first part between blanks, from a place on. -/
import Derived.Test.YtdccmebkoibkhaaNames
import Derived.Test.YtdccmebkoibkhaaRdI
namespace Go.Proofs.Ytdccmebkoibkhaa
open Go.RowKit

def skN (l : List UInt8) : Nat := (l.takeWhile (· == 32)).length
def stN (l : List UInt8) : Nat := (l.takeWhile (· != 32)).length
/-- Where the next part begins, and where it ends. -/
def ptS (s : List UInt8) (i : Nat) : Nat := i + skN (s.drop i)
def ptE (s : List UInt8) (i : Nat) : Nat := ptS s i + stN (s.drop (ptS s i))
theorem sk_yes {s : List UInt8} {k : Nat} (h : k < s.length) (he : s[k] = 32) : k + skN (s.drop k) = k + 1 + skN (s.drop (k + 1)) := by
  rw [List.drop_eq_getElem_cons h, skN, List.takeWhile_cons, he]; simp [skN]; omega
theorem sk_no {s : List UInt8} {k : Nat} (h : k < s.length) (he : s[k] ≠ 32) : k + skN (s.drop k) = k := by
  rw [List.drop_eq_getElem_cons h, skN, List.takeWhile_cons]; simp [he]
theorem sk_end {s : List UInt8} {k : Nat} (h : s.length ≤ k) : k + skN (s.drop k) = k := by
  rw [List.drop_of_length_le h]; rfl
theorem st_yes {s : List UInt8} {k : Nat} (h : k < s.length) (he : s[k] ≠ 32) : k + stN (s.drop k) = k + 1 + stN (s.drop (k + 1)) := by
  rw [List.drop_eq_getElem_cons h, stN, List.takeWhile_cons]; simp [he, stN]; omega
theorem st_no {s : List UInt8} {k : Nat} (h : k < s.length) (he : s[k] = 32) : k + stN (s.drop k) = k := by
  rw [List.drop_eq_getElem_cons h, stN, List.takeWhile_cons, he]; simp
theorem st_end {s : List UInt8} {k : Nat} (h : s.length ≤ k) : k + stN (s.drop k) = k := by
  rw [List.drop_of_length_le h]; rfl
theorem sp_dec {b : UInt8} (h : b = 32) : ((b.toNat : Int) == 32) = true := by subst h; rfl
theorem sp_ndec {b : UInt8} (h : b ≠ 32) : ((b.toNat : Int) == 32) = false := by
  have : b.toNat ≠ 32 := fun e => h (UInt8.toNat_inj.1 (by simpa using e))
  simp; omega
theorem sp_nb {b : UInt8} (h : b = 32) : ((b.toNat : Int) != 32) = false := by subst h; rfl
theorem sp_nnb {b : UInt8} (h : b ≠ 32) : ((b.toNat : Int) != 32) = true := by
  have : b.toNat ≠ 32 := fun e => h (UInt8.toNat_inj.1 (by simpa using e))
  simp; omega

set_option maxHeartbeats 1600000 in
set_option maxRecDepth 4000 in
theorem nextPart_any (s : ByteArray) (i : Nat) (w : World) (hs : s.size ≤ 1000000) (hi : i ≤ s.size) :
    Calls Try.prog 61 #[.string s, .int .i64 i] w fun e w' => e = .returned (.tuple #[.int .i64 (ptS s.data.toList i : Nat), .int .i64 (ptE s.data.toList i : Nat)]) ∧ w = w' := by
  obtain ⟨v, hv⟩ : ∃ v, v = ptS s.data.toList i := ⟨_, rfl⟩
  obtain ⟨u, hu⟩ : ∃ u, u = ptE s.data.toList i := ⟨_, rfl⟩
  have HV := Lib.hid (show i + skN (s.data.toList.drop i) = v by rw [hv]; rfl)
  have HU := Lib.hid (show v + stN (s.data.toList.drop v) = u by rw [hu, hv]; rfl)
  have HSZ := Lib.hid (size_data s)
  rw [← hv, ← hu]
  clear hv hu
  go_enter Try.func61, Try.ntmps61
  go_wp2_with fail
  go_loop [4] (fun x => ∃ k : Nat, k ≤ s.size ∧ x = .int .i64 k ∧ Hid (k + skN (s.data.toList.drop k) = v)) (fun x => s.size - (intOf x).toNat)
  case atStart => exact ⟨i, hi, rfl, HV.out⟩
  case round =>
    obtain ⟨k, hk, rfl, ht⟩ := hrel
    by_cases hlt : k < s.size
    · by_cases hb : s[k] = 32
      · have hd := sp_dec hb
        have hr := Lib.hid (show k + 1 + skN (s.data.toList.drop (k + 1)) = v by rw [← sk_yes (by rw [HSZ.out]; exact hlt) (by rw [getElem_data s k hlt]; exact hb)]; exact ht.out)
        clear hb ht
        go_wp2
        go_round
        case rel => exact ⟨k + 1, by omega, by go_num, hr⟩
        case measure => simp [intOf]; omega
      · have hd := sp_ndec hb
        have hr : k = v := by have h := ht.out; rw [sk_no (by rw [HSZ.out]; exact hlt) (by rw [getElem_data s k hlt]; exact hb)] at h; exact h
        clear hb ht
        subst hr
        have hvs : k ≤ s.size := hk
        go_wp2_with fail
        go_loop [5] (fun x => ∃ j : Nat, j ≤ s.size ∧ x = .int .i64 j ∧ Hid (j + stN (s.data.toList.drop j) = u)) (fun x => s.size - (intOf x).toNat)
        case atStart => exact ⟨k, hvs, rfl, HU.out⟩
        case round =>
          obtain ⟨j, hj, rfl, ht⟩ := hrel
          by_cases hlt : j < s.size
          · by_cases hb : s[j] = 32
            · have hd := sp_nb hb
              have hr := Lib.hid (show j = u by have h := ht.out; rw [st_no (by rw [HSZ.out]; exact hlt) (by rw [getElem_data s j hlt]; exact hb)] at h; exact h)
              clear hb ht
              go_wp2
              go_ret2
              exact ⟨by rw [← hr.out]; rfl, rfl⟩
            · have hd := sp_nnb hb
              have hr := Lib.hid (show j + 1 + stN (s.data.toList.drop (j + 1)) = u by rw [← st_yes (by rw [HSZ.out]; exact hlt) (by rw [getElem_data s j hlt]; exact hb)]; exact ht.out)
              clear hb ht
              go_wp2
              go_round
              case rel => exact ⟨j + 1, by omega, by go_num, hr⟩
              case measure => simp [intOf]; omega
          · have hr := Lib.hid (show j = u by have h := ht.out; rw [st_end (by rw [HSZ.out]; omega)] at h; exact h)
            have hf : ¬ (j : Int) < (s.size : Int) := by omega
            clear ht
            go_wp2
            go_ret2
            exact ⟨by rw [← hr.out]; rfl, rfl⟩
    · have hr : k = v := by have h := ht.out; rw [sk_end (by rw [HSZ.out]; omega)] at h; exact h
      have hf : ¬ (k : Int) < (s.size : Int) := by omega
      clear ht
      subst hr
      have hvs : k ≤ s.size := hk
      go_wp2_with fail
      go_loop [5] (fun x => ∃ j : Nat, j ≤ s.size ∧ x = .int .i64 j ∧ Hid (j + stN (s.data.toList.drop j) = u)) (fun x => s.size - (intOf x).toNat)
      case atStart => exact ⟨k, hvs, rfl, HU.out⟩
      case round =>
        obtain ⟨j, hj, rfl, ht⟩ := hrel
        by_cases hlt : j < s.size
        · by_cases hb : s[j] = 32
          · have hd := sp_nb hb
            have hr := Lib.hid (show j = u by have h := ht.out; rw [st_no (by rw [HSZ.out]; exact hlt) (by rw [getElem_data s j hlt]; exact hb)] at h; exact h)
            clear hb ht
            go_wp2
            go_ret2
            exact ⟨by rw [← hr.out]; rfl, rfl⟩
          · have hd := sp_nnb hb
            have hr := Lib.hid (show j + 1 + stN (s.data.toList.drop (j + 1)) = u by rw [← st_yes (by rw [HSZ.out]; exact hlt) (by rw [getElem_data s j hlt]; exact hb)]; exact ht.out)
            clear hb ht
            go_wp2
            go_round
            case rel => exact ⟨j + 1, by omega, by go_num, hr⟩
            case measure => simp [intOf]; omega
        · have hr := Lib.hid (show j = u by have h := ht.out; rw [st_end (by rw [HSZ.out]; omega)] at h; exact h)
          have hf : ¬ (j : Int) < (s.size : Int) := by omega
          clear ht
          go_wp2
          go_ret2
          exact ⟨by rw [← hr.out]; rfl, rfl⟩
end Go.Proofs.Ytdccmebkoibkhaa
