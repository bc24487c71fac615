/- Contracts of the functions on names: isDigit, isLetter, IsName of the program and IsName of the reference answer whether the bytes are a name. -/
import Derived.Test.YtdccmebkoibkhaaRows
import Derived.WalkKit
import Derived.WalkSpells
import Derived.WalkLawsBesides
import Derived.Outline
import Derived.Lib.Hide
import Derived.Lib.Strings
namespace Go.Proofs.Ytdccmebkoibkhaa
open Go.RowKit

theorem ret_bool {a b : Bool} (h : a = b) : Ending.returned (.bool a) = .returned (.bool b) := by rw [h]

def digB (c : UInt8) : Bool := decide (48 ≤ (c.toNat : Int)) && decide ((c.toNat : Int) ≤ 57)
def letB (c : UInt8) : Bool := (decide (97 ≤ (c.toNat : Int)) && decide ((c.toNat : Int) ≤ 122)) || (decide (65 ≤ (c.toNat : Int)) && decide ((c.toNat : Int) ≤ 90))
def okB (c : UInt8) : Bool := digB c || letB c || decide ((c.toNat : Int) = 95)
def nameB (s : List UInt8) : Bool := decide (0 < s.length) && decide (s.length ≤ 32) && !digB (s.headD 0) && s.all okB

theorem isDigit_any (c : UInt8) (w : World) : Calls Try.prog 98 #[.int .u8 c.toNat] w fun e w' => e = .returned (.bool (digB c)) ∧ w = w' := by
  have e : ∀ b, digB c = b → (decide (48 ≤ (c.toNat : Int)) && decide ((c.toNat : Int) ≤ 57)) = b := fun b h => h
  by_cases h1 : 48 ≤ (c.toNat : Int) <;> by_cases h2 : (c.toNat : Int) ≤ 57
  all_goals
    go_enter Try.func98, Try.ntmps98
    go_wp2
    go_ret
    exact ⟨ret_bool (by simp [digB]; try omega), rfl⟩

theorem isLetter_any (c : UInt8) (w : World) : Calls Try.prog 99 #[.int .u8 c.toNat] w fun e w' => e = .returned (.bool (letB c)) ∧ w = w' := by
  by_cases h1 : 97 ≤ (c.toNat : Int) <;> by_cases h2 : (c.toNat : Int) ≤ 122 <;> by_cases h3 : 65 ≤ (c.toNat : Int) <;> by_cases h4 : (c.toNat : Int) ≤ 90 <;> try omega
  all_goals
    go_enter Try.func99, Try.ntmps99
    go_wp2
    go_ret
    exact ⟨ret_bool (by simp [letB]; try omega), rfl⟩

theorem isEmpty_of {s : ByteArray} (h : 0 < s.size) : s.toList.isEmpty = false := by
  rw [Lib.toList_data, List.isEmpty_eq_false_iff]
  intro h'
  have : s.data.toList.length = 0 := by rw [h']; rfl
  rw [Array.length_toList] at this
  have h2 : s.data.size = s.size := rfl
  omega
theorem isEmpty_yes {s : ByteArray} (h : s.size = 0) : s.toList.isEmpty = true := by
  rw [Lib.toList_data, List.isEmpty_iff]
  apply List.eq_nil_of_length_eq_zero
  rw [Array.length_toList]; exact h
theorem all_take_succ (f : UInt8 → Bool) (l : List UInt8) (k : Nat) (h : k < l.length) : (l.take (k + 1)).all f = ((l.take k).all f && f l[k]) := by
  rw [List.take_succ_eq_append_getElem h, List.all_append, List.all_cons, List.all_nil, Bool.and_true]
theorem all_false_of (f : UInt8 → Bool) (l : List UInt8) (k : Nat) (h : k < l.length) (hf : f l[k] = false) : l.all f = false := by
  rw [List.all_eq_false]; exact ⟨l[k], List.getElem_mem h, by simp [hf]⟩
theorem size_data (s : ByteArray) : s.data.toList.length = s.size := by rw [Array.length_toList]; rfl
theorem getElem_data (s : ByteArray) (k : Nat) (h : k < s.size) : s.data.toList[k]'(by rw [size_data]; exact h) = s[k] := by
  rw [Array.getElem_toList]; rfl
theorem headD_data (s : ByteArray) (h : 0 < s.size) : s.data.toList.headD 0 = s[0] := by
  rw [← getElem_data s 0 h]
  have h' : 0 < s.data.toList.length := by rw [size_data]; exact h
  rw [List.headD_eq_head?_getD, List.head?_eq_getElem?, List.getElem?_eq_getElem h']; rfl
theorem nameB_empty {s : ByteArray} (h : s.size = 0) : nameB s.data.toList = false := by
  unfold nameB; rw [size_data, h]; simp
theorem nameB_long {s : ByteArray} (h : ¬ s.size ≤ 32) : nameB s.data.toList = false := by
  unfold nameB; rw [size_data]; simp [h]
theorem nameB_digit {s : ByteArray} (h : 0 < s.size) (hd : digB s[0] = true) : nameB s.data.toList = false := by
  unfold nameB; rw [headD_data s h, hd]; simp
theorem nameB_bad {s : ByteArray} (k : Nat) (h : k < s.size) (hd : okB s[k] = false) : nameB s.data.toList = false := by
  unfold nameB; rw [all_false_of okB _ k (by rw [size_data]; exact h) (by rw [getElem_data s k h]; exact hd)]; simp
theorem nameB_good {s : ByteArray} (h0 : 0 < s.size) (h1 : s.size ≤ 32) (hd : digB s[0] = false) (ha : (s.data.toList.take s.size).all okB = true) : nameB s.data.toList = true := by
  rw [List.take_of_length_le (by rw [size_data]; omega)] at ha
  unfold nameB; rw [headD_data s h0, hd, ha, size_data]; simp; omega
theorem okB_step {s : ByteArray} (k : Nat) (h : k < s.size) (ha : (s.data.toList.take k).all okB = true) (hk : okB s[k] = true) : (s.data.toList.take (k + 1)).all okB = true := by
  rw [all_take_succ _ _ _ (by rw [size_data]; exact h), ha, getElem_data s k h, hk]; rfl

set_option maxHeartbeats 400000 in
theorem aIsName_any (s : ByteArray) (w : World) (hs : s.size ≤ maxLen) :
    Calls Try.prog 90 #[.string s] w fun e w' => e = .returned (.bool (nameB s.data.toList)) ∧ w = w' := by
  unfold maxLen at hs
  by_cases h0 : 0 < s.size
  · have he := isEmpty_of h0
    by_cases h1 : s.size ≤ 32
    · have h2 : decide ((32 : Int) < (s.size : Int)) = false := by simp; omega
      cases hd : digB s[0]
      · go_enter Try.func90, Try.ntmps90
        go_wp2_with (go_at_call 98; refine (isDigit_any _ _).mono ?_; rintro e w' ⟨rfl, rfl⟩)
        have HD := Lib.hid hd
        clear hd he h2
        go_loop [18] (fun i => ∃ k : Nat, k ≤ s.size ∧ i = .int .i64 k ∧ Hid ((s.data.toList.take k).all okB = true)) (fun i => s.size - (intOf i).toNat)
        case atStart => exact ⟨0, Nat.zero_le _, rfl, by simp [Hid]⟩
        case round =>
          obtain ⟨k, hk, rfl, hall⟩ := hrel
          by_cases hlt : k < s.size
          · cases hok : okB s[k]
            · have hb := nameB_bad k hlt hok
              simp only [okB, Bool.or_eq_false_iff] at hok
              obtain ⟨⟨hd1, hl1⟩, h95⟩ := hok
              have h95' : ((s[k].toNat : Int) == 95) = false := by simpa using h95
              have h95'' : ((s[k].toNat : Int) != 95) = true := by simpa using h95
              go_wp2_with (first | (go_at_call 98; refine (isDigit_any _ _).mono ?_; rintro e w' ⟨rfl, rfl⟩) | (go_at_call 99; refine (isLetter_any _ _).mono ?_; rintro e w' ⟨rfl, rfl⟩))
              go_ret
              exact ⟨ret_bool hb.symm, rfl⟩
            · have hall' := Lib.hid (okB_step k hlt hall.out hok)
              clear hall
              cases hdk : digB s[k]
              · cases hlk : letB s[k]
                · have h95 : (s[k].toNat : Int) = 95 := by simpa [okB, hdk, hlk] using hok
                  have h95' : ((s[k].toNat : Int) == 95) = true := by simpa using h95
                  have h95'' : ((s[k].toNat : Int) != 95) = false := by simpa using h95
                  clear h95 hok
                  go_wp2_with (first | (go_at_call 98; refine (isDigit_any _ _).mono ?_; rintro e w' ⟨rfl, rfl⟩) | (go_at_call 99; refine (isLetter_any _ _).mono ?_; rintro e w' ⟨rfl, rfl⟩))
                  go_round
                  case rel => exact ⟨k + 1, by omega, by go_num, hall'⟩
                  case measure => simp [intOf]; omega
                · clear hok
                  go_wp2_with (first | (go_at_call 98; refine (isDigit_any _ _).mono ?_; rintro e w' ⟨rfl, rfl⟩) | (go_at_call 99; refine (isLetter_any _ _).mono ?_; rintro e w' ⟨rfl, rfl⟩))
                  go_round
                  case rel => exact ⟨k + 1, by omega, by go_num, hall'⟩
                  case measure => simp [intOf]; omega
              · clear hok
                go_wp2_with (first | (go_at_call 98; refine (isDigit_any _ _).mono ?_; rintro e w' ⟨rfl, rfl⟩) | (go_at_call 99; refine (isLetter_any _ _).mono ?_; rintro e w' ⟨rfl, rfl⟩))
                go_round
                case rel => exact ⟨k + 1, by omega, by go_num, hall'⟩
                case measure => simp [intOf]; omega
          · have hkl : k = s.size := by omega
            have hn : nameB s.data.toList = true := nameB_good h0 h1 HD.out (by rw [← hkl]; exact hall.out)
            clear hkl hall
            go_wp2
            go_ret
            exact ⟨rfl, rfl⟩
      · have hn := nameB_digit h0 hd
        go_enter Try.func90, Try.ntmps90
        go_wp2_with (go_at_call 98; refine (isDigit_any _ _).mono ?_; rintro e w' ⟨rfl, rfl⟩)
        go_ret
        exact ⟨ret_bool hn.symm, rfl⟩
    · have h2 : decide ((32 : Int) < (s.size : Int)) = true := by simp; omega
      have hn := nameB_long h1
      go_enter Try.func90, Try.ntmps90
      go_wp2
      go_ret
      exact ⟨ret_bool hn.symm, rfl⟩
  · obtain h : s.size = 0 := by omega
    have he := isEmpty_yes h
    have hn := nameB_empty h
    go_enter Try.func90, Try.ntmps90
    go_wp2
    go_ret
    exact ⟨ret_bool hn.symm, rfl⟩
end Go.Proofs.Ytdccmebkoibkhaa
