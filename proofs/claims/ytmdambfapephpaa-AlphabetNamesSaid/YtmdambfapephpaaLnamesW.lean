/- The walk of the law AlphabetNames. -/
import Derived.Test.YtmdambfapephpaaLnames
import Derived.Laws.BytesArg
import Derived.Laws.Concat
namespace Go.Proofs.Ytmdambfapephpaa
open Go.RowKit

theorem size_x (t : ByteArray) : (t ++ ⟨#[120]⟩ : ByteArray).size = t.size + 1 := by
  rw [ByteArray.size_append]; rfl
theorem one_byte (f : Int) (w1 : World) : ∃ t : ByteArray, t.size = 1 ∧ (convert 23 9 (.slice (some ⟨w1.heap.size, 0, none⟩) 1 1)).run Try.prog (w1.alloc (.cells #[.int .u8 f] 5)) = .ok (.string t) (w1.alloc (.cells #[.int .u8 f] 5)) := by
  refine ⟨strOfNums [f], by simp [strOfNums, ByteArray.size], ?_⟩
  refine run_convert_bytes_arg (P := Try.prog) (w1.alloc (.cells #[.int .u8 f] 5)) 23 5 Try.underlying23 Try.underlying5 w1.heap.size 0 1 1 [f] rfl (fun i hi => ?_) 9 Try.underlying9
  obtain rfl : i = 0 := by omega
  rw [World.cell?_alloc_at _ _ _ _ rfl]; rfl

set_option maxHeartbeats 800000 in
theorem lawNames (s : ByteArray) (f m : Int) (w : World) (hs : s.size ≤ maxLen) (hf : (Lit.int .u8 f).wf = true) (hm : (Lit.int .u8 m).wf = true) :
    Calls Try.prog 3 #[.string s, .int .u8 f, .int .u8 m] w fun e w' => e = .returned (.bool true) ∧ Below w.heap.size w w' := by
  have HK := Lib.hid known_any
  have HA := Lib.hid (fun t W (h : t.size ≤ maxLen) => aIsName_any t W h)
  have HR := Lib.hid (fun t W (h : t.size ≤ maxLen) => r1IsName_any t W h)
  have HS := Lib.hid hs
  unfold maxLen at hs
  have hf0 : 0 ≤ f ∧ f ≤ 255 := bounds_u8 hf
  have hm0 : 0 ≤ m ∧ m ≤ 255 := bounds_u8 hm
  obtain ⟨f1, f2⟩ := hf0
  obtain ⟨m1, m2⟩ := hm0
  by_cases h100 : 100 < s.size
  · go_enter Try.func3, Try.ntmps3
    go_wp2_with fail
    refine (HK.out _).mono ?_
    rintro e w1 ⟨rfl, hb1⟩
    go_wp2_with fail
    refine (HK.out _).mono ?_
    rintro e w2 ⟨rfl, hb2⟩
    go_wp2
    go_ret
    exact ⟨rfl, hb1.trans (hb2.mono hb1.size)⟩
  · go_enter Try.func3, Try.ntmps3
    go_wp2_with fail
    refine (HK.out _).mono ?_
    rintro e w1 ⟨rfl, hb1⟩
    obtain ⟨t1, ht1, hcv⟩ := one_byte f w1
    have ht1' : t1.size ≤ 33 := by omega
    have hbz := hb1.alloc hb1.size (.cells #[.int .u8 f] 5)
    clear ht1
    go_wp2_with fail
    go_loop [7] (fun v => ∃ t : ByteArray, v = .string t ∧ t.size ≤ 33) (fun v => match v with | .string t => 33 - t.size | _ => 0)
    case atStart => exact ⟨t1, rfl, ht1'⟩
    case round =>
      obtain ⟨t, rfl, ht⟩ := hrel
      clear hcv
      go_wp2_with fail
      · have hlt : (t.size : Int) < 32 + m % 2 := by assumption
        have hsz := size_x t
        refine ⟨⟨_, rfl, by omega⟩, ?_⟩
        show 33 - (t ++ ⟨#[120]⟩ : ByteArray).size < 33 - t.size
        omega
      · have HT : Hid (t.size ≤ maxLen) := by show t.size ≤ maxLen; unfold maxLen; omega
        refine (HA.out _ _ HS.out).mono ?_
        rintro e w2 ⟨rfl, rfl⟩
        go_wp2_with fail
        refine (HR.out _ _ HS.out).mono ?_
        rintro e w2 ⟨rfl, rfl⟩
        go_wp2_with fail
        refine (HA.out _ _ HT.out).mono ?_
        rintro e w2 ⟨rfl, rfl⟩
        go_wp2_with fail
        refine (HR.out _ _ HT.out).mono ?_
        rintro e w2 ⟨rfl, rfl⟩
        go_wp2
        go_ret
        exact ⟨by simp, hbz⟩
end Go.Proofs.Ytmdambfapephpaa
