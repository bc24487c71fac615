/- The contract of merge's test: a word begins with an event that is not common. -/
import Derived.Test.YtdccmebkoibkhaaMemb
import Derived.Deep.QuietTactic
import Derived.BigQuiet
namespace Go.Proofs.Ytdccmebkoibkhaa
open Go.RowKit

def freeB (cm : List Int) : List Int → Bool
  | [] => false
  | x :: _ => !decide (x ∈ cm)

set_option maxHeartbeats 800000 in
theorem free_any (bb : Nat) (C : Option Addr) (m d By : Nat) (cm : List Int) (A : Option Addr) (n c Bx : Nat) (l : List Int) (w : World)
    (hcell : w.cell? ⟨bb, 0, none⟩ = some (.slice C m d)) (hcm : RdI w By C cm) (hx : RdI w Bx A l) (hn : l.length = n) (hm : cm.length = m) (hb' : m ≤ 140737488355328) (hup : Up cm) :
    Calls Try.prog 68 #[.slice A n c, .pointer (some ⟨bb, 0, none⟩)] w fun e w' => e = .returned (.bool (freeB cm l)) ∧ ∃ q, w' = w.drewN q := by
  cases l with
  | nil =>
    obtain rfl : n = 0 := hn.symm
    have hd : decide ((0 : Int) < ((0 : Nat) : Int)) = false := by decide
    clear hx hcm hm hup hn
    go_enter Try.func68, Try.ntmps68
    go_wp2
    go_quiet (fail)
    go_wp2
    go_ret
    exact ⟨rfl, _, rfl⟩
  | cons x r =>
    have hn1 : 0 < n := by rw [← hn]; simp
    obtain ⟨b1, o1, rfl, _, hc1⟩ := hx (by simp)
    have h1 : w.cell? ⟨b1, o1, none⟩ = some (.int .i64 x) := by simpa using hc1 0 (by simp)
    have H := Lib.hid (fun q => (aContains_any C m d By cm x (w.drewN q) hcm hm hb' hup).mono fun e w' h => (show e = .returned (.bool (decide (x ∈ cm))) ∧ w' = w.drewN q from ⟨h.1, h.2.symm⟩))
    have hr := Lib.hid (show freeB cm (x :: r) = !decide (x ∈ cm) from rfl)
    rw [hr.out]
    have hd : decide ((0 : Int) < (n : Int)) = true := by simp; omega
    clear hc1 hx hcm hm hup hn hr
    go_enter Try.func68, Try.ntmps68
    go_wp2
    go_quiet ((go_at_call 49; exact Calls.quiet_of_same (H.out _)))
    go_wp2
    go_ret
    exact ⟨rfl, _, rfl⟩
end Go.Proofs.Ytdccmebkoibkhaa
