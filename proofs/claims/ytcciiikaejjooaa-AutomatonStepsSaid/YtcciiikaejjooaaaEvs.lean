/- Layer 3: Events of the law's sets. -/
import Derived.Test.YtcciiikaejjooaaaEn
namespace Go.Proofs.Ytcciiikaejjooaa
open Go.RowKit Go.Sort

/-- Some events below n, in increasing order. -/
structure Ev5 (n : Int) (zs : List Int) : Prop where
  r : ∀ x ∈ zs, 0 ≤ x ∧ x < n
  o : zs.Pairwise (· < ·)
theorem Ev5.nil (n : Int) : Ev5 n [] := ⟨by simp, List.Pairwise.nil⟩
theorem Ev5.more {n : Int} {zs : List Int} (h : Ev5 n zs) : Ev5 (n + 1) zs := ⟨fun x hx => by have := h.r x hx; omega, h.o⟩
theorem Ev5.snoc {n : Int} {zs : List Int} (h : Ev5 n zs) (h0 : 0 ≤ n) : Ev5 (n + 1) (zs ++ [n]) :=
  ⟨fun x hx => by
    rcases List.mem_append.1 hx with hx | hx
    · have := h.r x hx; omega
    · simp at hx; subst hx; omega,
   List.pairwise_append.2 ⟨h.o, by simp, fun x hx y hy => by simp at hy; subst hy; exact (h.r x hx).2⟩⟩
theorem Ev5.len {n : Nat} {zs : List Int} (h : Ev5 (n : Int) zs) : zs.length ≤ n := nodup_len (lt_nodup h.o) h.r

set_option maxHeartbeats 2000000 in
set_option maxRecDepth 100000 in
theorem events_any (x : Int) (w : World) (hx : (Lit.int .u8 x).wf = true) :
    Calls Try.prog 33 #[.int .u8 x] w fun e w' => ∃ zs, Ev5 5 zs ∧ GivesC w zs e w' := by
  obtain ⟨i0, hi, hz0, hz1, hz2⟩ := info_parts info_int
  go_enter Try.func33, Try.ntmps33
  go_wp2_with fail
  go_loopw [3, 4] (fun v i wr => ∃ (t : Nat) (zs : List Int), t ≤ 5 ∧ i = .int .i64 t ∧ Hid (Ev5 (t : Int) zs) ∧ Hid (FP w v zs wr)) (fun _ i _ => 5 - (intOf i).toNat)
  case atStart => exact ⟨0, [], Nat.zero_le _, rfl, Ev5.nil _, ⟨Below.refl _ _, World.ownsRow_nil _ _ _ _⟩⟩
  case round =>
    obtain ⟨t, zs, ht5, rfl, hev, hfp⟩ := hrel
    by_cases hlt : t < 5
    · have hl := hev.out.len
      have z0 : (0 : Int) ≤ (t : Int) := by omega
      have hsz := hfp.out.bel.size
      have hm := Lib.hid (hev.out.more)
      have hs := Lib.hid (hev.out.snoc (by omega))
      go_upto_if 13 with fail
      generalize (bits BinOp.and IntKind.u8 (x / 2 ^ t) 1 == 1) = cb
      cases cb
      · go_wp2_with fail
        go_roundw
        case rel => exact ⟨t + 1, zs, by omega, by go_num, by simpa using hm, hfp⟩
        case measure => simp [intOf]; omega
      · go_wp2_with (at_builtin; refine wpList_append_own _ rfl _ _ 22 rfl w.heap.size 3 i0 (.int .i64 0) 1 8 Try.underlying22 hi hz0 hz1 hz2 rfl (by decide) _ _ _ rfl (hfp.out.ow.alloc _) ⟨wr.heap.size, 0, none⟩ 1 1 [.int .i64 (t : Int)] rfl rfl (news_one (by simp)) (by intro u hu; simp at hu; subst hu; rfl) (by unfold maxLen; omega) (by omega) (by simp; omega) ?_)
        intro v5 w5 hown5 hgrow5 _
        have hO5 := own_app (K' := zs ++ [(t : Int)]) rfl hfp.out.bel hfp.out.ow hown5 hgrow5 (Nat.le_refl _)
        have hF6 := Lib.hid (show FP w v5 (zs ++ [(t : Int)]) w5 from ⟨hO5.2, hO5.1⟩)
        clear hown5 hgrow5 hO5
        go_wp2_with fail
        go_roundw
        case rel => exact ⟨t + 1, zs ++ [(t : Int)], by omega, by go_num, by simpa using hs, hF6⟩
        case measure => simp [intOf]; omega
    · obtain rfl : t = 5 := by omega
      obtain ⟨A', c', rfl, hrd, hc1, hc2⟩ := own_rdc hfp.out.ow
      have HRD := Lib.hid hrd
      have HF := Lib.hid hfp.out
      clear hfp hrd
      go_wp2_with fail
      go_ret
      exact ⟨zs, hev.out, A', c', rfl, HRD.out, HF.out.bel, hc1, hc2⟩
end Go.Proofs.Ytcciiikaejjooaa
