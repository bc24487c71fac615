/- The law AutomatonMany, walked. -/
import Derived.Test.YtcciiikaejjooaaaManyM
import Derived.Test.YtcciiikaejjooaaaBa
import Derived.Test.YtcciiikaejjooaaaKn
namespace Go.Proofs.Ytcciiikaejjooaa
open Go.RowKit Go.Sort

set_option maxHeartbeats 8000000 in
set_option maxRecDepth 100000 in
theorem lawMany (x : Int) (mk : Bool) (W : World) (S0 : (Lit.int .u8 x).wf = true) :
    Calls Try.prog 9 #[.int .u8 x, .bool mk] W fun e W' => e = .returned (.bool true) ∧ Below W.heap.size W W' := by
  obtain ⟨iI, iI0, iI1, iI2, iI3⟩ := info_parts info_int
  obtain ⟨iE, iE0, iE1, iE2, iE3⟩ := info_parts info_edge
  have HK := Lib.hid (known_any W)
  have hx : 0 ≤ x ∧ x < 256 := by simp [Lit.wf, IntKind.min, IntKind.max, IntKind.signed, IntKind.bits] at S0; omega
  obtain ⟨k, hk⟩ : ∃ k : Nat, x.tmod 33 = (k : Int) := ⟨(x.tmod 33).toNat, by have := Int.tmod_nonneg 33 hx.1; omega⟩
  have hk32 : k ≤ 32 := by have := Int.tmod_lt_of_pos x (show (0 : Int) < 33 by omega); omega
  have hw8 : IntKind.u8.wrap (k : Int) = (k : Int) := by simp [IntKind.wrap, IntKind.signed, IntKind.bits]; omega
  go_enter Try.func9, Try.ntmps9
  go_wp2_with fail
  refine HK.out.mono ?_
  rintro e w1 ⟨rfl, hb1⟩
  have HB1 := Lib.hid hb1
  have hba0 := Lib.hid (show Ba w1 w1.heap.size w1.heap.size 1 (.slice none 0 0) (w1.alloc (.cells #[.slice none 0 0, .int .i64 1, .slice none 0 0, .slice none 0 0] 25)) (rng 0) (.slice none 0 0) (manyE 0) (.slice none 0 0) from
    ⟨(Below.refl _ _).alloc (Nat.le_refl _) _, Row.new w1 [.slice none 0 0, .int .i64 1, .slice none 0 0, .slice none 0 0] 25, World.ownsRow_nil _ _ _ _, World.ownsRow_nil _ _ _ _, Nat.le_refl _⟩)
  clear hb1
  obtain ⟨P, hP⟩ : ∃ P : Nat, P = k * k := ⟨_, rfl⟩
  have hPI : (k : Int) * (k : Int) = (P : Int) := by rw [hP]; simp
  have hPb : P ≤ 1024 := by have h2 : k * k ≤ 32 * 32 := Nat.mul_le_mul hk32 hk32; omega
  have HPW := Lib.hid (show IntKind.i64.wrap ((k : Int) * (k : Int)) = (P : Int) by rw [hPI]; exact IntWalk.i64_in _ (by omega))
  have HPI := Lib.hid hPI
  have HPN := Lib.hid hP
  clear hPI hP
  go_wp2_with fail
  clear hk hw8
  go_loopw [7] (fun i wr => ∃ (t : Nat) (va ve : Value), t ≤ k ∧ i = .int .i64 t ∧ Hid (Ba w1 w1.heap.size w1.heap.size 1 (.slice none 0 0) wr (rng t) va (manyE t) ve)) (fun i _ => k - (intOf i).toNat)
  case atStart => exact ⟨0, _, _, Nat.zero_le _, rfl, hba0⟩
  case round =>
    clear hba0
    obtain ⟨t, va, ve, htk, rfl, hba⟩ := hrel
    have hsz := hba.out.h2
    by_cases hlt : t < k
    · have a0 := hba.out.cb.cell 0 rfl
      have f0 := hba.out.cb.frozen 0
      have hrl := rng_len t
      have hml := manyE_len t
      have hao := Lib.hid (show wr.ownsRow w1.heap.size 3 1 va t ((rng t).map (Value.int .i64)) by have := hba.out.ao; unfold Own at this; rwa [hrl] at this)
      go_wp2_with (at_builtin; refine wpList_append_own _ rfl _ _ 22 rfl w1.heap.size 3 iI (.int .i64 0) 1 8 Try.underlying22 iI0 iI1 iI2 iI3 rfl (by decide) _ _ _ rfl (hao.out.alloc _) ⟨wr.heap.size, 0, none⟩ 1 1 [.int .i64 (t : Int)] rfl rfl (news_one (by simp)) (by intro u hu; simp at hu; subst hu; rfl) (by unfold maxLen; omega) (by omega) (by simp; omega) ?_)
      intro v5 w5 hown5 hgrow5 _
      obtain ⟨A5, c5, rfl, ho5⟩ := int_app hrl.symm hown5
      have hb5 := hba.out.alloc (.cells #[.int .i64 (t : Int)] 3)
      have hcb5 := Lib.hid (hb5.cb.grown hgrow5 (fun e => hb5.neA e.symm))
      have hba5 := Lib.hid (Ba.event hb5 hgrow5 ho5)
      rw [← rng_succ] at hba5
      have a0 := hcb5.out.cell 0 rfl
      have f0 := hcb5.out.frozen 0
      have a3 := hba5.out.cb.cell 3 rfl
      have f3 := hba5.out.cb.frozen 3
      have hsz5 := hba5.out.h2
      have heo := Lib.hid (show (w5.setCell ⟨w1.heap.size, 0, none⟩ (.slice A5 (t + 1) c5)).ownsRow w1.heap.size 67 3 ve t (encE (manyE t)) by have := hba5.out.eo; unfold OwnE at this; rwa [hml] at this)
      clear hown5 hgrow5 ho5 hb5
      go_wp2_with (at_builtin; refine wpList_append_own _ rfl _ _ 23 rfl w1.heap.size 67 iE (.agg #[.int .i64 0, .int .i64 0, .int .i64 0]) 3 24 Try.underlying23 iE0 iE1 iE2 iE3 rfl (by decide) _ _ _ rfl (heo.out.alloc _) ⟨w5.heap.size, 0, none⟩ 1 1 [.int .i64 0, .int .i64 (t : Int), .int .i64 0] rfl rfl (news_three (by simp)) (by intro u hu; simp at hu; rcases hu with rfl | rfl | rfl <;> rfl) (by unfold maxLen; omega) (by omega) (by simp; simp at hsz5; omega) ?_)
      intro v6 w6 hown6 hgrow6 _
      obtain ⟨A6, c6, rfl, ho6⟩ := ed_app (x := ⟨0, (t : Int), 0⟩) hml.symm hown6
      have hb6 := hba5.out.alloc (.cells #[.int .i64 0, .int .i64 (t : Int), .int .i64 0] 67)
      have hcb6 := Lib.hid (hb6.cb.grown hgrow6 (fun e => hb6.neE e.symm))
      have hba6 := Lib.hid (Ba.edge hb6 hgrow6 ho6)
      rw [← manyE_succ] at hba6
      have a3 := hcb6.out.cell 3 rfl
      have f3 := hcb6.out.frozen 3
      clear hown6 hgrow6 ho6 hb6
      go_wp2_with fail
      go_roundw
      case rel => exact ⟨t + 1, _, _, by omega, by go_num, hba6⟩
      case measure => simp [intOf]; omega
    · obtain rfl : t = k := by omega
      obtain ⟨A2, c2, rfl, hA1, hA2, hA3⟩ := own_rdc hba.out.ao
      obtain ⟨E2, g2, rfl, hE1, hE2, hE3⟩ := ownE_rd hba.out.eo
      have hrl := rng_len t
      have hml := manyE_len t
      have hau := Lib.hid (show AuR wr wr.heap.size A2 (rng t).length c2 1 none 0 0 E2 (manyE t).length g2 (manyA t) from
        { al := hA1, mr := RdI.nil _ _ _, ed := hE1, hn := rfl, hm := rfl, hk := rfl, st := rfl, cn := ⟨hA2, hA3⟩, cm := by omega, ck := ⟨hE2, hE3⟩, bn := by omega, bm := by omega, bk := by omega })
      have HW := Lib.hid (mWords_any A2 (rng t).length c2 1 none 0 0 E2 (manyE t).length g2 (manyA t) 2 mk wr hau.out)
      have hmw := many_words hk32 mk
      have a0 := hba.out.cb.cell 0 rfl
      have a1 := hba.out.cb.cell 1 rfl
      have a2 := hba.out.cb.cell 2 rfl
      have a3 := hba.out.cb.cell 3 rfl
      obtain ⟨T, hT1⟩ : ∃ T, T = 1 + t + t * t := ⟨_, rfl⟩
      rw [← hT1] at hmw
      have HT1 := Lib.hid hT1
      have hT2 := Lib.hid (show (1 : Int) + (t : Int) + (P : Int) = (T : Int) by rw [hT1, ← HPN.out]; simp)
      have hT3 : T ≤ 1057 := by rw [hT1, ← HPN.out]; omega
      have hBw := Lib.hid (HB1.out.trans (hba.out.bel.mono HB1.out.size))
      clear hA1 hE1 hba hT1 hrl hml
      go_wp2_with fail
      with_reducible refine HW.out.mono ?_
      rintro e w4 ⟨⟨A4, c4, hs4, rfl, hz4, _, _, _, _⟩, hb4⟩
      have hB4 := Lib.hid (hBw.out.trans (hb4.mono hBw.out.size))
      have hlen := congrArg List.length hz4
      rw [List.length_map, hmw.1] at hlen
      obtain ⟨L4, hL4⟩ : ∃ L4, L4 = hs4.length := ⟨_, rfl⟩
      obtain ⟨E4, hE4⟩ : ∃ E4, E4 = (wordsR (manyA t) 2 mk).2 := ⟨_, rfl⟩
      rw [← hL4] at hlen ⊢
      rw [← hE4]
      rw [hmw.2] at hE4
      clear hmw hz4 hL4 hb4 HW
      have hpw := HPW.out
      have hpi := hT2.out
      by_cases hT : 1024 < T
      · rw [if_pos hT] at hlen hE4
        subst hlen hE4
        have hTi : (1024 : Int) < (T : Int) := by omega
        go_wp2_with fail
        go_ret
        exact ⟨rfl, hB4.out⟩
      · rw [if_neg hT] at hlen hE4
        subst hE4
        have hTi : (T : Int) ≤ (1024 : Int) := by omega
        cases mk
        · rw [if_neg (by simp)] at hlen
          subst hlen
          go_wp2_with fail
          go_ret
          exact ⟨by first | rfl | (simp), hB4.out⟩
        · rw [if_pos rfl] at hlen
          subst hlen
          go_wp2_with fail
          go_ret
          exact ⟨rfl, hB4.out⟩
end Go.Proofs.Ytcciiikaejjooaa
