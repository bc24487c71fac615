/- The contract of IsShuffle. -/
import Derived.Test.YtdccmebkoibkhaaIsMath
import Derived.Test.YtdccmebkoibkhaaWrmatch
import Derived.Test.YtdccmebkoibkhaaWconcat
namespace Go.Proofs.Ytdccmebkoibkhaa
open Go.RowKit
set_option linter.unusedVariables false

/-- Two lists of the call's own in blocks that are not the same. -/
def DjI (a b : Value) : Prop := ∀ k, a.ownBlock = some k → b.ownBlock = some k → False
theorem DjI.row {a b : Value} (h : DjI a b) : b.ownBlock = none ∨ b.ownBlock ≠ a.ownBlock := by
  cases hb : b.ownBlock with
  | none => exact .inl rfl
  | some k => exact .inr fun e => h k e.symm hb
theorem DjI.symm {a b : Value} (h : DjI a b) : DjI b a := fun k h1 h2 => h k h2 h1
theorem DjI.left {a b a' : Value} {h : Nat} (hd : DjI a b) (ha : a'.ownBlock = a.ownBlock ∨ a'.ownBlock = some h) (hb : ∀ k, b.ownBlock = some k → k < h) : DjI a' b := fun k h1 h2 => by
  rcases ha with ha | ha
  · exact hd k (ha ▸ h1) h2
  · have := hb k h2
    rw [ha] at h1
    injection h1 with h1
    omega

theorem own_cell {w : World} {B b o n c : Nat} {zs : List Int} (h : Own w B (.slice (some ⟨b, o, none⟩) n c) zs) (j : Nat) (hj : j < zs.length) : w.cell? ⟨b, o + j, none⟩ = some (.int .i64 (zs.getD j 0)) := by
  obtain ⟨A, c', e, hr, _, _⟩ := own_rdc h
  injection e with e1 _ _
  subst e1
  obtain ⟨b', o', e2, _, hc⟩ := hr (by omega)
  cases e2
  exact hc j hj
/-- Behind an append of one number to one of the two lists. -/
theorem app_pack {w0 wq w1 : World} {base : Nat} {v8 vT v' : Value} {acc acc' T : List Int} {o : Obj} (hb : base = w0.heap.size) (hacc : Own wq base v8 acc) (hT : Own wq base vT T) (hd : DjI vT v8) (hB : Below w0.heap.size w0 wq)
    (hown : Own w1 base v' acc') (hg : (wq.alloc o).grownBy w1 v8.ownBlock) (hbl : v'.ownBlock = v8.ownBlock ∨ v'.ownBlock = some (wq.heap.size + 1)) : Own w1 base vT T ∧ DjI vT v' ∧ Below w0.heap.size w0 w1 := by
  subst hb
  refine ⟨World.ownsRow.kept (hT.alloc o) hg hd.symm.row, (hd.symm.left hbl (fun k hk => Nat.lt_succ_of_lt (hT.lt k hk).2)).symm, (hB.alloc hB.size o).grown hg (by simp; have := hB.size; omega) (fun j hj => (hacc.lt j hj).1)⟩
theorem own_trunc {w : World} {B : Nat} {A : Option Addr} {n c : Nat} {zs : List Int} (h : Own w B (.slice A n c) zs) : Own w B (.slice A 0 c) [] := by
  rcases h.2 with ⟨e, _⟩ | ⟨g, cap, cur, e, hg, hh, hn, hcap, hsz, _⟩
  · injection e with e1 e2 e3; subst e1; subst e3; exact World.ownsRow_nil _ _ _ _
  · injection e with e1 e2 e3; subst e1; subst e3; exact ⟨rfl, .inr ⟨g, c, cur, rfl, hg, hh, Nat.zero_le _, hcap, hsz, by simp⟩⟩
theorem dj_trunc {a : Value} {A : Option Addr} {n m c : Nat} (h : DjI a (.slice A n c)) : DjI a (.slice A m c) := fun k h1 h2 => h k h1 (by
  unfold Value.ownBlock at h2 ⊢
  split at h2 <;> simp_all)
theorem rd_lit1 (w : World) (x : Int) (B : Nat) (hB : w.heap.size < B) : RdI (w.alloc (.cells #[.int .i64 x] 3)) B (some ⟨w.heap.size, 0, none⟩) [x] := fun _ => by
  refine ⟨w.heap.size, 0, rfl, hB, fun j hj => ?_⟩
  have hj0 : j = 0 := by simp at hj; omega
  subst hj0
  rw [World.cell?_alloc_at _ _ _ _ rfl]; rfl

set_option maxHeartbeats 4000000 in
set_option maxRecDepth 4000 in
theorem wIsShuffle_any (W A B : Option Addr) (n na nb c ca cb : Nat) (ws za zb : List Int) (w : World) (hx : RdI w w.heap.size W ws) (ha : RdI w w.heap.size A za) (hb : RdI w w.heap.size B zb) (hn : ws.length = n) (hna : za.length = na) (hnb : zb.length = nb) (b1 : n ≤ 16) (b2 : na ≤ 100) (b3 : nb ≤ 100) :
    Calls Try.prog 33 #[.slice W n c, .slice A na ca, .slice B nb cb] w fun e w' => e = .returned (.bool (isSh ws za zb)) ∧ Below w.heap.size w w' := by
  obtain ⟨i0, hi, hz0, hz1, hz2⟩ := info_parts info_int
  have HX := Lib.hid hx
  have HA := Lib.hid ha
  have HB := Lib.hid hb
  have HN := Lib.hid hn
  have HNA := Lib.hid hna
  have HNB := Lib.hid hnb
  by_cases hne : n = na + nb
  · obtain ⟨v, hv⟩ : ∃ v, v = isSh ws za zb := ⟨_, rfl⟩
    have HV := Lib.hid hv
    rw [← hv]
    have HNE := Lib.hid hne
    have hneq : ((n : Int) != (na : Int) + (nb : Int)) = false := by simp; omega
    have hlit := Lib.hid (own_lit1 w w.heap.size 0 (Nat.le_refl _))
    clear hx ha hb hn hna hnb hv hne
    go_enter Try.func33, Try.ntmps33
    go_wp2_with fail
    go_loopw [7, 8, 24] (fun vt vn i wr => ∃ (k : Nat) (T N : List Int), k ≤ n ∧ i = .int .i64 k ∧ Hid (Own wr w.heap.size vt T) ∧ Hid (Own wr w.heap.size vn N) ∧ Hid (DjI vt vn) ∧ Hid (IsInv ws za zb k T) ∧ Hid (T ≠ []) ∧ Hid (Below w.heap.size w wr)) (fun _ _ i _ => n - (intOf i).toNat)
    case atStart => exact ⟨0, [0], [], Nat.zero_le _, rfl, hlit.out, World.ownsRow_nil _ _ _ _, fun b h1 h2 => (by cases h2), isInv_zero _ _ _, by simp [Hid], (Below.refl _ _).alloc (Nat.le_refl _) _⟩
    case round =>
      obtain ⟨k, T, N, hk, rfl, ht, hnn, hd, hinv, hne, hnx⟩ := hrel
      by_cases hlt : k < n
      · have k1 : (k : Int) < (n : Int) := by omega
        obtain ⟨At, ct, rfl, hrt, _, _⟩ := own_rdc ht.out
        obtain ⟨An, cn, rfl, _, _, _⟩ := own_rdc hnn.out
        obtain ⟨nt, hnt⟩ : ∃ m, m = T.length := ⟨_, rfl⟩
        obtain ⟨mn, hmn⟩ : ∃ m, m = N.length := ⟨_, rfl⟩
        obtain ⟨bw, ow, rfl, _, hcw⟩ := (HX.out.below hnx.out (Nat.le_refl _)) (by have := HN.out; omega)
        have hcx := hcw k (by have := HN.out; omega)
        obtain ⟨x, hxe⟩ : ∃ x, x = ws.getD k 0 := ⟨_, rfl⟩
        rw [← hxe] at hcx
        rw [← hnt, ← hmn]
        have HXE := Lib.hid hxe
        have HNT := Lib.hid hnt
        have HMN := Lib.hid hmn
        clear hcw hxe hnt hmn
        obtain ⟨bt, ot, rfl, _, _⟩ := hrt (by have := hne.out; cases T with | nil => exact absurd rfl this | cons _ _ => simp)
        clear hrt
        have cn0 : (0 : Int) ≤ (cn : Int) := by omega
        have hp2 : 2 ^ k ≤ 32768 := by
          have : 2 ^ k ≤ 2 ^ 15 := Nat.pow_le_pow_right (by omega) (by omega)
          omega
        have hntb : nt ≤ 32768 := by have := hinv.out.len; rw [HNT.out]; omega
        clear hp2
        have hd' := Lib.hid (show DjI (.slice (some ⟨bt, ot, none⟩) nt ct) (.slice An N.length cn) by have := hd.out; rwa [← HNT.out] at this)
        go_wp2_with fail
        go_loopw [8, 33] (fun v8 i wq => ∃ (j : Nat) (acc : List Int), j ≤ nt ∧ i = .int .i64 j ∧ Hid (Own wq w.heap.size v8 acc) ∧ Hid (DjI (.slice (some ⟨bt, ot, none⟩) nt ct) v8) ∧ Hid (Own wq w.heap.size (.slice (some ⟨bt, ot, none⟩) nt ct) T) ∧ Hid (nxt za zb x k acc (T.drop j) = nxt za zb x k [] T) ∧ Hid (acc.length ≤ 2 * j) ∧ Hid (Below w.heap.size w wq)) (fun _ i _ => nt - (intOf i).toNat)
        case atStart => exact ⟨0, [], Nat.zero_le _, rfl, own_trunc hnn.out, dj_trunc hd'.out, by have := ht.out; rwa [← HNT.out] at this, rfl, Nat.zero_le _, hnx.out⟩
        case round =>
          obtain ⟨j, acc, hj, rfl, ACC, DJ, TT, NX0, HL0, HBq⟩ := hrel
          rename World => wq
          by_cases hjt : j < nt
          · have jt : (j : Int) < (nt : Int) := by omega
            have hci := own_cell TT.out j (by have := HNT.out; omega)
            have hmem : T.getD j 0 ∈ T := by have := HNT.out; rw [List.getD, List.getElem?_eq_getElem (by omega)]; exact List.getElem_mem _
            obtain ⟨o1, o2, o3, o4⟩ := hinv.out.ok _ hmem
            have hdr : T.drop j = T.getD j 0 :: T.drop (j + 1) := by
              have := HNT.out
              rw [List.drop_eq_getElem_cons (by omega)]; simp [List.getD, List.getElem?_eq_getElem (show j < T.length by omega)]
            have NX0 := Lib.hid (show nxt za zb x k (stA za x (stB zb x k acc (T.getD j 0)) (T.getD j 0)) (T.drop (j + 1)) = nxt za zb x k [] T by have := NX0.out; rw [hdr, nxt] at this; exact this)
            obtain ⟨m, hm⟩ : ∃ m : Nat, T.getD j 0 = (m : Int) := ⟨(T.getD j 0).toNat, by omega⟩
            rw [hm] at hci NX0 o2 o3 o4
            obtain ⟨q, hq⟩ : ∃ q : Nat, (k : Int) - (m : Int) = (q : Int) := ⟨((k : Int) - (m : Int)).toNat, by omega⟩
            have m1 : m ≤ na := by have := HNA.out; omega
            have q1 : q ≤ nb := by have := HNB.out; omega
            have mk : m ≤ k := by omega
            clear hmem o1 o2 o3 o4 hdr hm
            obtain ⟨A8, c8, rfl, hr8, _, _⟩ := own_rdc ACC.out
            obtain ⟨L, hL⟩ : ∃ l, l = acc.length := ⟨_, rfl⟩
            rw [← hL]
            have ACC := Lib.hid (show Own wq w.heap.size (.slice A8 L c8) acc by have := ACC.out; rwa [← hL] at this)
            have DJ := Lib.hid (show DjI (.slice (some ⟨bt, ot, none⟩) nt ct) (.slice A8 L c8) by have := DJ.out; rwa [← hL] at this)
            have hL2 : L ≤ 65536 := by have := HL0.out; omega
            have hac : acc.length ≤ 65536 := by omega
            by_cases hqb : q < nb
            · have qb : (q : Int) < (nb : Int) := by omega
              obtain ⟨bb, ob, rfl, _, hcb⟩ := (HB.out.below HBq.out (Nat.le_refl _)) (by have := HNB.out; omega)
              have hcz := hcb q (by have := HNB.out; omega)
              obtain ⟨y, hy⟩ : ∃ y, y = zb.getD q 0 := ⟨_, rfl⟩
              rw [← hy] at hcz
              clear hcb
              by_cases hyx0 : y = x
              · have hyb0 : (y == x) = true := by simpa using hyx0
                rcases Nat.eq_zero_or_pos L with rfl | hLp
                · have HSB := Lib.hid (show stB zb x k acc m = acc ++ [(m : Int)] from stB_emp hq (by have := HNB.out; omega) (by rw [← hy]; exact hyx0) hL.symm)
                  have HLE := Lib.hid hL
                  clear hr8 hy hyx0 hL
                  have hws := HBq.out.size
                  go_wp2_with (at_builtin; refine wpList_app_at rfl (.tmp 68) (.tmp 70) rfl w.heap.size _ _ rfl (ACC.out.alloc _) _ _ 1 1 [(m : Int)] rfl (rd_lit1 _ _ _ (Nat.lt_succ_self _)) rfl (by omega) (by simp; omega) ?_)
                  intro v' w1 hown hgrow hbl
                  obtain ⟨r1, r2, r3⟩ := app_pack rfl ACC.out TT.out DJ.out HBq.out hown hgrow hbl
                  clear ACC TT DJ HBq hws
                  have ACC := Lib.hid hown
                  have TT := Lib.hid r1
                  have DJ := Lib.hid r2
                  have HBq := Lib.hid r3
                  clear hown hgrow hbl r1 r2 r3
                  obtain ⟨wq, hwq⟩ : ∃ wo : World, wo = w1 := ⟨_, rfl⟩
                  subst hwq
                  obtain ⟨accB, haccB⟩ : ∃ l, l = (acc ++ [(m : Int)]) := ⟨_, rfl⟩
                  have NX := Lib.hid (show nxt za zb x k (stA za x accB m) (T.drop (j + 1)) = nxt za zb x k [] T by rw [haccB, ← HSB.out]; exact NX0.out)
                  have HLB := Lib.hid (show accB.length ≤ 2 * j + 1 by rw [haccB]; have := HL0.out; simp; omega)
                  have hab : accB.length ≤ 65540 := by have := HLB.out; omega
                  rw [← haccB] at ACC
                  clear NX0 HL0 haccB HSB
                  by_cases ha1 : m < na
                  · have hai : (m : Int) < (na : Int) := by omega
                    obtain ⟨ba, oa, rfl, _, hca⟩ := (HA.out.below HBq.out (Nat.le_refl _)) (by have := HNA.out; omega)
                    have hcy := hca m (by have := HNA.out; omega)
                    obtain ⟨ya, hya⟩ : ∃ y, y = za.getD m 0 := ⟨_, rfl⟩
                    rw [← hya] at hcy
                    clear hca
                    by_cases hyx : ya = x
                    · have hyb : (ya == x) = true := by simpa using hyx
                      have HST := Lib.hid (show ∀ acc, stA za x acc (m : Int) = acc ++ [(m : Int) + 1] from fun acc => stA_app (by have := HNA.out; omega) (by rw [← hya]; exact hyx))
                      clear hya hyx
                      have hws := HBq.out.size
                      go_wp2_with (at_builtin; refine wpList_app_at rfl (.tmp 84) (.tmp 87) rfl w.heap.size _ _ rfl (ACC.out.alloc _) _ _ 1 1 [(m : Int) + 1] rfl (rd_lit1 _ _ _ (Nat.lt_succ_self _)) rfl (by omega) (by simp; omega) ?_)
                      intro v' w1 hown hgrow hbl
                      obtain ⟨r1, r2, r3⟩ := app_pack rfl ACC.out TT.out DJ.out HBq.out hown hgrow hbl
                      clear ACC TT DJ HBq hws
                      have ACC := Lib.hid hown
                      have TT := Lib.hid r1
                      have DJ := Lib.hid r2
                      have HBq := Lib.hid r3
                      clear hown hgrow hbl r1 r2 r3
                      obtain ⟨wq, hwq⟩ : ∃ wo : World, wo = w1 := ⟨_, rfl⟩
                      subst hwq
                      have NX2 := Lib.hid (show nxt za zb x k (accB ++ [(m : Int) + 1]) (T.drop (j + 1)) = nxt za zb x k [] T by rw [← HST.out]; exact NX.out)
                      have HL2 := Lib.hid (show ((accB ++ [(m : Int) + 1])).length ≤ 2 * (j + 1) by have := HLB.out; simp; omega)
                      go_wp2_with fail
                      go_roundw
                      case rel => exact ⟨j + 1, _, by omega, by go_num, ACC, DJ, TT, NX2, HL2, HBq⟩
                      case measure => simp [intOf]; omega
                    · have hyb : (ya == x) = false := by simpa using hyx
                      have HST := Lib.hid (show ∀ acc, stA za x acc (m : Int) = acc from fun acc => stA_ne (by rw [← hya]; exact hyx))
                      clear hya hyx
                      have NX2 := Lib.hid (show nxt za zb x k accB (T.drop (j + 1)) = nxt za zb x k [] T by rw [← HST.out accB]; exact NX.out)
                      have HL2 := Lib.hid (show (accB).length ≤ 2 * (j + 1) by have := HLB.out; simp; omega)
                      go_wp2_with fail
                      go_roundw
                      case rel => exact ⟨j + 1, _, by omega, by go_num, ACC, DJ, TT, NX2, HL2, HBq⟩
                      case measure => simp [intOf]; omega
                  · have hai : ¬ (m : Int) < (na : Int) := by omega
                    have HST := Lib.hid (show ∀ acc, stA za x acc (m : Int) = acc from fun acc => stA_out (by have := HNA.out; omega))
                    have NX2 := Lib.hid (show nxt za zb x k accB (T.drop (j + 1)) = nxt za zb x k [] T by rw [← HST.out accB]; exact NX.out)
                    have HL2 := Lib.hid (show (accB).length ≤ 2 * (j + 1) by have := HLB.out; simp; omega)
                    go_wp2_with fail
                    go_roundw
                    case rel => exact ⟨j + 1, _, by omega, by go_num, ACC, DJ, TT, NX2, HL2, HBq⟩
                    case measure => simp [intOf]; omega
                · obtain ⟨l, rfl⟩ : ∃ l, L = l + 1 := ⟨L - 1, by omega⟩
                  obtain ⟨b8, o8, rfl, _, hc8⟩ := hr8 (by omega)
                  have hcl := hc8 l (by omega)
                  obtain ⟨z, hz⟩ : ∃ z, z = acc.getD l 0 := ⟨_, rfl⟩
                  rw [← hz] at hcl
                  have hl1 : ((l + 1 : Nat) : Int) - 1 = (l : Int) := by omega
                  have hl2 : (((l + 1 : Nat) : Int) == 0) = false := by simp; omega
                  have hl3 : (l : Int) < ((l + 1 : Nat) : Int) := by omega
                  clear hc8 hr8
                  by_cases hzm : z = m
                  · have hzb : (z != (m : Int)) = false := by simpa using hzm
                    have HSB := Lib.hid (show stB zb x k acc m = acc from stB_dup hL.symm (by rw [← hz]; exact hzm))
                    clear hy hyx0 hL hz hzm
                    obtain ⟨accB, haccB⟩ : ∃ l, l = acc := ⟨_, rfl⟩
                    have NX := Lib.hid (show nxt za zb x k (stA za x accB m) (T.drop (j + 1)) = nxt za zb x k [] T by rw [haccB, ← HSB.out]; exact NX0.out)
                    have HLB := Lib.hid (show accB.length ≤ 2 * j + 0 by rw [haccB]; have := HL0.out; simp; omega)
                    have hab : accB.length ≤ 65540 := by have := HLB.out; omega
                    rw [← haccB] at ACC
                    clear NX0 HL0 haccB HSB
                    by_cases ha1 : m < na
                    · have hai : (m : Int) < (na : Int) := by omega
                      obtain ⟨ba, oa, rfl, _, hca⟩ := (HA.out.below HBq.out (Nat.le_refl _)) (by have := HNA.out; omega)
                      have hcy := hca m (by have := HNA.out; omega)
                      obtain ⟨ya, hya⟩ : ∃ y, y = za.getD m 0 := ⟨_, rfl⟩
                      rw [← hya] at hcy
                      clear hca
                      by_cases hyx : ya = x
                      · have hyb : (ya == x) = true := by simpa using hyx
                        have HST := Lib.hid (show ∀ acc, stA za x acc (m : Int) = acc ++ [(m : Int) + 1] from fun acc => stA_app (by have := HNA.out; omega) (by rw [← hya]; exact hyx))
                        clear hya hyx
                        have hws := HBq.out.size
                        go_wp2_with (at_builtin; refine wpList_app_at rfl (.tmp 84) (.tmp 87) rfl w.heap.size _ _ rfl (ACC.out.alloc _) _ _ 1 1 [(m : Int) + 1] rfl (rd_lit1 _ _ _ (Nat.lt_succ_self _)) rfl (by omega) (by simp; omega) ?_)
                        intro v' w1 hown hgrow hbl
                        obtain ⟨r1, r2, r3⟩ := app_pack rfl ACC.out TT.out DJ.out HBq.out hown hgrow hbl
                        clear ACC TT DJ HBq hws
                        have ACC := Lib.hid hown
                        have TT := Lib.hid r1
                        have DJ := Lib.hid r2
                        have HBq := Lib.hid r3
                        clear hown hgrow hbl r1 r2 r3
                        obtain ⟨wq, hwq⟩ : ∃ wo : World, wo = w1 := ⟨_, rfl⟩
                        subst hwq
                        have NX2 := Lib.hid (show nxt za zb x k (accB ++ [(m : Int) + 1]) (T.drop (j + 1)) = nxt za zb x k [] T by rw [← HST.out]; exact NX.out)
                        have HL2 := Lib.hid (show ((accB ++ [(m : Int) + 1])).length ≤ 2 * (j + 1) by have := HLB.out; simp; omega)
                        go_wp2_with fail
                        go_roundw
                        case rel => exact ⟨j + 1, _, by omega, by go_num, ACC, DJ, TT, NX2, HL2, HBq⟩
                        case measure => simp [intOf]; omega
                      · have hyb : (ya == x) = false := by simpa using hyx
                        have HST := Lib.hid (show ∀ acc, stA za x acc (m : Int) = acc from fun acc => stA_ne (by rw [← hya]; exact hyx))
                        clear hya hyx
                        have NX2 := Lib.hid (show nxt za zb x k accB (T.drop (j + 1)) = nxt za zb x k [] T by rw [← HST.out accB]; exact NX.out)
                        have HL2 := Lib.hid (show (accB).length ≤ 2 * (j + 1) by have := HLB.out; simp; omega)
                        go_wp2_with fail
                        go_roundw
                        case rel => exact ⟨j + 1, _, by omega, by go_num, ACC, DJ, TT, NX2, HL2, HBq⟩
                        case measure => simp [intOf]; omega
                    · have hai : ¬ (m : Int) < (na : Int) := by omega
                      have HST := Lib.hid (show ∀ acc, stA za x acc (m : Int) = acc from fun acc => stA_out (by have := HNA.out; omega))
                      have NX2 := Lib.hid (show nxt za zb x k accB (T.drop (j + 1)) = nxt za zb x k [] T by rw [← HST.out accB]; exact NX.out)
                      have HL2 := Lib.hid (show (accB).length ≤ 2 * (j + 1) by have := HLB.out; simp; omega)
                      go_wp2_with fail
                      go_roundw
                      case rel => exact ⟨j + 1, _, by omega, by go_num, ACC, DJ, TT, NX2, HL2, HBq⟩
                      case measure => simp [intOf]; omega
                  · have hzb : (z != (m : Int)) = true := by simpa using hzm
                    have HSB := Lib.hid (show stB zb x k acc m = acc ++ [(m : Int)] from stB_app hq (by have := HNB.out; omega) (by rw [← hy]; exact hyx0) hL.symm (by rw [← hz]; exact hzm))
                    have HLE := Lib.hid hL
                    clear hy hyx0 hL hz hzm
                    have hws := HBq.out.size
                    go_wp2_with (at_builtin; refine wpList_app_at rfl (.tmp 68) (.tmp 70) rfl w.heap.size _ _ rfl (ACC.out.alloc _) _ _ 1 1 [(m : Int)] rfl (rd_lit1 _ _ _ (Nat.lt_succ_self _)) rfl (by omega) (by simp; omega) ?_)
                    intro v' w1 hown hgrow hbl
                    obtain ⟨r1, r2, r3⟩ := app_pack rfl ACC.out TT.out DJ.out HBq.out hown hgrow hbl
                    clear ACC TT DJ HBq hws
                    have ACC := Lib.hid hown
                    have TT := Lib.hid r1
                    have DJ := Lib.hid r2
                    have HBq := Lib.hid r3
                    clear hown hgrow hbl r1 r2 r3
                    obtain ⟨wq, hwq⟩ : ∃ wo : World, wo = w1 := ⟨_, rfl⟩
                    subst hwq
                    obtain ⟨accB, haccB⟩ : ∃ l, l = (acc ++ [(m : Int)]) := ⟨_, rfl⟩
                    have NX := Lib.hid (show nxt za zb x k (stA za x accB m) (T.drop (j + 1)) = nxt za zb x k [] T by rw [haccB, ← HSB.out]; exact NX0.out)
                    have HLB := Lib.hid (show accB.length ≤ 2 * j + 1 by rw [haccB]; have := HL0.out; simp; omega)
                    have hab : accB.length ≤ 65540 := by have := HLB.out; omega
                    rw [← haccB] at ACC
                    clear NX0 HL0 haccB HSB
                    by_cases ha1 : m < na
                    · have hai : (m : Int) < (na : Int) := by omega
                      obtain ⟨ba, oa, rfl, _, hca⟩ := (HA.out.below HBq.out (Nat.le_refl _)) (by have := HNA.out; omega)
                      have hcy := hca m (by have := HNA.out; omega)
                      obtain ⟨ya, hya⟩ : ∃ y, y = za.getD m 0 := ⟨_, rfl⟩
                      rw [← hya] at hcy
                      clear hca
                      by_cases hyx : ya = x
                      · have hyb : (ya == x) = true := by simpa using hyx
                        have HST := Lib.hid (show ∀ acc, stA za x acc (m : Int) = acc ++ [(m : Int) + 1] from fun acc => stA_app (by have := HNA.out; omega) (by rw [← hya]; exact hyx))
                        clear hya hyx
                        have hws := HBq.out.size
                        go_wp2_with (at_builtin; refine wpList_app_at rfl (.tmp 84) (.tmp 87) rfl w.heap.size _ _ rfl (ACC.out.alloc _) _ _ 1 1 [(m : Int) + 1] rfl (rd_lit1 _ _ _ (Nat.lt_succ_self _)) rfl (by omega) (by simp; omega) ?_)
                        intro v' w1 hown hgrow hbl
                        obtain ⟨r1, r2, r3⟩ := app_pack rfl ACC.out TT.out DJ.out HBq.out hown hgrow hbl
                        clear ACC TT DJ HBq hws
                        have ACC := Lib.hid hown
                        have TT := Lib.hid r1
                        have DJ := Lib.hid r2
                        have HBq := Lib.hid r3
                        clear hown hgrow hbl r1 r2 r3
                        obtain ⟨wq, hwq⟩ : ∃ wo : World, wo = w1 := ⟨_, rfl⟩
                        subst hwq
                        have NX2 := Lib.hid (show nxt za zb x k (accB ++ [(m : Int) + 1]) (T.drop (j + 1)) = nxt za zb x k [] T by rw [← HST.out]; exact NX.out)
                        have HL2 := Lib.hid (show ((accB ++ [(m : Int) + 1])).length ≤ 2 * (j + 1) by have := HLB.out; simp; omega)
                        go_wp2_with fail
                        go_roundw
                        case rel => exact ⟨j + 1, _, by omega, by go_num, ACC, DJ, TT, NX2, HL2, HBq⟩
                        case measure => simp [intOf]; omega
                      · have hyb : (ya == x) = false := by simpa using hyx
                        have HST := Lib.hid (show ∀ acc, stA za x acc (m : Int) = acc from fun acc => stA_ne (by rw [← hya]; exact hyx))
                        clear hya hyx
                        have NX2 := Lib.hid (show nxt za zb x k accB (T.drop (j + 1)) = nxt za zb x k [] T by rw [← HST.out accB]; exact NX.out)
                        have HL2 := Lib.hid (show (accB).length ≤ 2 * (j + 1) by have := HLB.out; simp; omega)
                        go_wp2_with fail
                        go_roundw
                        case rel => exact ⟨j + 1, _, by omega, by go_num, ACC, DJ, TT, NX2, HL2, HBq⟩
                        case measure => simp [intOf]; omega
                    · have hai : ¬ (m : Int) < (na : Int) := by omega
                      have HST := Lib.hid (show ∀ acc, stA za x acc (m : Int) = acc from fun acc => stA_out (by have := HNA.out; omega))
                      have NX2 := Lib.hid (show nxt za zb x k accB (T.drop (j + 1)) = nxt za zb x k [] T by rw [← HST.out accB]; exact NX.out)
                      have HL2 := Lib.hid (show (accB).length ≤ 2 * (j + 1) by have := HLB.out; simp; omega)
                      go_wp2_with fail
                      go_roundw
                      case rel => exact ⟨j + 1, _, by omega, by go_num, ACC, DJ, TT, NX2, HL2, HBq⟩
                      case measure => simp [intOf]; omega
              · have hyb0 : (y == x) = false := by simpa using hyx0
                have HSB := Lib.hid (show stB zb x k acc m = acc from stB_ne hq (by rw [← hy]; exact hyx0))
                clear hr8 hy hyx0 hL
                obtain ⟨accB, haccB⟩ : ∃ l, l = acc := ⟨_, rfl⟩
                have NX := Lib.hid (show nxt za zb x k (stA za x accB m) (T.drop (j + 1)) = nxt za zb x k [] T by rw [haccB, ← HSB.out]; exact NX0.out)
                have HLB := Lib.hid (show accB.length ≤ 2 * j + 0 by rw [haccB]; have := HL0.out; simp; omega)
                have hab : accB.length ≤ 65540 := by have := HLB.out; omega
                rw [← haccB] at ACC
                clear NX0 HL0 haccB HSB
                by_cases ha1 : m < na
                · have hai : (m : Int) < (na : Int) := by omega
                  obtain ⟨ba, oa, rfl, _, hca⟩ := (HA.out.below HBq.out (Nat.le_refl _)) (by have := HNA.out; omega)
                  have hcy := hca m (by have := HNA.out; omega)
                  obtain ⟨ya, hya⟩ : ∃ y, y = za.getD m 0 := ⟨_, rfl⟩
                  rw [← hya] at hcy
                  clear hca
                  by_cases hyx : ya = x
                  · have hyb : (ya == x) = true := by simpa using hyx
                    have HST := Lib.hid (show ∀ acc, stA za x acc (m : Int) = acc ++ [(m : Int) + 1] from fun acc => stA_app (by have := HNA.out; omega) (by rw [← hya]; exact hyx))
                    clear hya hyx
                    have hws := HBq.out.size
                    go_wp2_with (at_builtin; refine wpList_app_at rfl (.tmp 84) (.tmp 87) rfl w.heap.size _ _ rfl (ACC.out.alloc _) _ _ 1 1 [(m : Int) + 1] rfl (rd_lit1 _ _ _ (Nat.lt_succ_self _)) rfl (by omega) (by simp; omega) ?_)
                    intro v' w1 hown hgrow hbl
                    obtain ⟨r1, r2, r3⟩ := app_pack rfl ACC.out TT.out DJ.out HBq.out hown hgrow hbl
                    clear ACC TT DJ HBq hws
                    have ACC := Lib.hid hown
                    have TT := Lib.hid r1
                    have DJ := Lib.hid r2
                    have HBq := Lib.hid r3
                    clear hown hgrow hbl r1 r2 r3
                    obtain ⟨wq, hwq⟩ : ∃ wo : World, wo = w1 := ⟨_, rfl⟩
                    subst hwq
                    have NX2 := Lib.hid (show nxt za zb x k (accB ++ [(m : Int) + 1]) (T.drop (j + 1)) = nxt za zb x k [] T by rw [← HST.out]; exact NX.out)
                    have HL2 := Lib.hid (show ((accB ++ [(m : Int) + 1])).length ≤ 2 * (j + 1) by have := HLB.out; simp; omega)
                    go_wp2_with fail
                    go_roundw
                    case rel => exact ⟨j + 1, _, by omega, by go_num, ACC, DJ, TT, NX2, HL2, HBq⟩
                    case measure => simp [intOf]; omega
                  · have hyb : (ya == x) = false := by simpa using hyx
                    have HST := Lib.hid (show ∀ acc, stA za x acc (m : Int) = acc from fun acc => stA_ne (by rw [← hya]; exact hyx))
                    clear hya hyx
                    have NX2 := Lib.hid (show nxt za zb x k accB (T.drop (j + 1)) = nxt za zb x k [] T by rw [← HST.out accB]; exact NX.out)
                    have HL2 := Lib.hid (show (accB).length ≤ 2 * (j + 1) by have := HLB.out; simp; omega)
                    go_wp2_with fail
                    go_roundw
                    case rel => exact ⟨j + 1, _, by omega, by go_num, ACC, DJ, TT, NX2, HL2, HBq⟩
                    case measure => simp [intOf]; omega
                · have hai : ¬ (m : Int) < (na : Int) := by omega
                  have HST := Lib.hid (show ∀ acc, stA za x acc (m : Int) = acc from fun acc => stA_out (by have := HNA.out; omega))
                  have NX2 := Lib.hid (show nxt za zb x k accB (T.drop (j + 1)) = nxt za zb x k [] T by rw [← HST.out accB]; exact NX.out)
                  have HL2 := Lib.hid (show (accB).length ≤ 2 * (j + 1) by have := HLB.out; simp; omega)
                  go_wp2_with fail
                  go_roundw
                  case rel => exact ⟨j + 1, _, by omega, by go_num, ACC, DJ, TT, NX2, HL2, HBq⟩
                  case measure => simp [intOf]; omega
            · have qb : ¬ (q : Int) < (nb : Int) := by omega
              have HSB := Lib.hid (show stB zb x k acc m = acc from stB_out (by rw [hq]; have := HNB.out; omega))
              clear hr8 hL
              obtain ⟨accB, haccB⟩ : ∃ l, l = acc := ⟨_, rfl⟩
              have NX := Lib.hid (show nxt za zb x k (stA za x accB m) (T.drop (j + 1)) = nxt za zb x k [] T by rw [haccB, ← HSB.out]; exact NX0.out)
              have HLB := Lib.hid (show accB.length ≤ 2 * j + 0 by rw [haccB]; have := HL0.out; simp; omega)
              have hab : accB.length ≤ 65540 := by have := HLB.out; omega
              rw [← haccB] at ACC
              clear NX0 HL0 haccB HSB
              by_cases ha1 : m < na
              · have hai : (m : Int) < (na : Int) := by omega
                obtain ⟨ba, oa, rfl, _, hca⟩ := (HA.out.below HBq.out (Nat.le_refl _)) (by have := HNA.out; omega)
                have hcy := hca m (by have := HNA.out; omega)
                obtain ⟨ya, hya⟩ : ∃ y, y = za.getD m 0 := ⟨_, rfl⟩
                rw [← hya] at hcy
                clear hca
                by_cases hyx : ya = x
                · have hyb : (ya == x) = true := by simpa using hyx
                  have HST := Lib.hid (show ∀ acc, stA za x acc (m : Int) = acc ++ [(m : Int) + 1] from fun acc => stA_app (by have := HNA.out; omega) (by rw [← hya]; exact hyx))
                  clear hya hyx
                  have hws := HBq.out.size
                  go_wp2_with (at_builtin; refine wpList_app_at rfl (.tmp 84) (.tmp 87) rfl w.heap.size _ _ rfl (ACC.out.alloc _) _ _ 1 1 [(m : Int) + 1] rfl (rd_lit1 _ _ _ (Nat.lt_succ_self _)) rfl (by omega) (by simp; omega) ?_)
                  intro v' w1 hown hgrow hbl
                  obtain ⟨r1, r2, r3⟩ := app_pack rfl ACC.out TT.out DJ.out HBq.out hown hgrow hbl
                  clear ACC TT DJ HBq hws
                  have ACC := Lib.hid hown
                  have TT := Lib.hid r1
                  have DJ := Lib.hid r2
                  have HBq := Lib.hid r3
                  clear hown hgrow hbl r1 r2 r3
                  obtain ⟨wq, hwq⟩ : ∃ wo : World, wo = w1 := ⟨_, rfl⟩
                  subst hwq
                  have NX2 := Lib.hid (show nxt za zb x k (accB ++ [(m : Int) + 1]) (T.drop (j + 1)) = nxt za zb x k [] T by rw [← HST.out]; exact NX.out)
                  have HL2 := Lib.hid (show ((accB ++ [(m : Int) + 1])).length ≤ 2 * (j + 1) by have := HLB.out; simp; omega)
                  go_wp2_with fail
                  go_roundw
                  case rel => exact ⟨j + 1, _, by omega, by go_num, ACC, DJ, TT, NX2, HL2, HBq⟩
                  case measure => simp [intOf]; omega
                · have hyb : (ya == x) = false := by simpa using hyx
                  have HST := Lib.hid (show ∀ acc, stA za x acc (m : Int) = acc from fun acc => stA_ne (by rw [← hya]; exact hyx))
                  clear hya hyx
                  have NX2 := Lib.hid (show nxt za zb x k accB (T.drop (j + 1)) = nxt za zb x k [] T by rw [← HST.out accB]; exact NX.out)
                  have HL2 := Lib.hid (show (accB).length ≤ 2 * (j + 1) by have := HLB.out; simp; omega)
                  go_wp2_with fail
                  go_roundw
                  case rel => exact ⟨j + 1, _, by omega, by go_num, ACC, DJ, TT, NX2, HL2, HBq⟩
                  case measure => simp [intOf]; omega
              · have hai : ¬ (m : Int) < (na : Int) := by omega
                have HST := Lib.hid (show ∀ acc, stA za x acc (m : Int) = acc from fun acc => stA_out (by have := HNA.out; omega))
                have NX2 := Lib.hid (show nxt za zb x k accB (T.drop (j + 1)) = nxt za zb x k [] T by rw [← HST.out accB]; exact NX.out)
                have HL2 := Lib.hid (show (accB).length ≤ 2 * (j + 1) by have := HLB.out; simp; omega)
                go_wp2_with fail
                go_roundw
                case rel => exact ⟨j + 1, _, by omega, by go_num, ACC, DJ, TT, NX2, HL2, HBq⟩
                case measure => simp [intOf]; omega
          · have jt : ¬ (j : Int) < (nt : Int) := by omega
            have hN := Lib.hid (show acc = nxt za zb x k [] T by
              have := NX0.out
              have h2 := HNT.out
              rw [List.drop_of_length_le (by omega)] at this
              exact this)
            have HI := Lib.hid (show IsInv ws za zb (k + 1) acc by rw [hN.out, HXE.out]; exact isInv_next hinv.out (by have := HN.out; omega))
            obtain ⟨A8, c8, rfl, hr8, _, _⟩ := own_rdc ACC.out
            by_cases h0 : acc = []
            · subst h0
              have hv := Lib.hid (show v = false by rw [HV.out]; exact isInv_no HI.out)
              clear hr8
              go_wp2_with fail
              go_ret
              exact ⟨ret_bool hv.out.symm, HBq.out⟩
            · have hp : 0 < acc.length := by cases acc with | nil => exact absurd rfl h0 | cons _ _ => simp
              have HNE2 := Lib.hid h0
              have hz0 : ((acc.length : Int) == 0) = false := by simp; omega
              clear hr8 h0
              go_wp2_with fail
              go_roundw
              case rel => exact ⟨k + 1, acc, T, by omega, by go_num, ACC, TT, DJ.out.symm, HI, HNE2, HBq⟩
              case measure => simp [intOf]; omega
      · have k1 : ¬ (k : Int) < (n : Int) := by omega
        have hv := Lib.hid (show v = true by
          have h2 := HN.out
          obtain rfl : k = ws.length := by omega
          rw [HV.out]; exact isInv_end hinv.out (by have := HNA.out; have := HNB.out; have := HNE.out; omega) hne.out)
        go_wp2_with fail
        go_ret
        exact ⟨ret_bool hv.out.symm, hnx.out⟩
  · have hr := Lib.hid (isSh_no (w := ws) (a := za) (b := zb) (by omega))
    have hneq : ((n : Int) != (na : Int) + (nb : Int)) = true := by simp; omega
    rw [hr.out]
    clear hx ha hb hn hna hnb hne
    go_enter Try.func33, Try.ntmps33
    go_wp2_with fail
    go_ret
    exact ⟨rfl, Below.refl _ _⟩
end Go.Proofs.Ytdccmebkoibkhaa
