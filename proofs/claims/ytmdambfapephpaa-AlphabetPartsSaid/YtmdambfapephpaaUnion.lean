/- Contracts of the two Unions: both hand back, in new memory, the merged list. -/
import Derived.Test.YtmdambfapephpaaOpen
import Derived.Deep.QuietTactic
import Derived.BigQuiet
import Derived.OwnWalk
namespace Go.Proofs.Ytmdambfapephpaa
open Go.RowKit

/-- Two lists merged: what stands at the head of both is taken once. -/
def un : List Int → List Int → List Int
  | [], ys => ys
  | x :: xs, [] => x :: xs
  | x :: xs, y :: ys => if x < y then x :: un xs (y :: ys) else if y < x then y :: un (x :: xs) ys else x :: un xs ys
termination_by xs ys => xs.length + ys.length
theorem un_nil (xs : List Int) : un xs [] = xs := by cases xs <;> rw [un]
theorem nil_un (ys : List Int) : un [] ys = ys := by rw [un]
theorem un_lt {x y : Int} {xs ys : List Int} (h : x < y) : un (x :: xs) (y :: ys) = x :: un xs (y :: ys) := by rw [un, if_pos h]
theorem un_gt {x y : Int} {xs ys : List Int} (h : y < x) : un (x :: xs) (y :: ys) = y :: un (x :: xs) ys := by rw [un, if_neg (by omega), if_pos h]
theorem un_eq {x y : Int} {xs ys : List Int} (h : x = y) : un (x :: xs) (y :: ys) = x :: un xs ys := by rw [un, if_neg (by omega), if_neg (by omega)]
theorem un_len : ∀ (xs ys : List Int), (un xs ys).length ≤ xs.length + ys.length
  | [], ys => by rw [un]; omega
  | x :: xs, [] => by rw [un]; simp
  | x :: xs, y :: ys => by
    rw [un]
    have h1 := un_len xs (y :: ys)
    have h2 := un_len (x :: xs) ys
    have h3 := un_len xs ys
    simp only [List.length_cons] at *
    split
    · simp only [List.length_cons]; omega
    · split
      · simp only [List.length_cons]; omega
      · simp only [List.length_cons]; omega
termination_by xs ys => xs.length + ys.length

/-- What 'without' makes of a list. -/
def wo (zs : List Int) (x : Int) : List Int := match zs with | [] => [] | z :: r => if z = x then r else z :: r

theorem wo_eq {z x : Int} {r : List Int} (h : z = x) : wo (z :: r) x = r := by rw [wo, if_pos h]
theorem wo_ne {z x : Int} {r : List Int} (h : z ≠ x) : wo (z :: r) x = z :: r := by rw [wo, if_neg h]
theorem rd_tail {w : World} {B b o : Nat} {z : Int} {r : List Int} (h : RdI w B (some ⟨b, o, none⟩) (z :: r)) : RdI w B (some ⟨b, o + 1, none⟩) r := fun h0 => by
  obtain ⟨b', o', e, hb, hc⟩ := h (by simp)
  cases e
  refine ⟨b, o + 1, rfl, hb, fun j hj => ?_⟩
  have := hc (j + 1) (by simp; omega)
  rw [show o + 1 + j = o + (j + 1) from by omega, this]
  simp

set_option maxHeartbeats 800000 in
theorem without_any (A : Option Addr) (n c B : Nat) (z : Int) (r : List Int) (x : Int) (w : World) (hx : RdI w B A (z :: r)) (hn : r.length + 1 = n) (hc : n ≤ c) (hb : c ≤ 9223372036854775807) :
    Calls Try.prog 47 #[.slice A n c, .int .i64 x] w fun e w' => (∃ A' n' c', e = .returned (.slice A' n' c') ∧ RdI w B A' (wo (z :: r) x) ∧ (wo (z :: r) x).length = n' ∧ n' ≤ c' ∧ c' ≤ 9223372036854775807) ∧ w = w' := by
  have hx0 := hx
  obtain ⟨b, o, rfl, hbB, hcell⟩ := hx (by simp)
  have h0 : w.cell? ⟨b, o, none⟩ = some (.int .i64 z) := by simpa using hcell 0 (by simp)
  have HX := Lib.hid hx0
  have HN := Lib.hid hn
  have hn1 : 1 ≤ n := by omega
  clear hcell hx hx0 hn
  by_cases hzx : z = x
  · have hb1 : (z == x) = true := by simpa using hzx
    have hw := Lib.hid (show wo (z :: r) x = r by rw [wo, if_pos hzx])
    clear hzx
    have hT := Lib.hid (rd_tail HX.out)
    have hk : r.length = n - 1 := by have := HN.out; omega
    have HKL := Lib.hid hk
    clear hk
    rw [hw.out]
    by_cases hc1 : c = 1
    · have hr : r = [] := by have := HKL.out; have : r.length = 0 := by omega
                             exact List.eq_nil_of_length_eq_zero this
      have HR := Lib.hid hr
      obtain rfl : n = 1 := by omega
      subst hc1
      clear hr
      go_enter Try.func47, Try.ntmps47
      go_wp2
      go_ret
      exact ⟨⟨_, _, _, rfl, by rw [HR.out]; exact RdI.nil _ _ _, by rw [HR.out]; rfl, by omega, by omega⟩, rfl⟩
    · have hc2 : ¬ c = 1 := hc1
      go_enter Try.func47, Try.ntmps47
      go_wp2
      go_ret
      exact ⟨⟨_, _, _, rfl, hT.out, HKL.out, by omega, by omega⟩, rfl⟩
  · have hb1 : (z == x) = false := by simpa using hzx
    have hw := Lib.hid (show wo (z :: r) x = z :: r by rw [wo, if_neg hzx])
    clear hzx
    rw [hw.out]
    go_enter Try.func47, Try.ntmps47
    go_wp2
    go_ret
    exact ⟨⟨_, _, _, rfl, HX.out, HN.out, hc, hb⟩, rfl⟩

theorem own_dr {w : World} {base n : Nat} {e : TypeId} {sz : Nat} {v : Value} {xs : List Value} (h : w.ownsRow base e sz v n xs) (q : Nat) : (w.drewN q).ownsRow base e sz v n xs := h
theorem RdI.dr {w : World} {B : Nat} {A : Option Addr} {zs : List Int} (h : RdI w B A zs) (q : Nat) : RdI (w.drewN q) B A zs := h

/-- An append of a slice that reads as a list, nil and empty let in. -/
theorem run_app_rd {w : World} {base : Nat} {v : Value} {n : Nat} {xs : List Int} (hown : w.ownsRow base 3 1 v n (xs.map (Value.int .i64))) {B : Nat} {A : Option Addr} {m c : Nat} {zs : List Int} (hr : RdI w B A zs) (hm : zs.length = m)
    (h63 : n + m ≤ maxLen) (hbytes : (n + m) * 8 ≤ 140737488355328) (hbase : base ≤ w.heap.size) (ty : TypeId) :
    ∃ v' w', (Builtin.append_ #[37, 37] ty #[v, .slice A m c]).run Try.prog w = .ok v' w' ∧ w'.ownsRow base 3 1 v' (n + m) ((xs ++ zs).map (Value.int .i64)) ∧ w.grownBy w' v.ownBlock := by
  obtain ⟨i0, hi, hz0, hz1, hz2⟩ := info_parts info_int
  rcases A with _ | ad
  · have hz : zs = [] := by
      rcases Nat.eq_zero_or_pos zs.length with h | h
      · exact List.eq_nil_of_length_eq_zero h
      · obtain ⟨b, o, e, _⟩ := hr h; cases e
    subst hz
    obtain rfl : m = 0 := hm.symm
    refine ⟨v, w, ?_, by simpa using hown, World.grownBy.refl w _⟩
    have ht := Try.underlying37
    rcases hown.2 with ⟨rfl, rfl⟩ | ⟨g, cap, cur, rfl, _, _, hnc, _⟩
    · simp [Builtin.append_, run_underlying ht, sizeOf, typeInfo, hi, Builtin.lenOf, Builtin.firstCells]
    · simp [Builtin.append_, run_underlying ht, sizeOf, typeInfo, hi, Builtin.lenOf, Builtin.firstCells, hnc, storeCells]
  · have hnews : ∀ j u, (zs.map (Value.int .i64))[j]? = some u → w.cell? (ad.add j) = some u := fun j u hu => by
      have hj : j < zs.length := by simpa using (List.getElem?_eq_some_iff.1 hu).1
      obtain ⟨b, o, e, hb, hc⟩ := hr (by omega)
      cases e
      rw [show ((⟨b, o, none⟩ : Addr).add j) = ⟨b, o + j, none⟩ from by unfold Addr.add; split <;> simp_all, hc j hj]
      rw [List.getElem?_map, List.getElem?_eq_getElem hj] at hu
      simp only [Option.map_some, Option.some.injEq] at hu
      rw [← hu]; simp [List.getD, List.getElem?_eq_getElem hj]
    obtain ⟨v', w', hrun, h2, h3, _⟩ := run_append_own (P := Try.prog) w base 37 ty 3 i0 (.int .i64 0) 1 8 Try.underlying37 hi hz0 hz1 hz2 rfl (by decide) v n _ hown ad m c (zs.map (Value.int .i64)) (by simpa using hm) hnews
      (fun u hu => by obtain ⟨x, _, rfl⟩ := List.mem_map.1 hu; rfl) h63 hbytes hbase
    exact ⟨v', w', hrun, by rw [List.map_append]; exact h2, h3⟩
theorem wpList_app_rd {w : World} {ops : Array Oper} {rest : List Oper} {o : Oper} {a : Act} {Q : Exit → Act → World → Prop} (hgd : o.guard = none) (s x : Operand)
    (ho : o.op = .call { callee := .builtin .append, args := #[s, x], argTypes := #[37, 37] }) (base : Nat) (v : Value) (n : Nat) (xs : List Int) (hs : a.eval s = v) (hown : w.ownsRow base 3 1 v n (xs.map (Value.int .i64)))
    (B : Nat) (A : Option Addr) (m c : Nat) (zs : List Int) (hx : a.eval x = .slice A m c) (hr : RdI w B A zs) (hm : zs.length = m) (h63 : n + m ≤ maxLen) (hbytes : (n + m) * 8 ≤ 140737488355328) (hbase : base ≤ w.heap.size)
    (h : ∀ v' w', w'.ownsRow base 3 1 v' (n + m) ((xs ++ zs).map (Value.int .i64)) → w.grownBy w' v.ownBlock → wpList Try.prog ops Q rest (a.put o.dst v') w') : wpList Try.prog ops Q (o :: rest) a w := by
  refine wpList_plain hgd fun K hK => ?_
  obtain ⟨v', w', hrun, h2, h3⟩ := run_app_rd hown hr hm h63 hbytes hbase o.type (c := c)
  unfold Oper.wp execOp
  simp only [ho, resolve, invoke, builtin, Sem.run_bind, Sem.run_pure, Result.andThen_ok, List.map_toArray, List.map_cons, List.map_nil, hs, hx, hrun]
  exact hK _ _ (h v' w' h2 h3)

theorem below_gr {B n : Nat} {wr w1 : World} {v : Value} {xs : List Value} (hown : wr.ownsRow B 3 1 v n xs) (hg : wr.grownBy w1 v.ownBlock) (hB : B ≤ wr.heap.size) : Below B wr w1 :=
  (Below.refl _ _).grown hg hB (fun k hk => (hown.lt k hk).1)
/-- What a function hands back that makes a list of ints in new memory, the capacity told. -/
def GivesC (w : World) (zs : List Int) (e : Ending) (w' : World) : Prop := ∃ A c, e = .returned (.slice A zs.length c) ∧ RdI w' w'.heap.size A zs ∧ Below w.heap.size w w' ∧ zs.length ≤ c ∧ c ≤ 9223372036854775807
theorem own_rdc {w : World} {base : Nat} {v : Value} {zs : List Int} (h : Own w base v zs) : ∃ A c, v = .slice A zs.length c ∧ RdI w w.heap.size A zs ∧ zs.length ≤ c ∧ c ≤ 9223372036854775807 := by
  obtain ⟨A, c, e, hr⟩ := own_rd h
  refine ⟨A, c, e, hr, ?_⟩
  rcases h.2 with ⟨rfl, h0⟩ | ⟨g, cap, cur, rfl, hg, hh, hn, hcap, hsz, htake⟩
  · injection e with _ e1 e2; omega
  · injection e with _ e1 e2; unfold maxLen at hcap; omega
theorem un_fin {w : World} {B : Nat} {v : Value} {pre xs ys zs : List Int} {n m : Nat} (h : w.ownsRow B 3 1 v (pre.length + n + m) ((pre ++ xs ++ ys).map (Value.int .i64))) (hn : xs.length = n) (hm : ys.length = m) (hz : zs = pre ++ xs ++ ys) : ∃ A c, v = .slice A zs.length c ∧ RdI w w.heap.size A zs ∧ zs.length ≤ c ∧ c ≤ 9223372036854775807 := by
  subst hz
  refine own_rdc (base := B) ?_
  unfold Own
  rw [show (pre ++ xs ++ ys).length = pre.length + n + m from by simp [hn, hm]; omega]
  exact h

set_option maxHeartbeats 3200000 in
theorem aUnion_any (A C : Option Addr) (n c m d : Nat) (xs ys : List Int) (w : World) (hx : RdI w w.heap.size A xs) (hy : RdI w w.heap.size C ys) (hn : xs.length = n) (hm : ys.length = m) (hnc : n ≤ c) (hmd : m ≤ d) (hb : n * 16 ≤ 140737488351232) (hb' : m * 16 ≤ 140737488351232) (hcb : c ≤ 9223372036854775807) (hdb : d ≤ 9223372036854775807) :
    Calls Try.prog 26 #[.slice A n c, .slice C m d] w fun e w' => GivesC w (un xs ys) e w' := by
  obtain ⟨i0, hi, hz0, hz1, hz2⟩ := info_parts info_int
  obtain ⟨B, hB⟩ : ∃ B, B = w.heap.size := ⟨_, rfl⟩
  rw [← hB] at hx hy
  have HB := Lib.hid hB
  have hBw : B ≤ w.heap.size := by omega
  have hBw' : w.heap.size ≤ B := by omega
  have HX := Lib.hid hx
  have HY := Lib.hid hy
  have HN := Lib.hid hn
  have HM := Lib.hid hm
  clear hB hx hy hn hm
  go_enter Try.func26, Try.ntmps26
  go_wp2_with (at_make; refine wpList_make_own _ rfl _ _ 37 rfl B 3 i0 (.int .i64 0) 1 Try.underlying37 hi hz0 hz1 .i64 .i64 _ (n + m) rfl rfl ?c1 ?c2 ?c3 ?c4 ?_)
  case c1 => omega
  case c2 => rw [hz2]; omega
  case c3 => unfold maxLen; omega
  case c4 => omega
  intro w0 hown0 hgrow0
  have hb0 : Below B w w0 := (Below.refl _ _).grown hgrow0 hBw (fun k hk => by cases hk)
  have HO := Lib.hid hown0
  clear hown0 hgrow0
  go_wp2
  go_loopw [0, 1, 5] (fun sa sb v wr => ∃ A1 n1 c1 A2 n2 c2 xs1 ys1 pre, sa = .slice A1 n1 c1 ∧ sb = .slice A2 n2 c2 ∧ n1 ≤ c1 ∧ n2 ≤ c2 ∧ c1 ≤ 9223372036854775807 ∧ c2 ≤ 9223372036854775807 ∧ Hid (RdI w B A1 xs1) ∧ Hid (RdI w B A2 ys1) ∧ Hid (xs1.length = n1) ∧ Hid (ys1.length = n2) ∧
      Hid (Own wr B v pre) ∧ Hid (un xs ys = pre ++ un xs1 ys1) ∧ Hid (pre.length + n1 + n2 ≤ n + m) ∧ Below B w wr) (fun sa sb _ _ => (match sa with | .slice _ k _ => k | _ => 0) + (match sb with | .slice _ k _ => k | _ => 0))
  case atStart => exact ⟨A, n, c, C, m, d, xs, ys, [], rfl, rfl, hnc, hmd, hcb, hdb, HX, HY, HN, HM, HO, rfl, by show (0 + n + m ≤ n + m); omega, hb0⟩
  case round =>
    obtain ⟨A1, n1, c1, A2, n2, c2, xs1, ys1, pre, rfl, rfl, hc1, hc2, hcc1, hcc2, hr1, hr2, hl1, hl2, hown, hun, hlen, hnx⟩ := hrel
    by_cases h1 : 0 < n1
    · by_cases h2 : 0 < n2
      · obtain ⟨x, xr, rfl⟩ : ∃ x xr, xs1 = x :: xr := by
          cases xs1 with
          | nil => have := hl1.out; simp at this; omega
          | cons a r => exact ⟨a, r, rfl⟩
        obtain ⟨y, yr, rfl⟩ : ∃ y yr, ys1 = y :: yr := by
          cases ys1 with
          | nil => have := hl2.out; simp at this; omega
          | cons a r => exact ⟨a, r, rfl⟩
        obtain ⟨b1, o1, rfl, hbB1, hcx⟩ := hr1.out (by simp)
        obtain ⟨b2, o2, rfl, hbB2, hcy⟩ := hr2.out (by simp)
        have hx0 : wr.cell? ⟨b1, o1, none⟩ = some (.int .i64 x) := (hnx.cell hbB1).trans (by simpa using hcx 0 (by simp))
        have hy0 : wr.cell? ⟨b2, o2, none⟩ = some (.int .i64 y) := (hnx.cell hbB2).trans (by simpa using hcy 0 (by simp))
        clear hcx hcy
        rcases Int.lt_trichotomy x y with hxy | hxy | hxy
        · have hW1 := Lib.hid (show wo (x :: xr) x = xr from wo_eq rfl)
          have hW2 := Lib.hid (show wo (y :: yr) x = y :: yr from wo_ne (by omega))
          have hU := Lib.hid (show un (x :: xr) (y :: yr) = x :: un xr (y :: yr) from un_lt hxy)
          go_wp2
          go_quiet (fail)
          have hownd := Lib.hid (own_dr hown.out nq)
          have hnxd : Below B w (wr.drewN nq) := below_drewN hnx nq
          go_wp2_with (at_builtin; refine wpList_append_own _ rfl _ _ 37 rfl B 3 i0 (.int .i64 0) 1 8 Try.underlying37 hi hz0 hz1 hz2 rfl (by decide) _ _ _ rfl (hownd.out.alloc _) ⟨wr.heap.size, 0, none⟩ 1 1 [.int .i64 x] rfl rfl ?c1 ?c2 ?c3 ?c4 ?c5 ?_)
          case c1 => exact own_one
          case c2 => intro u hu; simp at hu; subst hu; rfl
          case c3 => have := hlen.out; unfold maxLen; omega
          case c4 => have := hlen.out; omega
          case c5 => have := hnx.size; simp; omega
          intro v' w1 hown' hgrow _
          have R := own_app (K' := pre ++ [x]) rfl hnxd hownd.out hown' hgrow hBw
          have R1 := Lib.hid R.1
          have R2 := R.2
          clear R hown' hgrow hownd hnxd hown hx0 hy0
          go_wp2_with fail
          refine (without_any (some ⟨b1, o1, none⟩) n1 c1 B x xr x w1 (hr1.out.below R2 (Nat.le_refl _)) hl1.out hc1 hcc1).mono ?_
          rw [hW1.out]
          rintro e w' ⟨⟨A3, n3, c3, rfl, hr3, hl3, hc3, hcc3⟩, rfl⟩
          have HR3 := Lib.hid (hr3.keep fun b o hb => (R2.cell (p := ⟨b, o, none⟩) hb).symm)
          have HL3 := Lib.hid hl3
          clear hr3 hl3
          go_wp2_with fail
          refine (without_any (some ⟨b2, o2, none⟩) n2 c2 B y yr x w1 (hr2.out.below R2 (Nat.le_refl _)) hl2.out hc2 hcc2).mono ?_
          rw [hW2.out]
          rintro e w' ⟨⟨A4, n4, c4, rfl, hr4, hl4, hc4, hcc4⟩, rfl⟩
          have HR4 := Lib.hid (hr4.keep fun b o hb => (R2.cell (p := ⟨b, o, none⟩) hb).symm)
          have HL4 := Lib.hid hl4
          clear hr4 hl4
          have hun' := Lib.hid (show un xs ys = (pre ++ [x]) ++ un xr (y :: yr) by rw [hun.out, hU.out]; simp)
          have e3 := HL3.out
          have e4 := HL4.out
          have e1 := hl1.out
          have e2 := hl2.out
          simp only [List.length_cons] at e1 e2 e3 e4
          have hlen' := Lib.hid (show (pre ++ [x]).length + n3 + n4 ≤ n + m by have := hlen.out; simp; omega)
          have hms : n3 + n4 < n1 + n2 := by omega
          clear e1 e2 e3 e4
          go_wp2
          go_roundw
          case rel => exact ⟨A3, n3, c3, A4, n4, c4, _, _, _, rfl, rfl, hc3, hc4, hcc3, hcc4, HR3, HR4, HL3, HL4, R1, hun', hlen', R2⟩
          case measure => exact hms
        · subst hxy
          have hW1 := Lib.hid (show wo (x :: xr) x = xr from wo_eq rfl)
          have hW2 := Lib.hid (show wo (x :: yr) x = yr from wo_eq rfl)
          have hU := Lib.hid (show un (x :: xr) (x :: yr) = x :: un xr yr from un_eq rfl)
          go_wp2
          go_quiet (fail)
          have hownd := Lib.hid (own_dr hown.out nq)
          have hnxd : Below B w (wr.drewN nq) := below_drewN hnx nq
          go_wp2_with (at_builtin; refine wpList_append_own _ rfl _ _ 37 rfl B 3 i0 (.int .i64 0) 1 8 Try.underlying37 hi hz0 hz1 hz2 rfl (by decide) _ _ _ rfl (hownd.out.alloc _) ⟨wr.heap.size, 0, none⟩ 1 1 [.int .i64 x] rfl rfl ?c1 ?c2 ?c3 ?c4 ?c5 ?_)
          case c1 => exact own_one
          case c2 => intro u hu; simp at hu; subst hu; rfl
          case c3 => have := hlen.out; unfold maxLen; omega
          case c4 => have := hlen.out; omega
          case c5 => have := hnx.size; simp; omega
          intro v' w1 hown' hgrow _
          have R := own_app (K' := pre ++ [x]) rfl hnxd hownd.out hown' hgrow hBw
          have R1 := Lib.hid R.1
          have R2 := R.2
          clear R hown' hgrow hownd hnxd hown hx0 hy0
          go_wp2_with fail
          refine (without_any (some ⟨b1, o1, none⟩) n1 c1 B x xr x w1 (hr1.out.below R2 (Nat.le_refl _)) hl1.out hc1 hcc1).mono ?_
          rw [hW1.out]
          rintro e w' ⟨⟨A3, n3, c3, rfl, hr3, hl3, hc3, hcc3⟩, rfl⟩
          have HR3 := Lib.hid (hr3.keep fun b o hb => (R2.cell (p := ⟨b, o, none⟩) hb).symm)
          have HL3 := Lib.hid hl3
          clear hr3 hl3
          go_wp2_with fail
          refine (without_any (some ⟨b2, o2, none⟩) n2 c2 B x yr x w1 (hr2.out.below R2 (Nat.le_refl _)) hl2.out hc2 hcc2).mono ?_
          rw [hW2.out]
          rintro e w' ⟨⟨A4, n4, c4, rfl, hr4, hl4, hc4, hcc4⟩, rfl⟩
          have HR4 := Lib.hid (hr4.keep fun b o hb => (R2.cell (p := ⟨b, o, none⟩) hb).symm)
          have HL4 := Lib.hid hl4
          clear hr4 hl4
          have hun' := Lib.hid (show un xs ys = (pre ++ [x]) ++ un xr yr by rw [hun.out, hU.out]; simp)
          have e3 := HL3.out
          have e4 := HL4.out
          have e1 := hl1.out
          have e2 := hl2.out
          simp only [List.length_cons] at e1 e2 e3 e4
          have hlen' := Lib.hid (show (pre ++ [x]).length + n3 + n4 ≤ n + m by have := hlen.out; simp; omega)
          have hms : n3 + n4 < n1 + n2 := by omega
          clear e1 e2 e3 e4
          go_wp2
          go_roundw
          case rel => exact ⟨A3, n3, c3, A4, n4, c4, _, _, _, rfl, rfl, hc3, hc4, hcc3, hcc4, HR3, HR4, HL3, HL4, R1, hun', hlen', R2⟩
          case measure => exact hms
        · have hW1 := Lib.hid (show wo (x :: xr) y = x :: xr from wo_ne (by omega))
          have hW2 := Lib.hid (show wo (y :: yr) y = yr from wo_eq rfl)
          have hU := Lib.hid (show un (x :: xr) (y :: yr) = y :: un (x :: xr) yr from un_gt hxy)
          go_wp2
          go_quiet (fail)
          have hownd := Lib.hid (own_dr hown.out nq)
          have hnxd : Below B w (wr.drewN nq) := below_drewN hnx nq
          go_wp2_with (at_builtin; refine wpList_append_own _ rfl _ _ 37 rfl B 3 i0 (.int .i64 0) 1 8 Try.underlying37 hi hz0 hz1 hz2 rfl (by decide) _ _ _ rfl (hownd.out.alloc _) ⟨wr.heap.size, 0, none⟩ 1 1 [.int .i64 y] rfl rfl ?c1 ?c2 ?c3 ?c4 ?c5 ?_)
          case c1 => exact own_one
          case c2 => intro u hu; simp at hu; subst hu; rfl
          case c3 => have := hlen.out; unfold maxLen; omega
          case c4 => have := hlen.out; omega
          case c5 => have := hnx.size; simp; omega
          intro v' w1 hown' hgrow _
          have R := own_app (K' := pre ++ [y]) rfl hnxd hownd.out hown' hgrow hBw
          have R1 := Lib.hid R.1
          have R2 := R.2
          clear R hown' hgrow hownd hnxd hown hx0 hy0
          go_wp2_with fail
          refine (without_any (some ⟨b1, o1, none⟩) n1 c1 B x xr y w1 (hr1.out.below R2 (Nat.le_refl _)) hl1.out hc1 hcc1).mono ?_
          rw [hW1.out]
          rintro e w' ⟨⟨A3, n3, c3, rfl, hr3, hl3, hc3, hcc3⟩, rfl⟩
          have HR3 := Lib.hid (hr3.keep fun b o hb => (R2.cell (p := ⟨b, o, none⟩) hb).symm)
          have HL3 := Lib.hid hl3
          clear hr3 hl3
          go_wp2_with fail
          refine (without_any (some ⟨b2, o2, none⟩) n2 c2 B y yr y w1 (hr2.out.below R2 (Nat.le_refl _)) hl2.out hc2 hcc2).mono ?_
          rw [hW2.out]
          rintro e w' ⟨⟨A4, n4, c4, rfl, hr4, hl4, hc4, hcc4⟩, rfl⟩
          have HR4 := Lib.hid (hr4.keep fun b o hb => (R2.cell (p := ⟨b, o, none⟩) hb).symm)
          have HL4 := Lib.hid hl4
          clear hr4 hl4
          have hun' := Lib.hid (show un xs ys = (pre ++ [y]) ++ un (x :: xr) yr by rw [hun.out, hU.out]; simp)
          have e3 := HL3.out
          have e4 := HL4.out
          have e1 := hl1.out
          have e2 := hl2.out
          simp only [List.length_cons] at e1 e2 e3 e4
          have hlen' := Lib.hid (show (pre ++ [y]).length + n3 + n4 ≤ n + m by have := hlen.out; simp; omega)
          have hms : n3 + n4 < n1 + n2 := by omega
          clear e1 e2 e3 e4
          go_wp2
          go_roundw
          case rel => exact ⟨A3, n3, c3, A4, n4, c4, _, _, _, rfl, rfl, hc3, hc4, hcc3, hcc4, HR3, HR4, HL3, HL4, R1, hun', hlen', R2⟩
          case measure => exact hms
      · have hz : ys1 = [] := List.eq_nil_of_length_eq_zero (by have := hl2.out; omega)
        have hp := Lib.hid (show un xs ys = pre ++ xs1 ++ ys1 by rw [hun.out, hz, un_nil]; simp)
        clear hz
        have hr1w := Lib.hid (hr1.out.below hnx (Nat.le_refl _))
        have hr2w := Lib.hid (hr2.out.below hnx (Nat.le_refl _))
        have hnz := hnx.size
        have hl3 : pre.length + n1 + n2 ≤ n + m := hlen.out
        go_wp2_with (first
          | (at_builtin; refine wpList_app_rd rfl (.tmp 38) (.tmp 39) rfl B _ pre.length pre rfl hown.out B A1 n1 c1 xs1 rfl hr1w.out hl1.out (by unfold maxLen; omega) (by omega) (by omega) ?_; intro v1 w1 ho1 hg1; have hb1 := below_gr hown.out hg1 (by omega); have hz1 := hb1.size; have ho1' := Lib.hid ho1; clear ho1 hg1)
          | (at_builtin; refine wpList_app_rd rfl (.tmp 40) (.tmp 41) rfl B _ (pre.length + n1) (pre ++ xs1) rfl ho1'.out B A2 n2 c2 ys1 rfl (hr2w.out.below hb1 (Nat.le_refl _)) hl2.out (by unfold maxLen; omega) (by omega) (by omega) ?_; intro v2 w2 ho2 hg2; have hb2 := below_gr ho1'.out hg2 (by omega); have ho2' := Lib.hid ho2; clear ho2 hg2))
        have hfin := Lib.hid (un_fin ho2'.out hl1.out hl2.out hp.out)
        have hnx' : Below w.heap.size w w2 := by rw [← HB.out]; exact (hnx.trans (hb1.mono (Nat.le_refl _))).trans (hb2.mono (Nat.le_refl _))
        clear ho2' ho1'
        go_ret
        obtain ⟨A', c', e', hr, hcap1, hcap2⟩ := hfin.out
        exact ⟨A', c', by rw [← e']; rfl, hr, hnx', hcap1, hcap2⟩
    · have hz : xs1 = [] := List.eq_nil_of_length_eq_zero (by have := hl1.out; omega)
      have hp := Lib.hid (show un xs ys = pre ++ xs1 ++ ys1 by rw [hun.out, hz, nil_un]; simp)
      clear hz
      have hr1w := Lib.hid (hr1.out.below hnx (Nat.le_refl _))
      have hr2w := Lib.hid (hr2.out.below hnx (Nat.le_refl _))
      have hnz := hnx.size
      have hl3 : pre.length + n1 + n2 ≤ n + m := hlen.out
      go_wp2_with (first
        | (at_builtin; refine wpList_app_rd rfl (.tmp 38) (.tmp 39) rfl B _ pre.length pre rfl hown.out B A1 n1 c1 xs1 rfl hr1w.out hl1.out (by unfold maxLen; omega) (by omega) (by omega) ?_; intro v1 w1 ho1 hg1; have hb1 := below_gr hown.out hg1 (by omega); have hz1 := hb1.size; have ho1' := Lib.hid ho1; clear ho1 hg1)
        | (at_builtin; refine wpList_app_rd rfl (.tmp 40) (.tmp 41) rfl B _ (pre.length + n1) (pre ++ xs1) rfl ho1'.out B A2 n2 c2 ys1 rfl (hr2w.out.below hb1 (Nat.le_refl _)) hl2.out (by unfold maxLen; omega) (by omega) (by omega) ?_; intro v2 w2 ho2 hg2; have hb2 := below_gr ho1'.out hg2 (by omega); have ho2' := Lib.hid ho2; clear ho2 hg2))
      have hfin := Lib.hid (un_fin ho2'.out hl1.out hl2.out hp.out)
      have hnx' : Below w.heap.size w w2 := by rw [← HB.out]; exact (hnx.trans (hb1.mono (Nat.le_refl _))).trans (hb2.mono (Nat.le_refl _))
      clear ho2' ho1'
      go_ret
      obtain ⟨A', c', e', hr, hcap1, hcap2⟩ := hfin.out
      exact ⟨A', c', by rw [← e']; rfl, hr, hnx', hcap1, hcap2⟩
end Go.Proofs.Ytmdambfapephpaa
