/- Layer 3: Words of the reference. -/
import Derived.Test.YtcciiikaejjooaaZaWrM
import Derived.Test.YtcciiikaejjooaaZa8
import Derived.Test.YtcciiikaejjooaaZa5
import Derived.Deep.RegionHeld3
import Derived.Deep.CutRange
namespace Go.Proofs.Ytcciiikaejjooaa
open Go.RowKit Go.Sort

/-- At a step of a region that draws its order: an append of a slice that reads as a list, nil and empty let in. -/
theorem step_app_rd {ops : Array Oper} {o : Oper} {a : Act} {w : World} {K : Act → World → Prop} {Q : Exit → Act → World → Prop} {E : Prop} (hgd : o.guard = none) (s x : Operand)
    (ho : o.op = .call { callee := .builtin .append, args := #[s, x], argTypes := #[22, 22] })
    (base : Nat) (v : Value) (n : Nat) (xs : List Int) (hs : a.eval s = v) (hown : w.ownsRow base 3 1 v n (xs.map (Value.int .i64)))
    (B : Nat) (A : Option Addr) (m c : Nat) (zs : List Int) (hx : a.eval x = .slice A m c) (hr : RdI w B A zs) (hm : zs.length = m) (h63 : n + m ≤ maxLen) (hbytes : (n + m) * 8 ≤ 140737488355328) (hbase : base ≤ w.heap.size)
    (h : ∀ v' w', w'.ownsRow base 3 1 v' (n + m) ((xs ++ zs).map (Value.int .i64)) → w.grownBy w' v.ownBlock → K (a.put o.dst v') w') :
    if Region.wanted o (yielded ops a.tmps) = true then Oper.wp Try.prog o a w K Q else E := by
  have hw : Region.wanted o (yielded ops a.tmps) = true := by simp [Region.wanted, hgd]
  rw [if_pos hw]
  obtain ⟨v', w', hrun, h2, h3⟩ := run_app_rd hown hr hm h63 hbytes hbase o.type (c := c)
  unfold Oper.wp execOp
  simp only [ho, resolve, invoke, builtin, Sem.run_bind, Sem.run_pure, Result.andThen_ok, List.map_toArray, List.map_cons, List.map_nil, hs, hx, hrun]
  exact h v' w' h2 h3

/-- Words of the call's own. -/
structure WL (w : World) (base : Nat) (vw : Value) (hs : List Hd) : Prop where
  row : w.ownsRow base 22 1 vw hs.length (hs.map Hd.enc)
  own : ∀ h ∈ hs, Own w base h.enc h.z
theorem WL.gl {w : World} {base : Nat} {vw : Value} {hs : List Hd} (h : WL w base vw hs) : GL w base vw hs (.slice none 0 0) [] :=
  ⟨h.row, h.own, World.ownsRow_nil _ _ _ _, fun x _ => by
    by_cases he : x.enc.ownBlock = none
    · exact .inl he
    · exact .inr (by simpa [Value.ownBlock] using he)⟩
theorem GL.wl {w : World} {base : Nat} {vw ve : Value} {hs : List Hd} {es : List Int} (h : GL w base vw hs ve es) : WL w base vw hs := ⟨h.row, h.own⟩
theorem WL.below {w w' : World} {base : Nat} {vw : Value} {hs : List Hd} (h : WL w base vw hs) (hb : Below w.heap.size w w') : WL w' base vw hs := (h.gl.below hb).wl
theorem WL.drewN {w : World} {base : Nat} {vw : Value} {hs : List Hd} (h : WL w base vw hs) (q : Nat) : WL (w.drewN q) base vw hs := ⟨h.row, h.own⟩
theorem WL.drew {w : World} {base : Nat} {vw : Value} {hs : List Hd} (h : WL w base vw hs) : WL w.drew base vw hs := ⟨h.row, h.own⟩
theorem WL.alloc {w : World} {base : Nat} {vw : Value} {hs : List Hd} (h : WL w base vw hs) (o : Obj) : WL (w.alloc o) base vw hs := h.below ((Below.refl _ w).alloc (Nat.le_refl _) o)
theorem WL.rd {w : World} {base : Nat} {vw : Value} {hs : List Hd} (h : WL w base vw hs) : ∃ A c, vw = .slice A hs.length c ∧ RdL w w.heap.size A hs ∧ hs.length ≤ c ∧ c ≤ 9223372036854775807 := ownL_rd h.row h.own
/-- What Words of the reference hands back. -/
def RWds (R : List (List Int)) (e : Ending) (w' : World) : Prop := ∃ A c hs, e = .returned (.slice A hs.length c) ∧ hs.map Hd.z = R ∧ RdL w' w'.heap.size A hs ∧ hs.length ≤ c ∧ c ≤ 9223372036854775807 ∧ hs.length ≤ 1024

-- GENERATED
/-- A list of the call's own is handed back. -/
def GivesO (w : World) (zs : List Int) (e : Ending) (w' : World) : Prop := ∃ A c, e = .returned (.slice A zs.length c) ∧ Own w' w.heap.size (.slice A zs.length c) zs ∧ Below w.heap.size w w'
set_option maxHeartbeats 4000000 in
set_option maxRecDepth 100000 in
theorem rEnabled_own (A : Option Addr) (n c : Nat) (s : Int) (M : Option Addr) (m d : Nat) (E : Option Addr) (k g : Nat) (a : Au) (q : Int) (B : Nat) (w : World) (h : AuR w B A n c s M m d E k g a) (hB : B ≤ w.heap.size) (hr : RightW a) :
    Calls Try.prog 35 #[.agg #[.slice A n c, .int .i64 s, .slice M m d, .slice E k g], .int .i64 q] w fun e w' => GivesO w (enI a q) e w' := by
  have HI0 := Lib.hid (IB.made (A := A) (n := n) (c := c) (s := s) (M := M) (m := m) (d := d) (E := E) (k := k) (g := g) w)
  have HR := Lib.hid h
  have HRI := Lib.hid hr
  have HBw := Lib.hid hB
  have hbn := h.bn
  obtain ⟨i0, hi, hz0, hz1, hz2⟩ := info_parts info_int
  clear h hr hB
  obtain ⟨P, hP⟩ : ∃ P : Int → Bool, P = fun ev => (stepO a q ev).isSome := ⟨_, rfl⟩
  have HP := Lib.hid hP
  have hen : enI a q = a.al.filter P := by rw [hP]; rfl
  rw [hen]
  clear hP hen
  go_enter Try.func35, Try.ntmps35
  go_wp2_with fail
  go_loopw [5, 6] (fun v i wr => ∃ t : Nat, t ≤ n ∧ i = .int .i64 t ∧ Hid (Own wr (w.heap.size + 1) v ((a.al.take t).filter P)) ∧ Hid (IB w A n c s M m d E k g wr)) (fun _ i _ => n - (intOf i).toNat)
  case atStart => exact ⟨0, Nat.zero_le _, rfl, World.ownsRow_nil _ _ _ _, HI0⟩
  case round =>
    obtain ⟨t, htn, rfl, hown, hi'⟩ := hrel
    obtain ⟨p0, p1, p2, p3⟩ := hi'.out.bx
    have hsz := hi'.out.lt
    by_cases hlt : t < n
    · obtain ⟨b1, o1, rfl, hb1, hc1⟩ := HR.out.al (by rw [HR.out.hn]; omega)
      have hz : t < a.al.length := by rw [HR.out.hn]; exact hlt
      obtain ⟨x, hx⟩ : ∃ x, x = a.al.getD t 0 := ⟨_, rfl⟩
      have CX := Lib.hid (fun W (hW : Below w.heap.size w W) => by
        have := (hW.cell (p := ⟨b1, o1 + t, none⟩) (Nat.lt_of_lt_of_le hb1 HBw.out)).trans (hc1 t hz)
        rw [← hx] at this; exact this)
      have cx := CX.out wr hi'.out.bel
      obtain ⟨tt, htt⟩ : ∃ tt, tt = stepI a q x := ⟨_, rfl⟩
      obtain ⟨K0, hK0⟩ : ∃ K0, K0 = (a.al.take t).filter P := ⟨_, rfl⟩
      have hll := filter_take_le P a.al t
      rw [← hK0] at hown hll
      have hid := Lib.hid hi'.out.drew
      have howd := Lib.hid (show Own wr.drew (w.heap.size + 1) u5 K0 from hown.out)
      have HS := Lib.hid (fun W (hO : Own W (w.heap.size + 1) u5 K0) (hI : IB w (some ⟨b1, o1, none⟩) n c s M m d E k g W) => (rStep_any (some ⟨b1, o1, none⟩) n c s M m d E k g a q x B W (HR.out.below hI.bel HBw.out) (Nat.le_trans HBw.out hI.bel.size)).mono (R' := fun e w' => e = .returned (.int .i64 tt) ∧ Own w' (w.heap.size + 1) u5 K0 ∧ IB w (some ⟨b1, o1, none⟩) n c s M m d E k g w') fun e w' hh => ⟨by rw [hh.1, htt], own_kept hO hh.2, hI.call hh.2⟩)
      have HTT := Lib.hid htt
      have HXX := Lib.hid hx
      have HK0 := Lib.hid hK0
      have z1 : (t : Int) < (n : Int) := by omega
      have z2 : (0 : Int) ≤ (t : Int) := by omega
      clear hc1 hx htt hK0
      go_wp2_with fail
      go_region_held3 (fun w' => w'.cell? ⟨w.heap.size, 0, none⟩ = some (.slice (some ⟨b1, o1, none⟩) n c) ∧ w'.cell? ⟨w.heap.size, 1, none⟩ = some (.int .i64 s) ∧ w'.cell? ⟨w.heap.size, 2, none⟩ = some (.slice M m d) ∧ w'.cell? ⟨w.heap.size, 3, none⟩ = some (.slice E k g) ∧ w'.cell? ⟨b1, o1 + t, none⟩ = some (.int .i64 x)) (first | with_reducible exact ⟨p0, p1, p2, p3, cx⟩ | go_keep)
        (first
        | (go_simp; go_at_call 37; (first | with_reducible refine (HS.out _ hown.out hi'.out).mono ?_ | with_reducible refine (HS.out _ howd.out hid.out).mono ?_); rintro e w4 ⟨rfl, ho, hg⟩
           have HO := Lib.hid ho
           have HG := Lib.hid hg
           obtain ⟨p0, p1, p2, p3⟩ := hg.bx
           have cx := CX.out _ hg.bel
           clear hg ho))
      all_goals
        have hs4 := HG.out.lt
        cases he : stepO a q x with
        | none =>
          have hto := stepI_neg he
          rw [← HTT.out] at hto
          subst hto
          have hnx := Lib.hid (show (a.al.take (t + 1)).filter P = K0 by rw [filter_take_no hz (by rw [HP.out]; simp only; rw [← HXX.out, he]; rfl), HK0.out])
          clear he
          go_wp2_with fail
          go_roundw
          case rel => exact ⟨t + 1, by omega, by go_num, by rw [hnx.out]; exact HO, HG⟩
          case measure => simp [intOf]; omega
        | some y =>
          have hto := stepI_pos he
          rw [← HTT.out] at hto
          have hy := (step_range HRI.out he).1
          rw [← hto] at hy
          have hnx := Lib.hid (show (a.al.take (t + 1)).filter P = K0 ++ [x] by rw [filter_take_yes hz (by rw [HP.out]; simp only; rw [← HXX.out, he]; rfl), HK0.out, HXX.out])
          clear he hto
          go_wp2_with (at_builtin; refine wpList_append_own _ rfl _ _ 22 rfl (w.heap.size + 1) 3 i0 (.int .i64 0) 1 8 Try.underlying22 hi hz0 hz1 hz2 rfl (by decide) _ _ _ rfl (HO.out.alloc _) ⟨w4.heap.size, 0, none⟩ 1 1 [.int .i64 x] rfl rfl (news_one (by simp)) (by intro u hu; simp at hu; subst hu; rfl) (by unfold maxLen; omega) (by omega) (by simp; omega) ?_)
          intro v5 w5 hown5 hgrow5 _
          have hO5 : Own w5 (w.heap.size + 1) v5 (K0 ++ [x]) := by simpa [Own] using hown5
          have hb5 : Below (w.heap.size + 1) w4 w5 := ((Below.refl _ w4).alloc (by omega) _).grown hgrow5 (by simp; omega) (fun j hj => (HO.out.lt j hj).1)
          have hI5 := Lib.hid (show IB w (some ⟨b1, o1, none⟩) n c s M m d E k g w5 from ⟨HG.out.bel.trans (hb5.mono (by omega)), HG.out.bx.below hb5 (by omega), Nat.lt_of_lt_of_le hs4 hb5.size⟩)
          have HO5 := Lib.hid hO5
          clear hown5 hgrow5 hO5 hb5
          go_wp2_with fail
          go_roundw
          case rel => exact ⟨t + 1, by omega, by go_num, by rw [hnx.out]; exact HO5, hI5⟩
          case measure => simp [intOf]; omega
    · obtain rfl : t = n := by omega
      rw [List.take_of_length_le (by rw [HR.out.hn]; exact Nat.le_refl _)] at hown
      obtain ⟨A', c', rfl, _, _, _⟩ := own_rdc hown.out
      have HO := Lib.hid (own_more hown.out (Nat.le_succ w.heap.size))
      clear hown
      go_wp2_with fail
      go_ret
      exact ⟨A', c', rfl, HO.out, hi'.out.bel⟩

theorem own_cell {w : World} {base N c : Nat} {A : Option Addr} {zs : List Int} (h : Own w base (.slice A N c) zs) {j : Nat} (hj : j < zs.length) : ∃ g, A = some ⟨g, 0, none⟩ ∧ base ≤ g ∧ g < w.heap.size ∧ w.cell? ⟨g, j, none⟩ = some (.int .i64 (zs.getD j 0)) := by
  obtain ⟨g, cap, e, hg, hc, _, _⟩ := own_shape h rfl (by omega)
  injection e with e1 _ _
  subst e1
  exact ⟨g, rfl, (h.lt g rfl).1, hg, hc j hj⟩
theorem WL.ret {w : World} {base N c : Nat} {A : Option Addr} {hs : List Hd} {R : List (List Int)} (h : WL w base (.slice A N c) hs) (hN : hs.length = N) (hR : hs.map Hd.z = R) (hl : N ≤ 1024) : RWds R (.returned (.slice A N c)) w := by
  subst hN
  obtain ⟨A', c', e, h1, h2, h3⟩ := h.rd
  injection e with e1 _ e3
  subst e1 e3
  exact ⟨A, c, hs, rfl, hR, h1, h2, h3, hl⟩
theorem WL.with {w w' : World} {base : Nat} {vw ve : Value} {hs : List Hd} {es : List Int} (h : WL w base vw hs) (hb : Below w.heap.size w w') (he : Own w' w.heap.size ve es) (hB : base ≤ w.heap.size) : GL w' base vw hs ve es :=
  ⟨(h.below hb).row, (h.below hb).own, own_more he hB, fun x hx => by
    by_cases hn : x.enc.ownBlock = none
    · exact .inl hn
    · refine .inr fun e => ?_
      obtain ⟨j, hj⟩ := Option.ne_none_iff_exists'.1 hn
      have h1 := ((h.own x hx).lt j hj).2
      have h2 := (he.lt j (by rw [← e, hj])).1
      omega⟩
theorem own_lit0 (w : World) : (w.alloc (.cells #[] 3)).ownsRow w.heap.size 3 1 (.slice (some ⟨w.heap.size, 0, none⟩) 0 0) 0 (([] : List Int).map (Value.int .i64)) :=
  World.ownsRow_lit (e := 3) (size := 1) w #[] 0 (Nat.le_refl _) (by unfold maxLen; omega) rfl
theorem news_at {w : World} {b : Nat} {v : Value} (h : w.cell? ⟨b, 0, none⟩ = some v) : ∀ j u, [v][j]? = some u → w.cell? ((⟨b, 0, none⟩ : Addr).add j) = some u := fun j u hj => by
  obtain rfl : j = 0 := by have := (List.getElem?_eq_some_iff.1 hj).1; simp at this; omega
  simp at hj; subst hj; exact h
theorem genF_pos {a : Au} {most : Int} {f i : Nat} {L R : List (List Int × Int)} (h : genF a most f i L = some R) : 0 < f := by
  rcases Nat.eq_zero_or_pos f with h0 | h0
  · subst h0; rw [genF] at h; cases h
  · exact h0
theorem ext_length {a : Au} (h : RightW a) (p : List Int × Int) : (extW a p).length = (enI a p.2).length := by
  have := congrArg List.length (ext_en h p); simpa using this
theorem ext_words {a : Au} (h : RightW a) (p : List Int × Int) {t : Nat} (ht : t < (enI a p.2).length) : ((extW a p).take (t + 1)).map Prod.fst = ((extW a p).take t).map Prod.fst ++ [p.1 ++ [(enI a p.2).getD t 0]] := by
  rw [List.map_take, List.map_take, ext_en h, List.take_add_one, List.getElem?_map, List.getElem?_eq_getElem ht]
  simp [List.getD, List.getElem?_eq_getElem ht]

set_option maxHeartbeats 8000000 in
set_option maxRecDepth 100000 in
theorem rWords_any (A : Option Addr) (n c : Nat) (s : Int) (M : Option Addr) (m d : Nat) (E : Option Addr) (k g : Nat) (a : Au) (most : Int) (R : List (List Int × Int)) (w : World) (h : AuR w w.heap.size A n c s M m d E k g a) (hr : RightW a) (hR : genO a most = some R) (hl : R.length ≤ 1024) (hm1 : most ≤ 4096) :
    Calls Try.prog 41 #[.agg #[.slice A n c, .int .i64 s, .slice M m d, .slice E k g], .int .i64 most, .int .i64 1024] w fun e w' => RWds (R.map Prod.fst) e w' ∧ Below w.heap.size w w' := by
  have HR := Lib.hid h
  have HRI := Lib.hid hr
  have HST := Lib.hid h.st
  have hs0 : 0 ≤ s := by rw [← h.st]; exact hr.st0
  have HB1 := Lib.hid ((Below.refl w.heap.size w).alloc (Nat.le_refl _) (.cells #[.slice A n c, .int .i64 s, .slice M m d, .slice E k g] 25))
  have HA := Lib.hid (Row.new w [.slice A n c, .int .i64 s, .slice M m d, .slice E k g] 25)
  have HAz := Lib.hid (show (w.alloc (.cells #[.slice A n c, .int .i64 s, .slice M m d, .slice E k g] 25)).heap.size = w.heap.size + 1 by simp)
  have HR1 := Lib.hid (((h.below HB1.out (Nat.le_refl _)).more HB1.out.size))
  have HGO := Lib.hid hR
  have HRL := Lib.hid hl
  have hal := Lib.hid (al_len hr)
  obtain ⟨iI, iI0, iI1, iI2, iI3⟩ := info_parts info_int
  obtain ⟨iL, iL0, iL1, iL2, iL3⟩ := info_parts info_ints
  have p1 := HA.out.cell 1 rfl
  clear h hr hR hl
  by_cases hpos : 0 < s
  · have HG0 := Lib.hid (show genF a most 1026 0 [([], 0)] = some R by have := HGO.out; rw [genO, if_neg (by rw [HST.out]; omega)] at this; exact this)
    go_enter Try.func41, Try.ntmps41
    go_wp2_with (at_builtin; refine wpList_append_lies _ rfl (.tmp 16) (.tmp 17) 40 rfl (w.heap.size + 1) 22 iL (.slice none 0 0) 1 24 Try.underlying40 iL0 iL1 iL2 iL3 rfl (by omega) (.slice none 0 0) 0 [] rfl (World.ownsRow_nil _ _ _ _) ⟨w.heap.size + 1, 0, none⟩ 1 1 [.slice none 0 0] rfl rfl (news_one (by simp)) (by simp [Value.oneCell']) (by omega) (by unfold maxLen; omega) (by omega) (by simp) (w.heap.size + 2) (by simp) ?_; intro gN capN w2 hown2 hgrow2 hat2 hlt2)
    clear p1
    obtain ⟨w1, hw1⟩ : ∃ w1, w1 = w.alloc (.cells #[.slice A n c, .int .i64 s, .slice M m d, .slice E k g] 25) := ⟨_, rfl⟩
    rw [← hw1] at HB1 HA HAz HR1 hgrow2
    rw [show w.heap.size + 1 = w1.heap.size from HAz.out.symm] at hown2
    clear hw1
    have hwl0 := Lib.hid (show WL w2 w1.heap.size (.slice (some ⟨gN, 0, none⟩) 1 capN) [⟨none, 0, []⟩] from ⟨by simpa [Hd.enc] using hown2, fun y hy => by rw [List.mem_singleton] at hy; subst hy; exact World.ownsRow_nil _ _ _ _⟩)
    have hb2 := Lib.hid (show Below w1.heap.size w1 w2 from ((Below.refl _ w1).alloc (Nat.le_refl _) _).grown hgrow2 (by simp) (fun k hk => by simp [Value.ownBlock] at hk))
    clear hown2 hgrow2 hat2 hlt2
    go_wp2_with fail
    go_loopw [7, 8] (fun vw i wr => ∃ (n0 f : Nat) (hs : List Hd) (L : List (List Int × Int)), i = .int .i64 n0 ∧ n0 ≤ 1024 ∧ Hid (Below w1.heap.size w1 wr) ∧ Hid (WL wr w1.heap.size vw hs) ∧ Hid (hs.map Hd.z = L.map Prod.fst) ∧ Hid (1 ≤ L.length ∧ L.length ≤ 1024 ∧ n0 ≤ L.length) ∧ Hid (Leads a L) ∧ Hid (∀ p ∈ L, p.1.length ≤ 4096) ∧ Hid (genF a most f n0 L = some R)) (fun _ i _ => 1025 - (intOf i).toNat)
    case atStart => exact ⟨0, 1026, [⟨none, 0, []⟩], [([], 0)], rfl, Nat.zero_le _, hb2, hwl0, Lib.hid rfl, Lib.hid ⟨by simp, by simp, by simp⟩, Lib.hid (fun p hp => by rw [List.mem_singleton] at hp; subst hp; rw [runE_nil]; rfl), Lib.hid (fun p hp => by rw [List.mem_singleton] at hp; subst hp; simp), HG0⟩
    case round =>
      clear hwl0 hb2 HG0
      obtain ⟨n0, f, hs, L, rfl, hn0, hbel, hwl, hmw, hlen, hld, hwb, hgf⟩ := hrel
      obtain ⟨N1, hN1⟩ : ∃ N1, N1 = L.length := ⟨_, rfl⟩
      have HN1 := Lib.hid hN1
      have hl1 := hlen.out
      rw [← hN1] at hl1
      have hhs : hs.length = N1 := by have := congrArg List.length hmw.out; simpa [← hN1] using this
      obtain ⟨gW, cW, rfl, hcW1, hcW2, hcW3⟩ := hwl.out.gl.len hhs (by omega)
      have HcW3 := Lib.hid hcW3
      have HHS := Lib.hid hhs
      have hf0 := genF_pos hgf.out
      clear hN1 hcW3 hhs
      have b0 : N1 ≤ 1024 := hl1.2.1
      have b1 : (N1 : Int) ≤ 1024 := by omega
      have b2 : (0 : Int) ≤ (n0 : Int) := by omega
      have HZ := Lib.hid HA.out.lt
      by_cases hlt : n0 < N1
      · obtain ⟨x, hx⟩ : ∃ x, hs[n0]? = some x := ⟨_, List.getElem?_eq_getElem (by rw [HHS.out]; exact hlt)⟩
        have hcx := HcW3.out n0 x hx
        have hxz := wordmap_at hmw.out hx
        have hp := getD_memP (L := L) (j := n0) (by rw [← HN1.out]; exact hlt)
        obtain ⟨p, hpp⟩ : ∃ p, p = L.getD n0 ([], 0) := ⟨_, rfl⟩
        rw [← hpp] at hxz hp
        have hpl := hwb.out p hp
        have HLD := Lib.hid (hld.out p hp)
        have HPP := Lib.hid hpp
        obtain ⟨hxr, hxc1, hxc2⟩ := hwl.out.gl.word_rd hx
        have HX := Lib.hid hx
        have HXR := Lib.hid hxr
        obtain ⟨Ax, cx, zx⟩ := x
        simp only [Hd.enc] at hcx hxz hxc1 hxc2
        obtain ⟨lx, hlx⟩ : ∃ lx, lx = zx.length := ⟨_, rfl⟩
        have HLX := Lib.hid hlx
        rw [← hlx] at hcx hxc1
        have hlx2 : lx ≤ 4096 := by rw [hlx, hxz]; exact hpl
        have HXZ := Lib.hid hxz
        have hgWr : gW < wr.heap.size := (hwl.out.row.lt gW rfl).2
        have w0 : (n0 : Int) < (N1 : Int) := by omega
        clear hlx hx hxr hxz hpp hp hpl
        by_cases hml : (lx : Int) < most
        · obtain ⟨qs, hqs⟩ : ∃ qs, qs = p.2 := ⟨_, rfl⟩
          have HQ := Lib.hid hqs
          have HRn := Lib.hid (fun (W : World) (hW : Below wr.heap.size wr W) => (rRun_any A n c s M m d E k g a 0 Ax lx cx zx wr.heap.size W ((((HR1.out.below hbel.out (Nat.le_refl _)).more hbel.out.size)).below hW (Nat.le_refl _)) hW.size HRI.out (HXR.out.below hW (Nat.le_refl _)) HLX.out.symm (by omega)).mono (R' := fun e w' => e = .returned (.tuple #[.int .i64 qs, .int .i64 (lx : Int)]) ∧ Below wr.heap.size wr w') fun e w' hh => ⟨by rw [hh.1, HXZ.out, HLD.out, hqs, HLX.out, HXZ.out], hW.trans (hh.2.mono hW.size)⟩)
          clear hqs
          obtain ⟨p0, p1, p2, p3⟩ := box_row A n c s M m d E k g (HA.out.below hbel.out HA.out.lt)
          have hbs := hbel.out.size
          have hzw := HZ.out
          have hm2 : ¬ most ≤ (lx : Int) := by omega
          go_wp2_with fail
          go_upto_region 8 with fail
          go_cut [9] from 19 to 70 (fun st wx => st = .int .i64 qs ∧ Hid (Below wr.heap.size wr wx))
          case first =>
            have hbr := Lib.hid (Below.refl wr.heap.size wr)
            have hbd := Lib.hid ((Below.refl wr.heap.size wr).drew)
            go_region_held3 (fun w' => w'.cell? ⟨w.heap.size, 0, none⟩ = some (.slice A n c) ∧ w'.cell? ⟨w.heap.size, 1, none⟩ = some (.int .i64 s) ∧ w'.cell? ⟨w.heap.size, 2, none⟩ = some (.slice M m d) ∧ w'.cell? ⟨w.heap.size, 3, none⟩ = some (.slice E k g) ∧ w'.cell? ⟨gW, n0, none⟩ = some (.slice Ax lx cx)) (first | with_reducible exact ⟨p0, p1, p2, p3, hcx⟩ | go_keep)
              (first | (go_simp; go_at_call 40; (first | with_reducible refine (HRn.out _ hbr.out).mono ?_ | with_reducible refine (HRn.out _ hbd.out).mono ?_); rintro e w4 ⟨rfl, hb4⟩
                        have HB4 := Lib.hid hb4
                        have hcx : w4.cell? ⟨gW, n0, none⟩ = some (.slice Ax lx cx) := (hb4.cell (p := ⟨gW, n0, none⟩) hgWr).trans hcx
                        obtain ⟨p0, p1, p2, p3⟩ := box_row A n c s M m d E k g ((HA.out.below hbel.out HA.out.lt).below hb4 (by omega))
                        clear hb4))
            all_goals
              go_wp2_with fail
              go_meet
              case rel => exact ⟨rfl, by first | exact HB4 | exact Lib.hid HB4.out.drew⟩
          case rest =>
            obtain ⟨rfl, hbx⟩ := hcut
            have hbel2 := Lib.hid (hbel.out.trans (hbx.out.mono hbel.out.size))
            have hwl2 := Lib.hid (hwl.out.below hbx.out)
            have hbsx := hbx.out.size
            obtain ⟨p0, p1, p2, p3⟩ := box_row A n c s M m d E k g (HA.out.below hbel2.out HA.out.lt)
            have HEn := Lib.hid (rEnabled_own A n c s M m d E k g a qs wc.heap.size wc ((HR1.out.below hbel2.out (Nat.le_refl _)).more hbel2.out.size) (Nat.le_refl _) HRI.out)
            clear hbel hwl hcx HXR HRn HcW3 hxc1 hxc2
            go_wp2_with fail
            with_reducible refine HEn.out.mono ?_
            rintro e w4 ⟨A4, c4, rfl, ho4, hb4⟩
            obtain ⟨n4, hn4⟩ : ∃ n4, n4 = (enI a qs).length := ⟨_, rfl⟩
            rw [← hn4] at ho4 ⊢
            have hgl4 := Lib.hid (WL.with hwl2.out hb4 (show Own w4 wc.heap.size (.slice A4 n4 c4) (enI a qs) by exact ho4) hbel2.out.size)
            have hbel4 := Lib.hid (hbel2.out.trans (hb4.mono hbel2.out.size))
            have HN4 := Lib.hid hn4
            have HEL := Lib.hid (show (extW a p).length = n4 by rw [ext_length HRI.out, ← HQ.out]; exact hn4.symm)
            have hn32 : n4 ≤ 32 := by rw [hn4]; exact Nat.le_trans (List.length_filter_le _ _) hal.out
            have hNb : N1 + n4 ≤ 1024 := by
              rcases Nat.lt_or_ge 1024 (N1 + n4) with h | h
              · have := genF_limit hgf.out hf0 (by rw [← HPP.out, ← HXZ.out, ← HLX.out, ← HN1.out]; exact ⟨hlt, hml⟩) (by rw [← HPP.out, ← HN1.out, HEL.out]; exact h)
                cases this
              · exact h
            have hgo := Lib.hid (genF_go hgf.out hf0 (by rw [← HPP.out, ← HXZ.out, ← HLX.out, ← HN1.out]; exact ⟨hlt, hml⟩) (by rw [← HPP.out, ← HN1.out, HEL.out]; exact hNb))
            rw [← HPP.out] at hgo
            clear hn4 ho4 hb4 HEn hwl2 p0 p1 p2 p3 hbel2 hbx hbsx
            go_wp2_with fail
            go_loopw [7, 12] (fun vw k wr => ∃ (t : Nat) (hs : List Hd), k = .int .i64 t ∧ t ≤ n4 ∧ Hid (Below w1.heap.size w1 wr) ∧ Hid (GL wr w1.heap.size vw hs (.slice A4 n4 c4) (enI a qs)) ∧ Hid (hs.map Hd.z = (L ++ (extW a p).take t).map Prod.fst) ∧ Hid (hs[n0]? = some ⟨Ax, cx, zx⟩)) (fun _ k _ => n4 - (intOf k).toNat)
            case atStart => exact ⟨0, hs, rfl, Nat.zero_le _, hbel4, hgl4, Lib.hid (by rw [List.take_zero, List.append_nil]; exact hmw.out), HX⟩
            case round =>
              clear hbel4 hgl4 hmw HX HHS
              obtain ⟨t, hs, rfl, htN, hbel, hgl, hmw, hX⟩ := hrel
              obtain ⟨M1, hM1⟩ : ∃ M1, M1 = N1 + t := ⟨_, rfl⟩
              have hhs : hs.length = M1 := by
                have := congrArg List.length hmw.out
                rw [List.length_map, List.length_map, List.length_append, List.length_take, ← HN1.out, HEL.out] at this; omega
              obtain ⟨gW, cW, rfl, hcW1, hcW2, hcW3⟩ := hgl.out.len hhs (by omega)
              have hcx := hcW3 n0 _ hX.out
              obtain ⟨hxr, hxc1, hxc2⟩ := hgl.out.word_rd hX.out
              simp only [Hd.enc] at hcx
              rw [← HLX.out] at hcx
              have hM0 : n0 < M1 := by omega
              have hM2 : M1 ≤ 1024 := by omega
              have HHS := Lib.hid hhs
              have HM1 := Lib.hid hM1
              have HXR := Lib.hid hxr
              have hgWr : gW < wr.heap.size := (hgl.out.row.lt gW rfl).2
              have hbs := hbel.out.size
              have w3 : (n0 : Int) < (M1 : Int) := by omega
              clear hcW3 hM1 hhs hxr hxc1 hxc2
              by_cases htl : t < n4
              · obtain ⟨g4, rfl, hg4a, hg4b, hc4⟩ := own_cell hgl.out.ends (j := t) (by rw [← HN4.out]; exact htl)
                obtain ⟨ev, hev⟩ : ∃ ev, ev = (enI a qs).getD t 0 := ⟨_, rfl⟩
                rw [← hev] at hc4
                have HEW := Lib.hid (show (L ++ (extW a p).take (t + 1)).map Prod.fst = (L ++ (extW a p).take t).map Prod.fst ++ [zx ++ [ev]] by
                  rw [List.map_append, List.map_append, ext_words HRI.out p (t := t) (by rw [← HQ.out, ← HN4.out]; exact htl), HXZ.out, hev, HQ.out, List.append_assoc])
                have hrow0 := Lib.hid (show wr.ownsRow w1.heap.size 22 1 (.slice (some ⟨gW, 0, none⟩) M1 cW) M1 (hs.map Hd.enc) by have := hgl.out.row; rwa [HHS.out] at this)
                have x0 : (t : Int) < (n4 : Int) := by omega
                have x1 : (0 : Int) ≤ (t : Int) := by omega
                clear hev
                go_wp2_with fail
                have HBL := Lib.hid (((Below.refl wr.heap.size wr).alloc (Nat.le_refl _) (.cells #[] 3)).alloc (by simp) (.cells #[.int .i64 ev] 3))
                have HCN := Lib.hid (show ((wr.alloc (.cells #[] 3)).alloc (.cells #[.int .i64 ev] 3)).cell? ⟨wr.heap.size + 1, 0, none⟩ = some (.int .i64 ev) by simp)
                have HBM := Lib.hid (((Below.refl wr.heap.size wr).alloc (Nat.le_refl _) (.cells #[.int .i64 ev] 3)).alloc (by simp) (.cells #[] 3))
                have HCM := Lib.hid (show ((wr.alloc (.cells #[.int .i64 ev] 3)).alloc (.cells #[] 3)).cell? ⟨wr.heap.size, 0, none⟩ = some (.int .i64 ev) from ((Row.new wr [.int .i64 ev] 3).alloc (.cells #[] 3)).cell 0 rfl)
                have HOL := Lib.hid (show ((wr.alloc (.cells #[.int .i64 ev] 3)).alloc (.cells #[] 3)).ownsRow wr.heap.size 3 1 (.slice (some ⟨wr.heap.size + 1, 0, none⟩) 0 0) 0 (([] : List Int).map (Value.int .i64)) by
                  have := own_more (own_lit0 (wr.alloc (.cells #[.int .i64 ev] 3))) (show wr.heap.size ≤ _ by simp)
                  simpa using this)
                go_region_law (first
                  | (refine step_append_lies _ (by rfl) (.tmp 56) (.tmp 69) _ (by rfl) w1.heap.size 22 iL (.slice none 0 0) 1 24 Try.underlying40 iL0 iL1 iL2 iL3 rfl (by omega) (.slice (some ⟨gW, 0, none⟩) M1 cW) M1 (hs.map Hd.enc) (by rfl) (by first | exact (HR7.out.alloc _).drew | exact (HR7.out.alloc _)) ⟨w7.heap.size, 0, none⟩ 1 1 [.slice (some ⟨g7, 0, none⟩) (lx + 1) cap7] (by rfl) (by rfl) (World.news_of_block (cs := #[.slice (some ⟨g7, 0, none⟩) (lx + 1) cap7]) (t := 22) (fr := (0, 0)) (heap_alloc_new w7 _)) (by simp [Value.oneCell']) (by omega) (by unfold maxLen; omega) (by omega) (by simp; omega) (w7.heap.size + 1) (by simp) ?_; intro gG capG w9 hown9 hgrow9 hat9 hlt9)
                  | (refine step_append_lies _ (by rfl) (.tmp 62) (.tmp 67) _ (by rfl) wr.heap.size 3 iI (.int .i64 0) 1 8 Try.underlying22 iI0 iI1 iI2 iI3 rfl (by omega) v6 lx (zx.map (Value.int .i64)) (by rfl) (by first | exact (HO6.out.alloc _).drew | exact (HO6.out.alloc _)) ⟨w6.heap.size, 0, none⟩ 1 1 [.int .i64 ev] (by rfl) (by rfl) (World.news_of_block (cs := #[.int .i64 ev]) (t := 3) (fr := (0, 0)) (heap_alloc_new w6 _)) (by simp [Value.oneCell']) (by omega) (by unfold maxLen; omega) (by omega) (by simp; omega) (w6.heap.size + 1) (by simp) ?_
                     intro g7 cap7 w7 hown7 hgrow7 hat7 hlt7
                     have HO7 := Lib.hid (show Own w7 wr.heap.size (.slice (some ⟨g7, 0, none⟩) (lx + 1) cap7) (zx ++ [ev]) by unfold Own; rw [List.length_append, List.map_append, ← HLX.out]; exact hown7)
                     have HB7 := Lib.hid (show Below wr.heap.size wr w7 by first | exact ((HB6.out.alloc hs6 (.cells #[.int .i64 ev] 3)).drew).grown hgrow7 (by simp; omega) (fun k hk => (HO6.out.lt k hk).1) | exact (HB6.out.alloc hs6 (.cells #[.int .i64 ev] 3)).grown hgrow7 (by simp; omega) (fun k hk => (HO6.out.lt k hk).1))
                     have HR7 := Lib.hid (own_below hrow0.out HB7.out)
                     have hs7 := HB7.out.size
                     clear hown7 hgrow7 hat7 hlt7)
                  | (refine step_append_lies _ (by rfl) (.tmp 62) (.tmp 67) _ (by rfl) wr.heap.size 3 iI (.int .i64 0) 1 8 Try.underlying22 iI0 iI1 iI2 iI3 rfl (by omega) v6 lx (zx.map (Value.int .i64)) (by rfl) (by exact HO6.out) ⟨wr.heap.size + 1, 0, none⟩ 1 1 [.int .i64 ev] (by rfl) (by rfl) (news_at dn6) (by simp [Value.oneCell']) (by omega) (by unfold maxLen; omega) (by omega) (by omega) w6.heap.size (by rfl) ?_
                     intro g7 cap7 w7 hown7 hgrow7 hat7 hlt7
                     have HO7 := Lib.hid (show Own w7 wr.heap.size (.slice (some ⟨g7, 0, none⟩) (lx + 1) cap7) (zx ++ [ev]) by unfold Own; rw [List.length_append, List.map_append, ← HLX.out]; exact hown7)
                     have HB7 := Lib.hid (show Below wr.heap.size wr w7 from HB6.out.grown hgrow7 hs6 (fun k hk => (HO6.out.lt k hk).1))
                     have HR7 := Lib.hid (own_below hrow0.out HB7.out)
                     have hs7 := HB7.out.size
                     clear hown7 hgrow7 hat7 hlt7)
                  | (refine step_append_lies _ (by rfl) (.tmp 62) (.tmp 67) _ (by rfl) wr.heap.size 3 iI (.int .i64 0) 1 8 Try.underlying22 iI0 iI1 iI2 iI3 rfl (by omega) v6 lx (zx.map (Value.int .i64)) (by rfl) (by exact HO6.out) ⟨wr.heap.size, 0, none⟩ 1 1 [.int .i64 ev] (by rfl) (by rfl) (news_at dn6) (by simp [Value.oneCell']) (by omega) (by unfold maxLen; omega) (by omega) (by omega) w6.heap.size (by rfl) ?_
                     intro g7 cap7 w7 hown7 hgrow7 hat7 hlt7
                     have HO7 := Lib.hid (show Own w7 wr.heap.size (.slice (some ⟨g7, 0, none⟩) (lx + 1) cap7) (zx ++ [ev]) by unfold Own; rw [List.length_append, List.map_append, ← HLX.out]; exact hown7)
                     have HB7 := Lib.hid (show Below wr.heap.size wr w7 from HB6.out.grown hgrow7 hs6 (fun k hk => (HO6.out.lt k hk).1))
                     have HR7 := Lib.hid (own_below hrow0.out HB7.out)
                     have hs7 := HB7.out.size
                     clear hown7 hgrow7 hat7 hlt7)
                  | (refine step_app_rd (by rfl) (.tmp 57) (.tmp 61) (by rfl) wr.heap.size (.slice (some ⟨wr.heap.size, 0, none⟩) 0 0) 0 [] (by rfl) (by first | exact (own_lit0 wr).drew | exact own_lit0 wr) wr.heap.size Ax lx cx zx (by rfl) (by first | exact HXR.out.below (((Below.refl wr.heap.size wr).alloc (Nat.le_refl _) (.cells #[] 3)).drew) (Nat.le_refl _) | exact HXR.out.below ((Below.refl wr.heap.size wr).alloc (Nat.le_refl _) (.cells #[] 3)) (Nat.le_refl _)) HLX.out.symm (by unfold maxLen; omega) (by omega) (by simp) ?_
                     intro v6 w6 hown6 hgrow6
                     have HO6 := Lib.hid (show w6.ownsRow wr.heap.size 3 1 v6 lx (zx.map (Value.int .i64)) by simpa using hown6)
                     have HB6 := Lib.hid (show Below wr.heap.size wr w6 by first | exact (((Below.refl wr.heap.size wr).alloc (Nat.le_refl _) (.cells #[] 3)).drew).grown hgrow6 (by simp) (fun k hk => by cases hk; exact Nat.le_refl _) | exact ((Below.refl wr.heap.size wr).alloc (Nat.le_refl _) (.cells #[] 3)).grown hgrow6 (by simp) (fun k hk => by cases hk; exact Nat.le_refl _))
                     have d4 : w6.cell? ⟨g4, t, none⟩ = some (.int .i64 ev) := (HB6.out.cell (p := ⟨g4, t, none⟩) hg4b).trans hc4
                     have dx : w6.cell? ⟨gW, n0, none⟩ = some (.slice Ax lx cx) := (HB6.out.cell (p := ⟨gW, n0, none⟩) hgWr).trans hcx
                     have hs6 := HB6.out.size
                     clear hown6 hgrow6)
                  | (refine step_app_rd (by rfl) (.tmp 57) (.tmp 61) (by rfl) wr.heap.size (.slice (some ⟨wr.heap.size, 0, none⟩) 0 0) 0 [] (by rfl) (by first | exact ((own_lit0 wr).alloc _).drew | exact (own_lit0 wr).alloc _) wr.heap.size Ax lx cx zx (by rfl) (by first | exact HXR.out.below HBL.out.drew (Nat.le_refl _) | exact HXR.out.below HBL.out (Nat.le_refl _)) HLX.out.symm (by unfold maxLen; omega) (by omega) (by simp; omega) ?_
                     intro v6 w6 hown6 hgrow6
                     have HO6 := Lib.hid (show w6.ownsRow wr.heap.size 3 1 v6 lx (zx.map (Value.int .i64)) by simpa using hown6)
                     have HB6 := Lib.hid (show Below wr.heap.size wr w6 by first | exact HBL.out.drew.grown hgrow6 (by simp; omega) (fun k hk => by cases hk; exact Nat.le_refl _) | exact HBL.out.grown hgrow6 (by simp; omega) (fun k hk => by cases hk; exact Nat.le_refl _))
                     have d4 : w6.cell? ⟨g4, t, none⟩ = some (.int .i64 ev) := (HB6.out.cell (p := ⟨g4, t, none⟩) hg4b).trans hc4
                     have dx : w6.cell? ⟨gW, n0, none⟩ = some (.slice Ax lx cx) := (HB6.out.cell (p := ⟨gW, n0, none⟩) hgWr).trans hcx
                     have hs6 := HB6.out.size
                     have dn6 : w6.cell? ⟨wr.heap.size + 1, 0, none⟩ = some (.int .i64 ev) := (hgrow6.cell_far ⟨wr.heap.size + 1, 0, none⟩ (by simp) (by simp [Value.ownBlock])).trans HCN.out
                     clear hown6 hgrow6)
                  | (refine step_app_rd (by rfl) (.tmp 57) (.tmp 61) (by rfl) wr.heap.size (.slice (some ⟨wr.heap.size + 1, 0, none⟩) 0 0) 0 [] (by rfl) (by first | exact HOL.out.drew | exact HOL.out) wr.heap.size Ax lx cx zx (by rfl) (by first | exact HXR.out.below HBM.out.drew (Nat.le_refl _) | exact HXR.out.below HBM.out (Nat.le_refl _)) HLX.out.symm (by unfold maxLen; omega) (by omega) (by simp; omega) ?_
                     intro v6 w6 hown6 hgrow6
                     have HO6 := Lib.hid (show w6.ownsRow wr.heap.size 3 1 v6 lx (zx.map (Value.int .i64)) by simpa using hown6)
                     have HB6 := Lib.hid (show Below wr.heap.size wr w6 by first | exact HBM.out.drew.grown hgrow6 (by simp; omega) (fun k hk => by cases hk; exact Nat.le_succ _) | exact HBM.out.grown hgrow6 (by simp; omega) (fun k hk => by cases hk; exact Nat.le_succ _))
                     have d4 : w6.cell? ⟨g4, t, none⟩ = some (.int .i64 ev) := (HB6.out.cell (p := ⟨g4, t, none⟩) hg4b).trans hc4
                     have dx : w6.cell? ⟨gW, n0, none⟩ = some (.slice Ax lx cx) := (HB6.out.cell (p := ⟨gW, n0, none⟩) hgWr).trans hcx
                     have hs6 := HB6.out.size
                     have dn6 : w6.cell? ⟨wr.heap.size, 0, none⟩ = some (.int .i64 ev) := (hgrow6.cell_far ⟨wr.heap.size, 0, none⟩ (by simp; omega) (by simp [Value.ownBlock])).trans HCM.out
                     clear hown6 hgrow6))
                all_goals
                  have hlen9 : (zx ++ [ev]).length = lx + 1 := by rw [List.length_append, ← HLX.out]; rfl
                  have hB9 : Below wr.heap.size wr (w7.alloc (.cells #[.slice (some ⟨g7, 0, none⟩) (lx + 1) cap7] 22)) := HB7.out.alloc hs7 _
                  have hO9 : Own (w7.alloc (.cells #[.slice (some ⟨g7, 0, none⟩) (lx + 1) cap7] 22)) wr.heap.size (Hd.enc ⟨some ⟨g7, 0, none⟩, cap7, zx ++ [ev]⟩) (zx ++ [ev]) := by
                    have := own_below HO7.out ((Below.refl w7.heap.size w7).alloc (Nat.le_refl _) (.cells #[.slice (some ⟨g7, 0, none⟩) (lx + 1) cap7] 22))
                    unfold Hd.enc; simp only [hlen9]; exact this
                  have hgl9 := Lib.hid (show GL w9 w1.heap.size (.slice (some ⟨gG, 0, none⟩) (M1 + 1) capG) (hs ++ [⟨some ⟨g7, 0, none⟩, cap7, zx ++ [ev]⟩]) (.slice (some ⟨g4, 0, none⟩) n4 c4) (enI a qs) from by
                    refine GL.word (n := M1 + 1) hgl.out hB9 hO9 hbs ?_ (by rw [HHS.out]) (by exact hgrow9)
                    unfold Hd.enc at hown9 ⊢; simp only [hlen9]; exact hown9)
                  have hb9 := Lib.hid (show Below w1.heap.size w1 w9 from ((hbel.out.trans (hB9.mono hbs)).grown (show (w7.alloc (.cells #[.slice (some ⟨g7, 0, none⟩) (lx + 1) cap7] 22)).grownBy w9 _ from hgrow9) (by simp; omega) (fun k hk => (HR7.out.lt k hk).1)))
                  have hmw2 := Lib.hid (show (hs ++ [(⟨some ⟨g7, 0, none⟩, cap7, zx ++ [ev]⟩ : Hd)]).map Hd.z = (L ++ (extW a p).take (t + 1)).map Prod.fst by
                    rw [HEW.out, List.map_append, hmw.out]; rfl)
                  have hX2 := Lib.hid (show (hs ++ [(⟨some ⟨g7, 0, none⟩, cap7, zx ++ [ev]⟩ : Hd)])[n0]? = some ⟨Ax, cx, zx⟩ by
                    rw [List.getElem?_append_left (by rw [HHS.out]; exact hM0)]; exact hX.out)
                  clear hown9 hgrow9 hat9
                  go_wp2_with fail
                  go_roundw
                  case measure => simp [intOf]; omega
                  case rel => exact ⟨t + 1, _, by go_num, by omega, by first | exact hb9 | exact Lib.hid hb9.out.drew, by first | exact hgl9 | exact Lib.hid hgl9.out.drew, hmw2, hX2⟩
              · obtain rfl : t = n4 := by omega
                rw [List.take_of_length_le (by rw [HEL.out]; exact Nat.le_refl _)] at hmw
                have hlen2 := Lib.hid (show 1 ≤ (L ++ extW a p).length ∧ (L ++ extW a p).length ≤ 1024 ∧ n0 + 1 ≤ (L ++ extW a p).length by
                  rw [List.length_append, ← HN1.out, HEL.out]; omega)
                have hld2 := Lib.hid (leads_app hld.out (leads_ext HRI.out (p := p) (by rw [HLD.out])))
                have hwb2 := Lib.hid (show ∀ q ∈ L ++ extW a p, q.1.length ≤ 4096 from fun q hq => by
                  rcases List.mem_append.1 hq with hq | hq
                  · exact hwb.out q hq
                  · obtain ⟨y, _, rfl⟩ := List.mem_map.1 hq
                    rw [List.length_append, ← HXZ.out, ← HLX.out]; simp; omega)
                have hwl3 := Lib.hid hgl.out.wl
                go_wp2_with fail
                go_roundw
                case measure => simp [intOf]; omega
                case rel => exact ⟨n0 + 1, f - 1, hs, L ++ extW a p, by go_num, by omega, hbel, hwl3, hmw, hlen2, hld2, hwb2, hgo⟩
        · have hm2 : most ≤ (lx : Int) := by omega
          have HRv := Lib.hid (genF_stop hgf.out hf0 (by rw [← HPP.out, ← HXZ.out, ← HLX.out]; omega))
          have HRT := Lib.hid (hwl.out.ret HHS.out (show hs.map Hd.z = R.map Prod.fst by have := HRv.out; injection this with this; rw [this, hmw.out]) b0)
          go_wp2_with fail
          go_ret
          exact ⟨HRT.out, HB1.out.trans (hbel.out.mono HB1.out.size)⟩
      · obtain rfl : n0 = N1 := by omega
        have HRv := Lib.hid (genF_stop hgf.out hf0 (by rw [← HN1.out]; omega))
        have HRT := Lib.hid (hwl.out.ret HHS.out (show hs.map Hd.z = R.map Prod.fst by have := HRv.out; injection this with this; rw [this, hmw.out]) b0)
        go_wp2_with fail
        go_ret
        exact ⟨HRT.out, HB1.out.trans (hbel.out.mono HB1.out.size)⟩
  · have HR0 := Lib.hid (show R = [] by have := HGO.out; rw [genO, if_pos (by rw [HST.out]; omega)] at this; injection this with this; exact this.symm)
    go_enter Try.func41, Try.ntmps41
    go_wp2_with fail
    clear p1
    go_loopw [7, 8] (fun v i wr => v = .slice none 0 0 ∧ i = .int .i64 0 ∧ Hid (Below w.heap.size w wr)) (fun _ _ _ => 0)
    case atStart => exact ⟨rfl, rfl, HB1⟩
    case round =>
      obtain ⟨rfl, rfl, hb⟩ := hrel
      have HRT := Lib.hid (show ∀ wr : World, RWds (R.map Prod.fst) (.returned (.slice none 0 0)) wr from fun wr => ⟨none, 0, [], rfl, by rw [HR0.out]; rfl, RdL.nil _ _ _, Nat.le_refl _, by omega, by simp⟩)
      go_wp2_with fail
      go_ret
      exact ⟨HRT.out _, hb.out⟩
end Go.Proofs.Ytcciiikaejjooaa
