/- Texts merged: what follows were texts of their own. -/
import Derived.Test.YtaadhpkpekmfoaaGreatZa16
set_option linter.unusedVariables false
set_option linter.unusedSimpArgs false
set_option linter.unusedSectionVars false
/- Layer 7: the reference's functions, and part, in a law's walk over graphs. -/
namespace Go.Proofs.YtaadhpkpekmfoaaGreat
open Go.RowKit Go.Sort

set_option maxHeartbeats 4000000 in
set_option maxRecDepth 100000 in
theorem part_any (A : Option Addr) (n c : Nat) (s : Int) (M : Option Addr) (m d : Nat) (E : Option Addr) (k g : Nat) (a : Au) (xp : Int) (w : World) (h : AuR w w.heap.size A n c s M m d E k g a) (h0 : 0 ≤ a.st) :
    Calls Tryz.prog 19 #[.agg #[.slice A n c, .int .i64 s, .slice M m d, .slice E k g], .int .u8 xp] w fun e w' => ∃ v zs, e = .returned v ∧ Ev5 a.st zs ∧ Own w' w.heap.size v zs ∧ Below w.heap.size w w' := by
  obtain ⟨S, hS⟩ : ∃ S : Nat, s = (S : Int) := ⟨a.st.toNat, by have := h.st; omega⟩
  subst hS
  have HST := Lib.hid h.st
  have HB1 := Lib.hid ((Below.refl w.heap.size w).alloc (Nat.le_refl _) (.cells #[.slice A n c, .int .i64 (S : Int), .slice M m d, .slice E k g] 33))
  have HX := Lib.hid (BoxA.made w A n c (S : Int) M m d E k g 33)
  obtain ⟨iI, iI0, iI1, iI2, iI3⟩ := info_parts info_int
  clear h h0
  go_enter Tryz.func19, Tryz.ntmps19
  go_wp2_with fail
  go_loopw [5, 6] (fun v i wr => ∃ (t : Nat) (zs : List Int), t ≤ 8 ∧ t ≤ S ∧ i = .int .i64 t ∧ Hid (Ev5 (t : Int) zs) ∧ Hid (Own wr (w.heap.size + 1) v zs) ∧ Hid (Below (w.heap.size + 1) (w.alloc (.cells #[.slice A n c, .int .i64 (S : Int), .slice M m d, .slice E k g] 33)) wr)) (fun _ i _ => 8 - (intOf i).toNat)
  case atStart => exact ⟨0, [], Nat.zero_le _, Nat.zero_le _, rfl, Ev5.nil _, Lib.hid (World.ownsRow_nil _ _ _ _), Lib.hid (Below.refl _ _)⟩
  case round =>
    obtain ⟨t, zs, ht8, htS, rfl, hev, hown, hbel1⟩ := hrel
    have hbel := Lib.hid (HB1.out.trans (hbel1.out.mono (Nat.le_succ _)))
    have hbs := hbel1.out.size
    rw [World.size_alloc] at hbs
    obtain ⟨p0, p1, p2, p3⟩ := HX.out.below hbel1.out (Nat.lt_succ_self _)
    have HEV := Lib.hid (show Ev5 a.st zs from ⟨fun x hx => by have := hev.out.r x hx; rw [HST.out]; omega, hev.out.o⟩)
    by_cases hlt : t < S
    · by_cases h8 : t < 8
      · have hl := hev.out.len
        have z0 : (t : Int) < (S : Int) := by omega
        have z1 : (t : Int) < 8 := by omega
        have z2 : (0 : Int) ≤ (t : Int) := by omega
        have hm := Lib.hid (hev.out.more)
        have hs := Lib.hid (hev.out.snoc (by omega))
        obtain ⟨L, hL⟩ : ∃ L, zs.length = L := ⟨_, rfl⟩
        have HL := Lib.hid hL
        have hown' := hown.out
        unfold Own at hown'
        rw [hL] at hl hown'
        have HOW := Lib.hid hown'
        clear hL hown'
        go_upto_if 21 with fail
        generalize (bits BinOp.and IntKind.u8 (xp / 2 ^ t) 1 == 1) = cb
        cases cb
        · go_wp2_with fail
          go_roundw
          case rel => exact ⟨t + 1, zs, by omega, by omega, by go_num, by simpa using hm, hown, hbel1⟩
          case measure => simp [intOf]; omega
        · go_wp2_with (at_builtin; refine wpList_append_own_at _ rfl _ _ 27 rfl (w.heap.size + 1) 3 iI (.int .i64 0) 1 8 Tryz.underlying27 iI0 iI1 iI2 iI3 rfl (by decide) _ L (zs.map (Value.int .i64)) rfl (HOW.out.alloc _) ⟨wr.heap.size, 0, none⟩ 1 1 [.int .i64 (t : Int)] rfl rfl (news_one rfl) (by intro u hu; simp at hu; subst hu; rfl) (by unfold maxLen; omega) (by omega) (by simp; omega) ?_)
          intro v6 w6 hown6 hgrow6 _ _
          have hO := Lib.hid (show Own w6 (w.heap.size + 1) v6 (zs ++ [(t : Int)]) by unfold Own; rw [List.length_append, List.map_append, HL.out]; exact hown6)
          have hB := Lib.hid ((hbel1.out.alloc (by omega) _).grown hgrow6 (by simp; omega) (fun i hi => (hown.out.lt i hi).1))
          clear hown6 hgrow6
          go_wp2_with fail
          go_roundw
          case rel => exact ⟨t + 1, zs ++ [(t : Int)], by omega, by omega, by go_num, by simpa using hs, hO, hB⟩
          case measure => simp [intOf]; omega
      · obtain rfl : t = 8 := by omega
        have z0 : (8 : Int) < (S : Int) := by omega
        go_wp2_with fail
        go_ret
        exact ⟨_, zs, rfl, HEV.out, own_moreR hown.out (Nat.le_succ _), hbel.out⟩
    · obtain rfl : t = S := by omega
      have z0 : (t : Int) ≤ (t : Int) := by omega
      go_wp2_with fail
      go_ret
      exact ⟨_, zs, rfl, HEV.out, own_moreR hown.out (Nat.le_succ _), hbel.out⟩
section
variable {W w : World} {l : List (Nat × List Value)} {A : Option Addr} {n c : Nat} {s : Int} {M : Option Addr} {m d : Nat} {E : Option Addr} {k g : Nat} {a : Au} {A2 : Option Addr} {n2 c2 : Nat} {A3 : Option Addr} {n3 c3 : Nat} {fr ev ob : List Int}
theorem k_part {xp : Int} (h0 : 0 ≤ a.st) (ha : AuR w w.heap.size A n c s M m d E k g a) (h : LW W l w) : Calls Tryz.prog 19 #[.agg #[.slice A n c, .int .i64 s, .slice M m d, .slice E k g], .int .u8 xp] w fun e w' => ∃ zs A n c, e = .returned (.slice A n c) ∧ Ev5 a.st zs ∧ GL7 w w' A n c zs ∧ KW W l w w' := by
  refine (part_any A n c s M m d E k g a xp w ha h0).mono ?_
  rintro e w' ⟨v, zs, he, hev, ho, hb⟩
  obtain ⟨A, n, c, rfl, h1⟩ := gl7_of ho
  exact ⟨zs, A, n, c, he, hev, h1, KW.of h hb⟩
theorem k_rreach {L : List Int} (hL : reR a ev fr = L) (hri : RightW a) (hs4 : a.st ≤ 4096) (ha : AuR w w.heap.size A n c s M m d E k g a) (hx : RdI w w.heap.size A2 fr) (hn : fr.length = n2) (hb : n2 ≤ 100000)
    (hx3 : RdI w w.heap.size A3 ev) (hn3 : ev.length = n3) (hb3 : n3 ≤ 100000) (h : LW W l w) :
    Calls Tryz.prog 22 #[.agg #[.slice A n c, .int .i64 s, .slice M m d, .slice E k g], .slice A2 n2 c2, .slice A3 n3 c3] w fun e w' => ∃ A n c, e = .returned (.slice A n c) ∧ GL7 w w' A n c L ∧ KW W l w w' := by
  subst hL
  refine (r7Reach_any A n c s M m d E k g a A2 n2 c2 fr A3 n3 c3 ev w ha hri hs4 hx hn hb hx3 hn3 hb3).mono ?_
  rintro e w' ⟨v, he, ho, hb⟩
  obtain ⟨A, n, c, rfl, h1⟩ := gl7_of ho
  exact ⟨A, n, c, he, h1, KW.of h hb⟩
theorem k_rnext {x : Int} {L : List Int} (hL : nxR a ev fr x = L) (hri : RightW a) (hs4 : a.st ≤ 100) (ha : AuR w w.heap.size A n c s M m d E k g a) (hx : RdI w w.heap.size A2 fr) (hn : fr.length = n2) (hb : n2 ≤ 100000)
    (hx3 : RdI w w.heap.size A3 ev) (hn3 : ev.length = n3) (hb3 : n3 ≤ 100000) (h : LW W l w) :
    Calls Tryz.prog 26 #[.agg #[.slice A n c, .int .i64 s, .slice M m d, .slice E k g], .slice A3 n3 c3, .slice A2 n2 c2, .int .i64 x] w fun e w' => ∃ A n c, e = .returned (.slice A n c) ∧ GL7 w w' A n c L ∧ KW W l w w' := by
  subst hL
  have hk : k ≤ 100000 := by
    have h1 := ed_le hri (S := a.st.toNat) (by have := hri.st0; omega)
    have h2 := ha.hk
    omega
  refine (r7Next_any A n c s M m d E k g a A3 n3 c3 ev A2 n2 c2 fr x w ha hri (by omega) hx hn hb hx3 hn3 hb3 hk).mono ?_
  rintro e w' ⟨v, he, ho, hb⟩
  obtain ⟨A, n, c, rfl, h1⟩ := gl7_of ho
  exact ⟨A, n, c, he, h1, KW.of h hb⟩
theorem k_rest {L : List Int} (hL : esR a ev ob = L) (hri : RightW a) (hs4 : a.st ≤ 100) (ha : AuR w w.heap.size A n c s M m d E k g a) (hx : RdI w w.heap.size A2 ob) (hn : ob.length = n2) (hb : n2 ≤ 100000)
    (hx3 : RdI w w.heap.size A3 ev) (hn3 : ev.length = n3) (hb3 : n3 ≤ 100000) (h : LW W l w) :
    Calls Tryz.prog 28 #[.agg #[.slice A n c, .int .i64 s, .slice M m d, .slice E k g], .slice A3 n3 c3, .slice A2 n2 c2] w fun e w' => ∃ A n c, e = .returned (.slice A n c) ∧ L.length = n ∧ RdI w' w'.heap.size A L ∧ KW W l w w' := by
  subst hL
  have hk : k ≤ 100000 := by
    have h1 := ed_le hri (S := a.st.toNat) (by have := hri.st0; omega)
    have h2 := ha.hk
    omega
  refine (r7Estimate_any A n c s M m d E k g a A3 n3 c3 ev A2 n2 c2 ob w ha hri (by omega) hx hn hb hx3 hn3 hb3 hk).mono ?_
  rintro e w' ⟨A, n, c, he, hr, hl, hb⟩
  exact ⟨A, n, c, he, hl, hr, KW.of h hb⟩
theorem k_rkept {L : List Int} (hL : kpR a ev = L) (ha : AuR w w.heap.size A n c s M m d E k g a) (hx3 : RdI w w.heap.size A3 ev) (hn3 : ev.length = n3) (hb3 : n3 ≤ 100000) (h : LW W l w) :
    Calls Tryz.prog 25 #[.agg #[.slice A n c, .int .i64 s, .slice M m d, .slice E k g], .slice A3 n3 c3] w fun e w' => ∃ A n c, e = .returned (.slice A n c) ∧ GL7 w w' A n c L ∧ KW W l w w' := by
  subst hL
  refine (r7Kept_any A n c s M m d E k g a A3 n3 c3 ev w ha hx3 hn3 hb3).mono ?_
  rintro e w' ⟨v, he, ho, hb⟩
  obtain ⟨A, n, c, rfl, h1⟩ := gl7_of ho
  exact ⟨A, n, c, he, h1, KW.of h hb⟩
theorem k_list {mx u : Int} {zs : List Int} (hu : csE mx zs = u) (hx : RdI w w.heap.size A2 zs) (hn : zs.length = n2) (hb : n2 ≤ 100000) (h : LW W l w) : Calls Tryz.prog 11 #[.slice A2 n2 c2, .int .i64 mx] w fun e w' => e = .returned (.int .i64 u) ∧ KW W l w w' := by
  subst hu
  refine (rList_any A2 n2 c2 w.heap.size zs mx w hx hn (by omega)).mono ?_
  rintro e w' ⟨he, q, rfl⟩
  exact ⟨he, KW.of h (below_drewN (Below.refl _ _) q)⟩
theorem k_kn (h : LW W l w) : Calls Tryz.prog 10 #[] w fun e w' => e = .returned (.bool true) ∧ KW W l w w' := kw_call (known7_any w) h
end
end Go.Proofs.YtaadhpkpekmfoaaGreat

/- Layer 7: what came in: two sets, a question. -/
namespace Go.Proofs.YtaadhpkpekmfoaaGreat
open Go.ChangeShapes Go.WideShapes Go.ChangeAt Go.RowKit
section
variable {H : Type} {enc : TypeId × Value → H} {W : World} {base : Nat} {v : Value} {d : DataW H} {p : List MemPlace}
set_option maxRecDepth 8000 in
theorem open_arr2S (hval : Value.okWide Tryz.prog W .any base 45 v) (h : DataW.Trod enc Tryz.prog W 0 (fun _ => true) true 45 v d p) : ∃ x y : Int, v = .agg #[.int .u8 x, .int .u8 y] ∧ (Lit.int .u8 x).wf = true ∧ (Lit.int .u8 y).wf = true := by
  simp only [Value.okWide, Tryz.underlying45] at hval
  obtain ⟨cs, rfl, hsz, _⟩ := hval
  have h2 : Tryz.prog.cellsOf 45 = 2 := by kernel_rfl
  have h1 : Tryz.prog.cellsOf 22 = 1 := by kernel_rfl
  rw [h2] at hsz
  obtain ⟨fuel, hf⟩ := h
  obtain ⟨xs, m, _, hx, _, hl, hi⟩ := DataW.trod_array Tryz.underlying45 hf
  obtain ⟨l⟩ := cs
  match l, hsz with
  | [s0, s1], _ =>
    match xs, hl with
    | [y0, y1], _ =>
      have f0 := hi 0 (by decide)
      have f1 := hi 1 (by decide)
      rw [h1] at f0 f1
      have e0 : DataW.trod enc Tryz.prog W 0 (fun _ => true) true m 22 [s0] = some y0 := f0
      have e1 : DataW.trod enc Tryz.prog W 0 (fun _ => true) true m 22 [s1] = some y1 := f1
      obtain ⟨a, rfl, wa⟩ := open_set1 e0
      obtain ⟨b, rfl, wb⟩ := open_set1 e1
      exact ⟨a, b, rfl, wa, wb⟩
set_option maxRecDepth 8000 in
theorem open_question (hval : Value.okWide Tryz.prog W .any base 47 v) (h : DataW.Trod enc Tryz.prog W 0 (fun _ => true) true 47 v d p) (hlt : ∀ x ∈ p, x.block < W.heap.size) :
    ∃ (x : Int) (A : Option Addr) (n c : Nat) (zs : List Int) (ev : Int), v = .agg #[.int .u8 x, .slice A n c, .int .i64 ev] ∧ (Lit.int .u8 x).wf = true ∧ RdI W W.heap.size A zs ∧ zs.length = n ∧ n ≤ c ∧ c ≤ 9223372036854775807 := by
  obtain ⟨cs, rfl, hsz⟩ := okWide_struct Tryz.underlying47 hval
  have h4 : Tryz.prog.cellsOf 47 = 3 := by kernel_rfl
  have h1 : Tryz.prog.cellsOf 27 = 1 := by kernel_rfl
  have h2 : Tryz.prog.cellsOf 3 = 1 := by kernel_rfl
  have h3 : Tryz.prog.cellsOf 5 = 1 := by kernel_rfl
  rw [h4] at hsz
  obtain ⟨fuel, hf⟩ := h
  obtain ⟨ys, n', _, hx, _, hyl, hfd⟩ := DataW.trod_struct Tryz.underlying47 hf
  obtain ⟨l⟩ := cs
  match l, hsz with
  | [s0, s1, s2], _ =>
    match ys, hyl with
    | [y0, y1, y2], _ =>
      have f0 : DataW.trod enc Tryz.prog W 0 (fun _ => true) true n' 5 (([s0, s1, s2].drop 0).take (Tryz.prog.cellsOf 5)) = some y0 := hfd 0 _ rfl
      have f1 : DataW.trod enc Tryz.prog W 0 (fun _ => true) true n' 27 (([s0, s1, s2].drop 1).take (Tryz.prog.cellsOf 27)) = some y1 := hfd 1 _ rfl
      have f2 : DataW.trod enc Tryz.prog W 0 (fun _ => true) true n' 3 (([s0, s1, s2].drop 2).take (Tryz.prog.cellsOf 3)) = some y2 := hfd 2 _ rfl
      rw [h3] at f0
      rw [h1] at f1
      rw [h2] at f2
      injection hx with hx1 hx2
      subst hx2
      obtain ⟨x, e0, _, hq⟩ := DataW.trod_int Tryz.underlying5 f0
      obtain ⟨A, n, c, za, SA⟩ := open_sl (c := s1) f1 (fun x hx => hlt x (by simp [hx]))
      obtain ⟨q, e1, _, _⟩ := DataW.trod_int Tryz.underlying3 f2
      simp only [List.drop, List.take, List.cons.injEq, and_true] at e0 e1
      exact ⟨x, A, n, c, za, q, by rw [SA.eq, e0, e1], hq, SA.rd, SA.len, SA.cap, SA.top⟩
end
end Go.Proofs.YtaadhpkpekmfoaaGreat
