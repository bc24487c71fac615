/- The contract of Parse. -/
import Derived.Test.YtdccmebkoibkhaaWrparse
namespace Go.Proofs.Ytdccmebkoibkhaa
open Go.RowKit Go.WideMaps Go.Maps
set_option linter.unusedVariables false

theorem mapIs_below {w w' : World} {b n B : Nat} {l : List Ev} (h : MapIs w b n l) (hb : Below B w w') (hlt : b < B) : MapIs w' b n l := by
  obtain ⟨D, ⟨es, clock, h1, h2⟩, hv⟩ := h
  exact ⟨D, ⟨es, clock, (hb.block b hlt).trans h1, h2⟩, hv⟩
theorem chFrom_zero {l : List Ev} (h : chE l = 0) : ∀ k, k ≤ l.length → chFrom (l.take k) (l.drop k) = 0 := by
  have h32 : ¬ 32 < l.length := fun e => by rw [chE_long e] at h; omega
  intro k
  induction k with
  | zero => intro _; rw [chE_start h32]; exact h
  | succ k ih =>
    intro hk
    obtain ⟨x, hx⟩ : ∃ x, l[k]? = some x := ⟨_, List.getElem?_eq_getElem (by omega)⟩
    have h1 := ih (by omega)
    by_cases h0 : evE x (fidx (l.take k) x.name.data.toList).isSome = 0
    · exact ch_next hx h1 h0
    · exact absurd (ch_err hx h1 rfl h0).symm h0
theorem ch_fresh {l : List Ev} (h : chE l = 0) {k : Nat} {x : Ev} (hx : l[k]? = some x) : fidx (l.take k) x.name.data.toList = none := by
  have hk := (List.getElem?_eq_some_iff.1 hx).1
  have h1 := chFrom_zero h k (by omega)
  have h0 : evE x (fidx (l.take k) x.name.data.toList).isSome = 0 := by
    by_cases h0 : evE x (fidx (l.take k) x.name.data.toList).isSome = 0
    · exact h0
    · exact absurd (ch_err hx h1 rfl h0).symm h0
  cases e : fidx (l.take k) x.name.data.toList with
  | none => rfl
  | some i =>
    rw [e] at h0
    unfold evE at h0
    by_cases hn : nameB x.name.data.toList = false
    · rw [if_pos hn] at h0; omega
    · rw [if_neg hn] at h0; simp at h0
theorem ch_len {l : List Ev} (h : chE l = 0) : l.length ≤ 32 := by
  rcases Nat.lt_or_ge 32 l.length with h32 | h32
  · rw [chE_long h32] at h; omega
  · exact h32

set_option maxHeartbeats 800000 in
set_option maxRecDepth 4000 in
theorem wParse_err (A : Option Addr) (n c : Nat) (l : List Ev) (s : ByteArray) (w : World) (hx : RdE w w.heap.size A l) (hn : l.length = n) (hb : n ≤ 1000) (hs : ∀ x ∈ l, x.name.size ≤ maxLen) (he : chE l ≠ 0) :
    Calls Try.prog 40 #[.slice A n c, .string s] w fun e w' => e = .returned (.tuple #[.slice none 0 0, .int .i64 0, .int .i64 (chE l)]) ∧ Below w.heap.size w w' := by
  have H := Lib.hid (aCheck_any A n c l w hx hn (by omega) hs)
  obtain ⟨v, hv⟩ : ∃ v, v = chE l := ⟨_, rfl⟩
  rw [← hv] at H he ⊢
  have h1 : (v == 0) = false := by simpa using he
  have h2 : (v != 0) = true := by simpa using he
  clear hx hn hs hv
  go_enter Try.func40, Try.ntmps40
  go_wp2_with fail
  refine H.out.mono ?_
  rintro e w1 ⟨rfl, hb1⟩
  have HB := Lib.hid hb1
  clear hb1
  go_wp2_with fail
  go_ret3
  exact ⟨rfl, HB.out⟩
set_option maxHeartbeats 800000 in
set_option maxRecDepth 4000 in
theorem wParse_long (A : Option Addr) (n c : Nat) (l : List Ev) (s : ByteArray) (w : World) (hx : RdE w w.heap.size A l) (hn : l.length = n) (hb : n ≤ 1000) (hs : ∀ x ∈ l, x.name.size ≤ maxLen) (he : chE l = 0) (hl : 65536 < s.size) (hm : s.size ≤ 1000000) :
    Calls Try.prog 40 #[.slice A n c, .string s] w fun e w' => e = .returned (.tuple #[.slice none 0 0, .int .i64 0, .int .i64 15]) ∧ Below w.heap.size w w' := by
  have H := Lib.hid (aCheck_any A n c l w hx hn (by omega) hs)
  rw [he] at H
  have h1 : (65536 : Int) < (s.size : Int) := by omega
  have h2 : decide ((65536 : Int) < (s.size : Int)) = true := by simp; omega
  clear hx hn hs he
  go_enter Try.func40, Try.ntmps40
  go_wp2_with fail
  refine H.out.mono ?_
  rintro e w1 ⟨rfl, hb1⟩
  have HB := Lib.hid hb1
  clear hb1
  go_wp2_with fail
  go_ret3
  exact ⟨rfl, HB.out⟩

set_option maxHeartbeats 4000000 in
set_option maxRecDepth 100000 in
theorem wParse_ok (A : Option Addr) (n c : Nat) (l : List Ev) (s : ByteArray) (w : World) (hx : RdE w w.heap.size A l) (hn : l.length = n) (hs : ∀ x ∈ l, x.name.size ≤ maxLen) (he : chE l = 0) (hm : s.size ≤ 1000) :
    Calls Try.prog 40 #[.slice A n c, .string s] w (GivesP (rz l s.data.toList s.size 0 []) w) := by
  have hn32 : n ≤ 32 := by rw [← hn]; exact ch_len he
  have H := Lib.hid (aCheck_any A n c l w hx hn (by omega) hs)
  rw [he] at H
  have hmm := run_makeMapHint (P := Try.prog) 78 9 3 .i64 n Try.underlying78
  have HX := Lib.hid hx
  have HN := Lib.hid hn
  have HS := Lib.hid hs
  have HF := Lib.hid (fun (k : Nat) (x : Ev) (h : l[k]? = some x) => ch_fresh he h)
  obtain ⟨ans, hans⟩ : ∃ a, a = rz l s.data.toList s.size 0 [] := ⟨_, rfl⟩
  have HA := Lib.hid (show pz l s.data.toList (s.size + 1) 0 [] = ans by
    rw [hans, pz_rz (s.size + 1) 0 [] ⟨Nat.zero_le _, .inl rfl⟩ (by rw [size_data]; omega) (by simp), size_data]; rfl)
  rw [← hans]
  have HSZ := Lib.hid (size_data s)
  have hl1 : ¬ (65536 : Int) < (s.size : Int) := by omega
  have hl2 : decide ((65536 : Int) < (s.size : Int)) = false := by simp; omega
  clear hx hn hs he hans
  go_enter Try.func40, Try.ntmps40
  go_wp2_with fail
  refine H.out.mono ?_
  rintro e w1 ⟨rfl, hb1⟩
  have B1 := Lib.hid hb1
  have hw1 := B1.out.size
  clear hb1
  go_wp2_with fail
  go_loopw [28] (fun i wr => ∃ k : Nat, k ≤ n ∧ i = .int .i64 k ∧ Hid (MapIs wr w1.heap.size k (l.take k)) ∧ Below w1.heap.size w1 wr) (fun i _ => n - (intOf i).toNat)
  case atStart => exact ⟨0, Nat.zero_le _, rfl, ⟨_, World.ownsMap_made _ _ _ _, View.start⟩, (Below.refl _ _).alloc (Nat.le_refl _) _⟩
  case round =>
    obtain ⟨k, hk, rfl, hmap, hnx⟩ := hrel
    by_cases hlt : k < n
    · obtain ⟨b1, o1, rfl, hbB, hc1⟩ := (HX.out.below B1.out (Nat.le_refl _)) (by rw [HN.out]; omega)
      have hz : k < l.length := by rw [HN.out]; exact hlt
      obtain ⟨x, hxe⟩ : ∃ x, l[k]? = some x := ⟨_, List.getElem?_eq_getElem hz⟩
      have hc := hc1 k x hxe
      clear hc1
      have HXE := Lib.hid hxe
      have hf := HF.out _ _ hxe
      clear hxe
      obtain ⟨D, hown, hview⟩ := hmap.out
      clear hmap
      obtain ⟨nm, cn, ob, fr, fl⟩ := x
      obtain ⟨g1, g2, g3, g4, g5⟩ : EvAt wr b1 (o1 + k * 5) ⟨nm, cn, ob, fr, fl⟩ := hc.keep fun o => hnx.cell (by exact Nat.lt_of_lt_of_le hbB hw1)
      clear hc
      dsimp only at g1 g2 g3 g4 g5 hf
      have hkey : keyOf Try.prog 9 (.string nm) = some (.string nm.data.toList) := keyOf_string_mk Try.underlying9 (HS.out _ (List.mem_of_getElem? HXE.out))
      have hnew : View (D.put (.string nm.data.toList) (.lit (.int .i64 (k : Int)))) (l.take (k + 1)) := by
        have h := hview.new (x := ⟨nm, cn, ob, fr, fl⟩) hf
        rw [take_len (by omega)] at h
        rw [take_snoc_ev HXE.out]; exact h
      have HV := Lib.hid hnew
      clear hview hnew hf
      go_wp2_with (at_mapUpdate; refine wpList_mapUpdate_own _ rfl _ _ _ 78 rfl 9 3 keyLaw Try.underlying78 _ w1.heap.size k D rfl (hown.alloc _) (by unfold maxLen; omega) _ _ _ rfl rfl hkey (.lit (.int .i64 (k : Int))) [] (plainElem_int Try.underlying3 ?cwf) ?_)
      case cwf => exact nat_wf k (by omega)
      intro w2 hown1 hgrow1
      have HO1 := Lib.hid hown1
      have HB1 := Lib.hid ((hnx.alloc hnx.size (.cells #[.string nm, .bool cn, .bool ob, .bool fr, .int .i64 fl] 75)).grown hgrow1 (hnx.alloc hnx.size _).size (fun j hj => by cases hj; exact Nat.le_refl _))
      clear hown1 hgrow1
      go_wp2_with fail
      go_roundw
      case rel => exact ⟨k + 1, by omega, by go_num, ⟨_, HO1.out, HV.out⟩, HB1.out⟩
      case measure => simp [intOf]; omega
    · have hk1 : ¬ (k : Int) < (n : Int) := by omega
      have HM := Lib.hid (show MapIs wr w1.heap.size n l by
        have h := hmap.out
        rwa [show k = n from by omega, List.take_of_length_le (by rw [HN.out]; exact Nat.le_refl _)] at h)
      have HBM := Lib.hid (B1.out.trans (hnx.mono hw1))
      have hMlt : w1.heap.size < wr.heap.size := by
        obtain ⟨D, ho, _⟩ := HM.out
        exact ho.lt
      have hwr := HBM.out.size
      obtain ⟨wM, rfl⟩ : ∃ wo : World, wo = wr := ⟨_, rfl⟩
      clear hmap hnx hk hlt
      have NP := Lib.hid (fun (i : Nat) (W : World) (hi : i ≤ s.size) => nextPart_any s i W (by omega) hi)
      go_wp2_with fail
      refine (NP.out 0 _ (Nat.zero_le _)).mono ?_
      rintro e w' ⟨rfl, rfl⟩
      go_wp2_with fail
      go_loopw [4, 11, 12] (fun v x y wr => ∃ (pos m p1 p2 : Nat) (acc : List Int), pos ≤ s.size ∧ x = .int .i64 p1 ∧ y = .int .i64 p2 ∧ Hid (p1 = ptS s.data.toList pos ∧ p2 = ptE s.data.toList pos) ∧ Hid (Own wr wM.heap.size v acc) ∧ Hid (acc.length ≤ pos) ∧ Hid (s.size - pos < m ∧ pz l s.data.toList m pos acc = ans) ∧ Hid (Below wM.heap.size wM wr)) (fun _ x _ _ => s.size - (intOf x).toNat)
      case atStart => exact ⟨0, s.size + 1, _, _, [], Nat.zero_le _, rfl, rfl, ⟨rfl, rfl⟩, World.ownsRow_nil _ _ _ _, Nat.le_refl _, ⟨by omega, HA.out⟩, Below.refl _ _⟩
      case round =>
        obtain ⟨pos, m, p1, p2, acc, hpos, rfl, rfl, hpp, ho, hlen, hpz, hnx⟩ := hrel
        obtain ⟨q1, q2, q3, q4⟩ := pt_le (s := s.data.toList) (i := pos) (by rw [HSZ.out]; exact hpos)
        rw [← hpp.out.1, ← hpp.out.2] at q3
        rw [← hpp.out.1] at q1
        rw [← hpp.out.2, HSZ.out] at q4
        clear q2
        obtain ⟨m', rfl⟩ : ∃ m', m = m' + 1 := ⟨m - 1, by have := hpz.out.1; omega⟩
        have hfu := hpz.out.1
        have hst := hpz.out.2
        rw [pz, ← hpp.out.1, ← hpp.out.2] at hst
        have hal := hlen.out
        obtain ⟨A7, c7, rfl, hr7, _, _⟩ := own_rdc ho.out
        have HR7 := Lib.hid hr7
        have HPZ := Lib.hid hst
        clear hr7 hst hpz
        have hws := hnx.out.size
        by_cases hlt : p1 < p2
        · have e1 : (p1 : Int) < (p2 : Int) := by omega
          have e2 : (p1 : Int) ≤ (p2 : Int) := by omega
          have e3 : (p2 : Int) ≤ (s.size : Int) := by omega
          have e4 : ((acc.length : Int) == 4096) = false := by simp; omega
          obtain ⟨D, hown, hview⟩ := mapIs_below HM.out hnx.out hMlt
          have hpart := ext_part s p1 p2 (by rw [hpp.out.2, hpp.out.1]; rfl) q4
          have hkey : keyOf Try.prog 9 (.string (s.extract p1 p2)) = some (.string (s.extract p1 p2).data.toList) := keyOf_string_mk Try.underlying9 (by rw [ByteArray.size_extract]; unfold maxLen; omega)
          obtain ⟨hv, ha⟩ := hview.2 (s.extract p1 p2).data.toList
          have eL : (s.extract p1 p2).data.toList = List.take (p2 - p1) (List.drop p1 s.data.toList) := by rw [ByteArray.data_extract, Array.toList_extract, List.extract_eq_take_drop]
          have hpz2 := Lib.hid (show (if fndZ l (s.extract p1 p2).data.toList < 0 then (⟨[], p1, 9⟩ : PAns) else pz l s.data.toList m' p2 (acc ++ [fndZ l (s.extract p1 p2).data.toList])) = ans by
            have h := HPZ.out
            rw [if_neg (show ¬ p2 ≤ p1 by omega), if_neg (show ¬ acc.length = 4096 by omega), ← hpart] at h
            exact h)
          have HOW := Lib.hid hown
          clear hpart hview HPZ
          cases hf : fidx l (s.extract p1 p2).data.toList with
          | none =>
            rw [hf] at hv
            have hb1 : Maps.has D (.string (s.extract p1 p2).data.toList) = false := hv
            have hb2 : Maps.has D (.string (List.take (p2 - p1) (List.drop p1 s.data.toList))) = false := by rw [← eL]; exact hb1
            have hfin := Lib.hid (show (⟨[], p1, 9⟩ : PAns) = ans by
              have h := hpz2.out
              rw [show fndZ l (s.extract p1 p2).data.toList = -1 by unfold fndZ; rw [hf]] at h
              exact h)
            clear hpz2 hf ha hv eL
            go_wp2_with (at_lookup; refine wpList_lookup_own_ok_int _ rfl _ _ 78 rfl 9 3 .i64 keyLaw Try.underlying78 Try.underlying3 (zeroInt _) w1.heap.size n D rfl HOW.out _ _ rfl hkey ?_; intro cc _ _)
            go_ret3
            exact ⟨none, 0, by rw [← hfin.out]; rfl, by rw [← hfin.out]; exact RdI.nil _ _ _, HBM.out.trans (hnx.out.mono hwr)⟩
          | some j =>
            rw [hf] at hv ha
            have hb1 : Maps.has D (.string (s.extract p1 p2).data.toList) = true := hv
            have hb2 : Maps.has D (.string (List.take (p2 - p1) (List.drop p1 s.data.toList))) = true := by rw [← eL]; exact hb1
            have hfin := Lib.hid (show pz l s.data.toList m' p2 (acc ++ [(j : Int)]) = ans by
              have h := hpz2.out
              rw [show fndZ l (s.extract p1 p2).data.toList = (j : Int) by unfold fndZ; rw [hf]] at h
              rwa [if_neg (by omega)] at h)
            have HAK := Lib.hid ha
            clear hpz2 hf ha hv eL
            have hac : acc.length ≤ 2000 := by omega
            go_wp2_with (first
              | (at_lookup; refine wpList_lookup_own_ok_int _ rfl _ _ 78 rfl 9 3 .i64 keyLaw Try.underlying78 Try.underlying3 (zeroInt _) w1.heap.size n D rfl HOW.out _ _ rfl hkey ?_; intro cc hcc _
                 have hcj : cc = (j : Int) := by
                   have h := hcc.symm.trans HAK.out
                   injection h with h; injection h with _ h
                 subst hcj
                 clear hcc)
              | (at_builtin; refine wpList_app_at rfl (.tmp 68) (.tmp 70) rfl wM.heap.size _ _ rfl (ho.out.alloc _) _ _ 1 1 [(j : Int)] rfl (rd_lit1 _ _ _ (Nat.lt_succ_self _)) rfl (by omega) (by simp; omega) ?_))
            intro v' w3 hown3 hgrow3 _
            have HO3 := Lib.hid hown3
            have HB3 := Lib.hid ((hnx.out.alloc hws _).grown hgrow3 (by simp; omega) (fun j hj => (ho.out.lt j hj).1))
            have HL3 := Lib.hid (show (acc ++ [(j : Int)]).length ≤ p2 by simp; omega)
            have HZ3 := Lib.hid (show s.size - p2 < m' ∧ pz l s.data.toList m' p2 (acc ++ [(j : Int)]) = ans from ⟨by omega, hfin.out⟩)
            have hq2 : p1 < ptS s.data.toList p2 := by have := (pt_le (s := s.data.toList) (i := p2) (by rw [HSZ.out]; exact q4)).1; omega
            clear hown3 hgrow3
            go_wp2_with fail
            refine (NP.out p2 _ q4).mono ?_
            rintro e w' ⟨rfl, rfl⟩
            go_wp2_with fail
            go_roundw
            case rel => exact ⟨p2, m', _, _, _, q4, rfl, rfl, ⟨rfl, rfl⟩, HO3, HL3, HZ3, HB3⟩
            case measure => simp [intOf]; omega
        · have e1 : ¬ (p1 : Int) < (p2 : Int) := by omega
          have hfin := Lib.hid (show (⟨acc, 0, 0⟩ : PAns) = ans by have h := HPZ.out; rwa [if_pos (show p2 ≤ p1 by omega)] at h)
          clear HPZ
          go_wp2_with fail
          go_ret3
          exact ⟨A7, c7, by rw [← hfin.out]; rfl, by rw [← hfin.out]; exact HR7.out, HBM.out.trans (hnx.out.mono hwr)⟩
end Go.Proofs.Ytdccmebkoibkhaa
