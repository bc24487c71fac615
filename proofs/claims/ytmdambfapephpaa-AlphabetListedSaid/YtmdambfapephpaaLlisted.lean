/- The walk of the law AlphabetListed. -/
import Derived.Test.YtmdambfapephpaaNamesOf
import Derived.Test.YtmdambfapephpaaSets
import Derived.Deep.QuietTactic
import Derived.BigQuiet
namespace Go.Proofs.Ytmdambfapephpaa
open Go.RowKit Go.WideMaps Go.Maps

theorem aNames_err1 (A C : Option Addr) (n c m d : Nat) (l : List Ev) (w : World) (hx : RdE w w.heap.size A l) (hn : l.length = n) (hb : n * 40 ≤ 140737488351232) (hs : ∀ x ∈ l, x.name.size ≤ maxLen) (v : Int) (hv : chE l = v) (h0 : v ≠ 0) :
    Calls Try.prog 39 #[.slice A n c, .slice C m d] w fun e w' => GivesS w [] v e w' := by
  have HC := Lib.hid (aCheck_any A n c l w hx hn hb hs)
  rw [hv] at HC
  have hv0 : (v != 0) = true := by simpa using h0
  clear hn hs hv h0
  go_enter Try.func39, Try.ntmps39
  go_wp2_with (go_at_call 16; refine HC.out.mono ?_; rintro e w1 ⟨rfl, hbel⟩)
  go_ret2
  exact ⟨none, 0, rfl, RdS.nil _ _ _, hbel⟩
theorem aNames_err2 (A C : Option Addr) (n c m d : Nat) (l : List Ev) (zs : List Int) (w : World) (hx : RdE w w.heap.size A l) (hy : RdI w w.heap.size C zs) (hn : l.length = n) (hm : zs.length = m) (hb : n * 40 ≤ 140737488351232) (hb' : m * 16 ≤ 140737488351232) (hs : ∀ x ∈ l, x.name.size ≤ maxLen)
    (h0 : chE l = 0) (v : Int) (hv : csE n zs = v) (h1 : v ≠ 0) :
    Calls Try.prog 39 #[.slice A n c, .slice C m d] w fun e w' => GivesS w [] v e w' := by
  have HC := Lib.hid (aCheck_any A n c l w hx hn hb hs)
  rw [h0] at HC
  have HS := Lib.hid (fun w1 (h : RdI w1 w.heap.size C zs) => aCheckSet_any C m d w.heap.size zs n w1 h hm (by omega))
  rw [hv] at HS
  have HY := Lib.hid hy
  have hv0 : (v != 0) = true := by simpa using h1
  clear hn hs hv h0 h1 hm hy
  go_enter Try.func39, Try.ntmps39
  go_wp2_with (first
    | (go_at_call 16; refine HC.out.mono ?_; rintro e w1 ⟨rfl, hbel⟩)
    | (go_at_call 22; refine (HS.out _ (HY.out.below hbel (Nat.le_refl _))).mono ?_; rintro e w2 ⟨rfl, rfl⟩))
  go_ret2
  exact ⟨none, 0, rfl, RdS.nil _ _ _, hbel⟩

theorem nm_get {l : List Ev} {zs : List Int} {k j : Nat} {x : Ev} (h : k < zs.length) (hz : zs.getD k 0 = (j : Int)) (hx : l[j]? = some x) : (nmOf l zs).getD k ByteArray.empty = x.name := by
  have e : zs.getD k 0 = zs[k] := by simp [List.getD, List.getElem?_eq_getElem h]
  unfold nmOf
  rw [List.getD, List.getElem?_map, List.getElem?_eq_getElem h, ← e, hz]
  simp [hx]
theorem beq_refl_ba (a : ByteArray) : (a.toList == a.toList) = true := by simp

set_option maxHeartbeats 1600000 in
theorem lawListed (A : Option Addr) (n c : Nat) (l : List Ev) (C : Option Addr) (m d : Nat) (zs : List Int) (w : World) (hx : RdE w w.heap.size A l) (hn : l.length = n) (hf : ∀ x ∈ l, x.name.size ≤ maxLen ∧ (Lit.int .i64 x.fault).wf = true) (hnc : n ≤ c)
    (hy : RdI w w.heap.size C zs) (hm : zs.length = m) (_hw : ∀ z ∈ zs, (Lit.int .i64 z).wf = true) :
    Calls Try.prog 10 #[.slice A n c, .slice C m d] w fun e w' => e = .returned (.bool true) ∧ Below w.heap.size w w' := by
  have HK := Lib.hid known_any
  have HX := Lib.hid (fun w1 (h : Below w.heap.size w w1) => hx.below h (Nat.le_refl _))
  have HY := Lib.hid (fun w1 (h : Below w.heap.size w w1) => hy.below h (Nat.le_refl _))
  have H1 := Lib.hid (fun w1 (h : Below w.heap.size w w1) => few_any A n c w.heap.size l w1 (HX.out w1 h) hn)
  cases hfew : fewB l
  · clear hn hf hm
    go_enter Try.func10, Try.ntmps10
    go_wp2_with fail
    refine (HK.out _).mono ?_
    rintro e w1 ⟨rfl, hb1⟩
    go_wp2_with fail
    refine (H1.out _ hb1).mono ?_
    rintro e w2 ⟨rfl, rfl⟩
    go_wp2_with fail
    refine (HK.out _).mono ?_
    rintro e w2 ⟨rfl, hb2⟩
    go_wp2
    go_ret
    exact ⟨rfl, hb1.trans (hb2.mono hb1.size)⟩
  · by_cases hm40 : 40 < m
    · clear hn hf hm
      go_enter Try.func10, Try.ntmps10
      go_wp2_with fail
      refine (HK.out _).mono ?_
      rintro e w1 ⟨rfl, hb1⟩
      go_wp2_with fail
      refine (H1.out _ hb1).mono ?_
      rintro e w2 ⟨rfl, rfl⟩
      go_wp2_with fail
      refine (HK.out _).mono ?_
      rintro e w2 ⟨rfl, hb2⟩
      go_wp2
      go_ret
      exact ⟨rfl, hb1.trans (hb2.mono hb1.size)⟩
    · obtain ⟨hl, hnm⟩ := few_out hfew
      have HR := Lib.hid (fun w1 (h : Below w.heap.size w w1) => r1Check_any A n c l w1 ((HX.out w1 h).more h.size) hn hnc (fun x hx => (hf x hx).1))
      have HS := Lib.hid (fun w1 (h : Below w.heap.size w w1) => r1CheckSet_any C m d w.heap.size zs n w1 (HY.out w1 h) hm (by omega))
      obtain ⟨v, hv⟩ : ∃ v, chE l = v := ⟨_, rfl⟩
      rw [hv] at HR
      by_cases h0 : v = 0
      · subst h0
        obtain ⟨u, hu⟩ : ∃ u, csE n zs = u := ⟨_, rfl⟩
        rw [hu] at HS
        by_cases h1 : u = 0
        · subst h1
          have HC := Lib.hid (fun w1 (h : Below w.heap.size w w1) => aNames_ok A C n c m d l zs w1 ((HX.out w1 h).more h.size) ((HY.out w1 h).more h.size) hn hm (by omega) (by omega) (fun x hx => (hf x hx).1) hv hu)
          have HN := Lib.hid hn
          have HM := Lib.hid hm
          have HRG := Lib.hid (cs_range_ok hu)
          have hnl : (nmOf l zs).length = m := by unfold nmOf; rw [List.length_map]; exact hm
          clear hn hm hf hl hnm hx hy hv hu
          go_enter Try.func10, Try.ntmps10
          go_wp2_with fail
          refine (HK.out _).mono ?_
          rintro e w1 ⟨rfl, hb1⟩
          go_wp2_with fail
          refine (H1.out _ hb1).mono ?_
          rintro e w2 ⟨rfl, rfl⟩
          go_wp2_with fail
          refine (HC.out _ hb1).mono ?_
          rintro e w2 ⟨A2, c2, rfl, hr2, hb2⟩
          rw [hnl]
          have HNL := Lib.hid hnl
          clear hnl
          have hb12 := hb1.trans (hb2.mono hb1.size)
          go_wp2_with fail
          refine (HR.out _ hb12).mono ?_
          rintro e w3 ⟨rfl, hb3⟩
          have hb13 := hb12.trans (hb3.mono hb12.size)
          have hr3 := hr2.below hb3 (Nat.le_refl _)
          go_wp2_with fail
          refine (HS.out _ hb13).mono ?_
          rintro e w4 ⟨rfl, q4, hq4⟩
          have hb34 : Below w3.heap.size w3 w4 := below_of_draws ⟨q4, hq4⟩
          have hb14 := hb13.trans (hb34.mono hb13.size)
          have hr4 := Lib.hid (hr3.below hb34 hb3.size)
          have HX4 := Lib.hid (HX.out _ hb14)
          have HY4 := Lib.hid (HY.out _ hb14)
          clear hq4 hr2 hr3
          go_wp2_with fail
          go_loopw [8] (fun i wr => ∃ k : Nat, k ≤ m ∧ i = .int .i64 k ∧ ∃ q, wr = w4.drewN q) (fun i _ => m - (intOf i).toNat)
          case atStart => exact ⟨0, Nat.zero_le _, rfl, 0, rfl⟩
          case round =>
            obtain ⟨k, hk, rfl, q, rfl⟩ := hrel
            by_cases hlt : k < m
            · have hz : k < zs.length := by rw [HM.out]; exact hlt
              obtain ⟨b2, o2, rfl, _, hc2⟩ := HY4.out (by omega)
              have hzr := HRG.out k hz
              obtain ⟨z, hzz⟩ : ∃ z, z = zs.getD k 0 := ⟨_, rfl⟩
              have hcz := hc2 k hz
              rw [← hzz] at hzr hcz
              obtain ⟨j, rfl⟩ := Int.eq_ofNat_of_zero_le hzr.1
              have HZ := Lib.hid hzz
              have hjn : j < n := by omega
              have hjl : j < l.length := by rw [HN.out]; exact hjn
              obtain ⟨b1, o1, rfl, _, hc1⟩ := HX4.out (by omega)
              obtain ⟨x, hxe⟩ : ∃ x, l[j]? = some x := ⟨_, List.getElem?_eq_getElem hjl⟩
              have hg := (hc1 j x hxe).1
              obtain ⟨nm, hnm⟩ : ∃ nm, nm = x.name := ⟨_, rfl⟩
              rw [← hnm] at hg
              obtain ⟨b3, o3, rfl, _, hc3⟩ := hr4.out (by rw [HNL.out]; omega)
              have hgs := hc3 k (by rw [HNL.out]; exact hlt)
              rw [nm_get hz HZ.out.symm hxe, ← hnm] at hgs
              have hbr : (nm.toList != nm.toList) = false := by simp
              clear hc1 hc2 hc3 hxe hnm hjl hz hzz hzr
              go_wp2
              go_quiet (fail)
              go_wp2
              go_roundw
              case rel => exact ⟨k + 1, by omega, by go_num, by first | exact ⟨_, rfl⟩ | exact dr_add _ _ _⟩
              case measure => simp [intOf]; omega
            · have hkm : k = m := by omega
              clear hkm
              go_wp2
              go_ret
              exact ⟨rfl, below_drewN hb14 _⟩
        · have HC := Lib.hid (fun w1 (h : Below w.heap.size w w1) => aNames_err2 A C n c m d l zs w1 ((HX.out w1 h).more h.size) ((HY.out w1 h).more h.size) hn hm (by omega) (by omega) (fun x hx => (hf x hx).1) hv u hu h1)
          have hv0 : (u != 0) = true := by simpa using h1
          clear hn hm hf hl hnm hx hy hv hu h1
          go_enter Try.func10, Try.ntmps10
          go_wp2_with fail
          refine (HK.out _).mono ?_
          rintro e w1 ⟨rfl, hb1⟩
          go_wp2_with fail
          refine (H1.out _ hb1).mono ?_
          rintro e w2 ⟨rfl, rfl⟩
          go_wp2_with fail
          refine (HC.out _ hb1).mono ?_
          rintro e w2 ⟨A2, c2, rfl, _, hb2⟩
          have hb12 := hb1.trans (hb2.mono hb1.size)
          go_wp2_with fail
          refine (HR.out _ hb12).mono ?_
          rintro e w3 ⟨rfl, hb3⟩
          have hb13 := hb12.trans (hb3.mono hb12.size)
          go_wp2_with fail
          refine (HS.out _ hb13).mono ?_
          rintro e w4 ⟨rfl, q4, rfl⟩
          go_wp2
          go_ret
          exact ⟨by simp, below_drewN hb13 _⟩
      · have HC := Lib.hid (fun w1 (h : Below w.heap.size w w1) => aNames_err1 A C n c m d l w1 ((HX.out w1 h).more h.size) hn (by omega) (fun x hx => (hf x hx).1) v hv h0)
        have hv0 : (v != 0) = true := by simpa using h0
        have hv1 : (v == 0) = false := by simpa using h0
        clear hn hm hf hl hnm hx hy hv h0
        go_enter Try.func10, Try.ntmps10
        go_wp2_with fail
        refine (HK.out _).mono ?_
        rintro e w1 ⟨rfl, hb1⟩
        go_wp2_with fail
        refine (H1.out _ hb1).mono ?_
        rintro e w2 ⟨rfl, rfl⟩
        go_wp2_with fail
        refine (HC.out _ hb1).mono ?_
        rintro e w2 ⟨A2, c2, rfl, _, hb2⟩
        have hb12 := hb1.trans (hb2.mono hb1.size)
        go_wp2_with fail
        refine (HR.out _ hb12).mono ?_
        rintro e w3 ⟨rfl, hb3⟩
        have hb13 := hb12.trans (hb3.mono hb12.size)
        go_wp2
        go_ret
        exact ⟨by simp, hb13⟩
end Go.Proofs.Ytmdambfapephpaa
