/- The contract of Find, and the walk of the law AlphabetFinds. -/
import Derived.Test.YtmdambfapephpaaEqual
import Derived.Laws.AppendOwnNone
namespace Go.Proofs.Ytmdambfapephpaa
open Go.RowKit Go.WideMaps Go.Maps

theorem info_ev : (Try.prog.info? 31).map (fun i => (i.zero, i.size, i.bytes)) = some (some (.agg #[.string ByteArray.empty, .bool false, .bool false, .bool false, .int .i64 0]), 5, 32) := by kernel_rfl

def evCells (x : Ev) : List Value := [.string x.name, .bool x.con, .bool x.obs, .bool x.frc, .int .i64 x.fault]
def flat (l : List Ev) : List Value := l.flatMap evCells
theorem flat_len (l : List Ev) : (flat l).length = l.length * 5 := by
  unfold flat; rw [List.length_flatMap]
  induction l with
  | nil => rfl
  | cons x r ih => simp only [List.map_cons, List.sum_cons, List.length_cons, ih]; simp [evCells]; omega
theorem flat_get : ∀ (l : List Ev) (j : Nat) (x : Ev) (t : Nat), l[j]? = some x → t < 5 → (flat l)[j * 5 + t]? = (evCells x)[t]?
  | [], j, x, t, h, _ => by simp at h
  | y :: r, 0, x, t, h, ht => by
    simp at h; subst h
    unfold flat
    rw [List.flatMap_cons, Nat.zero_mul, Nat.zero_add, List.getElem?_append_left (by simp [evCells]; omega)]
  | y :: r, j + 1, x, t, h, ht => by
    have h' : r[j]? = some x := by simpa using h
    have ih := flat_get r j x t h' ht
    unfold flat at *
    rw [List.flatMap_cons, List.getElem?_append_right (by simp [evCells]; omega), ← ih]
    congr 1
    simp [evCells]; omega
theorem flat_one (l : List Ev) : ∀ u ∈ flat l, u.oneCell' = true := by
  intro u hu
  obtain ⟨x, _, hx⟩ := List.mem_flatMap.1 hu
  simp only [evCells, List.mem_cons, List.mem_nil_iff, or_false] at hx
  rcases hx with rfl | rfl | rfl | rfl | rfl <;> rfl
theorem rdE_cells {w : World} {b o : Nat} {l : List Ev} (hc : ∀ j x, l[j]? = some x → EvAt w b (o + j * 5) x) : ∀ i u, (flat l)[i]? = some u → w.cell? ((⟨b, o, none⟩ : Addr).add i) = some u := by
  intro i u hu
  have hi : i < l.length * 5 := by rw [← flat_len]; exact (List.getElem?_eq_some_iff.1 hu).1
  have hj : i / 5 < l.length := by omega
  obtain ⟨x, hx⟩ : ∃ x, l[i / 5]? = some x := ⟨_, List.getElem?_eq_getElem hj⟩
  have hf := flat_get l (i / 5) x (i % 5) hx (by omega)
  rw [show i / 5 * 5 + i % 5 = i from by omega] at hf
  rw [hf] at hu
  obtain ⟨g0, g1, g2, g3, g4⟩ := hc _ x hx
  have ea : ((⟨b, o, none⟩ : Addr).add i) = ⟨b, o + i / 5 * 5 + i % 5, none⟩ := by
    rw [show o + i / 5 * 5 + i % 5 = o + i from by omega]; unfold Addr.add; split <;> simp_all
  rw [ea]
  have h5 : i % 5 = 0 ∨ i % 5 = 1 ∨ i % 5 = 2 ∨ i % 5 = 3 ∨ i % 5 = 4 := by omega
  rcases h5 with e | e | e | e | e <;> rw [e] at hu ⊢ <;> simp only [evCells, List.getElem?_cons_zero, List.getElem?_cons_succ, Option.some.injEq] at hu <;> subst hu
  · exact g0
  · exact g1
  · exact g2
  · exact g3
  · exact g4
abbrev OwnE (w : World) (base : Nat) (v : Value) (l : List Ev) : Prop := w.ownsRow base 31 5 v l.length (flat l)
theorem owne_rd {w : World} {base : Nat} {v : Value} {l : List Ev} (h : OwnE w base v l) : ∃ A c, v = .slice A l.length c ∧ RdE w w.heap.size A l := by
  rcases h.2 with ⟨rfl, h0⟩ | ⟨g, cap, cur, rfl, hg, hh, hn, hcap, hsz, htake⟩
  · rw [h0]; exact ⟨none, 0, rfl, fun h => by omega⟩
  · refine ⟨some ⟨g, 0, none⟩, cap, rfl, fun _ => ⟨g, 0, rfl, (h.lt g rfl).2, fun j x hj => ?_⟩⟩
    have hjl := (List.getElem?_eq_some_iff.1 hj).1
    have hat : ∀ t, t < 5 → w.cell? ⟨g, 0 + j * 5 + t, none⟩ = (evCells x)[t]? := fun t ht => by
      rw [World.ownsRow.cellAt (cap := cap) h (0 + j * 5 + t) (by omega), Nat.zero_add, flat_get l j x t hj ht]
    exact ⟨hat 0 (by omega), hat 1 (by omega), hat 2 (by omega), hat 3 (by omega), hat 4 (by omega)⟩

set_option maxHeartbeats 800000 in
theorem aFind_any (A : Option Addr) (n c : Nat) (l : List Ev) (nm : ByteArray) (w : World) (hx : RdE w w.heap.size A l) (hn : l.length = n) (hb : n * 40 ≤ 140737488351232) (hs : ∀ x ∈ l, x.name.size ≤ maxLen) (hnm : nm.size ≤ maxLen) (i : Nat) (r : Bool)
    (hi : (fidx l nm.data.toList).getD 0 = i) (hr : (fidx l nm.data.toList).isSome = r) :
    Calls Try.prog 18 #[.slice A n c, .string nm] w fun e w' => e = .returned (.tuple #[.int .i64 i, .bool r]) ∧ Below w.heap.size w w' := by
  have H := Lib.hid (first_any A n c l w hx hn hb hs)
  have HI := Lib.hid hi
  have HR := Lib.hid hr
  have hkey : keyOf Try.prog 9 (.string nm) = some (.string nm.data.toList) := keyOf_string_mk Try.underlying9 hnm
  clear hn hs hi hr hx
  go_enter Try.func18, Try.ntmps18
  go_wp2_with fail
  refine H.out.mono ?_
  rintro e w1 ⟨rfl, ⟨D, hown, hview⟩, hbel⟩
  have hv := hview.2 nm.data.toList
  rw [HI.out, HR.out] at hv
  have hb1 : Maps.has D (.string nm.data.toList) = r := hv.1
  have HV := Lib.hid hv.2
  clear hv hview H
  go_wp2_with (at_lookup; refine wpList_lookup_own_ok_int _ rfl _ _ 58 rfl 9 3 .i64 keyLaw Try.underlying58 Try.underlying3 (zeroInt _) w.heap.size n D rfl hown _ _ rfl hkey ?_; intro cc hcc _; have HCC := Lib.hid (lit_inj (hcc.symm.trans HV.out)); clear hcc)
  go_ret2
  exact ⟨by rw [HCC.out]; rfl, hbel⟩

theorem wpList_wanted {P : Program} {ops : Array Oper} {rest : List Oper} {o : Oper} {a : Act} {w : World} {Q : Exit → Act → World → Prop} (hw : Region.wanted o (yielded ops a.tmps) = true)
    (h : ∀ K : Act → World → Prop, (∀ a w, wpList P ops Q rest a w → K a w) → o.wp P a w K Q) : wpList P ops Q (o :: rest) a w :=
  wpList_step fun K hK => by rw [if_pos hw]; exact h K hK

set_option maxHeartbeats 3200000 in
theorem lawFinds (A : Option Addr) (n c : Nat) (l : List Ev) (C : Option Addr) (m d : Nat) (l2 : List Ev) (nm : ByteArray) (w : World) (hx : RdE w w.heap.size A l) (hn : l.length = n) (hf : ∀ x ∈ l, x.name.size ≤ maxLen ∧ (Lit.int .i64 x.fault).wf = true)
    (hy : RdE w w.heap.size C l2) (hm : l2.length = m) (_hf2 : ∀ x ∈ l2, x.name.size ≤ maxLen ∧ (Lit.int .i64 x.fault).wf = true) (hnm : nm.size ≤ maxLen) :
    Calls Try.prog 5 #[.slice A n c, .slice C m d, .string nm] w fun e w' => e = .returned (.bool true) ∧ Below w.heap.size w w' := by
  have HK := Lib.hid known_any
  have HX := Lib.hid (fun w1 (h : Below w.heap.size w w1) => hx.below h (Nat.le_refl _))
  have HY := Lib.hid (fun w1 (h : Below w.heap.size w w1) => hy.below h (Nat.le_refl _))
  have H1 := Lib.hid (fun w1 (h : Below w.heap.size w w1) => few_any A n c w.heap.size l w1 (HX.out w1 h) hn)
  have H2 := Lib.hid (fun w1 (h : Below w.heap.size w w1) => few_any C m d w.heap.size l2 w1 (HY.out w1 h) hm)
  cases hfew : fewB l
  · clear hn hf hm hx hy
    go_enter Try.func5, Try.ntmps5
    go_wp2_with fail
    refine (HK.out _).mono ?_
    rintro e w1 ⟨rfl, hb1⟩
    go_wp2_with fail
    refine (H1.out _ hb1).mono ?_
    rintro e w2 ⟨rfl, rfl⟩
    go_wp2_with fail
    refine (HK.out _).mono ?_
    rintro e w2 ⟨rfl, hb2⟩
    go_wp2
    go_ret
    exact ⟨rfl, hb1.trans (hb2.mono hb1.size)⟩
  · cases hfew2 : fewB l2
    · clear hn hf hm hx hy
      go_enter Try.func5, Try.ntmps5
      go_wp2_with fail
      refine (HK.out _).mono ?_
      rintro e w1 ⟨rfl, hb1⟩
      go_wp2_with fail
      refine (H1.out _ hb1).mono ?_
      rintro e w2 ⟨rfl, rfl⟩
      go_wp2_with fail
      refine (H2.out _ hb1).mono ?_
      rintro e w2 ⟨rfl, rfl⟩
      go_wp2_with fail
      refine (HK.out _).mono ?_
      rintro e w2 ⟨rfl, hb2⟩
      go_wp2
      go_ret
      exact ⟨rfl, hb1.trans (hb2.mono hb1.size)⟩
    · by_cases h50 : 50 < nm.size
      · clear hn hf hm hx hy
        go_enter Try.func5, Try.ntmps5
        go_wp2_with fail
        refine (HK.out _).mono ?_
        rintro e w1 ⟨rfl, hb1⟩
        go_wp2_with fail
        refine (H1.out _ hb1).mono ?_
        rintro e w2 ⟨rfl, rfl⟩
        go_wp2_with fail
        refine (H2.out _ hb1).mono ?_
        rintro e w2 ⟨rfl, rfl⟩
        go_wp2_with fail
        refine (HK.out _).mono ?_
        rintro e w2 ⟨rfl, hb2⟩
        go_wp2
        go_ret
        exact ⟨rfl, hb1.trans (hb2.mono hb1.size)⟩
      · obtain ⟨hl, _⟩ := few_out hfew
        obtain ⟨hl2, _⟩ := few_out hfew2
        have hn40 : n ≤ 40 := by omega
        have HF := Lib.hid (fun w1 (h : Below w.heap.size w w1) s hs i r hi hr => aFind_any A n c l s w1 ((HX.out w1 h).more h.size) hn (by omega) (fun x hx => (hf x hx).1) hs i r hi hr)
        have HR := Lib.hid (fun w1 (h : Below w.heap.size w w1) s => r1Find_any A n c w.heap.size l s w1 (HX.out w1 h) hn (by omega))
        have HE := Lib.hid (fun w1 (h : Below w.heap.size w w1) => aEqual_any A C n m c d w.heap.size w.heap.size l l2 w1 (HX.out w1 h) (HY.out w1 h) hn hm (by omega))
        have HQ := Lib.hid (fun w1 (h : Below w.heap.size w w1) => r1Equal_any A C n m c d w.heap.size w.heap.size l l2 w1 (HX.out w1 h) (HY.out w1 h) hn hm (by omega))
        have HS := Lib.hid (fun x (hx : x ∈ l) => (hf x hx).1)
        have HN := Lib.hid hn
        have HNM := Lib.hid hnm
        clear hn hf hm hl hl2 hx hy
        go_enter Try.func5, Try.ntmps5
        go_wp2_with fail
        refine (HK.out _).mono ?_
        rintro e w1 ⟨rfl, hb1⟩
        go_wp2_with fail
        refine (H1.out _ hb1).mono ?_
        rintro e w2 ⟨rfl, rfl⟩
        go_wp2_with fail
        refine (H2.out _ hb1).mono ?_
        rintro e w2 ⟨rfl, rfl⟩
        go_wp2_with fail
        go_loopw [7] (fun i wr => ∃ z : Int, -1 ≤ z ∧ z ≤ n ∧ i = .int .i64 z ∧ Below w.heap.size w wr) (fun i _ => (n - (intOf i)).toNat)
        case atStart => exact ⟨-1, by omega, by omega, rfl, hb1⟩
        case round =>
          obtain ⟨z, hz0, hz1, rfl, hnx⟩ := hrel
          by_cases hlt : z < n
          · by_cases hz : z < 0
            · cases hfi : fidx l nm.data.toList with
              | none =>
                have HFF := Lib.hid (HF.out wr hnx nm HNM.out 0 false (by rw [hfi]; rfl) (by rw [hfi]; rfl))
                have HRR := Lib.hid (fun W h => HR.out W h nm)
                rw [show fndZ l nm.data.toList = -1 from by rw [fndZ, hfi]] at HRR
                clear hfi
                go_wp2_with fail
                refine HFF.out.mono ?_
                rintro e w2 ⟨rfl, hb2⟩
                have hb12 := hnx.trans (hb2.mono hnx.size)
                go_wp2_with fail
                refine (HRR.out _ hb12).mono ?_
                rintro e w3 ⟨rfl, rfl⟩
                go_wp2
                go_roundw
                case rel => exact ⟨_, by omega, by omega, rfl, hb12⟩
                case measure => simp [intOf]; omega
              | some i =>
                have HFF := Lib.hid (HF.out wr hnx nm HNM.out i true (by rw [hfi]; rfl) (by rw [hfi]; rfl))
                have HRR := Lib.hid (fun W h => HR.out W h nm)
                rw [show fndZ l nm.data.toList = (i : Int) from by rw [fndZ, hfi]] at HRR
                have hi40 : i < n := by have := fidx_lt hfi; rw [HN.out] at this; exact this
                clear hfi
                go_wp2_with fail
                refine HFF.out.mono ?_
                rintro e w2 ⟨rfl, hb2⟩
                have hb12 := hnx.trans (hb2.mono hnx.size)
                go_wp2_with fail
                refine (HRR.out _ hb12).mono ?_
                rintro e w3 ⟨rfl, rfl⟩
                go_wp2
                go_roundw
                case rel => exact ⟨_, by omega, by omega, rfl, hb12⟩
                case measure => simp [intOf]; omega
            · obtain ⟨j, rfl⟩ := Int.eq_ofNat_of_zero_le (show 0 ≤ z by omega)
              have hjl : j < l.length := by rw [HN.out]; omega
              obtain ⟨b1, o1, rfl, _, hc1⟩ := HX.out wr hnx (by omega)
              obtain ⟨x, hxe⟩ : ∃ x, l[j]? = some x := ⟨_, List.getElem?_eq_getElem hjl⟩
              have hg := (hc1 j x hxe).1
              have hxs := HS.out x (List.mem_of_getElem? hxe)
              obtain ⟨s, hs⟩ : ∃ s, s = x.name := ⟨_, rfl⟩
              rw [← hs] at hg hxs
              have HXS := Lib.hid hxs
              clear hc1 hs hxs hxe
              cases hfi : fidx l s.data.toList with
              | none =>
                have HFF := Lib.hid (HF.out wr hnx s HXS.out 0 false (by rw [hfi]; rfl) (by rw [hfi]; rfl))
                have HRR := Lib.hid (fun W h => HR.out W h s)
                rw [show fndZ l s.data.toList = -1 from by rw [fndZ, hfi]] at HRR
                clear hfi
                go_wp2_with fail
                refine HFF.out.mono ?_
                rintro e w2 ⟨rfl, hb2⟩
                have hb12 := hnx.trans (hb2.mono hnx.size)
                go_wp2_with fail
                refine (HRR.out _ hb12).mono ?_
                rintro e w3 ⟨rfl, rfl⟩
                go_wp2
                go_roundw
                case rel => exact ⟨_, by omega, by omega, rfl, hb12⟩
                case measure => simp [intOf]; omega
              | some i =>
                have HFF := Lib.hid (HF.out wr hnx s HXS.out i true (by rw [hfi]; rfl) (by rw [hfi]; rfl))
                have HRR := Lib.hid (fun W h => HR.out W h s)
                rw [show fndZ l s.data.toList = (i : Int) from by rw [fndZ, hfi]] at HRR
                have hi40 : i < n := by have := fidx_lt hfi; rw [HN.out] at this; exact this
                clear hfi
                go_wp2_with fail
                refine HFF.out.mono ?_
                rintro e w2 ⟨rfl, hb2⟩
                have hb12 := hnx.trans (hb2.mono hnx.size)
                go_wp2_with fail
                refine (HRR.out _ hb12).mono ?_
                rintro e w3 ⟨rfl, rfl⟩
                go_wp2
                go_roundw
                case rel => exact ⟨_, by omega, by omega, rfl, hb12⟩
                case measure => simp [intOf]; omega
          · have hzn : z = n := by omega
            clear hzn
            go_wp2_with fail
            refine (HE.out _ hnx).mono ?_
            rintro e w2 ⟨⟨r1, rfl, hr1⟩, hq1⟩
            have hb2 : Below w.heap.size w w2 := hnx.trans (below_of_draws hq1)
            clear hq1
            go_wp2_with fail
            refine (HQ.out _ hb2).mono ?_
            rintro e w3 ⟨⟨r2, rfl, hr2⟩, hq2⟩
            have hb3 : Below w.heap.size w w3 := hb2.trans (below_of_draws hq2)
            obtain rfl : r2 = r1 := by rw [Bool.eq_iff_iff, hr1, hr2]
            clear hr1 hr2 hq2
            have hbz := hb3.alloc hb3.size (.cells #[] 31)
            have hX3 := HX.out _ hb3
            have hs3 := hb3.size
            obtain ⟨i0, hi, hz0, hz1, hz2⟩ := info_parts info_ev
            have hown0 : (w3.alloc (.cells #[] 31)).ownsRow w3.heap.size 31 5 (.slice (some ⟨w3.heap.size, 0, none⟩) 0 0) 0 [] := World.ownsRow_lit w3 #[] 0 (Nat.le_refl _) (by unfold maxLen; omega) rfl
            have HAE := Lib.hid (fun w1 B A' d' (h : Below w.heap.size w w1) (hB : RdE w1 B A' l) => aEqual_any A A' n n c d' w.heap.size B l l w1 (HX.out w1 h) hB HN.out HN.out (by omega))
            rcases A with _ | ad
            · have hl0 : l = [] := by
                rcases Nat.eq_zero_or_pos l.length with h | h
                · exact List.eq_nil_of_length_eq_zero h
                · obtain ⟨b, o, e, _⟩ := hX3 h; cases e
              have hn0 : n = 0 := by rw [← HN.out, hl0]; rfl
              subst hn0
              clear hX3 hown0
              have HL := Lib.hid hl0
              clear hl0
              go_wp2_with fail
              refine (HAE.out _ w3.heap.size _ _ hbz (fun h => absurd h (by rw [HL.out]; simp))).mono ?_
              rintro e w4 ⟨⟨r, rfl, hr⟩, hq⟩
              have hb4 : Below w.heap.size w w4 := hbz.trans (below_of_draws hq)
              obtain rfl : r = true := hr.2 rfl
              clear hr hq
              go_wp2
              go_ret
              exact ⟨rfl, hb4⟩
            · have hnews : ∀ j u, (flat l)[j]? = some u → (w3.alloc (.cells #[] 31)).cell? (ad.add j) = some u := fun j u hu => by
                have hpos : 0 < l.length := by
                  have := (List.getElem?_eq_some_iff.1 hu).1
                  rw [flat_len] at this; omega
                obtain ⟨b, o, e, hb, hc⟩ := (HX.out _ hbz) hpos
                cases e
                exact rdE_cells hc j u hu
              have HNW := Lib.hid hnews
              have HFL := Lib.hid (show (flat l).length = n * 5 by rw [flat_len, HN.out])
              have HO := Lib.hid hown0
              clear hX3 hown0 hnews
              go_wp2_with (at_builtin; refine wpList_wanted rfl fun K hK => wp_append_own _ (.tmp 72) (.tmp 73) 26 rfl w3.heap.size 31 i0 _ 5 32 Try.underlying26 hi hz0 hz1 hz2 rfl (by decide) _ 0 [] rfl HO.out ad n c (flat l) rfl HFL.out HNW.out (flat_one l) ?c3 ?c4 ?c5 ?_)
              case c3 => unfold maxLen; omega
              case c4 => omega
              case c5 => simp
              intro v' w5 hown' hgrow _
              refine hK _ _ ?_
              have hb5 : Below w.heap.size w w5 := hbz.grown hgrow hbz.size (fun k hk => by cases hk; exact hs3)
              have hown2 : OwnE w5 w3.heap.size v' l := by
                unfold OwnE; rw [HN.out]; exact hown'
              obtain ⟨A', c', hv', hr5⟩ := owne_rd hown2
              rw [HN.out] at hv'
              rw [hv']
              clear hv' hown2 hown' hgrow hK HNW HFL HO
              go_wp2_with fail
              refine (HAE.out _ w5.heap.size _ _ hb5 hr5).mono ?_
              rintro e w6 ⟨⟨r, rfl, hr⟩, hq⟩
              have hb6 : Below w.heap.size w w6 := hb5.trans (below_of_draws hq)
              obtain rfl : r = true := hr.2 rfl
              clear hr hq
              go_wp2
              go_ret
              exact ⟨rfl, hb6⟩
end Go.Proofs.Ytmdambfapephpaa
