/- The contract of Text: lists of strings of the call's own; names of a word joined by blanks. -/
import Derived.Test.YtdccmebkoibkhaaTextMath
import Derived.Test.YtdccmebkoibkhaaMemb
import Derived.Test.YtdccmebkoibkhaaJoinLay
import Derived.Laws.MakeOwn
namespace Go.Proofs.Ytdccmebkoibkhaa
open Go.RowKit Go.WideMaps Go.Maps
set_option linter.unusedVariables false

theorem info_str : (Try.prog.info? 9).map (fun i => (i.zero, i.size, i.bytes)) = some (some (.string ByteArray.empty), 1, 16) := by kernel_rfl
abbrev OwnS (w : World) (base : Nat) (v : Value) (ss : List ByteArray) : Prop := w.ownsRow base 9 1 v ss.length (ss.map Value.string)
theorem owns_app {B : Nat} {K K' : List ByteArray} {x : ByteArray} {w wr w1 : World} {u v' : Value} {o : Obj} (hK : K' = K ++ [x]) (hnx : Below B w wr) (hown : OwnS wr B u K)
    (hown' : w1.ownsRow B 9 1 v' (K.length + 1) (K.map Value.string ++ [.string x])) (hgrow : (wr.alloc o).grownBy w1 u.ownBlock) (hB : B ≤ w.heap.size) : OwnS w1 B v' K' ∧ Below B w w1 := by
  subst hK
  have := hnx.size
  exact ⟨by simpa [OwnS] using hown', (hnx.alloc (by omega) o).grown hgrow (by simp; omega) (fun j hj => by have := (hown.lt j hj).1; omega)⟩
theorem owns_one {w : World} {x : ByteArray} : ∀ j u, [Value.string x][j]? = some u → (w.alloc (.cells #[.string x] 9)).cell? ((⟨w.heap.size, 0, none⟩ : Addr).add j) = some u := by
  intro j u hj
  match j, hj with
  | 0, hj => simp at hj; subst hj; simp [Addr.add]
/-- A list of the call's own, as strings.Join reads it. -/
theorem owns_join {w : World} {base : Nat} {v : Value} {ss : List ByteArray} (h : OwnS w base v ss) : (∃ A c, v = .slice A 0 c ∧ ss = []) ∨ ∃ g c, v = .slice (some ⟨g, 0, none⟩) ss.length c ∧ g < w.heap.size ∧ ss.length ≤ c ∧ ∀ (j : Nat) x, ss[j]? = some x → w.cell? ⟨g, 0 + j, none⟩ = some (.string x) := by
  rcases h.2 with ⟨rfl, h0⟩ | ⟨g, cap, cur, rfl, hg, hh, hn, hcap, hsz, htake⟩
  · exact .inl ⟨none, 0, rfl, List.eq_nil_of_length_eq_zero h0⟩
  · refine .inr ⟨g, cap, rfl, (h.lt g rfl).2, hn, fun j x hj => ?_⟩
    have hl := (List.getElem?_eq_some_iff.1 hj).1
    rw [Nat.zero_add, World.ownsRow.cellAt (cap := cap) h j (by omega), List.getElem?_map, hj]
    rfl

/-- The names of a word, as strings. -/
def ns (l : List Ev) (zs : List Int) : List ByteArray := zs.map fun i => (l.getD i.toNat ⟨ByteArray.empty, false, false, false, 0⟩).name
theorem ns_nms (l : List Ev) (zs : List Int) : (ns l zs).map (·.data.toList) = nms l zs := by
  unfold ns nms; rw [List.map_map]; rfl
theorem ns_step {l : List Ev} {zs : List Int} {k j : Nat} {x : Ev} (h : k < zs.length) (hz : zs.getD k 0 = (j : Int)) (hx : l[j]? = some x) : ns l (zs.take (k + 1)) = ns l (zs.take k) ++ [x.name] := by
  have e : zs.getD k 0 = zs[k] := by simp [List.getD, List.getElem?_eq_getElem h]
  unfold ns
  rw [List.take_succ_eq_append_getElem h, List.map_append, ← e, hz]
  simp [List.getD, hx]
theorem ns_len (l : List Ev) (zs : List Int) : (ns l zs).length = zs.length := by unfold ns; simp
theorem ns_all (l : List Ev) (zs : List Int) (n : Nat) (h : zs.length = n) : ns l (zs.take n) = ns l zs := by rw [List.take_of_length_le (by omega)]
theorem joinTail_tl (r : List (List UInt8)) : Lib.joinTail [32] r = tl r := by
  induction r with
  | nil => rfl
  | cons x r ih => rw [tl, ← ih]; simp [Lib.joinTail]
theorem join_jn (xs : List (List UInt8)) : Lib.join xs [32] = jn xs := by
  cases xs with
  | nil => rfl
  | cons x r => rw [Lib.join_cons, joinTail_tl]; rfl
theorem tl_len (r : List (List UInt8)) (h : ∀ x ∈ r, x.length ≤ 40) : (tl r).length ≤ 41 * r.length := by
  induction r with
  | nil => simp [tl]
  | cons x r ih =>
    have := h x (by simp)
    have := ih fun y hy => h y (by simp [hy])
    simp [tl]; omega
theorem jn_len (r : List (List UInt8)) (h : ∀ x ∈ r, x.length ≤ 40) : (jn r).length ≤ 41 * r.length := by
  cases r with
  | nil => simp [jn]
  | cons x r =>
    have := h x (by simp)
    have := tl_len r fun y hy => h y (by simp [hy])
    simp [jn]; omega
theorem nms_le {l : List Ev} (h : ∀ x ∈ l, x.name.size ≤ 40) (zs : List Int) : ∀ x ∈ nms l zs, x.length ≤ 40 := by
  intro x hx
  obtain ⟨i, _, rfl⟩ := List.mem_map.1 hx
  rcases Nat.lt_or_ge i.toNat l.length with hi | hi
  · have := h (l.getD i.toNat ⟨ByteArray.empty, false, false, false, 0⟩) (by rw [List.getD, List.getElem?_eq_getElem hi]; exact List.getElem_mem hi)
    exact this
  · rw [List.getD, List.getElem?_eq_none hi]; exact Nat.zero_le _

/-- The text of a word. -/
def txt (l : List Ev) (zs : List Int) : ByteArray := ⟨(jn (nms l zs)).toArray⟩
theorem txt_data (l : List Ev) (zs : List Int) : (txt l zs).data.toList = jn (nms l zs) := by unfold txt; simp

/-- strings.Join of a list of names of the call's own, by a blank. -/
theorem join_names {w : World} {base : Nat} {v : Value} {l : List Ev} {zs : List Int} (h : OwnS w base v (ns l zs)) (hz : zs.length ≤ 100000) (hl : ∀ x ∈ l, x.name.size ≤ 40) :
    Calls Try.prog 60 #[v, .string ⟨#[32]⟩] w fun e w' => e = .returned (.string (txt l zs)) ∧ Below w.heap.size w w' := by
  rcases owns_join h with ⟨A, c, rfl, e⟩ | ⟨g, c, rfl, hg, hc, hx⟩
  · refine (Try.strings_Join_none A c ⟨#[32]⟩ w).mono ?_
    rintro e' w' ⟨rfl, rfl⟩
    have : zs = [] := by unfold ns at e; simpa using e
    subst this
    exact ⟨rfl, Below.refl _ _⟩
  · have hj : Lib.join ((ns l zs).map (·.data.toList)) (ByteArray.mk #[32]).data.toList = jn (nms l zs) := by rw [ns_nms]; exact join_jn _
    have hlen := jn_len _ (nms_le hl zs)
    have hnl : (nms l zs).length = zs.length := by unfold nms; simp
    refine (Try.strings_Join g 0 c (ns l zs) ⟨#[32]⟩ w hx hg (by rw [ns_len]; omega) hc (by rw [hj]; omega)).mono ?_
    rintro e' w' ⟨rfl, hb⟩
    rw [hj]
    exact ⟨rfl, hb⟩

theorem make_strs (n : Nat) (h : n ≤ 1000000) (W : World) : (Instr.makeSlice 76 (.int .i64 0) (.int .i64 n)).run Try.prog W = .ok (.slice (some ⟨W.heap.size, 0, none⟩) 0 n) (W.alloc (.cells (madeCells #[.string ByteArray.empty] n) 9)) := by
  obtain ⟨i0, hi, hz0, hz1, hz2⟩ := info_parts info_str
  have := run_make (P := Try.prog) W 76 9 i0 (.string ByteArray.empty) Try.underlying76 hi hz0 .i64 .i64 0 n (by omega) (by omega) (by rw [hz2]; omega) (by omega)
  rw [hz1] at this
  simp only [Nat.mul_one] at this
  exact this

set_option maxHeartbeats 800000 in
set_option maxRecDepth 4000 in
theorem wText_err (A C : Option Addr) (n c m d : Nat) (l : List Ev) (w : World) (hx : RdE w w.heap.size A l) (hn : l.length = n) (hb : n ≤ 1000) (hs : ∀ x ∈ l, x.name.size ≤ maxLen) (he : chE l ≠ 0) :
    Calls Try.prog 39 #[.slice A n c, .slice C m d] w fun e w' => e = .returned (.tuple #[.string ⟨#[]⟩, .int .i64 (chE l)]) ∧ Below w.heap.size w w' := by
  have H := Lib.hid (aCheck_any A n c l w hx hn (by omega) hs)
  obtain ⟨v, hv⟩ : ∃ v, v = chE l := ⟨_, rfl⟩
  rw [← hv] at H he ⊢
  have h1 : (v == 0) = false := by simpa using he
  have h2 : (v != 0) = true := by simpa using he
  clear hx hn hs hv
  go_enter Try.func39, Try.ntmps39
  go_wp2_with fail
  refine H.out.mono ?_
  rintro e w1 ⟨rfl, hb1⟩
  have HB := Lib.hid hb1
  clear hb1
  go_wp2_with fail
  go_ret2
  exact ⟨rfl, HB.out⟩

set_option maxHeartbeats 800000 in
set_option maxRecDepth 4000 in
theorem wText_long (A C : Option Addr) (n c m d : Nat) (l : List Ev) (w : World) (hx : RdE w w.heap.size A l) (hn : l.length = n) (hb : n ≤ 1000) (hs : ∀ x ∈ l, x.name.size ≤ maxLen) (he : chE l = 0) (hm : 4096 < m) (hm' : m ≤ 1000000) :
    Calls Try.prog 39 #[.slice A n c, .slice C m d] w fun e w' => e = .returned (.tuple #[.string ⟨#[]⟩, .int .i64 3]) ∧ Below w.heap.size w w' := by
  have H := Lib.hid (aCheck_any A n c l w hx hn (by omega) hs)
  rw [he] at H
  have h1 : (4096 : Int) < (m : Int) := by omega
  have h2 : decide ((4096 : Int) < (m : Int)) = true := by simp; omega
  clear hx hn hs he
  go_enter Try.func39, Try.ntmps39
  go_wp2_with fail
  refine H.out.mono ?_
  rintro e w1 ⟨rfl, hb1⟩
  have HB := Lib.hid hb1
  clear hb1
  go_wp2_with fail
  go_ret2
  exact ⟨rfl, HB.out⟩

/-- Every index of a word is an event's. -/
def inR (n : Nat) (zs : List Int) : Bool := zs.all fun z => decide (0 ≤ z) && decide (z < (n : Int))
theorem inR_out {n : Nat} {zs : List Int} (h : inR n zs = true) : ∀ z ∈ zs, 0 ≤ z ∧ z < (n : Int) := by
  intro z hz
  have := List.all_eq_true.1 h z hz
  simpa using this
theorem inR_bad {n : Nat} {zs : List Int} {k : Nat} (hk : k < zs.length) (h : ¬ (0 ≤ zs.getD k 0 ∧ zs.getD k 0 < (n : Int))) : inR n zs = false := by
  have hm : zs.getD k 0 ∈ zs := by rw [List.getD, List.getElem?_eq_getElem hk]; exact List.getElem_mem hk
  cases e : inR n zs with
  | false => rfl
  | true => exact absurd (inR_out e _ hm) h
theorem inR_all {n m : Nat} {zs : List Int} (hm : zs.length = m) (h : inR n (zs.take m) = true) : inR n zs = true := by rwa [List.take_of_length_le (by omega)] at h
theorem inR_next {n k : Nat} {zs : List Int} (hk : k < zs.length) (h : inR n (zs.take k) = true) (h0 : 0 ≤ zs.getD k 0) (h1 : zs.getD k 0 < (n : Int)) : inR n (zs.take (k + 1)) = true := by
  unfold inR at *
  have e : zs.getD k 0 = zs[k] := by simp [List.getD, List.getElem?_eq_getElem hk]
  rw [List.take_succ_eq_append_getElem hk, List.all_append, h, ← e]
  simp only [List.all_cons, List.all_nil, decide_eq_true h0, decide_eq_true h1]
  rfl

set_option maxHeartbeats 1600000 in
set_option maxRecDepth 4000 in
theorem wText_ok (A C : Option Addr) (n c m d : Nat) (l : List Ev) (zs : List Int) (w : World) (hx : RdE w w.heap.size A l) (hy : RdI w w.heap.size C zs) (hn : l.length = n) (hm : zs.length = m) (hb : n ≤ 1000) (hb' : m ≤ 4096) (hs : ∀ x ∈ l, x.name.size ≤ maxLen) (hl40 : ∀ x ∈ l, x.name.size ≤ 40) (h0 : chE l = 0) :
    Calls Try.prog 39 #[.slice A n c, .slice C m d] w fun e w' => e = .returned (.tuple #[.string (if inR n zs then txt l zs else ⟨#[]⟩), .int .i64 (if inR n zs then 0 else 2)]) ∧ Below w.heap.size w w' := by
  obtain ⟨i0, hi, hz0, hz1, hz2⟩ := info_parts info_str
  have HC := Lib.hid (aCheck_any A n c l w hx hn (by omega) hs)
  rw [h0] at HC
  have HN := Lib.hid hn
  have HM := Lib.hid hm
  obtain ⟨B, hB⟩ : ∃ B, B = w.heap.size := ⟨_, rfl⟩
  have HX := Lib.hid hx
  have HY := Lib.hid hy
  have HB := Lib.hid hB
  have hBw : B ≤ w.heap.size := by omega
  have hBw' : w.heap.size ≤ B := by omega
  have HJ := Lib.hid (fun (W : World) (v : Value) (h : OwnS W B v (ns l zs)) => join_names h (by omega) hl40)
  have MK : ∀ W : World, (Instr.makeSlice 76 (.int .i64 0) (.int .i64 m)).run Try.prog W = .ok (.slice (some ⟨W.heap.size, 0, none⟩) 0 m) (W.alloc (.cells (madeCells #[.string ByteArray.empty] m) 9)) := make_strs m (by omega)
  obtain ⟨Z, hZ⟩ : ∃ Z, Z = madeCells #[Value.string ByteArray.empty] m := ⟨_, rfl⟩
  rw [← hZ] at MK
  have HZ := Lib.hid (show Z.size = m * 1 by rw [hZ, size_madeCells]; omega)
  have h4 : ¬ (4096 : Int) < (m : Int) := by omega
  have h4' : decide ((4096 : Int) < (m : Int)) = false := by simp; omega
  obtain ⟨T, hT⟩ : ∃ T, T = (if inR n zs then txt l zs else ⟨#[]⟩) := ⟨_, rfl⟩
  obtain ⟨E, hE⟩ : ∃ E : Int, E = (if inR n zs then 0 else 2) := ⟨_, rfl⟩
  rw [← hT, ← hE]
  have HT := Lib.hid hT
  have HE := Lib.hid hE
  clear hn hm h0 hs hB hx hy hZ hl40 hT hE
  go_enter Try.func39, Try.ntmps39
  go_wp2_with fail
  refine HC.out.mono ?_
  rintro e w1 ⟨rfl, hbel⟩
  have hsz1 := hbel.size
  have hbB : Below B w w1 := hbel.mono hBw
  clear hbel
  go_wp2_with fail
  go_loopw [7, 23] (fun v i wr => ∃ k : Nat, k ≤ m ∧ i = .int .i64 k ∧ Hid (inR n (zs.take k) = true) ∧ Hid (OwnS wr B v (ns l (zs.take k))) ∧ Below B w wr) (fun _ i _ => m - (intOf i).toNat)
  case atStart =>
    have hq := hbB.size
    exact ⟨0, Nat.zero_le _, rfl, Lib.hid rfl, Lib.hid (World.ownsRow_made w1 Z m (by omega) (by unfold maxLen; omega) HZ.out), hbB.alloc (by omega) _⟩
  case round =>
    obtain ⟨k, hk, rfl, hin, hown, hnx⟩ := hrel
    by_cases hlt : k < m
    · have hz : k < zs.length := by rw [HM.out]; exact hlt
      obtain ⟨b2, o2, rfl, hbB2, hc2⟩ := HY.out (by omega)
      obtain ⟨z, hzz⟩ : ∃ z, z = zs.getD k 0 := ⟨_, rfl⟩
      have hcz : wr.cell? ⟨b2, o2 + k, none⟩ = some (.int .i64 z) := by rw [hzz]; exact (hnx.cell (by show b2 < B; omega)).trans (hc2 k hz)
      have HZ2 := Lib.hid hzz
      by_cases hbad : 0 ≤ z ∧ z < (n : Int)
      · have hin2 := Lib.hid (inR_next hz hin.out (by rw [← hzz]; exact hbad.1) (by rw [← hzz]; exact hbad.2))
        obtain ⟨j, rfl⟩ := Int.eq_ofNat_of_zero_le hbad.1
        have hjn : j < n := by omega
        clear hc2 hzz hbad
        have hjl : j < l.length := by rw [HN.out]; exact hjn
        obtain ⟨b1, o1, rfl, hbB1, hc1⟩ := HX.out (by omega)
        obtain ⟨x, hxe⟩ : ∃ x, l[j]? = some x := ⟨_, List.getElem?_eq_getElem hjl⟩
        have hg := (hc1 j x hxe).1
        obtain ⟨nm, hnm⟩ : ∃ nm, nm = x.name := ⟨_, rfl⟩
        have g1 : wr.cell? ⟨b1, o1 + j * 5, none⟩ = some (.string nm) := by rw [hnm]; exact (hnx.cell (by show b1 < B; omega)).trans hg
        have hY := Lib.hid (ns_step hz HZ2.out.symm hxe)
        rw [← hnm] at hY
        have hlen : (ns l (zs.take k)).length = k := by rw [ns_len, List.length_take]; omega
        have HL := Lib.hid hlen
        have hlen' : (ns l (zs.take k)).length ≤ k := by omega
        have hsz := hnx.size
        have j1 : ¬ ((j : Nat) : Int) < 0 := by omega
        have j2 : ¬ (n : Int) ≤ ((j : Nat) : Int) := by omega
        clear hg hc1 hxe hnm hz hjl hlen
        go_wp2_with (at_builtin; refine wpList_append_own _ rfl _ _ 76 rfl B 9 i0 (.string ByteArray.empty) 1 16 Try.underlying76 hi hz0 hz1 hz2 rfl (by decide) _ _ _ rfl (hown.out.alloc _) ⟨wr.heap.size, 0, none⟩ 1 1 [.string nm] rfl rfl ?c1 ?c2 ?c3 ?c4 ?c5 ?_)
        case c2 => first | rfl | (intro u hu; simp at hu; subst hu; rfl)
        case c3 => first | (unfold maxLen; omega) | omega | (simp; omega)
        case c4 => first | omega | (unfold maxLen; omega) | (simp; omega)
        case c5 => first | omega | (simp; omega)
        intro v' w3 hown' hgrow _
        have R := owns_app hY.out hnx hown.out hown' hgrow hBw
        have R1 := Lib.hid R.1
        have R2 := R.2
        clear R hown' hgrow hY
        go_wp2
        go_roundw
        case rel => exact ⟨k + 1, by omega, by go_num, hin2, R1, R2⟩
        case measure => simp [intOf]; omega
      · have hno : inR n zs = false := inR_bad hz (by rw [← hzz]; exact hbad)
        have HNO := Lib.hid hno
        have hnx' : Hid (Below w.heap.size w wr) := Lib.hid (by rw [← HB.out]; exact hnx)
        clear hc2 hzz hno hin hown hnx
        by_cases hneg : z < 0
        · have d1 : decide (z < 0) = true := decide_eq_true hneg
          clear hbad
          go_wp2
          go_ret2
          exact ⟨by rw [show T = ⟨#[]⟩ by rw [HT.out, HNO.out]; rfl, show E = 2 by rw [HE.out, HNO.out]; rfl]; rfl, hnx'.out⟩
        · have d1 : decide (z < 0) = false := decide_eq_false hneg
          have d2 : (n : Int) ≤ z := by omega
          have d3 : decide ((n : Int) ≤ z) = true := decide_eq_true d2
          clear hbad
          go_wp2
          go_ret2
          exact ⟨by rw [show T = ⟨#[]⟩ by rw [HT.out, HNO.out]; rfl, show E = 2 by rw [HE.out, HNO.out]; rfl]; rfl, hnx'.out⟩
    · have hkm : k = m := by omega
      have e := Lib.hid (ns_all l zs m HM.out)
      rw [hkm] at hown hin
      rw [e.out] at hown
      have HI := Lib.hid (inR_all HM.out hin.out)
      have hnx' : Hid (Below w.heap.size w wr) := Lib.hid (by rw [← HB.out]; exact hnx)
      clear hkm hin
      go_wp2_with fail
      refine (HJ.out _ _ hown.out).mono ?_
      rintro e w5 ⟨rfl, hb5⟩
      have B5 := Lib.hid (hnx'.out.trans (hb5.mono hnx'.out.size))
      clear hb5
      go_wp2_with fail
      go_ret2
      exact ⟨by rw [show T = txt l zs by rw [HT.out, HI.out]; rfl, show E = 0 by rw [HE.out, HI.out]; rfl]; rfl, B5.out⟩
end Go.Proofs.Ytdccmebkoibkhaa
