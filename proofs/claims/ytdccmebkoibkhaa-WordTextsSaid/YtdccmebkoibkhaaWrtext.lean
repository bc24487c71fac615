/- The contract of the reference's Text; the text of a word, read back. -/
import Derived.Test.YtdccmebkoibkhaaWtext
namespace Go.Proofs.Ytdccmebkoibkhaa
open Go.RowKit Go.WideMaps Go.Maps
set_option linter.unusedVariables false

theorem ba_ext {a b : ByteArray} (h : a.data.toList = b.data.toList) : a = b := by
  cases a; cases b; congr 1; exact Array.toList_inj.1 h
theorem ba_app (a b : ByteArray) : (a ++ b).data.toList = a.data.toList ++ b.data.toList := by
  rw [ByteArray.data_append, Array.toList_append]
theorem nms_step {l : List Ev} {zs : List Int} {k j : Nat} {x : Ev} (h : k < zs.length) (hz : zs.getD k 0 = (j : Int)) (hx : l[j]? = some x) : nms l (zs.take (k + 1)) = nms l (zs.take k) ++ [x.name.data.toList] := by
  rw [← ns_nms, ns_step h hz hx, List.map_append, ns_nms]; rfl
theorem txt_first {l : List Ev} {zs : List Int} {j : Nat} {x : Ev} (h : 0 < zs.length) (hz : zs.getD 0 0 = (j : Int)) (hx : l[j]? = some x) : txt l (zs.take 0) ++ x.name = txt l (zs.take (0 + 1)) := by
  apply ba_ext
  rw [ba_app, txt_data, txt_data, nms_step h hz hx]
  simp [nms, jn, tl]
theorem txt_more {l : List Ev} {zs : List Int} {k j : Nat} {x : Ev} (h : k < zs.length) (h0 : 0 < k) (hz : zs.getD k 0 = (j : Int)) (hx : l[j]? = some x) : txt l (zs.take k) ++ ⟨#[32]⟩ ++ x.name = txt l (zs.take (k + 1)) := by
  apply ba_ext
  rw [ba_app, ba_app, txt_data, txt_data, nms_step h hz hx, jn_snoc _ _ (by
    intro e
    have := congrArg List.length e
    unfold nms at this
    rw [List.length_map, List.length_take, List.length_nil] at this
    omega)]
  simp
theorem txt_all (l : List Ev) (zs : List Int) (n : Nat) (h : zs.length = n) : txt l (zs.take n) = txt l zs := by rw [List.take_of_length_le (by omega)]

set_option maxHeartbeats 1600000 in
set_option maxRecDepth 4000 in
theorem r2Text_any (A C : Option Addr) (n c m d : Nat) (l : List Ev) (zs : List Int) (w : World) (hx : RdE w w.heap.size A l) (hy : RdI w w.heap.size C zs) (hn : l.length = n) (hm : zs.length = m) (hb : n ≤ 1000) (hb' : m ≤ 4096) (hin : inR n zs = true) (hl40 : ∀ x ∈ l, x.name.size ≤ 40) :
    Calls Try.prog 41 #[.slice A n c, .slice C m d] w fun e w' => e = .returned (.string (txt l zs)) ∧ Below w.heap.size w w' := by
  have HN := Lib.hid hn
  have HM := Lib.hid hm
  have HI := Lib.hid (inR_out hin)
  have HX := Lib.hid hx
  have HY := Lib.hid hy
  have HL := Lib.hid hl40
  clear hn hm hin hl40 hx hy
  go_enter Try.func41, Try.ntmps41
  go_wp2_with fail
  go_loopw [5, 6] (fun s i wr => ∃ k : Nat, k ≤ m ∧ i = .int .i64 k ∧ s = .string (txt l (zs.take k)) ∧ Below w.heap.size w wr) (fun _ i _ => m - (intOf i).toNat)
  case atStart => exact ⟨0, Nat.zero_le _, rfl, rfl, Below.refl _ _⟩
  case round =>
    obtain ⟨k, hk, rfl, rfl, hnx⟩ := hrel
    obtain ⟨S, hS⟩ : ∃ S, S = txt l (zs.take k) := ⟨_, rfl⟩
    rw [← hS]
    have hSs : S.size ≤ 200000 := by
      have h1 := jn_len _ (nms_le HL.out (zs.take k))
      have h2 : (nms l (zs.take k)).length ≤ k := by unfold nms; rw [List.length_map, List.length_take]; omega
      rw [hS]
      show (jn (nms l (zs.take k))).toArray.size ≤ 200000
      rw [List.size_toArray]; omega
    by_cases hlt : k < m
    · have hz : k < zs.length := by rw [HM.out]; exact hlt
      obtain ⟨b2, o2, rfl, hbB2, hc2⟩ := HY.out (by omega)
      obtain ⟨z, hzz⟩ : ∃ z, z = zs.getD k 0 := ⟨_, rfl⟩
      have hcz : wr.cell? ⟨b2, o2 + k, none⟩ = some (.int .i64 z) := by rw [hzz]; exact (hnx.cell hbB2).trans (hc2 k hz)
      have hbad : 0 ≤ z ∧ z < (n : Int) := HI.out z (by rw [hzz, List.getD, List.getElem?_eq_getElem hz]; exact List.getElem_mem hz)
      obtain ⟨j, rfl⟩ := Int.eq_ofNat_of_zero_le hbad.1
      have hjn : j < n := by omega
      have hjl : j < l.length := by rw [HN.out]; exact hjn
      obtain ⟨b1, o1, rfl, hbB1, hc1⟩ := HX.out (by omega)
      obtain ⟨x, hxe⟩ : ∃ x, l[j]? = some x := ⟨_, List.getElem?_eq_getElem hjl⟩
      have hg := (hc1 j x hxe).1
      obtain ⟨nm, hnm⟩ : ∃ nm, nm = x.name := ⟨_, rfl⟩
      have g1 : wr.cell? ⟨b1, o1 + j * 5, none⟩ = some (.string nm) := by rw [hnm]; exact (hnx.cell hbB1).trans hg
      have hnm40 : nm.size ≤ 40 := by rw [hnm]; exact HL.out x (List.mem_of_getElem? hxe)
      have q1 : ¬ 9223372036854775807 < S.size + 1 := by omega
      have q2 : ¬ 9223372036854775807 < S.size + 1 + nm.size := by omega
      have q3 : ¬ 9223372036854775807 < S.size + nm.size := by omega
      by_cases hk0 : 0 < k
      · have hY := Lib.hid (txt_more hz hk0 hzz.symm hxe)
        rw [← hnm, ← hS] at hY
        have d0 : (0 : Int) < (k : Int) := by omega
        clear hc2 hc1 hg hxe hnm hz hjl hzz hbad hS
        have HNX := Lib.hid hnx
        clear hnx
        go_wp2
        go_roundw
        case rel => exact ⟨k + 1, by omega, by go_num, congrArg Value.string hY.out, HNX.out⟩
        case measure => simp [intOf]; omega
      · obtain rfl : k = 0 := by omega
        have hY := Lib.hid (txt_first hz hzz.symm hxe)
        rw [← hnm, ← hS] at hY
        have hcz' : wr.cell? ⟨b2, o2, none⟩ = some (.int .i64 j) := by simpa using hcz
        clear hc2 hc1 hg hxe hnm hz hjl hzz hbad hS
        have HNX := Lib.hid hnx
        clear hnx
        go_wp2
        go_roundw
        case rel => exact ⟨0 + 1, by omega, by go_num, congrArg Value.string hY.out, HNX.out⟩
        case measure => simp [intOf]; omega
    · have hkm : k = m := by omega
      have e := Lib.hid (txt_all l zs m HM.out)
      rw [hkm, e.out] at hS
      have HS := Lib.hid hS
      have HNX := Lib.hid hnx
      clear hnx hkm hS e
      go_wp2
      go_ret
      exact ⟨by rw [HS.out]; rfl, HNX.out⟩

theorem ch_ev {l : List Ev} (h : chE l = 0) {k : Nat} {x : Ev} (hx : l[k]? = some x) : nameB x.name.data.toList = true := by
  have hk := (List.getElem?_eq_some_iff.1 hx).1
  have h1 := chFrom_zero h k (by omega)
  have h0 : evE x (fidx (l.take k) x.name.data.toList).isSome = 0 := by
    by_cases h0 : evE x (fidx (l.take k) x.name.data.toList).isSome = 0
    · exact h0
    · exact absurd (ch_err hx h1 rfl h0).symm h0
  cases e : nameB x.name.data.toList with
  | true => rfl
  | false => rw [evE_name e] at h0; omega
theorem nm_name {s : List UInt8} (h : nameB s = true) : Nm s := by
  unfold nameB at h
  simp only [Bool.and_eq_true, decide_eq_true_eq] at h
  obtain ⟨⟨⟨h1, h2⟩, h3⟩, h4⟩ := h
  refine ⟨List.length_pos_iff.1 h1, fun b hb => ?_⟩
  have h5 := List.all_eq_true.1 h4 b hb
  rintro rfl
  exact absurd h5 (by decide)
theorem ev_at {l : List Ev} {i : Nat} (h : i < l.length) : l[i]? = some (l.getD i ⟨ByteArray.empty, false, false, false, 0⟩) := by
  rw [List.getD, List.getElem?_eq_getElem h]; rfl
theorem back {l : List Ev} {zs : List Int} {n : Nat} (h : chE l = 0) (hn : l.length = n) (hin : inR n zs = true) (hl : zs.length ≤ 1000) : rz l (txt l zs).data.toList (txt l zs).size 0 [] = ⟨zs, 0, 0⟩ := by
  subst hn
  have hs : (txt l zs).size = (jn (nms l zs)).length := by unfold txt; exact List.size_toArray
  rw [txt_data, hs]
  have h1 := pz_rz (l := l) (s := jn (nms l zs)) ((jn (nms l zs)).length + zs.length + 1) 0 [] ⟨Nat.zero_le _, .inl rfl⟩ (by omega) (by simp)
  rw [Nat.sub_zero] at h1
  rw [← h1]
  exact pz_jn (fun i hi => fnd_hit (ev_at hi) (ch_fresh h (ev_at hi)) rfl) (fun i hi => nm_name (ch_ev h (ev_at hi))) zs _ (inR_out hin) rfl (by omega) (by omega)
theorem txt_size {l : List Ev} (h : ∀ x ∈ l, x.name.size ≤ 40) (zs : List Int) : (txt l zs).size ≤ 41 * zs.length := by
  have h1 := jn_len _ (nms_le h zs)
  have h2 : (nms l zs).length = zs.length := by unfold nms; simp
  have hs : (txt l zs).size = (jn (nms l zs)).length := by unfold txt; exact List.size_toArray
  omega
end Go.Proofs.Ytdccmebkoibkhaa
