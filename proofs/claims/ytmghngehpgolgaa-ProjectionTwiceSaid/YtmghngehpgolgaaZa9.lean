/- Texts merged: what follows were texts of their own. -/
import Derived.Test.YtmghngehpgolgaaZa8
import Derived.Deep.CutRange
import Derived.Carry
import Derived.Deep.Upon
import Derived.Test.YtmghngehpgolgaaZa7
import Derived.Deep.RegionHeld3
import Derived.Test.YtmghngehpgolgaaZa3
set_option linter.unusedVariables false
set_option linter.unusedSimpArgs false
set_option linter.unusedSectionVars false
/- Layer 7: explore. -/
namespace Go.Proofs.Ytmghngehpgolgaa
open Go.RowKit Go.Sort Go.Maps

theorem fs_start (w : World) : FS (((w.alloc (.cells #[.slice none 0 0] 30)).alloc (.map #[] 0)).alloc (.cells #[.map (some (w.heap.size + 1))] 93)) w.heap.size (w.heap.size + 1 + 1) (w.heap.size + 1) w.heap.size (.slice none 0 0) [] where
  nu := by
    have := Row.new ((w.alloc (.cells #[.slice none 0 0] 30)).alloc (.map #[] 0)) [.map (some (w.heap.size + 1))] 93
    simpa using this
  fo := ((Row.new w [.slice none 0 0] 30).alloc _).alloc _
  mp := by
    have := (World.ownsMap_made (w.alloc (.cells #[.slice none 0 0] 30)) Try.prog 9 (plainElem (H := Unit) Try.prog 3)).alloc (.cells #[.map (some (w.heap.size + 1))] 93)
    rw [show (mpS (([] : List Hd).map Hd.z) : DataW Unit) = .map [] from rfl]
    simpa using this
  ow := World.ownsRow_nil _ _ _ _
  rw := by simp
  ok := by simp
  nd := List.nodup_nil
  hb := by simp; omega
theorem FS.base {w : World} {F B M base base' : Nat} {v : Value} {hs : List Hd} (h : FS w F B M base v hs) (hb : base' ≤ base) : FS w F B M base' v hs :=
  ⟨h.nu, h.fo, h.mp, own_more h.ow hb, fun x hx => own_more (h.rw x hx) hb, h.ok, h.nd, Nat.le_trans hb h.hb⟩
theorem eo_start (w : World) (gv vk : Value) (er : List Int) : EO w ((((w.alloc (.cells (obL gv vk er).toArray 64)).alloc (.cells #[.slice none 0 0] 30)).alloc (.map #[] 0)).alloc (.cells #[.map (some (w.heap.size + 1 + 1))] 93)) gv vk er (.slice none 0 0) [] (.slice none 0 0) [] where
  bel := ((((Below.refl _ w).alloc (Nat.le_refl _) _).alloc (by simp) _).alloc (by simp; omega) _).alloc (by simp; omega) _
  ob := (((ob_box w gv vk er).alloc _).alloc _).alloc _
  fn := by
    have h := fs_start (w.alloc (.cells (obL gv vk er).toArray 64))
    have hz : (w.alloc (.cells (obL gv vk er).toArray 64)).heap.size = w.heap.size + 1 := World.size_alloc _ _
    rw [hz] at h
    exact h.base (by omega)
  edg := World.ownsRow_nil _ _ _ _
/-- What explore hands back. -/
def ExV (a : Au) (onto : List Int) (w w' : World) (e : Ending) : Prop :=
  (4096 < (fnd (detA a onto)).length ∧ e = .returned (.tuple #[.slice none 0 0, .slice none 0 0, .int .i64 3])) ∨
  ((fnd (detA a onto)).length ≤ 4096 ∧ ∃ (v ve : Value) (hs : List Hd), e = .returned (.tuple #[v, ve, .int .i64 0]) ∧ w'.ownsRow w.heap.size 22 1 v hs.length (hs.map Hd.enc) ∧ (∀ x ∈ hs, Own w' w.heap.size x.enc x.z) ∧ hs.map Hd.z = (fnd (detA a onto)).map (deR a onto) ∧ OwnE w' w.heap.size ve (canEn (detA a onto) (fnd (detA a onto)).length))
set_option maxHeartbeats 8000000 in
set_option maxRecDepth 100000 in
theorem jExplore0_any (bg : Nat) (a : Au) (onto : List Int) (Ak : Option Addr) (nk ck : Nat) (w : World) (hg : RdGr w w.heap.size bg a) (hr : RightW a) (hS : a.st = ((0 : Nat) : Int)) :
    Calls Try.prog 25 #[.agg (obL (.slice (some ⟨bg, 0, none⟩) 0 0) (.slice Ak nk ck) (erR a onto)).toArray] w fun e w' => Below w.heap.size w w' ∧ ExV a onto w w' e := by
  have hf0 : fnd (detA a onto) = [] := by
    have : (detA a onto).st = 0 := by unfold detA; rw [if_pos (show a.st = 0 by rw [hS]; rfl)]
    rw [fnd, if_pos (by omega)]
  have HF0 := Lib.hid hf0
  have h0 : fsR a onto = [] := by unfold fsR; rw [if_pos (show a.st = 0 by rw [hS]; rfl)]
  have hmm := run_makeMap (P := Try.prog) 93
  have HE0 := Lib.hid (eo_start w (.slice (some ⟨bg, 0, none⟩) 0 0) (.slice Ak nk ck) (erR a onto))
  have HFi := Lib.hid (fun W (hW : Below w.heap.size w W) => jFirst_any bg 0 a onto (.slice Ak nk ck) W (hg.keep hW) hr hS (by omega))
  rw [h0] at HFi
  have hrg := Lib.hid (show World.rangeAt _ w.heap.size 0 (obL (.slice (some ⟨bg, 0, none⟩) 0 0) (.slice Ak nk ck) (erR a onto)) from fun i v hi => by rw [Nat.zero_add]; exact HE0.out.ob.cell i hi)
  have hsz := Lib.hid (show (Try.prog.info? 64).map (·.size) = some (obL (.slice (some ⟨bg, 0, none⟩) 0 0) (.slice Ak nk ck) (erR a onto)).length by rw [obs_size, ob_len])
  clear hg hr hf0 h0 hS
  go_enter Try.func25, Try.ntmps25
  go_wp2_with (first | refine wpList_load_mid rfl 64 (.tmp 1) rfl w.heap.size 0 rfl (obL (.slice (some ⟨bg, 0, none⟩) 0 0) (.slice Ak nk ck) (erR a onto)) _ hrg.out Try.underlying64 rfl hsz.out ?_)
  refine (HFi.out _ HE0.out.bel).mono ?_
  rintro e w4 ⟨v, rfl, ho, hb4⟩
  obtain ⟨Av, cv, rfl, _, _, _⟩ := own_rdc ho
  have HE4 := Lib.hid (HE0.out.call hb4)
  clear ho hb4 HE0 hrg
  have hF := HE4.out.fn.fo.cell 0 rfl
  go_wp2_with fail
  go_loopw [9, 10] (fun ve i wr => ve = .slice none 0 0 ∧ i = .int .i64 0 ∧ wr = w4) (fun _ _ _ => 0)
  case atStart => exact ⟨rfl, rfl, rfl⟩
  case round =>
    obtain ⟨rfl, rfl, rfl⟩ := hrel
    go_wp2_with fail
    go_ret3
    refine ⟨HE4.out.bel, .inr ⟨by rw [HF0.out]; simp, _, _, [], rfl, World.ownsRow_nil _ _ _ _, by simp, by rw [HF0.out]; rfl, by rw [HF0.out]; exact World.ownsRow_nil _ _ _ _⟩⟩
theorem Row.setCells {g : Nat} {e : TypeId} : ∀ (vs : List Value) (o : Nat) (w : World) (cs : List Value), Row w g e cs → o + vs.length ≤ cs.length → Row (w.setCells g o vs) g e (cs.take o ++ vs ++ cs.drop (o + vs.length))
  | [], o, w, cs, h, _ => by
    show Row w g e _
    simpa using h
  | v :: r, o, w, cs, h, hl => by
    rw [List.length_cons] at hl
    have ih := Row.setCells r (o + 1) (w.setCell ⟨g, o, none⟩ v) (cs.set o v) (h.set o v) (by rw [List.length_set]; omega)
    have e1 : (cs.set o v).take (o + 1) = cs.take o ++ [v] := by
      rw [List.take_succ_eq_append_getElem (by rw [List.length_set]; omega), List.getElem_set_self, List.take_set_of_le (Nat.le_refl _)]
    have e2 : (cs.set o v).drop (o + 1 + r.length) = cs.drop (o + (v :: r).length) := by
      rw [List.drop_set_of_lt (by omega), List.length_cons]; congr 1; omega
    rw [e1, e2] at ih
    show Row ((w.setCell ⟨g, o, none⟩ v).setCells g (o + 1) r) g e _
    simpa using ih
theorem below_setCells {B b : Nat} (hb : B ≤ b) : ∀ (vs : List Value) (o : Nat) {w0 w : World}, Below B w0 w → Below B w0 (w.setCells b o vs)
  | [], _, _, _, h => h
  | v :: r, o, _, _, h => below_setCells hb r (o + 1) (h.setCell (p := ⟨b, o, none⟩) hb v)
theorem TgV.alloc {w2 : World} {base : Nat} {vs : List Value} {Ls : Int → List Int} (h : TgV w2 base vs Ls) (o : Obj) : TgV (w2.alloc o) base vs Ls := ⟨h.len, fun e he => (h.ow e he).alloc o⟩
theorem TgV.base {w2 : World} {base b2 : Nat} {vs : List Value} {Ls : Int → List Int} (h : TgV w2 base vs Ls) (hb : b2 ≤ base) : TgV w2 b2 vs Ls := ⟨h.len, fun e he => own_more (h.ow e he) hb⟩
theorem TB.drew {w2 : World} {base bt : Nat} {vs : List Value} {Ls : Int → List Int} (h : TB w2 base bt vs Ls) : TB w2.drew base bt vs Ls := ⟨h.row, h.len, h.ow⟩
theorem EO.drew {w wr : World} {gv vk : Value} {er : List Int} {v : Value} {hs : List Hd} {ve : Value} {es : List Ed} (h : EO w wr gv vk er v hs ve es) : EO w wr.drew gv vk er v hs ve es := h.call (Below.drew (Below.refl _ _))
/-- What the targets are, behind the store into their box. -/
theorem tb_set {w2 : World} {base b : Nat} {vs : List Value} {Ls : Int → List Int} (hz : Row w2 b 97 [.slice none 0 0, .slice none 0 0, .slice none 0 0, .slice none 0 0, .slice none 0 0, .slice none 0 0, .slice none 0 0, .slice none 0 0, .slice none 0 0, .slice none 0 0, .slice none 0 0, .slice none 0 0, .slice none 0 0, .slice none 0 0, .slice none 0 0, .slice none 0 0, .slice none 0 0, .slice none 0 0, .slice none 0 0, .slice none 0 0, .slice none 0 0, .slice none 0 0, .slice none 0 0, .slice none 0 0, .slice none 0 0, .slice none 0 0, .slice none 0 0, .slice none 0 0, .slice none 0 0, .slice none 0 0, .slice none 0 0, .slice none 0 0]) (h : TgV w2 base vs Ls) : TB (w2.setCells b 0 vs) base b vs Ls := by
  have h1 := Row.setCells vs 0 w2 _ hz (by rw [h.len]; exact Nat.le_refl _)
  rw [show ([.slice none 0 0, .slice none 0 0, .slice none 0 0, .slice none 0 0, .slice none 0 0, .slice none 0 0, .slice none 0 0, .slice none 0 0, .slice none 0 0, .slice none 0 0, .slice none 0 0, .slice none 0 0, .slice none 0 0, .slice none 0 0, .slice none 0 0, .slice none 0 0, .slice none 0 0, .slice none 0 0, .slice none 0 0, .slice none 0 0, .slice none 0 0, .slice none 0 0, .slice none 0 0, .slice none 0 0, .slice none 0 0, .slice none 0 0, .slice none 0 0, .slice none 0 0, .slice none 0 0, .slice none 0 0, .slice none 0 0, .slice none 0 0] : List Value).drop (0 + vs.length) = [] from by rw [h.len]; rfl] at h1
  exact ⟨by simpa using h1, h.len, fun e he => ownsRow_same' (h.ow e he) fun g hg => World.heap_setCells_other w2 b 0 vs ((h.ow e he).lt g hg).2 (fun e' => row_ne_own hz (h.ow e he) (by decide) (by rw [hg, e']))⟩
theorem there_row {w : World} {b : Nat} {e : TypeId} {cs : List Value} (h : Row w b e cs) : w.there b 0 cs.length := fun j hj => by
  rw [Nat.zero_add]
  exact ⟨by rw [h.cell j (List.getElem?_eq_getElem hj)]; rfl, h.frozen j⟩
theorem cell_setCells {w : World} {b c o p : Nat} {vs : List Value} {v : Value} (h : w.cell? ⟨c, p, none⟩ = some v) (hne : c ≠ b) : (w.setCells b o vs).cell? ⟨c, p, none⟩ = some v := by
  rw [World.cell?_setCells_out b vs o w ⟨c, p, none⟩ (fun e _ => absurd e hne)]; exact h
set_option maxHeartbeats 16000000 in
set_option maxRecDepth 100000 in
theorem jExplore1_any (bg S : Nat) (a : Au) (onto : List Int) (Ak : Option Addr) (nk ck : Nat) (w : World) (hg : RdGr w w.heap.size bg a) (hr : RightW a) (hS : a.st = (S : Int)) (hSb : S ≤ 4096) (hS0 : 0 < S) (hel : a.ed.length ≤ 1000000) (hk : RdI w w.heap.size Ak (kpR a onto)) (hn : (kpR a onto).length = nk) :
    Calls Try.prog 25 #[.agg (obL (.slice (some ⟨bg, 0, none⟩) S S) (.slice Ak nk ck) (erR a onto)).toArray] w fun e w' => Below w.heap.size w w' ∧ ExV a onto w w' e := by
  have hdt := det_dt (show a.st ≠ 0 by omega) onto
  have HDT := Lib.hid hdt
  have HPR := Lib.hid (dt_right hr onto)
  have HST0 := Lib.hid (dt_pos a onto)
  have HW := Lib.hid hr
  have HSS := Lib.hid hS
  have HEL := Lib.hid hel
  have hmm := run_makeMap (P := Try.prog) 93
  have HE0 := Lib.hid (eo_start w (.slice (some ⟨bg, 0, none⟩) S S) (.slice Ak nk ck) (erR a onto))
  have HGK := Lib.hid (fun W (hW : Below w.heap.size w W) => hg.keep hW)
  have HKK := Lib.hid (fun W (hW : Below w.heap.size w W) => (hk.below hW (Nat.le_refl _)).more hW.size)
  have HKN := Lib.hid hn
  have hnk : nk ≤ 32 := by rw [← hn]; exact kp_len hr onto
  have HFi := Lib.hid (fun W (hW : Below w.heap.size w W) => jFirst_any bg S a onto (.slice Ak nk ck) W (hg.keep hW) hr hS (by omega))
  have hrg := Lib.hid (show World.rangeAt _ w.heap.size 0 (obL (.slice (some ⟨bg, 0, none⟩) S S) (.slice Ak nk ck) (erR a onto)) from fun i v hi => by rw [Nat.zero_add]; exact HE0.out.ob.cell i hi)
  have hsz := Lib.hid (show (Try.prog.info? 64).map (·.size) = some (obL (.slice (some ⟨bg, 0, none⟩) S S) (.slice Ak nk ck) (erR a onto)).length by rw [obs_size, ob_len])
  have hfne : 0 < (fsR a onto).length := by
    have : (0 : Int) ∈ fsR a onto := by
      unfold fsR; rw [if_neg (by omega)]
      exact (mem_reR hr (fun q hq => by rw [List.mem_singleton.1 hq]; omega)).2 (.base (by simp))
    exact List.length_pos_of_mem this
  obtain ⟨fl0, hfl0⟩ : ∃ l, l = (fsR a onto).length := ⟨_, rfl⟩
  rw [← hfl0] at hfne
  have HFL0 := Lib.hid hfl0
  have z9 : (0 : Int) < (fl0 : Int) := by omega
  clear hg hr hdt hS hel hk hn hfl0
  go_enter Try.func25, Try.ntmps25
  go_wp2_with (first | refine wpList_load_mid rfl 64 (.tmp 1) rfl w.heap.size 0 rfl (obL (.slice (some ⟨bg, 0, none⟩) S S) (.slice Ak nk ck) (erR a onto)) _ hrg.out Try.underlying64 rfl hsz.out ?_)
  refine (HFi.out _ HE0.out.bel).mono ?_
  rintro e w4 ⟨v, rfl, ho, hb4⟩
  have ho' := own_more (base' := w.heap.size) ho HE0.out.bel.size
  obtain ⟨A4, c4, rfl, _, _, _⟩ := own_rdc ho
  rw [← HFL0.out] at ho' ⊢
  have HE4 := Lib.hid (HE0.out.call hb4)
  have HNum := Lib.hid (jNumber_any (w.heap.size + 1) (w.heap.size + 1 + 1 + 1) (w.heap.size + 1 + 1) w.heap.size (.slice none 0 0) [] ⟨A4, c4, fsR a onto⟩ w4 HE4.out.fn (by show w4.ownsRow w.heap.size 3 1 (.slice A4 (fsR a onto).length c4) (fsR a onto).length ((fsR a onto).map (Value.int .i64)); rw [← HFL0.out]; exact ho') (skey_of HSS.out hSb (fs_ok onto)) (by simp))
  rw [show (addS [] (⟨A4, c4, fsR a onto⟩ : Hd)) = [⟨A4, c4, fsR a onto⟩] from rfl] at HNum
  simp only [← HFL0.out] at HNum
  clear ho ho' hb4 HE0 hrg hsz HFi
  go_wp2_with fail
  refine HNum.out.mono ?_
  rintro e w5 ⟨rfl, v5, hf5, hk5⟩
  have HE5 := Lib.hid (HE4.out.num hf5 hk5)
  clear hf5 hk5 HE4 HNum
  go_wp2_with fail
  go_loopw [9, 10] (fun ve i wr => ∃ (j : Nat) (v : Value) (hs : List Hd), i = .int .i64 j ∧ Hid (j ≤ (Fd (dtA a onto) j).length) ∧ Hid ((Fd (dtA a onto) j).length ≤ 4096) ∧ Hid (hs.map Hd.z = (Fd (dtA a onto) j).map (deR a onto)) ∧ Hid (EO w wr (.slice (some ⟨bg, 0, none⟩) S S) (.slice Ak nk ck) (erR a onto) v hs ve (canEn (dtA a onto) j))) (fun _ i _ => 5000 - (intOf i).toNat)
  case atStart => exact ⟨0, v5, _, rfl, Lib.hid (Nat.zero_le _), Lib.hid (by simp [Fd]), Lib.hid (by simp [Fd, de_zero HW.out]), HE5⟩
  case round =>
    clear HE5
    obtain ⟨j, v, hs, rfl, hjl, hj4, hmap, hex⟩ := hrel
    obtain ⟨L, hL⟩ : ∃ L, L = (Fd (dtA a onto) j).length := ⟨_, rfl⟩
    have HLn := Lib.hid hL
    have hsl : hs.length = L := by have := congrArg List.length hmap.out; rw [List.length_map, List.length_map] at this; rw [this, hL]
    have HSL := Lib.hid hsl
    obtain ⟨Av, cv, hv⟩ := own_shapeS hex.out.fn.ow
    rw [hsl] at hv
    subst hv
    have hF := hex.out.fn.fo.cell 0 rfl
    have hjL : j ≤ L := by rw [hL]; exact hjl.out
    have hL4 : L ≤ 4096 := by rw [hL]; exact hj4.out
    clear hL hjl hj4 hsl
    by_cases hlt : j < L
    · obtain ⟨q, hq⟩ : ∃ q, q = (Fd (dtA a onto) j).getD j 0 := ⟨_, rfl⟩
      have HQ := Lib.hid hq
      have hjF : j < (Fd (dtA a onto) j).length := by rw [← HLn.out]; exact hlt
      have hqr : 0 ≤ q ∧ q < (dtA a onto).st := by
        rw [hq]
        refine Fd_range HPR.out HST0.out j _ ?_
        rw [List.getD, List.getElem?_eq_getElem hjF]; exact List.getElem_mem _
      have HQR := Lib.hid hqr
      have hqf : (fnd (dtA a onto)).getD j 0 = q := by rw [hq]; exact getD_pre (Fd_fnd HPR.out HST0.out j) hjF
      have HQF := Lib.hid hqf
      have hzp := Lib.hid (fun k => visK_preJ HPR.out HST0.out (j := j) (k := k) hjF hq)
      obtain ⟨x, hx⟩ : ∃ x, hs[j]? = some x := ⟨_, List.getElem?_eq_getElem (by rw [HSL.out]; exact hlt)⟩
      have hxz : x.z = deR a onto q := by
        have h1 : (hs.map Hd.z)[j]? = some x.z := by rw [List.getElem?_map, hx]; rfl
        rw [hmap.out, List.getElem?_map, List.getElem?_eq_getElem hjF] at h1
        rw [hq, List.getD, List.getElem?_eq_getElem hjF]
        simpa using h1.symm
      have hxm := List.mem_of_getElem? hx
      have hxo := hex.out.fn.rw x hxm
      obtain ⟨s, hs'⟩ : ∃ s, s = deR a onto q := ⟨_, rfl⟩
      have HSQ := Lib.hid hs'
      have hsok := de_ok HW.out onto hqr
      rw [← hs'] at hxz hsok
      obtain ⟨A5, c5, hxe, hxr, _, _⟩ := own_rdc hxo
      rw [hxz] at hxe hxr
      obtain ⟨sl, hsl⟩ : ∃ l, l = s.length := ⟨_, rfl⟩
      rw [← hsl] at hxe
      have HSLn := Lib.hid hsl
      have hsl4 : sl ≤ 4096 := by rw [hsl]; have := sub_len hsok; rw [HSS.out] at this; simp at this; omega
      obtain ⟨gA, rfl⟩ : ∃ gA, Av = some ⟨gA, 0, none⟩ := by
        rcases hex.out.fn.ow.2 with ⟨h1, h2⟩ | ⟨g, cap, cur, h1, _⟩
        · rw [HSL.out] at h2; omega
        · injection h1 with h1; exact ⟨g, h1⟩
      have hgA : gA < wr.heap.size := (hex.out.fn.ow.lt gA rfl).2
      have hcx : wr.cell? ⟨gA, j, none⟩ = some (.slice A5 sl c5) := by
        have h1 := hex.out.fn.ow
        rw [HSL.out] at h1
        rw [World.ownsRow.cellAt h1 j (by omega), List.getElem?_map, hx]
        simpa using hxe
      have hc0 := hex.out.ob.cell 0 (show (obL (.slice (some ⟨bg, 0, none⟩) S S) (.slice Ak nk ck) (erR a onto))[0]? = some (.slice (some ⟨bg, 0, none⟩) S S) from rfl)
      have hob := hex.out.ob.lt
      have hfo := hex.out.fn.fo.lt
      have hbel := hex.out.bel.size
      have HSR := Lib.hid (show ∀ q ∈ s, 0 ≤ q ∧ q < (S : Int) from fun q hq => by have := hsok.2 q hq; rw [HSS.out] at this; simpa using this)
      have HTG := Lib.hid (fun W (hW : Below wr.heap.size wr W) => jTargets_any bg S a A5 sl c5 s W (HGK.out _ (hex.out.bel.trans (hW.mono hbel))) HW.out HSS.out hSb ((hxr.below hW (Nat.le_refl _)).more hW.size) HSLn.out.symm hsl4 HSR.out HEL.out)
      have hjz : (0 : Int) ≤ (j : Int) := by omega
      have hjLz : (j : Int) < (L : Int) := by omega
      have hgF : gA ≠ w.heap.size + 1 := fun e' => row_ne_own hex.out.fn.fo hex.out.fn.ow (by decide) (by rw [← e']; rfl)
      clear hq hqr hqf hx hxz hxm hxo hs' hsok hxe hxr hsl hjF
      go_wp2_with fail
      go_upto_region 11 with fail
      go_cut [11] from 30 to 36 (fun v11 wx => ∃ (bt : Nat) (vs : List Value), v11 = .pointer (some ⟨bt, 0, none⟩) ∧ Hid (EO w wx (.slice (some ⟨bg, 0, none⟩) S S) (.slice Ak nk ck) (erR a onto) (.slice (some ⟨gA, 0, none⟩) L cv) hs u9 (canEn (dtA a onto) j)) ∧ Hid (TB wx w.heap.size bt vs (tgL a s)))
      case first =>
        have a0 := fun cs : Array Value => fun ty => (World.cell?_alloc_lt wr (.cells cs ty) ⟨w.heap.size, 0, none⟩ hob).trans hc0
        have a1 := fun cs : Array Value => fun ty => (World.cell?_alloc_lt wr (.cells cs ty) ⟨w.heap.size + 1, 0, none⟩ hfo).trans hF
        have a2 := fun cs : Array Value => fun ty => (World.cell?_alloc_lt wr (.cells cs ty) ⟨gA, j, none⟩ hgA).trans hcx
        go_region_held3 (fun w' => w'.cell? ⟨w.heap.size, 0, none⟩ = some (.slice (some ⟨bg, 0, none⟩) S S) ∧ w'.cell? ⟨w.heap.size + 1, 0, none⟩ = some (.slice (some ⟨gA, 0, none⟩) L cv) ∧ w'.cell? ⟨gA, j, none⟩ = some (.slice A5 sl c5)) (first | exact ⟨hc0, hF, hcx⟩ | exact ⟨a0 _ _, a1 _ _, a2 _ _⟩ | exact ⟨d0, d1, d2⟩ | exact ⟨d3 _ _, d4 _ _, d5 _ _⟩ | exact ⟨cell_setCells d0 (by omega), cell_setCells d1 (by omega), cell_setCells d2 (by omega)⟩ | exact ⟨cell_setCells (d3 _ _) (by omega), cell_setCells (d4 _ _) (by omega), cell_setCells (d5 _ _) (by omega)⟩)
          (first
          | (go_simp; go_at_call 54; with_reducible refine (HTG.out wr.drew (Below.drew (Below.refl _ _))).mono ?_; rintro r w2 ⟨vs, rfl, htv, hb2⟩
             have HB2 := Lib.hid (show Below wr.heap.size wr w2 from (Below.drew (Below.refl wr.heap.size wr)).trans hb2)
             have HTV := Lib.hid (show TgV w2 w.heap.size vs (tgL a s) from htv.base hbel)
             have d0 := (HB2.out.cell (p := ⟨w.heap.size, 0, none⟩) hob).trans hc0
             have d1 := (HB2.out.cell (p := ⟨w.heap.size + 1, 0, none⟩) hfo).trans hF
             have d2 := (HB2.out.cell (p := ⟨gA, j, none⟩) hgA).trans hcx
             have hz2 := HB2.out.size
             have d3 := fun cs : Array Value => fun ty => (World.cell?_alloc_lt w2 (.cells cs ty) ⟨w.heap.size, 0, none⟩ (by show w.heap.size < w2.heap.size; omega)).trans d0
             have d4 := fun cs : Array Value => fun ty => (World.cell?_alloc_lt w2 (.cells cs ty) ⟨w.heap.size + 1, 0, none⟩ (by show w.heap.size + 1 < w2.heap.size; omega)).trans d1
             have d5 := fun cs : Array Value => fun ty => (World.cell?_alloc_lt w2 (.cells cs ty) ⟨gA, j, none⟩ (by show gA < w2.heap.size; omega)).trans d2
             have hrz := Row.new w2 [.slice none 0 0, .slice none 0 0, .slice none 0 0, .slice none 0 0, .slice none 0 0, .slice none 0 0, .slice none 0 0, .slice none 0 0, .slice none 0 0, .slice none 0 0, .slice none 0 0, .slice none 0 0, .slice none 0 0, .slice none 0 0, .slice none 0 0, .slice none 0 0, .slice none 0 0, .slice none 0 0, .slice none 0 0, .slice none 0 0, .slice none 0 0, .slice none 0 0, .slice none 0 0, .slice none 0 0, .slice none 0 0, .slice none 0 0, .slice none 0 0, .slice none 0 0, .slice none 0 0, .slice none 0 0, .slice none 0 0, .slice none 0 0] 97
             have HRZ := Lib.hid hrz
             have hth := there_row hrz
             have hth2 : ((w2.alloc (.cells #[.slice none 0 0, .slice none 0 0, .slice none 0 0, .slice none 0 0, .slice none 0 0, .slice none 0 0, .slice none 0 0, .slice none 0 0, .slice none 0 0, .slice none 0 0, .slice none 0 0, .slice none 0 0, .slice none 0 0, .slice none 0 0, .slice none 0 0, .slice none 0 0, .slice none 0 0, .slice none 0 0, .slice none 0 0, .slice none 0 0, .slice none 0 0, .slice none 0 0, .slice none 0 0, .slice none 0 0, .slice none 0 0, .slice none 0 0, .slice none 0 0, .slice none 0 0, .slice none 0 0, .slice none 0 0, .slice none 0 0, .slice none 0 0] 97)).drew).there w2.heap.size 0 32 := hth
             have hsv : (Try.prog.info? 97).map (·.size) = some vs.length := by rw [arr32_size, htv.len]
             have hlv := htv.len
             have hov : ∀ v ∈ vs, v.oneCell' = true := fun v hv => by
               obtain ⟨e, he, rfl⟩ := List.getElem_of_mem hv
               have := own_one' (htv.ow e (by rw [← hlv]; exact he))
               rwa [List.getD, List.getElem?_eq_getElem he] at this
             clear htv hb2 hrz)
          | (go_simp; go_at_call 54; with_reducible refine (HTG.out ((wr.alloc (.cells #[.slice none 0 0, .slice none 0 0, .slice none 0 0, .slice none 0 0, .slice none 0 0, .slice none 0 0, .slice none 0 0, .slice none 0 0, .slice none 0 0, .slice none 0 0, .slice none 0 0, .slice none 0 0, .slice none 0 0, .slice none 0 0, .slice none 0 0, .slice none 0 0, .slice none 0 0, .slice none 0 0, .slice none 0 0, .slice none 0 0, .slice none 0 0, .slice none 0 0, .slice none 0 0, .slice none 0 0, .slice none 0 0, .slice none 0 0, .slice none 0 0, .slice none 0 0, .slice none 0 0, .slice none 0 0, .slice none 0 0, .slice none 0 0] 97)).drew) (Below.drew (Below.alloc (Below.refl _ _) (Nat.le_refl _) _))).mono ?_; rintro r w2 ⟨vs, rfl, htv, hb2⟩
             have HB2 := Lib.hid (show Below wr.heap.size wr w2 from (Below.drew (Below.alloc (Below.refl wr.heap.size wr) (Nat.le_refl _) _)).trans (hb2.mono (by simp)))
             have HTV := Lib.hid (show TgV w2 w.heap.size vs (tgL a s) from htv.base (by simp; omega))
             have d0 := (HB2.out.cell (p := ⟨w.heap.size, 0, none⟩) hob).trans hc0
             have d1 := (HB2.out.cell (p := ⟨w.heap.size + 1, 0, none⟩) hfo).trans hF
             have d2 := (HB2.out.cell (p := ⟨gA, j, none⟩) hgA).trans hcx
             have hz2 := HB2.out.size
             have hrz : Row w2 wr.heap.size 97 [.slice none 0 0, .slice none 0 0, .slice none 0 0, .slice none 0 0, .slice none 0 0, .slice none 0 0, .slice none 0 0, .slice none 0 0, .slice none 0 0, .slice none 0 0, .slice none 0 0, .slice none 0 0, .slice none 0 0, .slice none 0 0, .slice none 0 0, .slice none 0 0, .slice none 0 0, .slice none 0 0, .slice none 0 0, .slice none 0 0, .slice none 0 0, .slice none 0 0, .slice none 0 0, .slice none 0 0, .slice none 0 0, .slice none 0 0, .slice none 0 0, .slice none 0 0, .slice none 0 0, .slice none 0 0, .slice none 0 0, .slice none 0 0] := Row.below (show Row ((wr.alloc (.cells #[.slice none 0 0, .slice none 0 0, .slice none 0 0, .slice none 0 0, .slice none 0 0, .slice none 0 0, .slice none 0 0, .slice none 0 0, .slice none 0 0, .slice none 0 0, .slice none 0 0, .slice none 0 0, .slice none 0 0, .slice none 0 0, .slice none 0 0, .slice none 0 0, .slice none 0 0, .slice none 0 0, .slice none 0 0, .slice none 0 0, .slice none 0 0, .slice none 0 0, .slice none 0 0, .slice none 0 0, .slice none 0 0, .slice none 0 0, .slice none 0 0, .slice none 0 0, .slice none 0 0, .slice none 0 0, .slice none 0 0, .slice none 0 0] 97)).drew) wr.heap.size 97 [.slice none 0 0, .slice none 0 0, .slice none 0 0, .slice none 0 0, .slice none 0 0, .slice none 0 0, .slice none 0 0, .slice none 0 0, .slice none 0 0, .slice none 0 0, .slice none 0 0, .slice none 0 0, .slice none 0 0, .slice none 0 0, .slice none 0 0, .slice none 0 0, .slice none 0 0, .slice none 0 0, .slice none 0 0, .slice none 0 0, .slice none 0 0, .slice none 0 0, .slice none 0 0, .slice none 0 0, .slice none 0 0, .slice none 0 0, .slice none 0 0, .slice none 0 0, .slice none 0 0, .slice none 0 0, .slice none 0 0, .slice none 0 0] from Row.new wr [.slice none 0 0, .slice none 0 0, .slice none 0 0, .slice none 0 0, .slice none 0 0, .slice none 0 0, .slice none 0 0, .slice none 0 0, .slice none 0 0, .slice none 0 0, .slice none 0 0, .slice none 0 0, .slice none 0 0, .slice none 0 0, .slice none 0 0, .slice none 0 0, .slice none 0 0, .slice none 0 0, .slice none 0 0, .slice none 0 0, .slice none 0 0, .slice none 0 0, .slice none 0 0, .slice none 0 0, .slice none 0 0, .slice none 0 0, .slice none 0 0, .slice none 0 0, .slice none 0 0, .slice none 0 0, .slice none 0 0, .slice none 0 0] 97) hb2 (by simp)
             have HRZ := Lib.hid hrz
             have hth := there_row hrz
             have hsv : (Try.prog.info? 97).map (·.size) = some vs.length := by rw [arr32_size, htv.len]
             have hlv := htv.len
             have hov : ∀ v ∈ vs, v.oneCell' = true := fun v hv => by
               obtain ⟨e, he, rfl⟩ := List.getElem_of_mem hv
               have := own_one' (htv.ow e (by rw [← hlv]; exact he))
               rwa [List.getD, List.getElem?_eq_getElem he] at this
             clear htv hb2 hrz))
        all_goals
          go_wp2_with fail
          go_meet
          case rel =>
            first
            | exact ⟨_, vs, rfl, Lib.hid (hex.out.call (below_setCells (Nat.le_refl _) vs 0 HB2.out)), Lib.hid (tb_set HRZ.out HTV.out)⟩
            | exact ⟨_, vs, rfl, Lib.hid (hex.out.call (below_setCells (Nat.le_refl _) vs 0 HB2.out)).drew, Lib.hid (tb_set HRZ.out HTV.out).drew⟩
            | exact ⟨_, vs, rfl, Lib.hid (hex.out.call (below_setCells HB2.out.size vs 0 (HB2.out.alloc HB2.out.size _))), Lib.hid (tb_set HRZ.out (HTV.out.alloc _))⟩
            | exact ⟨_, vs, rfl, Lib.hid (hex.out.call (below_setCells HB2.out.size vs 0 (HB2.out.alloc HB2.out.size _))).drew, Lib.hid (tb_set HRZ.out (HTV.out.alloc _)).drew⟩
      case rest =>
        obtain ⟨bt, vs, rfl, hexx, htb⟩ := hcut
        clear hc0 hF hcx HTG hex hob hfo hbel hgA hgF
        have hex := hexx
        clear hexx
        have c1 := hex.out.ob.cell 1 (show (obL (.slice (some ⟨bg, 0, none⟩) S S) (.slice Ak nk ck) (erR a onto))[1]? = some (.slice Ak nk ck) from rfl)
        go_wp2_with fail
        go_loopw [9, 40] (fun ve i wx => ∃ (k : Nat) (v : Value) (hs : List Hd), i = .int .i64 k ∧ k ≤ nk ∧ Hid (hs.map Hd.z = (visitL (Fd (dtA a onto) j) (succK (dtA a onto) q k)).map (deR a onto)) ∧ Hid (EO w wx (.slice (some ⟨bg, 0, none⟩) S S) (.slice Ak nk ck) (erR a onto) v hs ve (canEn (dtA a onto) j ++ outK (dtA a onto) j k)) ∧ Hid (TB wx w.heap.size bt vs (tgL a s))) (fun _ i _ => nk - (intOf i).toNat)
        case atStart => exact ⟨0, _, hs, rfl, Nat.zero_le _, by rw [succK_zero, visitL_nil]; exact hmap, by rw [outK_zero, List.append_nil]; exact hex, htb⟩
        case round =>
          clear hex htb c1 hmap HSL
          obtain ⟨k, v, hs, rfl, hkm, hmap, hex, htb⟩ := hrel
          obtain ⟨fl, hfl⟩ : ∃ fl, fl = visitL (Fd (dtA a onto) j) (succK (dtA a onto) q k) := ⟨_, rfl⟩
          rw [← hfl] at hmap
          obtain ⟨L2, hL2⟩ : ∃ L2, L2 = fl.length := ⟨_, rfl⟩
          have HFL := Lib.hid hfl
          have HL2 := Lib.hid hL2
          have hsl : hs.length = L2 := by have := congrArg List.length hmap.out; rw [List.length_map, List.length_map] at this; rw [this, hL2]
          have HSL := Lib.hid hsl
          obtain ⟨es, hes⟩ : ∃ es, es = canEn (dtA a onto) j ++ outK (dtA a onto) j k := ⟨_, rfl⟩
          have HES := Lib.hid hes
          rw [← hes] at hex
          have hpre : Fd (dtA a onto) j <+: fl := by rw [hfl]; exact visitL_pre _ _
          have hLL : L ≤ L2 := by have := hpre.length_le; rw [← HLn.out, ← hL2] at this; exact this
          have hal : (dtA a onto).al.length = nk := by rw [← HKN.out]; rfl
          have hL2b : L2 ≤ 4096 + 32 := by
            have h1 := visitL_lenJ (succK (dtA a onto) q k) (Fd (dtA a onto) j)
            have h2 := succK_lenJ (dtA a onto) q k
            rw [hal] at h2
            rw [← HLn.out, ← hfl, ← hL2] at h1
            omega
          clear hfl hes
          by_cases hlk : k < nk
          · have hkl : k < (kpR a onto).length := by rw [HKN.out]; exact hlk
            obtain ⟨bk, ok, rfl, hbk, hck⟩ := HKK.out wr hex.out.bel (by omega)
            have hce := hck k hkl
            have hevm := getD_mem hkl
            have hevr := HW.out.alr _ (mem_kpR.1 hevm).1
            obtain ⟨e, he⟩ : ∃ e : Nat, (kpR a onto).getD k 0 = (e : Int) := ⟨((kpR a onto).getD k 0).toNat, by omega⟩
            rw [he] at hce hevm hevr
            have HEV := Lib.hid he
            have he32 : e < 32 := by omega
            have HLK := Lib.hid (dt_link HW.out onto HQR.out hevm)
            rw [← HSQ.out] at HLK
            have howe := htb.out.ow e he32
            obtain ⟨A6, c6, hv6, hr6, _, _⟩ := own_rdc howe
            obtain ⟨n6, hn6⟩ : ∃ n, n = (tgL a s (e : Int)).length := ⟨_, rfl⟩
            rw [← hn6] at hv6
            have HN6 := Lib.hid hn6
            have cbt := htb.out.row.cell e (v := .slice A6 n6 c6) (by rw [← hv6, List.getD, List.getElem?_eq_getElem (by rw [htb.out.len]; exact he32)]; rfl)
            have CV := Lib.hid (show vs[e]? = some (.slice A6 n6 c6) by rw [← hv6, List.getD, List.getElem?_eq_getElem (by rw [htb.out.len]; exact he32)]; rfl)
            have hkal : k < (dtA a onto).al.length := by rw [hal]; exact hlk
            have hev2 : (dtA a onto).al.getD k 0 = (e : Int) := HEV.out
            have z0 : (k : Int) < (nk : Int) := by omega
            have z1 : (0 : Int) ≤ (k : Int) := by omega
            have z2 : (0 : Int) ≤ (e : Int) := by omega
            have z3 : (e : Int) < 32 := by omega
            have HR6 := Lib.hid hr6
            clear hck hevm hevr he howe hv6 hn6 hr6
            rcases HLK.out with ⟨hnil, hed⟩ | ⟨hne, t, hed, htr, hT⟩
            · obtain rfl : n6 = 0 := by rw [HN6.out, hnil]; rfl
              have HVIS := Lib.hid (show visitL (Fd (dtA a onto) j) (succK (dtA a onto) q (k + 1)) = fl by rw [succK_none hkal (by rw [hev2]; exact hed), ← HFL.out])
              have HOUT := Lib.hid (show canEn (dtA a onto) j ++ outK (dtA a onto) j (k + 1) = es by rw [outK_none hkal (by rw [HQF.out, hev2]; exact hed), ← HES.out])
              clear hnil hed HLK hev2
              go_wp2_with fail
              go_roundw
              case rel => exact ⟨k + 1, v, hs, by go_num, by omega, by rw [HVIS.out]; exact hmap, by rw [HOUT.out]; exact hex, htb⟩
              case measure => simp [intOf]; omega
            · have hn0 : 0 < n6 := by rw [HN6.out]; exact List.length_pos_iff.2 hne
              have hvis : visitL (Fd (dtA a onto) j) (succK (dtA a onto) q (k + 1)) = visit fl t := by
                rw [succK_some hkal (x := ⟨q, (e : Int), t⟩) (by rw [hev2]; exact hed), visitL_snoc, ← HFL.out]
              have hpr1 := hzp.out (k + 1)
              rw [hvis] at hpr1
              have hrange : ∀ y ∈ visit fl t, 0 ≤ y ∧ y < (dtA a onto).st := fun y hy => fnd_range HPR.out y (hpr1.subset hy)
              have hidx : (visit fl t).idxOf t = (fnd (dtA a onto)).idxOf t := (idx_pre hpr1 (mem_visit.2 (.inr rfl))).symm
              obtain ⟨I, hI⟩ : ∃ I, I = (fnd (dtA a onto)).idxOf t := ⟨_, rfl⟩
              have hout : canEn (dtA a onto) j ++ outK (dtA a onto) j (k + 1) = es ++ [⟨(j : Int), (e : Int), (I : Int)⟩] := by
                rw [outK_some hkal (x := ⟨q, (e : Int), t⟩) (by rw [HQF.out, hev2]; exact hed), ← List.append_assoc, ← HES.out, hI]
              have HVIS := Lib.hid hvis
              have HOUT := Lib.hid hout
              have hnx : reR a (erR a onto) (tgL a s (e : Int)) = deR a onto t := by rw [hT, nx_tgL HW.out]
              have hnok := de_ok HW.out onto htr
              have HSK := Lib.hid (skey_of HSS.out hSb hnok)
              have hbel := hex.out.bel.size
              have hob := hex.out.ob.lt
              have hbt := htb.out.row.lt
              have HSP := Lib.hid (fun W (hW : Below wr.heap.size wr W) => jSpread_any bg S a A6 n6 c6 (tgL a s (e : Int)) (erR a onto) W (HGK.out _ (hex.out.bel.trans (hW.mono hbel))) HW.out HSS.out hSb ((HR6.out.below hW (Nat.le_refl _)).more hW.size) HN6.out.symm (by
                have := tgL_le HW.out (e : Int) s
                have h8 := HSLn.out
                have h9 := HN6.out
                omega) (fun x hx => by have := tgR_range HW.out x (mem_tgL.1 hx); rw [HSS.out] at this; exact this))
              rw [hnx] at HSP
              have HNUM := Lib.hid (fun (W : World) (A8 : Option Addr) (c8 : Nat) (hE : EO w W (.slice (some ⟨bg, 0, none⟩) S S) (.slice (some ⟨bk, ok, none⟩) nk ck) (erR a onto) v hs u9 es) (ho : Own W w.heap.size (.slice A8 (deR a onto t).length c8) (deR a onto t)) => jNumber_any (w.heap.size + 1) (w.heap.size + 1 + 1 + 1) (w.heap.size + 1 + 1) w.heap.size v hs ⟨A8, c8, deR a onto t⟩ W hE.fn ho HSK.out (by rw [HSL.out]; omega))
              have HADD := Lib.hid (fun (x : Hd) (hx : x.z = deR a onto t) => by
                have := addS_map (x := x) hmap.out hx (fun y hy e' => de_inj HW.out onto (hrange y (mem_visit.2 (.inl hy))) htr e')
                rw [hidx, ← hI] at this
                exact this)
              have hc0 := hex.out.ob.cell 0 (show (obL (.slice (some ⟨bg, 0, none⟩) S S) (.slice (some ⟨bk, ok, none⟩) nk ck) (erR a onto))[0]? = some (.slice (some ⟨bg, 0, none⟩) S S) from rfl)
              have hrg := ob_flags hex.out.ob
              have hul := Try.underlying62
              have hsz : (Try.prog.info? 62).map (·.size) = some (flR (erR a onto)).length := by rw [flags_size, fl_len]
              clear hne hed htr hT hvis hpr1 hrange hidx hI hout HLK hev2 hnx hnok
              have z4 : (0 : Int) < (n6 : Int) := by omega
              have d3 := fun cs : Array Value => fun ty => fun W : World => fun (hW : W.cell? ⟨w.heap.size, 0, none⟩ = some (.slice (some ⟨bg, 0, none⟩) S S)) => (World.cell?_alloc_lt W (.cells cs ty) ⟨w.heap.size, 0, none⟩ (World.block_lt_of_cell? W _ hW)).trans hW
              have d4 := fun cs : Array Value => fun ty => fun W : World => fun (hW : W.cell? ⟨bt, e, none⟩ = some (.slice A6 n6 c6)) => (World.cell?_alloc_lt W (.cells cs ty) ⟨bt, e, none⟩ (World.block_lt_of_cell? W _ hW)).trans hW
              obtain ⟨iE, iE0, iE1, iE2, iE3⟩ := info_edgeEJ
              have hele : es.length ≤ 140000 := by
                have h1 := canEn_leJ HPR.out j
                have h2 := succK_lenJ (dtA a onto) ((fnd (dtA a onto)).getD j 0) k
                have h3 : (outK (dtA a onto) j k).length ≤ (dtA a onto).al.length := by unfold outK; rw [List.length_map]; exact h2
                rw [HES.out, List.length_append]
                rw [hal] at h1 h3
                have h4 : j * nk ≤ 4096 * 32 := Nat.mul_le_mul (by omega) hnk
                omega
              go_wp2_with fail
              go_region_held3 (fun w' => w'.cell? ⟨w.heap.size, 0, none⟩ = some (.slice (some ⟨bg, 0, none⟩) S S) ∧ w'.cell? ⟨bt, e, none⟩ = some (.slice A6 n6 c6) ∧ w'.rangeAt w.heap.size 2 (flR (erR a onto))) (first | exact ⟨hc0, cbt, hrg⟩ | exact ⟨e0, e1, e2⟩ | exact ⟨f0, f1, f2⟩ | exact ⟨d3 _ _ _ f0, d4 _ _ _ f1, rangeAt_below f2 (Below.alloc (Below.refl _ _) (Nat.le_refl _) _) flt⟩ | exact ⟨g0, g1, g2⟩)
                (first
                | (go_simp; go_at_call 40; with_reducible refine (HSP.out _ (by first | exact Below.refl _ _ | exact Below.drew (Below.refl _ _))).mono ?_; rintro r w8 ⟨v8, rfl, ho8, hb8⟩
                   obtain ⟨A8, c8, rfl, _, _, _⟩ := own_rdc ho8
                   have HB8 := Lib.hid (show Below wr.heap.size wr w8 from by first | exact hb8 | exact (Below.drew (Below.refl wr.heap.size wr)).trans hb8)
                   have HO8 := Lib.hid (show Own w8 w.heap.size (.slice A8 (deR a onto t).length c8) (deR a onto t) from own_more ho8 hbel)
                   have HEX8 := Lib.hid (hex.out.call HB8.out)
                   have HTB8 := Lib.hid (htb.out.call HB8.out)
                   have e0 := (HB8.out.cell (p := ⟨w.heap.size, 0, none⟩) hob).trans hc0
                   have e1 := (HB8.out.cell (p := ⟨bt, e, none⟩) hbt).trans cbt
                   have e2 := rangeAt_below hrg HB8.out hob
                   clear ho8 hb8)
                | (go_simp; go_at_call 52; with_reducible refine (HNUM.out _ A8 c8 (by first | exact HEX8.out | exact HEX8.out.drew) (by exact HO8.out)).mono ?_; rintro r w10 ⟨rfl, v10, hf10, hk10⟩
                   have HEX10 := Lib.hid (show EO w w10 (.slice (some ⟨bg, 0, none⟩) S S) (.slice (some ⟨bk, ok, none⟩) nk ck) (erR a onto) v10 (addS hs ⟨A8, c8, deR a onto t⟩) u9 es from by first | exact HEX8.out.num hf10 hk10 | exact HEX8.out.drew.num hf10 hk10)
                   have HTB10 := Lib.hid (show TB w10 w.heap.size bt vs (tgL a s) from by first | exact HTB8.out.num HEX8.out.fn hk10 | exact HTB8.out.drew.num HEX8.out.drew.fn hk10)
                   rw [show ((addS hs ⟨A8, c8, deR a onto t⟩).map Hd.z).idxOf (deR a onto t) = I from (HADD.out ⟨A8, c8, deR a onto t⟩ rfl).2]
                   have f0 := HEX10.out.ob.cell 0 (show (obL (.slice (some ⟨bg, 0, none⟩) S S) (.slice (some ⟨bk, ok, none⟩) nk ck) (erR a onto))[0]? = some (.slice (some ⟨bg, 0, none⟩) S S) from rfl)
                   have f1 := HTB10.out.row.cell e (v := .slice A6 n6 c6) CV.out
                   have f2 := ob_flags HEX10.out.ob
                   have flt := HEX10.out.ob.lt
                   have hz10 := HEX10.out.bel.size
                   have HEB := Lib.hid HEX10.out.edg
                   clear hf10 hk10)
                | (refine step_append_lies _ (by rfl) (.tmp 49) (.tmp 63) _ (by rfl) w.heap.size 55 iE (.agg #[.int .i64 0, .int .i64 0, .int .i64 0]) 3 24 Try.underlying23 iE0 iE1 iE2 iE3 rfl (by omega) u9 es.length (encE es) (by rfl) (by first | exact (HEB.out.alloc _).drew | exact (HEB.out.alloc _)) ⟨w10.heap.size, 0, none⟩ 1 1 [.int .i64 (j : Int), .int .i64 (e : Int), .int .i64 (I : Int)] (by rfl) (by rfl) (World.news_of_block (cs := #[.int .i64 (j : Int), .int .i64 (e : Int), .int .i64 (I : Int)]) (t := 55) (fr := (0, 0)) (heap_alloc_new w10 _)) (by simp [Value.oneCell']) (by omega) (by unfold maxLen; omega) (by omega) (by simp; omega) (w10.heap.size + 1) (by simp) ?_; intro gg cap w11 hown11 hgrow hat hlt1
                   have HO11 := Lib.hid (show OwnE w11 w.heap.size (.slice (some ⟨gg, 0, none⟩) (es.length + 1) cap) (es ++ [⟨(j : Int), (e : Int), (I : Int)⟩]) from by unfold OwnE; rw [encE_app, List.length_append]; exact hown11)
                   have HEX11 := Lib.hid (show EO w w11 (.slice (some ⟨bg, 0, none⟩) S S) (.slice (some ⟨bk, ok, none⟩) nk ck) (erR a onto) v10 (addS hs ⟨A8, c8, deR a onto t⟩) (.slice (some ⟨gg, 0, none⟩) (es.length + 1) cap) (es ++ [⟨(j : Int), (e : Int), (I : Int)⟩]) from by
                     first
                     | exact (HEX10.out.call (Below.alloc (Below.refl _ _) (Nat.le_refl _) _)).edge hgrow HO11.out
                     | exact (HEX10.out.call (Below.drew (Below.alloc (Below.refl _ _) (Nat.le_refl _) _))).edge hgrow HO11.out)
                   have HTB11 := Lib.hid (show TB w11 w.heap.size bt vs (tgL a s) from by
                     first
                     | exact (HTB10.out.call (Below.alloc (Below.refl _ _) (Nat.le_refl _) _)).edge (HEX10.out.call (Below.alloc (Below.refl _ _) (Nat.le_refl _) _)).edg hgrow
                     | exact (HTB10.out.call (Below.drew (Below.alloc (Below.refl _ _) (Nat.le_refl _) _))).edge (HEX10.out.call (Below.drew (Below.alloc (Below.refl _ _) (Nat.le_refl _) _))).edg hgrow)
                   have g0 := HEX11.out.ob.cell 0 (show (obL (.slice (some ⟨bg, 0, none⟩) S S) (.slice (some ⟨bk, ok, none⟩) nk ck) (erR a onto))[0]? = some (.slice (some ⟨bg, 0, none⟩) S S) from rfl)
                   have g1 := HTB11.out.row.cell e (v := .slice A6 n6 c6) CV.out
                   have g2 := ob_flags HEX11.out.ob
                   clear hown11 hgrow hat))
              all_goals
                go_wp2_with fail
                go_roundw
                case rel => exact ⟨k + 1, v10, addS hs ⟨A8, c8, deR a onto t⟩, by go_num, by omega, by rw [HVIS.out]; exact Lib.hid (HADD.out ⟨A8, c8, deR a onto t⟩ rfl).1, by rw [HOUT.out]; first | exact HEX11 | exact Lib.hid HEX11.out.drew, by first | exact HTB11 | exact Lib.hid HTB11.out.drew⟩
                case measure => simp [intOf]; omega
          · obtain rfl : k = nk := by omega
            have hFs : fl = Fd (dtA a onto) (j + 1) := by
              rw [HFL.out, succK_all HPR.out hal, Fd_go (by rw [← HLn.out]; exact hlt), HQ.out]
            have hEs : es = canEn (dtA a onto) (j + 1) := by rw [HES.out, outK_all HPR.out hal]
            rw [hEs] at hex
            rw [hFs] at hL2 hmap
            have HL3 := Lib.hid hL2
            have hj1 := Lib.hid (show j + 1 ≤ (Fd (dtA a onto) (j + 1)).length by rw [← hL2]; omega)
            obtain ⟨Av2, cv2, hv⟩ := own_shapeS hex.out.fn.ow
            rw [hsl] at hv
            subst hv
            have hF := hex.out.fn.fo.cell 0 rfl
            clear hFs hEs hL2 hpre hsl
            by_cases hbig : 4096 < L2
            · have hbz : (4096 : Int) < (L2 : Int) := by omega
              have hfl := (Fd_fnd HPR.out HST0.out (j + 1)).length_le
              rw [← HL3.out] at hfl
              have HBG := Lib.hid (show 4096 < (fnd (dtA a onto)).length by omega)
              clear hbig hfl
              go_wp2_with fail
              go_ret3
              exact ⟨hex.out.bel, .inl ⟨by rw [HDT.out]; exact HBG.out, rfl⟩⟩
            · have hbz : ¬ (4096 : Int) < (L2 : Int) := by omega
              have HSM := Lib.hid (show (Fd (dtA a onto) (j + 1)).length ≤ 4096 by rw [← HL3.out]; omega)
              clear hbig
              go_wp2_with fail
              go_roundw
              case rel => exact ⟨j + 1, _, hs, by go_num, hj1, HSM, hmap, hex⟩
              case measure => simp [intOf]; omega
    · obtain rfl : j = L := by omega
      have hfn : fnd (dtA a onto) = Fd (dtA a onto) j := fnd_at HPR.out HST0.out (by rw [← HLn.out]; exact Nat.le_refl _) (by
        have := Fd_len HPR.out HST0.out j
        rw [← HLn.out] at this; exact this)
      have HFN := Lib.hid hfn
      have hsl := HSL.out
      clear hfn
      go_wp2_with fail
      go_ret3
      have hlen : (fnd (dtA a onto)).length = j := by rw [HFN.out]; exact HLn.out.symm
      refine ⟨hex.out.bel, .inr ?_⟩
      rw [HDT.out]
      exact ⟨by rw [hlen]; exact hL4, _, _, hs, rfl, by rw [← hsl] at hex ⊢; exact hex.out.fn.ow, hex.out.fn.rw, by rw [HFN.out]; exact hmap.out, by rw [hlen]; exact hex.out.edg⟩
end Go.Proofs.Ytmghngehpgolgaa

/- Layer 7: Reach. -/
namespace Go.Proofs.Ytmghngehpgolgaa
open Go.RowKit Go.Sort

theorem fst_zero {x y : Int} : fstE [x, y] = 0 ↔ x = 0 ∧ y = 0 := by
  simp only [fstE]
  by_cases hx : x = 0
  · by_cases hy : y = 0 <;> simp [hx, hy]
  · simp [hx]
theorem ev_range {ev : List Int} (h : chkE ⟨ev, 0, [], []⟩ = 0) : ∀ x ∈ ev, 0 ≤ x ∧ x < 32 := (right_of h).alr
theorem cwe_zero {a : Au} {ev : List Int} (h : cweE a ev = 0) : Right a ∧ ∀ x ∈ ev, 0 ≤ x ∧ x < 32 := by
  have := fst_zero.1 h
  exact ⟨right_of this.1, ev_range this.2⟩
theorem cst_zero {s : Int} {zs : List Int} (h : cstE s zs = 0) : ∀ x ∈ zs, 0 ≤ x ∧ x < s := (right_of h).mrr
/-- The error of Reach. -/
def rchE (a : Au) (fr ev : List Int) : Int := fstE [cweE a ev, cstE a.st fr]
theorem own_moreR {w : World} {B B' : Nat} {v : Value} {zs : List Int} (h : Own w B v zs) (hB : B' ≤ B) : Own w B' v zs := by
  refine ⟨h.1, ?_⟩
  rcases h.2 with h0 | ⟨g, cap, cur, h1, h2, h3⟩
  · exact .inl h0
  · exact .inr ⟨g, cap, cur, h1, Nat.le_trans hB h2, h3⟩
set_option maxHeartbeats 4000000 in
set_option maxRecDepth 100000 in
theorem jReach_any (A : Option Addr) (n c : Nat) (s : Int) (M : Option Addr) (m d : Nat) (E : Option Addr) (k g : Nat) (a : Au) (A2 : Option Addr) (n2 c2 : Nat) (fr : List Int) (A3 : Option Addr) (n3 c3 : Nat) (ev : List Int) (w : World) (h : AuR w w.heap.size A n c s M m d E k g a) (hx : RdI w w.heap.size A2 fr) (hn : fr.length = n2) (hc : n2 ≤ c2 ∧ c2 ≤ 9223372036854775807) (hb : n2 ≤ 100000)
    (hx3 : RdI w w.heap.size A3 ev) (hn3 : ev.length = n3) (hc3 : n3 ≤ c3 ∧ c3 ≤ 9223372036854775807) (hb3 : n3 ≤ 100000) :
    Calls Try.prog 10 #[.agg #[.slice A n c, .int .i64 s, .slice M m d, .slice E k g], .slice A2 n2 c2, .slice A3 n3 c3] w fun e w' => ∃ v, e = .returned (.tuple #[v, .int .i64 (rchE a fr ev)]) ∧ Own w' w.heap.size v (if rchE a fr ev = 0 then reR a ev fr else []) ∧ Below w.heap.size w w' := by
  have hb1 := (Below.refl w.heap.size w).alloc (Nat.le_refl _) (.cells #[.slice A n c, .int .i64 s, .slice M m d, .slice E k g] 25)
  have HB1 := Lib.hid hb1
  have HCE := Lib.hid (fun W (hW : Below w.heap.size w W) => jCheckEvents_any A n c s M m d E k g a A3 n3 c3 ev W ((h.below hW (Nat.le_refl _)).more hW.size) ((hx3.below hW (Nat.le_refl _)).more hW.size) hn3 hc3 hb3)
  have HCS := Lib.hid (fun W (hW : Below w.heap.size w W) => jCheckStates_any A n c s M m d E k g a A2 n2 c2 fr W ((h.below hW (Nat.le_refl _)).more hW.size) ((hx.below hW (Nat.le_refl _)).more hW.size) hn hc hb)
  have HX := Lib.hid (BoxA.made w A n c s M m d E k g 25)
  have HR := Lib.hid h
  have HI := Lib.hid hx
  have HI3 := Lib.hid hx3
  have HN := Lib.hid hn
  have HN3 := Lib.hid hn3
  have hst := h.st
  obtain ⟨u, hu⟩ : ∃ u, u = cweE a ev := ⟨_, rfl⟩
  obtain ⟨v, hv⟩ : ∃ v, v = cstE s fr := ⟨_, rfl⟩
  obtain ⟨r, hr⟩ : ∃ r, r = rchE a fr ev := ⟨_, rfl⟩
  have HRE := Lib.hid (show r = fstE [u, v] by rw [hr, rchE, hu, hv, hst])
  have HST := Lib.hid hst
  rw [← hu] at HCE
  rw [← hv] at HCS
  rw [← hr]
  have HU := Lib.hid hu
  have HV := Lib.hid hv
  clear h hx hn hx3 hn3 hu hv hr hb1 hst
  go_enter Try.func10, Try.ntmps10
  obtain ⟨p0, p1, p2, p3⟩ := HX.out
  have HB1d := Lib.hid HB1.out.drew
  go_wp2_with fail
  go_cut [8] from 9 to 16 (fun ev wx => ev = .int .i64 r ∧ Hid (Below w.heap.size w wx ∧ BoxA wx w.heap.size A n c s M m d E k g))
  case first =>
    go_region_held3 (fun w' => w'.cell? ⟨w.heap.size, 0, none⟩ = some (.slice A n c) ∧ w'.cell? ⟨w.heap.size, 1, none⟩ = some (.int .i64 s) ∧ w'.cell? ⟨w.heap.size, 2, none⟩ = some (.slice M m d) ∧ w'.cell? ⟨w.heap.size, 3, none⟩ = some (.slice E k g)) (first | with_reducible exact ⟨p0, p1, p2, p3⟩ | go_keep)
      (first
      | (go_simp; go_at_call 23; (first | with_reducible refine (HCE.out _ HB1.out).mono ?_ | with_reducible refine (HCE.out _ HB1d.out).mono ?_); rintro e w2 ⟨rfl, hb2⟩
         have HB2 := Lib.hid (show Below w.heap.size w w2 by first | exact HB1.out.trans (hb2.mono HB1.out.size) | exact HB1d.out.trans (hb2.mono HB1d.out.size))
         have HX2 := Lib.hid (show BoxA w2 w.heap.size A n c s M m d E k g by first | exact HX.out.below hb2 (by simp) | exact (HX.out.drewN 1).below hb2 (by simp))
         have hsz2 : w.heap.size < w2.heap.size := by have h9 := hb2.size; simp at h9; omega
         obtain ⟨p0, p1, p2, p3⟩ := HX2.out
         clear hb2)
      | (go_simp; go_at_call 38; (first | with_reducible refine (HCS.out _ HB2.out).mono ?_ | with_reducible refine (HCS.out _ HB2.out.drew).mono ?_); rintro e w4 ⟨rfl, hb4⟩
         have HB4 := Lib.hid (show Below w.heap.size w w4 by first | exact HB2.out.trans (hb4.mono HB2.out.size) | exact HB2.out.drew.trans (hb4.mono HB2.out.drew.size))
         have HX4 := Lib.hid (show BoxA w4 w.heap.size A n c s M m d E k g by first | exact HX2.out.below hb4 hsz2 | exact (HX2.out.drewN 1).below hb4 hsz2)
         have hsz4 : w.heap.size < w4.heap.size := by have h9 := hb4.size; (try simp at h9); omega
         obtain ⟨p0, p1, p2, p3⟩ := HX4.out
         clear hb4)
      | (go_simp; go_at_call 37; (first | with_reducible refine (cmpOr_any _ 2 2 _ [u, v] _ rd_two rfl (by omega)).mono ?_); rintro e w6 ⟨rfl, rfl⟩))
    all_goals
      go_wp2_with fail
      go_meet
      case rel => exact ⟨by rw [HRE.out], Lib.hid ⟨by first | exact HB4.out.alloc HB4.out.size _ | exact (HB4.out.alloc HB4.out.size _).drew, by first | exact HX4.out.below ((Below.refl _ w4).alloc (Nat.le_refl _) _) hsz4 | exact (HX4.out.below ((Below.refl _ w4).alloc (Nat.le_refl _) _) hsz4).drewN 1⟩⟩
  case rest =>
    obtain ⟨rfl, hbx⟩ := hcut
    obtain ⟨hB, hX⟩ := hbx.out
    obtain ⟨p0, p1, p2, p3⟩ := hX
    have HB := Lib.hid hB
    clear hB hbx
    by_cases h0 : r = 0
    · have huv := fst_zero.1 (HRE.out.symm.trans h0)
      have hru := cwe_zero (a := a) (ev := ev) (by rw [← HU.out]; exact huv.1)
      have hfr := cst_zero (s := s) (zs := fr) (by rw [← HV.out]; exact huv.2)
      have hri := hru.1
      have hev := hru.2
      obtain ⟨S, hS⟩ : ∃ S : Nat, s = (S : Int) := ⟨s.toNat, by have := hri.st0; rw [HST.out] at this; omega⟩
      have hS4 : S ≤ 4096 := by have := hri.st1; rw [HST.out] at this; omega
      subst hS
      have HGr := Lib.hid (fun W (hW : Below w.heap.size w W) => graphOf_any A n c (S : Int) M m d E k g a S W ((HR.out.below hW (Nat.le_refl _)).more hW.size) hri.toRightW rfl hS4)
      have HFl := Lib.hid (fun W (hW : Below w.heap.size w W) => jFlags_any A3 n3 c3 ev W ((HI3.out.below hW (Nat.le_refl _)).more hW.size) HN3.out hb3 hev)
      have HSp := Lib.hid (fun W bg (hg : RdGr W W.heap.size bg a) (hW : Below w.heap.size w W) => jSpread_any bg S a A2 n2 c2 fr ev W hg hri.toRightW HST.out hS4 ((HI.out.below hW (Nat.le_refl _)).more hW.size) HN.out (by omega) hfr)
      subst h0
      clear hri hev hru hfr huv
      go_wp2_with fail
      refine (HGr.out _ HB.out).mono ?_
      rintro e w7 ⟨bg, rfl, hbg, hgr, hb7⟩
      have hB7 := Lib.hid (HB.out.trans (hb7.mono HB.out.size))
      have hG7 := Lib.hid hgr
      clear hb7 hgr
      go_wp2_with fail
      refine (HFl.out _ hB7.out).mono ?_
      rintro e w8 ⟨rfl, hb8⟩
      have hB8 := Lib.hid (hB7.out.trans (hb8.mono hB7.out.size))
      have hG8 := Lib.hid (show RdGr w8 w8.heap.size bg a from ⟨Nat.lt_of_lt_of_le hG7.out.1 hb8.size, fun q hq => by
        obtain ⟨v, k1, A5, c5, e5, k2, k3, k4⟩ := hG7.out.2 q hq
        exact ⟨v, (hb8.cell (p := ⟨bg, q, none⟩) hG7.out.1).trans k1, A5, c5, e5, (k2.below hb8 (Nat.le_refl _)).more hb8.size, k3, k4⟩⟩)
      clear hb8
      go_wp2_with fail
      refine (HSp.out _ _ hG8.out hB8.out).mono ?_
      rintro e w9 ⟨v9, rfl, hown, hb9⟩
      go_wp2_with fail
      go_ret2
      exact ⟨v9, rfl, own_moreR hown hB8.out.size, hB8.out.trans (hb9.mono hB8.out.size)⟩
    · have hbn : (r != 0) = true := by simp [h0]
      go_wp2_with fail
      go_ret2
      exact ⟨_, rfl, World.ownsRow_nil _ _ _ _, HB.out⟩
end Go.Proofs.Ytmghngehpgolgaa

/- Layer 7: Project. -/
namespace Go.Proofs.Ytmghngehpgolgaa
open Go.RowKit Go.Sort Go.Maps

theorem results_cell_tmp2 {fn : Func} {p u v : Tmp} {ty : TypeId} (h : fn.results = #[.cell p ty, .tmp u, .tmp v]) (tmps : Array Value) (P : Program) (w : World) :
    (results fn tmps).run P w = ((asAddr (tmps.getD p undef)).run P w).andThen fun a w₁ => ((loadVar ty a).run P w₁).andThen fun x w₂ => .ok (.tuple #[x, tmps.getD u undef, tmps.getD v undef]) w₂ := by
  simp only [results, h]
  simp [Sem.run_bind, Result.andThen]
theorem ret_cell2 {fn : Func} {p u v : Tmp} {ty : TypeId} {tmps : Array Value} {P : Program} {w : World} {b : Nat} {x : Value} (h : fn.results = #[.cell p ty, .tmp u, .tmp v]) (hp : tmps.getD p undef = .pointer (some ⟨b, 0, none⟩)) {uv vv : Value} (hu : tmps.getD u undef = uv) (hv : tmps.getD v undef = vv) (hl : (loadVar ty ⟨b, 0, none⟩).run P w = .ok x w) :
    (results fn tmps).run P w = .ok (.tuple #[x, uv, vv]) w := by
  rw [results_cell_tmp2 h, hp, hu, hv]
  simp [asAddr, hl, Result.andThen]
theorem jExplore_any (bg S : Nat) (a : Au) (onto : List Int) (Ak : Option Addr) (nk ck : Nat) (w : World) (hg : RdGr w w.heap.size bg a) (hr : RightW a) (hS : a.st = (S : Int)) (hSb : S ≤ 4096) (hel : a.ed.length ≤ 1000000) (hk : RdI w w.heap.size Ak (kpR a onto)) (hn : (kpR a onto).length = nk) :
    Calls Try.prog 25 #[.agg (obL (.slice (some ⟨bg, 0, none⟩) S S) (.slice Ak nk ck) (erR a onto)).toArray] w fun e w' => Below w.heap.size w w' ∧ ExV a onto w w' e := by
  rcases Nat.eq_zero_or_pos S with rfl | h0
  · exact jExplore0_any bg a onto Ak nk ck w hg hr hS
  · exact jExplore1_any bg S a onto Ak nk ck w hg hr hS hSb h0 hel hk hn
theorem own_rdv {w : World} {base n c : Nat} {A : Option Addr} {zs : List Int} (h : Own w base (.slice A n c) zs) : RdI w w.heap.size A zs ∧ zs.length = n ∧ n ≤ c ∧ c ≤ 9223372036854775807 := by
  obtain ⟨A', c', e, h1, h2, h3⟩ := own_rdc h
  injection e with e1 e2 e3
  subst e1 e3
  exact ⟨h1, e2.symm, by omega, h3⟩
theorem ownE_rdv {w : World} {base n c : Nat} {A : Option Addr} {l : List Ed} (h : OwnE w base (.slice A n c) l) : RdG w w.heap.size A l ∧ l.length = n ∧ n ≤ c ∧ c ≤ 9223372036854775807 := by
  obtain ⟨A', c', e, h1, h2, h3⟩ := ownE_rd h
  injection e with e1 e2 e3
  subst e1 e3
  exact ⟨h1, e2.symm, by omega, h3⟩
theorem aut_size : (Try.prog.info? 25).map (·.size) = some 4 := by kernel_rfl
theorem load_aut {W : World} {b : Nat} {c0 c1 c2 c3 : Value} (h : Row W b 25 [c0, c1, c2, c3]) : (loadVar 25 ⟨b, 0, none⟩).run Try.prog W = .ok (.agg #[c0, c1, c2, c3]) W :=
  run_loadVar_mid (P := Try.prog) W b 0 25 [c0, c1, c2, c3] _ (fun i v hi => by rw [Nat.zero_add]; exact h.cell i hi) Try.underlying25 rfl aut_size
theorem Row.set4 {W : World} {g : Nat} {e : TypeId} {a0 a1 a2 a3 : Value} (b0 b1 b2 b3 : Value) (h : Row W g e [a0, a1, a2, a3]) : Row ((((W.setCell ⟨g, 0, none⟩ b0).setCell ⟨g, 1, none⟩ b1).setCell ⟨g, 2, none⟩ b2).setCell ⟨g, 3, none⟩ b3) g e [b0, b1, b2, b3] :=
  (((h.set 0 b0).set 1 b1).set 2 b2).set 3 b3
theorem below_s4 {B g : Nat} {W0 W : World} (b0 b1 b2 b3 : Value) (h : Below B W0 W) (hg : B ≤ g) : Below B W0 ((((W.setCell ⟨g, 0, none⟩ b0).setCell ⟨g, 1, none⟩ b1).setCell ⟨g, 2, none⟩ b2).setCell ⟨g, 3, none⟩ b3) :=
  (((h.setCell (p := ⟨g, 0, none⟩) hg b0).setCell (p := ⟨g, 1, none⟩) hg b1).setCell (p := ⟨g, 2, none⟩) hg b2).setCell (p := ⟨g, 3, none⟩) hg b3
theorem heap_set4 {g k : Nat} (W : World) (b0 b1 b2 b3 : Value) (h : k ≠ g) : ((((W.setCell ⟨g, 0, none⟩ b0).setCell ⟨g, 1, none⟩ b1).setCell ⟨g, 2, none⟩ b2).setCell ⟨g, 3, none⟩ b3).heap[k]? = W.heap[k]? := by
  rw [Below.heap_setCell _ _ _ _ h, Below.heap_setCell _ _ _ _ h, Below.heap_setCell _ _ _ _ h, Below.heap_setCell _ _ _ _ h]
/-- The marks of the projected automaton, up to a number. -/
noncomputable def mkJ (a : Au) (onto : List Int) (k : Nat) : List Int := ((List.range k).filter fun i => decide ((fnd (detA a onto)).getD i 0 ∈ (detA a onto).mr)).map fun (i : Nat) => (i : Int)
theorem mkJ_succ (a : Au) (onto : List Int) (k : Nat) : mkJ a onto (k + 1) = mkJ a onto k ++ (if (fnd (detA a onto)).getD k 0 ∈ (detA a onto).mr then [(k : Int)] else []) := by
  unfold mkJ
  rw [List.range_succ, List.filter_append, List.map_append]
  congr 1
  by_cases h : (fnd (detA a onto)).getD k 0 ∈ (detA a onto).mr
  · rw [if_pos h, List.filter_cons_of_pos (by simpa using h)]; rfl
  · rw [if_neg h, List.filter_cons_of_neg (by simpa using h)]; rfl
theorem mkJ_len (a : Au) (onto : List Int) (k : Nat) : (mkJ a onto k).length ≤ k := by
  unfold mkJ; rw [List.length_map]; exact Nat.le_trans (List.length_filter_le _ _) (by simp)
theorem mk_any {a : Au} (h : RightW a) (onto : List Int) {k : Nat} (hk : k < (fnd (detA a onto)).length) : ((deR a onto ((fnd (detA a onto)).getD k 0)).any fun q => decide (q ∈ a.mr)) = decide ((fnd (detA a onto)).getD k 0 ∈ (detA a onto).mr) := by
  have h0 : a.st ≠ 0 := fun h0 => by
    have : (detA a onto).st = 0 := by unfold detA; rw [if_pos h0]
    rw [fnd, if_pos (by omega)] at hk
    simp at hk
  have hr := fnd_range (det_right h onto) _ (getD_mem hk)
  obtain ⟨q, hq⟩ : ∃ q, q = (fnd (detA a onto)).getD k 0 := ⟨_, rfl⟩
  rw [← hq] at hr ⊢
  rw [det_dt h0] at hr
  have hok := de_ok h onto hr
  have hm := det_mark h h0 (onto := onto) hok
  have he : (detC a onto).en (deR a onto q) = q := (det_ok h onto).edn q hr.1 hr.2
  rw [he] at hm
  rw [Bool.eq_iff_iff, List.any_eq_true]
  simp only [decide_eq_true_eq]
  exact hm.symm
theorem cs_up' {a : Au} {ev : List Int} (hc : cweE a ev = 0) : Up ev := up_of (right_of (fst_zero.1 hc).2).alo
set_option maxHeartbeats 2000000 in
theorem isMarked_any (b : Nat) (A : Option Addr) (n c : Nat) (s : Int) (M : Option Addr) (m d : Nat) (E : Option Addr) (k g : Nat) (mr : List Int) (x : Int) (W : World) (hb : Row W b 25 [.slice A n c, .int .i64 s, .slice M m d, .slice E k g]) (hk : RdI W W.heap.size M mr) (hn : mr.length = m) (hnb : m ≤ 100000) (hup : Up mr) :
    Calls Try.prog 26 #[.int .i64 x, .pointer (some ⟨b, 0, none⟩)] W fun e w' => e = .returned (.bool (decide (x ∈ mr))) ∧ W = w' := by
  have c1 := hb.cell 2 rfl
  have HC := Lib.hid (jContains_any M m d W.heap.size mr x W hk hn (by omega) hup)
  obtain ⟨r, hr⟩ : ∃ r, decide (x ∈ mr) = r := ⟨_, rfl⟩
  rw [hr] at HC ⊢
  clear hb hk hn hup hr
  go_enter Try.func26, Try.ntmps26
  go_wp2_with fail
  refine HC.out.mono ?_
  rintro e w5 ⟨rfl, hw5⟩
  subst hw5
  go_wp2_with fail
  go_ret
  exact ⟨rfl, rfl⟩
/-- What Project hands back. -/
def ProV (a : Au) (onto : List Int) (w' : World) (e : Ending) : Prop :=
  (cweE a onto ≠ 0 ∧ e = .returned (.tuple #[.agg #[.slice none 0 0, .int .i64 0, .slice none 0 0, .slice none 0 0], .slice none 0 0, .int .i64 (cweE a onto)])) ∨
  (cweE a onto = 0 ∧ 4096 < (fnd (detA a onto)).length ∧ e = .returned (.tuple #[.agg #[.slice none 0 0, .int .i64 0, .slice none 0 0, .slice none 0 0], .slice none 0 0, .int .i64 3])) ∨
  (cweE a onto = 0 ∧ (fnd (detA a onto)).length ≤ 4096 ∧ ∃ (A1 : Option Addr) (n1 c1 : Nat) (s1 : Int) (M1 : Option Addr) (m1 d1 : Nat) (E1 : Option Addr) (k1 g1 : Nat) (V : Option Addr) (nV cV : Nat) (hs : List Hd),
    e = .returned (.tuple #[.agg #[.slice A1 n1 c1, .int .i64 s1, .slice M1 m1 d1, .slice E1 k1 g1], .slice V nV cV, .int .i64 0]) ∧ AuR w' w'.heap.size A1 n1 c1 s1 M1 m1 d1 E1 k1 g1 (canA (detA a onto)) ∧ RdL w' w'.heap.size V hs ∧ hs.length = nV ∧ hs.map Hd.z = (fnd (detA a onto)).map (deR a onto) ∧ nV ≤ cV ∧ cV ≤ 9223372036854775807)
/-- What Project keeps behind explore. -/
structure PB (w7 wr : World) (va : Value) (L : Int) (ve : Value) (vm : Value) (ms : List Int) : Prop where
  bel : Below w7.heap.size w7 wr
  bx : Row wr w7.heap.size 25 [va, .int .i64 L, vm, ve]
  mo : Own wr w7.heap.size vm ms
set_option maxHeartbeats 8000000 in
set_option maxRecDepth 100000 in
theorem jProject_any (A : Option Addr) (n c : Nat) (s : Int) (M : Option Addr) (m d : Nat) (E : Option Addr) (k g : Nat) (A3 : Option Addr) (n3 c3 : Nat) (a : Au) (onto : List Int) (w : World) (h : AuR w w.heap.size A n c s M m d E k g a) (ho : RdI w w.heap.size A3 onto) (hn : onto.length = n3) (hc3 : n3 ≤ c3 ∧ c3 ≤ 9223372036854775807) (hb3 : n3 ≤ 100000) :
    Calls Try.prog 8 #[.agg #[.slice A n c, .int .i64 s, .slice M m d, .slice E k g], .slice A3 n3 c3] w fun e w' => Below w.heap.size w w' ∧ ProV a onto w' e := by
  have hb1 := ((Below.refl w.heap.size w).alloc (Nat.le_refl _) (.cells #[.slice A n c, .int .i64 s, .slice M m d, .slice E k g] 25)).alloc (by simp) (.cells #[.slice none 0 0, .int .i64 0, .slice none 0 0, .slice none 0 0] 25)
  obtain ⟨W1, hW1⟩ : ∃ W, W = (w.alloc (.cells #[.slice A n c, .int .i64 s, .slice M m d, .slice E k g] 25)).alloc (.cells #[.slice none 0 0, .int .i64 0, .slice none 0 0, .slice none 0 0] 25) := ⟨_, rfl⟩
  have HA := Lib.hid (show Row W1 w.heap.size 25 [.slice A n c, .int .i64 s, .slice M m d, .slice E k g] from by rw [hW1]; exact (Row.new w _ _).alloc _)
  have HR1 := Lib.hid (show Row W1 (w.heap.size + 1) 25 [.slice none 0 0, .int .i64 0, .slice none 0 0, .slice none 0 0] from by
    rw [hW1]
    have := Row.new (w.alloc (.cells #[.slice A n c, .int .i64 s, .slice M m d, .slice E k g] 25)) [.slice none 0 0, .int .i64 0, .slice none 0 0, .slice none 0 0] 25
    rw [World.size_alloc] at this; exact this)
  rw [← hW1] at hb1
  have HB1 := Lib.hid hb1
  have HCE := Lib.hid (jCheckEvents_any A n c s M m d E k g a A3 n3 c3 onto W1 ((h.below hb1 (Nat.le_refl _)).more hb1.size) ((ho.below hb1 (Nat.le_refl _)).more hb1.size) hn hc3 hb3)
  have HH := Lib.hid h
  have HO := Lib.hid ho
  have HN := Lib.hid hn
  have q0 := HA.out.cell 0 rfl
  have q1 := HA.out.cell 1 rfl
  have q2 := HA.out.cell 2 rfl
  have q3 := HA.out.cell 3 rfl
  obtain ⟨u, hu⟩ : ∃ u, u = cweE a onto := ⟨_, rfl⟩
  rw [← hu] at HCE
  have HU := Lib.hid hu
  have HW1 := Lib.hid hW1
  clear h ho hn hb1 hu hW1
  go_enter Try.func8, Try.ntmps8
  go_wp2_with fail
  rw [← HW1.out]
  clear HW1
  go_wp2_with fail
  refine HCE.out.mono ?_
  rintro e w2 ⟨rfl, hb2⟩
  have HB2 := Lib.hid (HB1.out.trans (hb2.mono HB1.out.size))
  have HA2 := Lib.hid (HA.out.below hb2 HA.out.lt)
  have HR2 := Lib.hid (HR1.out.below hb2 HR1.out.lt)
  have hz1 := HB1.out.size
  have hz2 := hb2.size
  have hl1 := HR1.out.lt
  clear hb2 HCE HA HR1 q0 q1 q2 q3 HB1
  have q0 := HA2.out.cell 0 rfl
  have q1 := HA2.out.cell 1 rfl
  have q2 := HA2.out.cell 2 rfl
  have q3 := HA2.out.cell 3 rfl
  by_cases h0 : u = 0
  · have hb0 : (u != 0) = false := by simp [h0]
    have hcw := cwe_zero (show cweE a onto = 0 by rw [← HU.out]; exact h0)
    have hri := hcw.1
    have hst := HH.out.st
    obtain ⟨S, hS⟩ : ∃ S : Nat, s = (S : Int) := ⟨s.toNat, by have := hri.st0; omega⟩
    have hS4 : S ≤ 4096 := by have := hri.st1; omega
    subst hS
    have hup : Up onto := cs_up' (a := a) (by rw [← HU.out]; exact h0)
    have hmup : Up a.mr := up_of hri.mro
    have HRI := Lib.hid hri
    have HMU := Lib.hid hmup
    have HST := Lib.hid hst
    have HOB := Lib.hid (jObserver_any A n c (S : Int) M m d E k g A3 n3 c3 a S onto w2 ((HH.out.below HB2.out (Nat.le_refl _)).more HB2.out.size) hri.toRightW rfl hS4 ((HO.out.below HB2.out (Nat.le_refl _)).more HB2.out.size) HN.out hb3 hup)
    have H0 := Lib.hid h0
    clear hcw hri hst hup hmup h0
    go_wp2_with fail
    refine HOB.out.mono ?_
    rintro e w3 ⟨bg, vk, rfl, hko, hgr, hb3'⟩
    obtain ⟨Ak, ck, rfl, hkr, hkc, hkm⟩ := own_rdc hko
    obtain ⟨nk, hnk⟩ : ∃ n, n = (kpR a onto).length := ⟨_, rfl⟩
    rw [← hnk] at hkc ⊢
    have HNK := Lib.hid hnk
    have hnk32 : nk ≤ 32 := by rw [hnk]; exact kp_len HRI.out.toRightW onto
    have HB3 := Lib.hid (HB2.out.trans (hb3'.mono HB2.out.size))
    have HA3 := Lib.hid (HA2.out.below hb3' HA2.out.lt)
    have HR3 := Lib.hid (HR2.out.below hb3' HR2.out.lt)
    have HGR := Lib.hid hgr
    have HKR := Lib.hid hkr
    have hz3 := hb3'.size
    obtain ⟨gv, hgv⟩ : ∃ gv, gv = Value.slice (some ⟨bg, 0, none⟩) S S := ⟨_, rfl⟩
    obtain ⟨kv, hkv⟩ : ∃ kv, kv = Value.slice Ak nk ck := ⟨_, rfl⟩
    obtain ⟨W4, hW4⟩ : ∃ W, W = (w3.alloc (.cells #[.slice none 0 0, .slice none 0 0, .bool false, .bool false, .bool false, .bool false, .bool false, .bool false, .bool false, .bool false, .bool false, .bool false, .bool false, .bool false, .bool false, .bool false, .bool false, .bool false, .bool false, .bool false, .bool false, .bool false, .bool false, .bool false, .bool false, .bool false, .bool false, .bool false, .bool false, .bool false, .bool false, .bool false, .bool false, .bool false] 64)).setRow w3.heap.size (obL gv kv (erR a onto)).toArray := ⟨_, rfl⟩
    have hb34 : Below w3.heap.size w3 W4 := by rw [hW4]; exact below_setRow ((Below.refl _ w3).alloc (Nat.le_refl _) _) (Nat.le_refl _) _
    have hold := Row.new w3 [.slice none 0 0, .slice none 0 0, .bool false, .bool false, .bool false, .bool false, .bool false, .bool false, .bool false, .bool false, .bool false, .bool false, .bool false, .bool false, .bool false, .bool false, .bool false, .bool false, .bool false, .bool false, .bool false, .bool false, .bool false, .bool false, .bool false, .bool false, .bool false, .bool false, .bool false, .bool false, .bool false, .bool false, .bool false, .bool false] 64
    have HOB4 := Lib.hid (show Row W4 w3.heap.size 64 (obL gv kv (erR a onto)) from by rw [hW4]; exact setRow_heap _ _ _ _ _ _ hold)
    have hszs := Lib.hid (show (Try.prog.info? 64).map (·.size) = some (obL gv kv (erR a onto)).toArray.size by rw [obs_size, List.size_toArray, ob_len])
    have hszl := Lib.hid (show (Try.prog.info? 64).map (·.size) = some (obL gv kv (erR a onto)).length by rw [obs_size, ob_len])
    have hone := Lib.hid (ob_one (g := gv) (k := kv) (ev := erR a onto) (by rw [hgv]; rfl) (by rw [hkv]; rfl))
    have hz34 : (([.slice none 0 0, .slice none 0 0, .bool false, .bool false, .bool false, .bool false, .bool false, .bool false, .bool false, .bool false, .bool false, .bool false, .bool false, .bool false, .bool false, .bool false, .bool false, .bool false, .bool false, .bool false, .bool false, .bool false, .bool false, .bool false, .bool false, .bool false, .bool false, .bool false, .bool false, .bool false, .bool false, .bool false, .bool false, .bool false] : List Value).toArray).size = (obL gv kv (erR a onto)).toArray.size := by rw [List.size_toArray, List.size_toArray, ob_len]; rfl
    have HOLD := Lib.hid hold
    have HB34 := Lib.hid hb34
    have hrg := Lib.hid (show W4.rangeAt w3.heap.size 0 (obL gv kv (erR a onto)) from fun i v hi => by rw [Nat.zero_add]; exact HOB4.out.cell i hi)
    have HEX := Lib.hid (jExplore_any bg S a onto Ak nk ck W4 (hgr.keep hb34) HRI.out.toRightW HST.out hS4 (by have := HH.out.bk; rw [HH.out.hk]; exact this) ((hkr.below hb34 (Nat.le_refl _)).more hb34.size) hnk.symm)
    rw [← hgv, ← hkv] at HEX
    rw [← hgv, ← hkv]
    have HGV := Lib.hid hgv
    have HKV := Lib.hid hkv
    have HW4 := Lib.hid hW4
    have HKO := Lib.hid hko
    clear hko hgr hkr hb3' hnk hgv hkv hW4 hold hb34 HOB q0 q1 q2 q3
    go_wp2_with (first
      | (refine wpList_store_row rfl 64 (.tmp 8) (.tmp 25) rfl w3.heap.size (obL gv kv (erR a onto)).toArray rfl rfl 64 _ HOLD.out hszs.out hz34 hone.out ?_; rw [← HW4.out])
      | refine wpList_load_mid rfl 64 (.tmp 8) rfl w3.heap.size 0 rfl (obL gv kv (erR a onto)) _ hrg.out Try.underlying64 rfl hszl.out ?_)
    refine HEX.out.mono ?_
    rintro e w5 ⟨hb5, hev⟩
    have HB5 := Lib.hid (HB3.out.trans ((HB34.out.trans (hb5.mono HB34.out.size)).mono HB3.out.size))
    have HB35 := Lib.hid (HB34.out.trans (hb5.mono HB34.out.size))
    have HA5 := Lib.hid (HA3.out.below HB35.out HA3.out.lt)
    have HR5 := Lib.hid (HR3.out.below HB35.out HR3.out.lt)
    have HOB5 := Lib.hid (HOB4.out.below hb5 HOB4.out.lt)
    have HKR5 := Lib.hid ((HKR.out.below HB35.out (Nat.le_refl _)).more HB35.out.size)
    have hz4 := HB34.out.size
    have hz5 := hb5.size
    have HKO5 := Lib.hid (own_below HKO.out HB35.out)
    clear HOLD hszs hone hz34 HW4 hrg hszl HEX HOB4 HA3 HR3 HB34 HKR hb5 HKO
    rcases hev with ⟨hbig, rfl⟩ | ⟨hsm, V, ve, hs, rfl, hov, hrw, hmap, hoe⟩
    · have r0 := HR5.out.cell 0 rfl
      have r1 := HR5.out.cell 1 rfl
      have r2 := HR5.out.cell 2 rfl
      have r3 := HR5.out.cell 3 rfl
      have f0 := HR5.out.frozen 0
      have f1 := HR5.out.frozen 1
      have f2 := HR5.out.frozen 2
      have f3 := HR5.out.frozen 3
      go_wp2_with fail
      have hrow := HR5.out.set4 (.slice none 0 0) (.int .i64 0) (.slice none 0 0) (.slice none 0 0)
      exact bodyPost_ret (v := .tuple #[.agg #[.slice none 0 0, .int .i64 0, .slice none 0 0, .slice none 0 0], .slice none 0 0, .int .i64 3]) (ret_cell2 rfl rfl rfl rfl (load_aut hrow)) rfl ⟨below_s4 _ _ _ _ HB5.out (by omega), .inr (.inl ⟨by rw [← HU.out]; exact H0.out, hbig, rfl⟩)⟩
    · have hkv := HKV.out
      clear HKV
      subst hkv
      obtain ⟨AV, cV, rfl, hrl, hcV, hcM⟩ := ownL_rd hov hrw
      obtain ⟨L, hL⟩ : ∃ L, L = (fnd (detA a onto)).length := ⟨_, rfl⟩
      have hsl : hs.length = L := by have := congrArg List.length hmap; rw [List.length_map, List.length_map] at this; rw [this, hL]
      rw [hsl] at hcV ⊢
      have HL := Lib.hid hL
      have HSL := Lib.hid hsl
      have HRL := Lib.hid hrl
      have HMAP := Lib.hid hmap
      have HOE := Lib.hid hoe
      have HOV := Lib.hid hov
      have HRW := Lib.hid hrw
      have hL4 : L ≤ 4096 := by rw [hL]; exact hsm
      obtain ⟨E5, g5, rfl, hE1, hE2, hE3⟩ := ownE_rd hoe
      obtain ⟨ke, hke⟩ : ∃ k, k = (canEn (detA a onto) (fnd (detA a onto)).length).length := ⟨_, rfl⟩
      rw [← hke] at hE2 ⊢
      have HKE := Lib.hid hke
      have HE1 := Lib.hid hE1
      have hkeb : ke ≤ 140000 := by
        have h1 := canEn_leJ (det_right HRI.out.toRightW onto) (fnd (detA a onto)).length
        have h2 : (detA a onto).al.length ≤ 32 := by
          have : (detA a onto).al = kpR a onto := by unfold detA; split <;> rfl
          rw [this, ← HNK.out]; exact hnk32
        have h4 : (fnd (detA a onto)).length * (detA a onto).al.length ≤ 4096 * 32 := Nat.mul_le_mul hsm h2
        omega
      have hc1 := HOB5.out.cell 1 (show (obL gv (.slice Ak nk ck) (erR a onto))[1]? = some (.slice Ak nk ck) from rfl)
      have HPB := Lib.hid (show PB w5 (w5.alloc (.cells #[(.slice Ak nk ck), .int .i64 (L : Int), .slice none 0 0, .slice E5 ke g5] 25)) (.slice Ak nk ck) (L : Int) (.slice E5 ke g5) (.slice none 0 0) (mkJ a onto 0) from
        ⟨(Below.refl _ w5).alloc (Nat.le_refl _) _, Row.new w5 [(.slice Ak nk ck), .int .i64 (L : Int), .slice none 0 0, .slice E5 ke g5] 25, World.ownsRow_nil _ _ _ _⟩)
      obtain ⟨iI, iI0, iI1, iI2, iI3⟩ := info_parts info_int
      clear hrl hmap hoe hL hsl hke hE1 hov hrw
      go_wp2_with fail
      go_loopw [45] (fun iv wr => ∃ (t : Nat) (vm : Value), iv = .int .i64 t ∧ t ≤ L ∧ Hid (PB w5 wr (.slice Ak nk ck) (L : Int) (.slice E5 ke g5) vm (mkJ a onto t))) (fun i _ => L - (intOf i).toNat)
      case atStart => exact ⟨0, _, rfl, Nat.zero_le _, HPB⟩
      case round =>
        clear HPB hc1
        obtain ⟨t, vm, rfl, htL, hpb⟩ := hrel
        by_cases hlt : t < L
        · obtain ⟨b, o, rfl, hb, hc⟩ := HRL.out (by rw [HSL.out]; omega)
          obtain ⟨x, hx⟩ : ∃ x, hs[t]? = some x := ⟨_, List.getElem?_eq_getElem (by rw [HSL.out]; exact hlt)⟩
          obtain ⟨hcx, hxr, hxc, hxm⟩ := hc t x hx
          have hcx2 := (hpb.out.bel.cell (p := ⟨b, o + t, none⟩) hb).trans hcx
          have htf : t < (fnd (detA a onto)).length := by rw [← HL.out]; exact hlt
          have hxz : x.z = deR a onto ((fnd (detA a onto)).getD t 0) := by
            have h1 : (hs.map Hd.z)[t]? = some x.z := by rw [List.getElem?_map, hx]; rfl
            rw [HMAP.out, List.getElem?_map, List.getElem?_eq_getElem htf] at h1
            rw [List.getD, List.getElem?_eq_getElem htf]
            simpa using h1.symm
          have hany := mk_any HRI.out.toRightW onto htf
          rw [← hxz] at hany
          have hmk := mkJ_succ a onto t
          obtain ⟨r, hr⟩ : ∃ r, decide ((fnd (detA a onto)).getD t 0 ∈ (detA a onto).mr) = r := ⟨_, rfl⟩
          rw [hr] at hany
          have hxl : x.z.length ≤ 100000 := by
            have h0 : a.st ≠ 0 := fun h0 => by
              have : (detA a onto).st = 0 := by unfold detA; rw [if_pos h0]
              rw [fnd, if_pos (by omega)] at htf
              simp at htf
            have hq := fnd_range (det_right HRI.out.toRightW onto) _ (getD_mem htf)
            rw [det_dt h0] at hq
            have hok := de_ok HRI.out.toRightW onto hq
            have := sub_len hok
            rw [← det_dt h0, ← hxz] at this
            have h9 := HST.out
            omega
          have hwb := HB5.out.trans (hpb.out.bel.mono HB5.out.size)
          obtain ⟨xl, hxl2⟩ : ∃ l, l = x.z.length := ⟨_, rfl⟩
          have hcx3 : wr.cell? ⟨b, o + t, none⟩ = some (.slice x.A xl x.c) := by rw [hcx2, hxl2]; rfl
          have HC := Lib.hid (containsP_any w.heap.size x.A xl x.c wr.heap.size x.z (fun q => decide (q ∈ a.mr)) wr (fun y _ W hW => isMarked_any w.heap.size A n c (S : Int) M m d E k g a.mr y W ((HA5.out.below hpb.out.bel HA5.out.lt).below hW (by have := hpb.out.bel.size; have := HA5.out.lt; omega)) ((HH.out.mr.below (hwb.trans (hW.mono hwb.size)) (Nat.le_refl _)).more (Nat.le_trans hwb.size hW.size)) HH.out.hm HH.out.bm HMU.out) ((hxr.below hpb.out.bel (Nat.le_refl _)).more hpb.out.bel.size) hxl2.symm (by omega))
          rw [hany] at HC
          have z0 : (t : Int) < (L : Int) := by omega
          have z1 : (0 : Int) ≤ (t : Int) := by omega
          cases r
          · have HMK := Lib.hid (show mkJ a onto (t + 1) = mkJ a onto t by rw [hmk, if_neg (by simpa using hr)]; simp)
            clear hc hx hcx hxr hcx2 hxz hany hmk hr hxl2
            go_wp2_with fail
            refine HC.out.mono ?_
            rintro e w9 ⟨rfl, hw9⟩
            subst hw9
            go_wp2_with fail
            go_roundw
            case rel => exact ⟨t + 1, vm, by go_num, by omega, by rw [HMK.out]; exact hpb⟩
            case measure => simp [intOf]; omega
          · have HMK := Lib.hid (show mkJ a onto (t + 1) = mkJ a onto t ++ [(t : Int)] by rw [hmk, if_pos (by simpa using hr)])
            have hml := mkJ_len a onto t
            obtain ⟨ms, hms⟩ : ∃ ms, ms = mkJ a onto t := ⟨_, rfl⟩
            rw [← hms] at hpb HMK hml
            have c2 := hpb.out.bx.cell 2 rfl
            have hne := row_ne_own hpb.out.bx hpb.out.mo (by decide)
            have hz6 := hpb.out.bel.size
            clear hc hx hcx hxr hcx2 hxz hany hmk hr hxl2 hms
            go_wp2_with fail
            refine HC.out.mono ?_
            rintro e w9 ⟨rfl, hw9⟩
            subst hw9
            go_wp2_with (at_builtin; refine wpList_append_own _ rfl (.tmp 54) (.tmp 56) 22 rfl w5.heap.size 3 iI (.int .i64 0) 1 8 Try.underlying22 iI0 iI1 iI2 iI3 rfl (by omega) vm ms.length (ms.map (Value.int .i64)) rfl (hpb.out.mo.alloc _) ⟨wr.heap.size, 0, none⟩ 1 1 [.int .i64 (t : Int)] rfl rfl (World.news_of_block (cs := #[.int .i64 (t : Int)]) (t := 3) (fr := (0, 0)) (heap_alloc_new wr _)) (by simp [Value.oneCell']) (by unfold maxLen; omega) (by omega) (by simp; omega) ?_; intro v4 w4 ho4 hg4 _
                         obtain ⟨A4, c4', hv4⟩ := own_shapeS ho4; subst hv4
                         have hro4 := (hpb.out.bx.alloc (.cells #[.int .i64 (t : Int)] 3)).grown hg4 hne
                         have c4 := hro4.cell 2 rfl
                         have f4 := hro4.frozen 2
                         have HO4 := Lib.hid ho4; have HG4 := Lib.hid hg4; have HR4 := Lib.hid hro4
                         clear ho4 hg4 hro4)
            go_roundw
            case rel =>
              refine ⟨t + 1, .slice A4 (ms.length + 1) c4', by go_num, by omega, ?_⟩
              rw [HMK.out]
              have h5 : Own w4 w5.heap.size (.slice A4 (ms.length + 1) c4') (ms ++ [(t : Int)]) := by simpa [Own] using HO4.out
              refine Lib.hid ⟨?_, ?_, ?_⟩
              · exact ((hpb.out.bel.alloc hz6 _).grown HG4.out (by simp; omega) (fun j hj => (hpb.out.mo.lt j hj).1)).setCell (p := ⟨w5.heap.size, 2, none⟩) (Nat.le_refl _) _
              · exact HR4.out.set 2 (.slice A4 (ms.length + 1) c4')
              · exact ownsRow_setCell_other (a := ⟨w5.heap.size, 2, none⟩) h5 (row_ne_own HR4.out h5 (by decide)) _
            case measure => simp [intOf]; omega
        · obtain rfl : t = L := by omega
          have hwb := HB5.out.trans (hpb.out.bel.mono HB5.out.size)
          have hR6 := HR5.out.below hpb.out.bel HR5.out.lt
          obtain ⟨M6, d6, rfl, hm1, hm2, hm3⟩ := own_rdc hpb.out.mo
          have HPB6 := Lib.hid hpb.out
          have HR6 := Lib.hid hR6
          have HWB := Lib.hid hwb
          have HM1 := Lib.hid hm1
          have p0 := hpb.out.bx.cell 0 rfl
          have p1 := hpb.out.bx.cell 1 rfl
          have p2 := hpb.out.bx.cell 2 rfl
          have p3 := hpb.out.bx.cell 3 rfl
          have r0 := hR6.cell 0 rfl
          have r1 := hR6.cell 1 rfl
          have r2 := hR6.cell 2 rfl
          have r3 := hR6.cell 3 rfl
          have f0 := hR6.frozen 0
          have f1 := hR6.frozen 1
          have f2 := hR6.frozen 2
          have f3 := hR6.frozen 3
          obtain ⟨ml, hml⟩ : ∃ l, l = (mkJ a onto t).length := ⟨_, rfl⟩
          rw [← hml] at p2 hm2
          have HML := Lib.hid hml
          clear hpb hwb hR6 hm1 hml
          go_wp2_with fail
          have hrow := HR6.out.set4 (.slice Ak nk ck) (.int .i64 (t : Int)) (.slice M6 ml d6) (.slice E5 ke g5)
          obtain ⟨W9, hW9⟩ : ∃ W, W = ((((wr.setCell ⟨w.heap.size + 1, 0, none⟩ (.slice Ak nk ck)).setCell ⟨w.heap.size + 1, 1, none⟩ (.int .i64 (t : Int))).setCell ⟨w.heap.size + 1, 2, none⟩ (.slice M6 ml d6)).setCell ⟨w.heap.size + 1, 3, none⟩ (.slice E5 ke g5)) := ⟨_, rfl⟩
          rw [← hW9] at hrow ⊢
          have hb9 : Below w.heap.size w W9 := by rw [hW9]; exact below_s4 _ _ _ _ HWB.out (by omega)
          have hlb := HR5.out.lt
          have hz6 := HPB6.out.bel.size
          have hk9 : ∀ k, k < wr.heap.size → k ≠ w.heap.size + 1 → W9.heap[k]? = wr.heap[k]? := fun k _ hk => by rw [hW9]; exact heap_set4 wr _ _ _ _ hk
          have hs9 : W9.heap.size = wr.heap.size := by rw [hW9]; simp [World.setCell]
          have hto : ∀ {base e sz v n xs}, w5.ownsRow base e sz v n xs → e ≠ 25 → W9.ownsRow base e sz v n xs := fun ho he =>
            ownsRow_same' (own_below ho HPB6.out.bel) fun g hg => hk9 g ((own_below ho HPB6.out.bel).lt g hg).2 (fun e' => row_ne_own HR6.out (own_below ho HPB6.out.bel) (fun e'' => he e''.symm) (by rw [hg, e']))
          have k1 := hto HKO5.out (by decide)
          have k2 := hto HOE.out (by decide)
          have k3 := hto HOV.out (by decide)
          have k4 : ∀ x ∈ hs, Own W9 W4.heap.size x.enc x.z := fun x hx => hto (HRW.out x hx) (by decide)
          have k5 : Own W9 w5.heap.size (.slice M6 (mkJ a onto t).length d6) (mkJ a onto t) := by
            have h0 := HPB6.out.mo
            exact ownsRow_same' h0 fun g hg => hk9 g (h0.lt g hg).2 (fun e' => row_ne_own HR6.out h0 (by decide) (by rw [hg, e']))
          obtain ⟨a1, a2, a3, a4⟩ := own_rdv k1
          obtain ⟨b1, b2, b3, b4⟩ := ownE_rdv k2
          obtain ⟨m1, m2, m3, m4⟩ := own_rdv k5
          obtain ⟨AV', cV', ev, l1, l2, l3⟩ := ownL_rd k3 k4
          injection ev with ev1 ev2 ev3
          subst ev1 ev3
          have hal : (detA a onto).al = kpR a onto := by unfold detA; split <;> rfl
          have hmk : (canA (detA a onto)).mr = mkJ a onto t := by rw [HL.out]; rfl
          refine bodyPost_ret (v := .tuple #[.agg #[.slice Ak nk ck, .int .i64 (t : Int), .slice M6 ml d6, .slice E5 ke g5], .slice AV t cV, .int .i64 0]) (ret_cell2 rfl rfl rfl rfl (load_aut hrow)) rfl ⟨hb9, .inr (.inr ⟨by rw [← HU.out]; exact H0.out, hsm, Ak, nk, ck, (t : Int), M6, ml, d6, E5, ke, g5, AV, t, cV, hs, rfl, ?_, l1, HSL.out, HMAP.out, hcV, hcM⟩)⟩
          exact { al := by show RdI _ _ _ (detA a onto).al; rw [hal]; exact a1, mr := by rw [hmk]; exact m1, ed := b1, hn := by show (detA a onto).al.length = nk; rw [hal]; exact HNK.out.symm, hm := by rw [hmk]; exact HML.out.symm, hk := HKE.out.symm, st := by show ((fnd (detA a onto)).length : Int) = (t : Int); rw [← HL.out], cn := ⟨hkc, hkm⟩, cm := by rw [HML.out]; exact ⟨m3, m4⟩, ck := ⟨hE2, hE3⟩, bn := by omega, bm := by have := mkJ_len a onto t; rw [HML.out]; omega, bk := by omega }
  · have hb0 : (u != 0) = true := by simp [h0]
    have r0 := HR2.out.cell 0 rfl
    have r1 := HR2.out.cell 1 rfl
    have r2 := HR2.out.cell 2 rfl
    have r3 := HR2.out.cell 3 rfl
    have f0 := HR2.out.frozen 0
    have f1 := HR2.out.frozen 1
    have f2 := HR2.out.frozen 2
    have f3 := HR2.out.frozen 3
    go_wp2_with fail
    have hrow := HR2.out.set4 (.slice none 0 0) (.int .i64 0) (.slice none 0 0) (.slice none 0 0)
    exact bodyPost_ret (v := .tuple #[.agg #[.slice none 0 0, .int .i64 0, .slice none 0 0, .slice none 0 0], .slice none 0 0, .int .i64 u]) (ret_cell2 rfl rfl rfl rfl (load_aut hrow)) rfl ⟨below_s4 _ _ _ _ HB2.out (by omega), .inl ⟨by rw [← HU.out]; exact h0, by rw [HU.out]⟩⟩
end Go.Proofs.Ytmghngehpgolgaa
