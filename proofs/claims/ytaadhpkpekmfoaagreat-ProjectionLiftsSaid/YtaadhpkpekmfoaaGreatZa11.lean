/- Texts merged: what follows were texts of their own. -/
import Derived.Test.YtaadhpkpekmfoaaGreatZa10
import Derived.Test.YtaadhpkpekmfoaaGreatZa4
import Derived.Test.YtaadhpkpekmfoaaGreatZa2
import Derived.OwnWalk
import Derived.Maps.AppendAt
import Derived.Test.YtaadhpkpekmfoaaGreatZa6
import Derived.Deep.RegionHeld3
import Derived.Sort.WalkB12
import Derived.Lib.SlicesMore
import Derived.Deep.LoopGhost
set_option linter.unusedVariables false
set_option linter.unusedSimpArgs false
set_option linter.unusedSectionVars false
/- Layer 7: Project. -/
namespace Go.Proofs.YtaadhpkpekmfoaaGreat
open Go.RowKit Go.Sort Go.Maps

theorem results_cell_tmp2 {fn : Func} {p u v : Tmp} {ty : TypeId} (h : fn.results = #[.cell p ty, .tmp u, .tmp v]) (tmps : Array Value) (P : Program) (w : World) :
    (results fn tmps).run P w = ((asAddr (tmps.getD p undef)).run P w).andThen fun a w₁ => ((loadVar ty a).run P w₁).andThen fun x w₂ => .ok (.tuple #[x, tmps.getD u undef, tmps.getD v undef]) w₂ := by
  simp only [results, h]
  simp [Sem.run_bind, Result.andThen]
theorem ret_cell2 {fn : Func} {p u v : Tmp} {ty : TypeId} {tmps : Array Value} {P : Program} {w : World} {b : Nat} {x : Value} (h : fn.results = #[.cell p ty, .tmp u, .tmp v]) (hp : tmps.getD p undef = .pointer (some ⟨b, 0, none⟩)) {uv vv : Value} (hu : tmps.getD u undef = uv) (hv : tmps.getD v undef = vv) (hl : (loadVar ty ⟨b, 0, none⟩).run P w = .ok x w) :
    (results fn tmps).run P w = .ok (.tuple #[x, uv, vv]) w := by
  rw [results_cell_tmp2 h, hp, hu, hv]
  simp [asAddr, hl, Result.andThen]
theorem jExplore_any (bg S : Nat) (a : Au) (onto : List Int) (Ak : Option Addr) (nk ck : Nat) (w : World) (hg : RdGr w w.heap.size bg a) (hr : RightW a) (hS : a.st = (S : Int)) (hSb : S ≤ 4096) (hel : a.ed.length ≤ 1000000) (hk : RdI w w.heap.size Ak (kpR a onto)) (hn : (kpR a onto).length = nk) :
    Calls Tryz.prog 44 #[.agg (obL (.slice (some ⟨bg, 0, none⟩) S S) (.slice Ak nk ck) (erR a onto)).toArray] w fun e w' => Below w.heap.size w w' ∧ ExV a onto w w' e := by
  rcases Nat.eq_zero_or_pos S with rfl | h0
  · exact jExplore0_any bg a onto Ak nk ck w hg hr hS
  · exact jExplore1_any bg S a onto Ak nk ck w hg hr hS hSb h0 hel hk hn
theorem own_rdv {w : World} {base n c : Nat} {A : Option Addr} {zs : List Int} (h : Own w base (.slice A n c) zs) : RdI w w.heap.size A zs ∧ zs.length = n ∧ n ≤ c ∧ c ≤ 9223372036854775807 := by
  obtain ⟨A', c', e, h1, h2, h3⟩ := own_rdc h
  injection e with e1 e2 e3
  subst e1 e3
  exact ⟨h1, e2.symm, by omega, h3⟩
theorem ownE_rdv {w : World} {base n c : Nat} {A : Option Addr} {l : List Ed} (h : OwnE w base (.slice A n c) l) : RdG w w.heap.size A l ∧ l.length = n ∧ n ≤ c ∧ c ≤ 9223372036854775807 := by
  obtain ⟨A', c', e, h1, h2, h3⟩ := ownE_rd h
  injection e with e1 e2 e3
  subst e1 e3
  exact ⟨h1, e2.symm, by omega, h3⟩
theorem aut_size : (Tryz.prog.info? 33).map (·.size) = some 4 := by kernel_rfl
theorem load_aut {W : World} {b : Nat} {c0 c1 c2 c3 : Value} (h : Row W b 33 [c0, c1, c2, c3]) : (loadVar 33 ⟨b, 0, none⟩).run Tryz.prog W = .ok (.agg #[c0, c1, c2, c3]) W :=
  run_loadVar_mid (P := Tryz.prog) W b 0 33 [c0, c1, c2, c3] _ (fun i v hi => by rw [Nat.zero_add]; exact h.cell i hi) Tryz.underlying33 rfl aut_size
theorem Row.set4 {W : World} {g : Nat} {e : TypeId} {a0 a1 a2 a3 : Value} (b0 b1 b2 b3 : Value) (h : Row W g e [a0, a1, a2, a3]) : Row ((((W.setCell ⟨g, 0, none⟩ b0).setCell ⟨g, 1, none⟩ b1).setCell ⟨g, 2, none⟩ b2).setCell ⟨g, 3, none⟩ b3) g e [b0, b1, b2, b3] :=
  (((h.set 0 b0).set 1 b1).set 2 b2).set 3 b3
theorem below_s4 {B g : Nat} {W0 W : World} (b0 b1 b2 b3 : Value) (h : Below B W0 W) (hg : B ≤ g) : Below B W0 ((((W.setCell ⟨g, 0, none⟩ b0).setCell ⟨g, 1, none⟩ b1).setCell ⟨g, 2, none⟩ b2).setCell ⟨g, 3, none⟩ b3) :=
  (((h.setCell (p := ⟨g, 0, none⟩) hg b0).setCell (p := ⟨g, 1, none⟩) hg b1).setCell (p := ⟨g, 2, none⟩) hg b2).setCell (p := ⟨g, 3, none⟩) hg b3
theorem heap_set4 {g k : Nat} (W : World) (b0 b1 b2 b3 : Value) (h : k ≠ g) : ((((W.setCell ⟨g, 0, none⟩ b0).setCell ⟨g, 1, none⟩ b1).setCell ⟨g, 2, none⟩ b2).setCell ⟨g, 3, none⟩ b3).heap[k]? = W.heap[k]? := by
  rw [Below.heap_setCell _ _ _ _ h, Below.heap_setCell _ _ _ _ h, Below.heap_setCell _ _ _ _ h, Below.heap_setCell _ _ _ _ h]
/-- The marks of the projected automaton, up to a number. -/
noncomputable def mkJ (a : Au) (onto : List Int) (k : Nat) : List Int := ((List.range k).filter fun i => decide ((fnd (detA a onto)).getD i 0 ∈ (detA a onto).mr)).map fun (i : Nat) => (i : Int)
theorem mkJ_succ (a : Au) (onto : List Int) (k : Nat) : mkJ a onto (k + 1) = mkJ a onto k ++ (if (fnd (detA a onto)).getD k 0 ∈ (detA a onto).mr then [(k : Int)] else []) := by
  unfold mkJ
  rw [List.range_succ, List.filter_append, List.map_append]
  congr 1
  by_cases h : (fnd (detA a onto)).getD k 0 ∈ (detA a onto).mr
  · rw [if_pos h, List.filter_cons_of_pos (by simpa using h)]; rfl
  · rw [if_neg h, List.filter_cons_of_neg (by simpa using h)]; rfl
theorem mkJ_len (a : Au) (onto : List Int) (k : Nat) : (mkJ a onto k).length ≤ k := by
  unfold mkJ; rw [List.length_map]; exact Nat.le_trans (List.length_filter_le _ _) (by simp)
theorem mk_any {a : Au} (h : RightW a) (onto : List Int) {k : Nat} (hk : k < (fnd (detA a onto)).length) : ((deR a onto ((fnd (detA a onto)).getD k 0)).any fun q => decide (q ∈ a.mr)) = decide ((fnd (detA a onto)).getD k 0 ∈ (detA a onto).mr) := by
  have h0 : a.st ≠ 0 := fun h0 => by
    have : (detA a onto).st = 0 := by unfold detA; rw [if_pos h0]
    rw [fnd, if_pos (by omega)] at hk
    simp at hk
  have hr := fnd_range (det_right h onto) _ (getD_mem hk)
  obtain ⟨q, hq⟩ : ∃ q, q = (fnd (detA a onto)).getD k 0 := ⟨_, rfl⟩
  rw [← hq] at hr ⊢
  rw [det_dt h0] at hr
  have hok := de_ok h onto hr
  have hm := det_mark h h0 (onto := onto) hok
  have he : (detC a onto).en (deR a onto q) = q := (det_ok h onto).edn q hr.1 hr.2
  rw [he] at hm
  rw [Bool.eq_iff_iff, List.any_eq_true]
  simp only [decide_eq_true_eq]
  exact hm.symm
theorem cs_up' {a : Au} {ev : List Int} (hc : cweE a ev = 0) : Up ev := up_of (right_of (fst_zero.1 hc).2).alo
set_option maxHeartbeats 2000000 in
theorem isMarked_any (b : Nat) (A : Option Addr) (n c : Nat) (s : Int) (M : Option Addr) (m d : Nat) (E : Option Addr) (k g : Nat) (mr : List Int) (x : Int) (W : World) (hb : Row W b 33 [.slice A n c, .int .i64 s, .slice M m d, .slice E k g]) (hk : RdI W W.heap.size M mr) (hn : mr.length = m) (hnb : m ≤ 100000) (hup : Up mr) :
    Calls Tryz.prog 45 #[.int .i64 x, .pointer (some ⟨b, 0, none⟩)] W fun e w' => e = .returned (.bool (decide (x ∈ mr))) ∧ W = w' := by
  have c1 := hb.cell 2 rfl
  have HC := Lib.hid (jContains_any M m d W.heap.size mr x W hk hn (by omega) hup)
  obtain ⟨r, hr⟩ : ∃ r, decide (x ∈ mr) = r := ⟨_, rfl⟩
  rw [hr] at HC ⊢
  clear hb hk hn hup hr
  go_enter Tryz.func45, Tryz.ntmps45
  go_wp2_with fail
  refine HC.out.mono ?_
  rintro e w5 ⟨rfl, hw5⟩
  subst hw5
  go_wp2_with fail
  go_ret
  exact ⟨rfl, rfl⟩
/-- What Project hands back. -/
def ProV (a : Au) (onto : List Int) (w' : World) (e : Ending) : Prop :=
  (cweE a onto ≠ 0 ∧ e = .returned (.tuple #[.agg #[.slice none 0 0, .int .i64 0, .slice none 0 0, .slice none 0 0], .slice none 0 0, .int .i64 (cweE a onto)])) ∨
  (cweE a onto = 0 ∧ 4096 < (fnd (detA a onto)).length ∧ e = .returned (.tuple #[.agg #[.slice none 0 0, .int .i64 0, .slice none 0 0, .slice none 0 0], .slice none 0 0, .int .i64 3])) ∨
  (cweE a onto = 0 ∧ (fnd (detA a onto)).length ≤ 4096 ∧ ∃ (A1 : Option Addr) (n1 c1 : Nat) (s1 : Int) (M1 : Option Addr) (m1 d1 : Nat) (E1 : Option Addr) (k1 g1 : Nat) (V : Option Addr) (nV cV : Nat) (hs : List Hd),
    e = .returned (.tuple #[.agg #[.slice A1 n1 c1, .int .i64 s1, .slice M1 m1 d1, .slice E1 k1 g1], .slice V nV cV, .int .i64 0]) ∧ AuR w' w'.heap.size A1 n1 c1 s1 M1 m1 d1 E1 k1 g1 (canA (detA a onto)) ∧ RdL w' w'.heap.size V hs ∧ hs.length = nV ∧ hs.map Hd.z = (fnd (detA a onto)).map (deR a onto) ∧ nV ≤ cV ∧ cV ≤ 9223372036854775807)
/-- What Project keeps behind explore. -/
structure PB (w7 wr : World) (va : Value) (L : Int) (ve : Value) (vm : Value) (ms : List Int) : Prop where
  bel : Below w7.heap.size w7 wr
  bx : Row wr w7.heap.size 33 [va, .int .i64 L, vm, ve]
  mo : Own wr w7.heap.size vm ms
set_option maxHeartbeats 8000000 in
set_option maxRecDepth 100000 in
theorem jProject_any (A : Option Addr) (n c : Nat) (s : Int) (M : Option Addr) (m d : Nat) (E : Option Addr) (k g : Nat) (A3 : Option Addr) (n3 c3 : Nat) (a : Au) (onto : List Int) (w : World) (h : AuR w w.heap.size A n c s M m d E k g a) (ho : RdI w w.heap.size A3 onto) (hn : onto.length = n3) (hc3 : n3 ≤ c3 ∧ c3 ≤ 9223372036854775807) (hb3 : n3 ≤ 100000) :
    Calls Tryz.prog 14 #[.agg #[.slice A n c, .int .i64 s, .slice M m d, .slice E k g], .slice A3 n3 c3] w fun e w' => Below w.heap.size w w' ∧ ProV a onto w' e := by
  have hb1 := ((Below.refl w.heap.size w).alloc (Nat.le_refl _) (.cells #[.slice A n c, .int .i64 s, .slice M m d, .slice E k g] 33)).alloc (by simp) (.cells #[.slice none 0 0, .int .i64 0, .slice none 0 0, .slice none 0 0] 33)
  obtain ⟨W1, hW1⟩ : ∃ W, W = (w.alloc (.cells #[.slice A n c, .int .i64 s, .slice M m d, .slice E k g] 33)).alloc (.cells #[.slice none 0 0, .int .i64 0, .slice none 0 0, .slice none 0 0] 33) := ⟨_, rfl⟩
  have HA := Lib.hid (show Row W1 w.heap.size 33 [.slice A n c, .int .i64 s, .slice M m d, .slice E k g] from by rw [hW1]; exact (Row.new w _ _).alloc _)
  have HR1 := Lib.hid (show Row W1 (w.heap.size + 1) 33 [.slice none 0 0, .int .i64 0, .slice none 0 0, .slice none 0 0] from by
    rw [hW1]
    have := Row.new (w.alloc (.cells #[.slice A n c, .int .i64 s, .slice M m d, .slice E k g] 33)) [.slice none 0 0, .int .i64 0, .slice none 0 0, .slice none 0 0] 33
    rw [World.size_alloc] at this; exact this)
  rw [← hW1] at hb1
  have HB1 := Lib.hid hb1
  have HCE := Lib.hid (jCheckEvents_any A n c s M m d E k g a A3 n3 c3 onto W1 ((h.below hb1 (Nat.le_refl _)).more hb1.size) ((ho.below hb1 (Nat.le_refl _)).more hb1.size) hn hc3 hb3)
  have HH := Lib.hid h
  have HO := Lib.hid ho
  have HN := Lib.hid hn
  have q0 := HA.out.cell 0 rfl
  have q1 := HA.out.cell 1 rfl
  have q2 := HA.out.cell 2 rfl
  have q3 := HA.out.cell 3 rfl
  obtain ⟨u, hu⟩ : ∃ u, u = cweE a onto := ⟨_, rfl⟩
  rw [← hu] at HCE
  have HU := Lib.hid hu
  have HW1 := Lib.hid hW1
  clear h ho hn hb1 hu hW1
  go_enter Tryz.func14, Tryz.ntmps14
  go_wp2_with fail
  rw [← HW1.out]
  clear HW1
  go_wp2_with fail
  refine HCE.out.mono ?_
  rintro e w2 ⟨rfl, hb2⟩
  have HB2 := Lib.hid (HB1.out.trans (hb2.mono HB1.out.size))
  have HA2 := Lib.hid (HA.out.below hb2 HA.out.lt)
  have HR2 := Lib.hid (HR1.out.below hb2 HR1.out.lt)
  have hz1 := HB1.out.size
  have hz2 := hb2.size
  have hl1 := HR1.out.lt
  clear hb2 HCE HA HR1 q0 q1 q2 q3 HB1
  have q0 := HA2.out.cell 0 rfl
  have q1 := HA2.out.cell 1 rfl
  have q2 := HA2.out.cell 2 rfl
  have q3 := HA2.out.cell 3 rfl
  by_cases h0 : u = 0
  · have hb0 : (u != 0) = false := by simp [h0]
    have hcw := cwe_zero (show cweE a onto = 0 by rw [← HU.out]; exact h0)
    have hri := hcw.1
    have hst := HH.out.st
    obtain ⟨S, hS⟩ : ∃ S : Nat, s = (S : Int) := ⟨s.toNat, by have := hri.st0; omega⟩
    have hS4 : S ≤ 4096 := by have := hri.st1; omega
    subst hS
    have hup : Up onto := cs_up' (a := a) (by rw [← HU.out]; exact h0)
    have hmup : Up a.mr := up_of hri.mro
    have HRI := Lib.hid hri
    have HMU := Lib.hid hmup
    have HST := Lib.hid hst
    have HOB := Lib.hid (jObserver_any A n c (S : Int) M m d E k g A3 n3 c3 a S onto w2 ((HH.out.below HB2.out (Nat.le_refl _)).more HB2.out.size) hri.toRightW rfl hS4 ((HO.out.below HB2.out (Nat.le_refl _)).more HB2.out.size) HN.out hb3 hup)
    have H0 := Lib.hid h0
    clear hcw hri hst hup hmup h0
    go_wp2_with fail
    refine HOB.out.mono ?_
    rintro e w3 ⟨bg, vk, rfl, hko, hgr, hb3'⟩
    obtain ⟨Ak, ck, rfl, hkr, hkc, hkm⟩ := own_rdc hko
    obtain ⟨nk, hnk⟩ : ∃ n, n = (kpR a onto).length := ⟨_, rfl⟩
    rw [← hnk] at hkc ⊢
    have HNK := Lib.hid hnk
    have hnk32 : nk ≤ 32 := by rw [hnk]; exact kp_len HRI.out.toRightW onto
    have HB3 := Lib.hid (HB2.out.trans (hb3'.mono HB2.out.size))
    have HA3 := Lib.hid (HA2.out.below hb3' HA2.out.lt)
    have HR3 := Lib.hid (HR2.out.below hb3' HR2.out.lt)
    have HGR := Lib.hid hgr
    have HKR := Lib.hid hkr
    have hz3 := hb3'.size
    obtain ⟨gv, hgv⟩ : ∃ gv, gv = Value.slice (some ⟨bg, 0, none⟩) S S := ⟨_, rfl⟩
    obtain ⟨kv, hkv⟩ : ∃ kv, kv = Value.slice Ak nk ck := ⟨_, rfl⟩
    obtain ⟨W4, hW4⟩ : ∃ W, W = (w3.alloc (.cells #[.slice none 0 0, .slice none 0 0, .bool false, .bool false, .bool false, .bool false, .bool false, .bool false, .bool false, .bool false, .bool false, .bool false, .bool false, .bool false, .bool false, .bool false, .bool false, .bool false, .bool false, .bool false, .bool false, .bool false, .bool false, .bool false, .bool false, .bool false, .bool false, .bool false, .bool false, .bool false, .bool false, .bool false, .bool false, .bool false] 88)).setRow w3.heap.size (obL gv kv (erR a onto)).toArray := ⟨_, rfl⟩
    have hb34 : Below w3.heap.size w3 W4 := by rw [hW4]; exact below_setRow ((Below.refl _ w3).alloc (Nat.le_refl _) _) (Nat.le_refl _) _
    have hold := Row.new w3 [.slice none 0 0, .slice none 0 0, .bool false, .bool false, .bool false, .bool false, .bool false, .bool false, .bool false, .bool false, .bool false, .bool false, .bool false, .bool false, .bool false, .bool false, .bool false, .bool false, .bool false, .bool false, .bool false, .bool false, .bool false, .bool false, .bool false, .bool false, .bool false, .bool false, .bool false, .bool false, .bool false, .bool false, .bool false, .bool false] 88
    have HOB4 := Lib.hid (show Row W4 w3.heap.size 88 (obL gv kv (erR a onto)) from by rw [hW4]; exact setRow_heap _ _ _ _ _ _ hold)
    have hszs := Lib.hid (show (Tryz.prog.info? 88).map (·.size) = some (obL gv kv (erR a onto)).toArray.size by rw [obs_size, List.size_toArray, ob_len])
    have hszl := Lib.hid (show (Tryz.prog.info? 88).map (·.size) = some (obL gv kv (erR a onto)).length by rw [obs_size, ob_len])
    have hone := Lib.hid (ob_one (g := gv) (k := kv) (ev := erR a onto) (by rw [hgv]; rfl) (by rw [hkv]; rfl))
    have hz34 : (([.slice none 0 0, .slice none 0 0, .bool false, .bool false, .bool false, .bool false, .bool false, .bool false, .bool false, .bool false, .bool false, .bool false, .bool false, .bool false, .bool false, .bool false, .bool false, .bool false, .bool false, .bool false, .bool false, .bool false, .bool false, .bool false, .bool false, .bool false, .bool false, .bool false, .bool false, .bool false, .bool false, .bool false, .bool false, .bool false] : List Value).toArray).size = (obL gv kv (erR a onto)).toArray.size := by rw [List.size_toArray, List.size_toArray, ob_len]; rfl
    have HOLD := Lib.hid hold
    have HB34 := Lib.hid hb34
    have hrg := Lib.hid (show W4.rangeAt w3.heap.size 0 (obL gv kv (erR a onto)) from fun i v hi => by rw [Nat.zero_add]; exact HOB4.out.cell i hi)
    have HEX := Lib.hid (jExplore_any bg S a onto Ak nk ck W4 (hgr.keep hb34) HRI.out.toRightW HST.out hS4 (by have := HH.out.bk; rw [HH.out.hk]; exact this) ((hkr.below hb34 (Nat.le_refl _)).more hb34.size) hnk.symm)
    rw [← hgv, ← hkv] at HEX
    rw [← hgv, ← hkv]
    have HGV := Lib.hid hgv
    have HKV := Lib.hid hkv
    have HW4 := Lib.hid hW4
    have HKO := Lib.hid hko
    clear hko hgr hkr hb3' hnk hgv hkv hW4 hold hb34 HOB q0 q1 q2 q3
    go_wp2_with (first
      | (refine wpList_store_row rfl 88 (.tmp 8) (.tmp 25) rfl w3.heap.size (obL gv kv (erR a onto)).toArray rfl rfl 88 _ HOLD.out hszs.out hz34 hone.out ?_; rw [← HW4.out])
      | refine wpList_load_mid rfl 88 (.tmp 8) rfl w3.heap.size 0 rfl (obL gv kv (erR a onto)) _ hrg.out Tryz.underlying88 rfl hszl.out ?_)
    refine HEX.out.mono ?_
    rintro e w5 ⟨hb5, hev⟩
    have HB5 := Lib.hid (HB3.out.trans ((HB34.out.trans (hb5.mono HB34.out.size)).mono HB3.out.size))
    have HB35 := Lib.hid (HB34.out.trans (hb5.mono HB34.out.size))
    have HA5 := Lib.hid (HA3.out.below HB35.out HA3.out.lt)
    have HR5 := Lib.hid (HR3.out.below HB35.out HR3.out.lt)
    have HOB5 := Lib.hid (HOB4.out.below hb5 HOB4.out.lt)
    have HKR5 := Lib.hid ((HKR.out.below HB35.out (Nat.le_refl _)).more HB35.out.size)
    have hz4 := HB34.out.size
    have hz5 := hb5.size
    have HKO5 := Lib.hid (own_below HKO.out HB35.out)
    clear HOLD hszs hone hz34 HW4 hrg hszl HEX HOB4 HA3 HR3 HB34 HKR hb5 HKO
    rcases hev with ⟨hbig, rfl⟩ | ⟨hsm, V, ve, hs, rfl, hov, hrw, hmap, hoe⟩
    · have r0 := HR5.out.cell 0 rfl
      have r1 := HR5.out.cell 1 rfl
      have r2 := HR5.out.cell 2 rfl
      have r3 := HR5.out.cell 3 rfl
      have f0 := HR5.out.frozen 0
      have f1 := HR5.out.frozen 1
      have f2 := HR5.out.frozen 2
      have f3 := HR5.out.frozen 3
      go_wp2_with fail
      have hrow := HR5.out.set4 (.slice none 0 0) (.int .i64 0) (.slice none 0 0) (.slice none 0 0)
      exact bodyPost_ret (v := .tuple #[.agg #[.slice none 0 0, .int .i64 0, .slice none 0 0, .slice none 0 0], .slice none 0 0, .int .i64 3]) (ret_cell2 rfl rfl rfl rfl (load_aut hrow)) rfl ⟨below_s4 _ _ _ _ HB5.out (by omega), .inr (.inl ⟨by rw [← HU.out]; exact H0.out, hbig, rfl⟩)⟩
    · have hkv := HKV.out
      clear HKV
      subst hkv
      obtain ⟨AV, cV, rfl, hrl, hcV, hcM⟩ := ownL_rd hov hrw
      obtain ⟨L, hL⟩ : ∃ L, L = (fnd (detA a onto)).length := ⟨_, rfl⟩
      have hsl : hs.length = L := by have := congrArg List.length hmap; rw [List.length_map, List.length_map] at this; rw [this, hL]
      rw [hsl] at hcV ⊢
      have HL := Lib.hid hL
      have HSL := Lib.hid hsl
      have HRL := Lib.hid hrl
      have HMAP := Lib.hid hmap
      have HOE := Lib.hid hoe
      have HOV := Lib.hid hov
      have HRW := Lib.hid hrw
      have hL4 : L ≤ 4096 := by rw [hL]; exact hsm
      obtain ⟨E5, g5, rfl, hE1, hE2, hE3⟩ := ownE_rd hoe
      obtain ⟨ke, hke⟩ : ∃ k, k = (canEn (detA a onto) (fnd (detA a onto)).length).length := ⟨_, rfl⟩
      rw [← hke] at hE2 ⊢
      have HKE := Lib.hid hke
      have HE1 := Lib.hid hE1
      have hkeb : ke ≤ 140000 := by
        have h1 := canEn_leJ (det_right HRI.out.toRightW onto) (fnd (detA a onto)).length
        have h2 : (detA a onto).al.length ≤ 32 := by
          have : (detA a onto).al = kpR a onto := by unfold detA; split <;> rfl
          rw [this, ← HNK.out]; exact hnk32
        have h4 : (fnd (detA a onto)).length * (detA a onto).al.length ≤ 4096 * 32 := Nat.mul_le_mul hsm h2
        omega
      have hc1 := HOB5.out.cell 1 (show (obL gv (.slice Ak nk ck) (erR a onto))[1]? = some (.slice Ak nk ck) from rfl)
      have HPB := Lib.hid (show PB w5 (w5.alloc (.cells #[(.slice Ak nk ck), .int .i64 (L : Int), .slice none 0 0, .slice E5 ke g5] 33)) (.slice Ak nk ck) (L : Int) (.slice E5 ke g5) (.slice none 0 0) (mkJ a onto 0) from
        ⟨(Below.refl _ w5).alloc (Nat.le_refl _) _, Row.new w5 [(.slice Ak nk ck), .int .i64 (L : Int), .slice none 0 0, .slice E5 ke g5] 33, World.ownsRow_nil _ _ _ _⟩)
      obtain ⟨iI, iI0, iI1, iI2, iI3⟩ := info_parts info_int
      clear hrl hmap hoe hL hsl hke hE1 hov hrw
      go_wp2_with fail
      go_loopw [45] (fun iv wr => ∃ (t : Nat) (vm : Value), iv = .int .i64 t ∧ t ≤ L ∧ Hid (PB w5 wr (.slice Ak nk ck) (L : Int) (.slice E5 ke g5) vm (mkJ a onto t))) (fun i _ => L - (intOf i).toNat)
      case atStart => exact ⟨0, _, rfl, Nat.zero_le _, HPB⟩
      case round =>
        clear HPB hc1
        obtain ⟨t, vm, rfl, htL, hpb⟩ := hrel
        by_cases hlt : t < L
        · obtain ⟨b, o, rfl, hb, hc⟩ := HRL.out (by rw [HSL.out]; omega)
          obtain ⟨x, hx⟩ : ∃ x, hs[t]? = some x := ⟨_, List.getElem?_eq_getElem (by rw [HSL.out]; exact hlt)⟩
          obtain ⟨hcx, hxr, hxc, hxm⟩ := hc t x hx
          have hcx2 := (hpb.out.bel.cell (p := ⟨b, o + t, none⟩) hb).trans hcx
          have htf : t < (fnd (detA a onto)).length := by rw [← HL.out]; exact hlt
          have hxz : x.z = deR a onto ((fnd (detA a onto)).getD t 0) := by
            have h1 : (hs.map Hd.z)[t]? = some x.z := by rw [List.getElem?_map, hx]; rfl
            rw [HMAP.out, List.getElem?_map, List.getElem?_eq_getElem htf] at h1
            rw [List.getD, List.getElem?_eq_getElem htf]
            simpa using h1.symm
          have hany := mk_any HRI.out.toRightW onto htf
          rw [← hxz] at hany
          have hmk := mkJ_succ a onto t
          obtain ⟨r, hr⟩ : ∃ r, decide ((fnd (detA a onto)).getD t 0 ∈ (detA a onto).mr) = r := ⟨_, rfl⟩
          rw [hr] at hany
          have hxl : x.z.length ≤ 100000 := by
            have h0 : a.st ≠ 0 := fun h0 => by
              have : (detA a onto).st = 0 := by unfold detA; rw [if_pos h0]
              rw [fnd, if_pos (by omega)] at htf
              simp at htf
            have hq := fnd_range (det_right HRI.out.toRightW onto) _ (getD_mem htf)
            rw [det_dt h0] at hq
            have hok := de_ok HRI.out.toRightW onto hq
            have := sub_len hok
            rw [← det_dt h0, ← hxz] at this
            have h9 := HST.out
            omega
          have hwb := HB5.out.trans (hpb.out.bel.mono HB5.out.size)
          obtain ⟨xl, hxl2⟩ : ∃ l, l = x.z.length := ⟨_, rfl⟩
          have hcx3 : wr.cell? ⟨b, o + t, none⟩ = some (.slice x.A xl x.c) := by rw [hcx2, hxl2]; rfl
          have HC := Lib.hid (containsP_any w.heap.size x.A xl x.c wr.heap.size x.z (fun q => decide (q ∈ a.mr)) wr (fun y _ W hW => isMarked_any w.heap.size A n c (S : Int) M m d E k g a.mr y W ((HA5.out.below hpb.out.bel HA5.out.lt).below hW (by have := hpb.out.bel.size; have := HA5.out.lt; omega)) ((HH.out.mr.below (hwb.trans (hW.mono hwb.size)) (Nat.le_refl _)).more (Nat.le_trans hwb.size hW.size)) HH.out.hm HH.out.bm HMU.out) ((hxr.below hpb.out.bel (Nat.le_refl _)).more hpb.out.bel.size) hxl2.symm (by omega))
          rw [hany] at HC
          have z0 : (t : Int) < (L : Int) := by omega
          have z1 : (0 : Int) ≤ (t : Int) := by omega
          cases r
          · have HMK := Lib.hid (show mkJ a onto (t + 1) = mkJ a onto t by rw [hmk, if_neg (by simpa using hr)]; simp)
            clear hc hx hcx hxr hcx2 hxz hany hmk hr hxl2
            go_wp2_with fail
            refine HC.out.mono ?_
            rintro e w9 ⟨rfl, hw9⟩
            subst hw9
            go_wp2_with fail
            go_roundw
            case rel => exact ⟨t + 1, vm, by go_num, by omega, by rw [HMK.out]; exact hpb⟩
            case measure => simp [intOf]; omega
          · have HMK := Lib.hid (show mkJ a onto (t + 1) = mkJ a onto t ++ [(t : Int)] by rw [hmk, if_pos (by simpa using hr)])
            have hml := mkJ_len a onto t
            obtain ⟨ms, hms⟩ : ∃ ms, ms = mkJ a onto t := ⟨_, rfl⟩
            rw [← hms] at hpb HMK hml
            have c2 := hpb.out.bx.cell 2 rfl
            have hne := row_ne_own hpb.out.bx hpb.out.mo (by decide)
            have hz6 := hpb.out.bel.size
            clear hc hx hcx hxr hcx2 hxz hany hmk hr hxl2 hms
            go_wp2_with fail
            refine HC.out.mono ?_
            rintro e w9 ⟨rfl, hw9⟩
            subst hw9
            go_wp2_with (at_builtin; refine wpList_append_own _ rfl (.tmp 54) (.tmp 56) 27 rfl w5.heap.size 3 iI (.int .i64 0) 1 8 Tryz.underlying27 iI0 iI1 iI2 iI3 rfl (by omega) vm ms.length (ms.map (Value.int .i64)) rfl (hpb.out.mo.alloc _) ⟨wr.heap.size, 0, none⟩ 1 1 [.int .i64 (t : Int)] rfl rfl (World.news_of_block (cs := #[.int .i64 (t : Int)]) (t := 3) (fr := (0, 0)) (heap_alloc_new wr _)) (by simp [Value.oneCell']) (by unfold maxLen; omega) (by omega) (by simp; omega) ?_; intro v4 w4 ho4 hg4 _
                         obtain ⟨A4, c4', hv4⟩ := own_shapeS ho4; subst hv4
                         have hro4 := (hpb.out.bx.alloc (.cells #[.int .i64 (t : Int)] 3)).grown hg4 hne
                         have c4 := hro4.cell 2 rfl
                         have f4 := hro4.frozen 2
                         have HO4 := Lib.hid ho4; have HG4 := Lib.hid hg4; have HR4 := Lib.hid hro4
                         clear ho4 hg4 hro4)
            go_roundw
            case rel =>
              refine ⟨t + 1, .slice A4 (ms.length + 1) c4', by go_num, by omega, ?_⟩
              rw [HMK.out]
              have h5 : Own w4 w5.heap.size (.slice A4 (ms.length + 1) c4') (ms ++ [(t : Int)]) := by simpa [Own] using HO4.out
              refine Lib.hid ⟨?_, ?_, ?_⟩
              · exact ((hpb.out.bel.alloc hz6 _).grown HG4.out (by simp; omega) (fun j hj => (hpb.out.mo.lt j hj).1)).setCell (p := ⟨w5.heap.size, 2, none⟩) (Nat.le_refl _) _
              · exact HR4.out.set 2 (.slice A4 (ms.length + 1) c4')
              · exact ownsRow_setCell_other (a := ⟨w5.heap.size, 2, none⟩) h5 (row_ne_own HR4.out h5 (by decide)) _
            case measure => simp [intOf]; omega
        · obtain rfl : t = L := by omega
          have hwb := HB5.out.trans (hpb.out.bel.mono HB5.out.size)
          have hR6 := HR5.out.below hpb.out.bel HR5.out.lt
          obtain ⟨M6, d6, rfl, hm1, hm2, hm3⟩ := own_rdc hpb.out.mo
          have HPB6 := Lib.hid hpb.out
          have HR6 := Lib.hid hR6
          have HWB := Lib.hid hwb
          have HM1 := Lib.hid hm1
          have p0 := hpb.out.bx.cell 0 rfl
          have p1 := hpb.out.bx.cell 1 rfl
          have p2 := hpb.out.bx.cell 2 rfl
          have p3 := hpb.out.bx.cell 3 rfl
          have r0 := hR6.cell 0 rfl
          have r1 := hR6.cell 1 rfl
          have r2 := hR6.cell 2 rfl
          have r3 := hR6.cell 3 rfl
          have f0 := hR6.frozen 0
          have f1 := hR6.frozen 1
          have f2 := hR6.frozen 2
          have f3 := hR6.frozen 3
          obtain ⟨ml, hml⟩ : ∃ l, l = (mkJ a onto t).length := ⟨_, rfl⟩
          rw [← hml] at p2 hm2
          have HML := Lib.hid hml
          clear hpb hwb hR6 hm1 hml
          go_wp2_with fail
          have hrow := HR6.out.set4 (.slice Ak nk ck) (.int .i64 (t : Int)) (.slice M6 ml d6) (.slice E5 ke g5)
          obtain ⟨W9, hW9⟩ : ∃ W, W = ((((wr.setCell ⟨w.heap.size + 1, 0, none⟩ (.slice Ak nk ck)).setCell ⟨w.heap.size + 1, 1, none⟩ (.int .i64 (t : Int))).setCell ⟨w.heap.size + 1, 2, none⟩ (.slice M6 ml d6)).setCell ⟨w.heap.size + 1, 3, none⟩ (.slice E5 ke g5)) := ⟨_, rfl⟩
          rw [← hW9] at hrow ⊢
          have hb9 : Below w.heap.size w W9 := by rw [hW9]; exact below_s4 _ _ _ _ HWB.out (by omega)
          have hlb := HR5.out.lt
          have hz6 := HPB6.out.bel.size
          have hk9 : ∀ k, k < wr.heap.size → k ≠ w.heap.size + 1 → W9.heap[k]? = wr.heap[k]? := fun k _ hk => by rw [hW9]; exact heap_set4 wr _ _ _ _ hk
          have hs9 : W9.heap.size = wr.heap.size := by rw [hW9]; simp [World.setCell]
          have hto : ∀ {base e sz v n xs}, w5.ownsRow base e sz v n xs → e ≠ 33 → W9.ownsRow base e sz v n xs := fun ho he =>
            ownsRow_same' (own_below ho HPB6.out.bel) fun g hg => hk9 g ((own_below ho HPB6.out.bel).lt g hg).2 (fun e' => row_ne_own HR6.out (own_below ho HPB6.out.bel) (fun e'' => he e''.symm) (by rw [hg, e']))
          have k1 := hto HKO5.out (by decide)
          have k2 := hto HOE.out (by decide)
          have k3 := hto HOV.out (by decide)
          have k4 : ∀ x ∈ hs, Own W9 W4.heap.size x.enc x.z := fun x hx => hto (HRW.out x hx) (by decide)
          have k5 : Own W9 w5.heap.size (.slice M6 (mkJ a onto t).length d6) (mkJ a onto t) := by
            have h0 := HPB6.out.mo
            exact ownsRow_same' h0 fun g hg => hk9 g (h0.lt g hg).2 (fun e' => row_ne_own HR6.out h0 (by decide) (by rw [hg, e']))
          obtain ⟨a1, a2, a3, a4⟩ := own_rdv k1
          obtain ⟨b1, b2, b3, b4⟩ := ownE_rdv k2
          obtain ⟨m1, m2, m3, m4⟩ := own_rdv k5
          obtain ⟨AV', cV', ev, l1, l2, l3⟩ := ownL_rd k3 k4
          injection ev with ev1 ev2 ev3
          subst ev1 ev3
          have hal : (detA a onto).al = kpR a onto := by unfold detA; split <;> rfl
          have hmk : (canA (detA a onto)).mr = mkJ a onto t := by rw [HL.out]; rfl
          refine bodyPost_ret (v := .tuple #[.agg #[.slice Ak nk ck, .int .i64 (t : Int), .slice M6 ml d6, .slice E5 ke g5], .slice AV t cV, .int .i64 0]) (ret_cell2 rfl rfl rfl rfl (load_aut hrow)) rfl ⟨hb9, .inr (.inr ⟨by rw [← HU.out]; exact H0.out, hsm, Ak, nk, ck, (t : Int), M6, ml, d6, E5, ke, g5, AV, t, cV, hs, rfl, ?_, l1, HSL.out, HMAP.out, hcV, hcM⟩)⟩
          exact { al := by show RdI _ _ _ (detA a onto).al; rw [hal]; exact a1, mr := by rw [hmk]; exact m1, ed := b1, hn := by show (detA a onto).al.length = nk; rw [hal]; exact HNK.out.symm, hm := by rw [hmk]; exact HML.out.symm, hk := HKE.out.symm, st := by show ((fnd (detA a onto)).length : Int) = (t : Int); rw [← HL.out], cn := ⟨hkc, hkm⟩, cm := by rw [HML.out]; exact ⟨m3, m4⟩, ck := ⟨hE2, hE3⟩, bn := by omega, bm := by have := mkJ_len a onto t; rw [HML.out]; omega, bk := by omega }
  · have hb0 : (u != 0) = true := by simp [h0]
    have r0 := HR2.out.cell 0 rfl
    have r1 := HR2.out.cell 1 rfl
    have r2 := HR2.out.cell 2 rfl
    have r3 := HR2.out.cell 3 rfl
    have f0 := HR2.out.frozen 0
    have f1 := HR2.out.frozen 1
    have f2 := HR2.out.frozen 2
    have f3 := HR2.out.frozen 3
    go_wp2_with fail
    have hrow := HR2.out.set4 (.slice none 0 0) (.int .i64 0) (.slice none 0 0) (.slice none 0 0)
    exact bodyPost_ret (v := .tuple #[.agg #[.slice none 0 0, .int .i64 0, .slice none 0 0, .slice none 0 0], .slice none 0 0, .int .i64 u]) (ret_cell2 rfl rfl rfl rfl (load_aut hrow)) rfl ⟨below_s4 _ _ _ _ HB2.out (by omega), .inl ⟨by rw [← HU.out]; exact h0, by rw [HU.out]⟩⟩
end Go.Proofs.YtaadhpkpekmfoaaGreat

/- A queue: a list of the call's own whose head has moved on; an append to it. -/
namespace Go.Proofs.YtaadhpkpekmfoaaGreat
open Go.RowKit

/-- The slice value owns, among the blocks from base on, these cells; it need not begin at its block's first cell. -/
def ownsTail (w : World) (base : Nat) (e : TypeId) (size : Nat) (v : Value) (n : Nat) (xs : List Value) : Prop :=
  xs.length = n * size ∧ ((v = .slice none 0 0 ∧ n = 0) ∨
    ∃ g off cap cur, v = .slice (some ⟨g, off * size, none⟩) n cap ∧ base ≤ g ∧ w.heap[g]? = some (.cells cur e (0, 0)) ∧ n ≤ cap ∧ cap ≤ maxLen ∧ (off + cap) * size ≤ cur.size ∧ (cur.toList.drop (off * size)).take (n * size) = xs)
section
variable {w w' w0 : World} {base : Nat} {e : TypeId} {size : Nat} {v : Value} {n : Nat} {xs : List Value}
theorem ownsTail.of (h : w.ownsRow base e size v n xs) : ownsTail w base e size v n xs := by
  refine ⟨h.1, ?_⟩
  rcases h.2 with h | ⟨g, cap, cur, rfl, h1, h2, h3, h4, h5, h6⟩
  · exact .inl h
  · exact .inr ⟨g, 0, cap, cur, by rw [Nat.zero_mul], h1, h2, h3, h4, by rw [Nat.zero_add, h5]; exact Nat.le_refl _, by rw [Nat.zero_mul, List.drop_zero]; exact h6⟩
theorem ownsTail.nil (w : World) (base : Nat) (e : TypeId) (size : Nat) : ownsTail w base e size (.slice none 0 0) 0 [] := ⟨by simp, .inl ⟨rfl, rfl⟩⟩
theorem ownsTail.lt (h : ownsTail w base e size v n xs) : ∀ k, v.ownBlock = some k → base ≤ k ∧ k < w.heap.size := by
  intro k hk
  rcases h.2 with ⟨rfl, _⟩ | ⟨g, off, cap, cur, rfl, hb, hg, _⟩
  · simp [Value.ownBlock] at hk
  · simp [Value.ownBlock] at hk
    subst hk
    exact ⟨hb, (Array.getElem?_eq_some_iff.1 hg).1⟩
theorem ownsTail.same (h : ownsTail w base e size v n xs) (hk : ∀ g, v.ownBlock = some g → w'.heap[g]? = w.heap[g]?) : ownsTail w' base e size v n xs := by
  refine ⟨h.1, ?_⟩
  rcases h.2 with h | ⟨g, off, cap, cur, rfl, h1, h2, r⟩
  · exact .inl h
  · exact .inr ⟨g, off, cap, cur, rfl, h1, (hk g rfl).trans h2, r⟩
theorem ownsTail.below (h : ownsTail w base e size v n xs) (hb : Below w.heap.size w w') : ownsTail w' base e size v n xs :=
  h.same fun g hg => hb.block g (h.lt g hg).2
theorem ownsTail.shape (h : ownsTail w base e size v n xs) : ∃ A c, v = .slice A n c ∧ n ≤ c ∧ c ≤ maxLen := by
  rcases h.2 with ⟨rfl, rfl⟩ | ⟨g, off, cap, cur, rfl, _, _, h3, h4, _⟩
  · exact ⟨none, 0, rfl, Nat.le_refl _, by unfold maxLen; omega⟩
  · exact ⟨_, _, rfl, h3, h4⟩
theorem ownsTail.cell {g o c : Nat} (h : ownsTail w base e size (.slice (some ⟨g, o, none⟩) n c) n xs) (j : Nat) {u : Value} (hj : xs[j]? = some u) : w.cell? ⟨g, o + j, none⟩ = some u := by
  rcases h.2 with ⟨h1, _⟩ | ⟨g', off, cap, cur, h0, hb, hg, h3, h4, h5, h6⟩
  · cases h1
  · injection h0 with h0 _ _; injection h0 with h0; injection h0 with h7 h8; subst h7 h8
    rw [cell_of_row w g (off * size + j) cur e (0, 0) hg]
    rw [← h6, List.getElem?_take] at hj
    split at hj
    · rw [List.getElem?_drop] at hj; simpa using hj
    · cases hj
/-- There is an address where there is something. -/
theorem ownsTail.addr (h : ownsTail w base e size v n xs) (hn : 0 < n) : ∃ g o c, v = .slice (some ⟨g, o, none⟩) n c ∧ g < w.heap.size ∧ base ≤ g := by
  rcases h.2 with ⟨_, h1⟩ | ⟨g, off, cap, cur, h0, hb, hg, h3, _⟩
  · omega
  · exact ⟨g, off * size, cap, h0, (Array.getElem?_eq_some_iff.1 hg).1, hb⟩
/-- The head moves on. -/
theorem ownsTail.tail {g o c : Nat} {ys : List Value} (h : ownsTail w base e size (.slice (some ⟨g, o, none⟩) (n + 1) c) (n + 1) (xs ++ ys)) (hx : xs.length = size) : ownsTail w base e size (.slice (if c = 1 then some ⟨g, o, none⟩ else some ⟨g, o + 1 * size, none⟩) n (c - 1)) n ys := by
  have hl := h.1
  rw [List.length_append, hx, Nat.add_mul, Nat.one_mul] at hl
  refine ⟨by omega, ?_⟩
  rcases h.2 with ⟨h1, _⟩ | ⟨g', off, cap, cur, h0, hb, hg, h3, h4, h5, h6⟩
  · cases h1
  · injection h0 with h0 _ h9; injection h0 with h0; injection h0 with h7 h8; subst h7 h8 h9
    by_cases h1 : c = 1
    · subst h1
      obtain rfl : n = 0 := by omega
      have hy : ys = [] := List.eq_nil_of_length_eq_zero (by omega)
      subst hy
      rw [if_pos rfl]
      exact .inr ⟨g, off, 0, cur, rfl, hb, hg, by omega, by omega, Nat.le_trans (Nat.mul_le_mul_right _ (by omega)) h5, by simp⟩
    · rw [if_neg h1]
      refine .inr ⟨g, off + 1, c - 1, cur, by rw [Nat.add_mul], hb, hg, by omega, by omega, by rw [show off + 1 + (c - 1) = off + c by omega]; exact h5, ?_⟩
      have h7 := congrArg (List.drop size) h6
      rw [List.drop_take, List.drop_drop, ← hx, List.drop_left, hx] at h7
      rw [Nat.add_mul, Nat.one_mul]
      have h8 : (n + 1) * size - size = n * size := by rw [Nat.add_mul, Nat.one_mul]; omega
      rw [h8] at h7
      exact h7
end
section
variable {P : Program} (w : World)
theorem run_append_room_tail (t ty e : TypeId) (i : TypeInfo) (ht : P.underlying t = some (.slice e)) (hi : P.info? e = some i)
    (g off sLen sCap : Nat) (cur : Array Value) (hg : w.heap[g]? = some (.cells cur e (0, 0)))
    (a : Addr) (m c : Nat) (news : List Value) (hl : news.length = m * i.size) (hnews : ∀ j u, news[j]? = some u → w.cell? (a.add j) = some u) (h1 : ∀ u ∈ news, u.oneCell' = true)
    (hroom : sLen + m ≤ sCap) (hfit : off + sLen * i.size + news.length ≤ cur.size) :
    (Builtin.append_ #[t, t] ty #[.slice (some ⟨g, off, none⟩) sLen sCap, .slice (some a) m c]).run P w =
      .ok (.slice (some ⟨g, off, none⟩) (sLen + m) sCap) (w.setRow g (cur.toList.take (off + sLen * i.size) ++ news ++ cur.toList.drop (off + sLen * i.size + news.length)).toArray) := by
  have hf := run_firstCells_some (P := P) w i.size m a m c news hl hnews
  have hst := run_storeCells_at P g (off + sLen * i.size) e news 0 cur w hg (by simpa using hfit) h1
  have hadd : (⟨g, off, none⟩ : Addr).add (sLen * i.size) = ⟨g, off + sLen * i.size, none⟩ := by unfold Addr.add; split <;> simp_all
  simp only [Nat.add_zero] at hst
  simp [Builtin.append_, run_underlying ht, sizeOf, typeInfo, hi, Builtin.lenOf, hroom, hf, hadd, hst]
theorem run_append_tail (base : Nat) (t ty e : TypeId) (i : TypeInfo) (z : Value) (size bytes : Nat) (ht : P.underlying t = some (.slice e)) (hi : P.info? e = some i) (hz : i.zero = some z)
    (hsize : i.size = size) (hby : i.bytes = bytes) (hzs : z.cells.size = size) (hsz : 0 < size)
    (v : Value) (n : Nat) (xs : List Value) (hown : ownsTail w base e size v n xs)
    (a : Addr) (m c : Nat) (news : List Value) (hl : news.length = m * size) (hnews : ∀ j u, news[j]? = some u → w.cell? (a.add j) = some u) (h1 : ∀ u ∈ news, u.oneCell' = true)
    (h63 : n + m ≤ maxLen) (hbytes : (n + m) * bytes ≤ 140737488355328) (hbase : base ≤ w.heap.size) :
    ∃ v' w', (Builtin.append_ #[t, t] ty #[v, .slice (some a) m c]).run P w = .ok v' w' ∧ ownsTail w' base e size v' (n + m) (xs ++ news) ∧ w.grownBy w' v.ownBlock ∧ (v'.ownBlock = v.ownBlock ∨ v'.ownBlock = some w.heap.size) := by
  rcases hown.2 with ⟨rfl, rfl⟩ | ⟨g, off, cap, cur, rfl, hbg, hg, hnc, hcm, hcs, htake⟩
  · obtain ⟨v', w', h2, h3, h4, _, h5⟩ := run_append_own_at (P := P) w base t ty e i z size bytes ht hi hz hsize hby hzs hsz (.slice none 0 0) 0 xs ⟨hown.1, .inl ⟨rfl, rfl⟩⟩ a m c news hl hnews h1 h63 hbytes hbase
    exact ⟨v', w', h2, .of h3, h4, h5⟩
  · subst hsize
    subst hby
    have hlen : (xs ++ news).length = (n + m) * i.size := by rw [List.length_append, hown.1, hl, Nat.add_mul]
    by_cases hroom : n + m ≤ cap
    · have hmm : (n + m) * i.size ≤ cap * i.size := Nat.mul_le_mul_right _ hroom
      have hcs' := hcs
      rw [Nat.add_mul] at hcs' hmm
      have hfit : off * i.size + n * i.size + news.length ≤ cur.size := by rw [hl]; omega
      have hr := run_append_room_tail (P := P) w t ty e i ht hi g (off * i.size) n cap cur hg a m c news hl hnews h1 hroom hfit
      have hcl : cur.toList.length = cur.size := Array.length_toList
      refine ⟨_, _, hr, ⟨hlen, .inr ⟨g, off, cap, _, rfl, hbg, setRow_heap w g cur _ e _ hg, hroom, hcm, ?_, ?_⟩⟩, ⟨rfl, rfl, rfl, by simp, fun k _ hk => setRow_other w g k _ (fun e => hk (by simp [Value.ownBlock, e]))⟩, .inl rfl⟩
      · simp only [List.size_toArray, List.length_append, List.length_take, List.length_drop, Array.length_toList]
        omega
      · have e1 : cur.toList.take (off * i.size + n * i.size) = cur.toList.take (off * i.size) ++ xs := by rw [← htake, List.take_add]
        simp only [e1, List.append_assoc]
        have e2 : (cur.toList.take (off * i.size)).length = off * i.size := by rw [List.length_take]; omega
        have e3 : ∀ Z : List Value, (cur.toList.take (off * i.size) ++ Z).drop (off * i.size) = Z := fun Z => by
          have := List.drop_left (l₁ := cur.toList.take (off * i.size)) (l₂ := Z)
          rwa [e2] at this
        rw [e3, ← List.append_assoc, ← hlen]
        exact List.take_left
    · have holds : ∀ j u, xs[j]? = some u → w.cell? ((⟨g, off * i.size, none⟩ : Addr).add j) = some u := fun j u hj => by
        rw [show ((⟨g, off * i.size, none⟩ : Addr).add j) = ⟨g, off * i.size + j, none⟩ from by unfold Addr.add; split <;> simp_all]
        exact hown.cell j hj
      have hr := run_append_grow (P := P) w t ty e i z ht hi hz ⟨g, off * i.size, none⟩ n cap xs hown.1 holds a m c news hl hnews (by omega) (by unfold maxLen at h63; omega) (growslice_fits (by omega) hbytes)
      have hge := grownCap_ge w (n + m) cap e
      have hcm : grownCap w (n + m) cap e ≤ maxLen := grownCap_le_maxLen w (n + m) cap e h63
      refine ⟨_, _, hr, .of ⟨hlen, .inr ⟨w.heap.size, _, _, rfl, hbase, heap_alloc_new w.drew _, hge, hcm, ?_, ?_⟩⟩, ⟨rfl, rfl, rfl, by simp, fun k hk _ => Below.heap_alloc w.drew _ k hk⟩, .inr rfl⟩
      · simp only [Array.size_append, List.size_toArray, size_zeroCells, hzs, hown.1, hl, ← Nat.add_mul]
        congr 1
        omega
      · simp only [Array.toList_append, List.append_assoc]
        rw [← List.append_assoc, ← hlen]
        exact List.take_left
theorem wpList_append_tail {ops : Array Oper} {rest : List Oper} {o : Oper} {a : Act} {Q : Exit → Act → World → Prop} (hgd : o.guard = none) (s x : Operand) (t : TypeId)
    (ho : o.op = .call { callee := .builtin .append, args := #[s, x], argTypes := #[t, t] })
    (base : Nat) (e : TypeId) (i : TypeInfo) (z : Value) (size bytes : Nat) (ht : P.underlying t = some (.slice e)) (hi : P.info? e = some i) (hz : i.zero = some z)
    (hsize : i.size = size) (hby : i.bytes = bytes) (hzs : z.cells.size = size) (hsz : 0 < size)
    (v : Value) (n : Nat) (xs : List Value) (hs : a.eval s = v) (hown : ownsTail w base e size v n xs)
    (ad : Addr) (m c : Nat) (news : List Value) (hx : a.eval x = .slice (some ad) m c) (hl : news.length = m * size) (hnews : ∀ j u, news[j]? = some u → w.cell? (ad.add j) = some u) (h1 : ∀ u ∈ news, u.oneCell' = true)
    (h63 : n + m ≤ maxLen) (hbytes : (n + m) * bytes ≤ 140737488355328) (hbase : base ≤ w.heap.size)
    (h : ∀ v' w', ownsTail w' base e size v' (n + m) (xs ++ news) → w.grownBy w' v.ownBlock → (v'.ownBlock = v.ownBlock ∨ v'.ownBlock = some w.heap.size) → wpList P ops Q rest (a.put o.dst v') w') : wpList P ops Q (o :: rest) a w := by
  refine wpList_plain hgd fun K hK => ?_
  obtain ⟨v', w', hr, h2, h3, h4⟩ := run_append_tail (P := P) w base t o.type e i z size bytes ht hi hz hsize hby hzs hsz v n xs hown ad m c news hl hnews h1 h63 hbytes hbase
  unfold Oper.wp execOp
  simp only [ho, resolve, invoke, builtin, Sem.run_bind, Sem.run_pure, Result.andThen_ok, List.map_toArray, List.map_cons, List.map_nil, hs, hx, hr]
  exact hK _ _ (h v' w' h2 h3 h4)
end
end Go.Proofs.YtaadhpkpekmfoaaGreat

/- Layer 7: the memory of lift's search: origins, the queue; its closure, which finds a place once. -/
namespace Go.Proofs.YtaadhpkpekmfoaaGreat
open Go.RowKit Go.Sort

/-- What is known of the places: by which event, and from which state, each was found. -/
abbrev FoM := Nat → Nat → Option (Int × Int)
def updF (F : FoM) (d q : Nat) (x : Int × Int) : FoM := fun d' q' => if d' = d ∧ q' = q then some x else F d' q'
def orgC (o : Option (Int × Int)) (r : Nat) : Value := if r = 0 then .bool o.isSome else if r = 1 then .int .i8 ((o.getD (0, 0)).1) else .int .i16 ((o.getD (0, 0)).2)
/-- The cells of the origins of one number of events done. -/
def orgL (F : FoM) (S d : Nat) : List Value := (List.range (S * 3)).map fun i => orgC (F d (i / 3)) (i % 3)
theorem org_len (F : FoM) (S d : Nat) : (orgL F S d).length = S * 3 := by simp [orgL]
theorem org_at {F : FoM} {S d q r : Nat} (hq : q < S) (hr : r < 3) : (orgL F S d)[q * 3 + r]? = some (orgC (F d q) r) := by
  unfold orgL
  rw [List.getElem?_map, List.getElem?_range (by omega), Option.map_some, show (q * 3 + r) / 3 = q by omega, show (q * 3 + r) % 3 = r by omega]
theorem org_set {F : FoM} {S d q : Nat} (x : Int × Int) : (((orgL F S d).set (q * 3) (.bool true)).set (q * 3 + 1) (.int .i8 x.1)).set (q * 3 + 2) (.int .i16 x.2) = orgL (updF F d q x) S d := by
  apply List.ext_getElem
  · simp [orgL]
  · intro i h1 h2
    simp only [List.length_set] at h1
    rw [List.getElem_set, List.getElem_set, List.getElem_set]
    simp only [orgL, List.getElem_map, List.getElem_range, updF, true_and]
    by_cases e2 : q * 3 + 2 = i
    · subst e2
      rw [if_pos rfl, if_pos (by omega), show (q * 3 + 2) % 3 = 2 by omega]; rfl
    · rw [if_neg e2]
      by_cases e1 : q * 3 + 1 = i
      · subst e1
        rw [if_pos rfl, if_pos (by omega), show (q * 3 + 1) % 3 = 1 by omega]; rfl
      · rw [if_neg e1]
        by_cases e0 : q * 3 = i
        · subst e0
          rw [if_pos rfl, if_pos (by omega), show (q * 3) % 3 = 0 by omega]; rfl
        · rw [if_neg e0, if_neg (by omega)]
theorem org_upd_ne {F : FoM} {S d d' q : Nat} {x : Int × Int} (h : d' ≠ d) : orgL (updF F d q x) S d' = orgL F S d' := by
  unfold orgL updF; simp [h]
theorem org_none {F : FoM} {S d : Nat} (h : ∀ q, F d q = none) : orgL F S d = orgL (fun _ _ => none) S d := by
  unfold orgL; simp [h]
theorem info_originJ : (Tryz.prog.info? 154).map (fun i => (i.zero, i.size, i.bytes)) = some (some (.agg #[.bool false, .int .i8 0, .int .i16 0]), 3, 4) := by kernel_rfl
theorem info_originsJ : (Tryz.prog.info? 149).map (fun i => (i.zero, i.size, i.bytes)) = some (some (.slice none 0 0), 1, 24) := by kernel_rfl
theorem info_placeJ : (Tryz.prog.info? 148).map (fun i => (i.zero, i.size, i.bytes)) = some (some (.agg #[.int .i64 0, .int .i64 0]), 2, 16) := by kernel_rfl
theorem make_origins (N : Nat) (hN : N ≤ 100000) (w : World) :
    (Instr.makeSlice 149 (.int .i64 (N : Int)) (.int .i64 (N : Int))).run Tryz.prog w = .ok (.slice (some ⟨w.heap.size, 0, none⟩) N N) (w.alloc (.cells (orgL (fun _ _ => none) N 0).toArray 154)) := by
  obtain ⟨i0, hi, hz0, hz1, hz2⟩ := info_parts info_originJ
  have := run_make_rowN 149 154 i0 _ Tryz.underlying149 hi hz0 .i64 .i64 N N (Nat.le_refl _) (by rw [hz2]; omega) (by omega) w
  rw [this, hz1]
  have e : madeCells (Value.agg #[.bool false, .int .i8 0, .int .i16 0]).cells (N * 3) = (orgL (fun _ _ => none) N 0).toArray := by
    apply Array.toList_inj.1
    unfold madeCells orgL
    rw [Array.toList_map, Array.toList_range]
    refine List.map_congr_left fun i _ => ?_
    have h3 : i % 3 = 0 ∨ i % 3 = 1 ∨ i % 3 = 2 := by omega
    show (#[Value.bool false, .int .i8 0, .int .i16 0] : Array Value)[i % 3]! = _
    rcases h3 with h | h | h <;> rw [h] <;> rfl
  rw [e]
theorem make_rows (N : Nat) (hN : N ≤ 100000) (w : World) :
    (Instr.makeSlice 146 (.int .i64 (N : Int)) (.int .i64 (N : Int))).run Tryz.prog w = .ok (.slice (some ⟨w.heap.size, 0, none⟩) N N) (w.alloc (.cells (List.replicate N (Value.slice none 0 0)).toArray 149)) := by
  obtain ⟨i0, hi, hz0, hz1, hz2⟩ := info_parts info_originsJ
  have := run_make_rowN 146 149 i0 (.slice none 0 0) Tryz.underlying146 hi hz0 .i64 .i64 N N (Nat.le_refl _) (by rw [hz2]; omega) (by omega) w
  rw [this, hz1, Nat.mul_one]
  have e : madeCells (Value.slice none 0 0).cells N = (List.replicate N (Value.slice none 0 0)).toArray := by
    rw [← toList_madeCells_one (.slice none 0 0) N]; simp [Value.cells]
  rw [e]
/-- The rows of origins: nil where nothing is known, else S places. -/
structure OG (w : World) (bo base S l : Nat) (F : FoM) (ogs : List Value) : Prop where
  row : Row w bo 149 ogs
  len : ogs.length = l + 1
  at_ : ∀ d, d ≤ l → (ogs.getD d undef = .slice none 0 0 ∧ ∀ q, F d q = none) ∨ ∃ g, ogs.getD d undef = .slice (some ⟨g, 0, none⟩) S S ∧ base ≤ g ∧ Row w g 154 (orgL F S d)
  dj : ∀ d e g, d ≤ l → e ≤ l → d ≠ e → ogs.getD d undef = .slice (some ⟨g, 0, none⟩) S S → ogs.getD e undef ≠ .slice (some ⟨g, 0, none⟩) S S
section
variable {w w' : World} {bo base S l : Nat} {F : FoM} {ogs : List Value}
theorem OG.same (h : OG w bo base S l F ogs) (hk : ∀ g e cs, Row w g e cs → e = 149 ∨ e = 154 → Row w' g e cs) : OG w' bo base S l F ogs :=
  ⟨hk _ _ _ h.row (.inl rfl), h.len, fun d hd => (h.at_ d hd).imp id fun ⟨g, h1, h2, h3⟩ => ⟨g, h1, h2, hk _ _ _ h3 (.inr rfl)⟩, h.dj⟩
theorem OG.below (h : OG w bo base S l F ogs) (hb : Below w.heap.size w w') : OG w' bo base S l F ogs := h.same fun _ _ _ hr _ => hr.below hb hr.lt
/-- A row is made. -/
theorem OG.made (h : OG w bo base S l F ogs) (hb : base ≤ w.heap.size) {d : Nat} (hd : d ≤ l) (hn : ∀ q, F d q = none) :
    OG ((w.alloc (.cells (orgL (fun _ _ => none) S 0).toArray 154)).setCell ⟨bo, d, none⟩ (.slice (some ⟨w.heap.size, 0, none⟩) S S)) bo base S l F (ogs.set d (.slice (some ⟨w.heap.size, 0, none⟩) S S)) := by
  have hdl : d < ogs.length := by rw [h.len]; omega
  have hlt := h.row.lt
  have hnew := Row.new w (orgL (fun _ _ => none) S 0) 154
  refine ⟨(h.row.alloc _).set d _, by rw [List.length_set]; exact h.len, fun e he => ?_, fun e f g he hf hef h1 => ?_⟩
  · rw [getD_set hdl]
    by_cases hde : d = e
    · subst hde
      rw [if_pos rfl]
      refine .inr ⟨w.heap.size, rfl, hb, ?_⟩
      rw [org_none hn]
      exact Row.setOther (p := ⟨bo, d, none⟩) hnew (by show w.heap.size ≠ bo; omega) _
    · rw [if_neg hde]
      refine (h.at_ e he).imp id fun ⟨g, h1, h2, h3⟩ => ⟨g, h1, h2, ?_⟩
      exact Row.setOther (p := ⟨bo, d, none⟩) (h3.alloc _) (rows_neJ h3 h.row (by decide)) _
  · rw [getD_set hdl] at h1 ⊢
    have key : ∀ e, e ≤ l → ogs.getD e undef ≠ .slice (some ⟨w.heap.size, 0, none⟩) S S := fun e he h2 => by
      rcases h.at_ e he with ⟨h3, _⟩ | ⟨g', h3, _, h5⟩
      · rw [h3] at h2; cases h2
      · rw [h3] at h2
        injection h2 with h2 _ _; injection h2 with h2; injection h2 with h2 _ _
        have := h5.lt; omega
    by_cases h2 : d = e
    · subst h2
      rw [if_pos rfl] at h1
      rw [if_neg hef]
      injection h1 with h1 _ _; injection h1 with h1; injection h1 with h1 _ _
      rw [← h1]; exact key f hf
    · rw [if_neg h2] at h1
      by_cases h3 : d = f
      · subst h3
        rw [if_pos rfl]
        intro h4
        rw [← h4] at h1
        exact key e he h1
      · rw [if_neg h3]; exact h.dj e f g he hf hef h1
/-- An origin is written. -/
theorem OG.write (h : OG w bo base S l F ogs) {d q g : Nat} (hd : d ≤ l) (x : Int × Int) (hg : ogs.getD d undef = .slice (some ⟨g, 0, none⟩) S S) :
    OG (((w.setCell ⟨g, q * 3, none⟩ (.bool true)).setCell ⟨g, q * 3 + 1, none⟩ (.int .i8 x.1)).setCell ⟨g, q * 3 + 2, none⟩ (.int .i16 x.2)) bo base S l (updF F d q x) ogs := by
  have hrow : Row w g 154 (orgL F S d) ∧ base ≤ g := by
    rcases h.at_ d hd with ⟨h1, _⟩ | ⟨g', h1, h2, h3⟩
    · rw [h1] at hg; cases hg
    · rw [h1] at hg
      injection hg with hg _ _; injection hg with hg; injection hg with hg _ _
      rw [← hg]; exact ⟨h3, h2⟩
  have hne : bo ≠ g := fun e => rows_neJ h.row hrow.1 (by decide) e
  have hoth : ∀ g' e cs, Row w g' e cs → g' ≠ g → Row (((w.setCell ⟨g, q * 3, none⟩ (.bool true)).setCell ⟨g, q * 3 + 1, none⟩ (.int .i8 x.1)).setCell ⟨g, q * 3 + 2, none⟩ (.int .i16 x.2)) g' e cs := fun g' e cs hr hne =>
    ((hr.setOther (p := ⟨g, q * 3, none⟩) hne _).setOther (p := ⟨g, q * 3 + 1, none⟩) hne _).setOther (p := ⟨g, q * 3 + 2, none⟩) hne _
  refine ⟨hoth _ _ _ h.row hne, h.len, fun e he => ?_, h.dj⟩
  by_cases hde : e = d
  · subst hde
    refine .inr ⟨g, hg, hrow.2, ?_⟩
    have := ((hrow.1.set (q * 3) (.bool true)).set (q * 3 + 1) (.int .i8 x.1)).set (q * 3 + 2) (.int .i16 x.2)
    rwa [org_set x] at this
  · rcases h.at_ e he with ⟨h1, h2⟩ | ⟨g', h1, h2, h3⟩
    · exact .inl ⟨h1, fun p => by unfold updF; rw [if_neg (fun h => hde h.1)]; exact h2 p⟩
    · refine .inr ⟨g', h1, h2, ?_⟩
      rw [org_upd_ne hde]
      refine hoth _ _ _ h3 fun e' => ?_
      subst e'
      exact h.dj e d g' he hd hde h1 hg
end
/-- Places as cells. -/
def encP (ps : List (Nat × Nat)) : List Value := ps.flatMap fun p => [.int .i64 (p.1 : Int), .int .i64 (p.2 : Int)]
theorem encP_len (ps : List (Nat × Nat)) : (encP ps).length = ps.length * 2 := by
  unfold encP
  induction ps with
  | nil => rfl
  | cons p ps ih => rw [List.flatMap_cons, List.length_append, ih, List.length_cons]; simp; omega
theorem encP_snoc (ps : List (Nat × Nat)) (p : Nat × Nat) : encP (ps ++ [p]) = encP ps ++ [.int .i64 (p.1 : Int), .int .i64 (p.2 : Int)] := by simp [encP]
/-- What lift keeps: H its first block. -/
structure LS (w0 wr : World) (gv vk : Value) (er : List Int) (S l : Nat) (F : FoM) (ogs : List Value) (vq : Value) (ps : List (Nat × Nat)) : Prop where
  bel : Below w0.heap.size w0 wr
  ob : Row wr w0.heap.size 88 (obL gv vk er)
  qb : Row wr (w0.heap.size + 1) 145 [vq]
  og : OG wr (w0.heap.size + 1 + 1) w0.heap.size S l F ogs
  ox : Row wr (w0.heap.size + 1 + 1 + 1) 146 [.slice (some ⟨w0.heap.size + 1 + 1, 0, none⟩) (l + 1) (l + 1)]
  qo : ownsTail wr w0.heap.size 148 2 vq ps.length (encP ps)
theorem tail_ne {w : World} {g b2 : Nat} {e1 e2 : TypeId} {cs : List Value} {s2 : Nat} {v2 : Value} {n2 : Nat} {x2 : List Value} (h1 : Row w g e1 cs) (h2 : ownsTail w b2 e2 s2 v2 n2 x2) (he : e1 ≠ e2) : v2.ownBlock ≠ some g := by
  rcases h2.2 with ⟨rfl, _⟩ | ⟨g', off, cap, cur, rfl, _, hg, _⟩
  · simp [Value.ownBlock]
  · simp only [Value.ownBlock, ne_eq, Option.some.injEq]
    rintro rfl
    have h := h1.symm.trans hg
    simp only [Option.some.injEq, Obj.cells.injEq] at h
    exact he h.2.1
section
variable {w0 wr w' : World} {gv vk : Value} {er : List Int} {S l : Nat} {F : FoM} {ogs : List Value} {vq : Value} {ps : List (Nat × Nat)}
theorem LS.call (h : LS w0 wr gv vk er S l F ogs vq ps) (hb : Below wr.heap.size wr w') : LS w0 w' gv vk er S l F ogs vq ps :=
  ⟨h.bel.trans (hb.mono h.bel.size), h.ob.below hb h.ob.lt, h.qb.below hb h.qb.lt, h.og.below hb, h.ox.below hb h.ox.lt, h.qo.below hb⟩
/-- A row of origins is made. -/
theorem LS.made (h : LS w0 wr gv vk er S l F ogs vq ps) {d : Nat} (hd : d ≤ l) (hn : ∀ q, F d q = none) :
    LS w0 ((wr.alloc (.cells (orgL (fun _ _ => none) S 0).toArray 154)).setCell ⟨w0.heap.size + 1 + 1, d, none⟩ (.slice (some ⟨wr.heap.size, 0, none⟩) S S)) gv vk er S l F (ogs.set d (.slice (some ⟨wr.heap.size, 0, none⟩) S S)) vq ps := by
  have hz := h.bel.size
  have ha : Below wr.heap.size wr (wr.alloc (.cells (orgL (fun _ _ => none) S 0).toArray 154)) := (Below.refl _ _).alloc (Nat.le_refl _) _
  refine ⟨(h.bel.alloc hz _).setCell (p := ⟨w0.heap.size + 1 + 1, d, none⟩) (by show w0.heap.size ≤ w0.heap.size + 1 + 1; omega) _, Row.setOther (p := ⟨w0.heap.size + 1 + 1, d, none⟩) (h.ob.alloc _) (by show w0.heap.size ≠ w0.heap.size + 1 + 1; omega) _, Row.setOther (p := ⟨w0.heap.size + 1 + 1, d, none⟩) (h.qb.alloc _) (by show w0.heap.size + 1 ≠ w0.heap.size + 1 + 1; omega) _, h.og.made hz hd hn, Row.setOther (p := ⟨w0.heap.size + 1 + 1, d, none⟩) (h.ox.alloc _) (by show w0.heap.size + 1 + 1 + 1 ≠ w0.heap.size + 1 + 1; omega) _, ?_⟩
  refine (h.qo.below ha).same fun g hg => Below.heap_setCell _ ⟨w0.heap.size + 1 + 1, d, none⟩ _ g fun e => ?_
  exact tail_ne h.og.row h.qo (by decide) (by rw [hg, e])
/-- An origin is written, the place is queued. -/
theorem LS.found (h : LS w0 wr gv vk er S l F ogs vq ps) {d q g : Nat} (hd : d ≤ l) (x : Int × Int) (hg : ogs.getD d undef = .slice (some ⟨g, 0, none⟩) S S) {w4 : World} {o : Obj} {vq' : Value}
    (ho : ownsTail w4 w0.heap.size 148 2 vq' (ps.length + 1) (encP ps ++ [.int .i64 (d : Int), .int .i64 (q : Int)]))
    (hgr : ((((wr.setCell ⟨g, q * 3, none⟩ (.bool true)).setCell ⟨g, q * 3 + 1, none⟩ (.int .i8 x.1)).setCell ⟨g, q * 3 + 2, none⟩ (.int .i16 x.2)).alloc o).grownBy w4 vq.ownBlock) :
    LS w0 (w4.setCell ⟨w0.heap.size + 1, 0, none⟩ vq') gv vk er S l (updF F d q x) ogs vq' (ps ++ [(d, q)]) := by
  have hz := h.bel.size
  have hrow : Row wr g 154 (orgL F S d) ∧ w0.heap.size ≤ g := by
    rcases h.og.at_ d hd with ⟨h1, _⟩ | ⟨g', h1, h2, h3⟩
    · rw [h1] at hg; cases hg
    · rw [h1] at hg
      injection hg with hg _ _; injection hg with hg; injection hg with hg _ _
      rw [← hg]; exact ⟨h3, h2⟩
  obtain ⟨w3, hw3⟩ : ∃ w3, w3 = ((wr.setCell ⟨g, q * 3, none⟩ (.bool true)).setCell ⟨g, q * 3 + 1, none⟩ (.int .i8 x.1)).setCell ⟨g, q * 3 + 2, none⟩ (.int .i16 x.2) := ⟨_, rfl⟩
  have hoth : ∀ g' e cs, Row wr g' e cs → g' ≠ g → Row w3 g' e cs := fun g' e cs hr hne => by
    rw [hw3]; exact ((hr.setOther (p := ⟨g, q * 3, none⟩) hne _).setOther (p := ⟨g, q * 3 + 1, none⟩) hne _).setOther (p := ⟨g, q * 3 + 2, none⟩) hne _
  have hog := h.og.write (q := q) hd x hg
  rw [← hw3] at hog hgr
  have hb3 : Below w0.heap.size w0 w3 := by
    rw [hw3]; exact ((h.bel.setCell (p := ⟨g, q * 3, none⟩) hrow.2 _).setCell (p := ⟨g, q * 3 + 1, none⟩) hrow.2 _).setCell (p := ⟨g, q * 3 + 2, none⟩) hrow.2 _
  have hs3 : w3.heap.size = wr.heap.size := by rw [hw3]; simp [World.setCell]
  have hqlt : ∀ k, vq.ownBlock = some k → w0.heap.size ≤ k := fun k hk => (h.qo.lt k hk).1
  have step : ∀ g' e cs, Row w3 g' e cs → vq.ownBlock ≠ some g' → Row w4 g' e cs := fun g' e cs hr hne => (hr.alloc o).grown hgr hne
  have n0 := tail_ne h.ob h.qo (by decide)
  have n1 := tail_ne h.qb h.qo (by decide)
  have n3 := tail_ne h.ox h.qo (by decide)
  have hq4 : Row w4 (w0.heap.size + 1) 145 [vq] := step _ _ _ (hoth _ _ _ h.qb (rows_neJ h.qb hrow.1 (by decide))) n1
  have hog4 : OG w4 (w0.heap.size + 1 + 1) w0.heap.size S l (updF F d q x) ogs := hog.same fun g' e cs hr he => by
    refine step _ _ _ hr ?_
    intro hv
    have h1 := h.qo.2
    rcases h1 with ⟨h1, _⟩ | ⟨gq, off, cap, cur, h1, _, h2, _⟩
    · rw [h1] at hv; simp [Value.ownBlock] at hv
    · rw [h1] at hv
      simp only [Value.ownBlock, Option.some.injEq] at hv
      subst hv
      have hgg : gq ≠ g := by
        rintro rfl
        have h3 := h2.symm.trans hrow.1
        simp only [Option.some.injEq, Obj.cells.injEq] at h3
        exact absurd h3.2.1 (by decide)
      have h4 : w3.heap[gq]? = wr.heap[gq]? := by
        rw [hw3, Below.heap_setCell _ _ _ _ hgg, Below.heap_setCell _ _ _ _ hgg, Below.heap_setCell _ _ _ _ hgg]
      have h5 := (hr.symm.trans h4).trans h2
      simp only [Option.some.injEq, Obj.cells.injEq] at h5
      rcases he with rfl | rfl
      · exact absurd h5.2.1 (by decide)
      · exact absurd h5.2.1 (by decide)
  refine ⟨?_, ?_, hq4.set 0 vq', ?_, ?_, ?_⟩
  · exact ((hb3.alloc (by rw [hs3]; exact hz) o).grown hgr (by simp; omega) hqlt).setCell (p := ⟨w0.heap.size + 1, 0, none⟩) (by show w0.heap.size ≤ w0.heap.size + 1; omega) _
  · exact Row.setOther (p := ⟨w0.heap.size + 1, 0, none⟩) (step _ _ _ (hoth _ _ _ h.ob (rows_neJ h.ob hrow.1 (by decide))) n0) (by show w0.heap.size ≠ w0.heap.size + 1; omega) _
  · exact hog4.same fun g' e cs hr he => Row.setOther (p := ⟨w0.heap.size + 1, 0, none⟩) hr (rows_neJ hr hq4 (by rcases he with rfl | rfl <;> decide)) _
  · exact Row.setOther (p := ⟨w0.heap.size + 1, 0, none⟩) (step _ _ _ (hoth _ _ _ h.ox (rows_neJ h.ox hrow.1 (by decide))) n3) (by show w0.heap.size + 1 + 1 + 1 ≠ w0.heap.size + 1; omega) _
  · rw [List.length_append, encP_snoc]
    exact ho.same fun k hk => Below.heap_setCell _ ⟨w0.heap.size + 1, 0, none⟩ _ k fun e => tail_ne hq4 ho (by decide) (by rw [hk, e])
end
end Go.Proofs.YtaadhpkpekmfoaaGreat

/- Layer 7: the closure of lift, which finds a place once. -/
namespace Go.Proofs.YtaadhpkpekmfoaaGreat
open Go.RowKit Go.Sort

theorem origNil (n c : Nat) (W : World) : (binOp .eql 149 (.slice none n c) (.slice none 0 0)).run Tryz.prog W = .ok (.bool true) W := by kernel_rfl
theorem origSome (ad : Addr) (n c : Nat) (W : World) : (binOp .eql 149 (.slice (some ad) n c) (.slice none 0 0)).run Tryz.prog W = .ok (.bool false) W := by kernel_rfl
/-- What find does. -/
def fndF (F : FoM) (d q : Nat) (x : Int × Int) : FoM := if F d q = none then updF F d q x else F
def fndP (F : FoM) (d q : Nat) (ps : List (Nat × Nat)) : List (Nat × Nat) := if F d q = none then ps ++ [(d, q)] else ps
/-- Boxes of other kinds lie as they lay. -/
def KpL (w w' : World) (vq vq' : Value) : Prop := w.heap.size ≤ w'.heap.size ∧ ∀ g e cs, Row w g e cs → e ≠ 145 → e ≠ 149 → e ≠ 154 → vq.ownBlock ≠ some g → Row w' g e cs ∧ vq'.ownBlock ≠ some g
set_option maxHeartbeats 8000000 in
set_option maxRecDepth 100000 in
theorem jFindP_any (w0 w : World) (bg S l d q : Nat) (vk : Value) (er : List Int) (F : FoM) (ogs : List Value) (vq : Value) (ps : List (Nat × Nat)) (ev fr : Nat) (h : LS w0 w (.slice (some ⟨bg, 0, none⟩) S S) vk er S l F ogs vq ps) (hd : d ≤ l) (hq : q < S) (hS : S ≤ 4096) (hl : l ≤ 1000000) (hev : ev < 32) (hfr : fr < 4096) (hps : ps.length ≤ 10000000000) :
    Calls Tryz.prog 107 #[.agg #[.int .i64 (d : Int), .int .i64 (q : Int)], .int .i64 (ev : Int), .int .i64 (fr : Int), .pointer (some ⟨w0.heap.size + 1 + 1 + 1, 0, none⟩), .pointer (some ⟨w0.heap.size, 0, none⟩), .pointer (some ⟨w0.heap.size + 1, 0, none⟩)] w fun e w' =>
      e = .returned (.tuple #[]) ∧ ∃ ogs' vq', LS w0 w' (.slice (some ⟨bg, 0, none⟩) S S) vk er S l (fndF F d q ((ev : Int), (fr : Int))) ogs' vq' (fndP F d q ps) ∧ KpL w w' vq vq' := by
  have hb1 : Below w.heap.size w (w.alloc (.cells #[.int .i64 (d : Int), .int .i64 (q : Int)] 148)) := (Below.refl _ _).alloc (Nat.le_refl _) _
  have hbx := Row.new w [.int .i64 (d : Int), .int .i64 (q : Int)] 148
  obtain ⟨W1, hW1⟩ : ∃ W, W = w.alloc (.cells #[.int .i64 (d : Int), .int .i64 (q : Int)] 148) := ⟨_, rfl⟩
  obtain ⟨P, hP⟩ : ∃ P, P = w.heap.size := ⟨_, rfl⟩
  rw [← hW1] at hb1
  have HL1 := Lib.hid (h.call hb1)
  have HX1 := Lib.hid (show Row W1 P 148 [.int .i64 (d : Int), .int .i64 (q : Int)] from by rw [hW1, hP]; exact hbx)
  have hz1 : P < W1.heap.size := HX1.out.lt
  have hqP : vq.ownBlock ≠ some P := fun e => by have := (h.qo.lt P e).2; omega
  have HZ := Lib.hid h.bel.size
  have HMK := make_origins S (by omega)
  obtain ⟨od, hod⟩ : ∃ o, o = ogs.getD d undef := ⟨_, rfl⟩
  have hdl : d < ogs.length := by rw [h.og.len]; omega
  have hodc : ogs[d]? = some od := by rw [hod, List.getD, List.getElem?_eq_getElem hdl]; rfl
  have hat := h.og.at_ d hd
  rw [← hod] at hat
  have hoN := origNil
  have hoS := origSome
  have HKW := Lib.hid (show ∀ g e cs, Row w g e cs → Row W1 g e cs from fun g e cs hr => hr.below hb1 hr.lt)
  have HSZ := Lib.hid hb1.size
  have z0 : (0 : Int) ≤ (d : Int) := by omega
  have z1 : (d : Int) < (l : Int) + 1 := by omega
  have z2 : (0 : Int) ≤ (q : Int) := by omega
  have z3 : (q : Int) < (S : Int) := by omega
  have z4 : (0 : Int) ≤ (fr : Int) := by omega
  have z5 : (0 : Int) ≤ (ev : Int) := by omega
  have z6 : (fr : Int) < 4096 := by omega
  have z7 : (ev : Int) < 32 := by omega
  have HW1 := Lib.hid hW1
  have HP := Lib.hid hP
  have hx0 := HL1.out.ox.cell 0 rfl
  have hcd := HL1.out.og.row.cell d hodc
  have hp0 := HX1.out.cell 0 rfl
  have hp1 := HX1.out.cell 1 rfl
  have ho0 := HL1.out.ob.cell 0 (show (obL (.slice (some ⟨bg, 0, none⟩) S S) vk er)[0]? = some (.slice (some ⟨bg, 0, none⟩) S S) from rfl)
  have hqb := HL1.out.qb.cell 0 rfl
  have HOD := Lib.hid hod
  clear h hb1 hbx hW1 hP hod hodc hdl
  rcases hat with ⟨rfl, hnone⟩ | ⟨g, rfl, _, hgr⟩
  · have hF : fndF F d q ((ev : Int), (fr : Int)) = updF F d q ((ev : Int), (fr : Int)) := by unfold fndF; rw [if_pos (hnone q)]
    have hP : fndP F d q ps = ps ++ [(d, q)] := by unfold fndP; rw [if_pos (hnone q)]
    rw [hF, hP]
    have HNO := Lib.hid hnone
    obtain ⟨Aq, cq, hvq, hqn, hqc⟩ := HL1.out.qo.shape
    subst hvq
    have hfd := HL1.out.og.row.frozen d
    have hbz1 := HL1.out.bel.size
    have hl0 := HL1.out.ob.lt
    have hl3 := HL1.out.ox.lt
    have hPne : P ≠ w0.heap.size + 1 + 1 := fun e => rows_neJ HX1.out HL1.out.og.row (by decide) e
    have hl2 := HL1.out.og.row.lt
    clear hF hP hnone
    have a0 := fun cs : Array Value => fun ty => (World.cell?_alloc_lt W1 (.cells cs ty) ⟨w0.heap.size + 1 + 1 + 1, 0, none⟩ hl3).trans hx0
    have a1 := fun cs : Array Value => fun ty => (World.cell?_alloc_lt W1 (.cells cs ty) ⟨P, 0, none⟩ hz1).trans hp0
    have a2 := fun cs : Array Value => fun ty => (World.cell?_alloc_lt W1 (.cells cs ty) ⟨w0.heap.size, 0, none⟩ hl0).trans ho0
    have a3 := fun cs : Array Value => fun ty => (World.cell?_alloc_lt W1 (.cells cs ty) ⟨w0.heap.size + 1 + 1, d, none⟩ hl2).trans hcd
    have a4 := fun cs : Array Value => fun ty => (frozen?_alloc_cells W1 cs ty ⟨w0.heap.size + 1 + 1, d, none⟩).trans hfd
    have hsc : ∀ (W : World) (p : Addr) (v : Value), (W.setCell p v).heap.size = W.heap.size := fun W p v => by simp [World.setCell]
    have b0 := fun v : Value => fun cs : Array Value => fun ty => (World.cell?_alloc_lt (W1.setCell ⟨w0.heap.size + 1 + 1, d, none⟩ v) (.cells cs ty) ⟨w0.heap.size + 1 + 1 + 1, 0, none⟩ (by rw [hsc]; exact hl3)).trans ((cell_setT (by omega)).trans hx0)
    have b1 := fun v : Value => fun cs : Array Value => fun ty => (World.cell?_alloc_lt (W1.setCell ⟨w0.heap.size + 1 + 1, d, none⟩ v) (.cells cs ty) ⟨P, 0, none⟩ (by rw [hsc]; exact hz1)).trans ((cell_setT hPne).trans hp0)
    have b2 := fun v : Value => fun cs : Array Value => fun ty => (World.cell?_alloc_lt (W1.setCell ⟨w0.heap.size + 1 + 1, d, none⟩ v) (.cells cs ty) ⟨w0.heap.size, 0, none⟩ (by rw [hsc]; exact hl0)).trans ((cell_setT (by omega)).trans ho0)
    go_enter Tryz.func107, Tryz.ntmps107
    go_upto_region 1 with fail
    rw [← HW1.out, ← HP.out]
    go_wp2_with fail
    go_region_held3 (fun w' => w'.cell? ⟨w0.heap.size + 1 + 1 + 1, 0, none⟩ = some (.slice (some ⟨w0.heap.size + 1 + 1, 0, none⟩) (l + 1) (l + 1)) ∧ w'.cell? ⟨P, 0, none⟩ = some (.int .i64 (d : Int)) ∧ w'.cell? ⟨w0.heap.size, 0, none⟩ = some (.slice (some ⟨bg, 0, none⟩) S S)) (first | exact ⟨hx0, hp0, ho0⟩ | exact ⟨a0 _ _, a1 _ _, a2 _ _⟩ | exact ⟨b0 _ _ _, b1 _ _ _, b2 _ _ _⟩) (fail)
    obtain ⟨g, hg⟩ : ∃ g, g = W1.heap.size := ⟨_, rfl⟩
    obtain ⟨ogs2, hogs2⟩ : ∃ o, o = ogs.set d (.slice (some ⟨g, 0, none⟩) S S) := ⟨_, rfl⟩
    have hlm := HL1.out.made hd HNO.out
    rw [World.setCell_alloc_past (hn := hl2), ← hg, ← hogs2] at hlm
    rw [← hg]
    have hrm : Row ((W1.setCell ⟨w0.heap.size + 1 + 1, d, none⟩ (.slice (some ⟨g, 0, none⟩) S S)).alloc (.cells (orgL (fun _ _ => none) S 0).toArray 154)) g 154 (orgL F S d) := by
      rw [org_none HNO.out, ← World.setCell_alloc_past (hn := hl2)]
      refine Row.setOther (p := ⟨w0.heap.size + 1 + 1, d, none⟩) ?_ (by show g ≠ w0.heap.size + 1 + 1; omega) _
      rw [hg]; exact Row.new W1 _ _
    have hxm : Row ((W1.setCell ⟨w0.heap.size + 1 + 1, d, none⟩ (.slice (some ⟨g, 0, none⟩) S S)).alloc (.cells (orgL (fun _ _ => none) S 0).toArray 154)) P 148 [.int .i64 (d : Int), .int .i64 (q : Int)] := (Row.setOther (p := ⟨w0.heap.size + 1 + 1, d, none⟩) HX1.out hPne _).alloc _
    have hkm : ∀ g' e cs, Row w g' e cs → e ≠ 149 → Row ((W1.setCell ⟨w0.heap.size + 1 + 1, d, none⟩ (.slice (some ⟨g, 0, none⟩) S S)).alloc (.cells (orgL (fun _ _ => none) S 0).toArray 154)) g' e cs := fun g' e cs hr he =>
      (Row.setOther (p := ⟨w0.heap.size + 1 + 1, d, none⟩) (HKW.out g' e cs hr) (rows_neJ (HKW.out g' e cs hr) HL1.out.og.row he) _).alloc _
    obtain ⟨Wn, hWn⟩ : ∃ W, W = ((W1.setCell ⟨w0.heap.size + 1 + 1, d, none⟩ (.slice (some ⟨g, 0, none⟩) S S)).alloc (.cells (orgL (fun _ _ => none) S 0).toArray 154)).drew := ⟨_, rfl⟩
    have HLn := Lib.hid (show LS w0 Wn (.slice (some ⟨bg, 0, none⟩) S S) vk er S l F ogs2 (.slice Aq ps.length cq) ps from by rw [hWn]; exact hlm.call (Below.drew (Below.refl _ _)))
    have HXn := Lib.hid (show Row Wn P 148 [.int .i64 (d : Int), .int .i64 (q : Int)] from by rw [hWn]; exact hxm)
    have HGn := Lib.hid (show Row Wn g 154 (orgL F S d) from by rw [hWn]; exact hrm)
    have HKn := Lib.hid (show ∀ g' e cs, Row w g' e cs → e ≠ 149 → Row Wn g' e cs from fun g' e cs hr he => by rw [hWn]; exact hkm g' e cs hr he)
    have HSn := Lib.hid (show w.heap.size ≤ Wn.heap.size from by rw [hWn]; have := HSZ.out; simp; omega)
    have HODn := Lib.hid (show (.slice (some ⟨g, 0, none⟩) S S : Value) = ogs2.getD d undef from by rw [hogs2, getD_set (by rw [HL1.out.og.len]; omega), if_pos rfl])
    rw [← hWn]
    clear hlm hrm hxm hkm hWn a0 a1 a2 a3 a4 b0 b1 b2 hx0 hcd hp0 hp1 ho0 hqb hfd HMK HOD HL1 HX1 HKW HSZ HW1 hg hsc
    have y0 := HLn.out.ox.cell 0 rfl
    have y1 := HXn.out.cell 0 rfl
    have y2 := HXn.out.cell 1 rfl
    have y3 := HLn.out.og.row.cell d (v := .slice (some ⟨g, 0, none⟩) S S) (by rw [hogs2, List.getElem?_set_self (by rw [← List.length_set, ← hogs2, HLn.out.og.len]; omega)])
    have y4 := HLn.out.ob.cell 0 (show (obL (.slice (some ⟨bg, 0, none⟩) S S) vk er)[0]? = some (.slice (some ⟨bg, 0, none⟩) S S) from rfl)
    have y5 := HLn.out.qb.cell 0 rfl
    have HO2 := Lib.hid hogs2
    clear hogs2
    have hcf : Wn.cell? ⟨g, q * 3, none⟩ = some (.bool false) := by have := HGn.out.cell (q * 3 + 0) (org_at hq (by omega)); rw [HNO.out q] at this; exact this
    have hcf1 : Wn.cell? ⟨g, q * 3 + 1, none⟩ = some (.int .i8 0) := by have := HGn.out.cell (q * 3 + 1) (org_at hq (by omega)); rw [HNO.out q] at this; exact this
    have hcf2 : Wn.cell? ⟨g, q * 3 + 2, none⟩ = some (.int .i16 0) := by have := HGn.out.cell (q * 3 + 2) (org_at hq (by omega)); rw [HNO.out q] at this; exact this
    have ff0 := HGn.out.frozen (q * 3)
    have ff1 := HGn.out.frozen (q * 3 + 1)
    have ff2 := HGn.out.frozen (q * 3 + 2)
    go_wp2_with fail
    go_quiet (fail)
    have HL2 := Lib.hid (HLn.out.call (below_drewN (Below.refl _ _) nq))
    have HX2 := Lib.hid (show Row (Wn.drewN nq) P 148 [.int .i64 (d : Int), .int .i64 (q : Int)] from HXn.out)
    have HK2 := Lib.hid (show ∀ g e cs, Row w g e cs → e ≠ 149 → Row (Wn.drewN nq) g e cs from fun g e cs hr he => HKn.out g e cs hr he)
    have HG2 := Lib.hid (show Row (Wn.drewN nq) g 154 (orgL F S d) from HGn.out)
    have HS2 := Lib.hid (show w.heap.size ≤ (Wn.drewN nq).heap.size from HSn.out)
    have k0 : (Wn.drewN nq).cell? ⟨g, q * 3, none⟩ = some (.bool false) := hcf
    have k1 : (Wn.drewN nq).cell? ⟨g, q * 3 + 1, none⟩ = some (.int .i8 0) := hcf1
    have k2 : (Wn.drewN nq).cell? ⟨g, q * 3 + 2, none⟩ = some (.int .i16 0) := hcf2
    have m0 : (Wn.drewN nq).frozen? ⟨g, q * 3, none⟩ = false := ff0
    have m1 : (Wn.drewN nq).frozen? ⟨g, q * 3 + 1, none⟩ = false := ff1
    have m2 : (Wn.drewN nq).frozen? ⟨g, q * 3 + 2, none⟩ = false := ff2
    clear hcf hcf1 hcf2 ff0 ff1 ff2 y0 y1 y2 y3 y4 y5 HLn HXn HKn HGn HSn
    generalize Wn.drewN nq = W2 at *
    obtain ⟨W3, hW3⟩ : ∃ W, W = ((W2.setCell ⟨g, q * 3, none⟩ (.bool true)).setCell ⟨g, q * 3 + 1, none⟩ (.int .i8 (ev : Int))).setCell ⟨g, q * 3 + 2, none⟩ (.int .i16 (fr : Int)) := ⟨_, rfl⟩
    have hoth : ∀ g' e cs, Row W2 g' e cs → g' ≠ g → Row W3 g' e cs := fun g' e cs hr hne => by
      rw [hW3]; exact ((hr.setOther (p := ⟨g, q * 3, none⟩) hne _).setOther (p := ⟨g, q * 3 + 1, none⟩) hne _).setOther (p := ⟨g, q * 3 + 2, none⟩) hne _
    have hqb3 := hoth _ _ _ HL2.out.qb (rows_neJ HL2.out.qb HG2.out (by decide))
    have hx3 := hoth _ _ _ HX2.out (rows_neJ HX2.out HG2.out (by decide))
    have hqo3 : ownsTail W3 w0.heap.size 148 2 (.slice Aq ps.length cq) ps.length (encP ps) := HL2.out.qo.same fun k hk => by
      have hkg : k ≠ g := fun e => tail_ne HG2.out HL2.out.qo (by decide) (by rw [hk, e])
      rw [hW3, Below.heap_setCell _ _ _ _ hkg, Below.heap_setCell _ _ _ _ hkg, Below.heap_setCell _ _ _ _ hkg]
    have hs3 : W3.heap.size = W2.heap.size := by rw [hW3]; simp [World.setCell]
    have HQ3 := Lib.hid hqo3
    have HQB3 := Lib.hid hqb3
    have c3 := hqb3.cell 0 rfl
    have e3 := hx3.cell 0 rfl
    have g3 := hx3.cell 1 rfl
    have HOTH := Lib.hid hoth
    have hbz := HL2.out.bel.size
    rw [hW3] at c3 e3 g3
    have HW3 := Lib.hid hW3
    obtain ⟨iP, iP0, iP1, iP2, iP3⟩ := info_parts info_placeJ
    clear hoth hqb3 hx3 hqo3 hW3
    go_wp2_with (at_builtin; refine wpList_append_tail _ rfl (.tmp 44) (.tmp 46) 145 rfl w0.heap.size 148 iP _ 2 16 Tryz.underlying145 iP0 iP1 iP2 iP3 rfl (by omega) _ ps.length (encP ps) rfl (by rw [← HW3.out]; exact HQ3.out.below ((Below.refl _ W3).alloc (Nat.le_refl _) (.cells #[.int .i64 (d : Int), .int .i64 (q : Int)] 148))) ⟨W2.heap.size, 0, none⟩ 1 1 [.int .i64 (d : Int), .int .i64 (q : Int)] (by rw [← hs3]; rfl) rfl (by rw [← HW3.out, ← hs3]; exact World.news_of_block (cs := #[.int .i64 (d : Int), .int .i64 (q : Int)]) (t := 148) (fr := (0, 0)) (heap_alloc_new W3 _)) (by simp [Value.oneCell']) (by unfold maxLen; omega) (by omega) (by rw [← HW3.out]; simp; omega) ?_; intro v4 w4 ho4 hg4 hat4
                 have hg4' : (W3.alloc (.cells #[.int .i64 (d : Int), .int .i64 (q : Int)] 148)).grownBy w4 (Value.slice Aq ps.length cq).ownBlock := by rw [HW3.out]; exact hg4
                 obtain ⟨A4, c4, hv4, _, _⟩ := ho4.shape; subst hv4
                 have hq4 := (HQB3.out.alloc (.cells #[.int .i64 (d : Int), .int .i64 (q : Int)] 148)).grown hg4' (tail_ne HQB3.out HQ3.out (by decide))
                 have c4q := hq4.cell 0 rfl
                 have f4q := hq4.frozen 0
                 have HO4 := Lib.hid ho4; have HG4 := Lib.hid hg4'; have HAT4 := Lib.hid (show (Value.slice A4 (ps.length + 1) c4).ownBlock = (Value.slice Aq ps.length cq).ownBlock ∨ (Value.slice A4 (ps.length + 1) c4).ownBlock = some (W3.alloc (.cells #[.int .i64 (d : Int), .int .i64 (q : Int)] 148)).heap.size from by rw [HW3.out]; exact hat4)
                 clear ho4 hg4 hg4' hq4 hat4)
    go_end0
    have hLF := HL2.out.found (q := q) hd ((ev : Int), (fr : Int)) HODn.out.symm (o := .cells #[.int .i64 (d : Int), .int .i64 (q : Int)] 148) HO4.out (by have := HG4.out; rw [HW3.out] at this; exact this)
    refine ⟨rfl, ogs2, _, hLF, ?_⟩
    have hsz4 : W2.heap.size ≤ w4.heap.size := by have := HG4.out.size; rw [World.size_alloc, hs3] at this; omega
    refine ⟨by have := HS2.out; simp [World.setCell]; omega, fun g' e cs hr h1 h2 h3 h4 => ?_⟩
    have r2 := HK2.out g' e cs hr h2
    have r3 := HOTH.out g' e cs r2 (rows_neJ r2 HG2.out h3)
    have r4 : Row w4 g' e cs := (r3.alloc _).grown HG4.out h4
    refine ⟨Row.setOther (p := ⟨w0.heap.size + 1, 0, none⟩) r4 (rows_neJ r2 HL2.out.qb h1) _, fun e' => ?_⟩
    rcases HAT4.out with h5 | h5
    · rw [h5] at e'; exact h4 e'
    · rw [h5] at e'
      have := r2.lt
      have h6 : (W3.alloc (.cells #[.int .i64 (d : Int), .int .i64 (q : Int)] 148)).heap.size = W2.heap.size + 1 := by rw [World.size_alloc, hs3]
      injection e' with e'
      omega
  · obtain ⟨o, ho⟩ : ∃ o, o = F d q := ⟨_, rfl⟩
    have hcf : W1.cell? ⟨g, q * 3, none⟩ = some (.bool o.isSome) := by
      have := HKW.out _ _ _ hgr |>.cell (q * 3 + 0) (org_at hq (by omega))
      rw [← ho] at this; exact this
    cases o with
    | some y =>
      have hF : fndF F d q ((ev : Int), (fr : Int)) = F := by unfold fndF; rw [if_neg (by rw [← ho]; simp)]
      have hP : fndP F d q ps = ps := by unfold fndP; rw [if_neg (by rw [← ho]; simp)]
      rw [hF, hP]
      clear hF hP ho hgr HMK
      rw [show (Option.isSome (some y)) = true from rfl] at hcf
      go_enter Tryz.func107, Tryz.ntmps107
      go_upto_region 1 with fail
      rw [← HW1.out, ← HP.out]
      go_wp2_with fail
      go_quiet (fail)
      go_wp2_with fail
      go_end0
      refine ⟨rfl, ogs, vq, HL1.out.call (below_drewN (Below.refl _ _) _), ?_⟩
      exact ⟨HSZ.out, fun g e cs hr _ _ _ h4 => ⟨HKW.out g e cs hr, h4⟩⟩
    | none =>
      have hF : fndF F d q ((ev : Int), (fr : Int)) = updF F d q ((ev : Int), (fr : Int)) := by unfold fndF; rw [if_pos ho.symm]
      have hP : fndP F d q ps = ps ++ [(d, q)] := by unfold fndP; rw [if_pos ho.symm]
      rw [hF, hP]
      have hgr1 := HKW.out _ _ _ hgr
      have hcf1 : W1.cell? ⟨g, q * 3 + 1, none⟩ = some (orgC none 1) := by have := hgr1.cell (q * 3 + 1) (org_at hq (by omega)); rw [← ho] at this; exact this
      have hcf2 : W1.cell? ⟨g, q * 3 + 2, none⟩ = some (orgC none 2) := by have := hgr1.cell (q * 3 + 2) (org_at hq (by omega)); rw [← ho] at this; exact this
      rw [show orgC none 1 = .int .i8 0 from rfl] at hcf1
      rw [show orgC none 2 = .int .i16 0 from rfl] at hcf2
      have ff0 := hgr1.frozen (q * 3)
      have ff1 := hgr1.frozen (q * 3 + 1)
      have ff2 := hgr1.frozen (q * 3 + 2)
      have HGR := Lib.hid hgr1
      clear hF hP ho HMK hgr hgr1
      rw [show (Option.isSome (none : Option (Int × Int))) = false from rfl] at hcf
      obtain ⟨Aq, cq, hvq, hqn, hqc⟩ := HL1.out.qo.shape
      subst hvq
      go_enter Tryz.func107, Tryz.ntmps107
      go_upto_region 1 with fail
      rw [← HW1.out, ← HP.out]
      go_wp2_with fail
      go_quiet (fail)
      have HL2 := Lib.hid (HL1.out.call (below_drewN (Below.refl _ _) nq))
      have HX2 := Lib.hid (show Row (W1.drewN nq) P 148 [.int .i64 (d : Int), .int .i64 (q : Int)] from HX1.out)
      have HK2 := Lib.hid (show ∀ g e cs, Row w g e cs → Row (W1.drewN nq) g e cs from fun g e cs hr => HKW.out g e cs hr)
      have HG2 := Lib.hid (show Row (W1.drewN nq) g 154 (orgL F S d) from HGR.out)
      have HS2 := Lib.hid (show w.heap.size ≤ (W1.drewN nq).heap.size from HSZ.out)
      have k0 : (W1.drewN nq).cell? ⟨g, q * 3, none⟩ = some (.bool false) := hcf
      have k1 : (W1.drewN nq).cell? ⟨g, q * 3 + 1, none⟩ = some (.int .i8 0) := hcf1
      have k2 : (W1.drewN nq).cell? ⟨g, q * 3 + 2, none⟩ = some (.int .i16 0) := hcf2
      have m0 : (W1.drewN nq).frozen? ⟨g, q * 3, none⟩ = false := ff0
      have m1 : (W1.drewN nq).frozen? ⟨g, q * 3 + 1, none⟩ = false := ff1
      have m2 : (W1.drewN nq).frozen? ⟨g, q * 3 + 2, none⟩ = false := ff2
      clear hcf hcf1 hcf2 ff0 ff1 ff2 hx0 hcd hp0 hp1 ho0 hqb HL1 HX1 HKW HGR HSZ HW1
      generalize W1.drewN nq = W2 at *
      obtain ⟨W3, hW3⟩ : ∃ W, W = ((W2.setCell ⟨g, q * 3, none⟩ (.bool true)).setCell ⟨g, q * 3 + 1, none⟩ (.int .i8 (ev : Int))).setCell ⟨g, q * 3 + 2, none⟩ (.int .i16 (fr : Int)) := ⟨_, rfl⟩
      have hoth : ∀ g' e cs, Row W2 g' e cs → g' ≠ g → Row W3 g' e cs := fun g' e cs hr hne => by
        rw [hW3]; exact ((hr.setOther (p := ⟨g, q * 3, none⟩) hne _).setOther (p := ⟨g, q * 3 + 1, none⟩) hne _).setOther (p := ⟨g, q * 3 + 2, none⟩) hne _
      have hqb3 := hoth _ _ _ HL2.out.qb (rows_neJ HL2.out.qb HG2.out (by decide))
      have hx3 := hoth _ _ _ HX2.out (rows_neJ HX2.out HG2.out (by decide))
      have hqo3 : ownsTail W3 w0.heap.size 148 2 (.slice Aq ps.length cq) ps.length (encP ps) := HL2.out.qo.same fun k hk => by
        have hkg : k ≠ g := fun e => tail_ne HG2.out HL2.out.qo (by decide) (by rw [hk, e])
        rw [hW3, Below.heap_setCell _ _ _ _ hkg, Below.heap_setCell _ _ _ _ hkg, Below.heap_setCell _ _ _ _ hkg]
      have hs3 : W3.heap.size = W2.heap.size := by rw [hW3]; simp [World.setCell]
      have HQ3 := Lib.hid hqo3
      have HQB3 := Lib.hid hqb3
      have c3 := hqb3.cell 0 rfl
      have e3 := hx3.cell 0 rfl
      have g3 := hx3.cell 1 rfl
      have HOTH := Lib.hid hoth
      have hbz := HL2.out.bel.size
      rw [hW3] at c3 e3 g3
      have HW3 := Lib.hid hW3
      obtain ⟨iP, iP0, iP1, iP2, iP3⟩ := info_parts info_placeJ
      clear hoth hqb3 hx3 hqo3 hW3
      go_wp2_with (at_builtin; refine wpList_append_tail _ rfl (.tmp 44) (.tmp 46) 145 rfl w0.heap.size 148 iP _ 2 16 Tryz.underlying145 iP0 iP1 iP2 iP3 rfl (by omega) _ ps.length (encP ps) rfl (by rw [← HW3.out]; exact HQ3.out.below ((Below.refl _ W3).alloc (Nat.le_refl _) (.cells #[.int .i64 (d : Int), .int .i64 (q : Int)] 148))) ⟨W2.heap.size, 0, none⟩ 1 1 [.int .i64 (d : Int), .int .i64 (q : Int)] (by rw [← hs3]; rfl) rfl (by rw [← HW3.out, ← hs3]; exact World.news_of_block (cs := #[.int .i64 (d : Int), .int .i64 (q : Int)]) (t := 148) (fr := (0, 0)) (heap_alloc_new W3 _)) (by simp [Value.oneCell']) (by unfold maxLen; omega) (by omega) (by rw [← HW3.out]; simp; omega) ?_; intro v4 w4 ho4 hg4 hat4
                   have hg4' : (W3.alloc (.cells #[.int .i64 (d : Int), .int .i64 (q : Int)] 148)).grownBy w4 (Value.slice Aq ps.length cq).ownBlock := by rw [HW3.out]; exact hg4
                   obtain ⟨A4, c4, hv4, _, _⟩ := ho4.shape; subst hv4
                   have hq4 := (HQB3.out.alloc (.cells #[.int .i64 (d : Int), .int .i64 (q : Int)] 148)).grown hg4' (tail_ne HQB3.out HQ3.out (by decide))
                   have c4q := hq4.cell 0 rfl
                   have f4q := hq4.frozen 0
                   have HO4 := Lib.hid ho4; have HG4 := Lib.hid hg4'; have HAT4 := Lib.hid (show (Value.slice A4 (ps.length + 1) c4).ownBlock = (Value.slice Aq ps.length cq).ownBlock ∨ (Value.slice A4 (ps.length + 1) c4).ownBlock = some (W3.alloc (.cells #[.int .i64 (d : Int), .int .i64 (q : Int)] 148)).heap.size from by rw [HW3.out]; exact hat4)
                   clear ho4 hg4 hg4' hq4 hat4)
      go_end0
      have hLF := HL2.out.found (q := q) hd ((ev : Int), (fr : Int)) HOD.out.symm (o := .cells #[.int .i64 (d : Int), .int .i64 (q : Int)] 148) HO4.out (by have := HG4.out; rw [HW3.out] at this; exact this)
      refine ⟨rfl, ogs, _, hLF, ?_⟩
      have hsz4 : W2.heap.size ≤ w4.heap.size := by have := HG4.out.size; rw [World.size_alloc, hs3] at this; omega
      refine ⟨by have := HS2.out; simp [World.setCell]; omega, fun g' e cs hr h1 h2 h3 h4 => ?_⟩
      have r2 := HK2.out g' e cs hr
      have r3 := HOTH.out g' e cs r2 (rows_neJ r2 HG2.out h3)
      have r4 : Row w4 g' e cs := (r3.alloc _).grown HG4.out h4
      refine ⟨Row.setOther (p := ⟨w0.heap.size + 1, 0, none⟩) r4 (rows_neJ r2 HL2.out.qb h1) _, fun e' => ?_⟩
      rcases HAT4.out with h5 | h5
      · rw [h5] at e'; exact h4 e'
      · rw [h5] at e'
        have := r2.lt
        have h6 : (W3.alloc (.cells #[.int .i64 (d : Int), .int .i64 (q : Int)] 148)).heap.size = W2.heap.size + 1 := by rw [World.size_alloc, hs3]
        injection e' with e'
        omega
end Go.Proofs.YtaadhpkpekmfoaaGreat

/- slices.Reverse over a list of ints of the call's own. -/
namespace Go.Proofs.YtaadhpkpekmfoaaGreat
open Go.RowKit Go.Sort Go.Lib

set_option maxHeartbeats 1600000 in
set_option maxRecDepth 1000000 in
theorem reverse_arr (blk off cap : Nat) (d : Array Int) (w : World) (hH : Holds (Value.int .i64) w blk off d) (hsz : d.size ≤ 9223372036854775807) :
    Calls Tryz.prog 127 #[.slice (some ⟨blk, off, none⟩) d.size cap] w fun e w' => e = .returned (.tuple #[]) ∧ ∃ n, w' = putRow (Value.int .i64) (Sort.ahead w n) blk off d.reverse := by
  go_enter Tryz.func127, Tryz.ntmps127
  go_wp2
  go_loopg [2, 3] d.size (fun k s2 s3 wr => ∃ (i jn : Nat) (jz : Int) (dk : Array Int) (n : Nat), s2 = .int .i64 i ∧ s3 = .int .i64 jz ∧ ((i : Int) < jz → jz = jn ∧ jn < d.size) ∧ (¬ (i : Int) < jz → ¬ i < jn) ∧ jn - i ≤ k ∧
    dk.size = d.size ∧ wr = putRow (Value.int .i64) (Sort.ahead w n) blk off dk ∧ reverseLoop i jn dk = reverseLoop 0 (d.size - 1) d)
  case atStart => exact ⟨0, d.size - 1, (d.size : Int) - 1, d, 0, rfl, rfl, fun h => ⟨by omega, by omega⟩, fun h => by omega, by omega, rfl, (putRow_self (Value.int .i64) w blk off d hH).symm, rfl⟩
  case round =>
    obtain ⟨i, jn, jz, dk, n, rfl, rfl, h1, h2, hk, hds, hwr, heq⟩ := hrel
    by_cases hlt : (i : Int) < jz
    · obtain ⟨rfl, hjn⟩ := h1 hlt
      have hij : i < jn := by omega
      have hHk : Holds (Value.int .i64) wr blk off dk := by rw [hwr]; exact holds_putRow (Value.int .i64) _ blk off d dk (holds_ahead (Value.int .i64) w n blk off d hH) hds
      obtain ⟨ci, fi⟩ := hHk i (by omega)
      obtain ⟨cj, fj⟩ := hHk jn (by omega)
      have A : Aside (wr = putRow (Value.int .i64) (Sort.ahead w n) blk off dk) := hwr
      clear hwr hHk hH h1 h2
      have hi2 : i < d.size := by omega
      go_wp2_with fail
      go_region_law (fail)
      all_goals
        go_wp2_with fail
        go_roundg (jn - 1 - (i + 1))
        case measure => omega
        case rel =>
          rw [reverseLoop, if_pos hij] at heq
          exact ⟨i + 1, jn - 1, (jn : Int) - 1, swp dk i jn, n + 1, by simp, rfl, fun h => ⟨by omega, by omega⟩, fun h => by omega, Nat.le_refl _, by rw [size_swp]; exact hds,
            swap_world (Value.int .i64) (by omega) (by omega) A.out (by first | rfl | simp [getElem!_pos, show jn < dk.size by omega]) (by first | rfl | simp [getElem!_pos, show i < dk.size by omega]), heq⟩
    · have hnot := h2 hlt
      go_wp2
      go_end0
      refine ⟨rfl, n, ?_⟩
      rw [reverseLoop, if_neg hnot] at heq
      rw [← Lib.reverseLoop_reverse, ← heq]
theorem reverse_own {base : Nat} {v : Value} {zs : List Int} (w : World) (h : Own w base v zs) (hl : zs.length ≤ 1000000) :
    Calls Tryz.prog 127 #[v] w fun e w' => e = .returned (.tuple #[]) ∧ Own w' base v zs.reverse ∧ w.grownBy w' v.ownBlock := by
  rcases h.2 with ⟨rfl, h0⟩ | ⟨g, cap, cur, rfl, hb, hh, hn, hcap, hsz, htake⟩
  · have hz : zs = [] := List.eq_nil_of_length_eq_zero h0
    subst hz
    go_enter Tryz.func127, Tryz.ntmps127
    go_wp2
    go_loop [2, 3] (fun a b => a = .int .i64 0 ∧ b = .int .i64 (-1)) (fun _ _ => 0)
    case atStart => exact ⟨rfl, rfl⟩
    case round =>
      obtain ⟨rfl, rfl⟩ := hrel
      go_wp2
      go_end0
      exact ⟨rfl, by simpa using h, ⟨rfl, rfl, rfl, Nat.le_refl _, fun _ _ _ => rfl⟩⟩
  · rw [Nat.mul_one] at htake hsz
    have hH := holds_of_blockI (ss := zs) hh htake
    have hcon := reverse_arr g 0 cap zs.toArray w hH (by simp; omega)
    rw [List.size_toArray] at hcon
    refine hcon.mono ?_
    rintro e w' ⟨rfl, n, rfl⟩
    have e1 : putRow (Value.int .i64) (Sort.ahead w n) g 0 zs.toArray.reverse = grow (putRow (Value.int .i64) (Sort.ahead w n) g 0 zs.reverse.toArray) #[] := by
      rw [List.reverse_toArray]; simp [grow]; rfl
    rw [e1]
    refine ⟨rfl, ?_, grownBy_sortedI _⟩
    have := ownsRow_sortedI (base := base) (n := n) (os := #[]) (ss := zs) (ts := zs.reverse) (by simp) hb hh hn hcap (by omega)
    unfold Own
    rw [List.length_reverse]
    exact this
end Go.Proofs.YtaadhpkpekmfoaaGreat
