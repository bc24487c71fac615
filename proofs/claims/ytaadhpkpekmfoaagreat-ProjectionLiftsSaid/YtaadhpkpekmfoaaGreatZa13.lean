/- Texts merged: what follows were texts of their own. -/
import Derived.Test.YtaadhpkpekmfoaaGreatZa12
import Derived.Shelf.SlicesE.Compact
import Derived.Test.YtaadhpkpekmfoaaGreatProg
import Derived.Shelf.SlicesE.Clone
import Derived.Test.YtaadhpkpekmfoaaGreatZa4
import Derived.Sort.OwnSortedInts
import Derived.Test.YtaadhpkpekmfoaaGreatZa2
import Derived.Test.YtaadhpkpekmfoaaGreatZa6
import Derived.Test.YtaadhpkpekmfoaaGreatZa5
set_option linter.unusedVariables false
set_option linter.unusedSimpArgs false
set_option linter.unusedSectionVars false
/- Layer 7: Next. -/
namespace Go.Proofs.YtaadhpkpekmfoaaGreat
open Go.RowKit Go.Sort

/-- The error of Next. -/
def nextE (a : Au) (onto fr : List Int) (x : Int) : Int := if rchE a fr onto = 0 then (if x ∈ kpR a onto then 0 else 9) else rchE a fr onto
set_option maxHeartbeats 8000000 in
set_option maxRecDepth 100000 in
theorem jNextP_any (A : Option Addr) (n c : Nat) (s : Int) (M : Option Addr) (m d : Nat) (E : Option Addr) (k g : Nat) (A3 : Option Addr) (n3 c3 : Nat) (a : Au) (onto : List Int) (A2 : Option Addr) (n2 c2 : Nat) (fr : List Int) (x : Int) (w : World) (h : AuR w w.heap.size A n c s M m d E k g a) (hx : RdI w w.heap.size A2 fr) (hn : fr.length = n2) (hc : n2 ≤ c2 ∧ c2 ≤ 9223372036854775807) (hb : n2 ≤ 100000)
    (hx3 : RdI w w.heap.size A3 onto) (hn3 : onto.length = n3) (hc3 : n3 ≤ c3 ∧ c3 ≤ 9223372036854775807) (hb3 : n3 ≤ 100000) :
    Calls Tryz.prog 23 #[.agg #[.slice A n c, .int .i64 s, .slice M m d, .slice E k g], .slice A3 n3 c3, .slice A2 n2 c2, .int .i64 x] w fun e w' => Below w.heap.size w w' ∧ ∃ v, e = .returned (.tuple #[v, .int .i64 (nextE a onto fr x)]) ∧ Own w' w.heap.size v (if nextE a onto fr x = 0 then nxR a onto fr x else []) := by
  have hb1 := (Below.refl w.heap.size w).alloc (Nat.le_refl _) (.cells #[.slice A n c, .int .i64 s, .slice M m d, .slice E k g] 33)
  have HB1 := Lib.hid hb1
  have HCE := Lib.hid (fun W (hW : Below w.heap.size w W) => jCheckEvents_any A n c s M m d E k g a A3 n3 c3 onto W ((h.below hW (Nat.le_refl _)).more hW.size) ((hx3.below hW (Nat.le_refl _)).more hW.size) hn3 hc3 hb3)
  have HCS := Lib.hid (fun W (hW : Below w.heap.size w W) => jCheckStates_any A n c s M m d E k g a A2 n2 c2 fr W ((h.below hW (Nat.le_refl _)).more hW.size) ((hx.below hW (Nat.le_refl _)).more hW.size) hn hc hb)
  have HX := Lib.hid (BoxA.made w A n c s M m d E k g 33)
  have HR := Lib.hid h
  have HI := Lib.hid hx
  have HI3 := Lib.hid hx3
  have HN := Lib.hid hn
  have HN3 := Lib.hid hn3
  have hst := h.st
  obtain ⟨u, hu⟩ : ∃ u, u = cweE a onto := ⟨_, rfl⟩
  obtain ⟨v, hv⟩ : ∃ v, v = cstE s fr := ⟨_, rfl⟩
  obtain ⟨r, hr⟩ : ∃ r, r = rchE a fr onto := ⟨_, rfl⟩
  have HRE := Lib.hid (show r = fstE [u, v] by rw [hr, rchE, hu, hv, hst])
  have HST := Lib.hid hst
  rw [← hu] at HCE
  rw [← hv] at HCS
  have HRR := Lib.hid hr
  have HU := Lib.hid hu
  have HV := Lib.hid hv
  clear h hx hn hx3 hn3 hu hv hr hb1 hst
  obtain ⟨L0, hL0⟩ : ∃ L, L = (if nextE a onto fr x = 0 then nxR a onto fr x else []) := ⟨_, rfl⟩
  obtain ⟨E0, hE0⟩ : ∃ E, E = nextE a onto fr x := ⟨_, rfl⟩
  rw [← hL0, ← hE0]
  have HL0 := Lib.hid hL0
  have HE00 := Lib.hid hE0
  clear hL0 hE0
  go_enter Tryz.func23, Tryz.ntmps23
  obtain ⟨p0, p1, p2, p3⟩ := HX.out
  have HB1d := Lib.hid HB1.out.drew
  go_wp2_with fail
  go_cut [10] from 12 to 19 (fun onto wx => onto = .int .i64 r ∧ Hid (Below w.heap.size w wx ∧ BoxA wx w.heap.size A n c s M m d E k g))
  case first =>
    go_region_held3 (fun w' => w'.cell? ⟨w.heap.size, 0, none⟩ = some (.slice A n c) ∧ w'.cell? ⟨w.heap.size, 1, none⟩ = some (.int .i64 s) ∧ w'.cell? ⟨w.heap.size, 2, none⟩ = some (.slice M m d) ∧ w'.cell? ⟨w.heap.size, 3, none⟩ = some (.slice E k g)) (first | with_reducible exact ⟨p0, p1, p2, p3⟩ | go_keep)
      (first
      | (go_simp; go_at_call 42; (first | with_reducible refine (HCE.out _ HB1.out).mono ?_ | with_reducible refine (HCE.out _ HB1d.out).mono ?_); rintro e w2 ⟨rfl, hb2⟩
         have HB2 := Lib.hid (show Below w.heap.size w w2 by first | exact HB1.out.trans (hb2.mono HB1.out.size) | exact HB1d.out.trans (hb2.mono HB1d.out.size))
         have HX2 := Lib.hid (show BoxA w2 w.heap.size A n c s M m d E k g by first | exact HX.out.below hb2 (by simp) | exact (HX.out.drewN 1).below hb2 (by simp))
         have hsz2 : w.heap.size < w2.heap.size := by have h9 := hb2.size; simp at h9; omega
         obtain ⟨p0, p1, p2, p3⟩ := HX2.out
         clear hb2)
      | (go_simp; go_at_call 54; (first | with_reducible refine (HCS.out _ HB2.out).mono ?_ | with_reducible refine (HCS.out _ HB2.out.drew).mono ?_); rintro e w4 ⟨rfl, hb4⟩
         have HB4 := Lib.hid (show Below w.heap.size w w4 by first | exact HB2.out.trans (hb4.mono HB2.out.size) | exact HB2.out.drew.trans (hb4.mono HB2.out.drew.size))
         have HX4 := Lib.hid (show BoxA w4 w.heap.size A n c s M m d E k g by first | exact HX2.out.below hb4 hsz2 | exact (HX2.out.drewN 1).below hb4 hsz2)
         have hsz4 : w.heap.size < w4.heap.size := by have h9 := hb4.size; (try simp at h9); omega
         obtain ⟨p0, p1, p2, p3⟩ := HX4.out
         clear hb4)
      | (go_simp; go_at_call 53; (first | with_reducible refine (cmpOr_any _ 2 2 _ [u, v] _ rd_two rfl (by omega)).mono ?_); rintro e w6 ⟨rfl, rfl⟩))
    all_goals
      go_wp2_with fail
      go_meet
      case rel => exact ⟨by rw [HRE.out], Lib.hid ⟨by first | exact HB4.out.alloc HB4.out.size _ | exact (HB4.out.alloc HB4.out.size _).drew, by first | exact HX4.out.below ((Below.refl _ w4).alloc (Nat.le_refl _) _) hsz4 | exact (HX4.out.below ((Below.refl _ w4).alloc (Nat.le_refl _) _) hsz4).drewN 1⟩⟩
  case rest =>
    obtain ⟨rfl, hbx⟩ := hcut
    obtain ⟨hB, hX⟩ := hbx.out
    obtain ⟨p0, p1, p2, p3⟩ := hX
    have HB := Lib.hid hB
    clear hB hbx
    have hr00 := HRE.out
    by_cases h0 : r = 0
    · have hb0 : (r != 0) = false := by simp [h0]
      have huv := fst_zero.1 (HRE.out.symm.trans h0)
      have hcw := cwe_zero (a := a) (ev := onto) (by rw [← HU.out]; exact huv.1)
      have hcst : cstE s fr = 0 := by rw [← HV.out]; exact huv.2
      have hri := hcw.1
      have hst := HST.out
      obtain ⟨S, hS⟩ : ∃ S : Nat, s = (S : Int) := ⟨s.toNat, by have := hri.st0; omega⟩
      have hS4 : S ≤ 4096 := by have := hri.st1; omega
      subst hS
      have hsub : SubOk S fr := ⟨(right_of hcst).mro, cst_zero hcst⟩
      have hfl := sub_len hsub
      have hup : Up onto := cs_up' (a := a) (by rw [← HU.out]; exact huv.1)
      have hkup : Up (kpR a onto) := up_of (hri.alo.sublist List.filter_sublist)
      have HRI := Lib.hid hri
      have HST2 := Lib.hid (show a.st = (S : Int) from hst.symm ▸ rfl)
      have HKU := Lib.hid hkup
      have HSUB := Lib.hid hsub
      have H0 := Lib.hid h0
      have HOV := Lib.hid (jObserver_any A n c (S : Int) M m d E k g A3 n3 c3 a S onto wc ((HR.out.below HB.out (Nat.le_refl _)).more HB.out.size) hri.toRightW rfl hS4 ((HI3.out.below HB.out (Nat.le_refl _)).more HB.out.size) HN3.out hb3 hup)
      clear huv hcw hcst hri hst hsub hup hkup h0 hr00
      go_wp2_with fail
      refine HOV.out.mono ?_
      rintro e w3 ⟨bg, vk, rfl, hko, hgr, hb3'⟩
      obtain ⟨Ak, ck, rfl, hkr, hkc, hkm⟩ := own_rdc hko
      obtain ⟨nk, hnk⟩ : ∃ n, n = (kpR a onto).length := ⟨_, rfl⟩
      rw [← hnk] at hkc ⊢
      have HNK := Lib.hid hnk
      have hnk32 : nk ≤ 32 := by rw [hnk]; exact kp_len HRI.out.toRightW onto
      have hzc := HB.out.size
      have HB3 := Lib.hid (HB.out.trans (hb3'.mono HB.out.size))
      have hz3 := hb3'.size
      obtain ⟨gv, hgv⟩ : ∃ gv, gv = Value.slice (some ⟨bg, 0, none⟩) S S := ⟨_, rfl⟩
      obtain ⟨kv, hkv⟩ : ∃ kv, kv = Value.slice Ak nk ck := ⟨_, rfl⟩
      obtain ⟨W4, hW4⟩ : ∃ W, W = (w3.alloc (.cells #[.slice none 0 0, .slice none 0 0, .bool false, .bool false, .bool false, .bool false, .bool false, .bool false, .bool false, .bool false, .bool false, .bool false, .bool false, .bool false, .bool false, .bool false, .bool false, .bool false, .bool false, .bool false, .bool false, .bool false, .bool false, .bool false, .bool false, .bool false, .bool false, .bool false, .bool false, .bool false, .bool false, .bool false, .bool false, .bool false] 88)).setRow w3.heap.size (obL gv kv (erR a onto)).toArray := ⟨_, rfl⟩
      have hb34 : Below w3.heap.size w3 W4 := by rw [hW4]; exact below_setRow ((Below.refl _ w3).alloc (Nat.le_refl _) _) (Nat.le_refl _) _
      have hold := Row.new w3 [.slice none 0 0, .slice none 0 0, .bool false, .bool false, .bool false, .bool false, .bool false, .bool false, .bool false, .bool false, .bool false, .bool false, .bool false, .bool false, .bool false, .bool false, .bool false, .bool false, .bool false, .bool false, .bool false, .bool false, .bool false, .bool false, .bool false, .bool false, .bool false, .bool false, .bool false, .bool false, .bool false, .bool false, .bool false, .bool false] 88
      have HOB4 := Lib.hid (show Row W4 w3.heap.size 88 (obL gv kv (erR a onto)) from by rw [hW4]; exact setRow_heap _ _ _ _ _ _ hold)
      have hszs := Lib.hid (show (Tryz.prog.info? 88).map (·.size) = some (obL gv kv (erR a onto)).toArray.size by rw [obs_size, List.size_toArray, ob_len])
      have hszl := Lib.hid (show (Tryz.prog.info? 88).map (·.size) = some (obL gv kv (erR a onto)).length by rw [obs_size, ob_len])
      have hone := Lib.hid (ob_one (g := gv) (k := kv) (ev := erR a onto) (by rw [hgv]; rfl) (by rw [hkv]; rfl))
      have hz34 : (([.slice none 0 0, .slice none 0 0, .bool false, .bool false, .bool false, .bool false, .bool false, .bool false, .bool false, .bool false, .bool false, .bool false, .bool false, .bool false, .bool false, .bool false, .bool false, .bool false, .bool false, .bool false, .bool false, .bool false, .bool false, .bool false, .bool false, .bool false, .bool false, .bool false, .bool false, .bool false, .bool false, .bool false, .bool false, .bool false] : List Value).toArray).size = (obL gv kv (erR a onto)).toArray.size := by rw [List.size_toArray, List.size_toArray, ob_len]; rfl
      have HOLD := Lib.hid hold
      obtain ⟨W5, hW5⟩ : ∃ W, W = W4.alloc (.cells #[.int .i64 x] 3) := ⟨_, rfl⟩
      have hb45 : Below W4.heap.size W4 W5 := by rw [hW5]; exact (Below.refl _ _).alloc (Nat.le_refl _) _
      have hb35 := hb34.trans (hb45.mono hb34.size)
      have hb5 : Below w.heap.size w W5 := HB3.out.trans (hb35.mono HB3.out.size)
      have HB5 := Lib.hid hb5
      have HOB5 := Lib.hid (HOB4.out.below hb45 HOB4.out.lt)
      have HG5 := Lib.hid (hgr.keep hb35)
      have hrg := Lib.hid (show W4.rangeAt w3.heap.size 0 (obL gv kv (erR a onto)) from fun i v hi => by rw [Nat.zero_add]; exact HOB4.out.cell i hi)
      have hxl : RdI W5 W5.heap.size (some ⟨W4.heap.size, 0, none⟩) [x] := fun _ => ⟨W4.heap.size, 0, rfl, by rw [hW5]; simp, fun k hk => by
        obtain rfl : k = 0 := by simpa using hk
        rw [hW5]; exact (Row.new W4 [.int .i64 x] 3).cell 0 rfl⟩
      have HKE := Lib.hid (jKeeps_any gv Ak nk ck (kpR a onto) (erR a onto) (some ⟨W4.heap.size, 0, none⟩) 1 1 [x] W5 ((hkr.below hb35 (Nat.le_refl _)).more hb35.size) hnk.symm (by omega) HKU.out hxl rfl (by omega))
      rw [← hkv] at HKE
      rw [← hgv, ← hkv]
      have HGV := Lib.hid hgv
      have HW4 := Lib.hid hW4
      have HW5 := Lib.hid hW5
      have e1 : ([x].all fun y => decide (y ∈ kpR a onto)) = decide (x ∈ kpR a onto) := by simp
      rw [e1] at HKE
      obtain ⟨kb, hkb⟩ : ∃ b, b = decide (x ∈ kpR a onto) := ⟨_, rfl⟩
      rw [← hkb] at HKE
      have HKB := Lib.hid hkb
      clear hko hgr hkr hb3' hnk hgv hkv hW4 hold hb34 HOV hkb hxl e1 hW5 hb45 hb35 hb5 p0 p1 p2 p3
      go_upto_region 5 with (first
        | (refine wpList_store_row rfl 88 (.tmp 11) (.tmp 25) rfl w3.heap.size (obL gv kv (erR a onto)).toArray rfl rfl 88 _ HOLD.out hszs.out hz34 hone.out ?_; rw [← HW4.out]))
      go_wp2_with (first
        | refine wpList_load_mid rfl 88 (.tmp 11) rfl w3.heap.size 0 rfl (obL gv kv (erR a onto)) _ hrg.out Tryz.underlying88 rfl hszl.out ?_)
      rw [← HW5.out]
      refine HKE.out.mono ?_
      rintro e w6 ⟨rfl, hb6⟩
      have HB6 := Lib.hid (HB5.out.trans (hb6.mono HB5.out.size))
      cases kb with
      | false =>
        have he := Lib.hid (show nextE a onto fr x = 9 by unfold nextE; rw [← HRR.out, if_pos H0.out, if_neg (by simpa using HKB.out.symm)])
        clear hb6
        go_wp2_with fail
        go_ret2
        exact ⟨HB6.out, _, by rw [HE00.out, he.out]; rfl, by rw [HL0.out, he.out, if_neg (by decide)]; exact World.ownsRow_nil _ _ _ _⟩
      | true =>
        have hxk : x ∈ kpR a onto := by simpa using HKB.out.symm
        have he := Lib.hid (show nextE a onto fr x = 0 by unfold nextE; rw [← HRR.out, if_pos H0.out, if_pos hxk])
        have hx32 := HRI.out.toRightW.alr _ (mem_kpR.1 hxk).1
        obtain ⟨ev, rfl⟩ : ∃ e : Nat, x = (e : Int) := ⟨x.toNat, by omega⟩
        have HO6 := Lib.hid (HOB5.out.below hb6 HOB5.out.lt)
        have htg := tgL_le HRI.out.toRightW (ev : Int) fr
        have hfl2 := sub_len HSUB.out
        rw [HN.out] at hfl2 htg
        have HNx := Lib.hid (jNext_any bg S a onto kv A2 n2 c2 fr ev w6 (HG5.out.keep hb6) HRI.out.toRightW HST2.out hS4 (by have := HR.out.bk; rw [HR.out.hk]; exact this) ((HI.out.below HB6.out (Nat.le_refl _)).more HB6.out.size) HN.out (by omega) HSUB.out.2 (by omega) (by omega))
        rw [← HGV.out] at HNx
        have hrg6 := Lib.hid (show w6.rangeAt w3.heap.size 0 (obL gv kv (erR a onto)) from fun i v hi => by rw [Nat.zero_add]; exact HO6.out.cell i hi)
        clear hb6 hrg hxk
        go_wp2_with (first
          | refine wpList_load_mid rfl 88 (.tmp 11) rfl w3.heap.size 0 rfl (obL gv kv (erR a onto)) _ hrg6.out Tryz.underlying88 rfl hszl.out ?_)
        refine HNx.out.mono ?_
        rintro r7 w7 ⟨v7, rfl, hown7, hb7⟩
        go_wp2_with fail
        go_ret2
        exact ⟨HB6.out.trans (hb7.mono HB6.out.size), _, by rw [HE00.out, he.out]; rfl, by rw [HL0.out, he.out, if_pos rfl]; exact own_more hown7 HB6.out.size⟩
    · have hb0 : (r != 0) = true := by simp [h0]
      have he := Lib.hid (show nextE a onto fr x = r by unfold nextE; rw [← HRR.out, if_neg h0])
      go_wp2_with fail
      go_ret2
      exact ⟨HB.out, _, by rw [HE00.out, he.out]; rfl, by rw [HL0.out, he.out, if_neg h0]; exact World.ownsRow_nil _ _ _ _⟩
end Go.Proofs.YtaadhpkpekmfoaaGreat

/- Contracts of the library at this program, laid in plain words. -/
namespace Go.Proofs.YtaadhpkpekmfoaaGreat
open Go.Shelf
def layCo_ren : Go.Shelf.Ren := ⟨fun | 43 => 63 | n => n, fun | 22 => 27 | 23 => 3 | 3 => 3 | 4 => 4 | 0 => 0 | n => n, fun | n => n⟩
theorem layCo : Go.Proofs.SlLaysE.n43 Tryz.prog layCo_ren := {
  mixed := by kernel_rfl
  f43 := ⟨Tryz.f63.name, by decide, Tryz.func63.trans (congrArg some (by kernel_rfl))⟩
  t0 := Tryz.underlying0
  a0 := Tryz.isAgg0
  z0 := Tryz.sizeOf0
  v0 := Tryz.zeroValue0
  t3 := Tryz.underlying3
  a3 := Tryz.isAgg3
  z3 := Tryz.sizeOf3
  v3 := Tryz.zeroValue3
  t4 := Tryz.underlying4
  a4 := Tryz.isAgg4
  z4 := Tryz.sizeOf4
  v4 := Tryz.zeroValue4
  t22 := Tryz.underlying27
  a22 := Tryz.isAgg27
  z22 := Tryz.sizeOf27
  v22 := Tryz.zeroValue27
  a23 := Tryz.isAgg3
  z23 := Tryz.sizeOf3 }
end Go.Proofs.YtaadhpkpekmfoaaGreat

/- Contracts of the library at this program, laid in plain words. -/
namespace Go.Proofs.YtaadhpkpekmfoaaGreat
open Go.Shelf
def layCl_ren : Go.Shelf.Ren := ⟨fun | 41 => 67 | n => n, fun | 22 => 31 | 23 => 79 | 4 => 4 | n => n, fun | n => n⟩
theorem layCl : Go.Proofs.SlLaysE0.n41 Tryz.prog layCl_ren := {
  mixed := by kernel_rfl
  f41 := ⟨Tryz.f67.name, by decide, Tryz.func67.trans (congrArg some (by kernel_rfl))⟩
  t4 := Tryz.underlying4
  a4 := Tryz.isAgg4
  z4 := Tryz.sizeOf4
  v4 := Tryz.zeroValue4
  t22 := Tryz.underlying31
  a22 := Tryz.isAgg31
  z22 := Tryz.sizeOf31
  v22 := Tryz.zeroValue31 }
end Go.Proofs.YtaadhpkpekmfoaaGreat

/- Layer 7: slices.Compact of a list in order; slices.Clone of edges; edges sorted by projection's own order. -/
namespace Go.Proofs.YtaadhpkpekmfoaaGreat
open Go.RowKit Go.Sort Go.Lib

theorem comp_up {d : Array Int} (hm : ∀ i j, i ≤ j → j < d.size → d[i]! ≤ d[j]!) : ∀ m, m ≤ d.size → (compactUpTo d m).Pairwise (· < ·) ∧ ∀ x, x ∈ compactUpTo d m ↔ ∃ j, j < m ∧ d[j]! = x
  | 0, _ => ⟨by simp [compactUpTo], fun x => by simp [compactUpTo]⟩
  | m + 1, h => by
    obtain ⟨h1, h2⟩ := comp_up hm m (by omega)
    rw [compactUpTo_succ]
    by_cases hk : keeps d m = true
    · rw [if_pos hk]
      refine ⟨?_, fun x => ?_⟩
      · rw [List.pairwise_append]
        refine ⟨h1, by simp, fun x hx y hy => ?_⟩
        rw [List.mem_singleton] at hy
        subst hy
        obtain ⟨j, hj, rfl⟩ := (h2 x).1 hx
        have hk2 : m = 0 ∨ d[m]! ≠ d[m - 1]! := by simpa [keeps] using hk
        have a1 := hm j (m - 1) (by omega) (by omega)
        have a2 := hm (m - 1) m (by omega) (by omega)
        rcases hk2 with h0 | h0
        · omega
        · omega
      · rw [List.mem_append, h2, List.mem_singleton]
        constructor
        · rintro (⟨j, hj, e⟩ | rfl)
          · exact ⟨j, by omega, e⟩
          · exact ⟨m, by omega, rfl⟩
        · rintro ⟨j, hj, rfl⟩
          by_cases e : j = m
          · subst e; exact .inr rfl
          · exact .inl ⟨j, by omega, rfl⟩
    · rw [if_neg hk, List.append_nil]
      refine ⟨h1, fun x => ?_⟩
      rw [h2]
      constructor
      · rintro ⟨j, hj, e⟩; exact ⟨j, by omega, e⟩
      · rintro ⟨j, hj, rfl⟩
        by_cases e : j = m
        · subst e
          have hk2 : ¬ (j = 0 ∨ d[j]! ≠ d[j - 1]!) := by simpa [keeps] using hk
          have h3 : d[j]! = d[j - 1]! := Decidable.not_not.1 fun h => hk2 (.inr h)
          exact ⟨j - 1, by omega, h3.symm⟩
        · exact ⟨j, by omega, rfl⟩
theorem oneCell_int : OneCell (Value.int .i64) := fun _ => rfl
theorem compact_own {base : Nat} {v : Value} {zs : List Int} (w : World) (h : Own w base v zs) (hl : zs.length ≤ 100000) (hs : zs.Pairwise (· ≤ ·)) :
    Calls Tryz.prog 63 #[v] w fun e w' => ∃ A c zs', e = .returned (.slice A zs'.length c) ∧ zs'.Pairwise (· < ·) ∧ (∀ x, x ∈ zs' ↔ x ∈ zs) ∧ Own w' base (.slice A zs'.length c) zs' ∧ w.grownBy w' v.ownBlock := by
  rcases h.2 with ⟨rfl, h0⟩ | ⟨g, cap, cur, rfl, hb, hh, hn, hcap, hsz, htake⟩
  · have hz : zs = [] := List.eq_nil_of_length_eq_zero h0
    subst hz
    go_enter Tryz.func63, Tryz.ntmps63
    go_wp2
    go_ret
    exact ⟨none, 0, [], rfl, List.Pairwise.nil, fun x => Iff.rfl, World.ownsRow_nil _ _ _ _, World.grownBy.refl _ _⟩
  · rw [Nat.mul_one] at htake hsz
    have hH := holds_of_blockI (ss := zs) hh htake
    have hzl : zs.toArray.size = zs.length := by simp
    have hcon := AnyE.slices_Compact layCo (Value.int .i64) oneCell_int (EqlAt.intD _ _ .i64) (NeqAt.intD _ _ .i64) 0 (fun w => Tryz.zeroValue3 w) g 0 cap zs.toArray w hH (by rw [hzl]; omega) (by rw [hzl]; exact hn)
    refine Calls.mono (show Calls Tryz.prog 63 _ w _ from hcon) ?_
    have hmono : ∀ i j, i ≤ j → j < zs.toArray.size → zs.toArray[i]! ≤ zs.toArray[j]! := fun i j hij hj => by
      have hj' : j < zs.length := by simpa using hj
      have hi' : i < zs.length := by omega
      by_cases e : i = j
      · subst e; exact Int.le_refl _
      · have := List.pairwise_iff_getElem.1 hs i j hi' hj' (by omega)
        simpa [hi', hj'] using this
    obtain ⟨c1, c2⟩ := comp_up hmono zs.toArray.size (Nat.le_refl _)
    have hcl : (compactUpTo zs.toArray zs.toArray.size).length ≤ zs.toArray.size := by
      unfold compactUpTo
      rw [List.length_map]
      exact Nat.le_trans (List.length_filter_le _ _) (by simp)
    rintro e w' ⟨rfl, q, rfl⟩
    obtain ⟨L, hL⟩ : ∃ L, L = compactUpTo zs.toArray zs.toArray.size := ⟨_, rfl⟩
    rw [← hL] at c1 c2 hcl ⊢
    have hdz : (L ++ List.replicate (zs.toArray.size - L.length) (0 : Int)).toArray.size = zs.toArray.size := by simp; simp at hcl; omega
    have ho : (putRow (Value.int .i64) (Sort.ahead w q) g 0 (L ++ List.replicate (zs.toArray.size - L.length) (0 : Int)).toArray).ownsRow base 3 1 (.slice (some ⟨g, 0, none⟩) zs.length cap) zs.length ((L ++ List.replicate (zs.toArray.size - L.length) (0 : Int)).map (Value.int .i64)) := by
      have := ownsRow_sortedI (base := base) (n := q) (os := #[]) (ss := zs) (ts := L ++ List.replicate (zs.toArray.size - L.length) (0 : Int)) (by rw [← List.size_toArray, hdz, hzl]) hb hh hn hcap (by omega)
      have e0 : ∀ W : World, grow W #[] = W := fun W => by unfold grow; simp
      rw [e0] at this
      exact this
    have hL2 : L.length ≤ zs.length := by rw [hzl] at hcl; exact hcl
    have hown : (putRow (Value.int .i64) (Sort.ahead w q) g 0 (L ++ List.replicate (zs.toArray.size - L.length) (0 : Int)).toArray).ownsRow base 3 1 (.slice (some ⟨g, 0, none⟩) L.length cap) L.length (L.map (Value.int .i64)) := by
      rcases ho.2 with ⟨h0, _⟩ | ⟨g', cap', cur', e', hb', hh', hn', hcap', hsz', htake'⟩
      · cases h0
      · injection e' with e1 e2 e3
        injection e1 with e1
        injection e1 with e1
        subst e1 e3
        refine ⟨by simp, .inr ⟨g, cap, cur', rfl, hb', hh', by omega, hcap', hsz', ?_⟩⟩
        rw [Nat.mul_one] at htake' ⊢
        have := congrArg (List.take L.length) htake'
        rw [List.take_take, Nat.min_eq_left hL2, List.map_append, List.take_left' (by simp)] at this
        exact this
    refine ⟨some ⟨g, 0, none⟩, cap, L, rfl, c1, fun x => ?_, hown, ⟨rfl, rfl, rfl, by simp [putRow, mapBlock, Sort.ahead], fun k hk hne => ?_⟩⟩
    · rw [c2]
      constructor
      · rintro ⟨j, hj, rfl⟩
        have hj' : j < zs.length := by simpa using hj
        have : zs.toArray[j]! = zs[j] := by simp [hj']
        rw [this]; exact List.getElem_mem hj'
      · intro hx
        obtain ⟨j, hj, rfl⟩ := List.getElem_of_mem hx
        exact ⟨j, by simpa using hj, by simp [hj]⟩
    · have : g ≠ k := fun e => hne (by rw [e]; rfl)
      simp [putRow, mapBlock, Sort.ahead, Array.getElem?_modify, this]
set_option maxHeartbeats 800000 in
theorem cmpOrI_any (A : Option Addr) (n c B : Nat) (xs : List Int) (w : World) (hx : RdI w B A xs) (hn : xs.length = n) (hb : n ≤ 100000) :
    Calls Tryz.prog 105 #[.slice A n c] w fun e w' => e = .returned (.int .i64 (fstE xs)) ∧ w = w' := by
  have HX := Lib.hid hx
  have HN := Lib.hid hn
  obtain ⟨u, hu⟩ : ∃ u, u = fstE xs := ⟨_, rfl⟩
  rw [← hu]
  have HU := Lib.hid (show u = fstE (xs.drop 0) by rw [List.drop_zero]; exact hu)
  clear hx hn hu
  go_enter Tryz.func105, Tryz.ntmps105
  go_wp2_with fail
  go_loopw [5, 8] (fun _ i wr => ∃ k : Nat, k ≤ n ∧ i = .int .i64 k ∧ w = wr ∧ Hid (u = fstE (xs.drop k))) (fun _ i _ => n - (intOf i).toNat)
  case atStart => exact ⟨0, Nat.zero_le _, rfl, rfl, HU⟩
  case round =>
    obtain ⟨k, hk, rfl, rfl, hf⟩ := hrel
    by_cases hlt : k < n
    · obtain ⟨b, o, rfl, _, hc⟩ := HX.out (by rw [HN.out]; omega)
      have hz : k < xs.length := by rw [HN.out]; exact hlt
      have hc1 := hc k hz
      obtain ⟨x, hxe⟩ : ∃ x, x = xs.getD k 0 := ⟨_, rfl⟩
      have hd := fst_drop hz
      rw [← hxe] at hc1 hd
      have HD := Lib.hid hd
      have z0 : (k : Int) < (n : Int) := by omega
      have z1 : (0 : Int) ≤ (k : Int) := by omega
      clear hc hz hxe hd
      by_cases h0 : x = 0
      · have hb : (x != 0) = false := by simp [h0]
        have hg := Lib.hid (show u = fstE (xs.drop (k + 1)) by rw [hf.out, HD.out, if_neg (by simp [h0])])
        clear h0
        go_wp2_with fail
        go_roundw
        case rel => exact ⟨k + 1, by omega, by go_num, by first | rfl | trivial, hg⟩
        case measure => simp [intOf]; omega
      · have hb : (x != 0) = true := by simp [h0]
        have hg := Lib.hid (show u = x by rw [hf.out, HD.out, if_pos h0])
        clear h0
        go_wp2_with fail
        go_ret
        exact ⟨by rw [hg.out]; rfl, rfl⟩
    · have hg := Lib.hid (show u = 0 by rw [hf.out, List.drop_of_length_le (by rw [HN.out]; omega)]; rfl)
      have z0 : (n : Int) ≤ (k : Int) := by omega
      go_wp2_with fail
      go_ret
      exact ⟨by rw [hg.out]; rfl, rfl⟩
theorem rd_twoI {w : World} {x y : Int} : RdI (w.alloc (.cells #[.int .i64 x, .int .i64 y] 3)) (w.alloc (.cells #[.int .i64 x, .int .i64 y] 3)).heap.size (some ⟨w.heap.size, 0, none⟩) [x, y] := fun _ => ⟨w.heap.size, 0, rfl, by simp, fun j hj => by
  match j, hj with
  | 0, _ => rw [World.cell?_alloc_at _ _ _ _ rfl]; rfl
  | 1, _ => rw [World.cell?_alloc_at _ _ _ _ rfl]; rfl
  | j + 2, hj => (simp at hj) <;> omega⟩
theorem rd_twoD {w : World} {x y : Int} : RdI (w.alloc (.cells #[.int .i64 x, .int .i64 y] 3)).drew (w.alloc (.cells #[.int .i64 x, .int .i64 y] 3)).heap.size (some ⟨w.heap.size, 0, none⟩) [x, y] := rd_twoI
set_option maxHeartbeats 1000000 in
set_option maxRecDepth 100000 in
theorem jCompareEdges_any (f1 e1 t1 f2 e2 t2 : Int) (w : World) :
    Calls Tryz.prog 69 #[.agg #[.int .i64 f1, .int .i64 e1, .int .i64 t1], .agg #[.int .i64 f2, .int .i64 e2, .int .i64 t2]] w fun e w' => e = .returned (.int .i64 (cmpE ⟨f1, e1, t1⟩ ⟨f2, e2, t2⟩)) ∧ ∃ q os', w' = grow (w.drewN q) os' := by
  have H := Lib.hid cmpCompare_any
  obtain ⟨u, hu⟩ : ∃ u, u = cmp1 f1 f2 := ⟨_, rfl⟩
  obtain ⟨v, hv⟩ : ∃ v, v = cmp1 e1 e2 := ⟨_, rfl⟩
  have H1 := Lib.hid (fun W => by have h := H.out f1 f2 W; rw [← hu] at h; exact h)
  have H2 := Lib.hid (fun W => by have h := H.out e1 e2 W; rw [← hv] at h; exact h)
  obtain ⟨r, hr⟩ : ∃ r, r = cmpE ⟨f1, e1, t1⟩ ⟨f2, e2, t2⟩ := ⟨_, rfl⟩
  rw [← hr]
  have HRR := Lib.hid (show fstE [u, v] = r by
    rw [hr, hu, hv]
    by_cases h0 : cmp1 f1 f2 = 0 <;> by_cases h1 : cmp1 e1 e2 = 0 <;> simp [fstE, cmpE, h0, h1])
  obtain ⟨W, hW⟩ : ∃ W, W = (w.alloc (.cells #[.int .i64 f1, .int .i64 e1, .int .i64 t1] 79)).alloc (.cells #[.int .i64 f2, .int .i64 e2, .int .i64 t2] 79) := ⟨_, rfl⟩
  have x0 := (Row.new w [.int .i64 f1, .int .i64 e1, .int .i64 t1] 79).alloc (.cells #[.int .i64 f2, .int .i64 e2, .int .i64 t2] 79)
  have x1 := Row.new (w.alloc (.cells #[.int .i64 f1, .int .i64 e1, .int .i64 t1] 79)) [.int .i64 f2, .int .i64 e2, .int .i64 t2] 79
  rw [World.size_alloc] at x1
  have p0 : W.cell? ⟨w.heap.size, 0, none⟩ = some (.int .i64 f1) := by rw [hW]; exact x0.cell 0 rfl
  have p1 : W.cell? ⟨w.heap.size, 1, none⟩ = some (.int .i64 e1) := by rw [hW]; exact x0.cell 1 rfl
  have p2 : W.cell? ⟨w.heap.size + 1, 0, none⟩ = some (.int .i64 f2) := by rw [hW]; exact x1.cell 0 rfl
  have p3 : W.cell? ⟨w.heap.size + 1, 1, none⟩ = some (.int .i64 e2) := by rw [hW]; exact x1.cell 1 rfl
  have HW := Lib.hid hW
  have HO := Lib.hid (fun (B : Nat) (W : World) (h : RdI W B (some ⟨B - 1, 0, none⟩) [u, v]) => cmpOrI_any (some ⟨B - 1, 0, none⟩) 2 2 B [u, v] W h rfl (by omega))
  clear hu hv hr x0 x1 hW
  go_enter Tryz.func69, Tryz.ntmps69
  go_upto_region 1 with fail
  rw [← HW.out]
  go_region_held3 (fun w' => w'.cell? ⟨w.heap.size, 0, none⟩ = some (.int .i64 f1) ∧ w'.cell? ⟨w.heap.size, 1, none⟩ = some (.int .i64 e1) ∧ w'.cell? ⟨w.heap.size + 1, 0, none⟩ = some (.int .i64 f2) ∧ w'.cell? ⟨w.heap.size + 1, 1, none⟩ = some (.int .i64 e2)) (first | with_reducible exact ⟨p0, p1, p2, p3⟩ | go_keep)
    (first
    | (go_simp; go_at_call 106; with_reducible refine (H1.out _).mono ?_; rintro e w2 ⟨rfl, rfl⟩)
    | (go_simp; go_at_call 106; with_reducible refine (H2.out _).mono ?_; rintro e w2 ⟨rfl, rfl⟩)
    | (go_simp; go_at_call 105; (first | with_reducible refine (cmpOrI_any _ 2 2 _ [u, v] _ rd_twoI rfl (by omega)).mono ?_ | with_reducible refine (cmpOrI_any _ 2 2 _ [u, v] _ (rd_twoI.dr 1) rfl (by omega)).mono ?_ | refine (cmpOrI_any _ 2 2 _ [u, v] _ rd_twoD rfl (by omega)).mono ?_); rintro e w6 ⟨rfl, rfl⟩))
  all_goals
    go_wp2_with fail
    go_ret
    refine ⟨by rw [HRR.out]; rfl, 1, #[.cells #[.int .i64 f1, .int .i64 e1, .int .i64 t1] 79, .cells #[.int .i64 f2, .int .i64 e2, .int .i64 t2] 79, .cells #[.int .i64 u, .int .i64 v] 3], ?_⟩
    rw [HW.out, alloc_eq_grow, alloc_eq_grow]
    first | rfl | (rw [alloc_eq_grow]; rfl) | (simp only [alloc_eq_grow, grow_grow]; rfl)
theorem jcmp_lays (blk off size : Nat) (w : World) : CmpLays Tryz.prog 69 #[] encEd 3 cmpE blk off size w :=
  fun _ _ _ _ x y => jCompareEdges_any x.f x.e x.t y.f y.e y.t _
theorem jSortEd_any {base : Nat} {v : Value} {l : List Ed} (w : World) (h : OwnE w base v l) (hl : l.length ≤ 1000000) :
    Calls Tryz.prog 68 #[v, .func (.func 69) #[] #[]] w fun e w' => e = .returned (.tuple #[]) ∧ ∃ A c l', v = .slice A l'.length c ∧ l'.Perm l ∧ l'.Pairwise (fun x y => ¬ ltE y x) ∧ RdG w' w'.heap.size A l' ∧ w.grownBy w' v.ownBlock ∧ l'.length ≤ c ∧ c ≤ 9223372036854775807 := by
  rcases h.2 with ⟨rfl, h0⟩ | ⟨g, cap, cur, rfl, hg, hh, hn, hcap, hsz, htake⟩
  · have hz : l = [] := List.eq_nil_of_length_eq_zero h0
    subst hz
    refine Calls.mono (show Calls Tryz.prog 68 _ w _ from AnyF.slices_SortFunc_none layEd none 0 _ w) ?_
    rintro e w' ⟨rfl, rfl⟩
    exact ⟨rfl, none, 0, [], rfl, List.Perm.refl _, List.Pairwise.nil, RdG.nil _ _ _, World.grownBy.refl _ _, Nat.le_refl _, by omega⟩
  · have hgl := (h.lt g rfl).2
    have hH : HoldsK encEd 3 w g 0 l.toArray := fun t ht => by
      rw [size_flatK] at ht
      have ht3 : t < l.length * 3 := by simpa using ht
      have hj : t / 3 < l.length := by omega
      refine ⟨?_, ?_⟩
      · rw [Nat.zero_add, World.ownsRow.cellAt (cap := cap) h t (by omega), get_flatK _ _ _ t (by simpa using ht3)]
        obtain ⟨e0, e1, e2⟩ := encE_at l (t / 3) _ (List.getElem?_eq_getElem hj)
        have hg : l.toArray[t / 3]! = l[t / 3] := by simp [hj]
        rw [hg]
        rcases (show t % 3 = 0 ∨ t % 3 = 1 ∨ t % 3 = 2 by omega) with hm | hm | hm
        · rw [hm]; have ht : t = t / 3 * 3 := by omega
          conv => lhs; rw [ht]
          rw [e0]; rfl
        · rw [hm]; have ht : t = t / 3 * 3 + 1 := by omega
          conv => lhs; rw [ht]
          rw [e1]; rfl
        · rw [hm]; have ht : t = t / 3 * 3 + 2 := by omega
          conv => lhs; rw [ht]
          rw [e2]; rfl
      · rw [Nat.zero_add]
        exact World.ownsRow.frozenAt (cap := cap) h t
    have eg : ∀ args w, (callFunc 69 args).run Tryz.prog w = .ok (.enter 69 args) w := enters_of Tryz.func69 (by kernel_rfl) rfl
    refine Calls.mono (show Calls Tryz.prog 68 _ w _ from AnyQ.slices_SortFunc layEd 3 Tryz.isAgg79 Tryz.sizeOf79 encEd (fun _ => rfl) (fun x v hv => by simp [encEd] at hv; rcases hv with rfl | rfl | rfl <;> rfl) cmpE cmp_swo 69 #[] g 0 cap l.toArray w eg (jcmp_lays _ _ _ _) hH hgl (by simp; omega)) ?_
    rintro e w' ⟨rfl, d', nn, os, hp, hs, rfl⟩
    have hsz2 : d'.size = l.length := by have := hp.1; simpa using this
    have hH2 := holdsK_sortWorldK encEd 3 w g 0 nn l.toArray d' os hgl hH (by simpa using hsz2)
    have hlen2 : d'.toList.length = l.length := by simpa using hsz2
    have hperm : d'.toList.Perm l := by
      have := hp.2.2
      simpa [hsz2, Array.extract_eq_self_of_le] using this
    refine ⟨rfl, some ⟨g, 0, none⟩, cap, d'.toList, by rw [hlen2], hperm, ?_, ?_, grown_sort id w g 0 nn _ os, by rw [hlen2]; exact hn, by unfold maxLen at hcap; omega⟩
    · rw [List.pairwise_iff_getElem]
      intro i j hi hj hij
      have h1 := hs i j (Nat.zero_le _) hij (by simp; omega)
      have h2 : i < d'.size := by simpa using hi
      have h3 : j < d'.size := by simpa using hj
      unfold Go.Proofs.ltOf at h1
      simp only [decide_eq_false_iff_not] at h1
      rw [cmpE_lt] at h1
      simpa [h2, h3] using h1
    · intro h0
      refine ⟨g, 0, rfl, lt_sortWorldK encEd 3 w g 0 nn d' os hgl, fun j x hj => ?_⟩
      have hj2 : j < d'.size := by have := (List.getElem?_eq_some_iff.1 hj).1; simpa using this
      have hx : d'[j]! = x := by
        have := (List.getElem?_eq_some_iff.1 hj).2
        simpa [hj2] using this
      have c0 := (hH2.cell (i := j) (c := 0) hj2 (by omega)).1
      have c1 := (hH2.cell (i := j) (c := 1) hj2 (by omega)).1
      have c2 := (hH2.cell (i := j) (c := 2) hj2 (by omega)).1
      rw [hx] at c0 c1 c2
      exact ⟨c0, c1, c2⟩
end Go.Proofs.YtaadhpkpekmfoaaGreat

/- Layer 7: slices.Clone of edges. -/
namespace Go.Proofs.YtaadhpkpekmfoaaGreat
open Go.RowKit Go.Sort

theorem cloNil_yes (n c : Nat) (W : World) : (binOp .eql 31 (.slice none n c) (.slice none 0 0)).run Tryz.prog W = .ok (.bool true) W := by kernel_rfl
theorem cloNil_no (ad : Addr) (n c : Nat) (W : World) : (binOp .eql 31 (.slice (some ad) n c) (.slice none 0 0)).run Tryz.prog W = .ok (.bool false) W := by kernel_rfl
theorem rdG_at {w : World} {B : Nat} {A : Option Addr} {l : List Ed} (h : RdG w B A l) {ad : Addr} (hA : A = some ad) : ∀ j u, (encE l)[j]? = some u → w.cell? (ad.add j) = some u := fun j u hu => by
  have hj : j < (encE l).length := (List.getElem?_eq_some_iff.1 hu).1
  rw [encE_len] at hj
  obtain ⟨b, o, e, _, hc⟩ := h (by omega)
  rw [hA] at e
  injection e with e
  subst e
  rw [show ((⟨b, o, none⟩ : Addr).add j) = ⟨b, o + j, none⟩ from by unfold Addr.add; split <;> simp_all]
  have hq : j / 3 < l.length := by omega
  obtain ⟨k0, k1, k2⟩ := hc (j / 3) _ (List.getElem?_eq_getElem hq)
  obtain ⟨m0, m1, m2⟩ := encE_at l (j / 3) _ (List.getElem?_eq_getElem hq)
  rcases (show j % 3 = 0 ∨ j % 3 = 1 ∨ j % 3 = 2 by omega) with hm | hm | hm
  · have hj3 : j = j / 3 * 3 := by omega
    rw [hj3] at hu ⊢
    rw [m0] at hu
    rw [← hu, ← Nat.add_zero (o + j / 3 * 3)]
    simpa using k0
  · have hj3 : j = j / 3 * 3 + 1 := by omega
    rw [hj3] at hu ⊢
    rw [m1] at hu
    rw [← hu]; simpa [Nat.add_assoc] using k1
  · have hj3 : j = j / 3 * 3 + 2 := by omega
    rw [hj3] at hu ⊢
    rw [m2] at hu
    rw [← hu]; simpa [Nat.add_assoc] using k2
theorem run_app_rdG {w : World} {base : Nat} {v : Value} {l0 : List Ed} (hown : OwnE w base v l0) {B : Nat} {ad : Addr} {m c : Nat} {l : List Ed} (hr : RdG w B (some ad) l) (hm : l.length = m)
    (h63 : l0.length + m ≤ maxLen) (hbytes : (l0.length + m) * 24 ≤ 140737488355328) (hbase : base ≤ w.heap.size) (ty : TypeId) :
    ∃ v' w', (Builtin.append_ #[31, 31] ty #[v, .slice (some ad) m c]).run Tryz.prog w = .ok v' w' ∧ w'.ownsRow base 79 3 v' (l0.length + m) (encE l0 ++ encE l) ∧ w.grownBy w' v.ownBlock := by
  obtain ⟨i0, hi, hz0, hz1, hz2⟩ := info_parts info_edge
  obtain ⟨v', w', hrun, h2, h3, _⟩ := run_append_own (P := Tryz.prog) w base 31 ty 79 i0 (.agg #[.int .i64 0, .int .i64 0, .int .i64 0]) 3 24 Tryz.underlying31 hi hz0 hz1 hz2 rfl (by decide) v l0.length _ hown ad m c (encE l) (by rw [encE_len, hm]) (rdG_at hr rfl)
      (fun u hu => by
        unfold encE at hu
        obtain ⟨x, _, hx⟩ := List.mem_flatMap.1 hu
        simp at hx
        rcases hx with rfl | rfl | rfl <;> rfl) h63 hbytes hbase
  exact ⟨v', w', hrun, h2, h3⟩
theorem wpList_app_rdG {w : World} {ops : Array Oper} {rest : List Oper} {o : Oper} {a : Act} {Q : Exit → Act → World → Prop} (hgd : o.guard = none) (s x : Operand)
    (ho : o.op = .call { callee := .builtin .append, args := #[s, x], argTypes := #[31, 31] }) (base : Nat) (v : Value) (l0 : List Ed) (hs : a.eval s = v) (hown : OwnE w base v l0)
    (B : Nat) (ad : Addr) (m c : Nat) (l : List Ed) (hx : a.eval x = .slice (some ad) m c) (hr : RdG w B (some ad) l) (hm : l.length = m) (h63 : l0.length + m ≤ maxLen) (hbytes : (l0.length + m) * 24 ≤ 140737488355328) (hbase : base ≤ w.heap.size)
    (h : ∀ v' w', w'.ownsRow base 79 3 v' (l0.length + m) (encE l0 ++ encE l) → w.grownBy w' v.ownBlock → wpList Tryz.prog ops Q rest (a.put o.dst v') w') : wpList Tryz.prog ops Q (o :: rest) a w := by
  refine wpList_plain hgd fun K hK => ?_
  obtain ⟨v', w', hrun, h2, h3⟩ := run_app_rdG hown hr hm h63 hbytes hbase o.type (c := c)
  unfold Oper.wp execOp
  simp only [ho, resolve, invoke, builtin, Sem.run_bind, Sem.run_pure, Result.andThen_ok, List.map_toArray, List.map_cons, List.map_nil, hs, hx, hrun]
  exact hK _ _ (h v' w' h2 h3)
set_option maxHeartbeats 800000 in
set_option maxRecDepth 4000 in
theorem cloneEd_any (A : Option Addr) (n c : Nat) (l : List Ed) (w : World) (hx : RdG w w.heap.size A l) (hn : l.length = n) (hb : n ≤ 1000000) :
    Calls Tryz.prog 67 #[.slice A n c] w fun e w' => ∃ v, e = .returned v ∧ OwnE w' w.heap.size v l ∧ Below w.heap.size w w' := by
  rcases A with _ | ad
  · have hz : l = [] := by
      rcases Nat.eq_zero_or_pos l.length with h | h
      · exact List.eq_nil_of_length_eq_zero h
      · obtain ⟨b, o, e, _⟩ := hx h; cases e
    subst hz
    obtain rfl : n = 0 := hn.symm
    clear hx hn
    have hq := cloNil_yes 0 c
    go_enter Tryz.func67, Tryz.ntmps67
    go_wp2_with fail
    go_ret
    exact ⟨_, rfl, World.ownsRow_nil _ _ _ _, Below.refl _ _⟩
  · have HX := Lib.hid hx
    have HN := Lib.hid hn
    clear hx hn
    have hq := cloNil_no ad n c
    go_enter Tryz.func67, Tryz.ntmps67
    have hb1 : Below w.heap.size w (w.alloc (.cells #[] 79)) := (Below.refl _ _).alloc (Nat.le_refl _) _
    have hown0 : OwnE (w.alloc (.cells #[] 79)) w.heap.size (.slice (some ⟨w.heap.size, 0, none⟩) 0 0) [] := World.ownsRow_lit (e := 79) (size := 3) w #[] 0 (Nat.le_refl w.heap.size) (by unfold maxLen; omega) rfl
    have HO := Lib.hid hown0
    have HB1 := Lib.hid hb1
    clear hb1 hown0
    go_wp2_with (at_builtin; refine wpList_app_rdG rfl (.tmp 5) (.tmp 6) rfl w.heap.size _ [] rfl HO.out w.heap.size ad n c l rfl (HX.out.below HB1.out (Nat.le_refl _)) HN.out (by unfold maxLen; simp; omega) (by simp; omega) (by simp) ?_)
    intro v' w1 hown1 hgrow
    have R := HB1.out.trans ((Below.refl w.heap.size _).grown hgrow (by simp) (fun k hk => (HO.out.lt k hk).1))
    have R1 := Lib.hid (show OwnE w1 w.heap.size v' l by unfold OwnE; rw [HN.out]; simpa [encE] using hown1)
    clear hown1 hgrow
    go_wp2_with fail
    go_ret
    exact ⟨v', rfl, R1.out, R⟩
end Go.Proofs.YtaadhpkpekmfoaaGreat

/- Layer 7: the inverse projection as the program makes it: loops behind the edges, then sorted. -/
namespace Go.Proofs.YtaadhpkpekmfoaaGreat

theorem pw_ext {α : Type} {r : α → α → Prop} (ir : ∀ x, ¬ r x x) (asy : ∀ x y, r x y → ¬ r y x) : ∀ l1 l2 : List α, l1.Pairwise r → l2.Pairwise r → (∀ x, x ∈ l1 ↔ x ∈ l2) → l1 = l2
  | [], [], _, _, _ => rfl
  | [], y :: l2, _, _, h => absurd ((h y).2 (by simp)) (by simp)
  | x :: l1, [], _, _, h => absurd ((h x).1 (by simp)) (by simp)
  | x :: l1, y :: l2, h1, h2, h => by
    rw [List.pairwise_cons] at h1 h2
    have e : x = y := by
      rcases List.mem_cons.1 ((h x).1 (by simp)) with e | hx
      · exact e
      · rcases List.mem_cons.1 ((h y).2 (by simp)) with e | hy
        · exact e.symm
        · exact absurd (h1.1 y hy) (asy _ _ (h2.1 x hx))
    subst e
    rw [pw_ext ir asy l1 l2 h1.2 h2.2 fun z => ?_]
    constructor
    · intro hz
      rcases List.mem_cons.1 ((h z).1 (List.mem_cons_of_mem _ hz)) with e | hz2
      · subst e; exact absurd (h1.1 z hz) (ir z)
      · exact hz2
    · intro hz
      rcases List.mem_cons.1 ((h z).2 (List.mem_cons_of_mem _ hz)) with e | hz2
      · subst e; exact absurd (h2.1 z hz) (ir z)
      · exact hz2
/-- Loops by an event. -/
def lpsL (x : Int) (k : Nat) : List Ed := (List.range k).map fun (s : Nat) => ⟨(s : Int), x, (s : Int)⟩
def addL (a : Au) (zs : List Int) : List Ed := zs.flatMap fun x => if x ∈ a.al then [] else lpsL x a.st.toNat
theorem lps_succ (x : Int) (k : Nat) : lpsL x (k + 1) = lpsL x k ++ [⟨(k : Int), x, (k : Int)⟩] := by
  unfold lpsL; rw [List.range_succ, List.map_append]; rfl
theorem lps_len (x : Int) (k : Nat) : (lpsL x k).length = k := by simp [lpsL]
theorem add_snoc (a : Au) (zs : List Int) (x : Int) : addL a (zs ++ [x]) = addL a zs ++ (if x ∈ a.al then [] else lpsL x a.st.toNat) := by simp [addL]
theorem mem_addL {a : Au} {zs : List Int} {y : Ed} : y ∈ addL a zs ↔ y.e ∈ zs ∧ y.e ∉ a.al ∧ y.t = y.f ∧ ∃ s : Nat, s < a.st.toNat ∧ y.f = (s : Int) := by
  unfold addL
  rw [List.mem_flatMap]
  constructor
  · rintro ⟨x, hx, hy⟩
    split at hy
    · cases hy
    · next hn =>
      obtain ⟨s, hs, rfl⟩ := List.mem_map.1 hy
      exact ⟨hx, hn, rfl, s, List.mem_range.1 hs, rfl⟩
  · rintro ⟨hx, hn, ht, s, hs, hf⟩
    refine ⟨y.e, hx, ?_⟩
    rw [if_neg hn]
    exact List.mem_map.2 ⟨s, List.mem_range.2 hs, by obtain ⟨f, e, t⟩ := y; simp only at ht hf ⊢; rw [ht, hf]⟩
theorem add_len (a : Au) : ∀ zs, (addL a zs).length ≤ zs.length * a.st.toNat
  | [] => by simp [addL]
  | x :: r => by
    have ih := add_len a r
    have e : addL a (x :: r) = (if x ∈ a.al then [] else lpsL x a.st.toNat) ++ addL a r := by simp [addL]
    rw [e, List.length_append, List.length_cons, Nat.succ_mul]
    have : (if x ∈ a.al then [] else lpsL x a.st.toNat).length ≤ a.st.toNat := by split <;> simp [lps_len]
    omega
theorem ltE_or {x y : Ed} (h : x.e ≠ y.e) : ltE x y ∨ ltE y x := by unfold ltE; omega
theorem ltE_as {x y : Ed} (h : ltE x y) : ¬ ltE y x := by unfold ltE at *; omega
theorem add_keys {a : Au} (h : RightW a) {zs : List Int} (hz : zs.Pairwise (· < ·)) : (a.ed ++ addL a zs).Pairwise fun x y => ltE x y ∨ ltE y x := by
  rw [List.pairwise_append]
  refine ⟨h.edo.imp fun h => .inl h, ?_, fun x hx y hy => ltE_or fun e => (mem_addL.1 hy).2.1 (by rw [← e]; exact (h.edr x hx).2.2)⟩
  unfold addL
  rw [List.pairwise_flatMap]
  refine ⟨fun x _ => ?_, hz.imp fun {x x'} hlt y hy z hz => ?_⟩
  · split
    · exact List.Pairwise.nil
    · unfold lpsL
      rw [List.pairwise_map]
      exact List.pairwise_lt_range.imp fun hab => .inl (.inl (Int.ofNat_lt.2 hab))
  · split at hy
    · cases hy
    · split at hz
      · cases hz
      · obtain ⟨_, _, rfl⟩ := List.mem_map.1 hy
        obtain ⟨_, _, rfl⟩ := List.mem_map.1 hz
        exact ltE_or (by show x ≠ x'; omega)
/-- What the program makes is the inverse projection. -/
theorem inv_eq {a : Au} (h : RightW a) {al2 zs : List Int} (h2 : ∀ x ∈ al2, 0 ≤ x ∧ x < 32) {L : List Ed} (hz : zs.Pairwise (· < ·)) (hm : ∀ x, x ∈ zs ↔ x ∈ a.al ∨ x ∈ al2) (hp : L.Perm (a.ed ++ addL a zs)) (hs : L.Pairwise fun x y => ¬ ltE y x) :
    (⟨zs, a.st, a.mr, L⟩ : Au) = invA a al2 := by
  have hst := h.st0
  have hr := inv_right h al2
  have e1 : zs = (invA a al2).al := pw_ext (r := fun x y : Int => x < y) (fun x => Int.lt_irrefl x) (fun x y h => by omega) _ _ hz hr.alo fun x => by rw [hm, mem_inv_al h h2]
  have e2 : a.st = (invA a al2).st := (inv_st h al2).symm
  have e3 : a.mr = (invA a al2).mr := pw_ext (r := fun x y : Int => x < y) (fun x => Int.lt_irrefl x) (fun x y h => by omega) _ _ h.mro hr.mro fun x => by
    show x ∈ a.mr ↔ x ∈ ((List.range a.st.toNat).filter fun (y : Nat) => decide ((y : Int) ∈ a.mr)).map fun (y : Nat) => (y : Int)
    rw [List.mem_map]
    constructor
    · intro hx
      have := h.mrr x hx
      exact ⟨x.toNat, List.mem_filter.2 ⟨List.mem_range.2 (by omega), by rw [show ((x.toNat : Nat) : Int) = x by omega]; simpa using hx⟩, by omega⟩
    · rintro ⟨y, hy, rfl⟩
      simpa using (List.mem_filter.1 hy).2
  have e4 : L = (invA a al2).ed := by
    refine pw_ext (r := ltE) (fun x => by unfold ltE; omega) (fun x y => ltE_as) _ _ ?_ hr.edo fun y => ?_
    · have hk := (hp.pairwise_iff (R := fun x y => ltE x y ∨ ltE y x) (fun h => h.symm)).2 (add_keys h hz)
      exact (hk.and hs).imp fun h => h.1.resolve_right h.2
    · rw [hp.mem_iff, List.mem_append, mem_addL]
      show _ ↔ y ∈ (codA (invC a al2)).ed
      rw [cod_edge]
      show _ ↔ ∃ x : Nat, x < a.st.toNat ∧ y.f = (x : Int) ∧ y.e ∈ (invA a al2).al ∧ ∃ t, (if y.e ∈ a.al then stepO a (x : Int) y.e else some (x : Int)) = some t ∧ y.t = t
      rw [← e1]
      constructor
      · rintro (hy | ⟨hz1, hn, ht, s, hs1, hf⟩)
        · obtain ⟨hf, ht, he⟩ := h.edr y hy
          refine ⟨y.f.toNat, by omega, by omega, (hm _).2 (.inl he), y.t, ?_, rfl⟩
          rw [if_pos he, show ((y.f.toNat : Nat) : Int) = y.f by omega, stepO, (edgeO_some h.edo).2 ⟨hy, rfl, rfl⟩]; rfl
        · exact ⟨s, hs1, hf, hz1, (s : Int), by rw [if_neg hn], by rw [ht, hf]⟩
      · rintro ⟨x, hx, hf, he, t, ht, htt⟩
        split at ht
        · next hin =>
          left
          cases hy : edgeO a.ed (x : Int) y.e with
          | none => rw [stepO, hy] at ht; cases ht
          | some z =>
            rw [stepO, hy] at ht
            injection ht with ht
            obtain ⟨k1, k2, k3⟩ := (edgeO_some h.edo).1 hy
            have : y = z := by
              obtain ⟨f, e, t'⟩ := y
              obtain ⟨f', e', t''⟩ := z
              simp only at hf k2 k3 ht htt ⊢
              rw [hf, k2, k3, htt, ht]
            rw [this]; exact k1
        · next hin =>
          injection ht with ht
          exact .inr ⟨he, hin, by rw [htt, hf, ht], x, hx, hf⟩
  have : (⟨zs, a.st, a.mr, L⟩ : Au) = ⟨(invA a al2).al, (invA a al2).st, (invA a al2).mr, (invA a al2).ed⟩ := by rw [← e1, ← e2, ← e3, ← e4]
  exact this
end Go.Proofs.YtaadhpkpekmfoaaGreat

/- Layer 3: an automaton that is being built in a box, its alphabet too. -/
namespace Go.Proofs.YtaadhpkpekmfoaaGreat
open Go.RowKit Go.Sort

/-- An automaton that is being built in box bc: below block b1 all is as it was; its alphabet and its edges lie in rows of its own. -/
structure Ba (w1 : World) (b1 bc : Nat) (s : Int) (vm : Value) (wr : World) (al : List Int) (va : Value) (es : List Ed) (ve : Value) : Prop where
  bel : Below b1 w1 wr
  cb : Row wr bc 33 [va, .int .i64 s, vm, ve]
  ao : Own wr b1 va al
  eo : OwnE wr b1 ve es
  h1 : b1 ≤ bc
section
variable {w1 wr w2 : World} {b1 bc : Nat} {va vm ve va' ve' : Value} {s : Int} {al : List Int} {es : List Ed}
theorem Ba.h2 (h : Ba w1 b1 bc s vm wr al va es ve) : bc < wr.heap.size := h.cb.lt
theorem Ba.call (h : Ba w1 b1 bc s vm wr al va es ve) (hb : Below wr.heap.size wr w2) : Ba w1 b1 bc s vm w2 al va es ve :=
  ⟨h.bel.trans (hb.mono (Nat.le_of_lt (Nat.lt_of_le_of_lt h.h1 h.h2))), h.cb.below hb h.h2, own_below h.ao hb, own_below h.eo hb, h.h1⟩
theorem Ba.alloc (h : Ba w1 b1 bc s vm wr al va es ve) (o : Obj) : Ba w1 b1 bc s vm (wr.alloc o) al va es ve := h.call ((Below.refl _ wr).alloc (Nat.le_refl _) o)
theorem Ba.drew (h : Ba w1 b1 bc s vm wr al va es ve) : Ba w1 b1 bc s vm wr.drew al va es ve := ⟨h.bel.drew, h.cb, h.ao, h.eo, h.h1⟩
theorem Ba.drewN (h : Ba w1 b1 bc s vm wr al va es ve) (q : Nat) : Ba w1 b1 bc s vm (wr.drewN q) al va es ve := ⟨below_drewN h.bel q, h.cb, h.ao, h.eo, h.h1⟩
theorem Ba.neA (h : Ba w1 b1 bc s vm wr al va es ve) : some bc ≠ va.ownBlock := fun e => row_ne_own h.cb h.ao (by decide) e.symm
theorem Ba.neE (h : Ba w1 b1 bc s vm wr al va es ve) : some bc ≠ ve.ownBlock := fun e => row_ne_own h.cb h.eo (by decide) e.symm
/-- An edge is appended. -/
theorem Ba.edge {x : Ed} (h : Ba w1 b1 bc s vm wr al va es ve) (hg : wr.grownBy w2 ve.ownBlock) (ho : OwnE w2 b1 ve' (es ++ [x])) :
    Ba w1 b1 bc s vm (w2.setCell ⟨bc, 3, none⟩ ve') al va (es ++ [x]) ve' := by
  have g2 := h.h2
  have g1 := h.h1
  have hne := h.neE
  refine ⟨h.bel.trans (((Below.refl b1 wr).grown hg (by omega) (fun k hk => (h.eo.lt k hk).1)).setCell (p := ⟨bc, 3, none⟩) h.h1 _), ?_, ?_, ?_, h.h1⟩
  · exact (h.cb.grown hg (fun e => hne e.symm)).set 3 ve'
  · have h3 := own_row h.ao hg (owns_ne h.ao h.eo (by decide))
    exact ownsRow_setCell_other h3 (a := ⟨bc, 3, none⟩) (row_ne_own (h.cb.grown hg (fun e => hne e.symm)) h3 (by decide)) ve'
  · exact ownsRow_setCell_other ho (a := ⟨bc, 3, none⟩) (row_ne_own (h.cb.grown hg (fun e => hne e.symm)) ho (by decide)) ve'
/-- An event is appended. -/
theorem Ba.event {x : Int} (h : Ba w1 b1 bc s vm wr al va es ve) (hg : wr.grownBy w2 va.ownBlock) (ho : Own w2 b1 va' (al ++ [x])) :
    Ba w1 b1 bc s vm (w2.setCell ⟨bc, 0, none⟩ va') (al ++ [x]) va' es ve := by
  have g2 := h.h2
  have g1 := h.h1
  have hne := h.neA
  refine ⟨h.bel.trans (((Below.refl b1 wr).grown hg (by omega) (fun k hk => (h.ao.lt k hk).1)).setCell (p := ⟨bc, 0, none⟩) h.h1 _), ?_, ?_, ?_, h.h1⟩
  · exact (h.cb.grown hg (fun e => hne e.symm)).set 0 va'
  · exact ownsRow_setCell_other ho (a := ⟨bc, 0, none⟩) (row_ne_own (h.cb.grown hg (fun e => hne e.symm)) ho (by decide)) va'
  · have h3 := own_row h.eo hg (owns_ne h.eo h.ao (by decide))
    exact ownsRow_setCell_other h3 (a := ⟨bc, 0, none⟩) (row_ne_own (h.cb.grown hg (fun e => hne e.symm)) h3 (by decide)) va'
end
/-- The values of a number's append, laid open. -/
theorem int_app {w : World} {b1 l : Nat} {v : Value} {K : List Int} {x : Int} (hl : l = K.length) (hown : w.ownsRow b1 3 1 v (l + 1) (K.map (Value.int .i64) ++ [.int .i64 x])) : ∃ A c, v = .slice A (l + 1) c ∧ Own w b1 v (K ++ [x]) := by
  subst hl
  have h : Own w b1 v (K ++ [x]) := by simpa [Own] using hown
  obtain ⟨A, c, e, _, _, _⟩ := own_rdc h
  exact ⟨A, c, by simpa using e, h⟩
theorem ed_app {w : World} {b1 l : Nat} {v : Value} {K : List Ed} {x : Ed} (hl : l = K.length) (hown : w.ownsRow b1 79 3 v (l + 1) (encE K ++ [.int .i64 x.f, .int .i64 x.e, .int .i64 x.t])) : ∃ A c, v = .slice A (l + 1) c ∧ OwnE w b1 v (K ++ [x]) := by
  subst hl
  have h : OwnE w b1 v (K ++ [x]) := by unfold OwnE; rw [encE_app, List.length_append]; exact hown
  obtain ⟨A, c, e, _, _, _⟩ := ownE_rd h
  exact ⟨A, c, by simpa using e, h⟩
end Go.Proofs.YtaadhpkpekmfoaaGreat
