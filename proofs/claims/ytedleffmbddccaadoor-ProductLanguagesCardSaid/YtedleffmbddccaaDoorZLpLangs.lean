/- Layer 6: the law of products and languages, walked. -/
import Derived.Test.YtedleffmbddccaaDoorZlR
import Derived.Test.YtedleffmbddccaaDoorZlF
import Derived.Test.YtedleffmbddccaaDoorZa11
import Derived.Deep.CutBlock
import Derived.BigQuiet
set_option linter.unusedVariables false
set_option linter.unusedSimpArgs false
set_option linter.unusedSectionVars false
namespace Go.Proofs.YtedleffmbddccaaDoor
open Go.RowKit Go.Sort

theorem rd_atL {W : World} {B : Nat} {A : Option Addr} {l : List Au} (hr : RdAs W B A l) {j : Nat} {a : Au} (hj : l[j]? = some a) : ∃ b o, A = some ⟨b, o, none⟩ ∧ b < B ∧ AuAt W B b (o + j * 4) a := by
  obtain ⟨b, off, e, hb, hc⟩ := hr (Nat.lt_of_le_of_lt (Nat.zero_le _) (List.getElem?_eq_some_iff.1 hj).1)
  exact ⟨b, off, e, hb, hc j a hj⟩
theorem all_take {l : List Au} {f : Au → Bool} {k : Nat} {a : Au} (h : l[k]? = some a) : (l.take (k + 1)).all f = ((l.take k).all f && f a) := by
  obtain ⟨hl, e⟩ := List.getElem?_eq_some_iff.1 h
  rw [List.take_succ_eq_append_getElem hl, List.all_append, e]
  simp
theorem g_proj {w : World} {A C : Option Addr} {n c m d : Nat} {xs : List Int} {a : Au} (hr : RightW a) (hx : RdI w w.heap.size A xs) (hy : RdI w w.heap.size C a.al) (hn : xs.length = n) (hm : a.al.length = m) (hb : n ≤ 6) : Calls Tryd.prog 40 #[.slice A n c, .slice C m d] w fun e w' => ∃ B l q, e = .returned (.slice B l q) ∧ (pjW a xs).length = l ∧ l ≤ 6 ∧ RdI w' w'.heap.size B (pjW a xs) ∧ Below w.heap.size w w' :=
  (prj.wProject_any A C n c m d xs a.al w hx hy hn hm (by omega) (by have := al_len hr; omega) hr.up).mono fun e w' hh => by
    obtain ⟨B, q, e1, h1, h2, _⟩ := hh
    exact ⟨B, _, q, e1, rfl, by have := List.length_filter_le (fun x => decide (x ∈ a.al)) xs; show (xs.filter fun x => decide (x ∈ a.al)).length ≤ 6; omega, h1, h2⟩
theorem g_gen {w : World} {A : Option Addr} {n c : Nat} {s : Int} {M : Option Addr} {m d : Nat} {E : Option Addr} {k g : Nat} {a : Au} {W1 : Option Addr} {l lc : Nat} {ws : List Int} {r : Bool} (hc : chkE a = 0) (hr : genB a ws = r) (h : AuR w w.heap.size A n c s M m d E k g a) (hw : RdI w w.heap.size W1 ws) (hl : ws.length = l) (hb : l ≤ 6) : Calls Tryd.prog 41 #[.agg #[.slice A n c, .int .i64 s, .slice M m d, .slice E k g], .slice W1 l lc] w fun e w' => e = .returned (.tuple #[.bool r, .int .i64 0]) ∧ Below w.heap.size w w' := by
  have := mGenerates_any A n c s M m d E k g a W1 l lc ws w h hw hl (by omega)
  rwa [genR, if_neg (by rw [hc]; simp), hr] at this
theorem g_acc {w : World} {A : Option Addr} {n c : Nat} {s : Int} {M : Option Addr} {m d : Nat} {E : Option Addr} {k g : Nat} {a : Au} {W1 : Option Addr} {l lc : Nat} {ws : List Int} {r : Bool} (hc : chkE a = 0) (hr : accB a ws = r) (h : AuR w w.heap.size A n c s M m d E k g a) (hw : RdI w w.heap.size W1 ws) (hl : ws.length = l) (hb : l ≤ 6) : Calls Tryd.prog 42 #[.agg #[.slice A n c, .int .i64 s, .slice M m d, .slice E k g], .slice W1 l lc] w fun e w' => e = .returned (.tuple #[.bool r, .int .i64 0]) ∧ Below w.heap.size w w' := by
  have := mAccepts_any A n c s M m d E k g a W1 l lc ws w h hw hl (by omega)
  rwa [accR, if_neg (by rw [hc]; simp), hr] at this

set_option maxHeartbeats 8000000 in
set_option maxRecDepth 100000 in
theorem lawLangs (A : Option Addr) (n c : Nat) (ps : List Pt) (A2 : Option Addr) (m d : Nat) (t : List Int) (w : World) (h : RdPs w w.heap.size A ps) (hn : ps.length = n) (hok : ∀ p ∈ ps, PtOk p) (h2 : RdB6 w w.heap.size A2 t) (hm : t.length = m) (hg : ∀ z ∈ t, (Lit.int .u8 z).wf = true) (hT : TabAt 0 Lib.deBruijn32tab w) :
    Calls Tryd.prog 12 #[.slice A n c, .slice A2 m d] w fun e w' => e = .returned (.bool true) ∧ Below w.heap.size w w' := by
  have hz := tab_pos hT
  have HTB := Lib.hid (fun W (hW : Below w.heap.size w W) => tab_below hT hW hz)
  have HK := Lib.hid (fun W (hW : Below w.heap.size w W) => known_any W (HTB.out W hW) (Nat.lt_of_lt_of_le hz hW.size))
  have HLi := Lib.hid (fun W (hW : Below w.heap.size w W) => list_any A n c ps W ((h.below hW (Nat.le_refl _)).more hW.size) hn hok)
  have HB := Lib.hid (Below.refl w.heap.size w)
  have HTU := Lib.hid h2
  have HM := Lib.hid hm
  have HG := Lib.hid hg
  clear h hn hok hT hz hg h2 hm
  go_enter Tryd.func12, Tryd.ntmps12
  go_wp2_with fail
  refine (HK.out _ HB.out).mono ?_
  rintro e w1 ⟨rfl, hb⟩
  have HB := Lib.hid (HB.out.trans (hb.mono HB.out.size))
  have HTU := Lib.hid ((HTU.out.below hb (Nat.le_refl _)).more hb.size)
  clear hb
  clear HK
  go_wp2_with fail
  refine (HLi.out _ HB.out).mono ?_
  rintro e w2 ⟨Al, cl, las, rfl, hl3, hrl, hok, _, _, hb⟩
  have HB := Lib.hid (HB.out.trans (hb.mono HB.out.size))
  have HTU := Lib.hid ((HTU.out.below hb (Nat.le_refl _)).more hb.size)
  clear hb
  obtain ⟨nl, hnl⟩ : ∃ nl, nl = las.length := ⟨_, rfl⟩
  rw [← hnl] at hl3 ⊢
  have hnl3 : nl ≤ 3 := by omega
  have HNL := Lib.hid hnl.symm
  have HAS := Lib.hid hrl
  have HSY := Lib.hid (las_syn hok (by omega))
  have HFN := las_fnd hok (by omega)
  have HRW := Lib.hid (las_rw hok)
  have HCK := Lib.hid (las_chk hok (by omega))
  have HOK := Lib.hid hok
  obtain ⟨pa, hpa⟩ : ∃ pa, pa = canA (prodA las) := ⟨_, rfl⟩
  have HPC := Lib.hid (show chkE pa = 0 by rw [hpa]; exact Right.chk ⟨can_right (prod_right HRW.out), by show ((fnd (prodA las)).length : Int) ≤ _; omega⟩)
  have HPA := Lib.hid hpa
  rw [← hpa] at HSY
  have HAR := Lib.hid (show alpR las = alT las by rw [alpR, if_neg (by rw [HCK.out]; simp)])
  clear hl3 hnl hrl hok HLi hpa HFN
  go_wp2_with fail
  refine (g_comp HAS.out HNL.out HSY.out).mono ?_
  rintro e w3 ⟨A1, n1, c1, s1, M1, m1, d1, E1, k1, g1, rfl, ha1, hb⟩
  have HB := Lib.hid (HB.out.trans (hb.mono HB.out.size))
  have HTU := Lib.hid ((HTU.out.below hb (Nat.le_refl _)).more hb.size)
  have HAS := Lib.hid ((HAS.out.below hb (Nat.le_refl _)).more hb.size)
  clear hb
  have HA1 := Lib.hid ha1
  clear ha1
  have HNEW := Lib.hid (Row.new w3 [.slice A1 n1 c1, .int .i64 s1, .slice M1 m1 d1, .slice E1 k1 g1] 34)
  have hb := (Below.refl w3.heap.size w3).alloc (Nat.le_refl _) (.cells #[.slice A1 n1 c1, .int .i64 s1, .slice M1 m1 d1, .slice E1 k1 g1] 34)
  have hzn : (w3.alloc (.cells #[.slice A1 n1 c1, .int .i64 s1, .slice M1 m1 d1, .slice E1 k1 g1] 34)).heap.size = w3.heap.size + 1 := by simp
  have HB := Lib.hid (HB.out.trans (hb.mono HB.out.size))
  have HTU := Lib.hid ((HTU.out.below hb (Nat.le_refl _)).more hb.size)
  have HAS := Lib.hid ((HAS.out.below hb (Nat.le_refl _)).more hb.size)
  have HA1 := Lib.hid ((HA1.out.below hb (Nat.le_refl _)).more hb.size)
  clear hb
  go_wp2_with fail
  obtain ⟨b_B1, hb_B1⟩ : ∃ b, b = w3.heap.size := ⟨_, rfl⟩
  rw [← hb_B1] at HNEW hzn ⊢
  clear hb_B1
  have HZN := Lib.hid hzn
  clear hzn
  generalize (w3.alloc (.cells #[.slice A1 n1 c1, .int .i64 s1, .slice M1 m1 d1, .slice E1 k1 g1] 34)) = w4 at *
  have B1 := HNEW
  clear HNEW
  refine (g_alph HAS.out HNL.out HAR.out HCK.out).mono ?_
  rintro e w5 ⟨A9, n9, c9, rfl, hn9, hr9, hb⟩
  have HB := Lib.hid (HB.out.trans (hb.mono HB.out.size))
  have HTU := Lib.hid ((HTU.out.below hb (Nat.le_refl _)).more hb.size)
  have HAS := Lib.hid ((HAS.out.below hb (Nat.le_refl _)).more hb.size)
  have HA1 := Lib.hid ((HA1.out.below hb (Nat.le_refl _)).more hb.size)
  have B1 := Lib.hid (B1.out.below hb B1.out.lt)
  clear hb
  have HN9 := Lib.hid hn9
  have HR9 := Lib.hid hr9
  have hn32 : n9 ≤ 32 := by rw [← hn9]; exact alT_len HRW.out
  clear hn9 hr9
  have HWT := Lib.hid (fun W (hW : Below w5.heap.size w5 W) => hW)
  obtain ⟨al, hal⟩ : ∃ al, al = alT las := ⟨_, rfl⟩
  have HAL := Lib.hid hal
  rw [← hal] at HN9 HR9
  clear hal HWT
  obtain ⟨iI, iI0, iI1, iI2, iI3⟩ := info_parts info_int
  go_upto_block 0 with fail
  go_cut [10, 11] from 44 to 72 (fun vw _ wx => ∃ (A10 : Option Addr) (n10 c10 : Nat) (K : List Int), vw = .slice A10 n10 c10 ∧ K.length = n10 ∧ n10 ≤ 6 ∧ Hid (RdI wx wx.heap.size A10 K) ∧ Hid (∀ x ∈ K, x ∈ al) ∧ Hid (Below w5.heap.size w5 wx))
  case first =>
    go_wp2_with fail
    go_loopw [10, 11] (fun vw i wr => ∃ (k : Nat) (K : List Int), k ≤ 6 ∧ k ≤ m ∧ (0 < n9 ∨ k = 0) ∧ i = .int .i64 k ∧ K.length = k ∧ Hid (Below w5.heap.size w5 wr) ∧ Hid (prj.Own wr w5.heap.size vw K) ∧ Hid (∀ x ∈ K, x ∈ al)) (fun _ i _ => m - (intOf i).toNat)
    case atStart => exact ⟨0, [], by omega, Nat.zero_le _, .inr rfl, rfl, rfl, Lib.hid (Below.refl _ _), Lib.hid (World.ownsRow_nil _ _ _ _), Lib.hid (by simp)⟩
    case round =>
      obtain ⟨k, K, hk6, hkm, hk0, rfl, hKk, hbel, hown, hin⟩ := hrel
      have hbs := hbel.out.size
      by_cases htl : k < m ∧ k < 6 ∧ 0 < n9
      · obtain ⟨h1, h2, h3⟩ := htl
        have z1 : (k : Int) < (m : Int) := by omega
        have z0 : (0 : Int) ≤ (k : Int) := by omega
        have z5 : (k : Int) < 6 := by omega
        have z4 : (0 : Int) < (n9 : Int) := by omega
        obtain ⟨bw, ow, rfl, hbw, hcw⟩ := HTU.out (by rw [HM.out]; omega)
        have hz1 : k < t.length := by rw [HM.out]; exact h1
        obtain ⟨xb, hxb⟩ : ∃ xb, xb = t.getD k 0 := ⟨_, rfl⟩
        have hxr := wf_b6 (HG.out xb (by rw [hxb]; exact getD_mem hz1))
        have hx0 := hxr.1
        have hx1 := hxr.2
        have cw : wr.cell? ⟨bw, ow + k, none⟩ = some (.int .u8 xb) := by
          rw [hbel.out.cell (p := ⟨bw, ow + k, none⟩) hbw, hcw k hz1, hxb]
        have hn1 : (n9 : Int) ≠ 0 := by omega
        have hnb : ((n9 : Int) == 0) = false := by simp; omega
        obtain ⟨Q, hQ⟩ : ∃ Q : Nat, xb % (n9 : Int) = (Q : Int) := ⟨(xb % (n9 : Int)).toNat, by have := Int.emod_nonneg xb hn1; omega⟩
        have hQn : Q < n9 := by have := Int.emod_lt_of_pos xb (show (0 : Int) < (n9 : Int) by omega); omega
        have hQt : xb.tmod (n9 : Int) = (Q : Int) := by rw [Int.tmod_eq_emod_of_nonneg hx0]; exact hQ
        have hQw : IntKind.i64.wrap (Q : Int) = (Q : Int) := IntWalk.i64_in _ (by omega)
        have hxw : IntKind.i64.wrap xb = xb := IntWalk.i64_in _ (by omega)
        obtain ⟨bA, oA, rfl, hbA, hcA⟩ := HR9.out (by rw [HN9.out]; exact h3)
        obtain ⟨ev, hev⟩ : ∃ ev, ev = al.getD Q 0 := ⟨_, rfl⟩
        have hQl : Q < al.length := by rw [HN9.out]; exact hQn
        have ca : wr.cell? ⟨bA, oA + Q, none⟩ = some (.int .i64 ev) := by
          rw [hbel.out.cell (p := ⟨bA, oA + Q, none⟩) hbA, hcA Q hQl, hev]
        have hin2 := Lib.hid (show ∀ x ∈ K ++ [ev], x ∈ al from fun x hx => by
          rcases List.mem_append.1 hx with h | h
          · exact hin.out x h
          · simp at h; rw [h, hev]; exact getD_mem hQl)
        have z2 : (Q : Int) < (n9 : Int) := by omega
        have z3 : (0 : Int) ≤ (Q : Int) := by omega
        have hbwr : bw < wr.heap.size := by omega
        have hbAr : bA < wr.heap.size := by omega
        clear hxb hcw hcA hev hxr hQl hz1
        go_wp2_with (at_builtin; refine wpList_append_own _ rfl _ _ 27 rfl w5.heap.size 3 iI (.int .i64 0) 1 8 Tryd.underlying27 iI0 iI1 iI2 iI3 rfl (by decide) _ K.length (K.map (Value.int .i64)) rfl (hown.out.alloc _) ⟨wr.heap.size, 0, none⟩ 1 1 [.int .i64 ev] rfl rfl ?c1 ?c2 ?c3 ?c4 ?c5 ?_)
        case c1 => exact prj.own_one
        case c2 => intro u hu; simp at hu; subst hu; rfl
        case c3 => unfold maxLen; omega
        case c4 => omega
        case c5 => simp; omega
        intro v' w6 hown' hgrow _
        have R := prj.own_app (K' := K ++ [ev]) rfl hbel.out hown.out (by rw [hKk]; exact hown') hgrow (Nat.le_refl _)
        have hO6 := Lib.hid R.1
        have hB6 := Lib.hid R.2
        clear R hown' hgrow
        go_wp2_with fail
        go_roundw
        case rel => exact ⟨k + 1, K ++ [ev], by omega, by omega, .inl h3, by go_num, by rw [List.length_append]; simp; omega, hB6, hO6, hin2⟩
        case measure => simp [intOf]; omega
      · have hthree : ¬ (k : Int) < (m : Int) ∨ ((k : Int) < (m : Int) ∧ ¬ (k : Int) < 6) ∨ ((k : Int) < (m : Int) ∧ (k : Int) < 6 ∧ ¬ (0 : Int) < (n9 : Int)) := by omega
        clear htl
        obtain ⟨A10, c10, rfl, hk10, _, _⟩ := prj.own_rdc hown.out
        rw [hKk]
        have HK10 := Lib.hid hk10
        clear hk10 hown
        rcases hthree with z1 | ⟨z1, z5⟩ | ⟨z1, z5, z4⟩
        all_goals
          go_wp2_with fail
          go_meet
          case rel => exact ⟨A10, _, c10, K, rfl, hKk, hk6, HK10, hin, hbel⟩
  case rest =>
    obtain ⟨A10, n10, c10, K, rfl, hKn, hn10, hrd, hin, hbx⟩ := hcut
    have hb := hbx.out
    have HB := Lib.hid (HB.out.trans (hb.mono HB.out.size))
    have HAS := Lib.hid ((HAS.out.below hb (Nat.le_refl _)).more hb.size)
    have HA1 := Lib.hid ((HA1.out.below hb (Nat.le_refl _)).more hb.size)
    have B1 := Lib.hid (B1.out.below hb B1.out.lt)
    obtain ⟨rg, hrg⟩ : ∃ r, r = las.all fun a => genB a (pjW a K) := ⟨_, rfl⟩
    obtain ⟨rm, hrm⟩ : ∃ r, r = las.all fun a => accB a (pjW a K) := ⟨_, rfl⟩
    have HG0 := Lib.hid (show genB pa K = rg by rw [hrg, HPA.out]; exact gen_syn HRW.out (by rw [← HAL.out]; exact hin.out))
    have HM0 := Lib.hid (show accB pa K = rm by rw [hrm, HPA.out]; exact acc_syn HRW.out (by rw [← HAL.out]; exact hin.out))
    have HRG := Lib.hid hrg
    have HRM := Lib.hid hrm
    have HKN := Lib.hid hKn
    have HRD := hrd
    clear hrg hrm hKn hrd hb hbx hin HN9 HR9 hn32 HTU
    go_wp2_with fail
    go_loopw [12, 13, 14] (fun gv mv i wr => ∃ (k : Nat) (g m : Bool), k ≤ nl ∧ gv = .bool g ∧ mv = .bool m ∧ i = .int .i64 k ∧ Hid (g = (las.take k).all fun a => genB a (pjW a K)) ∧ Hid (m = (las.take k).all fun a => accB a (pjW a K)) ∧ Hid (Below wc.heap.size wc wr)) (fun _ _ i _ => nl - (intOf i).toNat)
    case atStart => exact ⟨0, true, true, Nat.zero_le _, rfl, rfl, rfl, Lib.hid (by simp), Lib.hid (by simp), Lib.hid (Below.refl _ _)⟩
    case round =>
      obtain ⟨k, gg, mm, hk, rfl, rfl, rfl, hg, hm, hbel⟩ := hrel
      have hb := hbel.out
      have HB := Lib.hid (HB.out.trans (hb.mono HB.out.size))
      have HAS := Lib.hid ((HAS.out.below hb (Nat.le_refl _)).more hb.size)
      have HA1 := Lib.hid ((HA1.out.below hb (Nat.le_refl _)).more hb.size)
      have B1 := Lib.hid (B1.out.below hb B1.out.lt)
      have HRD := Lib.hid ((HRD.out.below hb (Nat.le_refl _)).more hb.size)
      clear hb
      by_cases htl : k < nl
      · obtain ⟨a, ha⟩ : ∃ a, las[k]? = some a := ⟨_, List.getElem?_eq_getElem (by rw [HNL.out]; exact htl)⟩
        have hma : a ∈ las := by obtain ⟨hl, e⟩ := List.getElem?_eq_some_iff.1 ha; rw [← e]; exact List.getElem_mem hl
        have HRa := Lib.hid (HRW.out a hma)
        have HCa := Lib.hid ((HOK.out a hma).chk)
        obtain ⟨bl, ol, rfl, hbl, A3, n3, c3, s3, M3, m3, d3, E3, k3, g3, p0, p1, p2, p3, hA3⟩ := rd_atL HAS.out ha
        have HA3 := Lib.hid hA3
        have HTG := Lib.hid (show (las.take (k + 1)).all (fun a => genB a (pjW a K)) = (gg && genB a (pjW a K)) by rw [all_take ha, ← hg.out])
        have HTM := Lib.hid (show (las.take (k + 1)).all (fun a => accB a (pjW a K)) = (mm && accB a (pjW a K)) by rw [all_take ha, ← hm.out])
        obtain ⟨r1, hr1⟩ : ∃ r, genB a (pjW a K) = r := ⟨_, rfl⟩
        obtain ⟨r2, hr2⟩ : ∃ r, accB a (pjW a K) = r := ⟨_, rfl⟩
        rw [hr1] at HTG
        rw [hr2] at HTM
        have HR1 := Lib.hid hr1
        have HR2 := Lib.hid hr2
        have z1 : (k : Int) < (nl : Int) := by omega
        have z0 : (0 : Int) ≤ (k : Int) := by omega
        clear ha hma hA3 hr1 hr2 hg hm
        go_wp2_with fail
        refine (g_proj HRa.out HRD.out HA3.out.al HKN.out HA3.out.hn hn10).mono ?_
        rintro e w6 ⟨A6, n6, c6, rfl, hn6, hn66, hr6, hb⟩
        have HN6 := Lib.hid hn6
        have HR6 := Lib.hid hr6
        have hbel := Lib.hid (hbel.out.trans (hb.mono hbel.out.size))
        have HA3 := Lib.hid ((HA3.out.below hb (Nat.le_refl _)).more hb.size)
        have p0 := (hb.cell (p := ⟨bl, ol + k * 4, none⟩) hbl).trans p0
        have p1 := (hb.cell (p := ⟨bl, ol + k * 4 + 1, none⟩) hbl).trans p1
        have p2 := (hb.cell (p := ⟨bl, ol + k * 4 + 2, none⟩) hbl).trans p2
        have p3 := (hb.cell (p := ⟨bl, ol + k * 4 + 3, none⟩) hbl).trans p3
        have hbl6 : bl < w6.heap.size := Nat.lt_of_lt_of_le hbl hb.size
        clear hb hn6 hr6
        go_wp2_with fail
        refine (g_gen HCa.out HR1.out HA3.out HR6.out HN6.out hn66).mono ?_
        rintro e w7 ⟨rfl, hb⟩
        have hbel := Lib.hid (hbel.out.trans (hb.mono hbel.out.size))
        have HA3 := Lib.hid ((HA3.out.below hb (Nat.le_refl _)).more hb.size)
        have HR6 := Lib.hid ((HR6.out.below hb (Nat.le_refl _)).more hb.size)
        have p0 := (hb.cell (p := ⟨bl, ol + k * 4, none⟩) hbl6).trans p0
        have p1 := (hb.cell (p := ⟨bl, ol + k * 4 + 1, none⟩) hbl6).trans p1
        have p2 := (hb.cell (p := ⟨bl, ol + k * 4 + 2, none⟩) hbl6).trans p2
        have p3 := (hb.cell (p := ⟨bl, ol + k * 4 + 3, none⟩) hbl6).trans p3
        clear hb
        go_wp2_with fail
        refine (g_acc HCa.out HR2.out HA3.out HR6.out HN6.out hn66).mono ?_
        rintro e w8 ⟨rfl, hb⟩
        have hbel := Lib.hid (hbel.out.trans (hb.mono hbel.out.size))
        clear hb p0 p1 p2 p3
        cases gg <;> cases mm
        all_goals
          go_wp2_with fail
          go_roundw
          case rel => exact ⟨k + 1, _, _, by omega, rfl, rfl, by go_num, Lib.hid HTG.out.symm, Lib.hid HTM.out.symm, hbel⟩
          case measure => simp [intOf]; omega
      · have z1 : ¬ (k : Int) < (nl : Int) := by omega
        have hkn : las.take k = las := List.take_of_length_le (by rw [HNL.out]; omega)
        have HGG := Lib.hid (show gg = rg by rw [hg.out, hkn, HRG.out])
        have HMM := Lib.hid (show mm = rm by rw [hm.out, hkn, HRM.out])
        rw [HGG.out, HMM.out]
        clear hkn hg hm
        have x0 := B1.out.cell 0 rfl
        have x1 := B1.out.cell 1 rfl
        have x2 := B1.out.cell 2 rfl
        have x3 := B1.out.cell 3 rfl
        have xl := B1.out.lt
        go_wp2_with fail
        refine (g_gen HPC.out HG0.out HA1.out HRD.out HKN.out hn10).mono ?_
        rintro e w6 ⟨rfl, hb⟩
        have HB := Lib.hid (HB.out.trans (hb.mono HB.out.size))
        have HA1 := Lib.hid ((HA1.out.below hb (Nat.le_refl _)).more hb.size)
        have HRD := Lib.hid ((HRD.out.below hb (Nat.le_refl _)).more hb.size)
        have x0 := (hb.cell (p := ⟨b_B1, 0, none⟩) xl).trans x0
        have x1 := (hb.cell (p := ⟨b_B1, 1, none⟩) xl).trans x1
        have x2 := (hb.cell (p := ⟨b_B1, 2, none⟩) xl).trans x2
        have x3 := (hb.cell (p := ⟨b_B1, 3, none⟩) xl).trans x3
        clear hb
        go_wp2_with fail
        refine (g_acc HPC.out HM0.out HA1.out HRD.out HKN.out hn10).mono ?_
        rintro e w7 ⟨rfl, hb⟩
        have HB := Lib.hid (HB.out.trans (hb.mono HB.out.size))
        clear hb x0 x1 x2 x3 xl
        have e1 : (rg == rg) = true := by simp
        have e2 : (rm == rm) = true := by simp
        go_wp2_with fail
        go_ret
        exact ⟨rfl, HB.out⟩
end Go.Proofs.YtedleffmbddccaaDoor
