/- Layer 7, the reference: Lift. -/
import Derived.Test.YtaadhpkpekmfoaaGreatZsNd
import Derived.BigQuiet
import Derived.Deep.RegionHeld3
import Derived.Deep.CutRange
set_option linter.unusedVariables false
set_option linter.unusedSimpArgs false
set_option linter.unusedSectionVars false
namespace Go.Proofs.YtaadhpkpekmfoaaGreat
open Go.RowKit Go.Sort

theorem info_nodeL0 : (Tryz.prog.info? 115).map (fun i => (i.zero, i.size, i.bytes)) = some (some (.agg #[.int .i64 0, .int .i64 0, .slice none 0 0]), 3, 40) := by kernel_rfl
theorem info_nodeL : ∃ iE, Tryz.prog.info? 115 = some iE ∧ iE.zero = some (.agg #[.int .i64 0, .int .i64 0, .slice none 0 0]) ∧ iE.size = 3 ∧ iE.bytes = 40 := by
  obtain ⟨i0, hi, hz0, hz1, hz2⟩ := info_parts info_nodeL0
  exact ⟨i0, hi, hz0, hz1, hz2⟩
theorem Row.set3 {W : World} {g : Nat} {e : TypeId} {a0 a1 a2 : Value} (b0 b1 b2 : Value) (h : Row W g e [a0, a1, a2]) : Row (((W.setCell ⟨g, 0, none⟩ b0).setCell ⟨g, 1, none⟩ b1).setCell ⟨g, 2, none⟩ b2) g e [b0, b1, b2] :=
  ((h.set 0 b0).set 1 b1).set 2 b2
theorem below_s3 {B g : Nat} {W0 W : World} (b0 b1 b2 : Value) (h : Below B W0 W) (hg : B ≤ g) : Below B W0 (((W.setCell ⟨g, 0, none⟩ b0).setCell ⟨g, 1, none⟩ b1).setCell ⟨g, 2, none⟩ b2) :=
  ((h.setCell (p := ⟨g, 0, none⟩) hg b0).setCell (p := ⟨g, 1, none⟩) hg b1).setCell (p := ⟨g, 2, none⟩) hg b2
/-- The box of the next node. -/
def NxB (wr W : World) (v : Value) (s : Int) (d : Nat) : Prop := ∃ bn, v = .pointer (some ⟨bn, 0, none⟩) ∧ wr.heap.size ≤ bn ∧ Row W bn 115 [.int .i64 s, .int .i64 (d : Int), .slice none 0 0] ∧ Below wr.heap.size wr W
theorem nxb_new {wr W : World} {s : Int} {d : Nat} (hb : Below wr.heap.size wr W) : NxB wr (W.alloc (.cells #[.int .i64 s, .int .i64 (d : Int), .slice none 0 0] 115)) (.pointer (some ⟨W.heap.size, 0, none⟩)) s d :=
  ⟨_, rfl, hb.size, Row.new W _ _, hb.alloc hb.size _⟩
theorem nxb_set {wr W : World} {s : Int} {d bn : Nat} {a0 a1 a2 : Value} (hb : Below wr.heap.size wr W) (hr : Row W bn 115 [a0, a1, a2]) (hbn : wr.heap.size ≤ bn) : NxB wr (((W.setCell ⟨bn, 0, none⟩ (.int .i64 s)).setCell ⟨bn, 1, none⟩ (.int .i64 (d : Int))).setCell ⟨bn, 2, none⟩ (.slice none 0 0)) (.pointer (some ⟨bn, 0, none⟩)) s d :=
  ⟨_, rfl, hbn, hr.set3 _ _ _, below_s3 _ _ _ hb hbn⟩
theorem tr_wlen (D : Au) : ∀ n, ∀ p ∈ Tr D n, p.2.length ≤ n
  | 0, p, hp => by simp [Tr] at hp; subst hp; simp
  | n + 1, p, hp => by
    have ih := tr_wlen D n
    rw [Tr] at hp
    cases h : (Tr D n)[n]? with
    | none => rw [h] at hp; exact Nat.le_trans (ih p hp) (by omega)
    | some r =>
      rw [h] at hp
      have hr := ih r (List.mem_of_getElem? h)
      have key : ∀ (l : List Ed) (T : List (Int × List Int)), (∀ p ∈ T, p.2.length ≤ n + 1) → ∀ p ∈ l.foldl (visP r.2) T, p.2.length ≤ n + 1 := by
        intro l
        induction l with
        | nil => intro T hT; exact hT
        | cons x l ihl =>
          intro T hT
          rw [List.foldl_cons]
          refine ihl _ fun p hp => ?_
          rcases visP_mem.1 hp with h1 | ⟨_, rfl⟩
          · exact hT p h1
          · simp; omega
      exact key _ _ (fun p hp => Nat.le_trans (ih p hp) (by omega)) p hp
def sB (ns : List Nd) (s dn : Int) (k : Nat) : Bool := (ns.take k).any fun x => decide (x.q = s) && decide ((x.d : Int) = dn)
theorem sB_succ {ns : List Nd} {s dn : Int} {k : Nat} {x : Nd} (hx : ns[k]? = some x) : sB ns s dn (k + 1) = (sB ns s dn k || (decide (x.q = s) && decide ((x.d : Int) = dn))) := by
  unfold sB
  rw [List.take_add_one, hx, List.any_append]
  simp
theorem sB_all {a : Au} {ob : List Int} {ns : List Nd} {T : List (Int × List Int)} (h : NI a ob ns T) {s dn : Int} {d : Nat} (hd : dn = (d : Int)) (hp : PlOk a ob (d, s)) : sB ns s dn ns.length = decide ((d : Int) * a.st + s ∈ T.map Prod.fst) := by
  unfold sB
  rw [List.take_length, Bool.eq_iff_iff, List.any_eq_true, decide_eq_true_eq, ← h.seen hp]
  constructor
  · rintro ⟨x, hx, h1⟩
    simp only [Bool.and_eq_true, decide_eq_true_eq] at h1
    exact ⟨x, hx, h1.1, by omega⟩
  · rintro ⟨x, hx, h1, h2⟩
    exact ⟨x, hx, by simp [h1, h2, hd]⟩
/-- What the reference's Lift hands back. -/
def LfR (a : Au) (onto ob : List Int) (mk : Bool) (w w' : World) (e : Ending) : Prop :=
  ∃ (A1 : Option Addr) (n1 c1 : Nat), e = .returned (.tuple #[.slice A1 n1 c1, .bool (lfO a onto ob mk).isSome]) ∧ RdI w' w'.heap.size A1 ((lfO a onto ob mk).getD []) ∧ ((lfO a onto ob mk).getD []).length = n1 ∧ Below w.heap.size w w'
set_option maxHeartbeats 2000000 in
set_option maxRecDepth 100000 in
theorem r7Lift_none (A : Option Addr) (n c : Nat) (s : Int) (M : Option Addr) (m d : Nat) (E : Option Addr) (k g : Nat) (a : Au) (A3 : Option Addr) (n3 c3 : Nat) (onto : List Int) (A2 : Option Addr) (n2 c2 : Nat) (ob : List Int) (mk : Bool) (w : World) (h : AuR w w.heap.size A n c s M m d E k g a) (h0 : a.st = 0) :
    Calls Tryz.prog 32 #[.agg #[.slice A n c, .int .i64 s, .slice M m d, .slice E k g], .slice A3 n3 c3, .slice A2 n2 c2, .bool mk] w fun e w' => LfR a onto ob mk w w' e := by
  have hb1 := (Below.refl w.heap.size w).alloc (Nat.le_refl _) (.cells #[.slice A n c, .int .i64 s, .slice M m d, .slice E k g] 33)
  have HB1 := Lib.hid hb1
  have HX := Lib.hid (BoxA.made w A n c s M m d E k g 33)
  have HL := Lib.hid (show lfO a onto ob mk = none by unfold lfO; rw [if_pos h0])
  obtain rfl : s = 0 := by have := h.st; omega
  clear h h0 hb1
  obtain ⟨p0, p1, p2, p3⟩ := HX.out
  go_enter Tryz.func32, Tryz.ntmps32
  go_wp2_with fail
  generalize (w.alloc (.cells #[.slice A n c, .int .i64 0, .slice M m d, .slice E k g] 33)) = w1 at *
  go_loopw [10, 11] (fun v i wr => v = .slice none 0 0 ∧ i = .int .i64 0 ∧ wr = w1) (fun _ _ _ => 0)
  case atStart => exact ⟨rfl, rfl, rfl⟩
  case round =>
    obtain ⟨rfl, rfl, rfl⟩ := hrel
    go_wp2_with fail
    go_ret2
    exact ⟨none, 0, 0, by rw [HL.out]; rfl, fun h => absurd h (by rw [HL.out]; simp), by rw [HL.out]; rfl, HB1.out⟩
set_option maxHeartbeats 16000000 in
set_option maxRecDepth 100000 in
theorem r7Lift_some (A : Option Addr) (n c : Nat) (s : Int) (M : Option Addr) (m d : Nat) (E : Option Addr) (k g : Nat) (a : Au) (A3 : Option Addr) (n3 c3 : Nat) (onto : List Int) (A2 : Option Addr) (n2 c2 : Nat) (ob : List Int) (mk : Bool) (w : World) (h : AuR w w.heap.size A n c s M m d E k g a) (hri : RightW a) (hs4 : a.st ≤ 100) (h0 : 0 < a.st) (hx3 : RdI w w.heap.size A3 onto) (hn3 : onto.length = n3) (hb3 : n3 ≤ 100000) (hx2 : RdI w w.heap.size A2 ob) (hn2 : ob.length = n2) (hb2 : n2 ≤ 10) :
    Calls Tryz.prog 32 #[.agg #[.slice A n c, .int .i64 s, .slice M m d, .slice E k g], .slice A3 n3 c3, .slice A2 n2 c2, .bool mk] w fun e w' => LfR a onto ob mk w w' e := by
  obtain ⟨S, hS⟩ : ∃ S : Nat, s = (S : Int) := ⟨a.st.toNat, by have := hri.st0; have := h.st; omega⟩
  subst hS
  have HST := Lib.hid h.st
  have hS0 : (0 : Int) < (S : Int) := by have := h.st; omega
  have hb1 := (Below.refl w.heap.size w).alloc (Nat.le_refl _) (.cells #[.slice A n c, .int .i64 (S : Int), .slice M m d, .slice E k g] 33)
  have HB1 := Lib.hid hb1
  have HX := Lib.hid (BoxA.made w A n c (S : Int) M m d E k g 33)
  have HSP := Lib.hid (fun W (hW : Below w.heap.size w W) (q ev : Int) => rStep_any A n c (S : Int) M m d E k g a q ev w.heap.size W (h.below hW (Nat.le_refl _)) hW.size)
  have HON := Lib.hid (fun W (hW : Below w.heap.size w W) (x : Int) => r7Has_any A3 n3 c3 w.heap.size onto x W (hx3.below hW (Nat.le_refl _)) hn3 (by omega))
  have HMK := Lib.hid (fun W (hW : Below w.heap.size w W) (x : Int) => r7Has_any M m d w.heap.size a.mr x W (h.mr.below hW (Nat.le_refl _)) h.hm (by have := h.bm; omega))
  have HAL := Lib.hid (fun W (hW : Below w.heap.size w W) => h.al.below hW (Nat.le_refl _))
  have HAN := Lib.hid h.hn
  have hbn := h.bn
  have HOB := Lib.hid (fun W (hW : Below w.heap.size w W) => hx2.below hW (Nat.le_refl _))
  have HO2 := Lib.hid hn2
  have HRI := Lib.hid hri
  have HST0 := Lib.hid h0
  have HDR := Lib.hid (plc_right hri h0 (onto := onto) (ob := ob))
  have HLN := Lib.hid (fun i => plA_len hri h0 (onto := onto) (ob := ob) hs4 (by rw [hn2]; exact hb2) i)
  have HLE := Lib.hid (fun i => tr_len_le (plc_right hri h0 (onto := onto) (ob := ob)) (plc_pos h0) i)
  obtain ⟨iI, iI0, iI1, iI2, iI3⟩ := info_parts info_int
  obtain ⟨iE, iE0, iE1, iE2, iE3⟩ := info_nodeL
  obtain ⟨p0, p1, p2, p3⟩ := HX.out
  clear h hri hs4 h0 hx3 hn3 hx2 hn2 hb1
  have HNIL := Lib.hid (World.ownsRow_nil ((w.alloc (.cells #[.slice A n c, .int .i64 (S : Int), .slice M m d, .slice E k g] 33)).alloc (.cells #[.int .i64 0, .int .i64 0, .slice none 0 0] 115)) (w.heap.size + 1) 115 3)
  have HNEW := Lib.hid (show ((w.alloc (.cells #[.slice A n c, .int .i64 (S : Int), .slice M m d, .slice E k g] 33)).alloc (.cells #[.int .i64 0, .int .i64 0, .slice none 0 0] 115)).heap[w.heap.size + 1]? = some (.cells #[.int .i64 0, .int .i64 0, .slice none 0 0] 115 (0, 0)) from by
    have := heap_alloc_new (w.alloc (.cells #[.slice A n c, .int .i64 (S : Int), .slice M m d, .slice E k g] 33)) (.cells #[.int .i64 0, .int .i64 0, .slice none 0 0] 115)
    rwa [World.size_alloc] at this)
  go_enter Tryz.func32, Tryz.ntmps32
  go_wp2_with (at_builtin; refine wpList_append_own _ rfl (.tmp 20) (.tmp 22) 113 rfl (w.heap.size + 1) 115 iE (.agg #[.int .i64 0, .int .i64 0, .slice none 0 0]) 3 40 Tryz.underlying113 iE0 iE1 iE2 iE3 rfl (by omega) _ 0 [] rfl HNIL.out ⟨w.heap.size + 1, 0, none⟩ 1 1 [.int .i64 0, .int .i64 0, .slice none 0 0] rfl rfl (World.news_of_block (cs := #[.int .i64 0, .int .i64 0, .slice none 0 0]) (t := 115) (fr := (0, 0)) HNEW.out) (by simp [Value.oneCell']) (by unfold maxLen; omega) (by omega) (by first | (simp; done) | (simp; omega)) ?_)
  intro vl7 w7 ho7 hg7 _
  have HZ1 := Lib.hid (show (w.alloc (.cells #[.slice A n c, .int .i64 (S : Int), .slice M m d, .slice E k g] 33)).heap.size = w.heap.size + 1 from World.size_alloc _ _)
  obtain ⟨w1, hw1⟩ : ∃ w1, w1 = w.alloc (.cells #[.slice A n c, .int .i64 (S : Int), .slice M m d, .slice E k g] 33) := ⟨_, rfl⟩
  rw [← hw1] at hg7 HB1 HX HZ1
  rw [← HZ1.out] at ho7
  have HB7 := Lib.hid (show Below w1.heap.size w1 w7 from ((Below.refl w1.heap.size w1).alloc (Nat.le_refl _) _).grown hg7 (by simp) (fun k hk => by cases hk))
  have HND7 := Lib.hid (show ND w7 w1.heap.size vl7 [⟨0, 0, ⟨none, 0, []⟩⟩] from ⟨by simpa [encN, Hd.enc] using ho7, fun x hx => by rw [List.mem_singleton] at hx; subst hx; exact World.ownsRow_nil _ _ _ _⟩)
  have HNI7 := Lib.hid (show NI a ob [⟨0, 0, ⟨none, 0, []⟩⟩] (Tr (plA a onto ob) 0) from ⟨by simp [Tr], fun x hx => by rw [List.mem_singleton] at hx; subst hx; exact ⟨Nat.zero_le _, Int.le_refl _, HST0.out⟩⟩)
  have CB := Lib.hid (fun W (hW : Below w1.heap.size w1 W) => HX.out.below hW (by have := HZ1.out; omega))
  have BW := Lib.hid (fun W (hW : Below w1.heap.size w1 W) => HB1.out.trans (hW.mono HB1.out.size))
  clear ho7 hg7 HNIL HNEW hw1 p0 p1 p2 p3
  go_wp2_with fail
  go_loopw [10, 11] (fun vl iv wr => ∃ (i : Nat) (ns : List Nd), iv = .int .i64 i ∧ Hid (i ≤ ns.length) ∧ Hid (ND wr w1.heap.size vl ns) ∧ Hid (NI a ob ns (Tr (plA a onto ob) i)) ∧ Hid (∀ (j : Nat) (r : Int × List Int), j < i → (Tr (plA a onto ob) i)[j]? = some r → glB a ob mk r.1 = false) ∧ Hid (Below w1.heap.size w1 wr)) (fun _ i _ => 2000 - (intOf i).toNat)
  case atStart => exact ⟨0, _, rfl, Lib.hid (Nat.zero_le _), HND7, HNI7, Lib.hid (fun j r h => absurd h (Nat.not_lt_zero _)), HB7⟩
  case round =>
    clear HND7 HNI7 HB7
    obtain ⟨i, ns, rfl, hil, hnd, hni, hng, hbel⟩ := hrel
    obtain ⟨N, hN⟩ : ∃ N, N = ns.length := ⟨_, rfl⟩
    have HNL := Lib.hid hN
    have hiN : i ≤ N := by rw [hN]; exact hil.out
    have hN5 : N ≤ 1100 := by rw [hN, hni.out.len]; exact HLN.out i
    obtain ⟨p0, p1, p2, p3⟩ := CB.out _ hbel.out
    by_cases hlt : i < N
    · obtain ⟨x, hx⟩ : ∃ x, ns[i]? = some x := ⟨_, List.getElem?_eq_getElem (by rw [← hN]; exact hlt)⟩
      obtain ⟨gL, cL, hvl, _, hgL, c0, c1, c2⟩ := hnd.out.at hx
      subst hvl
      rw [← hN]
      have HPX := Lib.hid (hni.out.at hx)
      have HOK := Lib.hid (hni.out.ok x (List.mem_of_getElem? hx))
      have HX2 := Lib.hid hx
      obtain ⟨q, dd, ⟨Ax, cx, zx⟩⟩ := x
      simp only [Hd.enc] at c0 c1 c2 HPX HOK
      obtain ⟨lx, hlx⟩ : ∃ l, l = zx.length := ⟨_, rfl⟩
      have HLX := Lib.hid hlx
      rw [← hlx] at c2
      have HGL := Lib.hid (gl_place (mk := mk) HOK.out)
      simp only at HGL
      obtain ⟨gl, hgl⟩ : ∃ b, b = glB a ob mk ((dd : Int) * a.st + q) := ⟨_, rfl⟩
      have HG := Lib.hid hgl
      have hdd : dd ≤ n2 := by rw [← HO2.out]; exact HOK.out.1
      have hiz : (0 : Int) ≤ (i : Int) := by omega
      have hiNz : (i : Int) < (N : Int) := by omega
      have HMq := Lib.hid (show ∀ r : Nat, Calls Tryz.prog 49 #[.slice M m d, .int .i64 q] (wr.drewN r) (fun e w' => e = .returned (.bool (decide (q ∈ a.mr))) ∧ w' = wr.drewN r) from fun r => (HMK.out _ (BW.out _ (below_drewN hbel.out r)) q).mono fun e w' hh => ⟨hh.1, hh.2.symm⟩)
      obtain ⟨rm, hrm⟩ : ∃ b, b = decide (q ∈ a.mr) := ⟨_, rfl⟩
      rw [← hrm] at HMq
      have HRM := Lib.hid hrm
      clear hx hN hlx hgl hrm
      go_upto_region 7 with fail
      have HGV := Lib.hid (show gl = (decide (dd = n2) && (!mk || rm)) from by rw [HG.out, HGL.out, HO2.out, HRM.out])
      go_cut [51] from 24 to 150 (fun v wx => v = .bool gl ∧ ∃ r, wx = wr.drewN r)
      case first =>
        by_cases hde : dd = n2
        · have e0 : ((dd : Int) == (n2 : Int)) = true := by simp [hde]
          have HV2 := Lib.hid (show gl = (!mk || rm) from by rw [HGV.out, decide_eq_true hde, Bool.true_and])
          clear hde
          cases mk
          · go_wp2_with fail
            go_quiet ((go_at_call 49; with_reducible exact Calls.quiet_of_same (HMq.out _)))
            go_wp2_with fail
            go_meet
            case rel => exact ⟨by rw [HV2.out]; rfl, _, rfl⟩
          · cases rm
            · go_wp2_with fail
              go_quiet ((go_at_call 49; with_reducible exact Calls.quiet_of_same (HMq.out _)))
              go_wp2_with fail
              go_meet
              case rel => exact ⟨by rw [HV2.out]; rfl, _, rfl⟩
            · go_wp2_with fail
              go_quiet ((go_at_call 49; with_reducible exact Calls.quiet_of_same (HMq.out _)))
              go_wp2_with fail
              go_meet
              case rel => exact ⟨by rw [HV2.out]; rfl, _, rfl⟩
        · have e0 : ((dd : Int) == (n2 : Int)) = false := by simp; omega
          have HV2 := Lib.hid (show gl = false from by rw [HGV.out, decide_eq_false hde, Bool.false_and])
          clear hde
          go_wp2_with fail
          go_quiet ((go_at_call 49; with_reducible exact Calls.quiet_of_same (HMq.out _)))
          go_wp2_with fail
          go_meet
          case rel => exact ⟨by rw [HV2.out], _, rfl⟩
      case rest =>
        obtain ⟨rfl, r0, rfl⟩ := hcut
        have hbr := below_drewN (Below.refl wr.heap.size wr) r0
        have hnd := Lib.hid (hnd.out.below hbr)
        have hbel := Lib.hid (hbel.out.trans (hbr.mono hbel.out.size))
        have c2 := (show (wr.drewN r0).cell? ⟨gL, i * 3 + 2, none⟩ = some (.slice Ax lx cx) from c2)
        have p0 := (show (wr.drewN r0).cell? ⟨w.heap.size, 0, none⟩ = some (.slice A n c) from p0)
        have p1 := (show (wr.drewN r0).cell? ⟨w.heap.size, 1, none⟩ = some (.int .i64 (S : Int)) from p1)
        have p2 := (show (wr.drewN r0).cell? ⟨w.heap.size, 2, none⟩ = some (.slice M m d) from p2)
        have p3 := (show (wr.drewN r0).cell? ⟨w.heap.size, 3, none⟩ = some (.slice E k g) from p3)
        clear hbr HGV
        clear c0 c1
        generalize wr.drewN r0 = wr at *
        cases gl
        · have HNG2 := Lib.hid (show ∀ (j : Nat) (r : Int × List Int), j < i + 1 → (Tr (plA a onto ob) (i + 1))[j]? = some r → glB a ob mk r.1 = false from fun j r hj hr => by
            by_cases hji : j < i
            · have hpr := tr_pre (plA a onto ob) i
              have hjl : j < (Tr (plA a onto ob) i).length := by have := hni.out.len; rw [← HNL.out] at this; omega
              have h2 := pre_at hpr (List.getElem?_eq_getElem hjl)
              rw [hr] at h2
              injection h2 with h2
              exact hng.out j r hji (by rw [h2]; exact List.getElem?_eq_getElem hjl)
            · obtain rfl : j = i := by omega
              have h2 := pre_at (tr_pre (plA a onto ob) j) HPX.out
              rw [hr] at h2
              injection h2 with h2
              rw [h2]; exact HG.out.symm)
          have HND0 := hnd
          have HNI0 := Lib.hid (show NI a ob ns (TrK (plA a onto ob) (Tr (plA a onto ob) i) ((dd : Int) * a.st + q, zx) 0) from by rw [TrK_zero]; exact hni.out)
          clear hng HMq c2
          go_wp2_with fail
          clear p0 p1 p2 p3
          go_loopw [10, 12] (fun vl kv wx => ∃ (t : Nat) (ns : List Nd), kv = .int .i64 t ∧ t ≤ n ∧ Hid (ND wx w1.heap.size vl ns) ∧ Hid (NI a ob ns (TrK (plA a onto ob) (Tr (plA a onto ob) i) ((dd : Int) * a.st + q, zx) t)) ∧ Hid (ns[i]? = some ⟨q, dd, ⟨Ax, cx, zx⟩⟩) ∧ Hid (Below w1.heap.size w1 wx)) (fun _ kv _ => n - (intOf kv).toNat)
          case atStart => exact ⟨0, ns, rfl, Nat.zero_le _, by rw [HNL.out]; exact HND0, HNI0, HX2, hbel⟩
          case round =>
            clear HND0 HNI0 HX2 hbel hnd hni hil
            obtain ⟨t, ns, rfl, htn, hnd, hni, hX, hbel⟩ := hrel
            obtain ⟨p0, p1, p2, p3⟩ := CB.out _ hbel.out
            by_cases htl : t < n
            · obtain ⟨N2, hN2⟩ : ∃ N2, N2 = ns.length := ⟨_, rfl⟩
              have HN2 := Lib.hid hN2
              have hN25 : N2 ≤ 1100 := by rw [hN2, hni.out.len]; exact Nat.le_trans (TrK_pre HDR.out HPX.out (t := t)).2.length_le (HLN.out (i + 1))
              have hiN2 : i < N2 := by rw [hN2]; exact (List.getElem?_eq_some_iff.1 hX.out).1
              obtain ⟨gL2, cL2, hvl, _, hgL2, c0, c1, c2⟩ := hnd.out.at hX.out
              subst hvl
              rw [← hN2]
              simp only [Hd.enc] at c0 c1 c2
              have hta : t < a.al.length := by rw [HAN.out]; exact htl
              have HTA := Lib.hid hta
              obtain ⟨bA, oA, hAe, hbA, hcA⟩ := HAL.out _ (BW.out _ hbel.out) (by omega)
              subst hAe
              have ce := hcA t hta
              obtain ⟨ev, hev⟩ : ∃ ev, ev = a.al.getD t 0 := ⟨_, rfl⟩
              rw [← hev] at ce
              have HEV := Lib.hid hev
              have HEM := Lib.hid (show ev ∈ a.al by rw [hev]; exact getD_mem hta)
              obtain ⟨sn, hsn⟩ : ∃ z, z = stepI a q ev := ⟨_, rfl⟩
              have HSN := Lib.hid hsn
              have hlx11 : lx ≤ 1100 := by
                have h1 := tr_wlen (plA a onto ob) i _ (List.mem_of_getElem? HPX.out)
                have h2 := HLX.out
                simp only at h1
                omega
              have HS1 := Lib.hid (fun W (hW : Below wr.heap.size wr W) => HSP.out W (BW.out _ (hbel.out.trans (hW.mono hbel.out.size))) q ev)
              rw [← hsn] at HS1
              have HT0 := Lib.hid (Below.refl wr.heap.size wr)
              have hgW := hgL2
              have HCC := Lib.hid (fun W (hW : Below wr.heap.size wr W) => (⟨(hW.cell (p := ⟨gL2, i * 3, none⟩) hgW).trans c0, (hW.cell (p := ⟨gL2, i * 3 + 1, none⟩) hgW).trans c1⟩ : W.cell? ⟨gL2, i * 3, none⟩ = some (.int .i64 q) ∧ W.cell? ⟨gL2, i * 3 + 1, none⟩ = some (.int .i64 (dd : Int))))
              have HPP := Lib.hid (fun W (hW : Below wr.heap.size wr W) => CB.out W (hbel.out.trans (hW.mono hbel.out.size)))
              have HALL := Lib.hid (fun w' (hW : Below wr.heap.size wr w') => (show w'.cell? ⟨w.heap.size, 0, none⟩ = some (.slice (some ⟨bA, oA, none⟩) n c) ∧ w'.cell? ⟨w.heap.size, 1, none⟩ = some (.int .i64 (S : Int)) ∧ w'.cell? ⟨w.heap.size, 2, none⟩ = some (.slice M m d) ∧ w'.cell? ⟨w.heap.size, 3, none⟩ = some (.slice E k g) ∧ w'.cell? ⟨gL2, i * 3, none⟩ = some (.int .i64 q) ∧ w'.cell? ⟨gL2, i * 3 + 1, none⟩ = some (.int .i64 (dd : Int)) from by
                obtain ⟨k0, k1⟩ := HCC.out w' hW
                obtain ⟨k2, k3, k4, k5⟩ := HPP.out w' hW
                exact ⟨k2, k3, k4, k5, k0, k1⟩))
              have htz0 : (0 : Int) ≤ (t : Int) := by omega
              have htm2 : (t : Int) < (n : Int) := by omega
              have hiN2z : (i : Int) < (N2 : Int) := by omega
              clear hev hsn hta hcA hN2 c2
              go_upto_region 13 with fail
              go_cut [14] from 57 to 150 (fun v wx => NxB wr wx v sn dd)
              case first =>
                go_region_held3 (fun w' => w'.cell? ⟨w.heap.size, 0, none⟩ = some (.slice (some ⟨bA, oA, none⟩) n c) ∧ w'.cell? ⟨w.heap.size, 1, none⟩ = some (.int .i64 (S : Int)) ∧ w'.cell? ⟨w.heap.size, 2, none⟩ = some (.slice M m d) ∧ w'.cell? ⟨w.heap.size, 3, none⟩ = some (.slice E k g) ∧ w'.cell? ⟨gL2, i * 3, none⟩ = some (.int .i64 q) ∧ w'.cell? ⟨gL2, i * 3 + 1, none⟩ = some (.int .i64 (dd : Int))) (first | with_reducible exact ⟨p0, p1, p2, p3, c0, c1⟩ | exact HALL.out _ (by repeat (first | exact HT1.out | exact HT0.out | refine Below.drew ?_ | refine Below.alloc ?_ (by first | exact Nat.le_refl _ | exact HT1.out.size | simp) _ | refine Below.setCell ?_ (by first | exact Nat.le_refl _ | exact HT1.out.size) _)))
                  (first
                  | (go_simp; go_at_call 71; refine (HS1.out _ (by repeat (first | exact HT0.out | refine Below.drew ?_ | refine Below.alloc ?_ (Nat.le_refl _) _))).mono ?_; rintro e w5 ⟨rfl, hb5⟩
                     have HT1 := Lib.hid (show Below wr.heap.size wr w5 from Below.trans (by repeat (first | exact HT0.out | refine Below.drew ?_ | refine Below.alloc ?_ (Nat.le_refl _) _)) (hb5.mono (by first | exact Nat.le_refl _ | simp)))
                     try (have hq : Row w5 wr.heap.size 115 [.int .i64 0, .int .i64 0, .slice none 0 0] := Row.below (by first | with_reducible exact Row.new wr [.int .i64 0, .int .i64 0, .slice none 0 0] 115 | with_reducible exact row_dr7 (Row.new wr [.int .i64 0, .int .i64 0, .slice none 0 0] 115) | with_reducible exact Row.new wr.drew [.int .i64 0, .int .i64 0, .slice none 0 0] 115) hb5 (by simp); have HQ1 := Lib.hid hq; have y0 := hq.cell 0 rfl; have y1 := hq.cell 1 rfl; have y2 := hq.cell 2 rfl; have g0 := hq.frozen 0; have g1 := hq.frozen 1; have g2 := hq.frozen 2; clear hq)
                     obtain ⟨c0, c1⟩ := HCC.out w5 HT1.out
                     obtain ⟨p0, p1, p2, p3⟩ := HPP.out w5 HT1.out
                     clear hb5))
                all_goals
                  go_wp2_with fail
                  go_meet
                  case rel => first | exact nxb_new HT1.out | exact nxb_new HT1.out.drew | exact nxb_set HT1.out HQ1.out (Nat.le_refl _) | exact nxb_set HT1.out.drew (row_dr7 HQ1.out) (Nat.le_refl _)
              case rest =>
                unfold NxB at hcut
                obtain ⟨bn, rfl, hbn, hrow, hbw⟩ := hcut
                have HB2 := Lib.hid (hbel.out.trans (hbw.mono hbel.out.size))
                obtain ⟨rh, hrh⟩ : ∃ b, b = decide (ev ∈ onto) := ⟨_, rfl⟩
                have HHA := Lib.hid (HON.out wc (BW.out _ HB2.out) ev)
                rw [← hrh] at HHA
                have HRH := Lib.hid hrh
                have HRO := Lib.hid hrow
                have HBW2 := Lib.hid hbw
                clear hrh hrow hbw HS1 HT0 HCC HPP HALL c0 c1 ce p0 p1 p2 p3
                cases rh
                · obtain ⟨dnI, hdnI⟩ : ∃ z : Int, z = (dd : Int) := ⟨_, rfl⟩
                  have HDN := Lib.hid hdnI
                  have hrT := Lib.hid (show Row wc bn 115 [.int .i64 sn, .int .i64 dnI, .slice none 0 0] from by rw [hdnI]; exact HRO.out)
                  have hbT := HBW2
                  have HGO := Lib.hid (pl_go HRI.out HST0.out HOK.out HEM.out (onto := onto) (dn := dd) (by rw [if_neg (of_decide_eq_false HRH.out.symm)]))
                  clear hdnI HRO HBW2
                  go_wp2_with fail
                  refine HHA.out.mono ?_
                  rintro e w6 ⟨rfl, hw6⟩
                  subst hw6
                  clear HHA
                  generalize wc = WT at *
                  have HBT := Lib.hid (fun r => below_drewN hbT.out r)
                  have hbs := hbT.out.size
                  have hb1s := hbel.out.size
                  rcases HGO.out with ⟨hneg, hed⟩ | ⟨hpos, hpk, hed⟩
                  · have HTK := Lib.hid (show (TrK (plA a onto ob) (Tr (plA a onto ob) i) ((dd : Int) * a.st + q, zx) (t + 1)) = (TrK (plA a onto ob) (Tr (plA a onto ob) i) ((dd : Int) * a.st + q, zx) t) from TrK_none (by rw [plA_al]; exact HTA.out) (by rw [plA_al, ← HEV.out]; exact hed))
                    have hs0 : sn < 0 := by rw [HSN.out]; exact hneg
                    have hd0 : decide (sn < 0) = true := decide_eq_true hs0
                    have b0 := hrT.out.cell 0 rfl
                    clear hed hneg
                    go_wp2_with fail
                    go_loopw [15, 16] (fun sv mv w3 => ∃ m : Nat, m ≤ N2 ∧ sv = .bool true ∧ mv = .int .i64 m ∧ ∃ r, w3 = WT.drewN r) (fun _ mv _ => N2 - (intOf mv).toNat)
                    case atStart => exact ⟨0, Nat.zero_le _, by first | rfl | (rw [hd0]), rfl, 0, rfl⟩
                    case round =>
                      obtain ⟨m', hm, rfl, rfl, r, rfl⟩ := hrel
                      have hib2 : (m' : Int) + 1 ≤ 100000000 := by omega
                      by_cases hml : m' < N2
                      · have y0 : (m' : Int) < (N2 : Int) := by omega
                        go_wp2_with fail
                        go_quiet (fail)
                        go_wp2_with fail
                        go_roundw
                        case rel => exact ⟨m' + 1, by omega, rfl, by go_num, by first | exact ⟨_, rfl⟩ | exact ⟨_, World.drewN_drewN _ _ _⟩⟩
                        case measure => simp [intOf]; omega
                      · have y0 : (N2 : Int) ≤ (m' : Int) := by omega
                        go_wp2_with fail
                        go_roundw
                        case rel => exact ⟨t + 1, ns, by go_num, by omega, by rw [HN2.out]; exact Lib.hid (hnd.out.below (HBT.out r)), by rw [HTK.out]; exact hni, hX, Lib.hid (hbel.out.trans ((HBT.out r).mono hbel.out.size))⟩
                        case measure => simp [intOf]; omega
                  · have hs0 : ¬ sn < 0 := by rw [HSN.out]; omega
                    have hd0 : decide (sn < 0) = false := decide_eq_false hs0
                    have b0 := hrT.out.cell 0 rfl
                    have b1 := hrT.out.cell 1 rfl
                    have HPK := Lib.hid (show PlOk a ob (dd, sn) from by rw [HSN.out]; exact hpk)
                    have HED := Lib.hid (show edgeO (plA a onto ob).ed ((dd : Int) * a.st + q) ((plA a onto ob).al.getD t 0) = some ⟨(dd : Int) * a.st + q, ev, (((dd) : Nat) : Int) * a.st + sn⟩ from by rw [plA_al, ← HEV.out, HSN.out]; exact hed)
                    have HTK := Lib.hid (show (TrK (plA a onto ob) (Tr (plA a onto ob) i) ((dd : Int) * a.st + q, zx) (t + 1)) = visP zx (TrK (plA a onto ob) (Tr (plA a onto ob) i) ((dd : Int) * a.st + q, zx) t) ⟨(dd : Int) * a.st + q, ev, (((dd) : Nat) : Int) * a.st + sn⟩ from TrK_some (by rw [plA_al]; exact HTA.out) HED.out)
                    have HND2 := Lib.hid (hnd.out.below hbT.out)
                    have HSZ := Lib.hid (show sB ns sn dnI 0 = false from by unfold sB; simp)
                    have HSA := Lib.hid (sB_all hni.out HDN.out HPK.out)
                    clear hed hpos hpk
                    go_wp2_with fail
                    go_loopw [15, 16] (fun sv mv w3 => ∃ m : Nat, m ≤ N2 ∧ sv = .bool (sB ns sn dnI m) ∧ mv = .int .i64 m ∧ ∃ r, w3 = WT.drewN r) (fun _ mv _ => N2 - (intOf mv).toNat)
                    case atStart => exact ⟨0, Nat.zero_le _, by first | (rw [HSZ.out]; done) | (rw [HSZ.out, hd0]; done), rfl, 0, rfl⟩
                    case round =>
                      clear HSZ
                      obtain ⟨m', hm, rfl, rfl, r, rfl⟩ := hrel
                      have hib2 : (m' : Int) + 1 ≤ 100000000 := by omega
                      by_cases hml : m' < N2
                      · obtain ⟨xm, hxm⟩ : ∃ x, ns[m']? = some x := ⟨_, List.getElem?_eq_getElem (by rw [← HN2.out]; exact hml)⟩
                        obtain ⟨g3, c3', hv3, _, _, k0, k1, _⟩ := HND2.out.at hxm
                        rw [← HN2.out] at hv3
                        injection hv3 with hv4 hv4a hv4b
                        injection hv4 with hv5
                        injection hv5 with hv6
                        subst hv6
                        clear hv4a hv4b
                        have hsu := sB_succ (s := sn) (dn := dnI) hxm
                        obtain ⟨xq, xd, xh⟩ := xm
                        simp only at k0 k1 hsu
                        obtain ⟨xe, hxe⟩ : ∃ z : Int, z = (xd : Int) := ⟨_, rfl⟩
                        rw [← hxe] at k1 hsu
                        have y0 : (m' : Int) < (N2 : Int) := by omega
                        have y1 : (0 : Int) ≤ (m' : Int) := by omega
                        obtain ⟨sb, hsb⟩ : ∃ b, b = sB ns sn dnI m' := ⟨_, rfl⟩
                        rw [← hsb] at hsu ⊢
                        clear hxm hsb hxe
                        cases sb
                        · by_cases hq1 : xq = sn
                          · have f1 : (xq == sn) = true := by simp [hq1]
                            by_cases hq2 : xe = dnI
                            · have f2 : (xe == dnI) = true := by simp [hq2]
                              have HSU := Lib.hid (show sB ns sn dnI (m' + 1) = true from by rw [hsu, hq1, hq2]; simp)
                              clear hsu hq1 hq2
                              go_wp2_with fail
                              go_quiet (fail)
                              go_wp2_with fail
                              go_roundw
                              case rel => exact ⟨m' + 1, by omega, by rw [HSU.out], by go_num, by first | exact ⟨_, rfl⟩ | exact ⟨_, World.drewN_drewN _ _ _⟩⟩
                              case measure => simp [intOf]; omega
                            · have f2 : (xe == dnI) = false := by simp [hq2]
                              have HSU := Lib.hid (show sB ns sn dnI (m' + 1) = false from by rw [hsu, decide_eq_false hq2]; simp)
                              clear hsu hq1 hq2
                              go_wp2_with fail
                              go_quiet (fail)
                              go_wp2_with fail
                              go_roundw
                              case rel => exact ⟨m' + 1, by omega, by rw [HSU.out], by go_num, by first | exact ⟨_, rfl⟩ | exact ⟨_, World.drewN_drewN _ _ _⟩⟩
                              case measure => simp [intOf]; omega
                          · have f1 : (xq == sn) = false := by simp [hq1]
                            have HSU := Lib.hid (show sB ns sn dnI (m' + 1) = false from by rw [hsu, decide_eq_false hq1]; simp)
                            clear hsu hq1
                            go_wp2_with fail
                            go_quiet (fail)
                            go_wp2_with fail
                            go_roundw
                            case rel => exact ⟨m' + 1, by omega, by rw [HSU.out], by go_num, by first | exact ⟨_, rfl⟩ | exact ⟨_, World.drewN_drewN _ _ _⟩⟩
                            case measure => simp [intOf]; omega
                        · have HSU := Lib.hid (show sB ns sn dnI (m' + 1) = true from by rw [hsu]; rfl)
                          clear hsu
                          go_wp2_with fail
                          go_quiet (fail)
                          go_wp2_with fail
                          go_roundw
                          case rel => exact ⟨m' + 1, by omega, by rw [HSU.out], by go_num, by first | exact ⟨_, rfl⟩ | exact ⟨_, World.drewN_drewN _ _ _⟩⟩
                          case measure => simp [intOf]; omega
                      · have hme : m' = N2 := by omega
                        have hsall : sB ns sn dnI m' = decide (((dd : Nat) : Int) * a.st + sn ∈ ((TrK (plA a onto ob) (Tr (plA a onto ob) i) ((dd : Int) * a.st + q, zx) t)).map Prod.fst) := by rw [hme, HN2.out]; exact HSA.out
                        have y0 : (N2 : Int) ≤ (m' : Int) := by omega
                        rw [hsall]
                        by_cases hin : ((dd : Nat) : Int) * a.st + sn ∈ ((TrK (plA a onto ob) (Tr (plA a onto ob) i) ((dd : Int) * a.st + q, zx) t)).map Prod.fst
                        · rw [decide_eq_true hin]
                          have HVI := Lib.hid (show (TrK (plA a onto ob) (Tr (plA a onto ob) i) ((dd : Int) * a.st + q, zx) (t + 1)) = (TrK (plA a onto ob) (Tr (plA a onto ob) i) ((dd : Int) * a.st + q, zx) t) from by rw [HTK.out]; exact visP_in hin)
                          clear hin hsall hme
                          go_wp2_with fail
                          go_roundw
                          case rel => exact ⟨t + 1, ns, by go_num, by omega, by rw [HN2.out]; exact Lib.hid (hnd.out.below (HBT.out r)), by rw [HVI.out]; exact hni, hX, Lib.hid (hbel.out.trans ((HBT.out r).mono hbel.out.size))⟩
                          case measure => simp [intOf]; omega
                        · rw [decide_eq_false hin]
                          have HIN := Lib.hid hin
                          have HBQ := Lib.hid (HBT.out r)
                          have HRQ := Lib.hid (show Row (WT.drewN r) bn 115 [.int .i64 sn, .int .i64 dnI, .slice none 0 0] from hrT.out)
                          have HNQ := Lib.hid (hnd.out.below (HBT.out r))
                          clear hin hsall hme b0 b1 HBT HND2 hrT hbT
                          generalize WT.drewN r = WQ at *
                          have b2 := HRQ.out.frozen 2
                          have b3 := HRQ.out.cell 2 rfl
                          obtain ⟨g6, c6', hv6, _, _, _, _, k2⟩ := HNQ.out.at hX.out
                          rw [← HN2.out] at hv6
                          injection hv6 with hv7 hv7a hv7b
                          injection hv7 with hv8
                          injection hv8 with hv9
                          subst hv9
                          clear hv7a hv7b
                          simp only [Hd.enc] at k2
                          rw [← HLX.out] at k2
                          have HWX := Lib.hid (HNQ.out.own _ (List.mem_of_getElem? hX.out))
                          have HFR := Lib.hid (show RdI WQ WQ.heap.size Ax zx from by
                            obtain ⟨_, _, e1, q1, _, _⟩ := own_rdc HWX.out
                            injection e1 with e1 _ _
                            subst e1; exact q1)
                          have HLIT := Lib.hid (own_lit07 WQ)
                          have HFR2 := Lib.hid (show RdI (WQ.alloc (.cells #[] 3)) WQ.heap.size Ax zx from HFR.out.below ((Below.refl WQ.heap.size WQ).alloc (Nat.le_refl _) _) (Nat.le_refl _))
                          have HBL := Lib.hid (show Below WQ.heap.size WQ (WQ.alloc (.cells #[] 3)) from (Below.refl _ _).alloc (Nat.le_refl _) _)
                          have hbqs := HBQ.out.size
                          have hbnl := HRQ.out.lt
                          go_wp2_with (at_builtin; refine wpList_app_rd rfl (.tmp 136) (.tmp 141) rfl WQ.heap.size (.slice (some ⟨WQ.heap.size, 0, none⟩) 0 0) 0 [] rfl HLIT.out WQ.heap.size Ax lx cx zx rfl HFR2.out HLX.out.symm (by unfold maxLen; omega) (by omega) (by simp) ?_)
                          intro v8 w8 ho8 hg8
                          have HO8 := Lib.hid (show w8.ownsRow WQ.heap.size 3 1 v8 lx (zx.map (Value.int .i64)) from by simpa using ho8)
                          have HB8 := Lib.hid (show Below WQ.heap.size WQ w8 from HBL.out.grown hg8 (by simp) (fun j hj => by cases hj; exact Nat.le_refl _))
                          clear ho8 hg8 HLIT HBL HFR2 b2 b3 k2
                          have hz8 := HB8.out.size
                          go_wp2_with (at_builtin; refine wpList_append_own_at _ rfl (.tmp 142) (.tmp 144) 27 rfl WQ.heap.size 3 iI (.int .i64 0) 1 8 Tryz.underlying27 iI0 iI1 iI2 iI3 rfl (by omega) _ lx (zx.map (Value.int .i64)) rfl (HO8.out.alloc _) ⟨w8.heap.size, 0, none⟩ 1 1 [.int .i64 ev] rfl rfl (World.news_of_block (cs := #[.int .i64 ev]) (t := 3) (fr := (0, 0)) (heap_alloc_new w8 _)) (by simp [Value.oneCell']) (by unfold maxLen; omega) (by omega) (by first | (simp; done) | (simp; omega)) ?_)
                          intro v9 w9 ho9 hg9 _ _
                          obtain ⟨A9, c9, hv9⟩ := own_shapeS ho9
                          subst hv9
                          have HO9 := Lib.hid (show Own w9 WQ.heap.size (.slice A9 (zx ++ [ev]).length c9) (zx ++ [ev]) from by unfold Own; rw [List.length_append, List.map_append, ← HLX.out]; exact ho9)
                          have HB9 := Lib.hid (show Below WQ.heap.size WQ w9 from (HB8.out.alloc hz8 _).grown hg9 (by first | (simp; done) | (simp; omega)) (fun j hj => (HO8.out.lt j hj).1))
                          have hr9 := Lib.hid (HRQ.out.below HB9.out hbnl)
                          clear ho9 hg9 HO8
                          have b2 := hr9.out.cell 2 rfl
                          have b3 := hr9.out.frozen 2
                          have x0 := hr9.out.cell 0 rfl
                          have x1 := hr9.out.cell 1 rfl
                          have hrS := Lib.hid (hr9.out.set 2 (.slice A9 (lx + 1) c9))
                          have HBS := Lib.hid (show Below wr.heap.size wr (w9.setCell ⟨bn, 2, none⟩ (.slice A9 (lx + 1) c9)) from (HBQ.out.trans (HB9.out.mono hbqs)).setCell (p := ⟨bn, 2, none⟩) hbn _)
                          have HOS := Lib.hid (show Own (w9.setCell ⟨bn, 2, none⟩ (.slice A9 (lx + 1) c9)) wr.heap.size (.slice A9 (zx ++ [ev]).length c9) (zx ++ [ev]) from own_more (ownsRow_setCell_other (a := ⟨bn, 2, none⟩) HO9.out (fun e => by have := (HO9.out.lt bn e).1; omega) _) hbqs)
                          have HNS := Lib.hid (hnd.out.below HBS.out)
                          have HROW := Lib.hid (show World.ownsRow (w9.setCell ⟨bn, 2, none⟩ (.slice A9 (lx + 1) c9)) w1.heap.size 115 3 (.slice (some ⟨gL2, 0, none⟩) N2 cL2) N2 (encN ns) from by have := HNS.out.row; rw [← HN2.out] at this; exact this)
                          go_upto_region 24 with fail
                          clear b2 b3 x0 x1
                          generalize (w9.setCell ⟨bn, 2, none⟩ (.slice A9 (lx + 1) c9)) = wS at *
                          have s0 := hrS.out.cell 0 rfl
                          have s1 := hrS.out.cell 1 rfl
                          have s2 := hrS.out.cell 2 rfl
                          have hzS := HBS.out.size
                          go_wp2_with (at_builtin; refine wpList_append_own _ rfl (.tmp 147) (.tmp 149) 113 rfl w1.heap.size 115 iE (.agg #[.int .i64 0, .int .i64 0, .slice none 0 0]) 3 40 Tryz.underlying113 iE0 iE1 iE2 iE3 rfl (by omega) _ N2 (encN ns) rfl (HROW.out.alloc _) ⟨wS.heap.size, 0, none⟩ 1 1 [.int .i64 sn, .int .i64 dnI, .slice A9 (lx + 1) c9] rfl rfl (World.news_of_block (cs := #[.int .i64 sn, .int .i64 dnI, .slice A9 (lx + 1) c9]) (t := 115) (fr := (0, 0)) (heap_alloc_new wS _)) (by simp [Value.oneCell']) (by unfold maxLen; omega) (by omega) (by first | (simp; done) | (simp; omega)) ?_)
                          intro vl7 w7 ho7 hg7 _
                          have hlen : (zx ++ [ev]).length = lx + 1 := by rw [List.length_append, ← HLX.out]; rfl
                          have HND7 := Lib.hid (show ND w7 w1.heap.size vl7 (ns ++ [⟨sn, dd, ⟨A9, c9, zx ++ [ev]⟩⟩]) from
                            ND.push (x := ⟨sn, dd, ⟨A9, c9, zx ++ [ev]⟩⟩) hnd.out (HBS.out.alloc hzS (.cells #[.int .i64 sn, .int .i64 dnI, .slice A9 (lx + 1) c9] 115)) hb1s (HOS.out.alloc _) (by unfold Hd.enc; simp only [hlen]; rw [← HDN.out]; exact ho7) (by rw [HN2.out]) hg7)
                          have HNI7 := Lib.hid (show NI a ob (ns ++ [⟨sn, dd, ⟨A9, c9, zx ++ [ev]⟩⟩]) (TrK (plA a onto ob) (Tr (plA a onto ob) i) ((dd : Int) * a.st + q, zx) (t + 1)) from by rw [HTK.out]; exact hni.out.add HPK.out rfl HIN.out)
                          have hX7 := Lib.hid (show (ns ++ [(⟨sn, dd, ⟨A9, c9, zx ++ [ev]⟩⟩ : Nd)])[i]? = some ⟨q, dd, ⟨Ax, cx, zx⟩⟩ from by rw [List.getElem?_append_left (by rw [← HN2.out]; exact hiN2)]; exact hX.out)
                          have hbel7 := Lib.hid (show Below w1.heap.size w1 w7 from (((hbel.out.trans (HBS.out.mono hbel.out.size)).alloc (Nat.le_trans hb1s hzS) _).grown hg7 (by first | (simp; done) | (simp; omega)) (fun j hj => (HROW.out.lt j hj).1)))
                          clear ho7 hg7
                          go_wp2_with fail
                          go_roundw
                          case rel => exact ⟨t + 1, _, by go_num, by omega, HND7, HNI7, hX7, hbel7⟩
                          case measure => simp [intOf]; omega
                · have hev2 : ev ∈ onto := of_decide_eq_true HRH.out.symm
                  have b1 := HRO.out.cell 1 rfl
                  have b4 := HRO.out.frozen 1
                  by_cases hde : dd = n2
                  · have e0 : ((dd : Int) == (n2 : Int)) = true := by simp [hde]
                    have HTK := Lib.hid (show (TrK (plA a onto ob) (Tr (plA a onto ob) i) ((dd : Int) * a.st + q, zx) (t + 1)) = (TrK (plA a onto ob) (Tr (plA a onto ob) i) ((dd : Int) * a.st + q, zx) t) from TrK_none (by rw [plA_al]; exact HTA.out) (by rw [plA_al, ← HEV.out]; exact pl_stop HRI.out HST0.out HOK.out HEM.out hev2 (by rw [List.getElem?_eq_none (by rw [HO2.out]; omega)]; simp)))
                    clear hde
                    go_wp2_with fail
                    refine HHA.out.mono ?_
                    rintro e w6 ⟨rfl, hw6⟩
                    subst hw6
                    go_wp2_with fail
                    go_roundw
                    case rel => exact ⟨t + 1, ns, by go_num, by omega, by rw [HN2.out]; exact Lib.hid (hnd.out.below HBW2.out), by rw [HTK.out]; exact hni, hX, HB2⟩
                    case measure => simp [intOf]; omega
                  · have e0 : ((dd : Int) == (n2 : Int)) = false := by simp; omega
                    have hdl : dd < ob.length := by rw [HO2.out]; omega
                    obtain ⟨bO, oO, hOe, hbO, hcO⟩ := HOB.out _ (BW.out _ HB2.out) (by omega)
                    subst hOe
                    have co := hcO dd hdl
                    obtain ⟨eo, heo⟩ : ∃ z, z = ob.getD dd 0 := ⟨_, rfl⟩
                    rw [← heo] at co
                    have HEO := Lib.hid (show ob[dd]? = some eo by rw [heo, List.getD, List.getElem?_eq_getElem hdl]; rfl)
                    have hdz0 : (0 : Int) ≤ (dd : Int) := by omega
                    have hdz1 : (dd : Int) < (n2 : Int) := by omega
                    clear hcO hdl heo hde
                    by_cases hee : eo = ev
                    · have e1 : (eo != ev) = false := by simp [hee]
                      have HGO := Lib.hid (pl_go HRI.out HST0.out HOK.out HEM.out (onto := onto) (dn := dd + 1) (by rw [if_pos hev2]; exact ⟨by rw [HEO.out, hee], rfl⟩))
                      have hd10 : (dd : Int) + 1 ≤ 100 := by omega
                      clear hee
                      go_wp2_with fail
                      refine HHA.out.mono ?_
                      rintro e w6 ⟨rfl, hw6⟩
                      subst hw6
                      go_upto_region 17 with fail
                      obtain ⟨dnI, hdnI⟩ : ∃ z : Int, z = (dd : Int) + 1 := ⟨_, rfl⟩
                      have HDN := Lib.hid (show dnI = ((dd + 1 : Nat) : Int) by rw [hdnI]; omega)
                      have hrT := Lib.hid (show Row (wc.setCell ⟨bn, 1, none⟩ (.int .i64 ((dd : Int) + 1))) bn 115 [.int .i64 sn, .int .i64 dnI, .slice none 0 0] from by rw [hdnI]; exact HRO.out.set 1 _)
                      have hbT := Lib.hid (show Below wr.heap.size wr (wc.setCell ⟨bn, 1, none⟩ (.int .i64 ((dd : Int) + 1))) from HBW2.out.setCell (p := ⟨bn, 1, none⟩) hbn _)
                      clear hdnI HRO HBW2 HHA b1 b4 co
                      generalize wc.setCell ⟨bn, 1, none⟩ (.int .i64 ((dd : Int) + 1)) = WT at *
                      have HBT := Lib.hid (fun r => below_drewN hbT.out r)
                      have hbs := hbT.out.size
                      have hb1s := hbel.out.size
                      rcases HGO.out with ⟨hneg, hed⟩ | ⟨hpos, hpk, hed⟩
                      · have HTK := Lib.hid (show (TrK (plA a onto ob) (Tr (plA a onto ob) i) ((dd : Int) * a.st + q, zx) (t + 1)) = (TrK (plA a onto ob) (Tr (plA a onto ob) i) ((dd : Int) * a.st + q, zx) t) from TrK_none (by rw [plA_al]; exact HTA.out) (by rw [plA_al, ← HEV.out]; exact hed))
                        have hs0 : sn < 0 := by rw [HSN.out]; exact hneg
                        have hd0 : decide (sn < 0) = true := decide_eq_true hs0
                        have b0 := hrT.out.cell 0 rfl
                        clear hed hneg
                        go_wp2_with fail
                        go_loopw [15, 16] (fun sv mv w3 => ∃ m : Nat, m ≤ N2 ∧ sv = .bool true ∧ mv = .int .i64 m ∧ ∃ r, w3 = WT.drewN r) (fun _ mv _ => N2 - (intOf mv).toNat)
                        case atStart => exact ⟨0, Nat.zero_le _, by first | rfl | (rw [hd0]), rfl, 0, rfl⟩
                        case round =>
                          obtain ⟨m', hm, rfl, rfl, r, rfl⟩ := hrel
                          have hib2 : (m' : Int) + 1 ≤ 100000000 := by omega
                          by_cases hml : m' < N2
                          · have y0 : (m' : Int) < (N2 : Int) := by omega
                            go_wp2_with fail
                            go_quiet (fail)
                            go_wp2_with fail
                            go_roundw
                            case rel => exact ⟨m' + 1, by omega, rfl, by go_num, by first | exact ⟨_, rfl⟩ | exact ⟨_, World.drewN_drewN _ _ _⟩⟩
                            case measure => simp [intOf]; omega
                          · have y0 : (N2 : Int) ≤ (m' : Int) := by omega
                            go_wp2_with fail
                            go_roundw
                            case rel => exact ⟨t + 1, ns, by go_num, by omega, by rw [HN2.out]; exact Lib.hid (hnd.out.below (HBT.out r)), by rw [HTK.out]; exact hni, hX, Lib.hid (hbel.out.trans ((HBT.out r).mono hbel.out.size))⟩
                            case measure => simp [intOf]; omega
                      · have hs0 : ¬ sn < 0 := by rw [HSN.out]; omega
                        have hd0 : decide (sn < 0) = false := decide_eq_false hs0
                        have b0 := hrT.out.cell 0 rfl
                        have b1 := hrT.out.cell 1 rfl
                        have HPK := Lib.hid (show PlOk a ob ((dd + 1), sn) from by rw [HSN.out]; exact hpk)
                        have HED := Lib.hid (show edgeO (plA a onto ob).ed ((dd : Int) * a.st + q) ((plA a onto ob).al.getD t 0) = some ⟨(dd : Int) * a.st + q, ev, ((((dd + 1)) : Nat) : Int) * a.st + sn⟩ from by rw [plA_al, ← HEV.out, HSN.out]; exact hed)
                        have HTK := Lib.hid (show (TrK (plA a onto ob) (Tr (plA a onto ob) i) ((dd : Int) * a.st + q, zx) (t + 1)) = visP zx (TrK (plA a onto ob) (Tr (plA a onto ob) i) ((dd : Int) * a.st + q, zx) t) ⟨(dd : Int) * a.st + q, ev, ((((dd + 1)) : Nat) : Int) * a.st + sn⟩ from TrK_some (by rw [plA_al]; exact HTA.out) HED.out)
                        have HND2 := Lib.hid (hnd.out.below hbT.out)
                        have HSZ := Lib.hid (show sB ns sn dnI 0 = false from by unfold sB; simp)
                        have HSA := Lib.hid (sB_all hni.out HDN.out HPK.out)
                        clear hed hpos hpk
                        go_wp2_with fail
                        go_loopw [15, 16] (fun sv mv w3 => ∃ m : Nat, m ≤ N2 ∧ sv = .bool (sB ns sn dnI m) ∧ mv = .int .i64 m ∧ ∃ r, w3 = WT.drewN r) (fun _ mv _ => N2 - (intOf mv).toNat)
                        case atStart => exact ⟨0, Nat.zero_le _, by first | (rw [HSZ.out]; done) | (rw [HSZ.out, hd0]; done), rfl, 0, rfl⟩
                        case round =>
                          clear HSZ
                          obtain ⟨m', hm, rfl, rfl, r, rfl⟩ := hrel
                          have hib2 : (m' : Int) + 1 ≤ 100000000 := by omega
                          by_cases hml : m' < N2
                          · obtain ⟨xm, hxm⟩ : ∃ x, ns[m']? = some x := ⟨_, List.getElem?_eq_getElem (by rw [← HN2.out]; exact hml)⟩
                            obtain ⟨g3, c3', hv3, _, _, k0, k1, _⟩ := HND2.out.at hxm
                            rw [← HN2.out] at hv3
                            injection hv3 with hv4 hv4a hv4b
                            injection hv4 with hv5
                            injection hv5 with hv6
                            subst hv6
                            clear hv4a hv4b
                            have hsu := sB_succ (s := sn) (dn := dnI) hxm
                            obtain ⟨xq, xd, xh⟩ := xm
                            simp only at k0 k1 hsu
                            obtain ⟨xe, hxe⟩ : ∃ z : Int, z = (xd : Int) := ⟨_, rfl⟩
                            rw [← hxe] at k1 hsu
                            have y0 : (m' : Int) < (N2 : Int) := by omega
                            have y1 : (0 : Int) ≤ (m' : Int) := by omega
                            obtain ⟨sb, hsb⟩ : ∃ b, b = sB ns sn dnI m' := ⟨_, rfl⟩
                            rw [← hsb] at hsu ⊢
                            clear hxm hsb hxe
                            cases sb
                            · by_cases hq1 : xq = sn
                              · have f1 : (xq == sn) = true := by simp [hq1]
                                by_cases hq2 : xe = dnI
                                · have f2 : (xe == dnI) = true := by simp [hq2]
                                  have HSU := Lib.hid (show sB ns sn dnI (m' + 1) = true from by rw [hsu, hq1, hq2]; simp)
                                  clear hsu hq1 hq2
                                  go_wp2_with fail
                                  go_quiet (fail)
                                  go_wp2_with fail
                                  go_roundw
                                  case rel => exact ⟨m' + 1, by omega, by rw [HSU.out], by go_num, by first | exact ⟨_, rfl⟩ | exact ⟨_, World.drewN_drewN _ _ _⟩⟩
                                  case measure => simp [intOf]; omega
                                · have f2 : (xe == dnI) = false := by simp [hq2]
                                  have HSU := Lib.hid (show sB ns sn dnI (m' + 1) = false from by rw [hsu, decide_eq_false hq2]; simp)
                                  clear hsu hq1 hq2
                                  go_wp2_with fail
                                  go_quiet (fail)
                                  go_wp2_with fail
                                  go_roundw
                                  case rel => exact ⟨m' + 1, by omega, by rw [HSU.out], by go_num, by first | exact ⟨_, rfl⟩ | exact ⟨_, World.drewN_drewN _ _ _⟩⟩
                                  case measure => simp [intOf]; omega
                              · have f1 : (xq == sn) = false := by simp [hq1]
                                have HSU := Lib.hid (show sB ns sn dnI (m' + 1) = false from by rw [hsu, decide_eq_false hq1]; simp)
                                clear hsu hq1
                                go_wp2_with fail
                                go_quiet (fail)
                                go_wp2_with fail
                                go_roundw
                                case rel => exact ⟨m' + 1, by omega, by rw [HSU.out], by go_num, by first | exact ⟨_, rfl⟩ | exact ⟨_, World.drewN_drewN _ _ _⟩⟩
                                case measure => simp [intOf]; omega
                            · have HSU := Lib.hid (show sB ns sn dnI (m' + 1) = true from by rw [hsu]; rfl)
                              clear hsu
                              go_wp2_with fail
                              go_quiet (fail)
                              go_wp2_with fail
                              go_roundw
                              case rel => exact ⟨m' + 1, by omega, by rw [HSU.out], by go_num, by first | exact ⟨_, rfl⟩ | exact ⟨_, World.drewN_drewN _ _ _⟩⟩
                              case measure => simp [intOf]; omega
                          · have hme : m' = N2 := by omega
                            have hsall : sB ns sn dnI m' = decide ((((dd + 1) : Nat) : Int) * a.st + sn ∈ ((TrK (plA a onto ob) (Tr (plA a onto ob) i) ((dd : Int) * a.st + q, zx) t)).map Prod.fst) := by rw [hme, HN2.out]; exact HSA.out
                            have y0 : (N2 : Int) ≤ (m' : Int) := by omega
                            rw [hsall]
                            by_cases hin : (((dd + 1) : Nat) : Int) * a.st + sn ∈ ((TrK (plA a onto ob) (Tr (plA a onto ob) i) ((dd : Int) * a.st + q, zx) t)).map Prod.fst
                            · rw [decide_eq_true hin]
                              have HVI := Lib.hid (show (TrK (plA a onto ob) (Tr (plA a onto ob) i) ((dd : Int) * a.st + q, zx) (t + 1)) = (TrK (plA a onto ob) (Tr (plA a onto ob) i) ((dd : Int) * a.st + q, zx) t) from by rw [HTK.out]; exact visP_in hin)
                              clear hin hsall hme
                              go_wp2_with fail
                              go_roundw
                              case rel => exact ⟨t + 1, ns, by go_num, by omega, by rw [HN2.out]; exact Lib.hid (hnd.out.below (HBT.out r)), by rw [HVI.out]; exact hni, hX, Lib.hid (hbel.out.trans ((HBT.out r).mono hbel.out.size))⟩
                              case measure => simp [intOf]; omega
                            · rw [decide_eq_false hin]
                              have HIN := Lib.hid hin
                              have HBQ := Lib.hid (HBT.out r)
                              have HRQ := Lib.hid (show Row (WT.drewN r) bn 115 [.int .i64 sn, .int .i64 dnI, .slice none 0 0] from hrT.out)
                              have HNQ := Lib.hid (hnd.out.below (HBT.out r))
                              clear hin hsall hme b0 b1 HBT HND2 hrT hbT
                              generalize WT.drewN r = WQ at *
                              have b2 := HRQ.out.frozen 2
                              have b3 := HRQ.out.cell 2 rfl
                              obtain ⟨g6, c6', hv6, _, _, _, _, k2⟩ := HNQ.out.at hX.out
                              rw [← HN2.out] at hv6
                              injection hv6 with hv7 hv7a hv7b
                              injection hv7 with hv8
                              injection hv8 with hv9
                              subst hv9
                              clear hv7a hv7b
                              simp only [Hd.enc] at k2
                              rw [← HLX.out] at k2
                              have HWX := Lib.hid (HNQ.out.own _ (List.mem_of_getElem? hX.out))
                              have HFR := Lib.hid (show RdI WQ WQ.heap.size Ax zx from by
                                obtain ⟨_, _, e1, q1, _, _⟩ := own_rdc HWX.out
                                injection e1 with e1 _ _
                                subst e1; exact q1)
                              have HLIT := Lib.hid (own_lit07 WQ)
                              have HFR2 := Lib.hid (show RdI (WQ.alloc (.cells #[] 3)) WQ.heap.size Ax zx from HFR.out.below ((Below.refl WQ.heap.size WQ).alloc (Nat.le_refl _) _) (Nat.le_refl _))
                              have HBL := Lib.hid (show Below WQ.heap.size WQ (WQ.alloc (.cells #[] 3)) from (Below.refl _ _).alloc (Nat.le_refl _) _)
                              have hbqs := HBQ.out.size
                              have hbnl := HRQ.out.lt
                              go_wp2_with (at_builtin; refine wpList_app_rd rfl (.tmp 136) (.tmp 141) rfl WQ.heap.size (.slice (some ⟨WQ.heap.size, 0, none⟩) 0 0) 0 [] rfl HLIT.out WQ.heap.size Ax lx cx zx rfl HFR2.out HLX.out.symm (by unfold maxLen; omega) (by omega) (by simp) ?_)
                              intro v8 w8 ho8 hg8
                              have HO8 := Lib.hid (show w8.ownsRow WQ.heap.size 3 1 v8 lx (zx.map (Value.int .i64)) from by simpa using ho8)
                              have HB8 := Lib.hid (show Below WQ.heap.size WQ w8 from HBL.out.grown hg8 (by simp) (fun j hj => by cases hj; exact Nat.le_refl _))
                              clear ho8 hg8 HLIT HBL HFR2 b2 b3 k2
                              have hz8 := HB8.out.size
                              go_wp2_with (at_builtin; refine wpList_append_own_at _ rfl (.tmp 142) (.tmp 144) 27 rfl WQ.heap.size 3 iI (.int .i64 0) 1 8 Tryz.underlying27 iI0 iI1 iI2 iI3 rfl (by omega) _ lx (zx.map (Value.int .i64)) rfl (HO8.out.alloc _) ⟨w8.heap.size, 0, none⟩ 1 1 [.int .i64 ev] rfl rfl (World.news_of_block (cs := #[.int .i64 ev]) (t := 3) (fr := (0, 0)) (heap_alloc_new w8 _)) (by simp [Value.oneCell']) (by unfold maxLen; omega) (by omega) (by first | (simp; done) | (simp; omega)) ?_)
                              intro v9 w9 ho9 hg9 _ _
                              obtain ⟨A9, c9, hv9⟩ := own_shapeS ho9
                              subst hv9
                              have HO9 := Lib.hid (show Own w9 WQ.heap.size (.slice A9 (zx ++ [ev]).length c9) (zx ++ [ev]) from by unfold Own; rw [List.length_append, List.map_append, ← HLX.out]; exact ho9)
                              have HB9 := Lib.hid (show Below WQ.heap.size WQ w9 from (HB8.out.alloc hz8 _).grown hg9 (by first | (simp; done) | (simp; omega)) (fun j hj => (HO8.out.lt j hj).1))
                              have hr9 := Lib.hid (HRQ.out.below HB9.out hbnl)
                              clear ho9 hg9 HO8
                              have b2 := hr9.out.cell 2 rfl
                              have b3 := hr9.out.frozen 2
                              have x0 := hr9.out.cell 0 rfl
                              have x1 := hr9.out.cell 1 rfl
                              have hrS := Lib.hid (hr9.out.set 2 (.slice A9 (lx + 1) c9))
                              have HBS := Lib.hid (show Below wr.heap.size wr (w9.setCell ⟨bn, 2, none⟩ (.slice A9 (lx + 1) c9)) from (HBQ.out.trans (HB9.out.mono hbqs)).setCell (p := ⟨bn, 2, none⟩) hbn _)
                              have HOS := Lib.hid (show Own (w9.setCell ⟨bn, 2, none⟩ (.slice A9 (lx + 1) c9)) wr.heap.size (.slice A9 (zx ++ [ev]).length c9) (zx ++ [ev]) from own_more (ownsRow_setCell_other (a := ⟨bn, 2, none⟩) HO9.out (fun e => by have := (HO9.out.lt bn e).1; omega) _) hbqs)
                              have HNS := Lib.hid (hnd.out.below HBS.out)
                              have HROW := Lib.hid (show World.ownsRow (w9.setCell ⟨bn, 2, none⟩ (.slice A9 (lx + 1) c9)) w1.heap.size 115 3 (.slice (some ⟨gL2, 0, none⟩) N2 cL2) N2 (encN ns) from by have := HNS.out.row; rw [← HN2.out] at this; exact this)
                              go_upto_region 24 with fail
                              clear b2 b3 x0 x1
                              generalize (w9.setCell ⟨bn, 2, none⟩ (.slice A9 (lx + 1) c9)) = wS at *
                              have s0 := hrS.out.cell 0 rfl
                              have s1 := hrS.out.cell 1 rfl
                              have s2 := hrS.out.cell 2 rfl
                              have hzS := HBS.out.size
                              go_wp2_with (at_builtin; refine wpList_append_own _ rfl (.tmp 147) (.tmp 149) 113 rfl w1.heap.size 115 iE (.agg #[.int .i64 0, .int .i64 0, .slice none 0 0]) 3 40 Tryz.underlying113 iE0 iE1 iE2 iE3 rfl (by omega) _ N2 (encN ns) rfl (HROW.out.alloc _) ⟨wS.heap.size, 0, none⟩ 1 1 [.int .i64 sn, .int .i64 dnI, .slice A9 (lx + 1) c9] rfl rfl (World.news_of_block (cs := #[.int .i64 sn, .int .i64 dnI, .slice A9 (lx + 1) c9]) (t := 115) (fr := (0, 0)) (heap_alloc_new wS _)) (by simp [Value.oneCell']) (by unfold maxLen; omega) (by omega) (by first | (simp; done) | (simp; omega)) ?_)
                              intro vl7 w7 ho7 hg7 _
                              have hlen : (zx ++ [ev]).length = lx + 1 := by rw [List.length_append, ← HLX.out]; rfl
                              have HND7 := Lib.hid (show ND w7 w1.heap.size vl7 (ns ++ [⟨sn, (dd + 1), ⟨A9, c9, zx ++ [ev]⟩⟩]) from
                                ND.push (x := ⟨sn, (dd + 1), ⟨A9, c9, zx ++ [ev]⟩⟩) hnd.out (HBS.out.alloc hzS (.cells #[.int .i64 sn, .int .i64 dnI, .slice A9 (lx + 1) c9] 115)) hb1s (HOS.out.alloc _) (by unfold Hd.enc; simp only [hlen]; rw [← HDN.out]; exact ho7) (by rw [HN2.out]) hg7)
                              have HNI7 := Lib.hid (show NI a ob (ns ++ [⟨sn, (dd + 1), ⟨A9, c9, zx ++ [ev]⟩⟩]) (TrK (plA a onto ob) (Tr (plA a onto ob) i) ((dd : Int) * a.st + q, zx) (t + 1)) from by rw [HTK.out]; exact hni.out.add HPK.out rfl HIN.out)
                              have hX7 := Lib.hid (show (ns ++ [(⟨sn, (dd + 1), ⟨A9, c9, zx ++ [ev]⟩⟩ : Nd)])[i]? = some ⟨q, dd, ⟨Ax, cx, zx⟩⟩ from by rw [List.getElem?_append_left (by rw [← HN2.out]; exact hiN2)]; exact hX.out)
                              have hbel7 := Lib.hid (show Below w1.heap.size w1 w7 from (((hbel.out.trans (HBS.out.mono hbel.out.size)).alloc (Nat.le_trans hb1s hzS) _).grown hg7 (by first | (simp; done) | (simp; omega)) (fun j hj => (HROW.out.lt j hj).1)))
                              clear ho7 hg7
                              go_wp2_with fail
                              go_roundw
                              case rel => exact ⟨t + 1, _, by go_num, by omega, HND7, HNI7, hX7, hbel7⟩
                              case measure => simp [intOf]; omega
                    · have e1 : (eo != ev) = true := by simp [hee]
                      have HTK := Lib.hid (show (TrK (plA a onto ob) (Tr (plA a onto ob) i) ((dd : Int) * a.st + q, zx) (t + 1)) = (TrK (plA a onto ob) (Tr (plA a onto ob) i) ((dd : Int) * a.st + q, zx) t) from TrK_none (by rw [plA_al]; exact HTA.out) (by rw [plA_al, ← HEV.out]; exact pl_stop HRI.out HST0.out HOK.out HEM.out hev2 (by rw [HEO.out]; simpa using hee)))
                      clear hee
                      go_wp2_with fail
                      refine HHA.out.mono ?_
                      rintro e w6 ⟨rfl, hw6⟩
                      subst hw6
                      go_wp2_with fail
                      go_roundw
                      case rel => exact ⟨t + 1, ns, by go_num, by omega, by rw [HN2.out]; exact Lib.hid (hnd.out.below HBW2.out), by rw [HTK.out]; exact hni, hX, HB2⟩
                      case measure => simp [intOf]; omega
            · have hte : t = n := by omega
              rw [hte, TrK_all HDR.out HPX.out (show (plA a onto ob).al.length = n from HAN.out)] at hni
              have hj1 := Lib.hid (show i + 1 ≤ ns.length from (List.getElem?_eq_some_iff.1 hX.out).1)
              have z0 : (n : Int) ≤ (t : Int) := by omega
              have hib : i < 1100 := by omega
              clear hte
              go_wp2_with fail
              go_roundw
              case rel => exact ⟨i + 1, ns, by go_num, hj1, hnd, hni, HNG2, hbel⟩
              case measure => simp [intOf]; omega
        · have HLF := Lib.hid (show lfO a onto ob mk = some zx from lf_at HST0.out HPX.out HG.out.symm hng.out (by have h1 := HLE.out i; have h2 := hni.out.len; rw [← HNL.out] at h2; omega))
          have HRX := Lib.hid (hnd.out.own ⟨q, dd, ⟨Ax, cx, zx⟩⟩ (List.mem_of_getElem? HX2.out))
          have hbw := Lib.hid (BW.out _ hbel.out)
          clear hng HMq
          go_wp2_with fail
          go_ret2
          obtain ⟨_, _, e1, k1, _, _⟩ := own_rdc HRX.out
          injection e1 with e1 e2 e3
          subst e1
          exact ⟨Ax, lx, cx, by rw [HLF.out]; rfl, by rw [HLF.out]; exact k1, by rw [HLF.out]; exact HLX.out.symm, hbw.out⟩
    · have hie : i = N := by omega
      have HLF := Lib.hid (show lfO a onto ob mk = none from lf_none HST0.out (n := i) (by have h2 := hni.out.len; rw [← HNL.out] at h2; omega) (fun j r hr => hng.out j r (by have h1 := (List.getElem?_eq_some_iff.1 hr).1; have h2 := hni.out.len; rw [← HNL.out] at h2; omega) hr) (by have h1 := HLE.out i; have h2 := hni.out.len; rw [← HNL.out] at h2; omega))
      have z0 : (N : Int) ≤ (i : Int) := by omega
      have hbw := Lib.hid (BW.out _ hbel.out)
      obtain ⟨Al, cl, hvl⟩ := hnd.out.shape
      subst hvl
      rw [← HNL.out]
      clear hie hng
      go_wp2_with fail
      go_ret2
      exact ⟨none, 0, 0, by rw [HLF.out]; rfl, fun h => absurd h (by rw [HLF.out]; simp), by rw [HLF.out]; rfl, hbw.out⟩
theorem r7Lift_any (A : Option Addr) (n c : Nat) (s : Int) (M : Option Addr) (m d : Nat) (E : Option Addr) (k g : Nat) (a : Au) (A3 : Option Addr) (n3 c3 : Nat) (onto : List Int) (A2 : Option Addr) (n2 c2 : Nat) (ob : List Int) (mk : Bool) (w : World) (h : AuR w w.heap.size A n c s M m d E k g a) (hri : RightW a) (hs4 : a.st ≤ 100) (hx3 : RdI w w.heap.size A3 onto) (hn3 : onto.length = n3) (hb3 : n3 ≤ 100000) (hx2 : RdI w w.heap.size A2 ob) (hn2 : ob.length = n2) (hb2 : n2 ≤ 10) :
    Calls Tryz.prog 32 #[.agg #[.slice A n c, .int .i64 s, .slice M m d, .slice E k g], .slice A3 n3 c3, .slice A2 n2 c2, .bool mk] w fun e w' => LfR a onto ob mk w w' e := by
  by_cases h0 : a.st = 0
  · exact r7Lift_none A n c s M m d E k g a A3 n3 c3 onto A2 n2 c2 ob mk w h h0
  · have := hri.st0
    exact r7Lift_some A n c s M m d E k g a A3 n3 c3 onto A2 n2 c2 ob mk w h hri hs4 (by omega) hx3 hn3 hb3 hx2 hn2 hb2
end Go.Proofs.YtaadhpkpekmfoaaGreat
