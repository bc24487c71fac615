/- The law ProjectionTwice, walked. -/
import Derived.Test.YtmghngehpgolgaaZjPreB
import Derived.Test.YtmghngehpgolgaaZtSame
import Derived.Test.YtmghngehpgolgaaZqTw
set_option linter.unusedVariables false
set_option linter.unusedSimpArgs false
set_option linter.unusedSectionVars false
namespace Go.Proofs.Ytmghngehpgolgaa
open Go.RowKit Go.Sort
attribute [local go_sem ↓] exec_load_graph'
attribute [local go_sem] blkOf_ptr

theorem fin3_new {W w : World} {l : List (Nat × List Value)} {al : List Int} {a : Au} {A : Option Addr} {n c : Nat} {s : Int} {M : Option Addr} {m d : Nat} {E : Option Addr} {k g : Nat} (hl : LW W l w) (hev : Ev5 5 al) (hok : OkM al a) (hau : AuR w w.heap.size A n c s M m d E k g a) : PreR W l (.pointer (some ⟨w.heap.size, 0, none⟩)) (w.alloc (.cells #[.slice A n c, .int .i64 s, .slice M m d, .slice E k g] 25)) := by
  have hb := (Below.refl w.heap.size w).alloc (Nat.le_refl _) (.cells #[.slice A n c, .int .i64 s, .slice M m d, .slice E k g] 25)
  exact ⟨_, al, a, A, n, c, s, M, m, d, E, k, g, rfl, hl.new [.slice A n c, .int .i64 s, .slice M m d, .slice E k g] 25, hev, hok, (hau.below hb (Nat.le_refl _)).more hb.size⟩
theorem fin3_put {W w wa : World} {l : List (Nat × List Value)} {al : List Int} {a : Au} {A : Option Addr} {n c : Nat} {s : Int} {M : Option Addr} {m d : Nat} {E : Option Addr} {k g b : Nat} {x0 x1 x2 x3 : Value} (ha : LW W l wa) (hl : LW W l w) (hr : Row w b 25 [x0, x1, x2, x3]) (hb : wa.heap.size ≤ b) (hev : Ev5 5 al) (hok : OkM al a) (hau : AuS w b a A n c s M m d E k g) : PreR W l (.pointer (some ⟨b, 0, none⟩)) ((((w.setCell ⟨b, 0, none⟩ (.slice A n c)).setCell ⟨b, 1, none⟩ (.int .i64 s)).setCell ⟨b, 2, none⟩ (.slice M m d)).setCell ⟨b, 3, none⟩ (.slice E k g)) :=
  ⟨b, al, a, A, n, c, s, M, m, d, E, k, g, rfl, hl.put hr (Nat.le_trans ha.bel.size hb) (fun x hx => Nat.ne_of_lt (Nat.lt_of_lt_of_le (ha.bx x.1 x.2 hx).1 hb)) _ _ _ _, hev, hok, by simpa [Hid] using hau _ _ _ _⟩
theorem gs3_of {W w : World} {l : List (Nat × List Value)} (h : LW W l w) (jg js : Nat) {bg bs : Nat} {gv : Nat → Value} {x0 x1 x2 : Int} (hg : l[jg]? = some (bg, [gv 0, gv 1, gv 2, gv 3, gv 4, gv 5, gv 6, gv 7, gv 8, gv 9, gv 10, gv 11, gv 12, gv 13, gv 14, gv 15, gv 16, gv 17, gv 18, gv 19, gv 20, gv 21, gv 22, gv 23, gv 24, gv 25, gv 26])) (hs : l[js]? = some (bs, [.int .u8 x0, .int .u8 x1, .int .u8 x2])) : GridOk w bg ∧ (∀ i : Nat, i < 27 → w.cell? ⟨bg, i, none⟩ = some (gv i)) ∧ w.cell? ⟨bs, 0, none⟩ = some (.int .u8 x0) :=
  ⟨gridOk (h.bx.grid jg hg), h.bx.grid jg hg, h.bx.at js hs 0 rfl⟩
theorem KW.gv3 {W w w' : World} {l : List (Nat × List Value)} {V : Option Addr} {nV cV : Nat} {hs : List Hd} {zs : List (List Int)} (h : KW W l w w') (hv : GV7 w V nV cV hs zs) : GV7 w' V nV cV hs zs :=
  ⟨(hv.rd.below h.bel (Nat.le_refl _)).more h.bel.size, hv.len, hv.z, hv.cap⟩
theorem k_jprojL {W w : World} {l : List (Nat × List Value)} {A : Option Addr} {n c : Nat} {s : Int} {M : Option Addr} {m d : Nat} {E : Option Addr} {k g : Nat} {a : Au} {A3 : Option Addr} {n3 c3 : Nat} {ev : List Int} (hc : cweE a ev = 0) (hf : 4096 < (fnd (detA a ev)).length) (ha : AuR w w.heap.size A n c s M m d E k g a)
    (hx3 : RdI w w.heap.size A3 ev) (hn3 : ev.length = n3) (hc3 : n3 ≤ c3 ∧ c3 ≤ 9223372036854775807) (hb3 : n3 ≤ 100000) (h : LW W l w) :
    Calls Try.prog 8 #[.agg #[.slice A n c, .int .i64 s, .slice M m d, .slice E k g], .slice A3 n3 c3] w fun e w' => e = .returned (.tuple #[.agg #[.slice none 0 0, .int .i64 0, .slice none 0 0, .slice none 0 0], .slice none 0 0, .int .i64 3]) ∧ KW W l w w' := by
  refine (jProject_any A n c s M m d E k g A3 n3 c3 a ev w ha hx3 hn3 hc3 hb3).mono ?_
  rintro e w' ⟨hb, h1 | h1 | h1⟩
  · exact absurd hc h1.1
  · exact ⟨h1.2.2, KW.of h hb⟩
  · have := h1.2.1; omega
set_option maxHeartbeats 8000000 in
set_option maxRecDepth 100000 in
theorem lawPjTwice (x0 x1 x2 : Int) (gv : Nat → Value) (W : World) (S0 : (Lit.int .u8 x0).wf = true) (S1 : (Lit.int .u8 x1).wf = true) (S2 : (Lit.int .u8 x2).wf = true) (SG : GrC #[gv 0, gv 1, gv 2, gv 3, gv 4, gv 5, gv 6, gv 7, gv 8, gv 9, gv 10, gv 11, gv 12, gv 13, gv 14, gv 15, gv 16, gv 17, gv 18, gv 19, gv 20, gv 21, gv 22, gv 23, gv 24, gv 25, gv 26]) :
    Calls Try.prog 4 #[.agg #[.int .u8 x0, .int .u8 x1, .int .u8 x2], .agg #[gv 0, gv 1, gv 2, gv 3, gv 4, gv 5, gv 6, gv 7, gv 8, gv 9, gv 10, gv 11, gv 12, gv 13, gv 14, gv 15, gv 16, gv 17, gv 18, gv 19, gv 20, gv 21, gv 22, gv 23, gv 24, gv 25, gv 26]] W fun e W' => e = .returned (.bool true) ∧ Below W.heap.size W W' := by
  have HL0 := Lib.hid (by
    have h := (LW.first W [.int .u8 x0, .int .u8 x1, .int .u8 x2] 43).new [gv 0, gv 1, gv 2, gv 3, gv 4, gv 5, gv 6, gv 7, gv 8, gv 9, gv 10, gv 11, gv 12, gv 13, gv 14, gv 15, gv 16, gv 17, gv 18, gv 19, gv 20, gv 21, gv 22, gv 23, gv 24, gv 25, gv 26] 47
    rw [World.size_alloc] at h; exact h)
  have HK := Lib.hid known7_any
  have HS0 := Lib.hid S0
  have HS1 := Lib.hid S1
  have HS2 := Lib.hid S2
  have HSG := Lib.hid SG
  clear S0 S1 S2 SG
  go_enter Try.func4, Try.ntmps4
  go_wp2_with fail
  refine (lw_call (HK.out _) HL0.out).mono ?_
  rintro e w1 ⟨rfl, hl⟩
  have HL1 := Lib.hid hl
  clear hl
  have hgs := gs3_of HL1.out 0 1 (gv := gv) (x0 := x0) (x1 := x1) (x2 := x2) rfl rfl
  go_wp2_with fail
  go_cut [5] from 23 to 27 (fun v wx => PreR W [(W.heap.size + 1, [gv 0, gv 1, gv 2, gv 3, gv 4, gv 5, gv 6, gv 7, gv 8, gv 9, gv 10, gv 11, gv 12, gv 13, gv 14, gv 15, gv 16, gv 17, gv 18, gv 19, gv 20, gv 21, gv 22, gv 23, gv 24, gv 25, gv 26]), (W.heap.size, [.int .u8 x0, .int .u8 x1, .int .u8 x2])] v wx)
  case first =>
    have HL9 := Lib.hid HL1.out
    go_region_held3 (fun w' => GridOk w' (W.heap.size + 1) ∧ (∀ i : Nat, i < 27 → w'.cell? ⟨W.heap.size + 1, i, none⟩ = some (gv i)) ∧ w'.cell? ⟨W.heap.size, 0, none⟩ = some (.int .u8 x0)) (exact gs3_of (W := W) (l := [(W.heap.size + 1, [gv 0, gv 1, gv 2, gv 3, gv 4, gv 5, gv 6, gv 7, gv 8, gv 9, gv 10, gv 11, gv 12, gv 13, gv 14, gv 15, gv 16, gv 17, gv 18, gv 19, gv 20, gv 21, gv 22, gv 23, gv 24, gv 25, gv 26]), (W.heap.size, [.int .u8 x0, .int .u8 x1, .int .u8 x2])]) (x1 := x1) (x2 := x2) (by repeat (first | with_reducible exact HL9.out | refine LW.drew ?_ | refine LW.alloc ?_ _ | with_reducible exact (LW.put' HL1.out HL9.out HQ3.out (Nat.le_refl _) _ _ _ _).tail | with_reducible exact (LW.put' HL8.out HL9.out HQ4.out (Nat.le_refl _) _ _ _ _).tail)) 0 1 rfl rfl)
      (first
      | (go_simp; go_at_call 16; (with_reducible refine (events_any x0 _ HS0.out).mono ?_); rintro e w2 ⟨al, hev, A0, c0, rfl, hrd, hb2, hc0, hc02⟩
         have HL8 := Lib.hid (show LW W [(W.heap.size + 1, [gv 0, gv 1, gv 2, gv 3, gv 4, gv 5, gv 6, gv 7, gv 8, gv 9, gv 10, gv 11, gv 12, gv 13, gv 14, gv 15, gv 16, gv 17, gv 18, gv 19, gv 20, gv 21, gv 22, gv 23, gv 24, gv 25, gv 26]), (W.heap.size, [.int .u8 x0, .int .u8 x1, .int .u8 x2])] w2 from LW.call (by repeat (first | with_reducible exact HL9.out | refine LW.drew ?_ | refine LW.alloc ?_ _)) hb2)
         have HL9 := HL8
         have HEV := Lib.hid hev
         have HRD := Lib.hid hrd
         try (have hq : Row w2 w1.heap.size 25 [.slice none 0 0, .int .i64 0, .slice none 0 0, .slice none 0 0] := Row.below (by first | with_reducible exact Row.new w1 [.slice none 0 0, .int .i64 0, .slice none 0 0, .slice none 0 0] 25 | with_reducible exact row_drew (Row.new w1 [.slice none 0 0, .int .i64 0, .slice none 0 0, .slice none 0 0] 25) | with_reducible exact Row.new w1.drew [.slice none 0 0, .int .i64 0, .slice none 0 0, .slice none 0 0] 25) hb2 (by simp); have HQ2 := Lib.hid hq; have y0 := hq.cell 0 rfl; have y1 := hq.cell 1 rfl; have y2 := hq.cell 2 rfl; have y3 := hq.cell 3 rfl; have g0 := hq.frozen 0; have g1 := hq.frozen 1; have g2 := hq.frozen 2; have g3 := hq.frozen 3; clear hq)
         clear hb2 hev hrd hc02)
      | (go_simp; go_at_call 15; refine (make_any A0 al.length c0 w2.heap.size al #[gv 0, gv 1, gv 2, gv 3, gv 4, gv 5, gv 6, gv 7, gv 8, gv 9, gv 10, gv 11, gv 12, gv 13, gv 14, gv 15, gv 16, gv 17, gv 18, gv 19, gv 20, gv 21, gv 22, gv 23, gv 24, gv 25, gv 26] _ (by first | with_reducible exact HRD.out | exact HRD.out.below ((Below.refl _ w2).alloc (Nat.le_refl _) _) (Nat.le_refl _)) (by simp) rfl hc0 HEV.out HSG.out).mono ?_; rintro e w3 ⟨a, v3, hok, rfl, ⟨A, n, c, s, M, m, d, E, k, g, rfl, hau, hfr⟩, hb3⟩
         have HL7 := Lib.hid (show LW W [(W.heap.size + 1, [gv 0, gv 1, gv 2, gv 3, gv 4, gv 5, gv 6, gv 7, gv 8, gv 9, gv 10, gv 11, gv 12, gv 13, gv 14, gv 15, gv 16, gv 17, gv 18, gv 19, gv 20, gv 21, gv 22, gv 23, gv 24, gv 25, gv 26]), (W.heap.size, [.int .u8 x0, .int .u8 x1, .int .u8 x2])] w3 from LW.call (by repeat (first | with_reducible exact HL9.out | refine LW.drew ?_ | refine LW.alloc ?_ _)) hb3)
         have HL9 := HL7
         have HOK := Lib.hid hok
         have HAF := Lib.hid (show AuF a (.agg #[.slice A n c, .int .i64 s, .slice M m d, .slice E k g]) w3 _ from ⟨A, n, c, s, M, m, d, E, k, g, rfl, hau, hfr⟩)
         have HA3 := Lib.hid hau
         try (have hq := Row.below (show Row _ w1.heap.size 25 [.slice none 0 0, .int .i64 0, .slice none 0 0, .slice none 0 0] from by first | with_reducible exact HQ2.out | with_reducible exact row_drew HQ2.out) hb3 (by have := HQ2.out.lt; simpa using this); have HQ3 := Lib.hid hq; have HQL := Lib.hid (Nat.lt_of_lt_of_le HQ2.out.lt (Nat.le_refl _)); have HAS3 := Lib.hid (show AuS w3 w1.heap.size a A n c s M m d E k g from aus_f HAF.out (by have := HQL.out; simpa using this)); have y0 := hq.cell 0 rfl; have y1 := hq.cell 1 rfl; have y2 := hq.cell 2 rfl; have y3 := hq.cell 3 rfl; have g0 := hq.frozen 0; have g1 := hq.frozen 1; have g2 := hq.frozen 2; have g3 := hq.frozen 3; clear hq)
         try (have hq : Row w3 w2.heap.size 25 [.slice none 0 0, .int .i64 0, .slice none 0 0, .slice none 0 0] := Row.below (by first | with_reducible exact Row.new w2 [.slice none 0 0, .int .i64 0, .slice none 0 0, .slice none 0 0] 25 | with_reducible exact row_drew (Row.new w2 [.slice none 0 0, .int .i64 0, .slice none 0 0, .slice none 0 0] 25) | with_reducible exact Row.new w2.drew [.slice none 0 0, .int .i64 0, .slice none 0 0, .slice none 0 0] 25) hb3 (by simp); have HQ4 := Lib.hid hq; have HAS3 := Lib.hid (show AuS w3 w2.heap.size a A n c s M m d E k g from aus_f HAF.out (by simp)); have y0 := hq.cell 0 rfl; have y1 := hq.cell 1 rfl; have y2 := hq.cell 2 rfl; have y3 := hq.cell 3 rfl; have g0 := hq.frozen 0; have g1 := hq.frozen 1; have g2 := hq.frozen 2; have g3 := hq.frozen 3; clear hq)
         clear hb3 hok hau hfr))
    all_goals
      go_wp2_with fail
      go_meet
      case rel => first | exact fin3_new HL9.out HEV.out HOK.out HA3.out | exact fin3_put HL1.out HL9.out HQ3.out (Nat.le_refl _) HEV.out HOK.out HAS3.out | exact fin3_put HL8.out HL9.out HQ4.out (Nat.le_refl _) HEV.out HOK.out HAS3.out
  case rest =>
    obtain ⟨bc, al, a, A, n, c, s, M, m, d, E, k, g, rfl, HL4, HEV, HOK, HAU⟩ := hcut
    rename World => wb
    have HB0 := Lib.hid HL4.out.bel
    have HL5 := Lib.hid (show LW wb ((bc, [.slice A n c, .int .i64 s, .slice M m d, .slice E k g]) :: [(W.heap.size + 1, [gv 0, gv 1, gv 2, gv 3, gv 4, gv 5, gv 6, gv 7, gv 8, gv 9, gv 10, gv 11, gv 12, gv 13, gv 14, gv 15, gv 16, gv 17, gv 18, gv 19, gv 20, gv 21, gv 22, gv 23, gv 24, gv 25, gv 26]), (W.heap.size, [.int .u8 x0, .int .u8 x1, .int .u8 x2])]) wb from ⟨Below.refl _ _, HL4.out.bx⟩)
    clear hgs HL1 HL0
    obtain ⟨on, hon⟩ : ∃ on, evL x1 5 = on := ⟨_, rfl⟩
    obtain ⟨pt, hpt⟩ : ∃ pt, evL (bits .and .u8 x1 x2) 5 = pt := ⟨_, rfl⟩
    have HPT := Lib.hid (show ∀ x ∈ pt, x ∈ on from fun x hx => by
      rw [← hon]; rw [← hpt] at hx
      exact ev_sub (by have := HS1.out; simp [Lit.wf, IntKind.min, IntKind.max, IntKind.signed, IntKind.bits] at this; omega) (by have := HS2.out; simp [Lit.wf, IntKind.min, IntKind.max, IntKind.signed, IntKind.bits] at this; omega) 5 x hx)
    have HON5 := Lib.hid (show Ev5 5 on by rw [← hon]; exact evL_ok x1 5)
    have HPT5 := Lib.hid (show Ev5 5 pt by rw [← hpt]; exact evL_ok _ 5)
    have HE1 := Lib.hid (fun W => events_bits x1 W)
    have HE2 := Lib.hid (fun W => events_bits (bits .and .u8 x1 x2) W)
    rw [hon] at HE1
    rw [hpt] at HE2
    clear hon hpt
    have x1c := HL5.out.bx.at 2 rfl 1 rfl
    have x2c := HL5.out.bx.at 2 rfl 2 rfl
    have HQ0 := Lib.hid (show KW wb ((bc, [.slice A n c, .int .i64 s, .slice M m d, .slice E k g]) :: [(W.heap.size + 1, [gv 0, gv 1, gv 2, gv 3, gv 4, gv 5, gv 6, gv 7, gv 8, gv 9, gv 10, gv 11, gv 12, gv 13, gv 14, gv 15, gv 16, gv 17, gv 18, gv 19, gv 20, gv 21, gv 22, gv 23, gv 24, gv 25, gv 26]), (W.heap.size, [.int .u8 x0, .int .u8 x1, .int .u8 x2])]) wb wb from ⟨HL5.out, Below.refl _ _⟩)
    have HQ0d := Lib.hid (show KW wb ((bc, [.slice A n c, .int .i64 s, .slice M m d, .slice E k g]) :: [(W.heap.size + 1, [gv 0, gv 1, gv 2, gv 3, gv 4, gv 5, gv 6, gv 7, gv 8, gv 9, gv 10, gv 11, gv 12, gv 13, gv 14, gv 15, gv 16, gv 17, gv 18, gv 19, gv 20, gv 21, gv 22, gv 23, gv 24, gv 25, gv 26]), (W.heap.size, [.int .u8 x0, .int .u8 x1, .int .u8 x2])]) wb wb.drew from ⟨HL5.out.drew, (Below.refl _ _).drew⟩)
    go_wp2_with fail
    go_cut [6, 7] from 28 to 36 (fun v6 v7 wx => ∃ (A6 : Option Addr) (c6 : Nat) (A7 : Option Addr) (c7 : Nat), v6 = .slice A6 on.length c6 ∧ v7 = .slice A7 pt.length c7 ∧ (on.length ≤ c6 ∧ c6 ≤ 9223372036854775807) ∧ (pt.length ≤ c7 ∧ c7 ≤ 9223372036854775807) ∧ Hid (RdI wx wx.heap.size A6 on) ∧ Hid (RdI wx wx.heap.size A7 pt) ∧ Hid (KW wb ((bc, [.slice A n c, .int .i64 s, .slice M m d, .slice E k g]) :: [(W.heap.size + 1, [gv 0, gv 1, gv 2, gv 3, gv 4, gv 5, gv 6, gv 7, gv 8, gv 9, gv 10, gv 11, gv 12, gv 13, gv 14, gv 15, gv 16, gv 17, gv 18, gv 19, gv 20, gv 21, gv 22, gv 23, gv 24, gv 25, gv 26]), (W.heap.size, [.int .u8 x0, .int .u8 x1, .int .u8 x2])]) wb wx))
    case first =>
      go_region_held3 (fun w' => w'.cell? ⟨W.heap.size, 1, none⟩ = some (.int .u8 x1) ∧ w'.cell? ⟨W.heap.size, 2, none⟩ = some (.int .u8 x2)) (first | with_reducible exact ⟨x1c, x2c⟩ | go_keep)
        (first
        | (go_simp; go_at_call 16; (with_reducible refine (HE1.out _).mono ?_); rintro e w2 ⟨A6, c6, rfl, ho, hb⟩
           have HQ1 := Lib.hid (show KW wb ((bc, [.slice A n c, .int .i64 s, .slice M m d, .slice E k g]) :: [(W.heap.size + 1, [gv 0, gv 1, gv 2, gv 3, gv 4, gv 5, gv 6, gv 7, gv 8, gv 9, gv 10, gv 11, gv 12, gv 13, gv 14, gv 15, gv 16, gv 17, gv 18, gv 19, gv 20, gv 21, gv 22, gv 23, gv 24, gv 25, gv 26]), (W.heap.size, [.int .u8 x0, .int .u8 x1, .int .u8 x2])]) wb w2 from ⟨(show LW wb ((bc, [.slice A n c, .int .i64 s, .slice M m d, .slice E k g]) :: [(W.heap.size + 1, [gv 0, gv 1, gv 2, gv 3, gv 4, gv 5, gv 6, gv 7, gv 8, gv 9, gv 10, gv 11, gv 12, gv 13, gv 14, gv 15, gv 16, gv 17, gv 18, gv 19, gv 20, gv 21, gv 22, gv 23, gv 24, gv 25, gv 26]), (W.heap.size, [.int .u8 x0, .int .u8 x1, .int .u8 x2])]) w2 from LW.call (by first | with_reducible exact HQ0.out.lw | with_reducible exact HQ0d.out.lw) hb), by first | exact HQ0.out.bel.trans (hb.mono HQ0.out.bel.size) | exact HQ0d.out.bel.trans (hb.mono HQ0d.out.bel.size)⟩)
           have HQ1d := Lib.hid (show KW wb ((bc, [.slice A n c, .int .i64 s, .slice M m d, .slice E k g]) :: [(W.heap.size + 1, [gv 0, gv 1, gv 2, gv 3, gv 4, gv 5, gv 6, gv 7, gv 8, gv 9, gv 10, gv 11, gv 12, gv 13, gv 14, gv 15, gv 16, gv 17, gv 18, gv 19, gv 20, gv 21, gv 22, gv 23, gv 24, gv 25, gv 26]), (W.heap.size, [.int .u8 x0, .int .u8 x1, .int .u8 x2])]) wb w2.drew from ⟨HQ1.out.lw.drew, HQ1.out.bel.drew⟩)
           have HO6 := Lib.hid (own_rd8 ho)
           have x1c := HQ1.out.lw.bx.at 2 rfl 1 rfl
           have x2c := HQ1.out.lw.bx.at 2 rfl 2 rfl
           clear ho hb)
        | (go_simp; go_at_call 16; (with_reducible refine (HE2.out _).mono ?_); rintro e w3 ⟨A7, c7, rfl, ho, hb⟩
           have HQ2 := Lib.hid (show KW wb ((bc, [.slice A n c, .int .i64 s, .slice M m d, .slice E k g]) :: [(W.heap.size + 1, [gv 0, gv 1, gv 2, gv 3, gv 4, gv 5, gv 6, gv 7, gv 8, gv 9, gv 10, gv 11, gv 12, gv 13, gv 14, gv 15, gv 16, gv 17, gv 18, gv 19, gv 20, gv 21, gv 22, gv 23, gv 24, gv 25, gv 26]), (W.heap.size, [.int .u8 x0, .int .u8 x1, .int .u8 x2])]) wb w3 from ⟨(show LW wb ((bc, [.slice A n c, .int .i64 s, .slice M m d, .slice E k g]) :: [(W.heap.size + 1, [gv 0, gv 1, gv 2, gv 3, gv 4, gv 5, gv 6, gv 7, gv 8, gv 9, gv 10, gv 11, gv 12, gv 13, gv 14, gv 15, gv 16, gv 17, gv 18, gv 19, gv 20, gv 21, gv 22, gv 23, gv 24, gv 25, gv 26]), (W.heap.size, [.int .u8 x0, .int .u8 x1, .int .u8 x2])]) w3 from LW.call (by first | with_reducible exact HQ1.out.lw | with_reducible exact HQ1d.out.lw) hb), by first | exact HQ1.out.bel.trans (hb.mono HQ1.out.bel.size) | exact HQ1d.out.bel.trans (hb.mono HQ1d.out.bel.size)⟩)
           have HO7 := Lib.hid (own_rd8 ho)
           have HR6 := Lib.hid (show RdI w3 w3.heap.size A6 on from (HO6.out.1.below (show Below w2.heap.size w2 w3 from by first | exact hb | exact (Below.refl _ w2).drew.trans hb) (Nat.le_refl _)).more (show Below w2.heap.size w2 w3 from by first | exact hb | exact (Below.refl _ w2).drew.trans hb).size)
           have x1c := HQ2.out.lw.bx.at 2 rfl 1 rfl
           have x2c := HQ2.out.lw.bx.at 2 rfl 2 rfl
           clear ho hb))
      all_goals
        go_wp2_with fail
        go_meet
        case rel => exact ⟨A6, c6, A7, c7, rfl, rfl, HO6.out.2.2, HO7.out.2.2, HR6, Lib.hid HO7.out.1, HQ2⟩
    case rest =>
      obtain ⟨A6, c6, A7, c7, rfl, rfl, hc6, hc7, HR6, HR7, hkw⟩ := hcut
      have HAU := Lib.hid (hkw.out.aut HAU.out)
      have HL6 := Lib.hid hkw.out.lw
      have HC6 := Lib.hid hc6
      have HC7 := Lib.hid hc7
      clear HE1 HE2 HQ0 HQ0d x1c x2c hkw hc6 hc7
      obtain ⟨no, hno⟩ : ∃ no, on.length = no := ⟨_, rfl⟩
      obtain ⟨np, hnp⟩ : ∃ np, pt.length = np := ⟨_, rfl⟩
      rw [hno] at HC6 ⊢
      rw [hnp] at HC7 ⊢
      have HNO := Lib.hid hno
      have HNP := Lib.hid hnp
      have hno5 : no ≤ 5 := by rw [← hno]; exact Ev5.len (n := 5) HON5.out
      have hnp5 : np ≤ 5 := by rw [← hnp]; exact Ev5.len (n := 5) HPT5.out
      clear hno hnp
      have HC := Lib.hid HOK.out.r.chk
      have HRI := Lib.hid HOK.out.r.toRightW
      have HST := Lib.hid HAU.out.st
      have HALN := Lib.hid HAU.out.hn
      have HALC := Lib.hid HAU.out.cn
      have hbn := HAU.out.bn
      have hs0 : 0 ≤ a.st := HRI.out.st0
      have hs5 : a.st ≤ 5 := HOK.out.st
      have HF1 := Lib.hid (det_few HRI.out hs5 on)
      have HF3 := Lib.hid (det_few HRI.out hs5 pt)
      have HF4 := Lib.hid (det_few HRI.out hs5 a.al)
      have HTW := Lib.hid (tw_same HRI.out HPT.out)
      have HALL := Lib.hid (all_ests HRI.out HOK.out.c)
      obtain ⟨b1, hb1⟩ : ∃ b, canA (detA a on) = b := ⟨_, rfl⟩
      obtain ⟨b3, hb3⟩ : ∃ b, canA (detA a pt) = b := ⟨_, rfl⟩
      have HR1 := Lib.hid (show RightW b1 by rw [← hb1]; exact can_right (det_right HRI.out on))
      have HR3 := Lib.hid (show RightW b3 by rw [← hb3]; exact can_right (det_right HRI.out pt))
      have HS1b := Lib.hid (show b1.st ≤ 32 by rw [← hb1]; show ((fnd (detA a on)).length : Int) ≤ 32; have := HF1.out; omega)
      have HS3b := Lib.hid (show b3.st ≤ 32 by rw [← hb3]; show ((fnd (detA a pt)).length : Int) ≤ 32; have := HF3.out; omega)
      have HB1 := Lib.hid hb1
      have HB3 := Lib.hid hb3
      rw [hb1, hb3] at HTW
      clear hb1 hb3
      have HCB := Lib.hid (show chkE b1 = 0 from Right.chk { HR1.out with st1 := by have := HS1b.out; omega })
      have HW1 := Lib.hid (cwe_ok HC.out HON5.out.cs)
      have HW2 := Lib.hid (cwe_ok HCB.out HPT5.out.cs)
      have HW3 := Lib.hid (cwe_ok HC.out HPT5.out.cs)
      have HW4 := Lib.hid (cwe_ok HC.out (cs_mk HRI.out.alr HRI.out.alo))
      have p0_0 := HL6.out.bx.at 0 rfl 0 rfl
      have p0_1 := HL6.out.bx.at 0 rfl 1 rfl
      have p0_2 := HL6.out.bx.at 0 rfl 2 rfl
      have p0_3 := HL6.out.bx.at 0 rfl 3 rfl
      go_wp2_with fail
      refine (k_jproj HW1.out (Nat.le_trans HF1.out (by omega)) rfl HB1.out HAU.out HR6.out HNO.out HC6.out (by omega) HL6.out).mono ?_
      rintro e w7 ⟨A1, n1, c1, s1, M1, m1, d1, E1, k1, g1, V1, nV1, cV1, hs1, rfl, hau1, hgv1, hl⟩
      clear p0_0 p0_1 p0_2 p0_3
      have HL7 := Lib.hid hl.lw
      have HAU := Lib.hid (hl.aut HAU.out)
      have HR6 := Lib.hid (hl.ints HR6.out)
      have HR7 := Lib.hid (hl.ints HR7.out)
      have HP1 := Lib.hid hau1
      have HG1 := Lib.hid hgv1
      clear hau1 hgv1
      clear hl
      have p0_0 := HL7.out.bx.at 0 rfl 0 rfl
      have p0_1 := HL7.out.bx.at 0 rfl 1 rfl
      have p0_2 := HL7.out.bx.at 0 rfl 2 rfl
      have p0_3 := HL7.out.bx.at 0 rfl 3 rfl
      have HKa := Below.alloc (Below.refl w7.heap.size w7) (Nat.le_refl _) (.cells #[.slice A1 n1 c1, .int .i64 s1, .slice M1 m1 d1, .slice E1 k1 g1] 25)
      have HL7n := Lib.hid (HL7.out.new [.slice A1 n1 c1, .int .i64 s1, .slice M1 m1 d1, .slice E1 k1 g1] 25)
      have HAU := Lib.hid ((HAU.out.below HKa (Nat.le_refl _)).more HKa.size)
      have HR6 := Lib.hid ((HR6.out.below HKa (Nat.le_refl _)).more HKa.size)
      have HR7 := Lib.hid ((HR7.out.below HKa (Nat.le_refl _)).more HKa.size)
      have HP1 := Lib.hid ((HP1.out.below HKa (Nat.le_refl _)).more HKa.size)
      clear HKa
      clear p0_0 p0_1 p0_2 p0_3
      have p0_0 := HL7n.out.bx.at 0 rfl 0 rfl
      have p0_1 := HL7n.out.bx.at 0 rfl 1 rfl
      have p0_2 := HL7n.out.bx.at 0 rfl 2 rfl
      have p0_3 := HL7n.out.bx.at 0 rfl 3 rfl
      have p1_0 := HL7n.out.bx.at 1 rfl 0 rfl
      have p1_1 := HL7n.out.bx.at 1 rfl 1 rfl
      have p1_2 := HL7n.out.bx.at 1 rfl 2 rfl
      have p1_3 := HL7n.out.bx.at 1 rfl 3 rfl
      by_cases hf : (fnd (detA b1 pt)).length ≤ 4096
      · have HF2 := Lib.hid hf
        obtain ⟨b2, hb2⟩ : ∃ b, canA (detA b1 pt) = b := ⟨_, rfl⟩
        have HB2 := Lib.hid hb2
        have HR2 := Lib.hid (show RightW b2 by rw [← hb2]; exact can_right (det_right HR1.out pt))
        have HS2b := Lib.hid (show b2.st ≤ 4096 by rw [← hb2]; show ((fnd (detA b1 pt)).length : Int) ≤ 4096; omega)
        rw [hb2] at HTW
        clear hb2 hf
        go_wp2_with fail
        refine (k_jproj HW2.out HF2.out rfl HB2.out HP1.out HR7.out HNP.out HC7.out (by omega) HL7n.out).mono ?_
        rintro e w8 ⟨A2, n2, c2, s2, M2, m2, d2, E2, k2, g2, V2, nV2, cV2, hs2, rfl, hau2, hgv2, hl⟩
        clear p0_0 p0_1 p0_2 p0_3 p1_0 p1_1 p1_2 p1_3
        have HL8 := Lib.hid hl.lw
        have HAU := Lib.hid (hl.aut HAU.out)
        have HR6 := Lib.hid (hl.ints HR6.out)
        have HR7 := Lib.hid (hl.ints HR7.out)
        have HP1 := Lib.hid (hl.aut HP1.out)
        have HP2 := Lib.hid hau2
        have HG2 := Lib.hid hgv2
        clear hau2 hgv2
        clear hl
        have p0_0 := HL8.out.bx.at 0 rfl 0 rfl
        have p0_1 := HL8.out.bx.at 0 rfl 1 rfl
        have p0_2 := HL8.out.bx.at 0 rfl 2 rfl
        have p0_3 := HL8.out.bx.at 0 rfl 3 rfl
        have p1_0 := HL8.out.bx.at 1 rfl 0 rfl
        have p1_1 := HL8.out.bx.at 1 rfl 1 rfl
        have p1_2 := HL8.out.bx.at 1 rfl 2 rfl
        have p1_3 := HL8.out.bx.at 1 rfl 3 rfl
        have HKa := Below.alloc (Below.refl w8.heap.size w8) (Nat.le_refl _) (.cells #[.slice A2 n2 c2, .int .i64 s2, .slice M2 m2 d2, .slice E2 k2 g2] 25)
        have HL8n := Lib.hid (HL8.out.new [.slice A2 n2 c2, .int .i64 s2, .slice M2 m2 d2, .slice E2 k2 g2] 25)
        have HAU := Lib.hid ((HAU.out.below HKa (Nat.le_refl _)).more HKa.size)
        have HR6 := Lib.hid ((HR6.out.below HKa (Nat.le_refl _)).more HKa.size)
        have HR7 := Lib.hid ((HR7.out.below HKa (Nat.le_refl _)).more HKa.size)
        have HP1 := Lib.hid ((HP1.out.below HKa (Nat.le_refl _)).more HKa.size)
        have HP2 := Lib.hid ((HP2.out.below HKa (Nat.le_refl _)).more HKa.size)
        clear HKa
        clear p0_0 p0_1 p0_2 p0_3 p1_0 p1_1 p1_2 p1_3
        have p0_0 := HL8n.out.bx.at 0 rfl 0 rfl
        have p0_1 := HL8n.out.bx.at 0 rfl 1 rfl
        have p0_2 := HL8n.out.bx.at 0 rfl 2 rfl
        have p0_3 := HL8n.out.bx.at 0 rfl 3 rfl
        have p1_0 := HL8n.out.bx.at 1 rfl 0 rfl
        have p1_1 := HL8n.out.bx.at 1 rfl 1 rfl
        have p1_2 := HL8n.out.bx.at 1 rfl 2 rfl
        have p1_3 := HL8n.out.bx.at 1 rfl 3 rfl
        have p2_0 := HL8n.out.bx.at 2 rfl 0 rfl
        have p2_1 := HL8n.out.bx.at 2 rfl 1 rfl
        have p2_2 := HL8n.out.bx.at 2 rfl 2 rfl
        have p2_3 := HL8n.out.bx.at 2 rfl 3 rfl
        go_wp2_with fail
        refine (k_jproj HW3.out (Nat.le_trans HF3.out (by omega)) rfl HB3.out HAU.out HR7.out HNP.out HC7.out (by omega) HL8n.out).mono ?_
        rintro e w9 ⟨A3, n3, c3, s3, M3, m3, d3, E3, k3, g3, V3, nV3, cV3, hs3, rfl, hau3, hgv3, hl⟩
        clear p0_0 p0_1 p0_2 p0_3 p1_0 p1_1 p1_2 p1_3 p2_0 p2_1 p2_2 p2_3
        have HL9 := Lib.hid hl.lw
        have HAU := Lib.hid (hl.aut HAU.out)
        have HR6 := Lib.hid (hl.ints HR6.out)
        have HR7 := Lib.hid (hl.ints HR7.out)
        have HP1 := Lib.hid (hl.aut HP1.out)
        have HP2 := Lib.hid (hl.aut HP2.out)
        have HP3 := Lib.hid hau3
        have HG3 := Lib.hid hgv3
        clear hau3 hgv3
        clear hl
        have p0_0 := HL9.out.bx.at 0 rfl 0 rfl
        have p0_1 := HL9.out.bx.at 0 rfl 1 rfl
        have p0_2 := HL9.out.bx.at 0 rfl 2 rfl
        have p0_3 := HL9.out.bx.at 0 rfl 3 rfl
        have p1_0 := HL9.out.bx.at 1 rfl 0 rfl
        have p1_1 := HL9.out.bx.at 1 rfl 1 rfl
        have p1_2 := HL9.out.bx.at 1 rfl 2 rfl
        have p1_3 := HL9.out.bx.at 1 rfl 3 rfl
        have p2_0 := HL9.out.bx.at 2 rfl 0 rfl
        have p2_1 := HL9.out.bx.at 2 rfl 1 rfl
        have p2_2 := HL9.out.bx.at 2 rfl 2 rfl
        have p2_3 := HL9.out.bx.at 2 rfl 3 rfl
        have HKa := Below.alloc (Below.refl w9.heap.size w9) (Nat.le_refl _) (.cells #[.slice A3 n3 c3, .int .i64 s3, .slice M3 m3 d3, .slice E3 k3 g3] 25)
        have HL9n := Lib.hid (HL9.out.new [.slice A3 n3 c3, .int .i64 s3, .slice M3 m3 d3, .slice E3 k3 g3] 25)
        have HAU := Lib.hid ((HAU.out.below HKa (Nat.le_refl _)).more HKa.size)
        have HR6 := Lib.hid ((HR6.out.below HKa (Nat.le_refl _)).more HKa.size)
        have HR7 := Lib.hid ((HR7.out.below HKa (Nat.le_refl _)).more HKa.size)
        have HP1 := Lib.hid ((HP1.out.below HKa (Nat.le_refl _)).more HKa.size)
        have HP2 := Lib.hid ((HP2.out.below HKa (Nat.le_refl _)).more HKa.size)
        have HP3 := Lib.hid ((HP3.out.below HKa (Nat.le_refl _)).more HKa.size)
        clear HKa
        clear p0_0 p0_1 p0_2 p0_3 p1_0 p1_1 p1_2 p1_3 p2_0 p2_1 p2_2 p2_3
        have p0_0 := HL9n.out.bx.at 0 rfl 0 rfl
        have p0_1 := HL9n.out.bx.at 0 rfl 1 rfl
        have p0_2 := HL9n.out.bx.at 0 rfl 2 rfl
        have p0_3 := HL9n.out.bx.at 0 rfl 3 rfl
        have p1_0 := HL9n.out.bx.at 1 rfl 0 rfl
        have p1_1 := HL9n.out.bx.at 1 rfl 1 rfl
        have p1_2 := HL9n.out.bx.at 1 rfl 2 rfl
        have p1_3 := HL9n.out.bx.at 1 rfl 3 rfl
        have p2_0 := HL9n.out.bx.at 2 rfl 0 rfl
        have p2_1 := HL9n.out.bx.at 2 rfl 1 rfl
        have p2_2 := HL9n.out.bx.at 2 rfl 2 rfl
        have p2_3 := HL9n.out.bx.at 2 rfl 3 rfl
        have p3_0 := HL9n.out.bx.at 3 rfl 0 rfl
        have p3_1 := HL9n.out.bx.at 3 rfl 1 rfl
        have p3_2 := HL9n.out.bx.at 3 rfl 2 rfl
        have p3_3 := HL9n.out.bx.at 3 rfl 3 rfl
        go_wp2_with fail
        refine (k_jproj HW4.out (Nat.le_trans HF4.out (by omega)) HALL.out.2 HALL.out.1 HAU.out HAU.out.al HALN.out HALC.out (by omega) HL9n.out).mono ?_
        rintro e w10 ⟨A4, n4, c4, s4, M4, m4, d4, E4, k4, g4, V4, nV4, cV4, hs4, rfl, hau4, hgv4, hl⟩
        clear p0_0 p0_1 p0_2 p0_3 p1_0 p1_1 p1_2 p1_3 p2_0 p2_1 p2_2 p2_3 p3_0 p3_1 p3_2 p3_3
        have HL10 := Lib.hid hl.lw
        have HAU := Lib.hid (hl.aut HAU.out)
        have HR6 := Lib.hid (hl.ints HR6.out)
        have HR7 := Lib.hid (hl.ints HR7.out)
        have HP1 := Lib.hid (hl.aut HP1.out)
        have HP2 := Lib.hid (hl.aut HP2.out)
        have HP3 := Lib.hid (hl.aut HP3.out)
        have HP4 := Lib.hid hau4
        have HG4 := Lib.hid hgv4
        clear hau4 hgv4
        clear hl
        have p0_0 := HL10.out.bx.at 0 rfl 0 rfl
        have p0_1 := HL10.out.bx.at 0 rfl 1 rfl
        have p0_2 := HL10.out.bx.at 0 rfl 2 rfl
        have p0_3 := HL10.out.bx.at 0 rfl 3 rfl
        have p1_0 := HL10.out.bx.at 1 rfl 0 rfl
        have p1_1 := HL10.out.bx.at 1 rfl 1 rfl
        have p1_2 := HL10.out.bx.at 1 rfl 2 rfl
        have p1_3 := HL10.out.bx.at 1 rfl 3 rfl
        have p2_0 := HL10.out.bx.at 2 rfl 0 rfl
        have p2_1 := HL10.out.bx.at 2 rfl 1 rfl
        have p2_2 := HL10.out.bx.at 2 rfl 2 rfl
        have p2_3 := HL10.out.bx.at 2 rfl 3 rfl
        have p3_0 := HL10.out.bx.at 3 rfl 0 rfl
        have p3_1 := HL10.out.bx.at 3 rfl 1 rfl
        have p3_2 := HL10.out.bx.at 3 rfl 2 rfl
        have p3_3 := HL10.out.bx.at 3 rfl 3 rfl
        have hb9 := Below.alloc (Below.refl w10.heap.size w10) (Nat.le_refl _) (.cells #[.slice A4 n4 c4, .int .i64 s4, .slice M4 m4 d4, .slice E4 k4 g4] 25)
        have HG4 := Lib.hid (show GV7 (w10.alloc (.cells #[.slice A4 n4 c4, .int .i64 s4, .slice M4 m4 d4, .slice E4 k4 g4] 25)) V4 nV4 cV4 hs4 ((rng a.st.toNat).map fun q => [q]) from ⟨(HG4.out.rd.below hb9 (Nat.le_refl _)).more hb9.size, HG4.out.len, HG4.out.z, HG4.out.cap⟩)
        clear hb9
        have HKa := Below.alloc (Below.refl w10.heap.size w10) (Nat.le_refl _) (.cells #[.slice A4 n4 c4, .int .i64 s4, .slice M4 m4 d4, .slice E4 k4 g4] 25)
        have HL10n := Lib.hid (HL10.out.new [.slice A4 n4 c4, .int .i64 s4, .slice M4 m4 d4, .slice E4 k4 g4] 25)
        have HAU := Lib.hid ((HAU.out.below HKa (Nat.le_refl _)).more HKa.size)
        have HR6 := Lib.hid ((HR6.out.below HKa (Nat.le_refl _)).more HKa.size)
        have HR7 := Lib.hid ((HR7.out.below HKa (Nat.le_refl _)).more HKa.size)
        have HP1 := Lib.hid ((HP1.out.below HKa (Nat.le_refl _)).more HKa.size)
        have HP2 := Lib.hid ((HP2.out.below HKa (Nat.le_refl _)).more HKa.size)
        have HP3 := Lib.hid ((HP3.out.below HKa (Nat.le_refl _)).more HKa.size)
        have HP4 := Lib.hid ((HP4.out.below HKa (Nat.le_refl _)).more HKa.size)
        clear HKa
        clear p0_0 p0_1 p0_2 p0_3 p1_0 p1_1 p1_2 p1_3 p2_0 p2_1 p2_2 p2_3 p3_0 p3_1 p3_2 p3_3
        have p0_0 := HL10n.out.bx.at 0 rfl 0 rfl
        have p0_1 := HL10n.out.bx.at 0 rfl 1 rfl
        have p0_2 := HL10n.out.bx.at 0 rfl 2 rfl
        have p0_3 := HL10n.out.bx.at 0 rfl 3 rfl
        have p1_0 := HL10n.out.bx.at 1 rfl 0 rfl
        have p1_1 := HL10n.out.bx.at 1 rfl 1 rfl
        have p1_2 := HL10n.out.bx.at 1 rfl 2 rfl
        have p1_3 := HL10n.out.bx.at 1 rfl 3 rfl
        have p2_0 := HL10n.out.bx.at 2 rfl 0 rfl
        have p2_1 := HL10n.out.bx.at 2 rfl 1 rfl
        have p2_2 := HL10n.out.bx.at 2 rfl 2 rfl
        have p2_3 := HL10n.out.bx.at 2 rfl 3 rfl
        have p3_0 := HL10n.out.bx.at 3 rfl 0 rfl
        have p3_1 := HL10n.out.bx.at 3 rfl 1 rfl
        have p3_2 := HL10n.out.bx.at 3 rfl 2 rfl
        have p3_3 := HL10n.out.bx.at 3 rfl 3 rfl
        have p4_0 := HL10n.out.bx.at 4 rfl 0 rfl
        have p4_1 := HL10n.out.bx.at 4 rfl 1 rfl
        have p4_2 := HL10n.out.bx.at 4 rfl 2 rfl
        have p4_3 := HL10n.out.bx.at 4 rfl 3 rfl
        go_wp2_with fail
        refine (kw_call (sameLang_any A2 n2 c2 s2 M2 m2 d2 E2 k2 g2 A3 n3 c3 s3 M3 m3 d3 E3 k3 g3 b2 b3 _ HP2.out HP3.out HR2.out HR3.out HTW.out.1 HTW.out.2.1 HS2b.out (by have := HS3b.out; omega) HTW.out.2.2) HL10n.out).mono ?_
        rintro e w11 ⟨rfl, hl⟩
        clear p0_0 p0_1 p0_2 p0_3 p1_0 p1_1 p1_2 p1_3 p2_0 p2_1 p2_2 p2_3 p3_0 p3_1 p3_2 p3_3 p4_0 p4_1 p4_2 p4_3
        have HL11 := Lib.hid hl.lw
        have HAU := Lib.hid (hl.aut HAU.out)
        have HR6 := Lib.hid (hl.ints HR6.out)
        have HR7 := Lib.hid (hl.ints HR7.out)
        have HP1 := Lib.hid (hl.aut HP1.out)
        have HP2 := Lib.hid (hl.aut HP2.out)
        have HP3 := Lib.hid (hl.aut HP3.out)
        have HP4 := Lib.hid (hl.aut HP4.out)
        have HG4 := Lib.hid (hl.gv3 HG4.out)
        clear hl
        have p0_0 := HL11.out.bx.at 0 rfl 0 rfl
        have p0_1 := HL11.out.bx.at 0 rfl 1 rfl
        have p0_2 := HL11.out.bx.at 0 rfl 2 rfl
        have p0_3 := HL11.out.bx.at 0 rfl 3 rfl
        have p1_0 := HL11.out.bx.at 1 rfl 0 rfl
        have p1_1 := HL11.out.bx.at 1 rfl 1 rfl
        have p1_2 := HL11.out.bx.at 1 rfl 2 rfl
        have p1_3 := HL11.out.bx.at 1 rfl 3 rfl
        have p2_0 := HL11.out.bx.at 2 rfl 0 rfl
        have p2_1 := HL11.out.bx.at 2 rfl 1 rfl
        have p2_2 := HL11.out.bx.at 2 rfl 2 rfl
        have p2_3 := HL11.out.bx.at 2 rfl 3 rfl
        have p3_0 := HL11.out.bx.at 3 rfl 0 rfl
        have p3_1 := HL11.out.bx.at 3 rfl 1 rfl
        have p3_2 := HL11.out.bx.at 3 rfl 2 rfl
        have p3_3 := HL11.out.bx.at 3 rfl 3 rfl
        have p4_0 := HL11.out.bx.at 4 rfl 0 rfl
        have p4_1 := HL11.out.bx.at 4 rfl 1 rfl
        have p4_2 := HL11.out.bx.at 4 rfl 2 rfl
        have p4_3 := HL11.out.bx.at 4 rfl 3 rfl
        go_wp2_with fail
        refine (k_rsame A n c s M m d E k g (decide_eq_true rfl) HP4.out HAU.out HL11.out).mono ?_
        rintro e w12 ⟨rfl, hl⟩
        clear p0_0 p0_1 p0_2 p0_3 p1_0 p1_1 p1_2 p1_3 p2_0 p2_1 p2_2 p2_3 p3_0 p3_1 p3_2 p3_3 p4_0 p4_1 p4_2 p4_3
        have HL12 := Lib.hid hl.lw
        have HAU := Lib.hid (hl.aut HAU.out)
        have HR6 := Lib.hid (hl.ints HR6.out)
        have HR7 := Lib.hid (hl.ints HR7.out)
        have HP1 := Lib.hid (hl.aut HP1.out)
        have HP2 := Lib.hid (hl.aut HP2.out)
        have HP3 := Lib.hid (hl.aut HP3.out)
        have HP4 := Lib.hid (hl.aut HP4.out)
        have HG4 := Lib.hid (hl.gv3 HG4.out)
        clear hl
        have p0_0 := HL12.out.bx.at 0 rfl 0 rfl
        have p0_1 := HL12.out.bx.at 0 rfl 1 rfl
        have p0_2 := HL12.out.bx.at 0 rfl 2 rfl
        have p0_3 := HL12.out.bx.at 0 rfl 3 rfl
        have p1_0 := HL12.out.bx.at 1 rfl 0 rfl
        have p1_1 := HL12.out.bx.at 1 rfl 1 rfl
        have p1_2 := HL12.out.bx.at 1 rfl 2 rfl
        have p1_3 := HL12.out.bx.at 1 rfl 3 rfl
        have p2_0 := HL12.out.bx.at 2 rfl 0 rfl
        have p2_1 := HL12.out.bx.at 2 rfl 1 rfl
        have p2_2 := HL12.out.bx.at 2 rfl 2 rfl
        have p2_3 := HL12.out.bx.at 2 rfl 3 rfl
        have p3_0 := HL12.out.bx.at 3 rfl 0 rfl
        have p3_1 := HL12.out.bx.at 3 rfl 1 rfl
        have p3_2 := HL12.out.bx.at 3 rfl 2 rfl
        have p3_3 := HL12.out.bx.at 3 rfl 3 rfl
        have p4_0 := HL12.out.bx.at 4 rfl 0 rfl
        have p4_1 := HL12.out.bx.at 4 rfl 1 rfl
        have p4_2 := HL12.out.bx.at 4 rfl 2 rfl
        have p4_3 := HL12.out.bx.at 4 rfl 3 rfl
        have HNV := Lib.hid (show s = (nV4 : Int) by
          have h1 := congrArg List.length HG4.out.z
          rw [List.length_map, List.length_map, rng_len, HG4.out.len] at h1
          have h2 := HST.out
          omega)
        have hnv := HNV.out
        have hnv5 : nV4 ≤ 5 := by have := HST.out; omega
        have hne : ((nV4 : Int) != s) = false := by rw [hnv]; simp
        clear hnv
        have HKQ := Lib.hid (Below.refl w12.heap.size w12)
        go_wp2_with fail
        go_loopw [20] (fun i wr => ∃ t : Nat, t ≤ nV4 ∧ i = .int .i64 t ∧ Hid (Below w12.heap.size w12 wr)) (fun i _ => nV4 - (intOf i).toNat)
        case atStart => exact ⟨0, Nat.zero_le _, rfl, HKQ⟩
        case round =>
          clear HKQ
          obtain ⟨t, ht, rfl, hkw⟩ := hrel
          have hks := hkw.out.size
          by_cases hlt : t < nV4
          · obtain ⟨hd, hhd⟩ : ∃ hd, hs4[t]? = some hd := ⟨_, List.getElem?_eq_getElem (by rw [HG4.out.len]; exact hlt)⟩
            obtain ⟨bv, ov, rfl, hbv, hcv⟩ := HG4.out.rd (by rw [HG4.out.len]; omega)
            obtain ⟨hch, hrh, _, _⟩ := hcv t hd hhd
            have hz : hd.z = [(t : Int)] := by
              have h1 : (hs4.map Hd.z)[t]? = some hd.z := by rw [List.getElem?_map, hhd]; rfl
              rw [HG4.out.z, List.getElem?_map] at h1
              obtain ⟨y, hy1, hy2⟩ := Option.map_eq_some_iff.1 h1
              have h3 : (rng a.st.toNat)[t]? = some (t : Int) := by
                unfold rng
                rw [List.getElem?_map, List.getElem?_range (by have := HNV.out; have := HST.out; omega)]; rfl
              rw [h3] at hy1
              injection hy1 with hy1
              rw [← hy2, ← hy1]
            obtain ⟨Ah, ch, zh⟩ := hd
            simp only at hz
            subst hz
            simp only [Hd.enc, List.length_cons, List.length_nil] at hch hrh
            have cv0 := (hkw.out.cell (p := ⟨bv, ov + t, none⟩) hbv).trans hch
            have HRH := Lib.hid ((hrh.below hkw.out (Nat.le_refl _)).more hks)
            have z0 : (t : Int) < (nV4 : Int) := by omega
            have z1 : (0 : Int) ≤ (t : Int) := by omega
            have HSI := Lib.hid (fun (W' : World) (hW : Below wr.heap.size wr W') (B : Option Addr) (hB : RdI W' W'.heap.size B [(t : Int)]) => sameInts_any Ah B 1 1 ch 1 W'.heap.size W'.heap.size [(t : Int)] [(t : Int)] W' ((HRH.out.below hW (Nat.le_refl _)).more hW.size) hB rfl rfl (by omega) (by omega))
            have HNW := Lib.hid (show RdI (wr.alloc (.cells #[.int .i64 (t : Int)] 3)) (wr.alloc (.cells #[.int .i64 (t : Int)] 3)).heap.size (some ⟨wr.heap.size, 0, none⟩) [(t : Int)] from Row.rd (zs := [(t : Int)]) (Row.new wr [.int .i64 (t : Int)] 3))
            have HBA := Lib.hid ((Below.refl wr.heap.size wr).alloc (Nat.le_refl _) (.cells #[.int .i64 (t : Int)] 3))
            clear hcv hch hrh hhd
            go_wp2_with fail
            refine (HSI.out _ HBA.out _ HNW.out).mono ?_
            rintro e wz9 ⟨rfl, q, hw9⟩
            have hb9 := Lib.hid (show Below w12.heap.size w12 wz9 from by rw [hw9]; exact below_drewN (hkw.out.trans (HBA.out.mono hks)) q)
            clear hw9 cv0 HSI HNW HBA
            go_wp2_with fail
            go_roundw
            case rel => exact ⟨t + 1, by omega, by go_num, hb9⟩
            case measure => simp [intOf]; omega
          · have z0 : (nV4 : Int) ≤ (t : Int) := by omega
            go_wp2_with fail
            go_ret
            exact ⟨rfl, HB0.out.trans ((HL12.out.bel.trans (hkw.out.mono HL12.out.bel.size)).mono HB0.out.size)⟩
      · have HF2 := Lib.hid (show 4096 < (fnd (detA b1 pt)).length by omega)
        have HS12 := Lib.hid (show 12 < s1 by
          have h1 := HP1.out.st
          by_cases h2 : b1.st ≤ 12
          · have := det_len12 HR1.out h2 pt; omega
          · omega)
        clear hf
        go_wp2_with fail
        refine (k_jprojL HW2.out HF2.out HP1.out HR7.out HNP.out HC7.out (by omega) HL7n.out).mono ?_
        rintro e w8 ⟨rfl, hl⟩
        clear p0_0 p0_1 p0_2 p0_3 p1_0 p1_1 p1_2 p1_3
        have HL8 := Lib.hid hl.lw
        have HAU := Lib.hid (hl.aut HAU.out)
        have HR6 := Lib.hid (hl.ints HR6.out)
        have HR7 := Lib.hid (hl.ints HR7.out)
        have HP1 := Lib.hid (hl.aut HP1.out)
        clear hl
        have p0_0 := HL8.out.bx.at 0 rfl 0 rfl
        have p0_1 := HL8.out.bx.at 0 rfl 1 rfl
        have p0_2 := HL8.out.bx.at 0 rfl 2 rfl
        have p0_3 := HL8.out.bx.at 0 rfl 3 rfl
        have p1_0 := HL8.out.bx.at 1 rfl 0 rfl
        have p1_1 := HL8.out.bx.at 1 rfl 1 rfl
        have p1_2 := HL8.out.bx.at 1 rfl 2 rfl
        have p1_3 := HL8.out.bx.at 1 rfl 3 rfl
        have HKa := Below.alloc (Below.refl w8.heap.size w8) (Nat.le_refl _) (.cells #[.slice none 0 0, .int .i64 0, .slice none 0 0, .slice none 0 0] 25)
        have HL8n := Lib.hid (HL8.out.new [.slice none 0 0, .int .i64 0, .slice none 0 0, .slice none 0 0] 25)
        have HAU := Lib.hid ((HAU.out.below HKa (Nat.le_refl _)).more HKa.size)
        have HR6 := Lib.hid ((HR6.out.below HKa (Nat.le_refl _)).more HKa.size)
        have HR7 := Lib.hid ((HR7.out.below HKa (Nat.le_refl _)).more HKa.size)
        have HP1 := Lib.hid ((HP1.out.below HKa (Nat.le_refl _)).more HKa.size)
        clear HKa
        clear p0_0 p0_1 p0_2 p0_3 p1_0 p1_1 p1_2 p1_3
        have p0_0 := HL8n.out.bx.at 0 rfl 0 rfl
        have p0_1 := HL8n.out.bx.at 0 rfl 1 rfl
        have p0_2 := HL8n.out.bx.at 0 rfl 2 rfl
        have p0_3 := HL8n.out.bx.at 0 rfl 3 rfl
        have p1_0 := HL8n.out.bx.at 1 rfl 0 rfl
        have p1_1 := HL8n.out.bx.at 1 rfl 1 rfl
        have p1_2 := HL8n.out.bx.at 1 rfl 2 rfl
        have p1_3 := HL8n.out.bx.at 1 rfl 3 rfl
        have p2_0 := HL8n.out.bx.at 2 rfl 0 rfl
        have p2_1 := HL8n.out.bx.at 2 rfl 1 rfl
        have p2_2 := HL8n.out.bx.at 2 rfl 2 rfl
        have p2_3 := HL8n.out.bx.at 2 rfl 3 rfl
        go_wp2_with fail
        refine (k_jproj HW3.out (Nat.le_trans HF3.out (by omega)) rfl HB3.out HAU.out HR7.out HNP.out HC7.out (by omega) HL8n.out).mono ?_
        rintro e w9 ⟨A3, n3, c3, s3, M3, m3, d3, E3, k3, g3, V3, nV3, cV3, hs3, rfl, hau3, hgv3, hl⟩
        clear p0_0 p0_1 p0_2 p0_3 p1_0 p1_1 p1_2 p1_3 p2_0 p2_1 p2_2 p2_3
        have HL9 := Lib.hid hl.lw
        have HAU := Lib.hid (hl.aut HAU.out)
        have HR6 := Lib.hid (hl.ints HR6.out)
        have HR7 := Lib.hid (hl.ints HR7.out)
        have HP1 := Lib.hid (hl.aut HP1.out)
        have HP3 := Lib.hid hau3
        have HG3 := Lib.hid hgv3
        clear hau3 hgv3
        clear hl
        have p0_0 := HL9.out.bx.at 0 rfl 0 rfl
        have p0_1 := HL9.out.bx.at 0 rfl 1 rfl
        have p0_2 := HL9.out.bx.at 0 rfl 2 rfl
        have p0_3 := HL9.out.bx.at 0 rfl 3 rfl
        have p1_0 := HL9.out.bx.at 1 rfl 0 rfl
        have p1_1 := HL9.out.bx.at 1 rfl 1 rfl
        have p1_2 := HL9.out.bx.at 1 rfl 2 rfl
        have p1_3 := HL9.out.bx.at 1 rfl 3 rfl
        have p2_0 := HL9.out.bx.at 2 rfl 0 rfl
        have p2_1 := HL9.out.bx.at 2 rfl 1 rfl
        have p2_2 := HL9.out.bx.at 2 rfl 2 rfl
        have p2_3 := HL9.out.bx.at 2 rfl 3 rfl
        have HKa := Below.alloc (Below.refl w9.heap.size w9) (Nat.le_refl _) (.cells #[.slice A3 n3 c3, .int .i64 s3, .slice M3 m3 d3, .slice E3 k3 g3] 25)
        have HL9n := Lib.hid (HL9.out.new [.slice A3 n3 c3, .int .i64 s3, .slice M3 m3 d3, .slice E3 k3 g3] 25)
        have HAU := Lib.hid ((HAU.out.below HKa (Nat.le_refl _)).more HKa.size)
        have HR6 := Lib.hid ((HR6.out.below HKa (Nat.le_refl _)).more HKa.size)
        have HR7 := Lib.hid ((HR7.out.below HKa (Nat.le_refl _)).more HKa.size)
        have HP1 := Lib.hid ((HP1.out.below HKa (Nat.le_refl _)).more HKa.size)
        have HP3 := Lib.hid ((HP3.out.below HKa (Nat.le_refl _)).more HKa.size)
        clear HKa
        clear p0_0 p0_1 p0_2 p0_3 p1_0 p1_1 p1_2 p1_3 p2_0 p2_1 p2_2 p2_3
        have p0_0 := HL9n.out.bx.at 0 rfl 0 rfl
        have p0_1 := HL9n.out.bx.at 0 rfl 1 rfl
        have p0_2 := HL9n.out.bx.at 0 rfl 2 rfl
        have p0_3 := HL9n.out.bx.at 0 rfl 3 rfl
        have p1_0 := HL9n.out.bx.at 1 rfl 0 rfl
        have p1_1 := HL9n.out.bx.at 1 rfl 1 rfl
        have p1_2 := HL9n.out.bx.at 1 rfl 2 rfl
        have p1_3 := HL9n.out.bx.at 1 rfl 3 rfl
        have p2_0 := HL9n.out.bx.at 2 rfl 0 rfl
        have p2_1 := HL9n.out.bx.at 2 rfl 1 rfl
        have p2_2 := HL9n.out.bx.at 2 rfl 2 rfl
        have p2_3 := HL9n.out.bx.at 2 rfl 3 rfl
        have p3_0 := HL9n.out.bx.at 3 rfl 0 rfl
        have p3_1 := HL9n.out.bx.at 3 rfl 1 rfl
        have p3_2 := HL9n.out.bx.at 3 rfl 2 rfl
        have p3_3 := HL9n.out.bx.at 3 rfl 3 rfl
        go_wp2_with fail
        refine (k_jproj HW4.out (Nat.le_trans HF4.out (by omega)) HALL.out.2 HALL.out.1 HAU.out HAU.out.al HALN.out HALC.out (by omega) HL9n.out).mono ?_
        rintro e w10 ⟨A4, n4, c4, s4, M4, m4, d4, E4, k4, g4, V4, nV4, cV4, hs4, rfl, hau4, hgv4, hl⟩
        clear p0_0 p0_1 p0_2 p0_3 p1_0 p1_1 p1_2 p1_3 p2_0 p2_1 p2_2 p2_3 p3_0 p3_1 p3_2 p3_3
        have HL10 := Lib.hid hl.lw
        have HAU := Lib.hid (hl.aut HAU.out)
        have HR6 := Lib.hid (hl.ints HR6.out)
        have HR7 := Lib.hid (hl.ints HR7.out)
        have HP1 := Lib.hid (hl.aut HP1.out)
        have HP3 := Lib.hid (hl.aut HP3.out)
        have HP4 := Lib.hid hau4
        have HG4 := Lib.hid hgv4
        clear hau4 hgv4
        clear hl
        have p0_0 := HL10.out.bx.at 0 rfl 0 rfl
        have p0_1 := HL10.out.bx.at 0 rfl 1 rfl
        have p0_2 := HL10.out.bx.at 0 rfl 2 rfl
        have p0_3 := HL10.out.bx.at 0 rfl 3 rfl
        have p1_0 := HL10.out.bx.at 1 rfl 0 rfl
        have p1_1 := HL10.out.bx.at 1 rfl 1 rfl
        have p1_2 := HL10.out.bx.at 1 rfl 2 rfl
        have p1_3 := HL10.out.bx.at 1 rfl 3 rfl
        have p2_0 := HL10.out.bx.at 2 rfl 0 rfl
        have p2_1 := HL10.out.bx.at 2 rfl 1 rfl
        have p2_2 := HL10.out.bx.at 2 rfl 2 rfl
        have p2_3 := HL10.out.bx.at 2 rfl 3 rfl
        have p3_0 := HL10.out.bx.at 3 rfl 0 rfl
        have p3_1 := HL10.out.bx.at 3 rfl 1 rfl
        have p3_2 := HL10.out.bx.at 3 rfl 2 rfl
        have p3_3 := HL10.out.bx.at 3 rfl 3 rfl
        have HKa := Below.alloc (Below.refl w10.heap.size w10) (Nat.le_refl _) (.cells #[.slice A4 n4 c4, .int .i64 s4, .slice M4 m4 d4, .slice E4 k4 g4] 25)
        have HL10n := Lib.hid (HL10.out.new [.slice A4 n4 c4, .int .i64 s4, .slice M4 m4 d4, .slice E4 k4 g4] 25)
        have HAU := Lib.hid ((HAU.out.below HKa (Nat.le_refl _)).more HKa.size)
        have HR6 := Lib.hid ((HR6.out.below HKa (Nat.le_refl _)).more HKa.size)
        have HR7 := Lib.hid ((HR7.out.below HKa (Nat.le_refl _)).more HKa.size)
        have HP1 := Lib.hid ((HP1.out.below HKa (Nat.le_refl _)).more HKa.size)
        have HP3 := Lib.hid ((HP3.out.below HKa (Nat.le_refl _)).more HKa.size)
        have HP4 := Lib.hid ((HP4.out.below HKa (Nat.le_refl _)).more HKa.size)
        clear HKa
        clear p0_0 p0_1 p0_2 p0_3 p1_0 p1_1 p1_2 p1_3 p2_0 p2_1 p2_2 p2_3 p3_0 p3_1 p3_2 p3_3
        have p0_0 := HL10n.out.bx.at 0 rfl 0 rfl
        have p0_1 := HL10n.out.bx.at 0 rfl 1 rfl
        have p0_2 := HL10n.out.bx.at 0 rfl 2 rfl
        have p0_3 := HL10n.out.bx.at 0 rfl 3 rfl
        have p1_0 := HL10n.out.bx.at 1 rfl 0 rfl
        have p1_1 := HL10n.out.bx.at 1 rfl 1 rfl
        have p1_2 := HL10n.out.bx.at 1 rfl 2 rfl
        have p1_3 := HL10n.out.bx.at 1 rfl 3 rfl
        have p2_0 := HL10n.out.bx.at 2 rfl 0 rfl
        have p2_1 := HL10n.out.bx.at 2 rfl 1 rfl
        have p2_2 := HL10n.out.bx.at 2 rfl 2 rfl
        have p2_3 := HL10n.out.bx.at 2 rfl 3 rfl
        have p3_0 := HL10n.out.bx.at 3 rfl 0 rfl
        have p3_1 := HL10n.out.bx.at 3 rfl 1 rfl
        have p3_2 := HL10n.out.bx.at 3 rfl 2 rfl
        have p3_3 := HL10n.out.bx.at 3 rfl 3 rfl
        have p4_0 := HL10n.out.bx.at 4 rfl 0 rfl
        have p4_1 := HL10n.out.bx.at 4 rfl 1 rfl
        have p4_2 := HL10n.out.bx.at 4 rfl 2 rfl
        have p4_3 := HL10n.out.bx.at 4 rfl 3 rfl
        have hs12 := HS12.out
        go_wp2_with fail
        go_ret
        exact ⟨rfl, HB0.out.trans (HL10n.out.bel.mono HB0.out.size)⟩
end Go.Proofs.Ytmghngehpgolgaa
