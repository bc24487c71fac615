/- Layer 7: the beginning of the laws over two sets of events and a graph. -/
import Derived.Test.YtmghngehpgolgaaZjPre
import Derived.Deep.RegionHeld3
import Derived.Deep.CutRange
set_option linter.unusedVariables false
set_option linter.unusedSimpArgs false
set_option linter.unusedSectionVars false
namespace Go.Proofs.Ytmghngehpgolgaa
open Go.RowKit Go.Sort

set_option maxHeartbeats 2000000 in
set_option maxRecDepth 100000 in
theorem events_own (x : Int) (w : World) (_hx : (Lit.int .u8 x).wf = true) :
    Calls Try.prog 16 #[.int .u8 x] w fun e w' => ∃ zs A c, Ev5 5 zs ∧ e = .returned (.slice A zs.length c) ∧ Own w' w.heap.size (.slice A zs.length c) zs ∧ Below w.heap.size w w' := by
  obtain ⟨i0, hi, hz0, hz1, hz2⟩ := info_parts info_int
  go_enter Try.func16, Try.ntmps16
  go_wp2_with fail
  go_loopw [3, 4] (fun v i wr => ∃ (t : Nat) (zs : List Int), t ≤ 5 ∧ i = .int .i64 t ∧ Hid (Ev5 (t : Int) zs) ∧ Hid (FP w v zs wr)) (fun _ i _ => 5 - (intOf i).toNat)
  case atStart => exact ⟨0, [], Nat.zero_le _, rfl, Ev5.nil _, ⟨Below.refl _ _, World.ownsRow_nil _ _ _ _⟩⟩
  case round =>
    obtain ⟨t, zs, ht5, rfl, hev, hfp⟩ := hrel
    by_cases hlt : t < 5
    · have hl := hev.out.len
      have z0 : (0 : Int) ≤ (t : Int) := by omega
      have hsz := hfp.out.bel.size
      have hm := Lib.hid (hev.out.more)
      have hs := Lib.hid (hev.out.snoc (by omega))
      go_upto_if 13 with fail
      generalize (bits BinOp.and IntKind.u8 (x / 2 ^ t) 1 == 1) = cb
      cases cb
      · go_wp2_with fail
        go_roundw
        case rel => exact ⟨t + 1, zs, by omega, by go_num, by simpa using hm, hfp⟩
        case measure => simp [intOf]; omega
      · go_wp2_with (at_builtin; refine wpList_append_own _ rfl _ _ 22 rfl w.heap.size 3 i0 (.int .i64 0) 1 8 Try.underlying22 hi hz0 hz1 hz2 rfl (by decide) _ _ _ rfl (hfp.out.ow.alloc _) ⟨wr.heap.size, 0, none⟩ 1 1 [.int .i64 (t : Int)] rfl rfl (news_one (by simp)) (by intro u hu; simp at hu; subst hu; rfl) (by unfold maxLen; omega) (by omega) (by simp; omega) ?_)
        intro v5 w5 hown5 hgrow5 _
        have hO5 := own_app (K' := zs ++ [(t : Int)]) rfl hfp.out.bel hfp.out.ow hown5 hgrow5 (Nat.le_refl _)
        have hF6 := Lib.hid (show FP w v5 (zs ++ [(t : Int)]) w5 from ⟨hO5.2, hO5.1⟩)
        clear hown5 hgrow5 hO5
        go_wp2_with fail
        go_roundw
        case rel => exact ⟨t + 1, zs ++ [(t : Int)], by omega, by go_num, by simpa using hs, hF6⟩
        case measure => simp [intOf]; omega
    · obtain rfl : t = 5 := by omega
      obtain ⟨A', c', rfl, hrd, hc1, hc2⟩ := own_rdc hfp.out.ow
      have HF := Lib.hid hfp.out
      clear hfp hrd
      go_wp2_with fail
      go_ret
      exact ⟨zs, A', c', hev.out, rfl, HF.out.ow, HF.out.bel⟩
theorem gs2_of {W w : World} {l : List (Nat × List Value)} (h : LW W l w) (jg js : Nat) {bg bs : Nat} {gv : Nat → Value} {x0 x1 : Int} (hg : l[jg]? = some (bg, [gv 0, gv 1, gv 2, gv 3, gv 4, gv 5, gv 6, gv 7, gv 8, gv 9, gv 10, gv 11, gv 12, gv 13, gv 14, gv 15, gv 16, gv 17, gv 18, gv 19, gv 20, gv 21, gv 22, gv 23, gv 24, gv 25, gv 26])) (hs : l[js]? = some (bs, [.int .u8 x0, .int .u8 x1])) : GridOk w bg ∧ (∀ i : Nat, i < 27 → w.cell? ⟨bg, i, none⟩ = some (gv i)) ∧ w.cell? ⟨bs, 0, none⟩ = some (.int .u8 x0) ∧ w.cell? ⟨bs, 1, none⟩ = some (.int .u8 x1) :=
  ⟨gridOk (h.bx.grid jg hg), h.bx.grid jg hg, h.bx.at js hs 0 rfl, h.bx.at js hs 1 rfl⟩
/-- The automaton in its box, and the events that are kept. -/
def PreR2 (W : World) (l : List (Nat × List Value)) (v v8 : Value) (wx : World) : Prop := ∃ (bc : Nat) (al : List Int) (a : Au) (A : Option Addr) (n c : Nat) (s : Int) (M : Option Addr) (m d : Nat) (E : Option Addr) (k g : Nat) (on : List Int) (A8 : Option Addr) (n8 c8 : Nat), v = .pointer (some ⟨bc, 0, none⟩) ∧ v8 = .slice A8 n8 c8 ∧ Hid (LW W ((bc, [.slice A n c, .int .i64 s, .slice M m d, .slice E k g]) :: l) wx) ∧ Hid (Ev5 5 al) ∧ Hid (OkM al a) ∧ Hid (AuR wx wx.heap.size A n c s M m d E k g a) ∧ Hid (Ev5 5 on) ∧ Hid (RdI wx wx.heap.size A8 on) ∧ on.length = n8 ∧ (n8 ≤ c8 ∧ c8 ≤ 9223372036854775807)
section
variable {W w : World} {l : List (Nat × List Value)} {al on : List Int} {a : Au} {A : Option Addr} {n c : Nat} {s : Int} {M : Option Addr} {m d : Nat} {E : Option Addr} {k g : Nat} {A8 : Option Addr} {n8 c8 base b : Nat}
theorem own_rd8 (h : Own w base (.slice A8 n8 c8) on) : RdI w w.heap.size A8 on ∧ on.length = n8 ∧ n8 ≤ c8 ∧ c8 ≤ 9223372036854775807 := own_rdv h
theorem LW.addrow {cs : List Value} {t : TypeId} (h : LW W l w) (hr : Row w b t cs) : LW W ((b, cs) :: l) w := ⟨h.bel, fun b' ds hm => by
  rcases List.mem_cons.1 hm with e | hm
  · injection e with e1 e2; subst e1 e2; exact ⟨hr.lt, fun i v hi => hr.cell i hi⟩
  · exact h.bx b' ds hm⟩
theorem row_set4 {x0 x1 x2 x3 : Value} (hr : Row w b 25 [x0, x1, x2, x3]) (v0 v1 v2 v3 : Value) : Row ((((w.setCell ⟨b, 0, none⟩ v0).setCell ⟨b, 1, none⟩ v1).setCell ⟨b, 2, none⟩ v2).setCell ⟨b, 3, none⟩ v3) b 25 [v0, v1, v2, v3] := (((hr.set 0 v0).set 1 v1).set 2 v2).set 3 v3
theorem fin_row (hl : LW W l w) (hr : Row w b 25 [.slice A n c, .int .i64 s, .slice M m d, .slice E k g]) (hev : Ev5 5 al) (hok : OkM al a) (hau : AuR w w.heap.size A n c s M m d E k g a) (h8 : Ev5 5 on) (ho : Own w base (.slice A8 n8 c8) on) : PreR2 W l (.pointer (some ⟨b, 0, none⟩)) (.slice A8 n8 c8) w := by
  obtain ⟨h1, h2, h3⟩ := own_rd8 ho
  exact ⟨b, al, a, A, n, c, s, M, m, d, E, k, g, on, A8, n8, c8, rfl, rfl, hl.addrow hr, hev, hok, hau, h8, h1, h2, h3⟩
theorem fin_new (hl : LW W l w) (hev : Ev5 5 al) (hok : OkM al a) (hau : AuR w w.heap.size A n c s M m d E k g a) (h8 : Ev5 5 on) (ho : Own w base (.slice A8 n8 c8) on) : PreR2 W l (.pointer (some ⟨w.heap.size, 0, none⟩)) (.slice A8 n8 c8) (w.alloc (.cells #[.slice A n c, .int .i64 s, .slice M m d, .slice E k g] 25)) := by
  obtain ⟨h1, h2, h3⟩ := own_rd8 ho
  have hb := (Below.refl w.heap.size w).alloc (Nat.le_refl _) (.cells #[.slice A n c, .int .i64 s, .slice M m d, .slice E k g] 25)
  exact ⟨_, al, a, A, n, c, s, M, m, d, E, k, g, on, A8, n8, c8, rfl, rfl, hl.new [.slice A n c, .int .i64 s, .slice M m d, .slice E k g] 25, hev, hok, (hau.below hb (Nat.le_refl _)).more hb.size, h8, (h1.below hb (Nat.le_refl _)).more hb.size, h2, h3⟩
/-- A store into the box b leaves the automaton as it was. -/
def AuS (w : World) (b : Nat) (a : Au) (A : Option Addr) (n c : Nat) (s : Int) (M : Option Addr) (m d : Nat) (E : Option Addr) (k g : Nat) : Prop := ∀ v0 v1 v2 v3 : Value, AuR ((((w.setCell ⟨b, 0, none⟩ v0).setCell ⟨b, 1, none⟩ v1).setCell ⟨b, 2, none⟩ v2).setCell ⟨b, 3, none⟩ v3) w.heap.size A n c s M m d E k g a
theorem aus_f (h : AuF a (.agg #[.slice A n c, .int .i64 s, .slice M m d, .slice E k g]) w base) (hb : b < base) : AuS w b a A n c s M m d E k g := fun v0 v1 v2 v3 => by
  have := AuF.aur A n c s M m d E k g (h.set4 hb v0 v1 v2 v3)
  simpa using this
theorem aus_r {B : Nat} (h : AuR w B A n c s M m d E k g a) (hb : B ≤ b) (hB : B ≤ w.heap.size) : AuS w b a A n c s M m d E k g := fun v0 v1 v2 v3 => (h.put A n c s M m d E k g hb v0 v1 v2 v3).more hB
theorem fin_put {x0 x1 x2 x3 : Value} {wa : World} (ha : LW W l wa) (hl : LW W l w) (hr : Row w b 25 [x0, x1, x2, x3]) (hb : wa.heap.size ≤ b) (hev : Ev5 5 al) (hok : OkM al a) (hau : AuS w b a A n c s M m d E k g) (h8 : Ev5 5 on) (ho : Own w base (.slice A8 n8 c8) on) : PreR2 W l (.pointer (some ⟨b, 0, none⟩)) (.slice A8 n8 c8) ((((w.setCell ⟨b, 0, none⟩ (.slice A n c)).setCell ⟨b, 1, none⟩ (.int .i64 s)).setCell ⟨b, 2, none⟩ (.slice M m d)).setCell ⟨b, 3, none⟩ (.slice E k g)) := by
  obtain ⟨h1, h2, h3⟩ := own_rd8 ho
  refine ⟨b, al, a, A, n, c, s, M, m, d, E, k, g, on, A8, n8, c8, rfl, rfl, hl.put hr (Nat.le_trans ha.bel.size hb) (fun x hx => Nat.ne_of_lt (Nat.lt_of_lt_of_le (ha.bx x.1 x.2 hx).1 hb)) _ _ _ _, hev, hok, by simpa [Hid] using hau _ _ _ _, h8, ?_, h2, h3⟩
  intro h0
  obtain ⟨b', o', e, hlt, hc⟩ := h1 h0
  subst e
  have hnb : b' ≠ b := fun e => row_ne_own hr ho (by decide) (by rw [← e]; rfl)
  exact ⟨b', o', rfl, by simpa using hlt, fun j hj => (cell_set4 hnb).trans (hc j hj)⟩
end
end Go.Proofs.Ytmghngehpgolgaa
