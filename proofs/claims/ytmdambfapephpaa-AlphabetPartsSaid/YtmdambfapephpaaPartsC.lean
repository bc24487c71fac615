/- Contracts of where, Select and Faults with the capacities told. -/
import Derived.Test.YtmdambfapephpaaListLaws
import Derived.Test.YtmdambfapephpaaLselects
namespace Go.Proofs.Ytmdambfapephpaa
open Go.RowKit Go.WideMaps Go.Maps

/-- What a function hands back that makes a list of ints in new memory, and an error; the capacity told. -/
def Gives2C (w : World) (zs : List Int) (err : Int) (e : Ending) (w' : World) : Prop := ∃ A c, e = .returned (.tuple #[.slice A zs.length c, .int .i64 err]) ∧ RdI w' w'.heap.size A zs ∧ Below w.heap.size w w' ∧ zs.length ≤ c ∧ c ≤ 9223372036854775807

set_option maxHeartbeats 1600000 in
theorem whereC_any (F : FuncId) (caps : Array Value) (p : Ev → Bool) (S : World → Prop) (A : Option Addr) (n c : Nat) (l : List Ev) (w : World) (hx : RdE w w.heap.size A l) (hn : l.length = n) (hb : n * 40 ≤ 140737488351232)
    (hS : S w) (hSB : ∀ W W', S W → Below w.heap.size W W' → S W')
    (hcf : ∀ args W, (callFunc F args).run Try.prog W = .ok (.enter F args) W)
    (hF : ∀ x W, S W → Calls Try.prog F (#[evV x] ++ caps) W fun e w' => e = .returned (.bool (p x)) ∧ Below W.heap.size W w') :
    Calls Try.prog 53 #[.slice A n c, .func (.func F) #[] caps] w fun e w' => GivesC w (wh p l) e w' := by
  obtain ⟨i0, hi, hz0, hz1, hz2⟩ := info_parts info_int
  have HN := Lib.hid hn
  have HF := Lib.hid (fun nm cn ob fr fl W => hF ⟨nm, cn, ob, fr, fl⟩ W)
  have HSB := Lib.hid hSB
  simp only [evV] at HF
  clear hn hF hSB
  obtain ⟨B, hB⟩ : ∃ B, B = w.heap.size := ⟨_, rfl⟩
  rw [← hB] at hx HSB
  have HB := Lib.hid hB
  have hBw : B ≤ w.heap.size := by omega
  clear hB
  go_enter Try.func53, Try.ntmps53
  go_wp2
  go_loopw [5, 10] (fun v i wr => ∃ k : Nat, k ≤ n ∧ i = .int .i64 k ∧ Hid (Own wr B v (wh p (l.take k))) ∧ Below B w wr ∧ Hid (S wr)) (fun _ i _ => n - (intOf i).toNat)
  case atStart => exact ⟨0, Nat.zero_le _, rfl, World.ownsRow_nil _ _ _ _, Below.refl _ _, hS⟩
  case round =>
    obtain ⟨k, hk, rfl, hown, hnx, hSr⟩ := hrel
    by_cases hlt : k < n
    · obtain ⟨b1, o1, rfl, hbB, hc1⟩ := hx (by rw [HN.out]; omega)
      have hz : k < l.length := by rw [HN.out]; exact hlt
      obtain ⟨x, hxe⟩ : ∃ x, l[k]? = some x := ⟨_, List.getElem?_eq_getElem hz⟩
      have hc := hc1 k x hxe
      clear hc1 hx
      have HX := Lib.hid hxe
      clear hxe
      obtain ⟨nm, cn, ob, fr, fl⟩ := x
      obtain ⟨g1, g2, g3, g4, g5⟩ : EvAt wr b1 (o1 + k * 5) ⟨nm, cn, ob, fr, fl⟩ := hc.keep fun o => hnx.cell hbB
      clear hc
      dsimp only at g1 g2 g3 g4 g5
      have hSw := Lib.hid (fun o => HSB.out wr (wr.alloc o) hSr.out ((Below.refl _ _).alloc (Nat.le_trans hBw (by have := hnx.size; omega)) o))
      have hsz := hnx.size
      cases hp : p ⟨nm, cn, ob, fr, fl⟩
      · have hN := Lib.hid (wh_no HX.out hp)
        clear hz
        go_wp2_with ((with_reducible refine (HF.out _ _ _ _ _ _ (hSw.out _)).mono ?_); rintro e w' ⟨rfl, hbel⟩)
        have r1 : Below B w w' := (hnx.alloc (by omega) _).trans (hbel.mono (by simp; omega))
        have r2 : Own w' B u5 (wh p (l.take (k + 1))) := by rw [hN.out]; exact own_kept (hown.out.alloc _) hbel
        have r3 : S w' := HSB.out _ _ (hSw.out _) (hbel.mono (by simp; omega))
        exact ⟨⟨k + 1, by omega, by go_num, r2, r1, r3⟩, by simp [intOf]; omega⟩
      · have hY := Lib.hid (wh_yes HX.out hp)
        have hlen := wh_le p l k
        clear hz
        go_wp2_with (first
          | ((with_reducible refine (HF.out _ _ _ _ _ _ (hSw.out _)).mono ?_); rintro e w' ⟨rfl, hbel⟩; have hown2 := Lib.hid (own_kept (hown.out.alloc _) hbel))
          | (at_builtin; refine wpList_append_own _ rfl _ _ 37 rfl B 3 i0 (.int .i64 0) 1 8 Try.underlying37 hi hz0 hz1 hz2 rfl (by decide) _ _ _ rfl (hown2.out.alloc _) ⟨w'.heap.size, 0, none⟩ 1 1 [.int .i64 k] rfl rfl ?c1 ?c2 ?c3 ?c4 ?c5 ?_))
        case c1 => exact own_one
        case c2 => intro u hu; simp at hu; subst hu; rfl
        case c3 => unfold maxLen; omega
        case c4 => omega
        case c5 => have := hbel.size; simp at this; simp; omega
        intro v' w1 hown' hgrow _
        have r1 : Below B w w' := (hnx.alloc (by omega) _).trans (hbel.mono (by simp; omega))
        have r3 : S w' := HSB.out _ _ (hSw.out _) (hbel.mono (by simp; omega))
        have R := own_app hY.out r1 hown2.out hown' hgrow hBw
        have R1 := Lib.hid R.1
        have R2 := R.2
        have hSn := Lib.hid (HSB.out _ _ hS (R2.mono (by omega)))
        clear R hown' hgrow hY r1 r3
        go_wp2
        go_roundw
        case rel => exact ⟨k + 1, by omega, by go_num, R1, R2, hSn⟩
        case measure => simp [intOf]; omega
    · have hkn : k = n := by omega
      have e := Lib.hid (wh_all (p := p) HN.out)
      rw [hkn] at hown
      rw [e.out] at hown
      have hf := Lib.hid (own_rdc hown.out)
      have hnx' : Below w.heap.size w wr := by rw [← HB.out]; exact hnx
      clear hkn hown
      go_wp2
      go_ret
      obtain ⟨A', c', e', hr, hcap1, hcap2⟩ := hf.out
      exact ⟨A', c', by rw [← e']; rfl, hr, hnx', hcap1, hcap2⟩

set_option maxHeartbeats 800000 in
theorem aSelectC_any (A : Option Addr) (n c : Nat) (l : List Ev) (kind : Int) (w : World) (hx : RdE w w.heap.size A l) (hn : l.length = n) (hb : n * 40 ≤ 140737488351232) (hs : ∀ x ∈ l, x.name.size ≤ maxLen) :
    Calls Try.prog 35 #[.slice A n c, .int .i64 kind] w fun e w' => Gives2C w (selZ l kind) (selE l kind) e w' := by
  have HC := Lib.hid (aCheck_any A n c l w hx hn hb hs)
  obtain ⟨v, hv⟩ : ∃ v, v = chE l := ⟨_, rfl⟩
  rw [← hv] at HC
  by_cases h0 : v = 0
  · by_cases hk : kind < 1 ∨ 6 < kind
    · have HK := Lib.hid (kindTest_none kind hk)
      have H1 := Lib.hid (show selZ l kind = [] ∧ selE l kind = 11 from ⟨by rw [selZ, ← hv, if_neg (by simp [h0]), if_pos hk], by rw [selE, ← hv, if_neg (by simp [h0]), if_pos hk]⟩)
      rw [H1.out.1, H1.out.2]
      subst h0
      clear hv hn hs hk H1
      have hq := eqNil_yes
      go_enter Try.func35, Try.ntmps35
      go_wp2_with (first | (go_at_call 16; refine HC.out.mono ?_; rintro e w1 ⟨rfl, hbel⟩) | (go_at_call 52; refine (HK.out _).mono ?_; rintro e w2 ⟨rfl, rfl⟩))
      go_ret2
      exact ⟨none, 0, rfl, RdI.nil _ _ _, hbel, by simp, by omega⟩
    · have HK := Lib.hid (kindTest_some kind (by omega) (by omega))
      have H1 := Lib.hid (show selZ l kind = wh (kindP kind) l ∧ selE l kind = 0 from ⟨by rw [selZ, ← hv, if_neg (by simp [h0]), if_neg hk], by rw [selE, ← hv, if_neg (by simp [h0]), if_neg hk]⟩)
      rw [H1.out.1, H1.out.2]
      subst h0
      have HW := Lib.hid (fun (F : FuncId) hcf (hF : ∀ x W, Calls Try.prog F #[evV x] W fun e w' => e = .returned (.bool (kindP kind x)) ∧ Below W.heap.size W w') w1 (h1 : RdE w1 w1.heap.size A l) =>
        whereC_any F #[] (kindP kind) (fun _ => True) A n c l w1 h1 hn hb trivial (fun _ _ _ _ => trivial) hcf (fun x W _ => by rw [show (#[evV x] ++ (#[] : Array Value)) = #[evV x] from rfl]; exact hF x W))
      have HX := Lib.hid hx
      clear hv hn hs hk H1 hx
      go_enter Try.func35, Try.ntmps35
      go_wp2_with (first
        | (go_at_call 16; refine HC.out.mono ?_; rintro e w1 ⟨rfl, hbel⟩)
        | (go_at_call 52; refine (HK.out _).mono ?_; rintro e w2 ⟨⟨fv, rfl, ⟨F, rfl, hcf0, hF0⟩, _⟩, rfl⟩; have HT := Lib.hid (And.intro hcf0 hF0); clear hcf0 hF0; have hq := eqNil_no F)
        | (go_at_call 53; refine (HW.out F HT.out.1 HT.out.2 _ ((HX.out.below hbel (Nat.le_refl _)).more hbel.size)).mono ?_; rintro e w3 ⟨A', c', rfl, hrd, hbel3, hcap1, hcap2⟩))
      go_ret2
      exact ⟨A', c', rfl, hrd, hbel.trans (hbel3.mono hbel.size), hcap1, hcap2⟩
  · have H1 := Lib.hid (show selZ l kind = [] ∧ selE l kind = v from ⟨by rw [selZ, ← hv, if_pos h0], by rw [selE, ← hv, if_pos h0]⟩)
    rw [H1.out.1, H1.out.2]
    have hv0 : (v != 0) = true := by simpa using h0
    clear hv hn hs h0 H1
    go_enter Try.func35, Try.ntmps35
    go_wp2_with (go_at_call 16; refine HC.out.mono ?_; rintro e w1 ⟨rfl, hbel⟩)
    go_ret2
    exact ⟨none, 0, rfl, RdI.nil _ _ _, hbel, by simp, by omega⟩

set_option maxHeartbeats 800000 in
theorem aFaultsC_any (A : Option Addr) (n c : Nat) (l : List Ev) (kd : Int) (w : World) (hx : RdE w w.heap.size A l) (hn : l.length = n) (hb : n * 40 ≤ 140737488351232) (hs : ∀ x ∈ l, x.name.size ≤ maxLen) :
    Calls Try.prog 37 #[.slice A n c, .int .i64 kd] w fun e w' => Gives2C w (fltZ l kd) (fltE l kd) e w' := by
  have hmf : ∀ (fn : Fn) (first cap : Array Value) (w : World), (Instr.makeFunc fn first cap).run Try.prog w = .ok (.func fn first cap) w := fun _ _ _ _ => rfl
  have hb0 : Below w.heap.size w (w.alloc (.cells #[.int .i64 kd] 3)) := below_new w _
  have hx0 : RdE (w.alloc (.cells #[.int .i64 kd] 3)) (w.alloc (.cells #[.int .i64 kd] 3)).heap.size A l := (hx.below hb0 (Nat.le_refl _)).more hb0.size
  have hc0 : (w.alloc (.cells #[.int .i64 kd] 3)).cell? ⟨w.heap.size, 0, none⟩ = some (.int .i64 kd) := by rw [World.cell?_alloc_at _ _ _ _ rfl]; rfl
  have HC := Lib.hid (aCheck_any A n c l (w.alloc (.cells #[.int .i64 kd] 3)) hx0 hn hb hs)
  have HB0 := Lib.hid hb0
  have HX0 := Lib.hid hx0
  have HC0 := Lib.hid hc0
  obtain ⟨v, hv⟩ : ∃ v, v = chE l := ⟨_, rfl⟩
  rw [← hv] at HC
  by_cases h0 : v = 0
  · by_cases hk : kd < 1 ∨ 4 < kd
    · have H1 := Lib.hid (show fltZ l kd = [] ∧ fltE l kd = 2 from ⟨by rw [fltZ, ← hv, if_neg (by simp [h0]), if_pos hk], by rw [fltE, ← hv, if_neg (by simp [h0]), if_pos hk]⟩)
      rw [H1.out.1, H1.out.2]
      subst h0
      clear hv hn hs H1 hb0 hx0 hc0 hx
      by_cases hk1 : kd < 1
      · clear hk
        go_enter Try.func37, Try.ntmps37
        go_wp2_with (go_at_call 16; refine HC.out.mono ?_; rintro e w1 ⟨rfl, hbel⟩; have hc1 := (hbel.cell (p := ⟨w.heap.size, 0, none⟩) (by simp)).trans HC0.out)
        go_ret2
        exact ⟨none, 0, rfl, RdI.nil _ _ _, HB0.out.trans (hbel.mono (by simp)), by simp, by omega⟩
      · have hk2 : 4 < kd := by omega
        clear hk
        go_enter Try.func37, Try.ntmps37
        go_wp2_with (go_at_call 16; refine HC.out.mono ?_; rintro e w1 ⟨rfl, hbel⟩; have hc1 := (hbel.cell (p := ⟨w.heap.size, 0, none⟩) (by simp)).trans HC0.out)
        go_ret2
        exact ⟨none, 0, rfl, RdI.nil _ _ _, HB0.out.trans (hbel.mono (by simp)), by simp, by omega⟩
    · have H1 := Lib.hid (show fltZ l kd = wh (fun x => decide (x.fault = kd)) l ∧ fltE l kd = 0 from ⟨by rw [fltZ, ← hv, if_neg (by simp [h0]), if_neg hk], by rw [fltE, ← hv, if_neg (by simp [h0]), if_neg hk]⟩)
      rw [H1.out.1, H1.out.2]
      subst h0
      have hk1 : 1 ≤ kd := by omega
      have hk2 : kd ≤ 4 := by omega
      have HW := Lib.hid (fun w1 (h1 : RdE w1 w1.heap.size A l) (hc1 : w1.cell? ⟨w.heap.size, 0, none⟩ = some (.int .i64 kd)) (hz : w.heap.size < w1.heap.size) =>
        whereC_any 55 #[.pointer (some ⟨w.heap.size, 0, none⟩)] (fun x => decide (x.fault = kd)) (fun W => W.cell? ⟨w.heap.size, 0, none⟩ = some (.int .i64 kd) ∧ w.heap.size < W.heap.size) A n c l w1 h1 hn hb ⟨hc1, hz⟩
          (fun W W' hW hbW => ⟨(hbW.cell hz).trans hW.1, Nat.lt_of_lt_of_le hW.2 hbW.size⟩) (fun args W => by go_simp)
          (fun x W hW => by rw [show (#[evV x] ++ #[Value.pointer (some ⟨w.heap.size, 0, none⟩)]) = #[evV x, .pointer (some ⟨w.heap.size, 0, none⟩)] from rfl]; exact faultsFn_any _ _ x W hW.1 hW.2))
      clear hv hn hs H1 hb0 hx0 hc0 hx hk
      go_enter Try.func37, Try.ntmps37
      go_wp2_with (first
        | (go_at_call 16; refine HC.out.mono ?_; rintro e w1 ⟨rfl, hbel⟩; have hc1 := (hbel.cell (p := ⟨w.heap.size, 0, none⟩) (by simp)).trans HC0.out)
        | (go_at_call 53; refine (HW.out _ ((HX0.out.below hbel (Nat.le_refl _)).more hbel.size) hc1 (Nat.lt_of_lt_of_le (by simp) hbel.size)).mono ?_; rintro e w3 ⟨A', c', rfl, hrd, hbel3, hcap1, hcap2⟩))
      go_ret2
      have hz := hbel.size
      exact ⟨A', c', rfl, hrd, HB0.out.trans ((hbel.mono (by simp)).trans (hbel3.mono (by simp at hz; omega))), hcap1, hcap2⟩
  · have H1 := Lib.hid (show fltZ l kd = [] ∧ fltE l kd = v from ⟨by rw [fltZ, ← hv, if_pos h0], by rw [fltE, ← hv, if_pos h0]⟩)
    rw [H1.out.1, H1.out.2]
    have hv0 : (v != 0) = true := by simpa using h0
    clear hv hn hs h0 H1 hb0 hx0 hc0 hx
    go_enter Try.func37, Try.ntmps37
    go_wp2_with (go_at_call 16; refine HC.out.mono ?_; rintro e w1 ⟨rfl, hbel⟩)
    go_ret2
    exact ⟨none, 0, rfl, RdI.nil _ _ _, HB0.out.trans (hbel.mono (by simp)), by simp, by omega⟩

end Go.Proofs.Ytmdambfapephpaa
