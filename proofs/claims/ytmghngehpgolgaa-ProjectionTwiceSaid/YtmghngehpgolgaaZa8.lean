/- Texts merged: what follows were texts of their own. -/
import Derived.Test.YtmghngehpgolgaaZa7
import Derived.Test.YtmghngehpgolgaaZa6
import Derived.Great.BuildSlice
import Derived.Deep.RegionHeld3
import Derived.Test.YtmghngehpgolgaaZa5
set_option linter.unusedVariables false
set_option linter.unusedSimpArgs false
set_option linter.unusedSectionVars false
/- Layer 7: targets: where the edges by each event lead from a list of states. -/
namespace Go.Proofs.Ytmghngehpgolgaa
open Go.RowKit Go.Sort

/-- The states to which an event leads, in the order of the states that it leads from. -/
def tgL (a : Au) (s : List Int) (e : Int) : List Int := s.flatMap fun q => ((succ a.ed q).filter fun x => decide (x.e = e)).map Ed.t
theorem mem_tgL {a : Au} {s : List Int} {e q : Int} : q ∈ tgL a s e ↔ q ∈ tgR a s e := by
  rw [mem_tgR]
  unfold tgL
  simp only [List.mem_flatMap, List.mem_map, List.mem_filter, mem_succ, decide_eq_true_eq]
  constructor
  · rintro ⟨p, hp, x, ⟨⟨h1, h2⟩, h3⟩, h4⟩
    exact ⟨x, h1, h3, by rw [h2]; exact hp, h4⟩
  · rintro ⟨x, h1, h2, h3, h4⟩
    exact ⟨x.f, h3, x, ⟨⟨h1, rfl⟩, h2⟩, h4⟩
theorem tgL_snoc (a : Au) (s : List Int) (q e : Int) : tgL a (s ++ [q]) e = tgL a s e ++ ((succ a.ed q).filter fun x => decide (x.e = e)).map Ed.t := by simp [tgL]
theorem tgL_nil {a : Au} {s : List Int} {e : Int} : tgL a s e = [] ↔ tgR a s e = [] := by
  rw [List.eq_nil_iff_forall_not_mem, List.eq_nil_iff_forall_not_mem]
  exact ⟨fun h q hq => h q (mem_tgL.2 hq), fun h q hq => h q (mem_tgL.1 hq)⟩
theorem nx_tgL {a : Au} (h : RightW a) {onto s : List Int} {e : Int} : reR a (erR a onto) (tgL a s e) = nxR a onto s e :=
  reR_same h (fun q hq => tgR_range h q (mem_tgL.1 hq)) fun _ => mem_tgL
/-- What targets keeps: the box of the lists, the lists in memory of the call's own. -/
structure TG (w0 wr : World) (vs : List Value) (Ls : Int → List Int) : Prop where
  bel : Below w0.heap.size w0 wr
  bx : Row wr (w0.heap.size + 1) 97 vs
  rs : Row wr w0.heap.size 97 [.slice none 0 0, .slice none 0 0, .slice none 0 0, .slice none 0 0, .slice none 0 0, .slice none 0 0, .slice none 0 0, .slice none 0 0, .slice none 0 0, .slice none 0 0, .slice none 0 0, .slice none 0 0, .slice none 0 0, .slice none 0 0, .slice none 0 0, .slice none 0 0, .slice none 0 0, .slice none 0 0, .slice none 0 0, .slice none 0 0, .slice none 0 0, .slice none 0 0, .slice none 0 0, .slice none 0 0, .slice none 0 0, .slice none 0 0, .slice none 0 0, .slice none 0 0, .slice none 0 0, .slice none 0 0, .slice none 0 0, .slice none 0 0]
  len : vs.length = 32
  ow : ∀ e : Nat, e < 32 → Own wr w0.heap.size (vs.getD e undef) (Ls (e : Int))
  dj : ∀ e f : Nat, e < 32 → f < 32 → e ≠ f → (vs.getD e undef).ownBlock = none ∨ (vs.getD e undef).ownBlock ≠ (vs.getD f undef).ownBlock
theorem TG.alloc {w0 wr : World} {vs : List Value} {Ls : Int → List Int} (h : TG w0 wr vs Ls) (o : Obj) : TG w0 (wr.alloc o) vs Ls :=
  ⟨h.bel.alloc h.bel.size o, h.bx.alloc o, h.rs.alloc o, h.len, fun e he => (h.ow e he).alloc o, h.dj⟩
theorem TG.drew {w0 wr : World} {vs : List Value} {Ls : Int → List Int} (h : TG w0 wr vs Ls) : TG w0 wr.drew vs Ls :=
  ⟨h.bel.drew, h.bx, h.rs, h.len, h.ow, h.dj⟩
theorem getD_set {vs : List Value} {e f : Nat} {v : Value} (he : e < vs.length) : (vs.set e v).getD f undef = if e = f then v else vs.getD f undef := by
  rw [List.getD, List.getD, List.getElem?_set]
  split
  · next h => subst h; simp [he]
  · rfl
theorem TG.push {w0 wr w6 : World} {vs : List Value} {Ls : Int → List Int} {e N : Nat} {x : Int} {v' : Value} (h : TG w0 wr vs Ls) (he : e < 32) (hg : wr.grownBy w6 (vs.getD e undef).ownBlock) (ho : Own w6 w0.heap.size v' (Ls (e : Int) ++ [x]))
    (hat : v'.ownBlock = (vs.getD e undef).ownBlock ∨ v'.ownBlock = some N) (hN : ∀ f : Nat, f < 32 → ∀ g, (vs.getD f undef).ownBlock = some g → g < N) : TG w0 (w6.setCell ⟨w0.heap.size + 1, e, none⟩ v') (vs.set e v') (fun f => if f = (e : Int) then Ls (e : Int) ++ [x] else Ls f) := by
  have hz := h.bel.size
  have hel : e < vs.length := by rw [h.len]; exact he
  have hb6 : Below w0.heap.size w0 w6 := h.bel.grown hg hz (fun k hk => ((h.ow e he).lt k hk).1)
  have hbx6 : Row w6 (w0.heap.size + 1) 97 vs := h.bx.grown hg (row_ne_own h.bx (h.ow e he) (by decide))
  have hrs6 : Row w6 w0.heap.size 97 _ := h.rs.grown hg (row_ne_own h.rs (h.ow e he) (by decide))
  refine ⟨hb6.setCell (p := ⟨w0.heap.size + 1, e, none⟩) (by simp) _, hbx6.set e v', hrs6.setOther (p := ⟨w0.heap.size + 1, e, none⟩) (by show w0.heap.size ≠ w0.heap.size + 1; omega) _, by rw [List.length_set]; exact h.len, fun f hf => ?_, fun f k hf hk hfk => ?_⟩
  · rw [getD_set hel]
    by_cases hef : e = f
    · subst hef
      rw [if_pos rfl, if_pos rfl]
      exact ownsRow_setCell_other ho (row_ne_own hbx6 ho (by decide)) _
    · rw [if_neg hef, if_neg (by omega)]
      have h1 : Own w6 w0.heap.size (vs.getD f undef) (Ls (f : Int)) := World.ownsRow.kept (h.ow f hf) hg (h.dj f e hf he (fun e' => hef e'.symm))
      exact ownsRow_setCell_other h1 (row_ne_own hbx6 h1 (by decide)) _
  · rw [getD_set hel, getD_set hel]
    by_cases h1 : e = f
    · subst h1
      rw [if_pos rfl, if_neg hfk]
      rcases hat with hat | hat
      · rw [hat]; exact h.dj e k he hk hfk
      · refine .inr fun e' => ?_
        rw [hat] at e'
        have := hN k hk N e'.symm
        omega
    · rw [if_neg h1]
      by_cases h2 : e = k
      · subst h2
        rw [if_pos rfl]
        rcases hat with hat | hat
        · rw [hat]; exact h.dj f e hf he hfk
        · refine .inr fun e' => ?_
          rw [hat] at e'
          have := hN f hf N e'
          omega
      · rw [if_neg h2]; exact h.dj f k hf hk hfk
theorem v32_eq : ([.slice none 0 0, .slice none 0 0, .slice none 0 0, .slice none 0 0, .slice none 0 0, .slice none 0 0, .slice none 0 0, .slice none 0 0, .slice none 0 0, .slice none 0 0, .slice none 0 0, .slice none 0 0, .slice none 0 0, .slice none 0 0, .slice none 0 0, .slice none 0 0, .slice none 0 0, .slice none 0 0, .slice none 0 0, .slice none 0 0, .slice none 0 0, .slice none 0 0, .slice none 0 0, .slice none 0 0, .slice none 0 0, .slice none 0 0, .slice none 0 0, .slice none 0 0, .slice none 0 0, .slice none 0 0, .slice none 0 0, .slice none 0 0] : List Value) = List.replicate 32 (.slice none 0 0) := rfl
theorem v32_at {e : Nat} (he : e < 32) : ([.slice none 0 0, .slice none 0 0, .slice none 0 0, .slice none 0 0, .slice none 0 0, .slice none 0 0, .slice none 0 0, .slice none 0 0, .slice none 0 0, .slice none 0 0, .slice none 0 0, .slice none 0 0, .slice none 0 0, .slice none 0 0, .slice none 0 0, .slice none 0 0, .slice none 0 0, .slice none 0 0, .slice none 0 0, .slice none 0 0, .slice none 0 0, .slice none 0 0, .slice none 0 0, .slice none 0 0, .slice none 0 0, .slice none 0 0, .slice none 0 0, .slice none 0 0, .slice none 0 0, .slice none 0 0, .slice none 0 0, .slice none 0 0] : List Value).getD e undef = .slice none 0 0 := by
  rw [v32_eq, List.getD, List.getElem?_replicate, if_pos he]; rfl
theorem succ_le (a : Au) (q : Int) : (succ a.ed q).length ≤ a.ed.length := List.length_filter_le _ _
theorem tgL_len (a : Au) (e : Int) : ∀ s : List Int, (tgL a s e).length ≤ s.length * a.ed.length
  | [] => by simp [tgL]
  | q :: s => by
    have ih := tgL_len a e s
    have h1 : ((succ a.ed q).filter fun x => decide (x.e = e)).length ≤ a.ed.length := Nat.le_trans (List.length_filter_le _ _) (succ_le a q)
    have e1 : tgL a (q :: s) e = ((succ a.ed q).filter fun x => decide (x.e = e)).map Ed.t ++ tgL a s e := rfl
    rw [e1, List.length_append, List.length_map, List.length_cons, Nat.add_mul, Nat.one_mul]; omega
theorem tg_start (w : World) : TG w ((w.alloc (.cells #[.slice none 0 0, .slice none 0 0, .slice none 0 0, .slice none 0 0, .slice none 0 0, .slice none 0 0, .slice none 0 0, .slice none 0 0, .slice none 0 0, .slice none 0 0, .slice none 0 0, .slice none 0 0, .slice none 0 0, .slice none 0 0, .slice none 0 0, .slice none 0 0, .slice none 0 0, .slice none 0 0, .slice none 0 0, .slice none 0 0, .slice none 0 0, .slice none 0 0, .slice none 0 0, .slice none 0 0, .slice none 0 0, .slice none 0 0, .slice none 0 0, .slice none 0 0, .slice none 0 0, .slice none 0 0, .slice none 0 0, .slice none 0 0] 97)).alloc (.cells #[.slice none 0 0, .slice none 0 0, .slice none 0 0, .slice none 0 0, .slice none 0 0, .slice none 0 0, .slice none 0 0, .slice none 0 0, .slice none 0 0, .slice none 0 0, .slice none 0 0, .slice none 0 0, .slice none 0 0, .slice none 0 0, .slice none 0 0, .slice none 0 0, .slice none 0 0, .slice none 0 0, .slice none 0 0, .slice none 0 0, .slice none 0 0, .slice none 0 0, .slice none 0 0, .slice none 0 0, .slice none 0 0, .slice none 0 0, .slice none 0 0, .slice none 0 0, .slice none 0 0, .slice none 0 0, .slice none 0 0, .slice none 0 0] 97)) [.slice none 0 0, .slice none 0 0, .slice none 0 0, .slice none 0 0, .slice none 0 0, .slice none 0 0, .slice none 0 0, .slice none 0 0, .slice none 0 0, .slice none 0 0, .slice none 0 0, .slice none 0 0, .slice none 0 0, .slice none 0 0, .slice none 0 0, .slice none 0 0, .slice none 0 0, .slice none 0 0, .slice none 0 0, .slice none 0 0, .slice none 0 0, .slice none 0 0, .slice none 0 0, .slice none 0 0, .slice none 0 0, .slice none 0 0, .slice none 0 0, .slice none 0 0, .slice none 0 0, .slice none 0 0, .slice none 0 0, .slice none 0 0] (fun _ => []) where
  bel := ((Below.refl _ w).alloc (Nat.le_refl _) _).alloc (by simp) _
  bx := by
    have := Row.new (w.alloc (.cells #[.slice none 0 0, .slice none 0 0, .slice none 0 0, .slice none 0 0, .slice none 0 0, .slice none 0 0, .slice none 0 0, .slice none 0 0, .slice none 0 0, .slice none 0 0, .slice none 0 0, .slice none 0 0, .slice none 0 0, .slice none 0 0, .slice none 0 0, .slice none 0 0, .slice none 0 0, .slice none 0 0, .slice none 0 0, .slice none 0 0, .slice none 0 0, .slice none 0 0, .slice none 0 0, .slice none 0 0, .slice none 0 0, .slice none 0 0, .slice none 0 0, .slice none 0 0, .slice none 0 0, .slice none 0 0, .slice none 0 0, .slice none 0 0] 97)) [.slice none 0 0, .slice none 0 0, .slice none 0 0, .slice none 0 0, .slice none 0 0, .slice none 0 0, .slice none 0 0, .slice none 0 0, .slice none 0 0, .slice none 0 0, .slice none 0 0, .slice none 0 0, .slice none 0 0, .slice none 0 0, .slice none 0 0, .slice none 0 0, .slice none 0 0, .slice none 0 0, .slice none 0 0, .slice none 0 0, .slice none 0 0, .slice none 0 0, .slice none 0 0, .slice none 0 0, .slice none 0 0, .slice none 0 0, .slice none 0 0, .slice none 0 0, .slice none 0 0, .slice none 0 0, .slice none 0 0, .slice none 0 0] 97
    rw [World.size_alloc] at this
    exact this
  rs := (Row.new w [.slice none 0 0, .slice none 0 0, .slice none 0 0, .slice none 0 0, .slice none 0 0, .slice none 0 0, .slice none 0 0, .slice none 0 0, .slice none 0 0, .slice none 0 0, .slice none 0 0, .slice none 0 0, .slice none 0 0, .slice none 0 0, .slice none 0 0, .slice none 0 0, .slice none 0 0, .slice none 0 0, .slice none 0 0, .slice none 0 0, .slice none 0 0, .slice none 0 0, .slice none 0 0, .slice none 0 0, .slice none 0 0, .slice none 0 0, .slice none 0 0, .slice none 0 0, .slice none 0 0, .slice none 0 0, .slice none 0 0, .slice none 0 0] 97).alloc _
  len := rfl
  ow e he := by rw [v32_at he]; exact World.ownsRow_nil _ _ _ _
  dj e f he hf hef := by rw [v32_at he]; exact .inl rfl
theorem arr32_size : (Try.prog.info? 97).map (·.size) = some 32 := by kernel_rfl
/-- What targets hands back. -/
structure TgV (w' : World) (base : Nat) (vs : List Value) (Ls : Int → List Int) : Prop where
  len : vs.length = 32
  ow : ∀ e : Nat, e < 32 → Own w' base (vs.getD e undef) (Ls (e : Int))
theorem own_one' {w : World} {base : Nat} {v : Value} {zs : List Int} (h : Own w base v zs) : v.oneCell' = true := by
  obtain ⟨A, c, rfl, _⟩ := own_rdc h; rfl
theorem cell_setT {w : World} {b o c p : Nat} {u : Value} (h : b ≠ c) : (w.setCell ⟨c, p, none⟩ u).cell? ⟨b, o, none⟩ = w.cell? ⟨b, o, none⟩ :=
  World.cell?_of_block (Below.heap_setCell w ⟨c, p, none⟩ u b h)
theorem ownsRow_same' {w w' : World} {base sz n : Nat} {e : TypeId} {v : Value} {xs : List Value} (h : w.ownsRow base e sz v n xs) (hk : ∀ g, v.ownBlock = some g → w'.heap[g]? = w.heap[g]?) : w'.ownsRow base e sz v n xs := by
  refine ⟨h.1, ?_⟩
  rcases h.2 with hn | ⟨g, cap, cur, rfl, hb, hg, r⟩
  · exact .inl hn
  · exact .inr ⟨g, cap, cur, rfl, hb, (hk g rfl).trans hg, r⟩
set_option maxHeartbeats 8000000 in
set_option maxRecDepth 100000 in
theorem jTargets_any (bg S : Nat) (a : Au) (A2 : Option Addr) (n2 c2 : Nat) (fr : List Int) (w : World) (hg : RdGr w w.heap.size bg a) (hr : RightW a) (hS : a.st = (S : Int)) (hSb : S ≤ 4096) (hx : RdI w w.heap.size A2 fr) (hn : fr.length = n2) (hnb : n2 ≤ 4096) (hf : ∀ q ∈ fr, 0 ≤ q ∧ q < (S : Int)) (hel : a.ed.length ≤ 1000000) :
    Calls Try.prog 54 #[.slice (some ⟨bg, 0, none⟩) S S, .slice A2 n2 c2] w fun e w' => ∃ vs, e = .returned (.agg vs.toArray) ∧ TgV w' w.heap.size vs (tgL a fr) ∧ Below w.heap.size w w' := by
  have HG := Lib.hid hg
  have HW := Lib.hid hr
  have HX := Lib.hid hx
  have HN := Lib.hid hn
  have HF := Lib.hid hf
  have HS := Lib.hid hS
  have HT0 := Lib.hid (tg_start w)
  have HEL := Lib.hid hel
  clear hg hr hx hn hf hS hel
  go_enter Try.func54, Try.ntmps54
  go_wp2_with fail
  go_loopw [12] (fun iv wr => ∃ (k : Nat) (vs : List Value), k ≤ n2 ∧ iv = .int .i64 k ∧ Hid (TG w wr vs (tgL a (fr.take k)))) (fun i _ => n2 - (intOf i).toNat)
  case atStart => exact ⟨0, _, Nat.zero_le _, rfl, HT0⟩
  case round =>
    clear HT0
    obtain ⟨k, vs, hk, rfl, htg⟩ := hrel
    by_cases hlt : k < n2
    · obtain ⟨b, o, rfl, hb, hc⟩ := HX.out (by rw [HN.out]; omega)
      have hz : k < fr.length := by rw [HN.out]; exact hlt
      have hc1 := (htg.out.bel.cell (p := ⟨b, o + k, none⟩) hb).trans (hc k hz)
      have hqr := HF.out _ (getD_mem hz)
      obtain ⟨q, hq⟩ : ∃ q : Nat, fr.getD k 0 = (q : Int) := ⟨(fr.getD k 0).toNat, by omega⟩
      rw [hq] at hc1 hqr
      have hqS : q < S := by omega
      obtain ⟨vE, hv1, AE, cE, rfl, hrE, hlE, hmE⟩ := HG.out.2 q (by rw [HS.out]; simpa using hqS)
      have cg := (htg.out.bel.cell (p := ⟨bg, q, none⟩) HG.out.1).trans hv1
      obtain ⟨D, hD⟩ : ∃ D, D = (succ a.ed (q : Int)).length := ⟨_, rfl⟩
      rw [← hD] at cg hlE
      have HD := Lib.hid hD
      have HRE := Lib.hid hrE
      have HTK := Lib.hid (show fr.take (k + 1) = fr.take k ++ [(q : Int)] by rw [take_getD hz, hq])
      have z0 : (k : Int) < (n2 : Int) := by omega
      have z1 : (0 : Int) ≤ (k : Int) := by omega
      have z2 : (0 : Int) ≤ (q : Int) := by omega
      have z3 : (q : Int) < (S : Int) := by omega
      clear hc hq hv1 hrE hD hqr hz
      go_wp2_with fail
      go_loopw [21] (fun jv wx => ∃ (t : Nat) (vs : List Value), t ≤ D ∧ jv = .int .i64 t ∧ Hid (TG w wx vs (fun e => tgL a (fr.take k) e ++ (((succ a.ed (q : Int)).take t).filter fun x => decide (x.e = e)).map Ed.t))) (fun jv _ => D - (intOf jv).toNat)
      case atStart => exact ⟨0, vs, Nat.zero_le _, rfl, by simpa [Hid] using htg⟩
      case round =>
        clear htg hc1 cg
        obtain ⟨t, vs, htD, rfl, htg⟩ := hrel
        by_cases h1 : t < D
        · obtain ⟨b2, o2, rfl, hb2, hc2⟩ := HRE.out (by rw [← HD.out]; omega)
          obtain ⟨x, hx⟩ : ∃ x, (succ a.ed (q : Int))[t]? = some x := ⟨_, List.getElem?_eq_getElem (by rw [← HD.out]; exact h1)⟩
          obtain ⟨g1, g2, g3⟩ := hc2 t x hx
          have d1 := (htg.out.bel.cell (p := ⟨b2, o2 + t * 3, none⟩) hb2).trans g1
          have d2 := (htg.out.bel.cell (p := ⟨b2, o2 + t * 3 + 1, none⟩) hb2).trans g2
          have d3 := (htg.out.bel.cell (p := ⟨b2, o2 + t * 3 + 2, none⟩) hb2).trans g3
          have hed := HW.out.edr x (mem_succ.1 (List.mem_of_getElem? hx)).1
          have hev := HW.out.alr _ hed.2.2
          rw [HS.out] at hed
          obtain ⟨e, he⟩ : ∃ e : Nat, x.e = (e : Int) := ⟨x.e.toNat, by omega⟩
          obtain ⟨p, hp⟩ : ∃ p : Int, p = x.t := ⟨_, rfl⟩
          obtain ⟨f, hfv⟩ : ∃ f, f = x.f := ⟨_, rfl⟩
          have he32 : e < 32 := by omega
          rw [← hfv] at d1
          rw [he] at d2
          rw [← hp] at d3
          have HNX := Lib.hid (show (fun e' : Int => if e' = (e : Int) then (tgL a (fr.take k) (e : Int) ++ (((succ a.ed (q : Int)).take t).filter fun x => decide (x.e = (e : Int))).map Ed.t) ++ [p] else tgL a (fr.take k) e' ++ (((succ a.ed (q : Int)).take t).filter fun x => decide (x.e = e')).map Ed.t) = fun e' => tgL a (fr.take k) e' ++ (((succ a.ed (q : Int)).take (t + 1)).filter fun x => decide (x.e = e')).map Ed.t by
            funext e'
            obtain ⟨hl, ex⟩ := List.getElem?_eq_some_iff.1 hx
            rw [List.take_succ_eq_append_getElem hl, ex, List.filter_append, List.map_append]
            by_cases h2 : e' = (e : Int)
            · subst h2; simp [he, hp]
            · rw [if_neg h2]
              have : ¬ x.e = e' := by rw [he]; exact fun h => h2 h.symm
              simp [this])
          have HTG := Lib.hid (htg.out.alloc (.cells #[.int .i64 f, .int .i64 (e : Int), .int .i64 p] 55))
          obtain ⟨ve, hve⟩ : ∃ ve, ve = vs.getD e undef := ⟨_, rfl⟩
          have hvl : e < vs.length := by rw [htg.out.len]; exact he32
          have hown := htg.out.ow e he32
          rw [← hve] at hown
          obtain ⟨Le, hLe⟩ : ∃ L, L = tgL a (fr.take k) (e : Int) ++ (((succ a.ed (q : Int)).take t).filter fun x => decide (x.e = (e : Int))).map Ed.t := ⟨_, rfl⟩
          rw [← hLe] at hown
          have HLE := Lib.hid hLe
          have hLlen : Le.length ≤ 4096 * 1000000 + 1000000 := by
            rw [hLe, List.length_append, List.length_map]
            have l1 := tgL_len a (e : Int) (fr.take k)
            have l2 : (fr.take k).length * a.ed.length ≤ 4096 * 1000000 := Nat.mul_le_mul (by rw [List.length_take]; omega) HEL.out
            have l3 : (((succ a.ed (q : Int)).take t).filter fun x => decide (x.e = (e : Int))).length ≤ 1000000 := Nat.le_trans (List.length_filter_le _ _) (Nat.le_trans (List.length_take_le' _ _) (Nat.le_trans (succ_le a q) HEL.out))
            omega
          have HVE := Lib.hid hve
          have c3 := HTG.out.bx.cell e (v := ve) (by rw [hve, List.getD, List.getElem?_eq_getElem hvl]; rfl)
          have f3 := HTG.out.bx.frozen e
          have HB := Lib.hid (Row.new wr [.int .i64 f, .int .i64 (e : Int), .int .i64 p] 55)
          have p1 := HB.out.cell 1 rfl
          have p2 := HB.out.cell 2 rfl
          have HOW := Lib.hid (show Own _ w.heap.size ve Le from hown.alloc (.cells #[.int .i64 f, .int .i64 (e : Int), .int .i64 p] 55))
          have z4 : (t : Int) < (D : Int) := by omega
          have z5 : (0 : Int) ≤ (t : Int) := by omega
          have z6 : (0 : Int) ≤ (e : Int) := by omega
          have z7 : (e : Int) < 32 := by omega
          clear hx g1 g2 g3 hed hev he hp hfv hc2 hve hown hLe
          obtain ⟨iI, iI0, iI1, iI2, iI3⟩ := info_parts info_int
          have hzz := htg.out.bel.size
          obtain ⟨W1, hW1⟩ : ∃ W, W = wr.alloc (.cells #[.int .i64 f, .int .i64 (e : Int), .int .i64 p] 55) := ⟨_, rfl⟩
          obtain ⟨E, hE⟩ : ∃ E, E = wr.heap.size := ⟨_, rfl⟩
          rw [← hE] at HB p1 p2
          have hEW : E < W1.heap.size := by rw [hW1, hE]; simp
          have hTE : w.heap.size + 1 < E := by rw [hE]; exact htg.out.bx.lt
          have HBD := Lib.hid (show ∀ f : Nat, f < 32 → ∀ g, (vs.getD f undef).ownBlock = some g → g < W1.heap.size from fun f hf g hg => by rw [hW1]; exact ((HTG.out.ow f hf).lt g hg).2)
          rw [← hW1] at HTG c3 f3 HB p1 p2 HOW
          go_wp2_with fail
          rw [← hW1, ← hE]
          clear hW1 hE
          have hneT : some (w.heap.size + 1) ≠ ve.ownBlock := fun e' => row_ne_own HTG.out.bx HOW.out (by decide) e'.symm
          have hneE : some E ≠ ve.ownBlock := fun e' => row_ne_own HB.out HOW.out (by decide) e'.symm
          have hTW : w.heap.size + 1 < W1.heap.size := by omega
          have v3 := fun cs : Array Value => (World.cell?_alloc_lt W1 (.cells cs 3) ⟨w.heap.size + 1, e, none⟩ hTW).trans c3
          have v4 := fun cs : Array Value => (World.cell?_alloc_lt W1 (.cells cs 3) ⟨E, 1, none⟩ hEW).trans p1
          have v5 := fun cs : Array Value => (World.cell?_alloc_lt W1 (.cells cs 3) ⟨E, 2, none⟩ hEW).trans p2
          go_region_law (refine step_append_lies _ (by rfl) (.tmp 30) (.tmp 33) _ (by rfl) w.heap.size 3 iI (.int .i64 0) 1 8 Try.underlying22 iI0 iI1 iI2 iI3 rfl (by omega) ve Le.length (Le.map (Value.int .i64)) (by rfl) (by first | exact (HOW.out.alloc _).drew | exact (HOW.out.alloc _)) ⟨W1.heap.size, 0, none⟩ 1 1 [.int .i64 p] (by rfl) (by rfl) (World.news_of_block (cs := #[.int .i64 p]) (t := 3) (fr := (0, 0)) (heap_alloc_new W1 _)) (by simp [Value.oneCell']) (by omega) (by unfold maxLen; omega) (by omega) (by simp; omega) (W1.heap.size + 1) (by simp) ?_; intro gg cap w6 hown6 hgrow hat hlt1; have c6 := far12 hgrow hTW hneT c3; have f6 := far12f hgrow hTW hneT f3; have p6 := far12 hgrow hEW hneE p1; have p7 := far12 hgrow hEW hneE p2)
          all_goals
            have HTG7 := Lib.hid (show TG w (w6.setCell ⟨w.heap.size + 1, e, none⟩ (.slice (some ⟨gg, 0, none⟩) (Le.length + 1) cap)) (vs.set e (.slice (some ⟨gg, 0, none⟩) (Le.length + 1) cap)) (fun e' => tgL a (fr.take k) e' ++ (((succ a.ed (q : Int)).take (t + 1)).filter fun x => decide (x.e = e')).map Ed.t) from by
              rw [← HNX.out, ← HLE.out]
              have h7 : Own w6 w.heap.size (.slice (some ⟨gg, 0, none⟩) (Le.length + 1) cap) (Le ++ [p]) := by simpa [Own] using hown6
              have hgrow' : (W1.alloc (.cells #[.int .i64 p] 3)).grownBy w6 (vs.getD e undef).ownBlock := by
                rw [← HVE.out]
                first | exact hgrow | exact ⟨hgrow.os, hgrow.tape, hgrow.output, hgrow.size, hgrow.block⟩
              have := (HTG.out.alloc (.cells #[.int .i64 p] 3)).push (e := e) (N := W1.heap.size + 1) (x := p) (v' := .slice (some ⟨gg, 0, none⟩) (Le.length + 1) cap) he32 hgrow' (by show Own w6 w.heap.size _ ((tgL a (fr.take k) (e : Int) ++ (((succ a.ed (q : Int)).take t).filter fun x => decide (x.e = (e : Int))).map Ed.t) ++ [p]); rw [← HLE.out]; exact h7) (by
                rw [← HVE.out]
                rcases hat with hat | hat
                · exact .inl (by rw [hat]; rfl)
                · exact .inr (by rw [hat]; rfl)) (fun f hf g hg => Nat.lt_succ_of_lt (HBD.out f hf g hg))
              rw [← HLE.out] at this
              exact this)
            clear hown6 hgrow hat c6 f6 p6 p7
            go_wp2_with fail
            go_roundw
            case rel => exact ⟨t + 1, _, by omega, by go_num, by first | exact HTG7 | exact Lib.hid HTG7.out.drew⟩
            case measure => simp [intOf]; omega
        · obtain rfl : t = D := by omega
          have htg2 := Lib.hid (show TG w wr vs (tgL a (fr.take (k + 1))) from by
            have h1 := htg.out
            rw [HD.out, List.take_length] at h1
            have e1 : tgL a (fr.take (k + 1)) = fun e => tgL a (fr.take k) e ++ ((succ a.ed (q : Int)).filter fun x => decide (x.e = e)).map Ed.t := by
              funext e; rw [HTK.out, tgL_snoc]
            rw [e1]; exact h1)
          clear htg
          go_wp2_with fail
          go_roundw
          case rel => exact ⟨k + 1, vs, by omega, by go_num, htg2⟩
          case measure => simp [intOf]; omega
    · have hF0 : fr.take k = fr := List.take_of_length_le (by rw [HN.out]; omega)
      rw [hF0] at htg
      have hone := Lib.hid (show vs.toArray.all (·.oneCell') = true by
        rw [List.all_toArray, List.all_eq_true]
        intro v hv
        obtain ⟨e, he, rfl⟩ := List.getElem_of_mem hv
        have := own_one' (htg.out.ow e (by rw [← htg.out.len]; exact he))
        rwa [List.getD, List.getElem?_eq_getElem he] at this)
      have hsz := Lib.hid (show (Try.prog.info? 97).map (·.size) = some vs.length by rw [arr32_size, htg.out.len])
      have hlen := htg.out.len
      have hrg := Lib.hid (show wr.rangeAt (w.heap.size + 1) 0 vs from fun i v hi => by rw [Nat.zero_add]; exact htg.out.bx.cell i hi)
      have hrs := Lib.hid htg.out.rs
      have hlW := htg.out.rs.lt
      clear hF0
      go_wp2_with (first
        | refine wpList_load_mid rfl 97 (.tmp 5) rfl (w.heap.size + 1) 0 rfl vs _ hrg.out Try.underlying97 rfl hsz.out ?_
        | refine wpList_store_row rfl 97 (.tmp 4) (.tmp 38) rfl w.heap.size vs.toArray rfl rfl 97 _ hrs.out (by simpa using hsz.out) (by simp [hlen]) hone.out ?_)
      have hrow2 := setRow_heap wr w.heap.size _ vs.toArray _ _ hrs.out
      have hbel2 := below_setRow htg.out.bel (Nat.le_refl _) vs.toArray
      have how2 : ∀ e : Nat, e < 32 → Own (wr.setRow w.heap.size vs.toArray) w.heap.size (vs.getD e undef) (tgL a fr (e : Int)) := fun e he =>
        ownsRow_same' (htg.out.ow e he) fun g hg => setRow_other wr w.heap.size g _ (fun e' => row_ne_own hrs.out (htg.out.ow e he) (by decide) (by rw [hg, e']))
      refine bodyPost_ret (v := .agg vs.toArray) ?_ rfl ⟨vs, rfl, ⟨hlen, how2⟩, hbel2⟩
      rw [results_cell1 rfl]
      have hld := run_loadVar_mid (P := Try.prog) (wr.setRow w.heap.size vs.toArray) w.heap.size 0 97 vs _ (fun i v hi => by rw [Nat.zero_add]; exact Row.cell (show Row _ _ _ _ from hrow2) i hi) Try.underlying97 rfl hsz.out
      show ((asAddr (Value.pointer (some ⟨w.heap.size, 0, none⟩))).run Try.prog (wr.setRow w.heap.size vs.toArray)).andThen (fun a w₁ => (loadVar 97 a).run Try.prog w₁) = _
      simp [asAddr, hld, Result.andThen]
end Go.Proofs.Ytmghngehpgolgaa

/- Layer 7: contains. -/
namespace Go.Proofs.Ytmghngehpgolgaa
open Go.RowKit Go.Sort

set_option maxHeartbeats 400000 in
theorem jContains_any (A : Option Addr) (n c Bx : Nat) (zs : List Int) (x : Int) (w : World) (hx : RdI w Bx A zs) (hn : zs.length = n) (hb : n ≤ 140737488355328) (hup : Up zs) :
    Calls Try.prog 27 #[.slice A n c, .int .i64 x] w fun e w' => e = .returned (.bool (decide (x ∈ zs))) ∧ w = w' := by
  have H := Lib.hid (fun W (h : RdI W Bx A zs) => search_any A n c Bx zs x W h hn hb hup)
  obtain ⟨v, hv⟩ : ∃ v, v = decide (x ∈ zs) := ⟨_, rfl⟩
  clear hn hup
  go_enter Try.func27, Try.ntmps27
  go_wp2_with (go_at_call 55; refine (H.out _ hx).mono ?_; rintro e w' ⟨⟨i, _, rfl⟩, rfl⟩)
  go_ret
  exact ⟨rfl, rfl⟩
end Go.Proofs.Ytmghngehpgolgaa

/- Layer 7: observerOf: an automaton of which some events are seen. -/
namespace Go.Proofs.Ytmghngehpgolgaa
open Go.RowKit Go.Sort

/-- The cells of an observer. -/
def obL (g k : Value) (ev : List Int) : List Value := g :: k :: flR ev
theorem ob_len (g k : Value) (ev : List Int) : (obL g k ev).length = 34 := by simp [obL, fl_len]
theorem ob_nil : obL (.slice none 0 0) (.slice none 0 0) [] = [.slice none 0 0, .slice none 0 0, .bool false, .bool false, .bool false, .bool false, .bool false, .bool false, .bool false, .bool false, .bool false, .bool false, .bool false, .bool false, .bool false, .bool false, .bool false, .bool false, .bool false, .bool false, .bool false, .bool false, .bool false, .bool false, .bool false, .bool false, .bool false, .bool false, .bool false, .bool false, .bool false, .bool false, .bool false, .bool false] := rfl
theorem obs_size : (Try.prog.info? 64).map (·.size) = some 34 := by kernel_rfl
theorem ob_one {g k : Value} {ev : List Int} (hg : g.oneCell' = true) (hk : k.oneCell' = true) : ((obL g k ev).toArray).all (·.oneCell') = true := by
  have := fl_one ev
  rw [List.all_toArray, List.all_eq_true] at this ⊢
  intro x hx
  rcases List.mem_cons.1 hx with rfl | hx
  · exact hg
  · rcases List.mem_cons.1 hx with rfl | hx
    · exact hk
    · exact this x hx
theorem ob_set1 (g k k' : Value) (ev : List Int) : (obL g k ev).set 1 k' = obL g k' ev := rfl
theorem ob_set2 (g k : Value) (ev : List Int) (e : Nat) : (obL g k ev).set (2 + e) (.bool true) = obL g k (ev ++ [(e : Int)]) := by
  rw [Nat.add_comm]
  show g :: k :: ((flR ev).set e (.bool true)) = _
  rw [fl_set]; rfl
theorem ob_at2 (g k : Value) (ev : List Int) {e : Nat} (h : e < 32) : (obL g k ev)[2 + e]? = some (.bool (decide ((e : Int) ∈ ev))) := by
  rw [Nat.add_comm]; exact flR_at ev h
/-- Rows of edges do not lie in a block that holds no number. -/
theorem SlGr.avoid {w w' : World} {B : Nat} {v : Value} {l : List Ed} {g : Nat} {e : TypeId} {cs : List Value} (h : SlGr w B v l) (hr : Row w g e cs) (hn : ∀ u ∈ cs, ∀ x, u ≠ .int .i64 x) (hk : ∀ b, b < B → b ≠ g → w'.heap[b]? = w.heap[b]?) : SlGr w' B v l := by
  obtain ⟨A, c, rfl, h1, h2, h3⟩ := h
  refine ⟨A, c, rfl, fun h0 => ?_, h2, h3⟩
  obtain ⟨b, o, rfl, hb, hc⟩ := h1 h0
  refine ⟨b, o, rfl, hb, fun j x hx => ?_⟩
  have hbg : b ≠ g := by
    rintro rfl
    have h5 := (hc j x hx).1
    have h6 : w.cell? ⟨b, o + j * 3, none⟩ = cs[o + j * 3]? := by
      rw [cell_of_row w b (o + j * 3) cs.toArray e (0, 0) hr]; simp
    rw [h6] at h5
    exact hn _ (List.mem_of_getElem? h5) _ rfl
  have key : ∀ i, w'.cell? ⟨b, i, none⟩ = w.cell? ⟨b, i, none⟩ := fun i => World.cell?_of_block (hk b hb hbg)
  obtain ⟨g1, g2, g3⟩ := hc j x hx
  exact ⟨(key _).trans g1, (key _).trans g2, (key _).trans g3⟩
/-- What observerOf keeps. -/
structure OB (w7 wr : World) (g : Value) (vk : Value) (kp er : List Int) : Prop where
  bel : Below w7.heap.size w7 wr
  ro : Row wr w7.heap.size 64 (obL g vk er)
  kp : Own wr w7.heap.size vk kp
set_option maxHeartbeats 8000000 in
set_option maxRecDepth 100000 in
theorem jObserver_any (A : Option Addr) (n c : Nat) (s : Int) (M : Option Addr) (m d : Nat) (E : Option Addr) (k g : Nat) (A3 : Option Addr) (n3 c3 : Nat) (a : Au) (S : Nat) (onto : List Int) (w : World) (h : AuR w w.heap.size A n c s M m d E k g a) (hr : RightW a) (hS : s = (S : Int)) (hSb : S ≤ 4096) (ho : RdI w w.heap.size A3 onto) (hn : onto.length = n3) (hb3 : n3 ≤ 100000) (hup : Up onto) :
    Calls Try.prog 24 #[.agg #[.slice A n c, .int .i64 s, .slice M m d, .slice E k g], .slice A3 n3 c3] w fun e w' => ∃ bg vk, e = .returned (.agg (obL (.slice (some ⟨bg, 0, none⟩) S S) vk (erR a onto)).toArray) ∧ Own w' w.heap.size vk (kpR a onto) ∧ RdGr w' w'.heap.size bg a ∧ Below w.heap.size w w' := by
  subst hS
  have hb1 := ((Below.refl w.heap.size w).alloc (Nat.le_refl _) (.cells #[.slice A n c, .int .i64 (S : Int), .slice M m d, .slice E k g] 25)).alloc (by simp) (.cells #[.slice none 0 0, .slice none 0 0, .bool false, .bool false, .bool false, .bool false, .bool false, .bool false, .bool false, .bool false, .bool false, .bool false, .bool false, .bool false, .bool false, .bool false, .bool false, .bool false, .bool false, .bool false, .bool false, .bool false, .bool false, .bool false, .bool false, .bool false, .bool false, .bool false, .bool false, .bool false, .bool false, .bool false, .bool false, .bool false] 64)
  have HB1 := Lib.hid hb1
  obtain ⟨W1, hW1⟩ : ∃ W, W = (w.alloc (.cells #[.slice A n c, .int .i64 (S : Int), .slice M m d, .slice E k g] 25)).alloc (.cells #[.slice none 0 0, .slice none 0 0, .bool false, .bool false, .bool false, .bool false, .bool false, .bool false, .bool false, .bool false, .bool false, .bool false, .bool false, .bool false, .bool false, .bool false, .bool false, .bool false, .bool false, .bool false, .bool false, .bool false, .bool false, .bool false, .bool false, .bool false, .bool false, .bool false, .bool false, .bool false, .bool false, .bool false, .bool false, .bool false] 64) := ⟨_, rfl⟩
  have HA := Lib.hid (show Row W1 w.heap.size 25 [.slice A n c, .int .i64 (S : Int), .slice M m d, .slice E k g] from by rw [hW1]; exact (Row.new w _ _).alloc _)
  have HR1 := Lib.hid (show Row W1 (w.heap.size + 1) 64 [.slice none 0 0, .slice none 0 0, .bool false, .bool false, .bool false, .bool false, .bool false, .bool false, .bool false, .bool false, .bool false, .bool false, .bool false, .bool false, .bool false, .bool false, .bool false, .bool false, .bool false, .bool false, .bool false, .bool false, .bool false, .bool false, .bool false, .bool false, .bool false, .bool false, .bool false, .bool false, .bool false, .bool false, .bool false, .bool false] from by
    rw [hW1]
    have := Row.new (w.alloc (.cells #[.slice A n c, .int .i64 (S : Int), .slice M m d, .slice E k g] 25)) [.slice none 0 0, .slice none 0 0, .bool false, .bool false, .bool false, .bool false, .bool false, .bool false, .bool false, .bool false, .bool false, .bool false, .bool false, .bool false, .bool false, .bool false, .bool false, .bool false, .bool false, .bool false, .bool false, .bool false, .bool false, .bool false, .bool false, .bool false, .bool false, .bool false, .bool false, .bool false, .bool false, .bool false, .bool false, .bool false] 64
    rw [World.size_alloc] at this; exact this)
  rw [← hW1] at HB1
  have HG := Lib.hid (graphOf_o A n c (S : Int) M m d E k g a S W1 ((h.below HB1.out (Nat.le_refl _)).more HB1.out.size) hr rfl hSb)
  have HH := Lib.hid h
  have HW := Lib.hid hr
  have HO := Lib.hid ho
  have HN := Lib.hid hn
  have HUP := Lib.hid hup
  have q0 := HA.out.cell 0 rfl
  have q1 := HA.out.cell 1 rfl
  have q2 := HA.out.cell 2 rfl
  have q3 := HA.out.cell 3 rfl
  clear h hr ho hn hup hb1
  go_enter Try.func24, Try.ntmps24
  go_wp2_with fail
  rw [← hW1]
  clear hW1
  go_wp2_with fail
  refine HG.out.mono ?_
  rintro e w7 ⟨bg, rfl, hbg, hgr, hb7, hgo⟩
  have HGO := Lib.hid hgo
  clear hgo
  have HGR := Lib.hid hgr
  have HB7 := Lib.hid (HB1.out.trans (hb7.mono HB1.out.size))
  have HA7 := Lib.hid (HA.out.below hb7 HA.out.lt)
  have HR7 := Lib.hid (HR1.out.below hb7 HR1.out.lt)
  have HLW := Lib.hid HR1.out
  have HBW1 := Lib.hid hb7
  clear hgr hb7 HG HA HR1 q0 q1 q2 q3
  have q0 := HA7.out.cell 0 rfl
  have q1 := HA7.out.cell 1 rfl
  have q2 := HA7.out.cell 2 rfl
  have q3 := HA7.out.cell 3 rfl
  obtain ⟨gv, hgv⟩ : ∃ gv, gv = Value.slice (some ⟨bg, 0, none⟩) S S := ⟨_, rfl⟩
  have hg1 : gv.oneCell' = true := by rw [hgv]; rfl
  have hold := Row.new w7 [.slice none 0 0, .slice none 0 0, .bool false, .bool false, .bool false, .bool false, .bool false, .bool false, .bool false, .bool false, .bool false, .bool false, .bool false, .bool false, .bool false, .bool false, .bool false, .bool false, .bool false, .bool false, .bool false, .bool false, .bool false, .bool false, .bool false, .bool false, .bool false, .bool false, .bool false, .bool false, .bool false, .bool false, .bool false, .bool false] 64
  have hsz := Lib.hid (show (Try.prog.info? 64).map (·.size) = some (obL gv (.slice none 0 0) []).toArray.size by rw [obs_size, List.size_toArray, ob_len])
  have hone := Lib.hid (ob_one (g := gv) (k := .slice none 0 0) (ev := []) hg1 rfl)
  have hz34 : (([.slice none 0 0, .slice none 0 0, .bool false, .bool false, .bool false, .bool false, .bool false, .bool false, .bool false, .bool false, .bool false, .bool false, .bool false, .bool false, .bool false, .bool false, .bool false, .bool false, .bool false, .bool false, .bool false, .bool false, .bool false, .bool false, .bool false, .bool false, .bool false, .bool false, .bool false, .bool false, .bool false, .bool false, .bool false, .bool false] : List Value).toArray).size = (obL gv (.slice none 0 0) []).toArray.size := rfl
  obtain ⟨W8, hW8⟩ : ∃ W, W = (w7.alloc (.cells #[.slice none 0 0, .slice none 0 0, .bool false, .bool false, .bool false, .bool false, .bool false, .bool false, .bool false, .bool false, .bool false, .bool false, .bool false, .bool false, .bool false, .bool false, .bool false, .bool false, .bool false, .bool false, .bool false, .bool false, .bool false, .bool false, .bool false, .bool false, .bool false, .bool false, .bool false, .bool false, .bool false, .bool false, .bool false, .bool false] 64)).setRow w7.heap.size (obL gv (.slice none 0 0) []).toArray := ⟨_, rfl⟩
  have hb78 : Below w7.heap.size w7 W8 := by rw [hW8]; exact below_setRow ((Below.refl _ w7).alloc (Nat.le_refl _) _) (Nat.le_refl _) _
  have HOB := Lib.hid (show OB w7 W8 gv (.slice none 0 0) ((a.al.take 0).filter fun x => decide (x ∈ onto)) ((a.al.take 0).filter fun x => !decide (x ∈ onto)) from
    ⟨hb78, by rw [hW8]; exact setRow_heap _ _ _ _ _ _ hold, World.ownsRow_nil _ _ _ _⟩)
  have c0 := (hb78.cell (p := ⟨w.heap.size, 0, none⟩) HA7.out.lt).trans q0
  have HOLD := Lib.hid hold
  rw [hgv] at hsz hone hz34 hW8
  have HGV := Lib.hid hgv
  have HW8 := Lib.hid hW8
  clear hold hb78 hW8 hgv
  go_wp2_with (first | (refine wpList_store_row rfl 64 (.tmp 5) (.tmp 10) rfl w7.heap.size (obL (.slice (some ⟨bg, 0, none⟩) S S) (.slice none 0 0) []).toArray rfl rfl 64 _ HOLD.out hsz.out hz34 hone.out ?_; rw [← HW8.out]))
  have HC0 := Lib.hid c0
  clear HW8 HOLD hsz hone hz34 q0 q1 q2 q3
  go_loopw [14] (fun iv wr => ∃ (t : Nat) (vk : Value), iv = .int .i64 t ∧ t ≤ n ∧ Hid (OB w7 wr gv vk ((a.al.take t).filter fun x => decide (x ∈ onto)) ((a.al.take t).filter fun x => !decide (x ∈ onto)))) (fun i _ => n - (intOf i).toNat)
  case atStart => exact ⟨0, _, rfl, Nat.zero_le _, HOB⟩
  case round =>
    clear HOB c0 HC0
    obtain ⟨t, vk, rfl, htn, hob⟩ := hrel
    have hbn := HH.out.bn
    by_cases hlt : t < n
    · obtain ⟨b, o, rfl, hb, hc⟩ := HH.out.al (by rw [HH.out.hn]; omega)
      have hz : t < a.al.length := by rw [HH.out.hn]; exact hlt
      have hc1 := ((HB7.out.trans (hob.out.bel.mono HB7.out.size)).cell (p := ⟨b, o + t, none⟩) hb).trans (hc t hz)
      have hxr := HW.out.alr _ (getD_mem hz)
      obtain ⟨e, he⟩ : ∃ e : Nat, a.al.getD t 0 = (e : Int) := ⟨(a.al.getD t 0).toNat, by omega⟩
      rw [he] at hc1 hxr
      have he32 : e < 32 := by omega
      have HTK := Lib.hid (show a.al.take (t + 1) = a.al.take t ++ [(e : Int)] by rw [take_getD hz, he])
      have z0 : (t : Int) < (n : Int) := by omega
      have z1 : (0 : Int) ≤ (t : Int) := by omega
      have HCN := Lib.hid (jContains_any A3 n3 c3 w.heap.size onto (e : Int) wr (HO.out.below (HB7.out.trans (hob.out.bel.mono HB7.out.size)) (Nat.le_refl _)) HN.out (by omega) HUP.out)
      clear hc hz he hxr
      go_wp2_with fail
      refine HCN.out.mono ?_
      rintro e1 w9 ⟨rfl, hw9⟩
      subst hw9
      obtain ⟨r, hr⟩ : ∃ r, decide ((e : Int) ∈ onto) = r := ⟨_, rfl⟩
      rw [hr]
      have hz7 := hob.out.bel.size
      cases r
      · have c2 := hob.out.ro.cell (2 + e) (ob_at2 gv vk _ he32)
        have f2 := hob.out.ro.frozen (2 + e)
        have HOB2 := Lib.hid (show OB w7 (wr.setCell ⟨w7.heap.size, 2 + e, none⟩ (.bool true)) gv vk ((a.al.take (t + 1)).filter fun x => decide (x ∈ onto)) ((a.al.take (t + 1)).filter fun x => !decide (x ∈ onto)) from by
          refine ⟨hob.out.bel.setCell (p := ⟨w7.heap.size, 2 + e, none⟩) (Nat.le_refl _) _, ?_, ?_⟩
          · have := hob.out.ro.set (2 + e) (.bool true)
            rw [ob_set2] at this
            rw [HTK.out, List.filter_append]
            simpa [hr] using this
          · rw [HTK.out, List.filter_append]
            have h1 := ownsRow_setCell_other (a := ⟨w7.heap.size, 2 + e, none⟩) hob.out.kp (row_ne_own hob.out.ro hob.out.kp (by decide)) (.bool true)
            simpa [hr, Own] using h1)
        have z2 : (0 : Int) ≤ (e : Int) := by omega
        have z3 : (e : Int) < 32 := by omega
        clear hr HCN
        go_wp2_with fail
        go_roundw
        case rel => exact ⟨t + 1, vk, by go_num, by omega, HOB2⟩
        case measure => simp [intOf]; omega
      · have c1 := hob.out.ro.cell 1 (show (obL gv vk ((a.al.take t).filter fun x => !decide (x ∈ onto)))[1]? = some vk from rfl)
        obtain ⟨iI, iI0, iI1, iI2, iI3⟩ := info_parts info_int
        obtain ⟨kp, hkp⟩ : ∃ kp, kp = (a.al.take t).filter fun x => decide (x ∈ onto) := ⟨_, rfl⟩
        obtain ⟨er, her⟩ : ∃ er, er = (a.al.take t).filter fun x => !decide (x ∈ onto) := ⟨_, rfl⟩
        rw [← hkp, ← her] at hob
        have HKP := Lib.hid (show (a.al.take (t + 1)).filter (fun x => decide (x ∈ onto)) = kp ++ [(e : Int)] ∧ (a.al.take (t + 1)).filter (fun x => !decide (x ∈ onto)) = er by
          rw [HTK.out, List.filter_append, List.filter_append, ← hkp, ← her]; simp [hr])
        have hkl : kp.length ≤ t := by rw [hkp]; exact Nat.le_trans (List.length_filter_le _ _) (by rw [List.length_take]; omega)
        have hne : some w7.heap.size ≠ vk.ownBlock := fun e' => row_ne_own hob.out.ro hob.out.kp (by decide) e'.symm
        clear hkp her hr HCN
        go_wp2_with (at_builtin; refine wpList_append_own _ rfl (.tmp 22) (.tmp 24) 22 rfl w7.heap.size 3 iI (.int .i64 0) 1 8 Try.underlying22 iI0 iI1 iI2 iI3 rfl (by omega) vk kp.length (kp.map (Value.int .i64)) rfl (hob.out.kp.alloc _) ⟨wr.heap.size, 0, none⟩ 1 1 [.int .i64 (e : Int)] rfl rfl (World.news_of_block (cs := #[.int .i64 (e : Int)]) (t := 3) (fr := (0, 0)) (heap_alloc_new wr _)) (by simp [Value.oneCell']) (by unfold maxLen; omega) (by omega) (by simp; omega) ?_; intro v4 w4 ho4 hg4 _
                     obtain ⟨A4, c4', hv4⟩ := own_shapeS ho4; subst hv4
                     have hro4 := (hob.out.ro.alloc (.cells #[.int .i64 (e : Int)] 3)).grown hg4 (fun e' => hne e'.symm)
                     have c4 := hro4.cell 1 (show (obL gv vk er)[1]? = some vk from rfl)
                     have f4 := hro4.frozen 1
                     have HO4 := Lib.hid ho4; have HG4 := Lib.hid hg4; have HR4 := Lib.hid hro4
                     clear ho4 hg4 hro4)
        go_roundw
        case rel =>
          refine ⟨t + 1, .slice A4 (kp.length + 1) c4', by go_num, by omega, ?_⟩
          rw [HKP.out.1, HKP.out.2]
          have h5 : Own w4 w7.heap.size (.slice A4 (kp.length + 1) c4') (kp ++ [(e : Int)]) := by simpa [Own] using HO4.out
          refine Lib.hid ⟨?_, ?_, ?_⟩
          · exact ((hob.out.bel.alloc hz7 _).grown HG4.out (by simp; omega) (fun j hj => (hob.out.kp.lt j hj).1)).setCell (p := ⟨w7.heap.size, 1, none⟩) (Nat.le_refl _) _
          · have := HR4.out.set 1 (.slice A4 (kp.length + 1) c4')
            rwa [ob_set1] at this
          · exact ownsRow_setCell_other (a := ⟨w7.heap.size, 1, none⟩) h5 (row_ne_own HR4.out h5 (by decide)) _
        case measure => simp [intOf]; omega
    · obtain rfl : t = n := by omega
      have hF0 : a.al.take t = a.al := List.take_of_length_le (by rw [HH.out.hn]; exact Nat.le_refl _)
      rw [hF0] at hob
      have hko := Lib.hid (show Own wr w7.heap.size vk (kpR a onto) from hob.out.kp)
      have hro := Lib.hid (show Row wr w7.heap.size 64 (obL gv vk (erR a onto)) from hob.out.ro)
      have HBW := Lib.hid hob.out.bel
      have hR2 := Lib.hid (HR7.out.below HBW.out HR7.out.lt)
      have hrg := Lib.hid (show wr.rangeAt w7.heap.size 0 (obL gv vk (erR a onto)) from fun i v hi => by rw [Nat.zero_add]; exact hro.out.cell i hi)
      have hsz := Lib.hid (show (Try.prog.info? 64).map (·.size) = some (obL gv vk (erR a onto)).length by rw [obs_size, ob_len])
      have hone := Lib.hid (ob_one (g := gv) (k := vk) (ev := erR a onto) hg1 (own_one' hko.out))
      have hz34 : (([.slice none 0 0, .slice none 0 0, .bool false, .bool false, .bool false, .bool false, .bool false, .bool false, .bool false, .bool false, .bool false, .bool false, .bool false, .bool false, .bool false, .bool false, .bool false, .bool false, .bool false, .bool false, .bool false, .bool false, .bool false, .bool false, .bool false, .bool false, .bool false, .bool false, .bool false, .bool false, .bool false, .bool false, .bool false, .bool false] : List Value).toArray).size = (obL gv vk (erR a onto)).toArray.size := by rw [List.size_toArray, List.size_toArray, ob_len]; rfl
      clear hF0 hob
      go_wp2_with (first
        | refine wpList_load_mid rfl 64 (.tmp 5) rfl w7.heap.size 0 rfl (obL gv vk (erR a onto)) _ hrg.out Try.underlying64 rfl hsz.out ?_
        | refine wpList_store_row rfl 64 (.tmp 4) (.tmp 31) rfl (w.heap.size + 1) (obL gv vk (erR a onto)).toArray rfl rfl 64 _ hR2.out (by simpa using hsz.out) hz34 hone.out ?_)
      have hgv := HGV.out
      clear HGV
      subst hgv
      have hrow2 := setRow_heap wr (w.heap.size + 1) _ (obL (.slice (some ⟨bg, 0, none⟩) S S) vk (erR a onto)).toArray _ _ hR2.out
      have hz1 := HB7.out.size
      have hbel2 : Below w.heap.size w (wr.setRow (w.heap.size + 1) (obL (.slice (some ⟨bg, 0, none⟩) S S) vk (erR a onto)).toArray) := below_setRow (HB7.out.trans (HBW.out.mono hz1)) (by omega) _
      have hlt1 := HR7.out.lt
      refine bodyPost_ret (v := .agg (obL (.slice (some ⟨bg, 0, none⟩) S S) vk (erR a onto)).toArray) ?_ rfl ⟨bg, vk, rfl, ?_, ?_, hbel2⟩
      · rw [results_cell1 rfl]
        have hld := run_loadVar_mid (P := Try.prog) (wr.setRow (w.heap.size + 1) (obL (.slice (some ⟨bg, 0, none⟩) S S) vk (erR a onto)).toArray) (w.heap.size + 1) 0 64 (obL (.slice (some ⟨bg, 0, none⟩) S S) vk (erR a onto)) _ (fun i v hi => by rw [Nat.zero_add]; exact Row.cell (show Row _ _ _ _ from hrow2) i hi) Try.underlying64 rfl hsz.out
        show ((asAddr (Value.pointer (some ⟨w.heap.size + 1, 0, none⟩))).run Try.prog (wr.setRow (w.heap.size + 1) (obL (.slice (some ⟨bg, 0, none⟩) S S) vk (erR a onto)).toArray)).andThen (fun a w₁ => (loadVar 64 a).run Try.prog w₁) = _
        simp [asAddr, hld, Result.andThen]
      · exact own_more (ownsRow_same' hko.out fun g hg => setRow_other wr (w.heap.size + 1) g _ (fun e' => row_ne_own hR2.out hko.out (by decide) (by rw [hg, e']))) hz1
      · have hb8 := HBW.out
        have hz2 := hb8.size
        have hz3 := HBW1.out.size
        have hz4 := HLW.out.lt
        have hbl := HGR.out.1
        have hall : ∀ q, q < w7.heap.size → q ≠ w.heap.size + 1 → (wr.setRow (w.heap.size + 1) (obL (.slice (some ⟨bg, 0, none⟩) S S) vk (erR a onto)).toArray).heap[q]? = w7.heap[q]? := fun q hq hq2 => (setRow_other wr (w.heap.size + 1) q _ hq2).trans (hb8.block q hq)
        refine ⟨by simp; omega, fun q hq => ?_⟩
        obtain ⟨v, k1, k2⟩ := HGO.out q hq
        have k3 := k2.avoid HLW.out (w' := wr.setRow (w.heap.size + 1) (obL (.slice (some ⟨bg, 0, none⟩) S S) vk (erR a onto)).toArray) (by
          intro u hu x
          simp only [List.mem_cons, List.not_mem_nil, or_false] at hu
          rcases hu with rfl | hu
          · simp
          · rcases hu with rfl | hu
            · simp
            · have : u = .bool false := by simpa using hu
              rw [this]; simp) (fun b hb hb2 => (hall b (by omega) hb2).trans (HBW1.out.block b hb))
        obtain ⟨A5, c5, rfl, k4, k5, k6⟩ := k3
        exact ⟨_, (World.cell?_of_block (hall bg (by omega) (by omega))).trans k1, A5, c5, rfl, k4.more (by simp; omega), k5, k6⟩
end Go.Proofs.Ytmghngehpgolgaa

/- Layer 7: first, next: the estimates. -/
namespace Go.Proofs.Ytmghngehpgolgaa
open Go.RowKit Go.Sort

theorem sub_len {n : Nat} {s : List Int} (h : SubOk n s) : s.length ≤ n := nodup_len (h.1.imp fun h => by omega) h.2
/-- The box of an observer. -/
theorem ob_box (w : World) (gv vk : Value) (er : List Int) : Row (w.alloc (.cells (obL gv vk er).toArray 64)) w.heap.size 64 (obL gv vk er) := Row.new w _ _
theorem ob_flags {w : World} {b : Nat} {gv vk : Value} {er : List Int} (h : Row w b 64 (obL gv vk er)) : w.rangeAt b 2 (flR er) := fun i v hi => by
  refine h.cell (2 + i) ?_
  rw [Nat.add_comm]; exact hi
theorem reR_zero {a : Au} {ev : List Int} (h : ∀ q ∈ ([0] : List Int), 0 ≤ q ∧ q < a.st) : fsR a ev = reR a (erR a ev) [0] := by
  unfold fsR; rw [if_neg]; have := h 0 (by simp); omega
set_option maxHeartbeats 8000000 in
set_option maxRecDepth 100000 in
theorem jFirst_any (bg S : Nat) (a : Au) (onto : List Int) (vk : Value) (w : World) (hg : RdGr w w.heap.size bg a) (hr : RightW a) (hS : a.st = (S : Int)) (hSb : S ≤ 4096) :
    Calls Try.prog 43 #[.agg (obL (.slice (some ⟨bg, 0, none⟩) S S) vk (erR a onto)).toArray] w fun e w' => ∃ v, e = .returned v ∧ Own w' w.heap.size v (fsR a onto) ∧ Below w.heap.size w w' := by
  have HG := Lib.hid hg
  have HW := Lib.hid hr
  have HS := Lib.hid hS
  have hbox := ob_box w (.slice (some ⟨bg, 0, none⟩) S S) vk (erR a onto)
  have HB := Lib.hid hbox
  have c0 := hbox.cell 0 (show (obL (.slice (some ⟨bg, 0, none⟩) S S) vk (erR a onto))[0]? = some (.slice (some ⟨bg, 0, none⟩) S S) from rfl)
  have hB1 := (Below.refl w.heap.size w).alloc (Nat.le_refl _) (.cells (obL (.slice (some ⟨bg, 0, none⟩) S S) vk (erR a onto)).toArray 64)
  have HB1 := Lib.hid hB1
  obtain ⟨er, her⟩ : ∃ er, er = erR a onto := ⟨_, rfl⟩
  by_cases h0 : S = 0
  · subst h0
    have hfs : fsR a onto = [] := by unfold fsR; rw [if_pos (by rw [hS]; rfl)]
    have HFS := Lib.hid hfs
    clear hg hr hS hbox hB1 hfs her
    go_enter Try.func43, Try.ntmps43
    go_wp2_with fail
    go_ret
    exact ⟨_, rfl, by rw [HFS.out]; exact World.ownsRow_nil _ _ _ _, HB1.out⟩
  · have hz : ((S : Int) == 0) = false := by simp; omega
    have hfr : ∀ q ∈ ([0] : List Int), 0 ≤ q ∧ q < (S : Int) := fun q hq => by rw [List.mem_singleton.1 hq]; omega
    have HFS := Lib.hid (reR_zero (ev := onto) (show ∀ q ∈ ([0] : List Int), 0 ≤ q ∧ q < a.st by rw [hS]; exact hfr))
    have hrg := Lib.hid (ob_flags hbox)
    have hsz := Lib.hid (show (Try.prog.info? 62).map (·.size) = some (flR (erR a onto)).length by rw [flags_size, fl_len])
    have hrg2 := Lib.hid (fun (cs : Array Value) (ty : TypeId) => ob_flags (hbox.alloc (.cells cs ty)))
    have HFR := Lib.hid hfr
    have hlt := hbox.lt
    have c02 := fun (cs : Array Value) (ty : TypeId) => (hbox.alloc (.cells cs ty)).cell 0 (show (obL (.slice (some ⟨bg, 0, none⟩) S S) vk (erR a onto))[0]? = some (.slice (some ⟨bg, 0, none⟩) S S) from rfl)
    have hB2 : Below w.heap.size w ((w.alloc (.cells (obL (.slice (some ⟨bg, 0, none⟩) S S) vk (erR a onto)).toArray 64)).alloc (.cells #[.int .i64 0] 3)) := HB1.out.alloc HB1.out.size _
    have HSP := Lib.hid (jSpread_any bg S a (some ⟨w.heap.size + 1, 0, none⟩) 1 1 [0] (erR a onto) ((w.alloc (.cells (obL (.slice (some ⟨bg, 0, none⟩) S S) vk (erR a onto)).toArray 64)).alloc (.cells #[.int .i64 0] 3)) ⟨Nat.lt_of_lt_of_le hg.1 hB2.size, fun q hq => by
        obtain ⟨v, k1, A5, c5, e5, k2, k3, k4⟩ := hg.2 q hq
        exact ⟨v, (hB2.cell (p := ⟨bg, q, none⟩) hg.1).trans k1, A5, c5, e5, (k2.below hB2 (Nat.le_refl _)).more hB2.size, k3, k4⟩⟩ hr hS hSb (by have := Row.rd (zs := [0]) (Row.new (w.alloc (.cells (obL (.slice (some ⟨bg, 0, none⟩) S S) vk (erR a onto)).toArray 64)) [.int .i64 0] 3); simpa only [World.size_alloc] using this) rfl (by omega) hfr)
    have HB2 := Lib.hid hB2
    clear hg hr hS hbox hB1 hfr hB2 her
    go_enter Try.func43, Try.ntmps43
    go_wp2_with (first | refine wpList_load_mid rfl 62 (.tmp 10) rfl w.heap.size 2 rfl (flR (erR a onto)) _ (hrg2.out _ _) Try.underlying62 rfl hsz.out ?_)
    refine HSP.out.mono ?_
    rintro e w2 ⟨v, rfl, ho, hb2⟩
    have HO2 := Lib.hid (own_more ho HB2.out.size)
    have HB3 := Lib.hid (HB2.out.trans (hb2.mono HB2.out.size))
    clear ho hb2
    go_wp2_with fail
    go_ret
    exact ⟨v, rfl, by rw [HFS.out]; exact HO2.out, HB3.out⟩
theorem rangeAt_below {w w' : World} {b o : Nat} {cs : List Value} (h : w.rangeAt b o cs) (hb : Below w.heap.size w w') (hl : b < w.heap.size) : w'.rangeAt b o cs := fun i v hi => (hb.cell (p := ⟨b, o + i, none⟩) hl).trans (h i v hi)
set_option maxRecDepth 100000 in
theorem index32 {vs : List Value} (hl : vs.length = 32) {e : Nat} (he : e < 32) {A : Option Addr} {n c : Nat} (hv : vs[e]? = some (.slice A n c)) (W : World) : (Instr.index 97 (.agg vs.toArray) (.int .i64 (e : Int))).run Try.prog W = .ok (.slice A n c) W := by
  obtain ⟨i0, hi, hz0, hz1, hz2⟩ := info_parts info_ints
  simp [Instr.index, asIntOf, run_underlying Try.underlying97, sizeOf, typeInfo, hi, hz1, he, part, hv]
/-- What an observer's graph is behind further memory. -/
theorem RdGr.keep {w w' : World} {bg : Nat} {a : Au} (h : RdGr w w.heap.size bg a) (hb : Below w.heap.size w w') : RdGr w' w'.heap.size bg a :=
  ⟨Nat.lt_of_lt_of_le h.1 hb.size, fun q hq => by
    obtain ⟨v, k1, A5, c5, e5, k2, k3, k4⟩ := h.2 q hq
    exact ⟨v, (hb.cell (p := ⟨bg, q, none⟩) h.1).trans k1, A5, c5, e5, (k2.below hb (Nat.le_refl _)).more hb.size, k3, k4⟩⟩
set_option maxHeartbeats 8000000 in
set_option maxRecDepth 100000 in
theorem jNext_any (bg S : Nat) (a : Au) (onto : List Int) (vk : Value) (A2 : Option Addr) (n2 c2 : Nat) (fr : List Int) (e : Nat) (w : World) (hg : RdGr w w.heap.size bg a) (hr : RightW a) (hS : a.st = (S : Int)) (hSb : S ≤ 4096) (hel : a.ed.length ≤ 1000000) (hx : RdI w w.heap.size A2 fr) (hn : fr.length = n2) (hnb : n2 ≤ 4096) (hf : ∀ q ∈ fr, 0 ≤ q ∧ q < (S : Int)) (he : e < 32) (hbs : (tgL a fr (e : Int)).length ≤ 1000000) :
    Calls Try.prog 44 #[.agg (obL (.slice (some ⟨bg, 0, none⟩) S S) vk (erR a onto)).toArray, .slice A2 n2 c2, .int .i64 (e : Int)] w fun r w' => ∃ v, r = .returned v ∧ Own w' w.heap.size v (nxR a onto fr (e : Int)) ∧ Below w.heap.size w w' := by
  have HG := Lib.hid hg
  have HW := Lib.hid hr
  have HS := Lib.hid hS
  have HF := Lib.hid hf
  have HBS := Lib.hid hbs
  have hbox := ob_box w (.slice (some ⟨bg, 0, none⟩) S S) vk (erR a onto)
  have HB := Lib.hid hbox
  have hB1 := (Below.refl w.heap.size w).alloc (Nat.le_refl _) (.cells (obL (.slice (some ⟨bg, 0, none⟩) S S) vk (erR a onto)).toArray 64)
  have HB1 := Lib.hid hB1
  have HTG := Lib.hid (fun W (hW : Below w.heap.size w W) => jTargets_any bg S a A2 n2 c2 fr W (hg.keep hW) hr hS hSb ((hx.below hW (Nat.le_refl _)).more hW.size) hn hnb hf hel)
  have HGK := Lib.hid (fun W (hW : Below w.heap.size w W) => hg.keep hW)
  have hrg := ob_flags hbox
  have hul := Try.underlying62
  have hsz : (Try.prog.info? 62).map (·.size) = some (flR (erR a onto)).length := by rw [flags_size, fl_len]
  have c0 := hbox.cell 0 (show (obL (.slice (some ⟨bg, 0, none⟩) S S) vk (erR a onto))[0]? = some (.slice (some ⟨bg, 0, none⟩) S S) from rfl)
  have hlt := hbox.lt
  clear hg hr hS hf hbs hbox hB1 hx hn
  have z0 : (0 : Int) ≤ (e : Int) := by omega
  have z1 : (e : Int) < 32 := by omega
  go_enter Try.func44, Try.ntmps44
  go_wp2_with fail
  go_region_held3 (fun w' => w'.cell? ⟨w.heap.size, 0, none⟩ = some (.slice (some ⟨bg, 0, none⟩) S S) ∧ w'.rangeAt w.heap.size 2 (flR (erR a onto))) (first | exact ⟨c0, hrg⟩ | exact ⟨d0, drg⟩ | exact ⟨(hb3.cell (p := ⟨w.heap.size, 0, none⟩) hltw2).trans d0, rangeAt_below drg hb3 hltw2⟩)
    (first
    | (go_simp; go_at_call 54; refine (HTG.out _ (by first | exact HB1.out | exact HB1.out.drew)).mono ?_; rintro r w2 ⟨vs, rfl, htv, hb2⟩
       have HTV := Lib.hid htv
       have HB2 := Lib.hid (show Below w.heap.size w w2 from by first | exact HB1.out.trans (hb2.mono HB1.out.size) | exact HB1.out.drew.trans (hb2.mono HB1.out.drew.size))
       have hb2' : Row w2 w.heap.size 64 (obL (.slice (some ⟨bg, 0, none⟩) S S) vk (erR a onto)) := by first | exact HB.out.below hb2 hlt | exact (show Row _ _ _ _ from HB.out.drewN 1).below hb2 hlt
       have d0 := hb2'.cell 0 (show (obL (.slice (some ⟨bg, 0, none⟩) S S) vk (erR a onto))[0]? = some (.slice (some ⟨bg, 0, none⟩) S S) from rfl)
       have drg := ob_flags hb2'
       have hltw2 := hb2'.lt
       obtain ⟨A5, c5, hv5, hr5, hc5, hm5⟩ := own_rdc (htv.ow e he)
       have hvs : vs[e]? = some (.slice A5 (tgL a fr (e : Int)).length c5) := by
         rw [← hv5, List.getD, List.getElem?_eq_getElem (by rw [htv.len]; exact he)]; rfl
       have HR5 := Lib.hid hr5
       have hvl := htv.len
       have hix := fun W => index32 hvl he hvs W
       have HSP := Lib.hid (fun (q : Nat) => jSpread_any bg S a A5 (tgL a fr (e : Int)).length c5 (tgL a fr (e : Int)) (erR a onto) (w2.drewN q) (HGK.out _ (below_drewN HB2.out q)) HW.out HS.out hSb (hr5.dr q) rfl HBS.out (fun x hx => by have := tgR_range HW.out x (mem_tgL.1 hx); rw [HS.out] at this; exact this))
       clear htv hb2 hb2' hr5 hv5)
    | (go_simp; go_at_call 40; first | refine (HSP.out 0).mono ?_ | refine (HSP.out 1).mono ?_
       all_goals (rintro r w3 ⟨v, rfl, ho, hb3⟩)))
  have HO3 := Lib.hid (own_more ho HB2.out.size)
  have HB3 := Lib.hid (HB2.out.trans (hb3.mono HB2.out.size))
  clear ho hb3
  go_wp2_with fail
  go_ret
  exact ⟨v, rfl, by rw [← nx_tgL HW.out]; exact HO3.out, HB3.out⟩
end Go.Proofs.Ytmghngehpgolgaa

/- Layer 7: slices.ContainsFunc over the closures of keeps and Project; keeps. -/
namespace Go.Proofs.Ytmghngehpgolgaa
open Go.RowKit Go.Sort

theorem any_take {p : Int → Bool} {zs : List Int} {k : Nat} (h : k < zs.length) (ha : (zs.take k).any p = false) (hp : p (zs.getD k 0) = false) : (zs.take (k + 1)).any p = false := by
  rw [List.take_succ_eq_append_getElem h, List.any_append, ha]
  have e : zs.getD k 0 = zs[k] := by simp [List.getD, List.getElem?_eq_getElem h]
  rw [e] at hp
  simp [hp]
theorem any_all (p : Int → Bool) : ∀ zs : List Int, (zs.any fun x => !p x) = !(zs.all p)
  | [] => rfl
  | x :: zs => by rw [List.any_cons, List.all_cons, any_all p zs]; cases p x <;> rfl
theorem any_at {p : Int → Bool} {zs : List Int} {k : Nat} (h : k < zs.length) (hp : p (zs.getD k 0) = true) : zs.any p = true := by
  rw [List.any_eq_true]
  exact ⟨_, getD_mem h, hp⟩
theorem callK_any (args : Array Value) (W : World) : (callFunc 67 args).run Try.prog W = .ok (.enter 67 args) W := by
  go_simp
set_option maxHeartbeats 4000000 in
set_option maxRecDepth 100000 in
theorem indexK_any (b : Nat) (A : Option Addr) (n c B : Nat) (zs : List Int) (p : Int → Bool) (w : World) (hp : ∀ x ∈ zs, ∀ W, Below B w W → Calls Try.prog 67 #[.int .i64 x, .pointer (some ⟨b, 0, none⟩)] W fun e w' => e = .returned (.bool (p x)) ∧ W = w') (hx : RdI w B A zs) (hn : zs.length = n) (hnb : n ≤ 140737488355328) :
    Calls Try.prog 56 #[.slice A n c, .func (.func 67) #[] #[.pointer (some ⟨b, 0, none⟩)]] w fun e w' => (∃ k : Int, e = .returned (.int .i64 k) ∧ -1 ≤ k ∧ (0 ≤ k ↔ zs.any p = true)) ∧ w = w' := by
  have HP := Lib.hid hp
  have HX := Lib.hid hx
  have HN := Lib.hid hn
  clear hp hx hn
  go_enter Try.func56, Try.ntmps56
  go_wp2_with fail
  go_loopw [8] (fun iv wr => ∃ k : Nat, k ≤ n ∧ iv = .int .i64 k ∧ Hid ((zs.take k).any p = false) ∧ wr = w) (fun i _ => n - (intOf i).toNat)
  case atStart => exact ⟨0, Nat.zero_le _, rfl, Lib.hid (by simp), rfl⟩
  case round =>
    obtain ⟨k, hk, rfl, ha, rfl⟩ := hrel
    by_cases hlt : k < n
    · obtain ⟨b1, o1, rfl, hb1, hc1⟩ := HX.out (by rw [HN.out]; omega)
      have hz : k < zs.length := by rw [HN.out]; exact hlt
      have h1 := hc1 k hz
      have hm := getD_mem hz
      obtain ⟨x, hxe⟩ : ∃ x, x = zs.getD k 0 := ⟨_, rfl⟩
      rw [← hxe] at h1 hm
      have HC := Lib.hid (HP.out x hm _ (Below.refl _ _))
      obtain ⟨r, hr⟩ : ∃ r, p x = r := ⟨_, rfl⟩
      rw [hr] at HC
      have z0 : (k : Int) < (n : Int) := by omega
      have z1 : (0 : Int) ≤ (k : Int) := by omega
      cases r
      · have ha2 := Lib.hid (any_take (p := p) hz ha.out (by rw [← hxe]; exact hr))
        clear hc1 hz hxe hr ha hm
        go_wp2_with fail
        refine HC.out.mono ?_
        rintro e w5 ⟨rfl, hw5⟩
        subst hw5
        go_wp2_with fail
        go_roundw
        case rel => exact ⟨k + 1, by omega, by go_num, ha2, by first | rfl | trivial⟩
        case measure => simp [intOf]; omega
      · have ha2 := Lib.hid (any_at (p := p) hz (by rw [← hxe]; exact hr))
        clear hc1 hz hxe hr ha hm
        go_wp2_with fail
        refine HC.out.mono ?_
        rintro e w5 ⟨rfl, hw5⟩
        subst hw5
        go_wp2_with fail
        go_ret
        exact ⟨⟨_, rfl, by omega, by rw [ha2.out]; simp⟩, rfl⟩
    · have hF0 : zs.take k = zs := List.take_of_length_le (by rw [HN.out]; omega)
      rw [hF0] at ha
      clear hF0
      go_wp2_with fail
      go_ret
      exact ⟨⟨_, rfl, by omega, by rw [ha.out]; simp⟩, rfl⟩
set_option maxHeartbeats 4000000 in
theorem containsK_any (b : Nat) (A : Option Addr) (n c B : Nat) (zs : List Int) (p : Int → Bool) (w : World) (hp : ∀ x ∈ zs, ∀ W, Below B w W → Calls Try.prog 67 #[.int .i64 x, .pointer (some ⟨b, 0, none⟩)] W fun e w' => e = .returned (.bool (p x)) ∧ W = w') (hx : RdI w B A zs) (hn : zs.length = n) (hnb : n ≤ 140737488355328) :
    Calls Try.prog 28 #[.slice A n c, .func (.func 67) #[] #[.pointer (some ⟨b, 0, none⟩)]] w fun e w' => e = .returned (.bool (zs.any p)) ∧ w = w' := by
  have H := Lib.hid (indexK_any b A n c B zs p w hp hx hn hnb)
  obtain ⟨r, hr⟩ : ∃ r, zs.any p = r := ⟨_, rfl⟩
  rw [hr] at H ⊢
  clear hp hx hn hr
  go_enter Try.func28, Try.ntmps28
  go_wp2_with fail
  refine H.out.mono ?_
  rintro e w5 ⟨⟨k, rfl, hk1, hk2⟩, hw5⟩
  subst hw5
  cases r
  · have z : decide ((0 : Int) ≤ k) = false := decide_eq_false fun h => by have := hk2.1 h; cases this
    clear hk2
    go_wp2_with fail
    go_ret
    exact ⟨by rw [← z]; rfl, rfl⟩
  · have z : decide ((0 : Int) ≤ k) = true := decide_eq_true (hk2.2 rfl)
    clear hk2
    go_wp2_with fail
    go_ret
    exact ⟨by rw [← z]; rfl, rfl⟩
theorem callP_any (args : Array Value) (W : World) : (callFunc 26 args).run Try.prog W = .ok (.enter 26 args) W := by
  go_simp
set_option maxHeartbeats 4000000 in
set_option maxRecDepth 100000 in
theorem indexP_any (b : Nat) (A : Option Addr) (n c B : Nat) (zs : List Int) (p : Int → Bool) (w : World) (hp : ∀ x ∈ zs, ∀ W, Below B w W → Calls Try.prog 26 #[.int .i64 x, .pointer (some ⟨b, 0, none⟩)] W fun e w' => e = .returned (.bool (p x)) ∧ W = w') (hx : RdI w B A zs) (hn : zs.length = n) (hnb : n ≤ 140737488355328) :
    Calls Try.prog 56 #[.slice A n c, .func (.func 26) #[] #[.pointer (some ⟨b, 0, none⟩)]] w fun e w' => (∃ k : Int, e = .returned (.int .i64 k) ∧ -1 ≤ k ∧ (0 ≤ k ↔ zs.any p = true)) ∧ w = w' := by
  have HP := Lib.hid hp
  have HX := Lib.hid hx
  have HN := Lib.hid hn
  clear hp hx hn
  go_enter Try.func56, Try.ntmps56
  go_wp2_with fail
  go_loopw [8] (fun iv wr => ∃ k : Nat, k ≤ n ∧ iv = .int .i64 k ∧ Hid ((zs.take k).any p = false) ∧ wr = w) (fun i _ => n - (intOf i).toNat)
  case atStart => exact ⟨0, Nat.zero_le _, rfl, Lib.hid (by simp), rfl⟩
  case round =>
    obtain ⟨k, hk, rfl, ha, rfl⟩ := hrel
    by_cases hlt : k < n
    · obtain ⟨b1, o1, rfl, hb1, hc1⟩ := HX.out (by rw [HN.out]; omega)
      have hz : k < zs.length := by rw [HN.out]; exact hlt
      have h1 := hc1 k hz
      have hm := getD_mem hz
      obtain ⟨x, hxe⟩ : ∃ x, x = zs.getD k 0 := ⟨_, rfl⟩
      rw [← hxe] at h1 hm
      have HC := Lib.hid (HP.out x hm _ (Below.refl _ _))
      obtain ⟨r, hr⟩ : ∃ r, p x = r := ⟨_, rfl⟩
      rw [hr] at HC
      have z0 : (k : Int) < (n : Int) := by omega
      have z1 : (0 : Int) ≤ (k : Int) := by omega
      cases r
      · have ha2 := Lib.hid (any_take (p := p) hz ha.out (by rw [← hxe]; exact hr))
        clear hc1 hz hxe hr ha hm
        go_wp2_with fail
        refine HC.out.mono ?_
        rintro e w5 ⟨rfl, hw5⟩
        subst hw5
        go_wp2_with fail
        go_roundw
        case rel => exact ⟨k + 1, by omega, by go_num, ha2, by first | rfl | trivial⟩
        case measure => simp [intOf]; omega
      · have ha2 := Lib.hid (any_at (p := p) hz (by rw [← hxe]; exact hr))
        clear hc1 hz hxe hr ha hm
        go_wp2_with fail
        refine HC.out.mono ?_
        rintro e w5 ⟨rfl, hw5⟩
        subst hw5
        go_wp2_with fail
        go_ret
        exact ⟨⟨_, rfl, by omega, by rw [ha2.out]; simp⟩, rfl⟩
    · have hF0 : zs.take k = zs := List.take_of_length_le (by rw [HN.out]; omega)
      rw [hF0] at ha
      clear hF0
      go_wp2_with fail
      go_ret
      exact ⟨⟨_, rfl, by omega, by rw [ha.out]; simp⟩, rfl⟩
set_option maxHeartbeats 4000000 in
theorem containsP_any (b : Nat) (A : Option Addr) (n c B : Nat) (zs : List Int) (p : Int → Bool) (w : World) (hp : ∀ x ∈ zs, ∀ W, Below B w W → Calls Try.prog 26 #[.int .i64 x, .pointer (some ⟨b, 0, none⟩)] W fun e w' => e = .returned (.bool (p x)) ∧ W = w') (hx : RdI w B A zs) (hn : zs.length = n) (hnb : n ≤ 140737488355328) :
    Calls Try.prog 28 #[.slice A n c, .func (.func 26) #[] #[.pointer (some ⟨b, 0, none⟩)]] w fun e w' => e = .returned (.bool (zs.any p)) ∧ w = w' := by
  have H := Lib.hid (indexP_any b A n c B zs p w hp hx hn hnb)
  obtain ⟨r, hr⟩ : ∃ r, zs.any p = r := ⟨_, rfl⟩
  rw [hr] at H ⊢
  clear hp hx hn hr
  go_enter Try.func28, Try.ntmps28
  go_wp2_with fail
  refine H.out.mono ?_
  rintro e w5 ⟨⟨k, rfl, hk1, hk2⟩, hw5⟩
  subst hw5
  cases r
  · have z : decide ((0 : Int) ≤ k) = false := decide_eq_false fun h => by have := hk2.1 h; cases this
    clear hk2
    go_wp2_with fail
    go_ret
    exact ⟨by rw [← z]; rfl, rfl⟩
  · have z : decide ((0 : Int) ≤ k) = true := decide_eq_true (hk2.2 rfl)
    clear hk2
    go_wp2_with fail
    go_ret
    exact ⟨by rw [← z]; rfl, rfl⟩
set_option maxHeartbeats 2000000 in
set_option maxRecDepth 100000 in
theorem keeps1_any (b : Nat) (gv : Value) (Ak : Option Addr) (nk ck : Nat) (kp er : List Int) (x : Int) (W : World) (hb : Row W b 64 (obL gv (.slice Ak nk ck) er)) (hk : RdI W W.heap.size Ak kp) (hn : kp.length = nk) (hnb : nk ≤ 100000) (hup : Up kp) :
    Calls Try.prog 67 #[.int .i64 x, .pointer (some ⟨b, 0, none⟩)] W fun e w' => e = .returned (.bool (!decide (x ∈ kp))) ∧ W = w' := by
  have c1 := hb.cell 1 (show (obL gv (.slice Ak nk ck) er)[1]? = some (.slice Ak nk ck) from rfl)
  have HC := Lib.hid (jContains_any Ak nk ck W.heap.size kp x W hk hn (by omega) hup)
  obtain ⟨r, hr⟩ : ∃ r, decide (x ∈ kp) = r := ⟨_, rfl⟩
  rw [hr] at HC ⊢
  clear hb hk hn hup hr
  go_enter Try.func67, Try.ntmps67
  go_wp2_with fail
  refine HC.out.mono ?_
  rintro e w5 ⟨rfl, hw5⟩
  subst hw5
  go_wp2_with fail
  go_ret
  exact ⟨rfl, rfl⟩
set_option maxHeartbeats 2000000 in
set_option maxRecDepth 100000 in
theorem jKeeps_any (gv : Value) (Ak : Option Addr) (nk ck : Nat) (kp er : List Int) (A : Option Addr) (n c : Nat) (zs : List Int) (w : World) (hk : RdI w w.heap.size Ak kp) (hkn : kp.length = nk) (hnb : nk ≤ 100000) (hup : Up kp) (hx : RdI w w.heap.size A zs) (hn : zs.length = n) (hb : n ≤ 1000000) :
    Calls Try.prog 42 #[.agg (obL gv (.slice Ak nk ck) er).toArray, .slice A n c] w fun e w' => e = .returned (.bool (zs.all fun x => decide (x ∈ kp))) ∧ Below w.heap.size w w' := by
  have hbox := ob_box w gv (.slice Ak nk ck) er
  have hB1 := (Below.refl w.heap.size w).alloc (Nat.le_refl _) (.cells (obL gv (.slice Ak nk ck) er).toArray 64)
  have HB1 := Lib.hid hB1
  have HC := Lib.hid (containsK_any w.heap.size A n c (w.alloc (.cells (obL gv (.slice Ak nk ck) er).toArray 64)).heap.size zs (fun x => !decide (x ∈ kp)) (w.alloc (.cells (obL gv (.slice Ak nk ck) er).toArray 64)) (fun x _ W hW => keeps1_any w.heap.size gv Ak nk ck kp er x W (hbox.below hW hbox.lt) ((hk.below (hB1.trans (hW.mono hB1.size)) (Nat.le_refl _)).more (Nat.le_trans hB1.size hW.size)) hkn hnb hup) ((hx.below hB1 (Nat.le_refl _)).more hB1.size) hn (by omega))
  have hall : (zs.any fun x => !decide (x ∈ kp)) = !(zs.all fun x => decide (x ∈ kp)) := any_all _ zs
  rw [hall] at HC
  obtain ⟨r, hr⟩ : ∃ r, (zs.all fun x => decide (x ∈ kp)) = r := ⟨_, rfl⟩
  rw [hr] at HC ⊢
  clear hk hkn hup hx hn hbox hB1 hall hr
  go_enter Try.func42, Try.ntmps42
  go_wp2_with fail
  refine HC.out.mono ?_
  rintro e w5 ⟨rfl, hw5⟩
  subst hw5
  go_wp2_with fail
  go_ret
  exact ⟨by simp, HB1.out⟩
end Go.Proofs.Ytmghngehpgolgaa

/- Layer 7: what explore keeps; bounds. -/
namespace Go.Proofs.Ytmghngehpgolgaa
open Go.RowKit Go.Sort Go.Maps

theorem kp_row {w w' : World} {F B M base g : Nat} {v : Value} {hs : List Hd} {e : TypeId} {cs : List Value} (hf : FS w F B M base v hs) (hk : KpS w w' F M v) (hr : Row w g e cs) (h1 : e ≠ 30) (h2 : e ≠ 22) : Row w' g e cs :=
  (hk.block g hr.lt (row_ne_rowS hr hf.fo h1) (fun e' => ownsMap_ne_rowS hf.mp hr e'.symm) (row_ne_own hr hf.ow h2)).trans hr
theorem kp_own {w w' : World} {F B M base base' n sz : Nat} {v u : Value} {hs : List Hd} {e : TypeId} {xs : List Value} (hf : FS w F B M base v hs) (hk : KpS w w' F M v) (hr : w.ownsRow base' e sz u n xs) (h1 : e ≠ 30) (h2 : e ≠ 22) : w'.ownsRow base' e sz u n xs :=
  ownsRow_same' hr fun g hg => hk.block g (hr.lt g hg).2 (fun e' => row_ne_own hf.fo hr (fun e'' => h1 e''.symm) (by rw [hg, e'])) (fun e' => ownsMap_ne_ownS hf.mp hr (by rw [hg, e'])) (fun e' => by
    rcases owns_ne hf.ow hr (fun e'' => h2 e''.symm) with h | h
    · rw [h] at e'; cases e'
    · exact h (by rw [e', hg]))
/-- What explore keeps. -/
structure EO (w wr : World) (gv vk : Value) (er : List Int) (v : Value) (hs : List Hd) (ve : Value) (es : List Ed) : Prop where
  bel : Below w.heap.size w wr
  ob : Row wr w.heap.size 64 (obL gv vk er)
  fn : FS wr (w.heap.size + 1) (w.heap.size + 1 + 1 + 1) (w.heap.size + 1 + 1) w.heap.size v hs
  edg : OwnE wr w.heap.size ve es
section
variable {w wr w' w1 : World} {gv vk : Value} {er : List Int} {v v' : Value} {hs hs' : List Hd} {ve ve' : Value} {es es' : List Ed}
theorem EO.call (h : EO w wr gv vk er v hs ve es) (hb : Below wr.heap.size wr w') : EO w w' gv vk er v hs ve es :=
  ⟨h.bel.trans (hb.mono h.bel.size), h.ob.below hb h.ob.lt, h.fn.below hb, own_below h.edg hb⟩
theorem EO.num (h : EO w wr gv vk er v hs ve es) (hf : FS w' (w.heap.size + 1) (w.heap.size + 1 + 1 + 1) (w.heap.size + 1 + 1) w.heap.size v' hs') (hk : KpS wr w' (w.heap.size + 1) (w.heap.size + 1 + 1) v) : EO w w' gv vk er v' hs' ve es := by
  have hz := h.bel.size
  have key : ∀ k, k < w.heap.size → w'.heap[k]? = wr.heap[k]? := fun k hk1 => hk.block k (by omega) (by omega) (by omega) (fun e => by have := (h.fn.ow.lt k e).1; omega)
  exact ⟨⟨hk.os.trans h.bel.os, hk.tape.trans h.bel.tape, hk.output.trans h.bel.output, Nat.le_trans hz hk.size, fun k hk1 => (key k hk1).trans (h.bel.block k hk1)⟩, kp_row h.fn hk h.ob (by decide) (by decide), hf, kp_own h.fn hk h.edg (by decide) (by decide)⟩
theorem EO.edge (h : EO w wr gv vk er v hs ve es) (hg : wr.grownBy w1 ve.ownBlock) (ho : OwnE w1 w.heap.size ve' es') : EO w w1 gv vk er v hs ve' es' := by
  have hz := h.bel.size
  refine ⟨⟨hg.os.trans h.bel.os, hg.tape.trans h.bel.tape, hg.output.trans h.bel.output, Nat.le_trans hz hg.size, fun k hk => (hg.block k (by omega) (fun e => by have := (h.edg.lt k e.symm).1; omega)).trans (h.bel.block k hk)⟩, h.ob.grown hg (row_ne_own h.ob h.edg (by decide)), ⟨h.fn.nu.grown hg (row_ne_own h.fn.nu h.edg (by decide)), h.fn.fo.grown hg (row_ne_own h.fn.fo h.edg (by decide)), h.fn.mp.kept hg (fun e => ownsMap_ne_ownS h.fn.mp h.edg e.symm), h.fn.ow.kept hg (owns_ne h.fn.ow h.edg (by decide)), fun x hx => World.ownsRow.kept (h.fn.rw x hx) hg (owns_ne (h.fn.rw x hx) h.edg (by decide)), h.fn.ok, h.fn.nd, Nat.le_trans h.fn.hb hg.size⟩, ho⟩
end
/-- The lists of targets in their box. -/
structure TB (wr : World) (base bt : Nat) (vs : List Value) (Ls : Int → List Int) : Prop where
  row : Row wr bt 97 vs
  len : vs.length = 32
  ow : ∀ e : Nat, e < 32 → Own wr base (vs.getD e undef) (Ls (e : Int))
section
variable {wr w' : World} {base bt : Nat} {vs : List Value} {Ls : Int → List Int}
theorem TB.call (h : TB wr base bt vs Ls) (hb : Below wr.heap.size wr w') : TB w' base bt vs Ls := ⟨h.row.below hb h.row.lt, h.len, fun e he => own_below (h.ow e he) hb⟩
theorem TB.num {F B M b0 : Nat} {v : Value} {hs : List Hd} (h : TB wr base bt vs Ls) (hf : FS wr F B M b0 v hs) (hk : KpS wr w' F M v) : TB w' base bt vs Ls := ⟨kp_row hf hk h.row (by decide) (by decide), h.len, fun e he => kp_own hf hk (h.ow e he) (by decide) (by decide)⟩
theorem TB.edge {b0 : Nat} {ve : Value} {es : List Ed} (h : TB wr base bt vs Ls) (he : OwnE wr b0 ve es) (hg : wr.grownBy w' ve.ownBlock) : TB w' base bt vs Ls := ⟨h.row.grown hg (row_ne_own h.row he (by decide)), h.len, fun e h' => World.ownsRow.kept (h.ow e h') hg (owns_ne (h.ow e h') he (by decide))⟩
end
theorem visitL_lenJ : ∀ (l : List Ed) (fl : List Int), (visitL fl l).length ≤ fl.length + l.length
  | [], fl => Nat.le_refl _
  | x :: l, fl => by
    have := visitL_lenJ l (visit fl x.t)
    have h2 : (visit fl x.t).length ≤ fl.length + 1 := by unfold visit; split <;> simp
    rw [visitL_cons, List.length_cons]; omega
theorem succK_lenJ (a : Au) (q : Int) (k : Nat) : (succK a q k).length ≤ a.al.length := by
  unfold succK
  exact Nat.le_trans (List.length_filterMap_le _ _) (by simp; omega)
theorem canEn_leJ {a : Au} (h : RightW a) : ∀ j, (canEn a j).length ≤ j * a.al.length
  | 0 => by simp [canEn]
  | j + 1 => by
    have := canEn_leJ h j
    have h2 : (outE a (fnd a) j).length ≤ a.al.length := by
      unfold outE; rw [List.length_map, succ_eq h]; exact List.length_filterMap_le _ _
    rw [canEn_succ, List.length_append, Nat.add_mul, Nat.one_mul]; omega
theorem visK_preJ {a : Au} (h : RightW a) (h0 : 0 < a.st) {j k : Nat} (hj : j < (Fd a j).length) {q : Int} (hq : q = (Fd a j).getD j 0) : visitL (Fd a j) (succK a q k) <+: fnd a := by
  obtain ⟨r, hr⟩ := succK_pre h q k
  have h1 : visitL (Fd a j) (succK a q k) <+: visitL (Fd a j) (succ a.ed q) := by
    rw [← hr, visitL_app]; exact visitL_pre _ _
  rw [hq, ← Fd_go hj, ← hq] at h1
  exact h1.trans (Fd_fnd h h0 (j + 1))
theorem info_edgeEJ : ∃ iE, Try.prog.info? 55 = some iE ∧ iE.zero = some (.agg #[.int .i64 0, .int .i64 0, .int .i64 0]) ∧ iE.size = 3 ∧ iE.bytes = 24 := by
  obtain ⟨i0, hi, hz0, hz1, hz2⟩ := info_parts info_edge
  exact ⟨i0, hi, hz0, hz1, hz2⟩
theorem idxOf_map_injJ {f : Int → List Int} {x : Int} : ∀ {fl : List Int}, (∀ y ∈ fl, f y = f x → y = x) → (fl.map f).idxOf (f x) = fl.idxOf x
  | [], _ => rfl
  | y :: fl, h => by
    rw [List.map_cons, List.idxOf_cons, List.idxOf_cons, idxOf_map_injJ fun z hz => h z (List.mem_cons_of_mem _ hz)]
    by_cases e : y = x
    · subst e; simp
    · have : f y ≠ f x := fun hh => e (h y (by simp) hh)
      rw [beq_eq_false_iff_ne.2 e, beq_eq_false_iff_ne.2 this]
theorem addS_map {f : Int → List Int} {t : Int} {fl : List Int} {hs : List Hd} {x : Hd} (hm : hs.map Hd.z = fl.map f) (hx : x.z = f t) (h : ∀ y ∈ fl, f y = f t → y = t) : (addS hs x).map Hd.z = (visit fl t).map f ∧ ((addS hs x).map Hd.z).idxOf x.z = (visit fl t).idxOf t := by
  have hmm : f t ∈ fl.map f ↔ t ∈ fl := by
    constructor
    · intro hh; obtain ⟨y, hy, e⟩ := List.mem_map.1 hh; rw [← h y hy e]; exact hy
    · intro hh; exact List.mem_map.2 ⟨t, hh, rfl⟩
  have e1 : (addS hs x).map Hd.z = (visit fl t).map f := by
    unfold addS visit
    rw [hx, hm]
    by_cases ht : t ∈ fl
    · rw [if_pos (hmm.2 ht), if_pos ht, hm]
    · rw [if_neg (fun hh => ht (hmm.1 hh)), if_neg ht, List.map_append, hm]; simp [hx]
  refine ⟨e1, ?_⟩
  rw [e1, hx]
  refine idxOf_map_injJ fun y hy e => ?_
  rcases mem_visit.1 hy with hy | hy
  · exact h y hy e
  · exact hy
theorem kp_len {a : Au} (h : RightW a) (onto : List Int) : (kpR a onto).length ≤ 32 :=
  nodup_len ((h.alo.sublist List.filter_sublist).imp fun h => by omega) fun x hx => by have := h.alr x (mem_kpR.1 hx).1; omega
/-- The automaton of the estimates, where there is a state. -/
noncomputable def dtA (a : Au) (onto : List Int) : Au := codA (detC a onto)
noncomputable def deR (a : Au) (onto : List Int) (q : Int) : List Int := (detC a onto).de q
theorem det_dt {a : Au} (h0 : a.st ≠ 0) (onto : List Int) : detA a onto = dtA a onto := by unfold detA dtA; rw [if_neg h0]
theorem dt_right {a : Au} (h : RightW a) (onto : List Int) : RightW (dtA a onto) := cod_right (det_ok h onto)
theorem dt_pos (a : Au) (onto : List Int) : 0 < (dtA a onto).st := by
  have h := (nm_range a.st.toNat (fsR a onto) (fsR a onto))
  show (0 : Int) < (((prT (twos a.st.toNat)).toNat : Nat) : Int)
  omega
theorem de_zero {a : Au} (h : RightW a) (onto : List Int) : deR a onto 0 = fsR a onto := by
  have := (det_ok h onto).den (fsR a onto) (fs_ok onto)
  rw [det_zero] at this; exact this
theorem de_ok {a : Au} (h : RightW a) (onto : List Int) {q : Int} (hq : 0 ≤ q ∧ q < (dtA a onto).st) : SubOk a.st.toNat (deR a onto q) := (det_ok h onto).okd q hq.1 hq.2
theorem de_inj {a : Au} (h : RightW a) (onto : List Int) {x y : Int} (hx : 0 ≤ x ∧ x < (dtA a onto).st) (hy : 0 ≤ y ∧ y < (dtA a onto).st) (e : deR a onto x = deR a onto y) : x = y := by
  have h1 := (det_ok h onto).edn x hx.1 hx.2
  have h2 := (det_ok h onto).edn y hy.1 hy.2
  rw [← h1, ← h2]; exact congrArg _ e
/-- One step of explore is an edge of the numbers. -/
theorem dt_link {a : Au} (h : RightW a) (onto : List Int) {q e : Int} (hq : 0 ≤ q ∧ q < (dtA a onto).st) (he : e ∈ kpR a onto) :
    (tgL a (deR a onto q) e = [] ∧ edgeO (dtA a onto).ed q e = none) ∨ (tgL a (deR a onto q) e ≠ [] ∧ ∃ t, edgeO (dtA a onto).ed q e = some ⟨q, e, t⟩ ∧ (0 ≤ t ∧ t < (dtA a onto).st) ∧ deR a onto t = nxR a onto (deR a onto q) e) := by
  have hl := cod_link (det_ok h onto) (q := q) (e := e) hq he
  have hst : (detC a onto).st ((detC a onto).de q) e = if tgR a (deR a onto q) e = [] then none else some (nxR a onto (deR a onto q) e) := rfl
  rw [hst] at hl
  by_cases h1 : tgR a (deR a onto q) e = []
  · rw [if_pos h1] at hl
    rcases hl with ⟨_, h2⟩ | ⟨t, h2, _⟩
    · exact .inl ⟨tgL_nil.2 h1, h2⟩
    · cases h2
  · rw [if_neg h1] at hl
    rcases hl with ⟨h2, _⟩ | ⟨t, h2, h3, h4, h5, h6⟩
    · cases h2
    · injection h2 with h2
      exact .inr ⟨fun h' => h1 (tgL_nil.1 h'), (detC a onto).en t, h6, h4, by rw [h2]; exact h5⟩
theorem one_le {e : Int} : ∀ {l : List Ed}, (l.Pairwise fun x y => x.e < y.e) → (l.filter fun x => decide (x.e = e)).length ≤ 1
  | [], _ => by simp
  | x :: l, h => by
    rw [List.pairwise_cons] at h
    by_cases hx : x.e = e
    · have : l.filter (fun y => decide (y.e = e)) = [] := List.filter_eq_nil_iff.2 fun y hy => by have := h.1 y hy; simp; omega
      rw [List.filter_cons_of_pos (by simpa using hx), this]; simp
    · rw [List.filter_cons_of_neg (by simpa using hx)]; exact one_le h.2
theorem tgL_le {a : Au} (h : RightW a) (e : Int) : ∀ s : List Int, (tgL a s e).length ≤ s.length
  | [] => by simp [tgL]
  | q :: s => by
    have ih := tgL_le h e s
    have h1 := one_le (e := e) (succ_sorted h.edo q)
    have e1 : tgL a (q :: s) e = ((succ a.ed q).filter fun x => decide (x.e = e)).map Ed.t ++ tgL a s e := rfl
    rw [e1, List.length_append, List.length_map, List.length_cons]; omega
theorem skey_of {a : Au} {S : Nat} (hS : a.st = (S : Int)) (hSb : S ≤ 4096) {s : List Int} (h : SubOk a.st.toNat s) : SKey s :=
  ⟨fun x hx => by have := h.2 x hx; rw [hS] at this; simp at this; omega, by have := sub_len h; rw [hS] at this; simp at this; omega⟩
end Go.Proofs.Ytmghngehpgolgaa

/- Layer 7: the values of the chapter's first example. -/
namespace Go.Proofs.Ytmghngehpgolgaa

def exA7 : Au := ⟨[0, 1], 3, [2], [⟨0, 0, 1⟩, ⟨0, 1, 0⟩, ⟨1, 1, 2⟩, ⟨2, 0, 0⟩]⟩
def exP7 : Au := ⟨[1], 2, [1], [⟨0, 1, 1⟩, ⟨1, 1, 1⟩]⟩
theorem exA7_chk : chkE exA7 = 0 := by decide
theorem exP7_chk : chkE exP7 = 0 := by decide
theorem exA7_right : RightW exA7 := (right_of exA7_chk).toRightW
theorem exP7_right : RightW exP7 := (right_of exP7_chk).toRightW
theorem exP7_fnd : fnd exP7 = [0, 1] := by first | decide | rfl | kernel_rfl
theorem exP7_can : canA exP7 = exP7 := by first | decide | rfl | kernel_rfl
theorem ex_er : erR exA7 [1] = [0] := by decide
theorem ex_kp : kpR exA7 [1] = [1] := by decide
theorem ex_fs : fsR exA7 [1] = [0, 1] := by
  unfold fsR
  rw [if_neg (by decide), ex_er]
  refine (reR_of exA7_right (by decide) (by decide) (rc_found (by decide) ?_ (by decide))).symm
  have h0 : Rc exA7 [0] [0] 0 := .base (by decide)
  have h1 : Rc exA7 [0] [0] 1 := .step (x := ⟨0, 0, 1⟩) h0 (by decide) (by decide)
  intro q hq
  simp at hq
  rcases hq with rfl | rfl
  · exact h0
  · exact h1
theorem ex_re : reR exA7 [0] [0, 2] = [0, 1, 2] := by
  refine (reR_of exA7_right (by decide) (by decide) (rc_found (by decide) ?_ (by decide))).symm
  have h0 : Rc exA7 [0] [0, 2] 0 := .base (by decide)
  have h1 : Rc exA7 [0] [0, 2] 1 := .step (x := ⟨0, 0, 1⟩) h0 (by decide) (by decide)
  have h2 : Rc exA7 [0] [0, 2] 2 := .base (by decide)
  intro q hq
  simp at hq
  rcases hq with rfl | rfl | rfl
  · exact h0
  · exact h1
  · exact h2
theorem ex_nx1 : nxR exA7 [1] [0, 1] 1 = [0, 1, 2] := by unfold nxR; rw [ex_er, show tgR exA7 [0, 1] 1 = [0, 2] by decide, ex_re]
theorem ex_nx2 : nxR exA7 [1] [0, 1, 2] 1 = [0, 1, 2] := by unfold nxR; rw [ex_er, show tgR exA7 [0, 1, 2] 1 = [0, 2] by decide, ex_re]
theorem ex_ok1 : SubOk exA7.st.toNat [0, 1] := ⟨by decide, by decide⟩
theorem ex_ok2 : SubOk exA7.st.toNat [0, 1, 2] := ⟨by decide, by decide⟩
noncomputable def exG (q : Int) : Int := (detC exA7 [1]).en (if q = 0 then [0, 1] else [0, 1, 2])
theorem ex_iso : IsoA exP7 (detA exA7 [1]) exG where
  h := exP7_right
  h' := det_right exA7_right _
  al := by rw [det_al, ex_kp]; rfl
  z := by
    have := det_zero exA7 [1]
    rw [ex_fs] at this
    unfold exG; rw [if_pos rfl]; exact this
  p := by decide
  p' := by
    have h1 := (det_right exA7_right [1]).st0
    have h2 := det_st (show exA7.st ≠ 0 by decide) [1]
    omega
  inj x y hx hy e := by
    have hd := det_ok exA7_right [1]
    have k1 := hd.den _ ex_ok1
    have k2 := hd.den _ ex_ok2
    rw [exP7_fnd] at hx hy
    simp at hx hy
    unfold exG at e
    rcases hx with rfl | rfl <;> rcases hy with rfl | rfl
    · rfl
    · rw [if_pos rfl, if_neg (by decide)] at e; rw [e, k2] at k1; simp at k1
    · rw [if_pos rfl, if_neg (by decide)] at e; rw [← e, k2] at k1; simp at k1
    · rfl
  st q hq ev := by
    rw [exP7_fnd] at hq
    by_cases he : ev = 1
    · subst he
      have hk : (1 : Int) ∈ kpR exA7 [1] := by decide
      have s1 := det_step exA7_right (show exA7.st ≠ 0 by decide) ex_ok1 hk
      have s2 := det_step exA7_right (show exA7.st ≠ 0 by decide) ex_ok2 hk
      rw [if_neg (by decide), ex_nx1] at s1
      rw [if_neg (by decide), ex_nx2] at s2
      simp at hq
      rcases hq with rfl | rfl
      · rw [show stepO exP7 0 1 = some 1 by decide]
        exact s1
      · rw [show stepO exP7 1 1 = some 1 by decide]
        exact s2
    · have h1 : stepO exP7 q ev = none := by
        cases h : stepO exP7 q ev with
        | none => rfl
        | some t => exact absurd (by simpa [exP7] using (step_alQ exP7_right h).1) he
      have h2 : stepO (detA exA7 [1]) (exG q) ev = none := by
        cases h : stepO (detA exA7 [1]) (exG q) ev with
        | none => rfl
        | some t =>
          have := (step_alQ (det_right exA7_right [1]) h).1
          rw [det_al, ex_kp] at this
          exact absurd (by simpa using this) he
      rw [h1, h2]; rfl
  mq q hq := by
    rw [exP7_fnd] at hq
    have s1 := det_mark exA7_right (show exA7.st ≠ 0 by decide) (onto := [1]) ex_ok1
    have s2 := det_mark exA7_right (show exA7.st ≠ 0 by decide) (onto := [1]) ex_ok2
    simp at hq
    rcases hq with rfl | rfl
    · refine s1.trans ⟨fun ⟨q, h1, h2⟩ => ?_, fun h => absurd h (by decide)⟩
      simp [exA7] at h1 h2
      omega
    · exact s2.trans ⟨fun _ => by decide, fun _ => ⟨2, by decide, by decide⟩⟩
theorem ex7_can : canA (detA exA7 [1]) = exP7 := (can_iso ex_iso).trans exP7_can
theorem ex_ests : (fnd (detA exA7 [1])).map (deR exA7 [1]) = [[0, 1], [0, 1, 2]] := by
  have hd := det_ok exA7_right [1]
  rw [fnd_iso ex_iso, exP7_fnd]
  show [deR exA7 [1] (exG 0), deR exA7 [1] (exG 1)] = _
  unfold deR exG
  rw [if_pos rfl, if_neg (by decide), hd.den _ ex_ok1, hd.den _ ex_ok2]
theorem ex_lift : lfO exA7 [1] [1] true = some [0, 1] := by first | rfl | decide | kernel_rfl
theorem ex_inv : (canA (invA ⟨[1], 1, [], []⟩ [0, 1])).ed.length = 1 := by first | rfl | decide | kernel_rfl
theorem ex_invc : chkE ⟨[1], 1, [], []⟩ = 0 := by decide
end Go.Proofs.Ytmghngehpgolgaa
