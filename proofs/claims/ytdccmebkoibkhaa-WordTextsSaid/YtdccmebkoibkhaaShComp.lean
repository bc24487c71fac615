/- The contract of slices.CompactFunc over words with Equal. -/
import Derived.Test.YtdccmebkoibkhaaShRow
import Derived.Test.YtdccmebkoibkhaaWequal
import Derived.Deep.LoopGhost
import Derived.Lib.SliceRun
import Derived.IntWalk
namespace Go.Proofs.Ytdccmebkoibkhaa
open Go.RowKit

/-- Behind j of the words: out is kept, in front. -/
structure Cmp (w wr : World) (blk : Nat) (hs out : List Hd) (j : Nat) : Prop where
  lo : ∀ i h, out[i]? = some h → wr.cell? ⟨blk, i, none⟩ = some h.enc
  fr : ∀ i, i < hs.length → wr.frozen? ⟨blk, i, none⟩ = false ∧ (wr.cell? ⟨blk, i, none⟩).isSome = true
  hi : ∀ i h, j - 1 ≤ i → hs[i]? = some h → wr.cell? ⟨blk, i, none⟩ = some h.enc
  ded : Ded (hs.map (·.z)) j (out.map (·.z))
  sub : ∀ h ∈ out, h ∈ hs
  gr : w.grownBy wr (some blk)
  lt : out.length < j
theorem getD_map {hs : List Hd} {j : Nat} {h : Hd} (e : hs[j]? = some h) : (hs.map (·.z)).getD j [] = h.z := by
  simp [List.getD, e]
theorem Cmp.draws {w wr : World} {blk j : Nat} {hs out : List Hd} (c : Cmp w wr blk hs out j) (q : Nat) : Cmp w (wr.drewN q) blk hs out j :=
  ⟨c.lo, c.fr, c.hi, c.ded, c.sub, grown_drewN c.gr q, c.lt⟩
theorem Cmp.skip {w wr : World} {blk j : Nat} {hs out : List Hd} (c : Cmp w wr blk hs out j) (hj : j < hs.length) (h0 : 0 < j) {h p : Hd} (e1 : hs[j]? = some h) (e2 : hs[j - 1]? = some p) (he : h.z = p.z) : Cmp w wr blk hs out (j + 1) := by
  refine ⟨c.lo, c.fr, fun i h hi => c.hi i h (by omega), c.ded.drop (by simpa using hj) h0 (by rw [getD_map e1, getD_map e2, he]), c.sub, c.gr, by have := c.lt; omega⟩
theorem Cmp.keep {w wr : World} {blk j kk : Nat} {hs out : List Hd} (c : Cmp w wr blk hs out j) (hs' : Srt (hs.map (·.z))) (hj : j < hs.length) (h0 : 0 < j) {h p : Hd} (e1 : hs[j]? = some h) (e2 : hs[j - 1]? = some p) (he : ¬ h.z = p.z) (hk : kk = out.length) :
    Cmp w (wr.setCell ⟨blk, kk, none⟩ h.enc) blk hs (out ++ [h]) (j + 1) := by
  have hlt := c.lt
  subst hk
  have hsome := (c.fr out.length (by omega)).2
  obtain ⟨old, hold⟩ := Option.isSome_iff_exists.1 hsome
  have hoth : ∀ i, i ≠ out.length → (wr.setCell ⟨blk, out.length, none⟩ h.enc).cell? ⟨blk, i, none⟩ = wr.cell? ⟨blk, i, none⟩ := fun i hi => World.cell?_setCell_other wr _ _ _ (fun e => hi (by injection e with _ e _; omega))
  have hsame : (wr.setCell ⟨blk, out.length, none⟩ h.enc).cell? ⟨blk, out.length, none⟩ = some h.enc := World.cell?_setCell_same _ _ _ hold
  refine ⟨fun i x hx => ?_, fun i hi => ⟨by rw [World.frozen?_setCell]; exact (c.fr i hi).1, ?_⟩, fun i x hi hx => ?_, ?_, fun x hx => ?_, grown_trans c.gr (grown_set _), by simp; omega⟩
  · rcases Nat.lt_or_ge i out.length with hlt' | hge
    · rw [hoth i (by omega)]
      exact c.lo i x (by rwa [List.getElem?_append_left hlt'] at hx)
    · rw [List.getElem?_append_right hge] at hx
      have hi0 : i = out.length := by
        rcases Nat.eq_zero_or_pos (i - out.length) with h1 | h1
        · omega
        · rw [List.getElem?_eq_none (by simp; omega)] at hx; cases hx
      subst hi0
      have : h = x := by simpa using hx
      rw [← this]; exact hsame
  · by_cases hi0 : i = out.length
    · subst hi0; rw [hsame]; rfl
    · rw [hoth i hi0]; exact (c.fr i hi).2
  · rw [hoth i (by omega)]; exact c.hi i x (by omega) hx
  · rw [List.map_append, show ([h].map (·.z)) = [(hs.map (·.z)).getD j []] by rw [getD_map e1]; rfl]
    exact c.ded.keep hs' (by simpa using hj) h0 (by rw [getD_map e1, getD_map e2]; exact he)
  · rcases List.mem_append.1 hx with hx | hx
    · exact c.sub x hx
    · rw [List.mem_singleton] at hx; subst hx; exact List.mem_of_getElem? e1

/-- What CompactFunc gives: the first cells hold the words, increasing. -/
def CompGives (w : World) (blk cap : Nat) (hs : List Hd) (e : Ending) (w' : World) : Prop :=
  ∃ out : List Hd, e = .returned (.slice (some ⟨blk, 0, none⟩) out.length cap) ∧ (∀ i h, out[i]? = some h → w'.cell? ⟨blk, i, none⟩ = some h.enc) ∧ Inc (out.map (·.z)) ∧ (∀ x, x ∈ out.map (·.z) ↔ x ∈ hs.map (·.z)) ∧ (∀ h ∈ out, h ∈ hs) ∧ w.grownBy w' (some blk) ∧ out.length ≤ hs.length
theorem comp_end {w wr : World} {blk cap : Nat} {hs out : List Hd} (c : Cmp w wr blk hs out hs.length) (n kk : Nat) (hk : kk = out.length) : CompGives w blk cap hs (.returned (.slice (some ⟨blk, 0, none⟩) kk cap)) (wr.setCells blk kk (List.replicate n (.slice none 0 0))) := by
  subst hk
  refine ⟨out, rfl, fun i h hi => ?_, c.ded.inc, fun x => ?_, c.sub, grown_trans c.gr ?_, Nat.le_of_lt c.lt⟩
  · rw [World.cell?_setCells_out]
    · exact c.lo i h hi
    · intro _ _; left; exact (List.getElem?_eq_some_iff.1 hi).1
  · rw [c.ded.mem, List.take_of_length_le (by simp)]
  · have hgen : ∀ (vs : List Value) (o : Nat) (W : World), W.grownBy (W.setCells blk o vs) (some blk) := by
      intro vs
      induction vs with
      | nil => intro o W; exact World.grownBy.refl W _
      | cons v r ih => intro o W; exact grown_trans (grown_set v) (ih _ _)
    exact hgen _ _ _
/-- Before a word is met again, all are kept. -/
theorem cmp_start {w : World} {blk k : Nat} {hs : List Hd} (hrow : RowH w blk hs) (hd : Ded (hs.map (·.z)) k ((hs.take k).map (·.z))) (hk : k < hs.length) (h1 : 1 ≤ k) {h p : Hd} (e1 : hs[k]? = some h) (e2 : hs[k - 1]? = some p) (he : h.z = p.z) (q : Nat) : Cmp w (w.drewN q) blk hs (hs.take k) (k + 1) := by
  have hl : (hs.take k).length = k := by rw [List.length_take]; omega
  refine ⟨fun i x hx => ?_, fun i hi => ?_, fun i x hi hx => (hrow i x hx).1, hd.drop (by simpa using hk) (by omega) (by rw [getD_map e1, getD_map e2, he]), fun x hx => List.mem_of_mem_take hx, grown_drewN (World.grownBy.refl w _) q, by omega⟩
  · have hi : i < k := by have := (List.getElem?_eq_some_iff.1 hx).1; omega
    rw [List.getElem?_take, if_pos hi] at hx
    exact (hrow i x hx).1
  · obtain ⟨x, hx⟩ : ∃ x, hs[i]? = some x := ⟨_, List.getElem?_eq_getElem hi⟩
    have := hrow i x hx
    exact ⟨this.2, by show (w.cell? _).isSome = true; rw [this.1]; rfl⟩
theorem comp_all {w : World} {blk cap : Nat} {hs : List Hd} (hrow : RowH w blk hs) (hd : Ded (hs.map (·.z)) hs.length (hs.map (·.z))) (q : Nat) : CompGives w blk cap hs (.returned (.slice (some ⟨blk, 0, none⟩) hs.length cap)) (w.drewN q) :=
  ⟨hs, rfl, fun i h hi => (hrow i h hi).1, hd.inc, fun _ => Iff.rfl, fun _ h => h, grown_drewN (World.grownBy.refl w _) q, Nat.le_refl _⟩
theorem ded_all_succ {hs : List Hd} {k : Nat} (hs' : Srt (hs.map (·.z))) (hd : Ded (hs.map (·.z)) k ((hs.take k).map (·.z))) (hk : k < hs.length) (h1 : 1 ≤ k) {h p : Hd} (e1 : hs[k]? = some h) (e2 : hs[k - 1]? = some p) (he : ¬ h.z = p.z) : Ded (hs.map (·.z)) (k + 1) ((hs.take (k + 1)).map (·.z)) := by
  have := hd.keep hs' (by simpa using hk) (by omega) (by rw [getD_map e1, getD_map e2]; exact he)
  have e : hs.take (k + 1) = hs.take k ++ [h] := by rw [List.take_add_one, e1]; rfl
  rw [e, List.map_append]
  rw [getD_map e1] at this
  exact this
theorem callEqual (args : Array Value) (W : World) : (callFunc 19 args).run Try.prog W = .ok (.enter 19 args) W := by
  go_simp
theorem zeroInts (w : World) : (zeroValue 22).run Try.prog w = .ok (.slice none 0 0) w := by kernel_rfl

set_option maxHeartbeats 4000000 in
set_option maxRecDepth 100000 in
theorem comp_any (blk cap : Nat) (hs : List Hd) (w : World) (hrow : RowH w blk hs) (hg : ∀ h ∈ hs, Good w blk h) (hsrt : Srt (hs.map (·.z))) (hl : hs.length ≤ 100000) (hcap : hs.length ≤ cap) :
    Calls Try.prog 53 #[.slice (some ⟨blk, 0, none⟩) hs.length cap, .func (.func 19) #[] #[]] w (CompGives w blk cap hs) := by
  obtain ⟨N, hN⟩ : ∃ N, N = hs.length := ⟨_, rfl⟩
  have HE := Lib.hid (fun (x y : Hd) (hx : x ∈ hs) (hy : y ∈ hs) (W : World) (hW : w.grownBy W (some blk)) (q : Nat) => by
    have g1 := (hg x hx).keep (grown_drewN hW q)
    have g2 := (hg y hy).keep (grown_drewN hW q)
    exact wEqual_any x.A y.A _ _ x.c y.c _ _ x.z y.z (W.drewN q) g1.rd g2.rd rfl rfl (by have := g1.len; omega) (by have := g2.len; omega))
  have hall := Lib.hid (fun (h : Ded (hs.map (·.z)) hs.length (hs.map (·.z))) (q : Nat) => comp_all (cap := cap) hrow h q)
  have HS := Lib.hid hsrt
  have HR := Lib.hid hrow
  have HN := Lib.hid hN
  have hce := callEqual
  have hl2 : N ≤ 100000 := by omega
  have hcap1 : N ≤ cap := by omega
  rw [← hN]
  have h0 := Lib.hid (Ded.none (hs.map (·.z)))
  have h1d := Lib.hid (fun h : 0 < hs.length => Ded.one (ws := hs.map (·.z)) (by simpa using h))
  clear hg hsrt hrow hN hl hcap
  by_cases h2 : N < 2
  · go_enter Try.func53, Try.ntmps53
    go_wp2_with fail
    go_ret
    rw [HN.out]
    refine hall.out ?_ 0
    have hn := HN.out
    rcases Nat.eq_zero_or_pos N with hz | hz
    · have : hs = [] := List.eq_nil_of_length_eq_zero (by omega)
      subst this
      exact h0.out
    · have hp := h1d.out (by omega)
      have e : hs.map (·.z) = [(hs.map (·.z)).getD 0 []] := by
        match hs, hn with
        | [x], _ => rfl
        | [], h => simp at h; omega
        | _ :: _ :: _, h => simp at h; omega
      rw [← e, show (1 : Nat) = hs.length by omega] at hp
      exact hp
  · go_enter Try.func53, Try.ntmps53
    go_wp2_with fail
    go_loopg [5] N (fun g s5 wr => ∃ k : Nat, 1 ≤ k ∧ k ≤ N ∧ N - k ≤ g ∧ s5 = .int .i64 k ∧ Hid (∃ q, wr = w.drewN q) ∧ Hid (Ded (hs.map (·.z)) k ((hs.take k).map (·.z))))
    case atStart =>
      refine ⟨1, Nat.le_refl _, by omega, by omega, rfl, ⟨0, rfl⟩, ?_⟩
      have hp := h1d.out (by have := HN.out; omega)
      have hn := HN.out
      match hs, hn with
      | x :: r, _ => simpa [Hid] using hp
      | [], h => simp at h; omega
    case round =>
      obtain ⟨k, hk1, hk, hgk, rfl, HQ, hd⟩ := hrel
      by_cases hlt : k < N
      · obtain ⟨h, e1⟩ : ∃ h, hs[k]? = some h := ⟨_, List.getElem?_eq_getElem (by have := HN.out; omega)⟩
        obtain ⟨p, e2⟩ : ∃ p, hs[k - 1]? = some p := ⟨_, List.getElem?_eq_getElem (by have := HN.out; omega)⟩
        have c1 : wr.cell? ⟨blk, k, none⟩ = some (.slice h.A h.z.length h.c) := by obtain ⟨q, e⟩ := HQ.out; rw [e]; exact (HR.out k h e1).1
        have c0 : wr.cell? ⟨blk, k - 1, none⟩ = some (.slice p.A p.z.length p.c) := by obtain ⟨q, e⟩ := HQ.out; rw [e]; exact (HR.out (k - 1) p e2).1
        have C := Lib.hid (fun q => HE.out h p (List.mem_of_getElem? e1) (List.mem_of_getElem? e2) wr (by obtain ⟨q, e⟩ := HQ.out; rw [e]; exact grown_drewN (World.grownBy.refl w _) q) q)
        have E1 := Lib.hid e1
        have E2 := Lib.hid e2
        clear e1 e2
        have k0 : (0 : Int) ≤ (k : Int) - 1 := by omega
        have k1 : (k : Int) - 1 < (N : Int) := by omega
        have k4 : (k : Int) < (N : Int) := by omega
        have k2 : IntKind.i64.wrap ((k : Int) - 1) = (k : Int) - 1 := IntWalk.i64_in _ (by omega)
        have k3 : ((k : Int) - 1).toNat = k - 1 := by omega
        by_cases hdup : h.z = p.z
        · have hd1 : decide (h.z = p.z) = true := by simp [hdup]
          rw [hd1] at C
          have HD := Lib.hid hdup
          have HST := Lib.hid (fun q => cmp_start HR.out hd.out (by have := HN.out; omega) hk1 E1.out E2.out hdup q)
          clear hdup hd1
          generalize h.z.length = n1 at *
          generalize p.z.length = n2 at *
          have hck : ¬ cap = k := by omega
          obtain ⟨wo, rfl⟩ : ∃ wo : World, wo = wr := ⟨_, rfl⟩
          go_wp2_with fail
          go_quiet ((go_at_call 19; with_reducible exact Calls.quiet_of (C.out _)))
          clear k2 k3 k0 k1 c1 c0
          go_wp2_with fail
          go_loopg [5, 7] N (fun g s5 s7 wr => ∃ (kk k2 : Nat) (out : List Hd), s5 = .int .i64 kk ∧ s7 = .int .i64 k2 ∧ 1 ≤ k2 ∧ k + k2 ≤ N ∧ N - (k + k2) ≤ g ∧ kk < k + k2 ∧ Hid (kk = out.length) ∧ Hid (Cmp w wr blk hs out (k + k2)))
          case atStart => exact ⟨k, 1, hs.take k, rfl, rfl, Nat.le_refl _, by omega, by omega, by omega, by rw [Hid, List.length_take]; have := HN.out; omega, by obtain ⟨q, e⟩ := HQ.out; subst e; simp only [World.drewN_drewN]; exact HST.out _⟩
          case round =>
            obtain ⟨kk, k2, out, rfl, rfl, h1k, hle, hg2, hkk, hko, hcm⟩ := hrel
            by_cases hlt2 : k + k2 < N
            · obtain ⟨u, e1⟩ : ∃ u, hs[k + k2]? = some u := ⟨_, List.getElem?_eq_getElem (by have := HN.out; omega)⟩
              obtain ⟨v, e2⟩ : ∃ v, hs[k + k2 - 1]? = some v := ⟨_, List.getElem?_eq_getElem (by have := HN.out; omega)⟩
              have cu : wr.cell? ⟨blk, k + k2, none⟩ = some (.slice u.A u.z.length u.c) := hcm.out.hi _ u (by omega) e1
              have cv : wr.cell? ⟨blk, k + (k2 - 1), none⟩ = some (.slice v.A v.z.length v.c) := by
                have := hcm.out.hi _ v (by omega) e2
                rwa [show k + k2 - 1 = k + (k2 - 1) by omega] at this
              obtain ⟨old, ck⟩ : ∃ old, wr.cell? ⟨blk, kk, none⟩ = some old := Option.isSome_iff_exists.1 (hcm.out.fr kk (by have := HN.out; omega)).2
              have fk := (hcm.out.fr kk (by have := HN.out; omega)).1
              have C2 := Lib.hid (fun q => HE.out u v (List.mem_of_getElem? e1) (List.mem_of_getElem? e2) wr hcm.out.gr q)
              have F1 := Lib.hid e1
              have F2 := Lib.hid e2
              clear e1 e2
              have k0 : (0 : Int) ≤ (k2 : Int) - 1 := by omega
              have k1 : (k2 : Int) - 1 < ((N - k : Nat) : Int) := by omega
              have k4 : (k2 : Int) < ((N - k : Nat) : Int) := by omega
              have k5 : (kk : Int) < (N : Int) := by omega
              have k6 : IntKind.i64.wrap ((k2 : Int) - 1) = (k2 : Int) - 1 := IntWalk.i64_in _ (by omega)
              have k3 : ((k2 : Int) - 1).toNat = k2 - 1 := by omega
              by_cases hdup2 : u.z = v.z
              · have hd1 : decide (u.z = v.z) = true := by simp [hdup2]
                rw [hd1] at C2
                have HD2 := Lib.hid (hcm.out.skip (by have := HN.out; omega) (by omega) F1.out F2.out hdup2)
                clear hdup2 hd1
                generalize u.z.length = m1 at *
                generalize v.z.length = m2 at *
                go_wp2_with fail
                go_quiet ((go_at_call 19; with_reducible exact Calls.quiet_of (C2.out _)))
                clear k6 k3
                go_wp2_with fail
                go_roundg (N - (k + (k2 + 1)))
                case measure => omega
                case rel => exact ⟨kk, k2 + 1, out, rfl, by go_num, by omega, by omega, Nat.le_refl _, by omega, hko, HD2.out.draws _⟩
              · have hd1 : decide (u.z = v.z) = false := by simp [hdup2]
                rw [hd1] at C2
                have HD2 := Lib.hid (fun q => (hcm.out.draws q).keep HS.out (by have := HN.out; omega) (by omega) F1.out F2.out hdup2 hko.out)
                have hen : u.enc = .slice u.A u.z.length u.c := rfl
                rw [hen] at HD2
                have hko2 := Lib.hid (show kk + 1 = (out ++ [u]).length by simp; exact hko.out)
                clear hdup2 hd1 hen
                generalize u.z.length = m1 at *
                generalize v.z.length = m2 at *
                go_wp2_with fail
                go_quiet ((go_at_call 19; with_reducible exact Calls.quiet_of (C2.out _)))
                clear k6 k3
                go_wp2_with fail
                go_roundg (N - (k + (k2 + 1)))
                case measure => omega
                case rel => exact ⟨kk + 1, k2 + 1, out ++ [u], by go_num, by go_num, by omega, by omega, Nat.le_refl _, by omega, hko2, HD2.out _⟩
            · have hend : k + k2 = N := by omega
              have hcl : ∀ ty, (Builtin.clear_ #[37] ty #[.slice (some ⟨blk, kk, none⟩) (N - kk) (cap - kk)]).run Try.prog wr = .ok (.tuple #[]) (wr.setCells blk kk (List.replicate (N - kk) (.slice none 0 0))) := fun ty =>
                Lib.run_clear_slice wr _ _ ty _ Try.underlying37 zeroInts rfl rfl blk kk _ _ (by omega) (fun j hj => (hcm.out.fr (kk + j) (by have := HN.out; omega)).2) (fun j hj => (hcm.out.fr (kk + j) (by have := HN.out; omega)).1)
              have HF := Lib.hid (by have := hcm.out; rw [hend, HN.out] at this; exact comp_end (cap := cap) this (N - kk) kk hko.out)
              have hck2 : ¬ cap = kk := by omega
              have hkn : kk ≤ N := by omega
              clear hend
              go_wp2_with fail
              go_ret
              exact HF.out
        · have hd1 : decide (h.z = p.z) = false := by simp [hdup]
          rw [hd1] at C
          have HD := Lib.hid (ded_all_succ HS.out hd.out (by have := HN.out; omega) hk1 E1.out E2.out hdup)
          clear hdup hd1
          generalize h.z.length = n1 at *
          generalize p.z.length = n2 at *
          go_wp2_with fail
          go_quiet ((go_at_call 19; with_reducible exact Calls.quiet_of (C.out _)))
          clear k2 k3
          go_wp2_with fail
          go_roundg (N - (k + 1))
          case measure => omega
          case rel => exact ⟨k + 1, by omega, by omega, Nat.le_refl _, by go_num, (by obtain ⟨q, e⟩ := HQ.out; subst e; exact ⟨_, World.drewN_drewN _ _ _⟩ : ∃ q, _ = w.drewN q), HD⟩
      · have hkn : k = hs.length := by have := HN.out; omega
        have hf := hd.out
        rw [hkn, List.take_of_length_le (Nat.le_refl _)] at hf
        have HF := Lib.hid (fun q => hall.out hf q)
        clear hkn hf
        go_wp2_with fail
        go_ret
        obtain ⟨q, e⟩ := HQ.out
        subst e
        rw [HN.out]
        exact HF.out q
end Go.Proofs.Ytdccmebkoibkhaa
