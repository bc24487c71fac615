/- The walk of WordConcats. -/
import Derived.Test.YtdccmebkoibkhaaWknown
import Derived.Test.YtdccmebkoibkhaaWconcat
import Derived.Test.YtdccmebkoibkhaaOpenA
namespace Go.Proofs.Ytdccmebkoibkhaa
open Go.RowKit

/-- An array of three slices that lies in a block B of its own. -/
structure Arr3 (w W : World) (s0 s1 s2 : Value) : Prop where
  c0 : W.cell? ⟨w.heap.size, 0, none⟩ = some s0
  c1 : W.cell? ⟨w.heap.size, 1, none⟩ = some s1
  c2 : W.cell? ⟨w.heap.size, 2, none⟩ = some s2
  below : Below w.heap.size w W
  size : w.heap.size + 1 ≤ W.heap.size
theorem Arr3.start (w W : World) (s0 s1 s2 : Value) (t : TypeId) (hb : Below (w.alloc (.cells #[s0, s1, s2] t)).heap.size (w.alloc (.cells #[s0, s1, s2] t)) W) : Arr3 w W s0 s1 s2 := by
  have h : ∀ o, W.cell? ⟨w.heap.size, o, none⟩ = (w.alloc (.cells #[s0, s1, s2] t)).cell? ⟨w.heap.size, o, none⟩ := fun o => hb.cell (by simp)
  refine ⟨?_, ?_, ?_, ((Below.refl w.heap.size w).alloc (Nat.le_refl _) _).trans (hb.mono (by simp)), by have := hb.size; simp at this; exact this⟩
  all_goals rw [h, World.cell?_alloc_at _ _ _ _ rfl]; rfl
theorem Arr3.step {w W W' : World} {s0 s1 s2 : Value} {B : Nat} (h : Arr3 w W s0 s1 s2) (hb : Below B W W') (hB : w.heap.size + 1 ≤ B) : Arr3 w W' s0 s1 s2 := by
  have hc : ∀ o, W'.cell? ⟨w.heap.size, o, none⟩ = W.cell? ⟨w.heap.size, o, none⟩ := fun o => hb.cell (by simp; omega)
  exact ⟨(hc 0).trans h.c0, (hc 1).trans h.c1, (hc 2).trans h.c2, h.below.trans (hb.mono (by omega)), Nat.le_trans h.size hb.size⟩
theorem arr3_get {w : World} {s0 s1 s2 : Value} {A0 A1 A2 : Option Addr} {n0 c0 n1 c1 n2 c2 : Nat} {z0 z1 z2 : List Int} (h0 : SlI w s0 A0 n0 c0 z0) (h1 : SlI w s1 A1 n1 c1 z1) (h2 : SlI w s2 A2 n2 c2 z2) (b0 : n0 ≤ 20) (b1 : n1 ≤ 20) (b2 : n2 ≤ 20) (k : Nat) (hk : k < 3) :
    ∃ A n c z, (∀ W, Arr3 w W s0 s1 s2 → W.cell? ⟨w.heap.size, k, none⟩ = some (.slice A n c)) ∧ (∀ W, Below w.heap.size w W → RdI W W.heap.size A z) ∧ z.length = n ∧ n ≤ 20 ∧ z = [z0, z1, z2].getD k [] := by
  have up : ∀ {A : Option Addr} {z : List Int}, RdI w w.heap.size A z → ∀ W, Below w.heap.size w W → RdI W W.heap.size A z := fun h W hW => (h.below hW (Nat.le_refl _)).more hW.size
  match k, hk with
  | 0, _ => exact ⟨A0, n0, c0, z0, fun W h => by rw [h.c0, h0.eq], up h0.rd, h0.len, b0, rfl⟩
  | 1, _ => exact ⟨A1, n1, c1, z1, fun W h => by rw [h.c1, h1.eq], up h1.rd, h1.len, b1, rfl⟩
  | 2, _ => exact ⟨A2, n2, c2, z2, fun W h => by rw [h.c2, h2.eq], up h2.rd, h2.len, b2, rfl⟩
theorem lit3 {w W : World} {s0 s1 s2 : Value} {A0 A1 A2 : Option Addr} {n0 c0 n1 c1 n2 c2 : Nat} {z0 z1 z2 : List Int} (h : Below w.heap.size w W) (h0 : SlI w s0 A0 n0 c0 z0) (h1 : SlI w s1 A1 n1 c1 z1) (h2 : SlI w s2 A2 n2 c2 z2) (t : TypeId) :
    RdL (W.alloc (.cells #[s0, s1, s2] t)) (W.alloc (.cells #[s0, s1, s2] t)).heap.size (some ⟨W.heap.size, 0, none⟩) [z0, z1, z2] := fun _ => by
  have hs := h.size
  have hb : Below w.heap.size w (W.alloc (.cells #[s0, s1, s2] t)) := h.alloc hs _
  refine ⟨W.heap.size, 0, rfl, by simp, fun j hj => ?_⟩
  have hc : ∀ o, (W.alloc (.cells #[s0, s1, s2] t)).cell? ⟨W.heap.size, o, none⟩ = (#[s0, s1, s2] : Array Value)[o]? := fun o => by rw [World.cell?_alloc_at _ _ _ _ rfl]
  match j, hj with
  | 0, _ => exact ⟨A0, c0, by rw [hc, h0.eq]; simp [h0.len], (h0.rd.below hb (Nat.le_refl _)).more (by simp; omega), by simpa [h0.len] using h0.cap, h0.top⟩
  | 1, _ => exact ⟨A1, c1, by rw [hc, h1.eq]; simp [h1.len], (h1.rd.below hb (Nat.le_refl _)).more (by simp; omega), by simpa [h1.len] using h1.cap, h1.top⟩
  | 2, _ => exact ⟨A2, c2, by rw [hc, h2.eq]; simp [h2.len], (h2.rd.below hb (Nat.le_refl _)).more (by simp; omega), by simpa [h2.len] using h2.cap, h2.top⟩

/-- Two lists of the call's own in blocks that are not the same. -/
def Dj (a b : Value) : Prop := ∀ k, a.ownBlock = some k → b.ownBlock = some k → False
theorem Dj.row {a b : Value} (h : Dj a b) : b.ownBlock = none ∨ b.ownBlock ≠ a.ownBlock := by
  cases hb : b.ownBlock with
  | none => exact .inl rfl
  | some k => exact .inr fun e => h k e.symm hb
theorem Dj.symm {a b : Value} (h : Dj a b) : Dj b a := fun k h1 h2 => h k h2 h1
theorem Dj.left {a b a' : Value} {h : Nat} (hd : Dj a b) (ha : a'.ownBlock = a.ownBlock ∨ a'.ownBlock = some h) (hb : ∀ k, b.ownBlock = some k → k < h) : Dj a' b := fun k h1 h2 => by
  rcases ha with ha | ha
  · exact hd k (ha ▸ h1) h2
  · have := hb k h2
    rw [ha] at h1
    injection h1 with h1
    omega

set_option maxHeartbeats 8000000 in
set_option maxRecDepth 100000 in
theorem lawConcats (s0 s1 s2 : Value) (A0 A1 A2 : Option Addr) (n0 c0 n1 c1 n2 c2 : Nat) (z0 z1 z2 : List Int) (x : Int) (w : World) (h0 : SlI w s0 A0 n0 c0 z0) (h1 : SlI w s1 A1 n1 c1 z1) (h2 : SlI w s2 A2 n2 c2 z2) (x0 : 0 ≤ x) (x1 : x < 256) :
    Calls Try.prog 5 #[.agg #[s0, s1, s2], .int .u8 x] w fun e w' => e = .returned (.bool true) ∧ Below w.heap.size w w' := by
  have HK := Lib.hid known_any
  have H0 := Lib.hid h0
  have H1 := Lib.hid h1
  have H2 := Lib.hid h2
  obtain rfl := h0.eq
  obtain rfl := h1.eq
  obtain rfl := h2.eq
  clear h0 h1 h2
  by_cases hg : 20 < n0
  · have hi : (20 : Int) < (n0 : Int) := by omega
    go_enter Try.func5, Try.ntmps5
    go_wp2_with fail
    refine (HK.out _).mono ?_
    rintro e w1 ⟨rfl, hb1⟩
    have hA := Arr3.start _ _ _ _ _ _ hb1
    have g0 := hA.c0
    have HB1 := Lib.hid hA
    clear hb1 hA
    go_wp2_with fail
    refine (HK.out _).mono ?_
    rintro e w2 ⟨rfl, hb2⟩
    have HB2 := Lib.hid (HB1.out.below.trans (hb2.mono HB1.out.below.size))
    clear hb2
    go_wp2_with fail
    go_ret
    exact ⟨rfl, HB2.out⟩
  by_cases hg1 : 20 < n1
  · have hi : (20 : Int) < (n1 : Int) := by omega
    have hi0 : ¬ (20 : Int) < (n0 : Int) := by omega
    go_enter Try.func5, Try.ntmps5
    go_wp2_with fail
    refine (HK.out _).mono ?_
    rintro e w1 ⟨rfl, hb1⟩
    have hA := Arr3.start _ _ _ _ _ _ hb1
    have g0 := hA.c0
    have g1 := hA.c1
    have HB1 := Lib.hid hA
    clear hb1 hA
    go_wp2_with fail
    refine (HK.out _).mono ?_
    rintro e w2 ⟨rfl, hb2⟩
    have HB2 := Lib.hid (HB1.out.below.trans (hb2.mono HB1.out.below.size))
    clear hb2
    go_wp2_with fail
    go_ret
    exact ⟨rfl, HB2.out⟩
  by_cases hg2 : 20 < n2
  · have hi : (20 : Int) < (n2 : Int) := by omega
    have hi0 : ¬ (20 : Int) < (n0 : Int) := by omega
    have hi1 : ¬ (20 : Int) < (n1 : Int) := by omega
    go_enter Try.func5, Try.ntmps5
    go_wp2_with fail
    refine (HK.out _).mono ?_
    rintro e w1 ⟨rfl, hb1⟩
    have hA := Arr3.start _ _ _ _ _ _ hb1
    have g0 := hA.c0
    have g1 := hA.c1
    have g2 := hA.c2
    have HB1 := Lib.hid hA
    clear hb1 hA
    go_wp2_with fail
    refine (HK.out _).mono ?_
    rintro e w2 ⟨rfl, hb2⟩
    have HB2 := Lib.hid (HB1.out.below.trans (hb2.mono HB1.out.below.size))
    clear hb2
    go_wp2_with fail
    go_ret
    exact ⟨rfl, HB2.out⟩
  have hi0 : ¬ (20 : Int) < (n0 : Int) := by omega
  have hi1 : ¬ (20 : Int) < (n1 : Int) := by omega
  have hi2 : ¬ (20 : Int) < (n2 : Int) := by omega
  have b0 : n0 ≤ 20 := by omega
  have b1 : n1 ≤ 20 := by omega
  have b2 : n2 ≤ 20 := by omega
  clear hg hg1 hg2
  have CS := Lib.hid (fun (W : World) => lset_any x W x0 x1)
  obtain ⟨ss, hss⟩ : ∃ ss, ss = setZ x := ⟨_, rfl⟩
  have HU := Lib.hid (show Up ss by rw [hss]; exact up_setZ x)
  have hsl : ss.length ≤ 5 := by rw [hss]; exact setN_len x 5
  rw [← hss] at CS
  obtain ⟨m, hm⟩ : ∃ m, m = ss.length := ⟨_, rfl⟩
  have HM := Lib.hid hm.symm
  rw [← hm] at hsl
  have HL0 := Lib.hid H0.out.len
  have HL1 := Lib.hid H1.out.len
  have HL2 := Lib.hid H2.out.len
  obtain ⟨zs, hzs⟩ : ∃ zs, zs = [z0, z1, z2] := ⟨_, rfl⟩
  obtain ⟨zp, hzp⟩ : ∃ zp, zp = zs.map fun z => z.filter fun y => decide (y ∈ ss) := ⟨_, rfl⟩
  have HZ := Lib.hid hzs
  have HZP := Lib.hid hzp
  have hlz : zs.length = 3 := by rw [hzs]; rfl
  have hlp : zp.length = 3 := by rw [hzp, List.length_map]; exact hlz
  have HFL := Lib.hid (show ∀ z ∈ zs, z.length ≤ 1000 by
    have h0 := HL0.out
    have h1 := HL1.out
    have h2 := HL2.out
    rw [hzs]; intro z hz
    simp at hz
    rcases hz with rfl | rfl | rfl <;> omega)
  have HFP := Lib.hid (show ∀ z ∈ zp, z.length ≤ 1000 by
    rw [hzp]; intro z hz
    obtain ⟨y, hy, rfl⟩ := List.mem_map.1 hz
    exact Nat.le_trans (List.length_filter_le _ _) (HFL.out y hy))
  have HLZ := Lib.hid hlz
  have HLP := Lib.hid hlp
  clear hss hm hzs hzp hlz hlp
  go_enter Try.func5, Try.ntmps5
  go_wp2_with fail
  refine (HK.out _).mono ?_
  rintro e w1 ⟨rfl, hb1⟩
  have HA1 := Lib.hid (Arr3.start _ _ _ _ _ _ hb1)
  have g0 := HA1.out.c0
  have g1 := HA1.out.c1
  have g2 := HA1.out.c2
  clear hb1
  go_wp2_with fail
  refine (CS.out _).mono ?_
  rintro e w2 ⟨C, c, rfl, hr, hb, _, _⟩
  have HA2 := Lib.hid (HA1.out.step hb HA1.out.size)
  have HRS := Lib.hid hr
  have hsz2 := HA2.out.size
  clear hb hr g0 g1 g2
  rw [HM.out]
  go_wp2_with fail
  go_loopw [6, 7, 8] (fun va vp i wr => ∃ k : Nat, k ≤ 3 ∧ i = .int .i64 k ∧ Hid (Own wr w2.heap.size va (zs.take k).flatten) ∧ Hid (Own wr w2.heap.size vp (zp.take k).flatten) ∧ Hid (Dj va vp) ∧ Below w2.heap.size w2 wr) (fun _ _ i _ => 3 - (intOf i).toNat)
  case atStart => exact ⟨0, Nat.zero_le _, rfl, World.ownsRow_nil _ _ _ _, World.ownsRow_nil _ _ _ _, fun b h => (by cases h), Below.refl _ _⟩
  case round =>
    obtain ⟨k, hk, rfl, ho, hp, hd, hnx⟩ := hrel
    have hws := hnx.size
    by_cases hlt : k < 3
    · have k1 : (k : Int) < 3 := by omega
      obtain ⟨A, n, d, z, hc, hr, hl, hn, hz⟩ := arr3_get H0.out H1.out H2.out b0 b1 b2 k hlt
      have HL := Lib.hid hl
      have HC := Lib.hid hc
      have HR := Lib.hid hr
      have HAr := Lib.hid (HA2.out.step hnx hsz2)
      have hcell := hc wr HAr.out
      have hf := flat_le (k := k) HFL.out (by have := HLZ.out; omega)
      have hfp := flat_le (k := k) HFP.out (by have := HLP.out; omega)
      have HE := Lib.hid (show (zs.take (k + 1)).flatten = (zs.take k).flatten ++ z by rw [flat_succ (by have := HLZ.out; omega), hz, HZ.out])
      have HEP := Lib.hid (show (zp.take (k + 1)).flatten = (zp.take k).flatten ++ z.filter (fun y => decide (y ∈ ss)) by
        rw [flat_succ (by have := HLP.out; omega), hz, HZP.out, HZ.out]
        congr 1
        match k, hlt with
        | 0, _ => rfl
        | 1, _ => rfl
        | 2, _ => rfl)
      have HRS1 := Lib.hid ((HRS.out.below hnx (Nat.le_refl _)).more hws)
      clear hc hl hr hz
      go_wp2_with (at_builtin; refine wpList_app_at rfl (.tmp 36) (.tmp 39) rfl w2.heap.size _ _ rfl ho.out wr.heap.size A n d z rfl (HR.out wr HAr.out.below) HL.out (by omega) hws ?_)
      intro va' w3 hown hgrow hblk
      have HO3 := Lib.hid (show Own w3 w2.heap.size va' (zs.take (k + 1)).flatten by rw [HE.out]; exact hown)
      have HP3 := Lib.hid (show Own w3 w2.heap.size u7 (zp.take k).flatten from World.ownsRow.kept hp.out hgrow hd.out.row)
      have HB3 := Lib.hid (hnx.grown hgrow hws (fun j hj => (ho.out.lt j hj).1))
      have HD3 := Lib.hid (hd.out.left hblk (fun j hj => (hp.out.lt j hj).2))
      have hws3 := HB3.out.size
      have HA3 := Lib.hid (HA2.out.step HB3.out hsz2)
      have hcell3 := HC.out w3 HA3.out
      have HRS3 := Lib.hid ((HRS.out.below HB3.out (Nat.le_refl _)).more hws3)
      clear hown hgrow hblk hcell
      go_wp2_with fail
      refine (wProject_any A C n d m c z ss w3 (HR.out w3 HA3.out.below) HRS3.out HL.out HM.out (by omega) (by omega) HU.out).mono ?_
      rintro e w4 ⟨D, dd, rfl, hrD, hbD, _, _⟩
      have HO4 := Lib.hid (own_kept HO3.out hbD)
      have HP4 := Lib.hid (own_kept HP3.out hbD)
      have HB4 := Lib.hid (HB3.out.trans (hbD.mono hws3))
      have HRD := Lib.hid hrD
      have hws4 := HB4.out.size
      obtain ⟨zf, hzf⟩ : ∃ zf, zf = z.filter (fun y => decide (y ∈ ss)) := ⟨_, rfl⟩
      have hlf : zf.length ≤ 20 := by rw [hzf]; exact Nat.le_trans (List.length_filter_le _ _) (by have := HL.out; omega)
      rw [← hzf] at HRD HEP
      rw [← hzf]
      obtain ⟨nf, hnf⟩ : ∃ nf, nf = zf.length := ⟨_, rfl⟩
      have HNF := Lib.hid hnf.symm
      rw [← hnf] at hlf
      rw [← hnf]
      clear hrD hbD hcell3 hzf hnf
      go_wp2_with (at_builtin; refine wpList_app_at rfl (.tmp 41) (.tmp 46) rfl w2.heap.size _ _ rfl HP4.out w4.heap.size D nf dd zf rfl HRD.out HNF.out (by omega) hws4 ?_)
      intro vp' w5 hown hgrow hblk
      have HP5 := Lib.hid (show Own w5 w2.heap.size vp' (zp.take (k + 1)).flatten by rw [HEP.out]; exact hown)
      have HO5 := Lib.hid (show Own w5 w2.heap.size va' (zs.take (k + 1)).flatten from World.ownsRow.kept HO4.out hgrow HD3.out.symm.row)
      have HB5 := Lib.hid (HB4.out.grown hgrow hws4 (fun j hj => (HP4.out.lt j hj).1))
      have HD5 := Lib.hid (HD3.out.symm.left hblk (fun j hj => (HO4.out.lt j hj).2)).symm
      clear hown hgrow hblk
      go_wp2_with fail
      go_roundw
      case rel => exact ⟨k + 1, by omega, by go_num, HO5, HP5, HD5, HB5.out⟩
      case measure => simp [intOf]; omega
    · have k1 : ¬ (k : Int) < 3 := by omega
      obtain rfl : k = 3 := by omega
      have HAr := Lib.hid (HA2.out.step hnx hsz2)
      have g0 := HAr.out.c0
      have g1 := HAr.out.c1
      have g2 := HAr.out.c2
      obtain ⟨Aa, ca, rfl, hra, _, _⟩ := own_rdc ho.out
      obtain ⟨Ap, cp, rfl, hrp, _, _⟩ := own_rdc hp.out
      have hfl := flat_le (k := 3) HFL.out (by have := HLZ.out; omega)
      have hfp := flat_le (k := 3) HFP.out (by have := HLP.out; omega)
      rw [List.take_of_length_le (by have := HLZ.out; omega)] at hra hfl ⊢
      rw [List.take_of_length_le (by have := HLP.out; omega)] at hrp hfp ⊢
      have hpe : zp.flatten = zs.flatten.filter (fun y => decide (y ∈ ss)) := by rw [HZP.out, List.filter_flatten]
      have HCC := Lib.hid (fun (t : TypeId) => concat_any (some ⟨wr.heap.size, 0, none⟩) 3 3 [z0, z1, z2] (wr.alloc (.cells #[.slice A0 n0 c0, .slice A1 n1 c1, .slice A2 n2 c2] t)) (lit3 HAr.out.below H0.out H1.out H2.out t) rfl (by omega) (by rw [← HZ.out]; exact HFL.out))
      have HC0 := Lib.hid (fun (W : World) => concat_any none 0 0 [] W (fun h => absurd h (by simp)) rfl (by omega) (by simp))
      rw [show ([z0, z1, z2] : List (List Int)) = zs from HZ.out.symm] at HCC
      have HRA := Lib.hid (fun (W : World) (h : Below wr.heap.size wr W) => (hra.below h (Nat.le_refl _)).more h.size)
      have HRP := Lib.hid (fun (W : World) (h : Below wr.heap.size wr W) => (hrp.below h (Nat.le_refl _)).more h.size)
      have HRT := Lib.hid (fun (W : World) (h : Below wr.heap.size wr W) => (HRS.out.below (hnx.trans (h.mono hws)) (Nat.le_refl _)).more (Nat.le_trans hws h.size))
      rw [hpe] at HRP hfp ⊢
      obtain ⟨F, hF⟩ : ∃ F, F = zs.flatten := ⟨_, rfl⟩
      rw [← hF] at HRA HRP HCC hfl hfp ⊢
      obtain ⟨G, hG⟩ : ∃ G, G = F.filter (fun y => decide (y ∈ ss)) := ⟨_, rfl⟩
      rw [← hG] at HRP hfp ⊢
      have HG := Lib.hid hG
      obtain ⟨nF, hnF⟩ : ∃ n, n = F.length := ⟨_, rfl⟩
      obtain ⟨nG, hnG⟩ : ∃ n, n = G.length := ⟨_, rfl⟩
      rw [← hnF] at hfl
      rw [← hnG] at hfp
      rw [← hnF, ← hnG]
      have HNF := Lib.hid hnF.symm
      have HNG := Lib.hid hnG.symm
      have HHB := Lib.hid (HA2.out.below.trans (hnx.mono HA2.out.below.size))
      have hsw := HA2.out.below.size
      have hswr : w.heap.size ≤ wr.heap.size := by omega
      clear hra hrp hpe hF hG hnF hnG ho hp hd
      go_wp2_with fail
      refine (HCC.out _).mono ?_
      rintro e w6 ⟨D6, d6, rfl, hr6, hb6, _, _⟩
      have HB6 := Lib.hid (((Below.refl wr.heap.size wr).alloc (Nat.le_refl _) _).trans (hb6.mono (by simp)))
      have HR6 := Lib.hid hr6
      rw [HNF.out]
      clear hr6 hb6
      go_wp2_with fail
      refine (l2same_any D6 Aa nF nF d6 ca _ _ F F w6 HR6.out (HRA.out w6 HB6.out) HNF.out HNF.out (by omega) (by omega)).mono ?_
      rintro e w7 ⟨rfl, hq⟩
      have HB7 := Lib.hid (HB6.out.trans ((below_of_draws hq).mono (Nat.le_refl _)))
      rw [decide_eq_true (rfl : F = F)]
      clear hq
      go_wp2_with fail
      refine (HC0.out w7).mono ?_
      rintro e w8 ⟨D8, d8, rfl, _, hb, _, _⟩
      have HB8 := Lib.hid (HB7.out.trans (hb.mono HB7.out.size))
      clear hb
      rw [show (([] : List (List Int)).flatten.length) = 0 from rfl]
      go_wp2_with fail
      refine (wProject_any Aa C nF ca m c F ss w8 (HRA.out w8 HB8.out) (HRT.out w8 HB8.out) HNF.out HM.out (by omega) (by omega) HU.out).mono ?_
      rintro e w9 ⟨D9, d9, rfl, hr9, hb, _, _⟩
      have HB9 := Lib.hid (HB8.out.trans (hb.mono HB8.out.size))
      rw [← HG.out] at hr9
      have HR9 := Lib.hid hr9
      rw [← HG.out, HNG.out]
      clear hb hr9
      go_wp2_with fail
      refine (r2Project_any Aa C nF ca m c F ss w9 (HRA.out w9 HB9.out) (HRT.out w9 HB9.out) HNF.out HM.out (by omega) (by omega)).mono ?_
      rintro e w10 ⟨D10, d10, rfl, hr10, hb, _, _⟩
      have HB10 := Lib.hid (HB9.out.trans (hb.mono HB9.out.size))
      have HR9' := Lib.hid ((HR9.out.below hb (Nat.le_refl _)).more hb.size)
      rw [← HG.out] at hr10
      have HR10 := Lib.hid hr10
      rw [← HG.out, HNG.out]
      clear hb hr10
      go_wp2_with fail
      refine (l2same_any D9 D10 nG nG d9 d10 _ _ G G w10 HR9'.out HR10.out HNG.out HNG.out (by omega) (by omega)).mono ?_
      rintro e w11 ⟨rfl, hq⟩
      have HB11 := Lib.hid (HB10.out.trans ((below_of_draws hq).mono (Nat.le_refl _)))
      rw [decide_eq_true (rfl : G = G)]
      clear hq
      go_wp2_with fail
      refine (r2Project_any Aa C nF ca m c F ss w11 (HRA.out w11 HB11.out) (HRT.out w11 HB11.out) HNF.out HM.out (by omega) (by omega)).mono ?_
      rintro e w12 ⟨D12, d12, rfl, hr12, hb, _, _⟩
      have HB12 := Lib.hid (HB11.out.trans (hb.mono HB11.out.size))
      rw [← HG.out] at hr12
      have HR12 := Lib.hid hr12
      rw [← HG.out, HNG.out]
      clear hb hr12
      go_wp2_with fail
      refine (l2same_any Ap D12 nG nG cp d12 _ _ G G w12 (HRP.out w12 HB12.out) HR12.out HNG.out HNG.out (by omega) (by omega)).mono ?_
      rintro e w13 ⟨rfl, hq⟩
      have HB13 := Lib.hid (HB12.out.trans ((below_of_draws hq).mono (Nat.le_refl _)))
      rw [decide_eq_true (rfl : G = G)]
      clear hq
      go_wp2_with fail
      go_ret
      exact ⟨ret_bool (by simp), HHB.out.trans (HB13.out.mono hswr)⟩
theorem lawConcatsW (s0 s1 s2 : Value) (A0 A1 A2 : Option Addr) (n0 c0 n1 c1 n2 c2 : Nat) (z0 z1 z2 : List Int) (x : Int) (w : World) (h0 : SlI w s0 A0 n0 c0 z0) (h1 : SlI w s1 A1 n1 c1 z1) (h2 : SlI w s2 A2 n2 c2 z2) (hx : (Lit.int .u8 x).wf = true) :
    Calls Try.prog 5 #[.agg #[s0, s1, s2], .int .u8 x] w fun e w' => e = .returned (.bool true) ∧ Below w.heap.size w w' :=
  lawConcats s0 s1 s2 A0 A1 A2 n0 c0 n1 c1 n2 c2 z0 z1 z2 x w h0 h1 h2 (wf_u8 hx).1 (wf_u8 hx).2
end Go.Proofs.Ytdccmebkoibkhaa
