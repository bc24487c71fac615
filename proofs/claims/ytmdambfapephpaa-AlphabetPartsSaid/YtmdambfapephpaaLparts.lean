/- The walk of the law AlphabetParts. -/
import Derived.Test.YtmdambfapephpaaPartsMath
namespace Go.Proofs.Ytmdambfapephpaa
open Go.RowKit

theorem RdI.store {w : World} {B : Nat} {A : Option Addr} {zs : List Int} (h : RdI w B A zs) {p : Addr} {v : Value} {a : Option Addr} {n c : Nat} (hp : w.cell? p = some (.slice a n c)) : RdI (w.setCell p v) B A zs := fun h0 => by
  obtain ⟨b, off, e, hb, hc⟩ := h h0
  refine ⟨b, off, e, hb, fun j hj => ?_⟩
  rw [World.cell?_setCell_other, hc j hj]
  intro he
  rw [he, hc j hj] at hp
  cases hp

/-- The array's cells: slices; from 1 to before k they hold the lists. -/
def Arr (W : World) (b k : Nat) (L : Nat → List Int) : Prop :=
  ∃ f : Nat → Option Addr × Nat × Nat, b < W.heap.size ∧ (∀ j, j < 7 → W.cell? ⟨b, j, none⟩ = some (.slice (f j).1 (f j).2.1 (f j).2.2)) ∧ (∀ j, j < 7 → W.frozen? ⟨b, j, none⟩ = false) ∧
    ∀ j, 1 ≤ j → j < k → (f j).2.1 = (L j).length ∧ RdI W W.heap.size (f j).1 (L j) ∧ (L j).length ≤ (f j).2.2 ∧ (f j).2.2 ≤ 9223372036854775807
theorem Arr.below {W W' : World} {b k : Nat} {L : Nat → List Int} (h : Arr W b k L) (hb : Below W.heap.size W W') : Arr W' b k L := by
  obtain ⟨f, h1, h2, h3, h4⟩ := h
  exact ⟨f, Nat.lt_of_lt_of_le h1 hb.size, fun j hj => (hb.cell h1).trans (h2 j hj), fun j hj => (hb.frozen h1).trans (h3 j hj),
    fun j h5 h6 => ⟨(h4 j h5 h6).1, ((h4 j h5 h6).2.1.below hb (Nat.le_refl _)).more hb.size, (h4 j h5 h6).2.2⟩⟩
theorem Arr.store {W : World} {b k : Nat} {L : Nat → List Int} (h : Arr W b k L) (hk : k < 7) {A : Option Addr} {c : Nat} (hr : RdI W W.heap.size A (L k)) (hc : (L k).length ≤ c) (hc' : c ≤ 9223372036854775807) :
    Arr (W.setCell ⟨b, k, none⟩ (.slice A (L k).length c)) b (k + 1) L := by
  obtain ⟨f, h1, h2, h3, h4⟩ := h
  have hs : (W.setCell ⟨b, k, none⟩ (.slice A (L k).length c)).heap.size = W.heap.size := by simp
  refine ⟨fun j => if j = k then (A, (L k).length, c) else f j, by rw [hs]; exact h1, fun j hj => ?_, fun j hj => ?_, fun j h5 h6 => ?_⟩
  · by_cases e : j = k
    · subst e; rw [World.cell?_setCell_same _ _ _ (h2 j hj)]; simp only [if_pos]
    · rw [World.cell?_setCell_other _ _ _ _ (by intro he; cases he; exact e rfl), h2 j hj]; simp only [if_neg e]
  · rw [World.frozen?_setCell, h3 j hj]
  · rw [hs]
    by_cases e : j = k
    · subst e; exact ⟨by simp, by simpa using hr.store (h2 j hk), by simpa using hc, by simpa using hc'⟩
    · simp only [if_neg e]
      have := h4 j h5 (by omega)
      exact ⟨this.1, this.2.1.store (h2 k hk), this.2.2⟩
theorem Arr.cell {W : World} {b k : Nat} {L : Nat → List Int} (h : Arr W b k L) (j : Nat) (hj : j < 7) : ∃ A n c, W.cell? ⟨b, j, none⟩ = some (.slice A n c) := by
  obtain ⟨f, _, h2, _, _⟩ := h
  exact ⟨_, _, _, h2 j hj⟩
theorem Arr.frz {W : World} {b k : Nat} {L : Nat → List Int} (h : Arr W b k L) (j : Nat) (hj : j < 7) : W.frozen? ⟨b, j, none⟩ = false := by
  obtain ⟨f, _, _, h3, _⟩ := h
  exact h3 j hj
theorem Arr.lt {W : World} {b k : Nat} {L : Nat → List Int} (h : Arr W b k L) : b < W.heap.size := by
  obtain ⟨f, h1, _⟩ := h
  exact h1
theorem Arr.get {W : World} {b k : Nat} {L : Nat → List Int} (h : Arr W b k L) (j : Nat) (h0 : 1 ≤ j) (hj : j < k) (h7 : j < 7) :
    ∃ A c, W.cell? ⟨b, j, none⟩ = some (.slice A (L j).length c) ∧ RdI W W.heap.size A (L j) ∧ (L j).length ≤ c ∧ c ≤ 9223372036854775807 := by
  obtain ⟨f, _, h2, _, h4⟩ := h
  have := h4 j h0 hj
  exact ⟨(f j).1, (f j).2.2, by rw [h2 j h7, this.1], this.2⟩
theorem Arr.new (w : World) (cs : Array Value) (t : TypeId) (hcs : cs = #[.slice none 0 0, .slice none 0 0, .slice none 0 0, .slice none 0 0, .slice none 0 0, .slice none 0 0, .slice none 0 0]) (L : Nat → List Int) : Arr (w.alloc (.cells cs t)) w.heap.size 1 L := by
  subst hcs
  refine ⟨fun _ => (none, 0, 0), by simp, fun j hj => ?_, fun j hj => World.frozen?_alloc_new _ _ _ _, fun j h5 h6 => by omega⟩
  rw [World.cell?_alloc_at _ _ _ _ rfl]
  match j, hj with
  | 0, _ => rfl
  | 1, _ => rfl
  | 2, _ => rfl
  | 3, _ => rfl
  | 4, _ => rfl
  | 5, _ => rfl
  | 6, _ => rfl

theorem selC_ok (A : Option Addr) (n c : Nat) (l : List Ev) (k : Nat) (w : World) (hx : RdE w w.heap.size A l) (hn : l.length = n) (hb : n * 40 ≤ 140737488351232) (hs : ∀ x ∈ l, x.name.size ≤ maxLen) (hv : chE l = 0) (h1 : 1 ≤ k) (h2 : k ≤ 6) :
    Calls Try.prog 35 #[.slice A n c, .int .i64 k] w fun e w' => Gives2C w (wh (kindP k) l) 0 e w' := by
  have := aSelectC_any A n c l k w hx hn hb hs
  rwa [selZ, selE, if_neg (by simp [hv]), if_neg (by omega), if_neg (by simp [hv]), if_neg (by omega)] at this
theorem fltC_ok (A : Option Addr) (n c : Nat) (l : List Ev) (k : Nat) (w : World) (hx : RdE w w.heap.size A l) (hn : l.length = n) (hb : n * 40 ≤ 140737488351232) (hs : ∀ x ∈ l, x.name.size ≤ maxLen) (hv : chE l = 0) (h1 : 1 ≤ k) (h2 : k ≤ 4) :
    Calls Try.prog 37 #[.slice A n c, .int .i64 k] w fun e w' => Gives2C w (wh (isF k) l) 0 e w' := by
  have := aFaultsC_any A n c l k w hx hn hb hs
  rw [fltZ, fltE, if_neg (by simp [hv]), if_neg (by omega), if_neg (by simp [hv]), if_neg (by omega)] at this
  exact this
theorem wh_short (p : Ev → Bool) {l : List Ev} {m : Nat} (h : l.length ≤ m) : (wh p l).length ≤ m := by
  have := wh_le p l m
  rwa [List.take_of_length_le h] at this
theorem wh_up (p : Ev → Bool) (l : List Ev) : Up (wh p l) := up_of_pairwise (wh_inc p l)

/-- A list in memory, with the bounds of its slice. -/
def Ls (W : World) (A : Option Addr) (c : Nat) (zs : List Int) : Prop := RdI W W.heap.size A zs ∧ zs.length ≤ c ∧ c ≤ 9223372036854775807
theorem Ls.below {W W' : World} {A : Option Addr} {c : Nat} {zs : List Int} (h : Ls W A c zs) (hb : Below W.heap.size W W') : Ls W' A c zs := ⟨(h.1.below hb (Nat.le_refl _)).more hb.size, h.2⟩

theorem interNil (A Bd : Option Addr) (n c m d : Nat) (xs ys : List Int) (w : World) (hx : RdI w w.heap.size A xs) (hy : RdI w w.heap.size Bd ys) (hn : xs.length = n) (hm : ys.length = m) (hb : n ≤ 40) (hb' : m ≤ 40) (hup : Up ys) (hi : inter xs ys = []) :
    Calls Try.prog 28 #[.slice A n c, .slice Bd m d] w fun e w' => ∃ A' c', e = .returned (.slice A' 0 c') ∧ Below w.heap.size w w' := by
  refine (aIntersect_any A Bd n c m d xs ys w hx hy hn hm (by omega) (by omega) hup).mono ?_
  rintro e w' ⟨A', c', rfl, _, hbel⟩
  exact ⟨A', c', by rw [show (xs.filter fun x => decide (x ∈ ys)) = [] from hi]; rfl, hbel⟩
theorem unionIs (A C : Option Addr) (n c m d : Nat) (xs ys zs : List Int) (w : World) (hx : RdI w w.heap.size A xs) (hy : RdI w w.heap.size C ys) (hn : xs.length = n) (hm : ys.length = m) (hnc : n ≤ c) (hmd : m ≤ d) (hb : n ≤ 40) (hb' : m ≤ 40) (hcb : c ≤ 9223372036854775807) (hdb : d ≤ 9223372036854775807) (hu : un xs ys = zs) :
    Calls Try.prog 26 #[.slice A n c, .slice C m d] w fun e w' => GivesC w zs e w' := by
  have := aUnion_any A C n c m d xs ys w hx hy hn hm hnc hmd (by omega) (by omega) hcb hdb
  rwa [hu] at this
theorem unionLen (A C : Option Addr) (n c m d k : Nat) (xs ys : List Int) (w : World) (hx : RdI w w.heap.size A xs) (hy : RdI w w.heap.size C ys) (hn : xs.length = n) (hm : ys.length = m) (hnc : n ≤ c) (hmd : m ≤ d) (hb : n ≤ 40) (hb' : m ≤ 40) (hcb : c ≤ 9223372036854775807) (hdb : d ≤ 9223372036854775807) (hu : (un xs ys).length = k) :
    Calls Try.prog 26 #[.slice A n c, .slice C m d] w fun e w' => ∃ A' c', e = .returned (.slice A' k c') ∧ Below w.heap.size w w' := by
  refine (aUnion_any A C n c m d xs ys w hx hy hn hm hnc hmd (by omega) (by omega) hcb hdb).mono ?_
  rintro e w' ⟨A', c', rfl, _, hbel, _⟩
  exact ⟨A', c', by rw [hu], hbel⟩

set_option maxHeartbeats 3200000 in
theorem lawParts (A : Option Addr) (n c : Nat) (l : List Ev) (w : World) (hx : RdE w w.heap.size A l) (hn : l.length = n) (hf : ∀ x ∈ l, x.name.size ≤ maxLen ∧ (Lit.int .i64 x.fault).wf = true) :
    Calls Try.prog 11 #[.slice A n c] w fun e w' => e = .returned (.bool true) ∧ Below w.heap.size w w' := by
  have HK := Lib.hid known_any
  have HX := Lib.hid (fun w1 (h : Below w.heap.size w w1) => hx.below h (Nat.le_refl _))
  have H1 := Lib.hid (fun w1 (h : Below w.heap.size w w1) => few_any A n c w.heap.size l w1 (HX.out w1 h) hn)
  cases hfew : fewB l
  · clear hn hf
    go_enter Try.func11, Try.ntmps11
    go_wp2_with fail
    refine (HK.out _).mono ?_
    rintro e w1 ⟨rfl, hb1⟩
    go_wp2_with fail
    refine (H1.out _ hb1).mono ?_
    rintro e w2 ⟨rfl, rfl⟩
    go_wp2_with fail
    refine (HK.out _).mono ?_
    rintro e w2 ⟨rfl, hb2⟩
    go_wp2
    go_ret
    exact ⟨rfl, hb1.trans (hb2.mono hb1.size)⟩
  · obtain ⟨hl, hnm⟩ := few_out hfew
    have HC := Lib.hid (fun w1 (h : Below w.heap.size w w1) => aCheck_any A n c l w1 ((HX.out w1 h).more h.size) hn (by omega) (fun x hx => (hf x hx).1))
    obtain ⟨v, hv⟩ : ∃ v, chE l = v := ⟨_, rfl⟩
    rw [hv] at HC
    by_cases h0 : v = 0
    · subst h0
      have HS := Lib.hid (fun (k : Nat) w1 (h : Below w.heap.size w w1) (h1 : 1 ≤ k) (h2 : k ≤ 6) => selC_ok A n c l k w1 ((HX.out w1 h).more h.size) hn (by omega) (fun x hx => (hf x hx).1) hv h1 h2)
      have HF := Lib.hid (fun (k : Nat) w1 (h : Below w.heap.size w w1) (h1 : 1 ≤ k) (h2 : k ≤ 4) => fltC_ok A n c l k w1 ((HX.out w1 h).more h.size) hn (by omega) (fun x hx => (hf x hx).1) hv h1 h2)
      have HV := Lib.hid hv
      have HN := Lib.hid hn
      have hn40 : n ≤ 40 := by omega
      have HL := Lib.hid hl
      obtain ⟨L, hL⟩ : ∃ L : Nat → List Int, L = fun (j : Nat) => wh (kindP (j : Int)) l := ⟨_, rfl⟩
      have HLE := Lib.hid hL
      clear hn hf hl hnm hx hv hL
      go_enter Try.func11, Try.ntmps11
      go_wp2_with fail
      refine (HK.out _).mono ?_
      rintro e w1 ⟨rfl, hb1⟩
      go_wp2_with fail
      refine (H1.out _ hb1).mono ?_
      rintro e w2 ⟨rfl, rfl⟩
      go_wp2_with fail
      refine (HC.out _ hb1).mono ?_
      rintro e w2 ⟨rfl, hb2⟩
      have hb12 := hb1.trans (hb2.mono hb1.size)
      clear hb1 hb2
      go_wp2_with fail
      go_loopw [4] (fun i wr => ∃ k : Nat, 1 ≤ k ∧ k ≤ 7 ∧ i = .int .i64 k ∧ Hid (Arr wr w2.heap.size k L) ∧ Below w2.heap.size w2 wr) (fun i _ => 8 - (intOf i).toNat)
      case atStart => exact ⟨1, by omega, by omega, rfl, Arr.new _ _ _ rfl _, below_new _ _⟩
      case round =>
        obtain ⟨k, hk1, hk2, rfl, harr, hbel⟩ := hrel
        have hW := hb12.trans (hbel.mono hb12.size)
        by_cases hlt : k ≤ 6
        · go_wp2_with fail
          refine (HS.out k _ hW hk1 hlt).mono ?_
          rintro e w3 ⟨A3, c3, rfl, hr3, hb3, hc3, hc3'⟩
          have harr3 := Lib.hid (harr.out.below hb3)
          have hcell := harr3.out.cell k (by omega)
          obtain ⟨a0, n0, c0, hcell⟩ := hcell
          have hfrz := harr3.out.frz k (by omega)
          have hz3 := hb3.size
          have hlk : wh (kindP k) l = L k := by rw [HLE.out]
          rw [hlk] at hr3 hc3
          rw [hlk]
          have r1 := Lib.hid (harr3.out.store (by omega) hr3 hc3 hc3')
          have r2 := (hbel.trans (hb3.mono hbel.size)).setCell (p := ⟨w2.heap.size, k, none⟩) (Nat.le_refl _) (.slice A3 (L k).length c3)
          clear hlk hr3 hc3
          go_wp2
          go_roundw
          case rel => exact ⟨k + 1, by omega, by omega, by go_num, r1, r2⟩
          case measure => simp [intOf]; omega
        · have hk7 : k = 7 := by omega
          have harr7 := harr.out
          rw [hk7] at harr7
          clear hk7 hk1 hk2 harr
          obtain ⟨w4, hw4⟩ : ∃ w4, w4 = wr := ⟨_, rfl⟩
          subst hw4
          obtain ⟨A1, c1, g1, q1⟩ := harr7.get 1 (by omega) (by omega) (by omega)
          obtain ⟨A2, c2, g2, q2⟩ := harr7.get 2 (by omega) (by omega) (by omega)
          obtain ⟨A3, c3, g3, q3⟩ := harr7.get 3 (by omega) (by omega) (by omega)
          obtain ⟨A4, c4, g4, q4⟩ := harr7.get 4 (by omega) (by omega) (by omega)
          obtain ⟨A6, c6, g6, q6⟩ := harr7.get 6 (by omega) (by omega) (by omega)
          have hlt4 := harr7.lt
          have hlen : ∀ j, (L j).length ≤ 40 := fun j => by rw [HLE.out]; exact wh_short _ HL.out
          have hups : ∀ j, Up (L j) := fun j => by rw [HLE.out]; exact wh_up _ l
          have G1 := Lib.hid (fun W (h : Below w4.heap.size w4 W) => (h.cell hlt4).trans g1)
          have G2 := Lib.hid (fun W (h : Below w4.heap.size w4 W) => (h.cell hlt4).trans g2)
          have G3 := Lib.hid (fun W (h : Below w4.heap.size w4 W) => (h.cell hlt4).trans g3)
          have G4 := Lib.hid (fun W (h : Below w4.heap.size w4 W) => (h.cell hlt4).trans g4)
          have G6 := Lib.hid (fun W (h : Below w4.heap.size w4 W) => (h.cell hlt4).trans g6)
          have R1 := fun W (h : Below w4.heap.size w4 W) => (q1.1.below h (Nat.le_refl _)).more h.size
          have R2 := fun W (h : Below w4.heap.size w4 W) => (q2.1.below h (Nat.le_refl _)).more h.size
          have R3 := fun W (h : Below w4.heap.size w4 W) => (q3.1.below h (Nat.le_refl _)).more h.size
          have R4 := fun W (h : Below w4.heap.size w4 W) => (q4.1.below h (Nat.le_refl _)).more h.size
          have R6 := fun W (h : Below w4.heap.size w4 W) => (q6.1.below h (Nat.le_refl _)).more h.size
          have U12 := Lib.hid (fun W (h : Below w4.heap.size w4 W) => unionLen A1 A2 _ c1 _ c2 n (L 1) (L 2) W (R1 W h) (R2 W h) rfl rfl q1.2.1 q2.2.1 (hlen 1) (hlen 2) q1.2.2 q2.2.2 (by rw [HLE.out]; exact (un_compl _ _ l k12).trans HN.out))
          have U34 := Lib.hid (fun W (h : Below w4.heap.size w4 W) => unionLen A3 A4 _ c3 _ c4 n (L 3) (L 4) W (R3 W h) (R4 W h) rfl rfl q3.2.1 q4.2.1 (hlen 3) (hlen 4) q3.2.2 q4.2.2 (by rw [HLE.out]; exact (un_compl _ _ l k34).trans HN.out))
          have I12 := Lib.hid (fun W (h : Below w4.heap.size w4 W) => interNil A1 A2 _ c1 _ c2 (L 1) (L 2) W (R1 W h) (R2 W h) rfl rfl (hlen 1) (hlen 2) (hups 2) (by rw [HLE.out]; exact i12 l))
          have I34 := Lib.hid (fun W (h : Below w4.heap.size w4 W) => interNil A3 A4 _ c3 _ c4 (L 3) (L 4) W (R3 W h) (R4 W h) rfl rfl (hlen 3) (hlen 4) (hups 4) (by rw [HLE.out]; exact i34 l))
          have t62 : subB (L 6) (L 2) = true := by rw [HLE.out]; exact s62 HV.out
          have t64 : subB (L 6) (L 4) = true := by rw [HLE.out]; exact s64 HV.out
          have S62 := Lib.hid (fun W (h : Below w4.heap.size w4 W) => aSubset_any A6 A2 _ c6 _ c2 _ _ (L 6) (L 2) W (R6 W h) (R2 W h) rfl rfl (Nat.le_trans (hlen 6) (by omega)) (Nat.le_trans (hlen 2) (by omega)) (hups 2))
          have S64 := Lib.hid (fun W (h : Below w4.heap.size w4 W) => aSubset_any A6 A4 _ c6 _ c4 _ _ (L 6) (L 4) W (R6 W h) (R4 W h) rfl rfl (Nat.le_trans (hlen 6) (by omega)) (Nat.le_trans (hlen 4) (by omega)) (hups 4))
          rw [t62] at S62
          rw [t64] at S64
          have hl6 := hlen 6
          have hAll : wh (fa ((5 : Nat) : Int)) l = L 6 := by rw [HLE.out]; exact fa_five HV.out
          have HALL := Lib.hid hAll
          have R6' := Lib.hid R6
          clear hAll R1 R2 R3 R4 R6 q1 q2 q3 q4 q6 g1 g2 g3 g4 g6 hlen hups t62 t64 harr7
          go_wp2_with fail
          go_loopw [7, 8] (fun v i wr => ∃ k : Nat, 1 ≤ k ∧ k ≤ 5 ∧ i = .int .i64 k ∧ (∃ A c, v = .slice A (wh (fa k) l).length c ∧ Hid (Ls wr A c (wh (fa k) l))) ∧ Below w4.heap.size w4 wr) (fun _ i _ => 6 - (intOf i).toNat)
          case atStart => exact ⟨1, by omega, by omega, rfl, ⟨none, 0, by rw [show wh (fa ((1 : Nat) : Int)) l = [] from fa_one l]; rfl, by rw [show wh (fa ((1 : Nat) : Int)) l = [] from fa_one l]; exact ⟨RdI.nil _ _ _, by simp, by omega⟩⟩, Below.refl _ _⟩
          case round =>
            obtain ⟨k, hj1, hj2, rfl, ⟨A5, c5, rfl, hls⟩, hb5⟩ := hrel
            have hW5 := hW.trans (hb5.mono hW.size)
            by_cases hlt : k ≤ 4
            · go_wp2_with fail
              refine (HF.out k _ hW5 hj1 hlt).mono ?_
              rintro e w6 ⟨A7, c7, rfl, hr7, hb7, hc7, hc7'⟩
              have hls6 := hls.out.below hb7
              have hb46 := hb5.trans (hb7.mono hb5.size)
              have lx := wh_short (fa k) HL.out
              have ly := wh_short (isF k) HL.out
              have HI := Lib.hid (interNil A5 A7 _ c5 _ c7 (wh (fa k) l) (wh (isF k) l) w6 hls6.1 hr7 rfl rfl lx ly (wh_up _ l) (fa_inter k l))
              have HU := Lib.hid (fun W (h : Below w6.heap.size w6 W) => unionIs A5 A7 _ c5 _ c7 (wh (fa k) l) (wh (isF k) l) (wh (fa (k + 1 : Nat)) l) W (hls6.below h).1 ((hr7.below h (Nat.le_refl _)).more h.size) rfl rfl hls6.2.1 hc7 lx ly hls6.2.2 hc7'
                (by rw [show ((k + 1 : Nat) : Int) = (k : Int) + 1 from by omega]; exact fa_un k l (by omega)))
              clear hls hls6 hr7 lx ly
              go_wp2_with fail
              refine HI.out.mono ?_
              rintro e w8 ⟨A8, c8, rfl, hb8⟩
              have hb48 := hb46.trans (hb8.mono hb46.size)
              go_wp2_with fail
              refine (HU.out _ hb8).mono ?_
              rintro e w9 ⟨A9, c9, rfl, hr9, hb9, hc9, hc9'⟩
              have r1 := Lib.hid (show Ls w9 A9 c9 (wh (fa (k + 1 : Nat)) l) from ⟨hr9, hc9, hc9'⟩)
              have r2 := hb48.trans (hb9.mono hb48.size)
              clear HI HU hr9 hc9
              go_wp2
              go_roundw
              case rel => exact ⟨k + 1, by omega, by omega, by go_num, ⟨_, _, rfl, r1⟩, r2⟩
              case measure => simp [intOf]; omega
            · have hk5 : k = 5 := by omega
              subst hk5
              rw [HALL.out] at hls
              rw [HALL.out]
              have HL5 := Lib.hid (fun W (h : Below _ _ W) => (hls.out.below h).1)
              clear hls
              have a1 := G1.out _ hb5
              have a2 := G2.out _ hb5
              go_wp2_with fail
              refine (U12.out _ hb5).mono ?_
              rintro e w6 ⟨A7, c7, rfl, hb6⟩
              have hW6 := hb5.trans (hb6.mono hb5.size)
              clear a1 a2
              have a1 := G1.out _ hW6
              have a2 := G2.out _ hW6
              go_wp2_with fail
              refine (I12.out _ hW6).mono ?_
              rintro e w7 ⟨A8, c8, rfl, hb7⟩
              have hW7 := hW6.trans (hb7.mono hW6.size)
              clear a1 a2
              have a1 := G3.out _ hW7
              have a2 := G4.out _ hW7
              go_wp2_with fail
              refine (U34.out _ hW7).mono ?_
              rintro e w8 ⟨A9, c9, rfl, hb8⟩
              have hW8 := hW7.trans (hb8.mono hW7.size)
              clear a1 a2
              have a1 := G3.out _ hW8
              have a2 := G4.out _ hW8
              go_wp2_with fail
              refine (I34.out _ hW8).mono ?_
              rintro e w9 ⟨A10, c10, rfl, hb9⟩
              have hW9 := hW8.trans (hb9.mono hW8.size)
              clear a1 a2
              have a1 := G6.out _ hW9
              go_wp2_with fail
              have hb59 := (hb6.trans (hb7.mono hb6.size)).trans ((hb8.trans (hb9.mono hb8.size)).mono (hb6.trans (hb7.mono hb6.size)).size)
              refine (same_yes A5 A6 _ _ c5 c6 _ _ (L 6) (L 6) _ (HL5.out _ hb59) (R6'.out _ hW9) rfl rfl (by omega) (by omega) rfl).mono ?_
              rintro e w10 ⟨rfl, hb10⟩
              have hW10 := hW9.trans (hb10.mono hW9.size)
              clear a1
              have a1 := G6.out _ hW10
              have a2 := G2.out _ hW10
              have a3 := G4.out _ hW10
              go_wp2_with fail
              refine (S62.out _ hW10).mono ?_
              rintro e w' ⟨rfl, rfl⟩
              go_wp2_with fail
              refine (S64.out _ hW10).mono ?_
              rintro e w' ⟨rfl, rfl⟩
              go_wp2
              go_ret
              exact ⟨by simp, hW.trans (hW10.mono hW.size)⟩
    · have hv0 : (v != 0) = true := by simpa using h0
      clear hn hf hl hnm hx hv h0
      go_enter Try.func11, Try.ntmps11
      go_wp2_with fail
      refine (HK.out _).mono ?_
      rintro e w1 ⟨rfl, hb1⟩
      go_wp2_with fail
      refine (H1.out _ hb1).mono ?_
      rintro e w2 ⟨rfl, rfl⟩
      go_wp2_with fail
      refine (HC.out _ hb1).mono ?_
      rintro e w2 ⟨rfl, hb2⟩
      have hb12 := hb1.trans (hb2.mono hb1.size)
      go_wp2_with fail
      refine (HK.out _).mono ?_
      rintro e w3 ⟨rfl, hb3⟩
      go_wp2
      go_ret
      exact ⟨rfl, hb12.trans (hb3.mono hb12.size)⟩
end Go.Proofs.Ytmdambfapephpaa
