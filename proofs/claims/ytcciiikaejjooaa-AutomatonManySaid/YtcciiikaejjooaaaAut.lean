/- Layer 3: edges and automata as they are read; isState, contains, hasEvent, compareEdges. -/
import Derived.Test.YtcciiikaejjooaaaRef
import Derived.Sort.Grow
import Derived.Shelf.SlSortCmp.QuietGrown
namespace Go.Proofs.Ytcciiikaejjooaa
open Go.RowKit Go.Sort

structure Ed where
  f : Int
  e : Int
  t : Int
  deriving DecidableEq

/-- At this address lie the three cells of an edge. -/
def EdAt (w : World) (b o : Nat) (x : Ed) : Prop :=
  w.cell? ⟨b, o, none⟩ = some (.int .i64 x.f) ∧ w.cell? ⟨b, o + 1, none⟩ = some (.int .i64 x.e) ∧ w.cell? ⟨b, o + 2, none⟩ = some (.int .i64 x.t)
/-- A slice's address leads, below block B, to these edges (asked only where there are any). -/
def RdG (w : World) (B : Nat) (A : Option Addr) (l : List Ed) : Prop :=
  0 < l.length → ∃ b off, A = some ⟨b, off, none⟩ ∧ b < B ∧ ∀ j x, l[j]? = some x → EdAt w b (off + j * 3) x
theorem EdAt.keep {w w' : World} {b o : Nat} {x : Ed} (h : EdAt w b o x) (hk : ∀ o, w'.cell? ⟨b, o, none⟩ = w.cell? ⟨b, o, none⟩) : EdAt w' b o x :=
  ⟨(hk _).trans h.1, (hk _).trans h.2.1, (hk _).trans h.2.2⟩
theorem RdG.keep {w w' : World} {B : Nat} {A : Option Addr} {l : List Ed} (h : RdG w B A l) (hk : ∀ b o, b < B → w'.cell? ⟨b, o, none⟩ = w.cell? ⟨b, o, none⟩) : RdG w' B A l := fun h0 => by
  obtain ⟨b, off, e, hb, hc⟩ := h h0
  exact ⟨b, off, e, hb, fun j x hj => (hc j x hj).keep fun o => hk b o hb⟩
theorem RdG.more {w : World} {B B' : Nat} {A : Option Addr} {l : List Ed} (h : RdG w B A l) (hB : B ≤ B') : RdG w B' A l := fun h0 => by
  obtain ⟨b, off, e, hb, hc⟩ := h h0
  exact ⟨b, off, e, by omega, hc⟩
theorem RdG.below {w w' : World} {B B' : Nat} {A : Option Addr} {l : List Ed} (h : RdG w B A l) (hb : Below B' w w') (hB : B ≤ B') : RdG w' B A l :=
  h.keep fun _ _ hlt => hb.cell (by exact Nat.lt_of_lt_of_le hlt hB)
theorem RdG.nil (w : World) (B : Nat) (A : Option Addr) : RdG w B A [] := fun h => absurd h (by simp)
theorem RdG.dr {w : World} {B : Nat} {A : Option Addr} {l : List Ed} (h : RdG w B A l) (q : Nat) : RdG (w.drewN q) B A l := h

structure Au where
  al : List Int
  st : Int
  mr : List Int
  ed : List Ed
  deriving DecidableEq

/-- These cells read, below block B, as this automaton. -/
structure AuR (w : World) (B : Nat) (A : Option Addr) (n c : Nat) (s : Int) (M : Option Addr) (m d : Nat) (E : Option Addr) (k g : Nat) (a : Au) : Prop where
  al : RdI w B A a.al
  mr : RdI w B M a.mr
  ed : RdG w B E a.ed
  hn : a.al.length = n
  hm : a.mr.length = m
  hk : a.ed.length = k
  st : a.st = s
  cn : n ≤ c ∧ c ≤ 9223372036854775807
  cm : m ≤ d ∧ d ≤ 9223372036854775807
  ck : k ≤ g ∧ g ≤ 9223372036854775807
  bn : n ≤ 100000
  bm : m ≤ 100000
  bk : k ≤ 1000000
theorem AuR.keep {w w' : World} {B : Nat} {A : Option Addr} {n c : Nat} {s : Int} {M : Option Addr} {m d : Nat} {E : Option Addr} {k g : Nat} {a : Au} (h : AuR w B A n c s M m d E k g a) (hk : ∀ b o, b < B → w'.cell? ⟨b, o, none⟩ = w.cell? ⟨b, o, none⟩) : AuR w' B A n c s M m d E k g a :=
  { h with al := h.al.keep hk, mr := h.mr.keep hk, ed := h.ed.keep hk }
theorem AuR.more {w : World} {B B' : Nat} {A : Option Addr} {n c : Nat} {s : Int} {M : Option Addr} {m d : Nat} {E : Option Addr} {k g : Nat} {a : Au} (h : AuR w B A n c s M m d E k g a) (hB : B ≤ B') : AuR w B' A n c s M m d E k g a :=
  { h with al := h.al.more hB, mr := h.mr.more hB, ed := h.ed.more hB }
theorem AuR.below {w w' : World} {B B' : Nat} {A : Option Addr} {n c : Nat} {s : Int} {M : Option Addr} {m d : Nat} {E : Option Addr} {k g : Nat} {a : Au} (h : AuR w B A n c s M m d E k g a) (hb : Below B' w w') (hB : B ≤ B') : AuR w' B A n c s M m d E k g a :=
  h.keep fun _ _ hlt => hb.cell (by exact Nat.lt_of_lt_of_le hlt hB)
/-- What a function hands back that makes an automaton in new memory. -/
def AuV (a : Au) (v : Value) (w : World) : Prop := ∃ A n c s M m d E k g, v = .agg #[.slice A n c, .int .i64 s, .slice M m d, .slice E k g] ∧ AuR w w.heap.size A n c s M m d E k g a

/-- Whether a number is one of n. -/
def inSt (s x : Int) : Bool := decide (0 ≤ x) && decide (x < s)
theorem isState_any (A : Option Addr) (n c : Nat) (s : Int) (M : Option Addr) (m d : Nat) (E : Option Addr) (k g : Nat) (x : Int) (w : World) :
    Calls Try.prog 70 #[.agg #[.slice A n c, .int .i64 s, .slice M m d, .slice E k g], .int .i64 x] w fun e w' => e = .returned (.bool (inSt s x)) ∧ Below w.heap.size w w' := by
  by_cases h1 : 0 ≤ x
  · by_cases h2 : x < s
    · have hr := Lib.hid (show inSt s x = true by simp [inSt, h1, h2])
      rw [hr.out]
      go_enter Try.func70, Try.ntmps70
      go_wp2
      go_ret
      exact ⟨rfl, (Below.refl _ _).alloc (Nat.le_refl _) _⟩
    · have hr := Lib.hid (show inSt s x = false by simp [inSt, h2])
      rw [hr.out]
      go_enter Try.func70, Try.ntmps70
      go_wp2
      go_ret
      exact ⟨rfl, (Below.refl _ _).alloc (Nat.le_refl _) _⟩
  · have hr := Lib.hid (show inSt s x = false by simp [inSt, h1])
    rw [hr.out]
    go_enter Try.func70, Try.ntmps70
    go_wp2
    go_ret
    exact ⟨rfl, (Below.refl _ _).alloc (Nat.le_refl _) _⟩

theorem hasEvent_any (A : Option Addr) (n c : Nat) (s : Int) (M : Option Addr) (m d : Nat) (E : Option Addr) (k g : Nat) (x : Int) (B : Nat) (zs : List Int) (w : World) (hx : RdI w B A zs) (hB : B ≤ w.heap.size) (hn : zs.length = n) (hb : n ≤ 100000) (hup : Up zs) :
    Calls Try.prog 53 #[.agg #[.slice A n c, .int .i64 s, .slice M m d, .slice E k g], .int .i64 x] w fun e w' => e = .returned (.bool (decide (x ∈ zs))) ∧ Below w.heap.size w w' := by
  have hb1 : ∀ o, Below w.heap.size w (w.alloc o) := fun o => (Below.refl _ _).alloc (Nat.le_refl _) o
  have H := Lib.hid (fun o => mContains_any A n c B zs x (w.alloc o) (hx.below (hb1 o) hB) hn (by omega) hup)
  have HB := Lib.hid hb1
  obtain ⟨v, hv⟩ : ∃ v, v = decide (x ∈ zs) := ⟨_, rfl⟩
  rw [← hv] at H ⊢
  clear hn hup hx hv hb1
  go_enter Try.func53, Try.ntmps53
  go_wp2_with (go_at_call 57; refine (H.out _).mono ?_; rintro e w' ⟨rfl, rfl⟩)
  go_ret
  exact ⟨rfl, HB.out _⟩

/-- Two edges compared, by From, then Event. -/
def cmpE (x y : Ed) : Int := if cmp1 x.f y.f ≠ 0 then cmp1 x.f y.f else cmp1 x.e y.e
theorem compareEdges_any (f1 e1 t1 f2 e2 t2 : Int) (w : World) :
    Calls Try.prog 64 #[.agg #[.int .i64 f1, .int .i64 e1, .int .i64 t1], .agg #[.int .i64 f2, .int .i64 e2, .int .i64 t2]] w fun e w' => e = .returned (.int .i64 (cmpE ⟨f1, e1, t1⟩ ⟨f2, e2, t2⟩)) ∧ ∃ q os', w' = grow (w.drewN q) os' := by
  have H := Lib.hid cmpCompare_any
  obtain ⟨u, hu⟩ : ∃ u, u = cmp1 f1 f2 := ⟨_, rfl⟩
  obtain ⟨v, hv⟩ : ∃ v, v = cmp1 e1 e2 := ⟨_, rfl⟩
  have H1 := Lib.hid (fun W => by have h := H.out f1 f2 W; rw [← hu] at h; exact h)
  have H2 := Lib.hid (fun W => by have h := H.out e1 e2 W; rw [← hv] at h; exact h)
  by_cases h0 : u = 0
  · have hr := Lib.hid (show cmpE ⟨f1, e1, t1⟩ ⟨f2, e2, t2⟩ = v by simp [cmpE, ← hu, ← hv, h0])
    rw [hr.out]
    have hb : (u != 0) = false := by simp [h0]
    clear hu hv h0
    go_enter Try.func64, Try.ntmps64
    go_wp2_with fail
    refine (H1.out _).mono ?_
    rintro e w' ⟨rfl, rfl⟩
    go_wp2_with fail
    refine (H2.out _).mono ?_
    rintro e w' ⟨rfl, rfl⟩
    go_wp2
    go_ret
    exact ⟨rfl, 0, _, by rw [alloc_eq_grow, alloc_eq_grow, grow_grow]; rfl⟩
  · have hr := Lib.hid (show cmpE ⟨f1, e1, t1⟩ ⟨f2, e2, t2⟩ = u by simp [cmpE, ← hu, h0])
    rw [hr.out]
    have hb : (u != 0) = true := by simp [h0]
    clear hu hv h0
    go_enter Try.func64, Try.ntmps64
    go_wp2_with fail
    refine (H1.out _).mono ?_
    rintro e w' ⟨rfl, rfl⟩
    go_wp2
    go_ret
    exact ⟨rfl, 0, _, by rw [alloc_eq_grow, alloc_eq_grow, grow_grow]; rfl⟩
theorem below_grow (w : World) (q : Nat) (os : Array Obj) : Below w.heap.size w (grow (w.drewN q) os) :=
  ⟨rfl, rfl, rfl, by simp [grow], fun i hi => by simp [grow, Array.getElem?_append, show i < w.heap.size from hi]⟩
end Go.Proofs.Ytcciiikaejjooaa
