/- The contract of slices.SortFunc over words with Compare. -/
import Derived.Test.YtdccmebkoibkhaaShRow
import Derived.Test.YtdccmebkoibkhaaSortLay
namespace Go.Proofs.Ytdccmebkoibkhaa
open Go.RowKit Go.Sort Go.Shelf Go.Lib

theorem good_default (w : World) (blk : Nat) : Good w blk default := ⟨RdI.nil _ _ _, fun _ _ e => (by cases e), Nat.zero_le _, Nat.zero_le _, Nat.zero_le _⟩
instance (w : World) (blk : Nat) : Inhabited {h : Hd // Good w blk h} := ⟨⟨default, good_default w blk⟩⟩

theorem swo_words {α : Type} (f : α → List Int) : SWO (ltOf fun x y : α => cmpI (f x) (f y)) where
  irrefl x := by simp [ltOf, cmpI_self]
  trans x y z h1 h2 := by
    simp only [ltOf, decide_eq_true_eq] at *
    exact cmpI_trans h1 h2
  ntrans x y z h1 h2 := by
    simp only [ltOf, decide_eq_false_iff_not] at *
    have e1 := cmpI_neg (f x) (f y)
    have e2 := cmpI_neg (f y) (f z)
    have e3 := cmpI_neg (f x) (f z)
    have := cmpI_le_trans (a := f z) (b := f y) (c := f x) (by omega) (by omega)
    omega

theorem callCompare (args : Array Value) (W : World) : (callFunc 17 args).run Try.prog W = .ok (.enter 17 args) W := by
  go_simp

set_option maxHeartbeats 1000000 in
theorem sort_any (blk cap : Nat) (hs : List Hd) (w : World) (hrow : RowH w blk hs) (hblk : blk < w.heap.size) (hg : ∀ h ∈ hs, Good w blk h) (hl : hs.length ≤ 100000) :
    Calls Try.prog 52 #[.slice (some ⟨blk, 0, none⟩) hs.length cap, .func (.func 17) #[] #[]] w fun e w' => e = .returned (.tuple #[]) ∧
      ∃ hs', hs'.length = hs.length ∧ RowH w' blk hs' ∧ (∀ h ∈ hs', Good w' blk h) ∧ Srt (hs'.map (·.z)) ∧ (∀ x, x ∈ hs'.map (·.z) ↔ x ∈ hs.map (·.z)) ∧ w.grownBy w' (some blk) := by
  obtain ⟨d, hd⟩ : ∃ d : Array {h : Hd // Good w blk h}, d.toList.map (·.1) = hs := ⟨(hs.attach.map fun h => ⟨h.1, hg h.1 h.2⟩).toArray, by simp⟩
  have hsz : d.size = hs.length := by rw [← hd]; simp
  have hget : ∀ j (hj : j < d.size), hs[j]? = some (d[j]).1 := fun j hj => by rw [← hd]; simp [hj]
  have hH : Holds (fun x : {h : Hd // Good w blk h} => x.1.enc) w blk 0 d := fun j hj => by
    rw [Nat.zero_add, getElem!_pos d j hj]
    exact hrow j _ (hget j hj)
  have hcmp : CmpReads Try.prog 17 #[] (fun x : {h : Hd // Good w blk h} => x.1.enc) (fun x y => cmpI x.1.z y.1.z) blk 0 d.size w := fun m os dk hk x y => by
    have g1 := x.2.keep (grown_sort (fun x : {h : Hd // Good w blk h} => x.1.enc) w blk 0 m dk os)
    have g2 := y.2.keep (grown_sort (fun x : {h : Hd // Good w blk h} => x.1.enc) w blk 0 m dk os)
    have h := wCompare_any x.1.A y.1.A _ _ x.1.c y.1.c _ _ x.1.z y.1.z _ g1.rd g2.rd rfl rfl (by have := g1.len; omega) (by have := g2.len; omega)
    exact h.mono fun e w' ⟨e1, e2⟩ => ⟨e1, 0, e2.symm⟩
  have hcon := Any.slices_SortFunc sortW (fun x : {h : Hd // Good w blk h} => x.1.enc) (fun _ => rfl) (fun x y => cmpI x.1.z y.1.z) (swo_words fun x : {h : Hd // Good w blk h} => x.1.z) 17 #[] blk 0 cap d w callCompare hcmp.lays hH hblk (by omega)
  rw [hsz] at hcon
  refine Calls.mono (show Calls Try.prog 52 _ w _ from hcon) ?_
  rintro e w' ⟨rfl, d', n, os, hp, hsd, rfl⟩
  rw [← hsz] at hp hsd
  obtain ⟨s1, s2, s3⟩ := sorted_words hp hsd
  have hgr := grown_sort (fun x : {h : Hd // Good w blk h} => x.1.enc) w blk 0 n d' os
  refine ⟨rfl, d'.toList.map (·.1), by simp [s3, hsz], fun i h hi => ?_, fun h hh => ?_, by simpa [List.map_map] using s1, fun x => ?_, hgr⟩
  · have hH2 : Holds (fun x : {h : Hd // Good w blk h} => x.1.enc) (Go.Sort.grow (putRow (fun x : {h : Hd // Good w blk h} => x.1.enc) (Go.Sort.ahead w n) blk 0 d') os) blk 0 d' :=
      holds_grow _ _ _ _ _ _ (by simpa using hblk) (holds_putRow _ _ _ _ d d' (holds_ahead _ _ _ _ _ _ hH) s3)
    have hi' : i < d'.size := by have := (List.getElem?_eq_some_iff.1 hi).1; simpa using this
    have := hH2 i hi'
    rw [Nat.zero_add, getElem!_pos d' i hi'] at this
    have e : h = (d'[i]).1 := by
      have : (d'.toList.map (·.1))[i]? = some (d'[i]).1 := by simp [hi']
      rw [this] at hi; injection hi with hi; exact hi.symm
    rw [e]; exact this
  · obtain ⟨x, _, rfl⟩ := List.mem_map.1 hh
    exact x.2.keep hgr
  · have := s2 x
    rw [← hd]
    simpa [List.map_map] using this
end Go.Proofs.Ytdccmebkoibkhaa
