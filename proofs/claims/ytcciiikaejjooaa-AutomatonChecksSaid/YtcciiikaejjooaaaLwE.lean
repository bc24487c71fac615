/- Layer 3: what the functions answer of an automaton that isn't right. -/
import Derived.Test.YtcciiikaejjooaaaLw
import Derived.Test.YtcciiikaejjooaaaCmp
namespace Go.Proofs.Ytcciiikaejjooaa
open Go.RowKit Go.Sort

theorem lw_list {f : FuncId} {args : Array Value} {w W : World} {l : List (Nat × List Value)} {u : Int} (hc : Calls Try.prog f args w fun e w' => GivesP w ([], u) e w') (h : LW W l w) : Calls Try.prog f args w fun e w' => ∃ A c, e = .returned (.tuple #[.slice A 0 c, .int .i64 u]) ∧ LW W l w' :=
  hc.mono fun e w' hh => by
    obtain ⟨A, c, e1, _, hb, _⟩ := hh
    exact ⟨A, c, e1, h.call hb⟩
section
variable {a : Au} {u : Int}
theorem e_can (h : chkE a = u) (hu : u ≠ 0) : canR a = (zeroA, u) := by rw [canR, h, if_pos hu]
theorem e_pl (h : chkE a = u) (hu : u ≠ 0) (q : Int) : plE a q = u := by rw [plE, h, if_pos hu]
theorem e_step (h : chkE a = u) (hu : u ≠ 0) (q ev : Int) : stepR a q ev = (0, false, u) := by rw [stepR, e_pl h hu, if_pos hu]
theorem e_run (h : chkE a = u) (hu : u ≠ 0) (q : Int) (ws : List Int) : runR a q ws = (0, 0, u) := by rw [runR, e_pl h hu, if_pos hu]
theorem e_en (h : chkE a = u) (hu : u ≠ 0) (q : Int) : enR a q = ([], u) := by rw [enR, e_pl h hu, if_pos hu]
theorem e_gen (h : chkE a = u) (hu : u ≠ 0) (ws : List Int) : genR a ws = (false, u) := by rw [genR, h, if_pos hu]
theorem e_acc (h : chkE a = u) (hu : u ≠ 0) (ws : List Int) : accR a ws = (false, u) := by rw [accR, h, if_pos hu]
theorem e_wds (h : chkE a = u) (hu : u ≠ 0) (most : Int) (mk : Bool) : wordsR a most mk = ([], u) := by rw [wordsR, h, if_pos hu]
theorem e_rel (h : chkE a = u) (hu : u ≠ 0) (tl : List Int) : relR a tl = (zeroA, u) := by rw [relR, h, if_pos hu]
theorem e_cmp (h : chkE a = u) (hu : u ≠ 0) : cmpR a = (zeroA, u) := by rw [cmpR, h, if_pos hu]
theorem e_cls (h : chkE a = u) (hu : u ≠ 0) : clsR a = (zeroA, u) := by rw [clsR, h, if_pos hu]
theorem e_isC (h : chkE a = u) (hu : u ≠ 0) : isC a = false := by rw [isC, h]; simp [hu]
end
section
variable {a : Au} {u : Int} {W w : World} {l : List (Nat × List Value)} {A : Option Addr} {n c : Nat} {s : Int} {M : Option Addr} {m d : Nat} {E : Option Addr} {k g : Nat}
theorem x_step (h : chkE a = u) (hu : u ≠ 0) (hA : AuR W W.heap.size A n c s M m d E k g a) (hl : LW W l w) (q ev : Int) : Calls Try.prog 18 #[.agg #[.slice A n c, .int .i64 s, .slice M m d, .slice E k g], .int .i64 q, .int .i64 ev] w fun e w' => e = .returned (.tuple #[.int .i64 0, .bool false, .int .i64 u]) ∧ LW W l w' := by
  have := lw_call (mStep_any A n c s M m d E k g a q ev w (hl.aut A n c s M m d E k g hA)) hl
  rwa [e_step h hu] at this
theorem x_run (h : chkE a = u) (hu : u ≠ 0) (hA : AuR W W.heap.size A n c s M m d E k g a) (hl : LW W l w) (q : Int) : Calls Try.prog 19 #[.agg #[.slice A n c, .int .i64 s, .slice M m d, .slice E k g], .int .i64 q, .slice none 0 0] w fun e w' => e = .returned (.tuple #[.int .i64 0, .int .i64 0, .int .i64 u]) ∧ LW W l w' := by
  have := lw_call (mRun_any A n c s M m d E k g a q none 0 0 [] w (hl.aut A n c s M m d E k g hA) (RdI.nil _ _ _) rfl (by omega)) hl
  rwa [e_run h hu] at this
theorem x_en (h : chkE a = u) (hu : u ≠ 0) (hA : AuR W W.heap.size A n c s M m d E k g a) (hl : LW W l w) (q : Int) : Calls Try.prog 20 #[.agg #[.slice A n c, .int .i64 s, .slice M m d, .slice E k g], .int .i64 q] w fun e w' => ∃ A c, e = .returned (.tuple #[.slice A 0 c, .int .i64 u]) ∧ LW W l w' := by
  have := mEnabled_any A n c s M m d E k g a q w (hl.aut A n c s M m d E k g hA)
  rw [e_en h hu] at this
  exact lw_list this hl
theorem x_gen (h : chkE a = u) (hu : u ≠ 0) (hA : AuR W W.heap.size A n c s M m d E k g a) (hl : LW W l w) : Calls Try.prog 21 #[.agg #[.slice A n c, .int .i64 s, .slice M m d, .slice E k g], .slice none 0 0] w fun e w' => e = .returned (.tuple #[.bool false, .int .i64 u]) ∧ LW W l w' := by
  have := lw_call (mGenerates_any A n c s M m d E k g a none 0 0 [] w (hl.aut A n c s M m d E k g hA) (RdI.nil _ _ _) rfl (by omega)) hl
  rwa [e_gen h hu] at this
theorem x_acc (h : chkE a = u) (hu : u ≠ 0) (hA : AuR W W.heap.size A n c s M m d E k g a) (hl : LW W l w) : Calls Try.prog 22 #[.agg #[.slice A n c, .int .i64 s, .slice M m d, .slice E k g], .slice none 0 0] w fun e w' => e = .returned (.tuple #[.bool false, .int .i64 u]) ∧ LW W l w' := by
  have := lw_call (mAccepts_any A n c s M m d E k g a none 0 0 [] w (hl.aut A n c s M m d E k g hA) (RdI.nil _ _ _) rfl (by omega)) hl
  rwa [e_acc h hu] at this
theorem x_wds (h : chkE a = u) (hu : u ≠ 0) (hA : AuR W W.heap.size A n c s M m d E k g a) (hl : LW W l w) : Calls Try.prog 23 #[.agg #[.slice A n c, .int .i64 s, .slice M m d, .slice E k g], .int .i64 1, .bool false] w fun e w' => ∃ A c, e = .returned (.tuple #[.slice A 0 c, .int .i64 u]) ∧ LW W l w' := by
  have := mWords_any A n c s M m d E k g a 1 false w (hl.aut A n c s M m d E k g hA)
  rw [e_wds h hu] at this
  exact lw_wds_nil this hl
theorem x_can (h : chkE a = u) (hu : u ≠ 0) (hA : AuR W W.heap.size A n c s M m d E k g a) (hl : LW W l w) : Calls Try.prog 17 #[.agg #[.slice A n c, .int .i64 s, .slice M m d, .slice E k g]] w fun e w' => ∃ A c M d E g, e = .returned (.tuple #[.agg #[.slice A 0 c, .int .i64 0, .slice M 0 d, .slice E 0 g], .int .i64 u]) ∧ LW W l w' := by
  have := mCanonical_any A n c s M m d E k g a w (hl.aut A n c s M m d E k g hA)
  rw [e_can h hu] at this
  exact lw_zero this hl
theorem x_rel (h : chkE a = u) (hu : u ≠ 0) (hA : AuR W W.heap.size A n c s M m d E k g a) (hl : LW W l w) : Calls Try.prog 24 #[.agg #[.slice A n c, .int .i64 s, .slice M m d, .slice E k g], .slice none 0 0] w fun e w' => ∃ A c M d E g, e = .returned (.tuple #[.agg #[.slice A 0 c, .int .i64 0, .slice M 0 d, .slice E 0 g], .int .i64 u]) ∧ LW W l w' := by
  have := mRelabel_any A n c s M m d E k g a none 0 0 [] w (hl.aut A n c s M m d E k g hA) (RdI.nil _ _ _) rfl (Nat.le_refl _) (by omega)
  rw [e_rel h hu] at this
  exact lw_zero this hl
theorem x_cmp (h : chkE a = u) (hu : u ≠ 0) (hA : AuR W W.heap.size A n c s M m d E k g a) (hl : LW W l w) : Calls Try.prog 25 #[.agg #[.slice A n c, .int .i64 s, .slice M m d, .slice E k g]] w fun e w' => ∃ A c M d E g, e = .returned (.tuple #[.agg #[.slice A 0 c, .int .i64 0, .slice M 0 d, .slice E 0 g], .int .i64 u]) ∧ LW W l w' := by
  have := mComplete_any A n c s M m d E k g a w (hl.aut A n c s M m d E k g hA) (fun h0 => absurd (h.symm.trans h0) hu)
  rw [e_cmp h hu] at this
  exact lw_zero this hl
theorem x_cls (h : chkE a = u) (hu : u ≠ 0) (hA : AuR W W.heap.size A n c s M m d E k g a) (hl : LW W l w) : Calls Try.prog 26 #[.agg #[.slice A n c, .int .i64 s, .slice M m d, .slice E k g]] w fun e w' => ∃ A c M d E g, e = .returned (.tuple #[.agg #[.slice A 0 c, .int .i64 0, .slice M 0 d, .slice E 0 g], .int .i64 u]) ∧ LW W l w' := by
  have := mClosed_any A n c s M m d E k g a w (hl.aut A n c s M m d E k g hA)
  rw [e_cls h hu] at this
  exact lw_zero this hl
theorem x_isC (h : chkE a = u) (hu : u ≠ 0) (hA : AuR W W.heap.size A n c s M m d E k g a) (hl : LW W l w) : Calls Try.prog 28 #[.agg #[.slice A n c, .int .i64 s, .slice M m d, .slice E k g]] w fun e w' => e = .returned (.bool false) ∧ LW W l w' := by
  have := lw_call (mIsCanonical_any A n c s M m d E k g a w (hl.aut A n c s M m d E k g hA)) hl
  rwa [e_isC h hu] at this
end
end Go.Proofs.Ytcciiikaejjooaa
