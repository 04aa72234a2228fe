/- The reference's Look and Swap, whatever the cell holds; the handle of an act. Conditions: counts and live cells are below 2 to the 61; generations are between 0 and 16384; at most 1000000 handles were told. -/
import Derived.Test.YthdcilbbllldiaaDoorRefI
namespace Go.Proofs.YthdcilbbllldiaaDoor
open Go.RowKit Go.Op
set_option maxRecDepth 100000

section
variable (w : World) (c cap : Nat) (m : M) (h : Int) (hA : RAt w c m) (hO : m.Ok 2305843009213693952)
include hA hO
theorem refload_any : Calls Tryd.prog 35 #[m.rv c cap, .int .i64 h, .int .i64 2] w fun e w' => RRet w c (m.load h).1 [.int .i64 (m.load h).2.1.num, .int .i64 (m.load h).2.2] e w' := by
  cases hs : m.seek h with
  | none =>
    have e1 : m.load h = (m.miss, .no, 5) := by simp only [M.load, at_none hs]
    rw [e1]
    exact look_no w c cap m h 2 hA hO hs
  | some p =>
    obtain ⟨_, _, x, hx, hb, _⟩ := M.seek_some hs
    cases hh : x.held with
    | no => rw [hh] at hb; cases hb
    | word n =>
      have e1 : m.load h = (m.ask, .no, 6) := by simp only [M.load, at_some hs hx, hh]
      rw [e1]
      exact look_other w c cap m h 2 p x hA hO hs hx (by rw [hh]; show ¬ (1 : Int) = 2; decide)
    | note n =>
      have e1 : m.load h = (m.ask, .note n, 0) := by simp only [M.load, at_some hs hx, hh]
      rw [e1]
      have := look_this w c cap m h p x hA hO hs hx
      rw [hh] at this
      exact this
theorem refword_any : Calls Tryd.prog 35 #[m.rv c cap, .int .i64 h, .int .i64 1] w fun e w' => RRet w c (m.word h).1 [.int .i64 (m.word h).2.1, .int .i64 (m.word h).2.2] e w' := by
  cases hs : m.seek h with
  | none =>
    have e1 : m.word h = (m.miss, 0, 5) := by simp only [M.word, at_none hs]
    rw [e1]
    exact look_no w c cap m h 1 hA hO hs
  | some p =>
    obtain ⟨_, _, x, hx, hb, _⟩ := M.seek_some hs
    cases hh : x.held with
    | no => rw [hh] at hb; cases hb
    | word n =>
      have e1 : m.word h = (m.ask, n, 0) := by simp only [M.word, at_some hs hx, hh]
      rw [e1]
      have := look_this w c cap m h p x hA hO hs hx
      rw [hh] at this
      exact this
    | note n =>
      have e1 : m.word h = (m.ask, 0, 6) := by simp only [M.word, at_some hs hx, hh]
      rw [e1]
      exact look_other w c cap m h 1 p x hA hO hs hx (by rw [hh]; show ¬ (2 : Int) = 1; decide)
theorem refstore_any (n : Int) : ∃ q : Bool, Calls Tryd.prog 36 #[m.rv c cap, .int .i64 h, .int .i64 0, .int .i64 n, .bool true] w fun e w' => RRet w c (m.store h n).1 [.bool q, .int .i64 (m.store h n).2] e w' := by
  cases hs : m.seek h with
  | none =>
    have e1 : m.store h n = (m.miss, 5) := by simp only [M.store, at_none hs]
    rw [e1]
    exact ⟨_, rs_no w c cap m h 0 n true hA hO hs⟩
  | some p =>
    obtain ⟨_, _, x, hx, hb, _⟩ := M.seek_some hs
    cases hh : x.held with
    | no => rw [hh] at hb; cases hb
    | word k =>
      have e1 : m.store h n = (m.ask.put p { x with held := .word n }, 0) := by simp only [M.store, at_some hs hx, hh]
      rw [e1]
      exact ⟨_, rs_put w c cap m h 0 n true p x k hA hO hs hx hh (.inl rfl)⟩
    | note k =>
      have e1 : m.store h n = (m.ask, 6) := by simp only [M.store, at_some hs hx, hh]
      rw [e1]
      exact ⟨_, rs_note w c cap m h 0 n true p x k hA hO hs hx hh⟩
theorem refswap_any (old n : Int) : Calls Tryd.prog 36 #[m.rv c cap, .int .i64 h, .int .i64 old, .int .i64 n, .bool false] w fun e w' => RRet w c (m.swap h old n).1 [.bool (m.swap h old n).2.1, .int .i64 (m.swap h old n).2.2] e w' := by
  cases hs : m.seek h with
  | none =>
    have e1 : m.swap h old n = (m.miss, false, 5) := by simp only [M.swap, at_none hs]
    rw [e1]
    exact rs_no w c cap m h old n false hA hO hs
  | some p =>
    obtain ⟨_, _, x, hx, hb, _⟩ := M.seek_some hs
    cases hh : x.held with
    | no => rw [hh] at hb; cases hb
    | word k =>
      by_cases hk : k = old
      · have e1 : m.swap h old n = (m.ask.put p { x with held := .word n }, true, 0) := by simp only [M.swap, at_some hs hx, hh, if_pos hk]
        rw [e1]
        exact rs_put w c cap m h old n false p x k hA hO hs hx hh (.inr hk)
      · have e1 : m.swap h old n = (m.ask, false, 0) := by simp only [M.swap, at_some hs hx, hh, if_neg hk]
        rw [e1]
        exact rs_keep w c cap m h old n p x k hA hO hs hx hh hk
    | note k =>
      have e1 : m.swap h old n = (m.ask, false, 6) := by simp only [M.swap, at_some hs hx, hh]
      rw [e1]
      exact rs_note w c cap m h old n false p x k hA hO hs hx hh
theorem reffreeh_any : Calls Tryd.prog 38 #[m.rv c cap, .int .i64 h] w fun e w' => RRet w c (m.free h).1 [.int .i64 (m.free h).2] e w' := by
  cases hs : m.seek h with
  | none =>
    have e1 : m.free h = (m.miss, 5) := by simp only [M.free, at_none hs]
    rw [e1]
    exact reffree_no w c cap m h hA hO hs
  | some p =>
    obtain ⟨_, _, x, hx, _, _⟩ := M.seek_some hs
    have e1 : m.free h = (m.ask.drop p x, 0) := by simp only [M.free, at_some hs hx]
    rw [e1]
    exact reffree_yes w c cap m h p x hA hO hs hx
theorem refretire_any (s : Int) : Calls Tryd.prog 39 #[m.rv c cap, .int .i64 h, .int .i64 s] w fun e w' => RRet w c (m.retire h s).1 [.int .i64 (m.retire h s).2] e w' := by
  cases hs : m.seek h with
  | none =>
    have e1 : m.retire h s = (m.miss, 5) := by simp only [M.retire, at_none hs]
    rw [e1]
    exact refretire_no w c cap m h s hA hO hs
  | some p =>
    obtain ⟨_, _, x, hx, _, _⟩ := M.seek_some hs
    have e1 : m.retire h s = (m.ask.put p (x.retired s), 0) := by simp only [M.retire, at_some hs hx]
    rw [e1]
    exact refretire_yes w c cap m h s p x hA hO hs hx
end
end Go.Proofs.YthdcilbbllldiaaDoor
