/- The reference's Look and Swap, whatever the cell holds; the handle of an act. Conditions: counts and live cells are below 2 to the 61; generations are between 0 and 16384; at most 1000000 handles were told. -/
import Derived.Test.YtnhpcakdnaoekaaDoorRefI
import Derived.Test.YtnhpcakdnaoekaaDoorLawS
namespace Go.Proofs.YtnhpcakdnaoekaaDoor
open Go.RowKit Go.Op
set_option maxRecDepth 100000

section
variable (w : World) (c cap : Nat) (m : M) (h : Int) (hA : RAt w c m) (hO : m.Ok 2305843009213693952)
include hA hO
theorem refload_any : Calls Tryd.prog 28 #[m.rv c cap, .int .i64 h, .int .i64 2] w fun e w' => RRet w c (m.load h).1 [.int .i64 (m.load h).2.1.num, .int .i64 (m.load h).2.2] e w' := by
  cases hs : m.seek h with
  | none =>
    have e1 : m.load h = (m.miss, .no, 5) := by simp only [M.load, at_none hs]
    rw [e1]
    exact look_no w c cap m h 2 hA hO hs
  | some p =>
    obtain ⟨_, _, x, hx, hb, _⟩ := M.seek_some hs
    cases hh : x.held with
    | no => rw [hh] at hb; cases hb
    | word n =>
      have e1 : m.load h = (m.ask, .no, 6) := by simp only [M.load, at_some hs hx, hh]
      rw [e1]
      exact look_other w c cap m h 2 p x hA hO hs hx (by rw [hh]; show ¬ (1 : Int) = 2; decide)
    | note n =>
      have e1 : m.load h = (m.ask, .note n, 0) := by simp only [M.load, at_some hs hx, hh]
      rw [e1]
      have := look_this w c cap m h p x hA hO hs hx
      rw [hh] at this
      exact this
theorem refword_any : Calls Tryd.prog 28 #[m.rv c cap, .int .i64 h, .int .i64 1] w fun e w' => RRet w c (m.word h).1 [.int .i64 (m.word h).2.1, .int .i64 (m.word h).2.2] e w' := by
  cases hs : m.seek h with
  | none =>
    have e1 : m.word h = (m.miss, 0, 5) := by simp only [M.word, at_none hs]
    rw [e1]
    exact look_no w c cap m h 1 hA hO hs
  | some p =>
    obtain ⟨_, _, x, hx, hb, _⟩ := M.seek_some hs
    cases hh : x.held with
    | no => rw [hh] at hb; cases hb
    | word n =>
      have e1 : m.word h = (m.ask, n, 0) := by simp only [M.word, at_some hs hx, hh]
      rw [e1]
      have := look_this w c cap m h p x hA hO hs hx
      rw [hh] at this
      exact this
    | note n =>
      have e1 : m.word h = (m.ask, 0, 6) := by simp only [M.word, at_some hs hx, hh]
      rw [e1]
      exact look_other w c cap m h 1 p x hA hO hs hx (by rw [hh]; show ¬ (2 : Int) = 1; decide)
theorem refstore_any (n : Int) : ∃ q : Bool, Calls Tryd.prog 29 #[m.rv c cap, .int .i64 h, .int .i64 0, .int .i64 n, .bool true] w fun e w' => RRet w c (m.store h n).1 [.bool q, .int .i64 (m.store h n).2] e w' := by
  cases hs : m.seek h with
  | none =>
    have e1 : m.store h n = (m.miss, 5) := by simp only [M.store, at_none hs]
    rw [e1]
    exact ⟨_, rs_no w c cap m h 0 n true hA hO hs⟩
  | some p =>
    obtain ⟨_, _, x, hx, hb, _⟩ := M.seek_some hs
    cases hh : x.held with
    | no => rw [hh] at hb; cases hb
    | word k =>
      have e1 : m.store h n = (m.ask.put p { x with held := .word n }, 0) := by simp only [M.store, at_some hs hx, hh]
      rw [e1]
      exact ⟨_, rs_put w c cap m h 0 n true p x k hA hO hs hx hh (.inl rfl)⟩
    | note k =>
      have e1 : m.store h n = (m.ask, 6) := by simp only [M.store, at_some hs hx, hh]
      rw [e1]
      exact ⟨_, rs_note w c cap m h 0 n true p x k hA hO hs hx hh⟩
theorem refswap_any (old n : Int) : Calls Tryd.prog 29 #[m.rv c cap, .int .i64 h, .int .i64 old, .int .i64 n, .bool false] w fun e w' => RRet w c (m.swap h old n).1 [.bool (m.swap h old n).2.1, .int .i64 (m.swap h old n).2.2] e w' := by
  cases hs : m.seek h with
  | none =>
    have e1 : m.swap h old n = (m.miss, false, 5) := by simp only [M.swap, at_none hs]
    rw [e1]
    exact rs_no w c cap m h old n false hA hO hs
  | some p =>
    obtain ⟨_, _, x, hx, hb, _⟩ := M.seek_some hs
    cases hh : x.held with
    | no => rw [hh] at hb; cases hb
    | word k =>
      by_cases hk : k = old
      · have e1 : m.swap h old n = (m.ask.put p { x with held := .word n }, true, 0) := by simp only [M.swap, at_some hs hx, hh, if_pos hk]
        rw [e1]
        exact rs_put w c cap m h old n false p x k hA hO hs hx hh (.inr hk)
      · have e1 : m.swap h old n = (m.ask, false, 0) := by simp only [M.swap, at_some hs hx, hh, if_neg hk]
        rw [e1]
        exact rs_keep w c cap m h old n p x k hA hO hs hx hh hk
    | note k =>
      have e1 : m.swap h old n = (m.ask, false, 6) := by simp only [M.swap, at_some hs hx, hh]
      rw [e1]
      exact rs_note w c cap m h old n false p x k hA hO hs hx hh
theorem reffreeh_any : Calls Tryd.prog 30 #[m.rv c cap, .int .i64 h] w fun e w' => RRet w c (m.free h).1 [.int .i64 (m.free h).2] e w' := by
  cases hs : m.seek h with
  | none =>
    have e1 : m.free h = (m.miss, 5) := by simp only [M.free, at_none hs]
    rw [e1]
    exact reffree_no w c cap m h hA hO hs
  | some p =>
    obtain ⟨_, _, x, hx, _, _⟩ := M.seek_some hs
    have e1 : m.free h = (m.ask.drop p x, 0) := by simp only [M.free, at_some hs hx]
    rw [e1]
    exact reffree_yes w c cap m h p x hA hO hs hx
theorem refretire_any (s : Int) : Calls Tryd.prog 31 #[m.rv c cap, .int .i64 h, .int .i64 s] w fun e w' => RRet w c (m.retire h s).1 [.int .i64 (m.retire h s).2] e w' := by
  cases hs : m.seek h with
  | none =>
    have e1 : m.retire h s = (m.miss, 5) := by simp only [M.retire, at_none hs]
    rw [e1]
    exact refretire_no w c cap m h s hA hO hs
  | some p =>
    obtain ⟨_, _, x, hx, _, _⟩ := M.seek_some hs
    have e1 : m.retire h s = (m.ask.put p (x.retired s), 0) := by simp only [M.retire, at_some hs hx]
    rw [e1]
    exact refretire_yes w c cap m h s p x hA hO hs hx
end

/-- An act as a value. -/
def Ac.v (z : Ac) : Value := .agg #[.int .u8 z.act, .int .i64 z.pos, .int .i64 z.n, .int .i64 z.m, .bool z.raw]
/-- A number is answered. -/
def Num (w : World) (e : Ending) (w' : World) : Prop := ∃ h : Int, e = .returned (.int .i64 h) ∧ Below w.heap.size w w'
theorem acthandle_any (w : World) (z : Ac) (B : Nat) (ta : Option Addr) (tc : Nat) (told : List Int) (hT : OwnI w B (.slice ta told.length tc) told) (hl : told.length ≤ 1000000) (hz : -9223372036854775808 ≤ z.pos ∧ z.pos ≤ 9223372036854775807) :
    Calls Tryd.prog 25 #[z.v, .slice ta told.length tc] w fun e w' => Num w e w' := by
  have hB := (Below.refl w.heap.size w).alloc (Nat.le_refl _) (.cells #[.int .u8 z.act, .int .i64 z.pos, .int .i64 z.n, .int .i64 z.m, .bool z.raw] 37)
  have HB := Lib.hid hB
  unfold Ac.v
  cases hr : z.raw with
  | true =>
    rw [hr] at HB
    clear hB hT
    go_enter Tryd.func25, Tryd.ntmps25
    go_wp2
    go_ret
    exact ⟨_, rfl, HB.out⟩
  | false =>
    rw [hr] at HB
    by_cases h0 : told.length = 0
    · have h1 : ((told.length : Int) == 0) = true := by rw [beq_iff_eq]; omega
      clear hB hT h0
      go_enter Tryd.func25, Tryd.ntmps25
      go_wp2
      go_ret
      exact ⟨_, rfl, HB.out⟩
    · have h1 : ((told.length : Int) == 0) = false := by rw [beq_eq_false_iff_ne]; omega
      by_cases hp : z.pos < 0
      · clear hB hT h0
        go_enter Tryd.func25, Tryd.ntmps25
        go_wp2
        go_ret
        exact ⟨_, rfl, HB.out⟩
      · obtain ⟨qq, hqq, hql⟩ : ∃ qq : Nat, z.pos % (told.length : Int) = (qq : Int) ∧ qq < told.length := by
          have h1 := Int.emod_nonneg z.pos (b := (told.length : Int)) (by omega)
          have h2 := Int.emod_lt_of_pos z.pos (b := (told.length : Int)) (by omega)
          exact ⟨(z.pos % (told.length : Int)).toNat, by omega, by omega⟩
        rw [hr] at hB
        obtain ⟨gt, et, qt⟩ := own_at (hT.below hB) rfl hql
        have ht1 : 0 < (told.length : Int) := by omega
        have HQQ := Lib.hid hqq
        have HQT : Hid (z.pos.tmod (told.length : Int) = (qq : Int)) := by
          rw [Int.tmod_eq_emod_of_nonneg (by omega)]
          exact hqq
        clear hqq hB hT h0
        subst et
        generalize told.getD qq 0 = y at qt
        go_enter Tryd.func25, Tryd.ntmps25
        go_wp2_with (first | rw [HQQ.out] | rw [HQT.out] | fail)
        go_ret
        exact ⟨_, rfl, HB.out⟩
end Go.Proofs.YtnhpcakdnaoekaaDoor
