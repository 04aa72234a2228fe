/- NodeBack's closure. Condition: the library's table stands. -/
import Derived.Test.YtbcpdkmbbgcfbaaDoorBa
import Derived.Test.YtbcpdkmbbgcfbaaDoorLe
namespace Go.Proofs.YtbcpdkmbbgcfbaaDoor
open Go.RowKit Go.Op
set_option maxRecDepth 100000

section
variable {w0 w : World} {b c r : Nat} {G : List (Nat × List Value)} {zk zl zh zv zm : Nat}
/-- A row of a parameter, read in the midst of Do. -/
def ParI (b c r : Nat) (w : World) (a : Option Addr) (l : List Int) : Prop := l = [] ∨ ∃ g o, a = some ⟨g, o, none⟩ ∧ g < w.heap.size ∧ g ∉ [b, c, r] ∧ w.rangeAt g o (ints l)
/-- A copy of such a row. -/
theorem copy_run {Z : List Nat} {pb : Nat} {t1 : Value} {G1 : List (Nat × List Value)} {W : World} {m1 : M} {s1 : Pt} (hD : Dgo w0 b c r pb Z w t1 G G1 W m1 s1) {a : Option Addr} {cap : Nat} {l : List Int} (hl : l.length ≤ 1000) (hp : l = [] ∨ ∃ g o, a = some ⟨g, o, none⟩ ∧ g < W.heap.size ∧ W.rangeAt g o (ints l)) (ha : a = none → l = []) (ty : TypeId) :
    ∃ v' W3, (Builtin.append_ #[25, 25] ty #[.slice (some ⟨W.heap.size, 0, none⟩) 0 0, .slice a l.length cap]).run Tryd.prog (W.alloc (.cells #[] 3)) = .ok v' W3 ∧ ∃ g2 cap2, v' = .slice (some ⟨g2, 0, none⟩) l.length cap2 ∧ Hid (Dgo w0 b c r pb Z w t1 G G1 W3 m1 s1 ∧ ORow w0 b c r pb t1 G1 W3 (.slice (some ⟨g2, 0, none⟩) l.length cap2) l ∧ w.heap.size ≤ g2) := by
  obtain ⟨wa, hwa⟩ : ∃ X, X = W.alloc (.cells #[] 3) := ⟨_, rfl⟩
  have ba : Below W.heap.size W wa := by rw [hwa]; exact (Below.refl _ W).alloc (Nat.le_refl _) _
  have hDa := hD.later ba
  have hB : w0.heap.size ≤ W.heap.size := by obtain ⟨m0, s0, h1, -⟩ := id hD.sys; exact h1.has.below.size
  have h1 : ORow w0 b c r pb t1 G1 wa (.slice (some ⟨W.heap.size, 0, none⟩) 0 0) [] := ⟨by rw [hwa]; exact World.ownsRow_lit W #[] 0 hB (by decide) rfl, fun g e => by
    cases e
    rw [hwa]
    exact hD.sys.fresh _⟩
  rw [← hwa]
  obtain ⟨i0, hi, hz0, hz1, hz2⟩ := info_parts info3
  by_cases h0 : l = []
  · subst h0
    refine ⟨_, wa, ?_, W.heap.size, 0, rfl, hDa, h1, hD.but.size⟩
    cases a with
    | none => exact run_append_nothing wa 25 25 ty 3 i0 Tryd.underlying25 hi (some ⟨W.heap.size, 0, none⟩) 0 0 (Nat.le_refl _) _ (Src.ofNil wa Tryd.underlying25 _)
    | some ad => exact run_append_nothing wa 25 25 ty 3 i0 Tryd.underlying25 hi (some ⟨W.heap.size, 0, none⟩) 0 0 (Nat.le_refl _) _ (Src.ofSlice wa Tryd.underlying25 ad 0 cap [] (by simp) (fun j u hu => (by simp at hu)) (fun u hu => (by simp at hu)))
  · rcases hp with e | ⟨g, o, rfl, hlt, hr⟩
    · exact absurd e h0
    · obtain ⟨v', w2, e1, e2, e3, e4, e5, e6⟩ := h1.appD hDa (fun z e => by cases e; exact hD.but.size) ⟨g, o, none⟩ cap l (fun j u hj => by
        rw [add_off, ba.cell (p := ⟨g, o + j, none⟩) hlt]
        exact hr j u hj) (by simp; omega) ty
      rw [List.nil_append] at e3
      rcases id e3.own.2 with ⟨e, h2⟩ | ⟨g2, cap2, cur, e, -⟩
      · exact absurd (List.length_eq_zero_iff.1 h2) h0
      · subst e
        refine ⟨_, w2, e1, g2, cap2, rfl, e2, e3, ?_⟩
        rcases e4 g2 rfl with e | e
        · cases e; exact hD.but.size
        · rw [e]; exact Nat.le_trans hD.but.size ba.size
theorem ORow.store {pb : Nat} {Z : List Nat} {t1 : Value} {G1 : List (Nat × List Value)} {W : World} {m1 : M} {s1 : Pt} {g cap : Nat} {l : List Int} (h : ORow w0 b c r pb t1 G1 W (.slice (some ⟨g, 0, none⟩) l.length cap) l) (hD : Dgo w0 b c r pb Z w t1 G G1 W m1 s1) (hg : w.heap.size ≤ g) (j : Nat) (x : Int) :
    Dgo w0 b c r pb Z w t1 G G1 (W.setCell ⟨g, j, none⟩ (.int .i64 x)) m1 s1 ∧ ORow w0 b c r pb t1 G1 (W.setCell ⟨g, j, none⟩ (.int .i64 x)) (.slice (some ⟨g, 0, none⟩) (l.set j x).length cap) (l.set j x) := by
  have hb : But g W (W.setCell ⟨g, j, none⟩ (.int .i64 x)) := (But.refl _ _).set _ _
  have hl := h.loc g rfl
  refine ⟨hD.aside hb hl (.inr hg), ?_, fun g' e => by cases e; exact hl.same hb.size⟩
  have := (h.own.stored j (.int .i64 x)).1
  have e : (ints l).set j (.int .i64 x) = ints (l.set j x) := by simp [ints, List.map_set]
  rw [e] at this
  rw [List.length_set]
  exact this
end
end Go.Proofs.YtbcpdkmbbgcfbaaDoor
