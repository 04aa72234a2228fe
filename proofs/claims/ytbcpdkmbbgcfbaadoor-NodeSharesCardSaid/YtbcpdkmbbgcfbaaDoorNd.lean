/- What the closures of Lay and Make, Lay, Make come to. Conditions: at most 500000 asks; at most 90000 links; the library's table stands. -/
import Derived.Test.YtbcpdkmbbgcfbaaDoorNc
namespace Go.Proofs.YtbcpdkmbbgcfbaaDoor
open Go.RowKit Go.Op
set_option maxRecDepth 100000

def ageOf (r : Rv) (done : List Int) : Dat := .age r (done.getD 0 0)
def nodeOf (low : ByteArray) (done : List Int) : Dat := .node low (done.getD 0 0) (done.drop 1)
theorem exists_and_exists {α β : Type} {P : α → Prop} {Q : α → β → Prop} (h : ∃ a b, P a ∧ Q a b) : ∃ a, P a ∧ ∃ b, Q a b := by
  obtain ⟨a, b, h1, h2⟩ := h
  exact ⟨a, h1, b, h2⟩
section
variable {w0 : World} {b c r pb po : Nat} {t t1 : Value} {G G1 : List (Nat × List Value)} {w w1 w2 : World} {m m1 : M} {s s1 : Pt}
theorem getD_cons {l : List Int} {x : Int} (h : l[0]? = some x) : l.getD 0 0 = x := by simp [h]
theorem lay1_E (z : Nat) (rv : Rv) (p : Pl) (hin : rv.In G p) (N : Nat) (hN : 1 ≤ N) : Mk w0 b c r pb po t G w z (rv.row p) (ageOf rv) 59 N := by
  intro t1 G1 w1 m1 s1 a cap done ha ho hnew hdl hd100 hv hzl hgr
  obtain ⟨x, hx⟩ : ∃ x, done[0]? = some x := ⟨_, List.getElem?_eq_getElem (by omega)⟩
  obtain ⟨a2, cap2, hve, hvc, hvi, hv0⟩ := ho.val
  cases hve
  obtain ⟨g, o, eg, hcell⟩ := hvi.cell ha.sys hx
  subst eg
  rw [Nat.add_zero] at hcell
  have hdl0 : 0 < done.length := by omega
  have hdl1 : (0 : Int) < (done.length : Int) := by omega
  have HE : Hid (∀ W, Below w1.heap.size w1 W → ∃ pl G2, Ending.returned (.iface 42 (.agg #[.int .i64 rv.ver, .int .i64 rv.rate, .string rv.lo, .string rv.hi, .bool rv.all, .bool rv.dead, .slice p.s0.a p.s0.n p.s0.cap, .slice p.s1.a p.s1.n p.s1.cap, .slice p.s2.a p.s2.n p.s2.cap, .slice p.s3.a p.s3.n p.s3.cap, .int .i64 x])) = .returned (.iface (ageOf rv done).ty ((ageOf rv done).v pl)) ∧ (ageOf rv done).In G2 pl ∧ Aft w0 b c r pb po t G w t1 G2 W m1 s1 ∧ IRow w0 b c r pb t1 G2 W (some ⟨g, o, none⟩) done) := fun W hW =>
    ⟨p, G1, by simp only [ageOf, getD_cons hx]; rfl, Dat.In.more (d := .age rv 0) hin hgr, ha.later hW, hvi.later hW⟩
  have c0 := hv.cell (i := 0) rfl
  have c1 := hv.cell (i := 1) rfl
  have c2 := hv.cell (i := 2) rfl
  have c3 := hv.cell (i := 3) rfl
  have c4 := hv.cell (i := 4) rfl
  have c5 := hv.cell (i := 5) rfl
  have c6 := hv.cell (i := 6) rfl
  have c7 := hv.cell (i := 7) rfl
  have c8 := hv.cell (i := 8) rfl
  have c9 := hv.cell (i := 9) rfl
  have mk : ∀ (x : Value) (w : World), (Instr.makeInterface 42 x).run Tryd.prog w = .ok (.iface 42 x) w := fun x w => run_makeInterface w 42 x (by kernel_rfl)
  generalize done.length = n at *
  subst hdl
  clear ha ho hv hvi hx hnew hv0
  go_enter Tryd.func59, Tryd.ntmps59
  go_wp2_with fail
  go_quiet (fail)
  go_wp2
  go_ret
  exact HE.out _ (below_drewN _ _)
theorem make1_E (z : Nat) (low : ByteArray) (N : Nat) (hN : 1 ≤ N) : Mk w0 b c r pb po t G w z [.string low] (nodeOf low) 58 N := by
  intro t1 G1 w1 m1 s1 a cap done ha ho hnew hdl hd100 hv hzl hgr
  obtain ⟨x, hx⟩ : ∃ x, done[0]? = some x := ⟨_, List.getElem?_eq_getElem (by omega)⟩
  obtain ⟨a2, cap2, hve, hvc, hvi, hv0⟩ := ho.val
  cases hve
  obtain ⟨g, o, eg, hcell⟩ := hvi.cell ha.sys hx
  subst eg
  rw [Nat.add_zero] at hcell
  obtain rfl := hv0 g o rfl
  have hdl0 : 0 < done.length := by omega
  have hdl1 : (0 : Int) < (done.length : Int) := by omega
  have hdl2 : (1 : Int) ≤ (done.length : Int) := by omega
  have hvc1 : (done.length : Int) ≤ (cap : Int) := by omega
  have hvc2 : (1 : Int) ≤ (cap : Int) := by omega
  have hlg : Loc w0 b c r pb t1 G1 w1 g := ho.loc g rfl
  have hrw : Rw w1 g (ints done) := ⟨hlg.lt, fun i u hi => by
    have := World.ownsRow.cells ho.own (g := g) rfl i u hi
    rwa [add_off, Nat.zero_add] at this⟩
  have HE : Hid (∀ W a' c', c' = cap - 1 → (¬ cap = 1 → a' = some ⟨g, 1, none⟩) → Below w1.heap.size w1 W → ∃ pl G2, Ending.returned (.iface 27 (.agg #[.string low, .int .i64 x, .slice a' (done.length - 1) c'])) = .returned (.iface (nodeOf low done).ty ((nodeOf low done).v pl)) ∧ (nodeOf low done).In G2 pl ∧ Aft w0 b c r pb po t G w t1 G2 W m1 s1 ∧ IRow w0 b c r pb t1 G2 W (some ⟨g, 0, none⟩) done) := by
    intro W a' c' hc' ha' hW
    subst hc'
    refine ⟨⟨⟨a', done.length - 1, cap - 1⟩, .nil, .nil, .nil⟩, (g, ints done) :: G1, by simp only [nodeOf, getD_cons hx]; rfl, ?_, (ha.freeze hlg (hnew g 0 rfl) hrw).later hW, ?_⟩
    · refine ⟨by simp [ints], by simp only; omega, by simp [ints]; omega, ?_⟩
      by_cases h1 : done.length = 1
      · left
        have : done.drop 1 = [] := List.drop_eq_nil_iff.2 (by omega)
        rw [this]; rfl
      · right
        refine ⟨g, 1, ints done, ha' (by omega), List.mem_cons_self, fun i y hy => ?_⟩
        have e1 : (ints (done.drop 1))[i]? = (ints done)[1 + i]? := by
          show ((done.drop 1).map (Value.int .i64))[i]? = (done.map (Value.int .i64))[1 + i]?
          rw [List.getElem?_map, List.getElem?_map, List.getElem?_drop]
        rw [← e1]; exact hy
    · exact .inr ⟨g, 0, rfl, .inr ⟨ints done, List.mem_cons_self, fun i y hy => by rw [Nat.zero_add]; exact hy⟩⟩
  have c0 := hv.cell (i := 0) rfl
  have mk : ∀ (x : Value) (w : World), (Instr.makeInterface 27 x).run Tryd.prog w = .ok (.iface 27 x) w := fun x w => run_makeInterface w 27 x (by kernel_rfl)
  generalize done.length = n at *
  subst hdl
  clear ha ho hv hvi hx hnew hv0 hlg hrw
  go_enter Tryd.func58, Tryd.ntmps58
  go_wp2_with fail
  go_quiet (fail)
  go_wp2
  all_goals
    go_ret
    refine exists_and_exists ?_
    first | refine HE.out _ (some ⟨g, 1, none⟩) (cap - 1) ?_ ?_ (below_drewN _ _) | refine HE.out _ (some ⟨g, 0, none⟩) 0 ?_ ?_ (below_drewN _ _)
    · first | rfl | omega
    · first | exact fun _ => rfl | exact fun h => absurd (by assumption) h
end
end Go.Proofs.YtbcpdkmbbgcfbaaDoor
