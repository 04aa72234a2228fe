/- Rows of numbers that a function reads, and that it makes by append, beside port and memory. No condition. -/
import Derived.Test.YtbcpdkmbbgcfbaaDoorNa
import Derived.Maps.AppendAt
import Derived.Laws.OwnMore
namespace Go.Proofs.YtbcpdkmbbgcfbaaDoor
open Go.RowKit Go.Op
set_option maxRecDepth 100000

theorem ints_get {l : List Int} {i : Nat} {x : Int} (h : l[i]? = some x) : (ints l)[i]? = some (.int .i64 x) := by simp [ints, h]
theorem ints_length (l : List Int) : (ints l).length = l.length := List.length_map ..
theorem ints_one (l : List Int) : ∀ u ∈ ints l, u.oneCell' = true := by
  intro u hu
  obtain ⟨_, _, rfl⟩ := List.mem_map.1 hu
  rfl
theorem info3 : (Tryd.prog.info? 3).map (fun i => (i.zero, i.size, i.bytes)) = some (some (.int .i64 0), 1, 8) := by kernel_rfl
/-- A row that a slice names, in a block of the caller's own or among rows that nobody changes. -/
def IRow (w0 : World) (b c r pb : Nat) (t : Value) (G : List (Nat × List Value)) (w : World) (a : Option Addr) (l : List Int) : Prop :=
  l = [] ∨ ∃ g o, a = some ⟨g, o, none⟩ ∧ ((Loc w0 b c r pb t G w g ∧ w.rangeAt g o (ints l)) ∨ ∃ x, (g, x) ∈ G ∧ ∀ i y, (ints l)[i]? = some y → x[o + i]? = some y)
/-- A row that was made by append. -/
structure ORow (w0 : World) (b c r pb : Nat) (t : Value) (G : List (Nat × List Value)) (w : World) (v : Value) (l : List Int) : Prop where
  own : w.ownsRow w0.heap.size 3 1 v l.length (ints l)
  loc : ∀ g, v.ownBlock = some g → Loc w0 b c r pb t G w g
section
variable {w0 : World} {b c r pb po : Nat} {t t1 : Value} {G G1 : List (Nat × List Value)} {w w1 w2 : World} {m m1 : M} {s s1 : Pt} {a : Option Addr} {l : List Int} {v : Value}
theorem rangeAt_same {g o : Nat} {x : List Value} (h : w.rangeAt g o x) (hb : w1.heap[g]? = w.heap[g]?) : w1.rangeAt g o x := fun j v hj => by
  rw [World.cell?_of_block (w := w) (a := ⟨g, o + j, none⟩) hb]; exact h j v hj
theorem IRow.aft (h : IRow w0 b c r pb t G w a l) (ha : Aft w0 b c r pb po t G w t1 G1 w1 m1 s1) : IRow w0 b c r pb t1 G1 w1 a l := by
  refine h.imp id fun ⟨g, o, e, h2⟩ => ⟨g, o, e, ?_⟩
  rcases h2 with ⟨h3, h4⟩ | ⟨x, h3, h4⟩
  · exact .inl ⟨(h3.aft ha).1, rangeAt_same h4 (h3.aft ha).2⟩
  · exact .inr ⟨x, ha.gro.1 _ h3, h4⟩
theorem IRow.later (h : IRow w0 b c r pb t G w a l) (hb : Below w.heap.size w w1) : IRow w0 b c r pb t G w1 a l := by
  refine h.imp id fun ⟨g, o, e, h2⟩ => ⟨g, o, e, h2.imp (fun ⟨h3, h4⟩ => ⟨h3.same hb.size, rangeAt_same h4 (hb.block g h3.lt)⟩) id⟩
theorem IRow.cell (h : IRow w0 b c r pb t G w a l) (hs : SysE w0 b c r pb po t G w m s) {i : Nat} {x : Int} (hx : l[i]? = some x) : ∃ g o, a = some ⟨g, o, none⟩ ∧ w.cell? ⟨g, o + i, none⟩ = some (.int .i64 x) := by
  rcases h with rfl | ⟨g, o, e, h2⟩
  · simp at hx
  · refine ⟨g, o, e, ?_⟩
    rcases h2 with ⟨_, h4⟩ | ⟨y, h3, h4⟩
    · exact h4 i _ (ints_get hx)
    · obtain ⟨m0, s0, h1, -⟩ := hs
      exact (h1.rows g y h3).1.at_ _ _ (h4 i _ (ints_get hx))
theorem IRow.range (h : IRow w0 b c r pb t G w a l) (hs : SysE w0 b c r pb po t G w m s) (h0 : l ≠ []) : ∃ g o, a = some ⟨g, o, none⟩ ∧ w.rangeAt g o (ints l) := by
  rcases h with rfl | ⟨g, o, e, h2⟩
  · exact absurd rfl h0
  · refine ⟨g, o, e, ?_⟩
    rcases h2 with ⟨_, h4⟩ | ⟨y, h3, h4⟩
    · exact h4
    · obtain ⟨m0, s0, h1, -⟩ := hs
      exact fun j u hj => (h1.rows g y h3).1.at_ _ _ (h4 j u hj)
theorem IRow.drop (h : IRow w0 b c r pb t G w a l) {g o : Nat} (e : a = some ⟨g, o, none⟩) (k : Nat) : IRow w0 b c r pb t G w (some ⟨g, o + k, none⟩) (l.drop k) := by
  rcases h with rfl | ⟨g', o', e', h2⟩
  · exact .inl List.drop_nil
  · rw [e] at e'
    cases e'
    have hd : ∀ j : Nat, (ints (l.drop k))[j]? = (ints l)[k + j]? := fun j => by simp [ints, List.getElem?_drop]
    refine .inr ⟨g, o + k, rfl, h2.imp (fun ⟨h3, h4⟩ => ⟨h3, fun j u hj => ?_⟩) fun ⟨x, h3, h4⟩ => ⟨x, h3, fun j u hj => ?_⟩⟩
    · rw [Nat.add_assoc]; exact h4 (k + j) u (by rw [← hd]; exact hj)
    · rw [Nat.add_assoc]; exact h4 (k + j) u (by rw [← hd]; exact hj)
theorem ORow.nil (w : World) : ORow w0 b c r pb t G w (.slice none 0 0) [] := ⟨World.ownsRow_nil _ _ _ _, fun g e => (by cases e)⟩
theorem ORow.same (h : ORow w0 b c r pb t G w v l) (hl : ∀ g, v.ownBlock = some g → Loc w0 b c r pb t1 G1 w1 g ∧ w1.heap[g]? = w.heap[g]?) : ORow w0 b c r pb t1 G1 w1 v l := by
  refine ⟨⟨h.own.1, h.own.2.imp id ?_⟩, fun g e => (hl g e).1⟩
  rintro ⟨g, cap, cur, e, q⟩
  exact ⟨g, cap, cur, e, q.1, by rw [(hl g (by rw [e]; rfl)).2]; exact q.2.1, q.2.2⟩
theorem ORow.aft (h : ORow w0 b c r pb t G w v l) (ha : Aft w0 b c r pb po t G w t1 G1 w1 m1 s1) : ORow w0 b c r pb t1 G1 w1 v l := h.same fun g e => (h.loc g e).aft ha
theorem ORow.later (h : ORow w0 b c r pb t G w v l) (hb : Below w.heap.size w w1) : ORow w0 b c r pb t G w1 v l := h.same fun g e => ⟨(h.loc g e).same hb.size, hb.block g (h.loc g e).lt⟩
/-- What such a slice is. -/
theorem ORow.val (h : ORow w0 b c r pb t G w v l) : ∃ a cap, v = .slice a l.length cap ∧ l.length ≤ cap ∧ IRow w0 b c r pb t G w a l ∧ (∀ g o, a = some ⟨g, o, none⟩ → o = 0) := by
  rcases id h.own.2 with ⟨e, e2⟩ | ⟨g, cap, cur, e, q1, q2, q3, -⟩
  · exact ⟨none, 0, by rw [e, e2], by omega, .inl (List.length_eq_zero_iff.1 e2), fun g o e => (by cases e)⟩
  · refine ⟨_, cap, e, q3, .inr ⟨g, 0, rfl, .inl ⟨h.loc g (by rw [e]; rfl), fun j u hj => ?_⟩⟩, fun g o e => by cases e; rfl⟩
    have := World.ownsRow.cells h.own (g := g) (by rw [e]; rfl) j u hj
    rwa [add_off] at this
/-- Its rows stand among rows that nobody changes. -/
theorem SysE.freeze {g : Nat} {x : List Value} (h : SysE w0 b c r pb po t G w m s) (hl : Loc w0 b c r pb t G w g) (hr : Rw w g x) : SysE w0 b c r pb po t ((g, x) :: G) w m s := by
  obtain ⟨m0, s0, h1, h2, h3, h4⟩ := h
  have hs : ∀ y, y ∈ G → y ∈ (g, x) :: G := fun y hy => List.mem_cons_of_mem _ hy
  refine ⟨m0, s0, ⟨h1.has, h1.pt, h1.nb, h1.tb, h1.hp, fun g' l' hx => ?_⟩, h2.more hs, h3.more hs, h4⟩
  rcases List.mem_cons.1 hx with e | e
  · cases e
    exact ⟨hr, hl.ge, hl.ne.1, hl.ne.2.1, hl.ne.2.2.1, hl.ne.2.2.2, hl.nt⟩
  · exact h1.rows g' l' e
theorem Aft.freeze {g : Nat} {x : List Value} (h : Aft w0 b c r pb po t G w t1 G1 w1 m1 s1) (hl : Loc w0 b c r pb t1 G1 w1 g) (hg : w.heap.size ≤ g) (hr : Rw w1 g x) : Aft w0 b c r pb po t G w t1 ((g, x) :: G1) w1 m1 s1 := by
  refine ⟨h.sys.freeze hl hr, h.but, h.row, ⟨fun y hy => List.mem_cons_of_mem _ (h.gro.1 y hy), fun y hy => ?_⟩⟩
  rcases List.mem_cons.1 hy with e | e
  · cases e; exact .inr hg
  · exact h.gro.2 y e
theorem Loc.freeze {g z : Nat} {x : List Value} (h : Loc w0 b c r pb t G w z) (hne : g ≠ z) : Loc w0 b c r pb t ((g, x) :: G) w z :=
  ⟨h.lt, h.ge, h.ne, h.nt, fun y hy => by
    rcases List.mem_cons.1 hy with e | e
    · cases e; exact hne
    · exact h.ng y e⟩
/-- More is appended. -/
theorem ORow.app (h : ORow w0 b c r pb t1 G1 w1 v l) (hs : Aft w0 b c r pb po t G w t1 G1 w1 m1 s1) (hv : ∀ z, v.ownBlock = some z → w.heap.size ≤ z) (ad : Addr) (cap : Nat) (k : List Int) (hk : ∀ j u, (ints k)[j]? = some u → w1.cell? (ad.add j) = some u) (hl : l.length + k.length ≤ 1000000) (ty : TypeId) :
    ∃ v' w2, (Builtin.append_ #[25, 25] ty #[v, .slice (some ad) k.length cap]).run Tryd.prog w1 = .ok v' w2 ∧ Aft w0 b c r pb po t G w t1 G1 w2 m1 s1 ∧ ORow w0 b c r pb t1 G1 w2 v' (l ++ k) ∧ (∀ z, v'.ownBlock = some z → w.heap.size ≤ z) ∧ w1.heap.size ≤ w2.heap.size ∧ ∀ z, z < w1.heap.size → v.ownBlock ≠ some z → w2.heap[z]? = w1.heap[z]? := by
  obtain ⟨i0, hi, hz0, hz1, hz2⟩ := info_parts info3
  obtain ⟨m0, s0, q1, q2⟩ := id hs.sys
  have hB := q1.has.below.size
  obtain ⟨v', w', hr, ho, hg, _, hn⟩ := run_append_own_at w1 w0.heap.size 25 ty 3 i0 _ 1 8 Tryd.underlying25 hi hz0 hz1 hz2 rfl (by decide) v _ _ h.own ad k.length cap (ints k) (by rw [ints_length]; omega) hk (ints_one k) (by unfold maxLen; omega) (by omega) hB
  have hsz := hg.size
  have hA : Aft w0 b c r pb po t G w t1 G1 w' m1 s1 := by
    cases hvb : v.ownBlock with
    | none =>
      exact hs.later ⟨hg.os, hg.tape, hg.output, hg.size, fun k hk => hg.block k hk (by rw [hvb]; intro e; cases e)⟩
    | some z =>
      exact hs.aside (z := z) ⟨hg.os, hg.tape, hg.output, hg.size, fun k hk hz => hg.block k hk (by rw [hvb]; intro e; cases e; exact hz rfl)⟩ (h.loc z hvb) (hv z hvb)
  refine ⟨v', w', hr, hA, ⟨?_, fun g e => ?_⟩, fun z e => ?_, hsz, fun z hz hne => hg.block z hz (fun e => hne e.symm)⟩
  · have := ho
    rw [show ints l ++ ints k = ints (l ++ k) by simp [ints]] at this
    rw [List.length_append]; exact this
  · rcases hn with e2 | e2
    · exact (h.loc g (e2 ▸ e)).same hsz
    · rw [e2] at e
      cases e
      have o := q1.has.at_.own
      have h2 := q1.pt.lt
      have h3 := o.lb
      have h4 := o.lc
      have h5 := o.lr
      exact ⟨(World.ownsRow.lt ho _ e2).2, hB, ⟨by omega, by omega, by omega, by omega⟩, fun e => by
        have := (World.ownsRow.lt q1.pt.own _ e).2
        omega, fun x hx e => by
        have := (q1.rows x.1 x.2 hx).1.lt
        omega⟩
  · rcases hn with e2 | e2
    · exact hv z (e2 ▸ e)
    · rw [e2] at e
      cases e
      exact hs.but.size
end
/-- An append in a plain region, by what it comes to. -/
theorem append_run2 {P : Program} {w : World} {ops : Array Oper} {rest : List Oper} {o : Oper} {a : Act} {Q : Exit → Act → World → Prop} {v y : Value} {R : Value → World → Prop} (hgd : o.guard = none) (s x : Operand) (t : TypeId)
    (ho : o.op = .call { callee := .builtin .append, args := #[s, x], argTypes := #[t, t] }) (hs : a.eval s = v) (hx : a.eval x = y)
    (hr : ∀ ty, ∃ u w', (Builtin.append_ #[t, t] ty #[v, y]).run P w = .ok u w' ∧ R u w') (h : ∀ u w', R u w' → wpList P ops Q rest (a.put o.dst u) w') : wpList P ops Q (o :: rest) a w := by
  refine wpList_plain hgd fun K hK => ?_
  obtain ⟨u, w', h1, h2⟩ := hr o.type
  unfold Oper.wp execOp
  simp only [ho, resolve, invoke, builtin, Sem.run_bind, Sem.run_pure, Result.andThen_ok, List.map_toArray, List.map_cons, List.map_nil, hs, hx, h1]
  exact hK _ _ (h u w' h2)
end Go.Proofs.YtbcpdkmbbgcfbaaDoor
