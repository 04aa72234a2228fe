/- The law's yard: what its closure that lays it comes to. Conditions: each cell that is asked for can be had; the library's table stands. -/
import Derived.Test.YteiikkkcjpfapaaDoorTn
namespace Go.Proofs.YteiikkkcjpfapaaDoor
open Go.RowKit Go.Op
set_option maxRecDepth 100000

def numRow (l : List Int) : List Value := l.map (Value.int .i64)
def OwnI (w : World) (B : Nat) (v : Value) (l : List Int) : Prop := w.ownsRow B 3 1 v l.length (numRow l)
theorem own_lt {w : World} {g : Nat} {o : Obj} (c : w.heap[g]? = some o) : g < w.heap.size := (Array.getElem?_eq_some_iff.1 c).1
theorem OwnI.nil (w : World) (B : Nat) : OwnI w B (.slice none 0 0) [] := World.ownsRow_nil _ _ _ _
theorem OwnI.of {w w' : World} {B : Nat} {v : Value} {l : List Int} (h : OwnI w B v l) (hk : ∀ k, B ≤ k → k < w.heap.size → w'.heap[k]? = w.heap[k]?) : OwnI w' B v l := by
  obtain ⟨h1, h2⟩ := h
  refine ⟨h1, ?_⟩
  rcases h2 with h2 | ⟨g, cap, cur, rfl, b, c, d⟩
  · exact .inl h2
  · exact .inr ⟨g, cap, cur, rfl, b, by rw [hk g b (own_lt c)]; exact c, d⟩
theorem OwnI.below {w w' : World} {B : Nat} {v : Value} {l : List Int} (h : OwnI w B v l) (hb : Below w.heap.size w w') : OwnI w' B v l := h.of fun k _ hk => hb.block k hk
theorem OwnI.see {w : World} {B : Nat} {v : Value} {l : List Int} (h : OwnI w B v l) : ∃ a c, v = .slice a l.length c ∧ ∀ k (hk : k < l.length), ∃ g, a = some ⟨g, 0, none⟩ ∧ w.cell? ⟨g, k, none⟩ = some (.int .i64 (l[k]'hk)) := by
  rcases h.2 with ⟨rfl, h2⟩ | ⟨g, cap, cur, rfl, b, c, d⟩
  · have : l = [] := List.eq_nil_of_length_eq_zero h2
    subst this
    exact ⟨none, 0, rfl, fun k hk => by simp at hk⟩
  · refine ⟨some ⟨g, 0, none⟩, cap, rfl, fun k hk => ⟨g, rfl, ?_⟩⟩
    have := World.ownsRow.cells h (g := g) rfl k (.int .i64 (l[k]'hk)) (by simp [numRow, hk])
    rw [show (⟨g, 0, none⟩ : Addr).add k = ⟨g, k, none⟩ by simp [Addr.add]; rintro rfl; rfl] at this
    exact this
theorem num_one (l : List Int) : ∀ u ∈ numRow l, u.oneCell' = true := by
  intro u hu
  simp [numRow] at hu
  obtain ⟨x, _, rfl⟩ := hu
  rfl
theorem info3 : (Tryd.prog.info? 3).map (fun i => (i.zero, i.size, i.bytes)) = some (some (.int .i64 0), 1, 8) := by kernel_rfl
theorem append1 {ops : Array Oper} {rest : List Oper} {o : Oper} {a : Act} {w : World} {Q : Exit → Act → World → Prop}
    (hg : o.guard = none) (s x : Operand) (hop : o.op = Op.call { callee := Callee.builtin Builtin.append, args := #[s, x], argTypes := #[25, 25] })
    (B : Nat) (v : Value) (l : List Int) (n : Int) (hs : a.eval s = v) (hown : OwnI w B v l) (g c : Nat) (hx : a.eval x = .slice (some ⟨g, 0, none⟩) 1 c) (hc : w.cell? ⟨g, 0, none⟩ = some (.int .i64 n))
    (hl : l.length ≤ 1000000) (hB : B ≤ w.heap.size)
    (hK : ∀ v' w', OwnI w' B v' (l ++ [n]) → w.grownBy w' v.ownBlock → (v'.ownBlock = v.ownBlock ∨ v'.ownBlock = some w.heap.size) → wpList Tryd.prog ops Q rest (a.put o.dst v') w') :
    wpList Tryd.prog ops Q (o :: rest) a w := by
  obtain ⟨i0, hi, hz0, hz1, hz2⟩ := info_parts info3
  refine wpList_append_own_at w hg s x 25 hop B 3 i0 (.int .i64 0) 1 8 Tryd.underlying25 hi hz0 hz1 hz2 rfl (by decide) v _ _ hs hown ⟨g, 0, none⟩ 1 c [.int .i64 n] hx rfl ?_ (num_one [n]) (by unfold maxLen; omega) (by omega) hB ?_
  · intro j u hu
    match j, hu with
    | 0, hu =>
      simp at hu
      subst hu
      exact hc
  · intro v' w' h1 h2 _ h4
    refine hK v' w' ?_ h2 h4
    unfold OwnI numRow
    rw [List.map_append, List.length_append]
    exact h1
theorem OwnI.lt {w : World} {B : Nat} {v : Value} {l : List Int} (h : OwnI w B v l) : ∀ k, v.ownBlock = some k → B ≤ k ∧ k < w.heap.size := World.ownsRow.lt h

/-- The yard's memory and handles behind so many words. -/
def layS (m0 : M) : Nat → M × List Int
  | 0 => (m0, [])
  | i + 1 => (((layS m0 i).1.alloc (.word i)).1, (layS m0 i).2 ++ [((layS m0 i).1.alloc (.word i)).2.1])
theorem layS_len (m0 : M) : ∀ i, (layS m0 i).2.length = i
  | 0 => rfl
  | i + 1 => by simp [layS, layS_len m0 i]
theorem layS_count (m0 : M) : ∀ i, (layS m0 i).1.count = m0.count + i
  | 0 => by simp [layS]
  | i + 1 => by
    have h := on_count (.alloc (.word i)) (layS m0 i).1
    have ih := layS_count m0 i
    show ((layS m0 i).1.alloc (.word i)).1.count = _
    have h2 : ((Qn.alloc (.word i)).on (layS m0 i).1).1.count = ((layS m0 i).1.alloc (.word i)).1.count := rfl
    push_cast
    omega
/-- A yard's variable. -/
structure YVar (w : World) (z : Nat) (b : Nat) (top : Int) (v : Value) : Prop where
  c0 : w.cell? ⟨z, 0, none⟩ = some (.pointer (some ⟨b, 0, none⟩))
  c1 : w.cell? ⟨z, 1, none⟩ = some (.int .i64 top)
  c2 : w.cell? ⟨z, 2, none⟩ = some v
  fz : ∀ i, w.frozen? ⟨z, i, none⟩ = false
theorem YVar.same {w w1 : World} {z b : Nat} {top : Int} {v : Value} (h : YVar w z b top v) (hk : w1.heap[z]? = w.heap[z]?) : YVar w1 z b top v :=
  have k : ∀ i, w1.cell? ⟨z, i, none⟩ = w.cell? ⟨z, i, none⟩ := fun i => World.cell?_of_block (w := w) hk
  ⟨(k 0).trans h.c0, (k 1).trans h.c1, (k 2).trans h.c2, fun i => by rw [World.frozen?_of_block (w := w) (a := ⟨z, i, none⟩) hk]; exact h.fz i⟩
/-- In the midst of laying. -/
structure LMid (w0 : World) (b c r : Nat) (G : List (Nat × List Sw)) (zy zo : Nat) (w : World) (m0 : M) (top : Int) (i : Nat) (v : Value) (wr : World) : Prop where
  dgo : ∃ t1 G1, Dgo w0 b c r w.heap.size [b, c, r, zy, zo] w t1 G G1 wr (layS m0 i).1 (ptDo w b) ∧ ∀ g, v.ownBlock = some g → Loc w0 b c r w.heap.size t1 G1 wr g
  y : YVar wr zy b top v
  o : wr.cell? ⟨zo, 0, none⟩ = some (.bool true)
  fo : wr.frozen? ⟨zo, 0, none⟩ = false
  own : OwnI wr (w.heap.size + 1) v (layS m0 i).2
end Go.Proofs.YteiikkkcjpfapaaDoor
