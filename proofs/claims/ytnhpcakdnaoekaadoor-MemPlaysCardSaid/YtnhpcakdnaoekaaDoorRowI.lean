/- A row of numbers of the call's own: what stands in it, that it stays, and what append makes of it. Condition: at most 1000000 numbers. -/
import Derived.Test.YtnhpcakdnaoekaaDoorLawW
import Derived.Maps.AppendAt
namespace Go.Proofs.YtnhpcakdnaoekaaDoor
open Go.RowKit Go.Op
set_option maxRecDepth 100000

def numRow (l : List Int) : List Value := l.map (Value.int .i64)
def OwnI (w : World) (B : Nat) (v : Value) (l : List Int) : Prop := w.ownsRow B 3 1 v l.length (numRow l)
theorem own_lt {w : World} {g : Nat} {o : Obj} (c : w.heap[g]? = some o) : g < w.heap.size := (Array.getElem?_eq_some_iff.1 c).1
theorem OwnI.nil (w : World) (B : Nat) : OwnI w B (.slice none 0 0) [] := World.ownsRow_nil _ _ _ _
theorem OwnI.of {w w' : World} {B : Nat} {v : Value} {l : List Int} (h : OwnI w B v l) (hk : ∀ k, B ≤ k → k < w.heap.size → w'.heap[k]? = w.heap[k]?) : OwnI w' B v l := by
  obtain ⟨h1, h2⟩ := h
  refine ⟨h1, ?_⟩
  rcases h2 with h2 | ⟨g, cap, cur, rfl, b, c, d⟩
  · exact .inl h2
  · exact .inr ⟨g, cap, cur, rfl, b, by rw [hk g b (own_lt c)]; exact c, d⟩
theorem OwnI.below {w w' : World} {B : Nat} {v : Value} {l : List Int} (h : OwnI w B v l) (hb : Below w.heap.size w w') : OwnI w' B v l := h.of fun k _ hk => hb.block k hk
theorem OwnI.kept {w w' : World} {B b c r : Nat} {v : Value} {l : List Int} (h : OwnI w B v l) (hk : Kept b c r w w') (hB : b < B ∧ c < B ∧ r < B) : OwnI w' B v l := h.of fun k h1 h2 => hk.block k h2 (by omega) (by omega) (by omega)
theorem OwnI.see {w : World} {B : Nat} {v : Value} {l : List Int} (h : OwnI w B v l) : ∃ a c, v = .slice a l.length c ∧ ∀ k (hk : k < l.length), ∃ g, a = some ⟨g, 0, none⟩ ∧ w.cell? ⟨g, k, none⟩ = some (.int .i64 (l[k]'hk)) := by
  rcases h.2 with ⟨rfl, h2⟩ | ⟨g, cap, cur, rfl, b, c, d⟩
  · have : l = [] := List.eq_nil_of_length_eq_zero h2
    subst this
    exact ⟨none, 0, rfl, fun k hk => by simp at hk⟩
  · refine ⟨some ⟨g, 0, none⟩, cap, rfl, fun k hk => ⟨g, rfl, ?_⟩⟩
    have := World.ownsRow.cells h (g := g) rfl k (.int .i64 (l[k]'hk)) (by simp [numRow, hk])
    rw [show (⟨g, 0, none⟩ : Addr).add k = ⟨g, k, none⟩ by simp [Addr.add]; rintro rfl; rfl] at this
    exact this
theorem num_one (l : List Int) : ∀ u ∈ numRow l, u.oneCell' = true := by
  intro u hu
  simp [numRow] at hu
  obtain ⟨x, _, rfl⟩ := hu
  rfl
theorem info3 : (Tryd.prog.info? 3).map (fun i => (i.zero, i.size, i.bytes)) = some (some (.int .i64 0), 1, 8) := by kernel_rfl
theorem append1 {ops : Array Oper} {rest : List Oper} {o : Oper} {a : Act} {w : World} {Q : Exit → Act → World → Prop}
    (hg : o.guard = none) (s x : Operand) (hop : o.op = Op.call { callee := Callee.builtin Builtin.append, args := #[s, x], argTypes := #[33, 33] })
    (B : Nat) (v : Value) (l : List Int) (n : Int) (hs : a.eval s = v) (hown : OwnI w B v l) (g c : Nat) (hx : a.eval x = .slice (some ⟨g, 0, none⟩) 1 c) (hc : w.cell? ⟨g, 0, none⟩ = some (.int .i64 n))
    (hl : l.length ≤ 1000000) (hB : B ≤ w.heap.size)
    (hK : ∀ v' w', OwnI w' B v' (l ++ [n]) → w.grownBy w' v.ownBlock → (v'.ownBlock = v.ownBlock ∨ v'.ownBlock = some w.heap.size) → wpList Tryd.prog ops Q rest (a.put o.dst v') w') :
    wpList Tryd.prog ops Q (o :: rest) a w := by
  obtain ⟨i0, hi, hz0, hz1, hz2⟩ := info_parts info3
  refine wpList_append_own_at w hg s x 33 hop B 3 i0 (.int .i64 0) 1 8 Tryd.underlying33 hi hz0 hz1 hz2 rfl (by decide) v _ _ hs hown ⟨g, 0, none⟩ 1 c [.int .i64 n] hx rfl ?_ (num_one [n]) (by unfold maxLen; omega) (by omega) hB ?_
  · intro j u hu
    match j, hu with
    | 0, hu =>
      simp at hu
      subst hu
      exact hc
  · intro v' w' h1 h2 _ h4
    refine hK v' w' ?_ h2 h4
    unfold OwnI numRow
    rw [List.map_append, List.length_append]
    exact h1
theorem OwnI.lt {w : World} {B : Nat} {v : Value} {l : List Int} (h : OwnI w B v l) : ∀ k, v.ownBlock = some k → B ≤ k ∧ k < w.heap.size := World.ownsRow.lt h
/-- Behind an append to a row of the call's own. -/
theorem grown_below {w w' : World} {B : Nat} {v : Value} {l : List Int} (h : OwnI w B v l) (hg : w.grownBy w' v.ownBlock) (hB : B ≤ w.heap.size) : Below B w w' :=
  (Below.refl B w).grown hg hB fun k hk => (h.lt k hk).1
theorem Has.keep {w0 w w' : World} {b c r B : Nat} {N : Int} {m : M} (h : Has w0 b c r N w m) (hb : Below B w w') (hB : b < B ∧ c < B ∧ r < B) (h0 : w0.heap.size ≤ B) : Has w0 b c r N w' m :=
  ⟨AtF.keep h.at_ hb hB.1 hB.2.1 hB.2.2, h.ok, h.below.trans (hb.mono h0), h.hb, h.hc, h.hr⟩
end Go.Proofs.YtnhpcakdnaoekaaDoor
