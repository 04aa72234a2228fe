/- Rows of boxes, of the reference's boxes, and of lines, that a call itself makes: what append does to them. No condition but their length. -/
import Derived.Test.YtponiboiijgllaaDoorLWalkH
namespace Go.Proofs.YtponiboiijgllaaDoor
open Go.RowKit
set_option maxRecDepth 100000

theorem info52 : (Tryd.prog.info? 52).map (fun i => (i.zero, i.size, i.bytes)) = some (some (.agg #[.nilIface]), 1, 16) := by kernel_rfl
theorem info43 : (Tryd.prog.info? 43).map (fun i => (i.zero, i.size, i.bytes)) = some (some (.agg #[.int .i64 0, .int .i64 0, .string ⟨#[]⟩]), 3, 32) := by kernel_rfl
theorem info32 : (Tryd.prog.info? 32).map (fun i => (i.zero, i.size, i.bytes)) = some (some (.agg #[.int .i64 0, .slice none 0 0]), 2, 32) := by kernel_rfl
theorem info35 : (Tryd.prog.info? 35).map (fun i => (i.zero, i.size, i.bytes)) = some (some (.agg #[.int .i64 0, .slice none 0 0]), 2, 32) := by kernel_rfl

def boxRow (l : List Bx) : List Value := l.map Bx.v
def refRow (l : List Bx) : List Value := l.flatMap fun b => [.int .i64 b.kd, .int .i64 b.int, .string b.str]
theorem refRow_length : ∀ l : List Bx, (refRow l).length = l.length * 3
  | [] => rfl
  | b :: l => by
    have := refRow_length l
    simp only [refRow, List.flatMap_cons, List.length_append, List.length_cons, List.length_nil] at *
    omega
/-- A row of the call's own, n elements of the type T, each of so many cells. -/
def OwnT (T size : Nat) (w : World) (base : Nat) (v : Value) (n : Nat) (xs : List Value) : Prop := w.ownsRow base T size v n xs
theorem OwnT.alloc {T size : Nat} {w : World} {base : Nat} {v : Value} {n : Nat} {xs : List Value} (h : OwnT T size w base v n xs) (o : Obj) : OwnT T size (w.alloc o) base v n xs := World.ownsRow.alloc h o
theorem OwnT.lt {T size : Nat} {w : World} {base : Nat} {v : Value} {n : Nat} {xs : List Value} (h : OwnT T size w base v n xs) : ∀ k, v.ownBlock = some k → base ≤ k ∧ k < w.heap.size := World.ownsRow.lt h
theorem OwnT.below {T size : Nat} {w w' : World} {base : Nat} {v : Value} {n : Nat} {xs : List Value} (h : OwnT T size w base v n xs) (hb : Below w.heap.size w w') : OwnT T size w' base v n xs := by
  obtain ⟨h1, h2⟩ := h
  refine ⟨h1, ?_⟩
  rcases h2 with h2 | ⟨g, cap, cur, rfl, b, c, d⟩
  · exact .inl h2
  · exact .inr ⟨g, cap, cur, rfl, b, by rw [hb.block g (block_lt c)]; exact c, d⟩
/-- What another row's append leaves. -/
theorem OwnT.other {T size T' size' : Nat} {w w' : World} {base base' : Nat} {v v' : Value} {n n' : Nat} {xs xs' : List Value} (h : OwnT T size w base v n xs) (h' : OwnT T' size' w base' v' n' xs') (hT : T ≠ T') (hg : w.grownBy w' v'.ownBlock) : OwnT T size w' base v n xs := by
  obtain ⟨h1, h2⟩ := h
  refine ⟨h1, ?_⟩
  rcases h2 with h2 | ⟨g, cap, cur, rfl, b, c, d⟩
  · exact .inl h2
  · refine .inr ⟨g, cap, cur, rfl, b, ?_, d⟩
    rw [hg.block g (block_lt c)]
    · exact c
    · intro e
      rcases h'.2 with ⟨rfl, _⟩ | ⟨g', cap', cur', rfl, _, hg', _⟩
      · simp [Value.ownBlock] at e
      · simp [Value.ownBlock] at e
        rw [e, hg'] at c
        simp at c
        exact hT c.2.symm
/-- A block of another type stays. -/
theorem block_other {T size : Nat} {w w' : World} {base : Nat} {v : Value} {n : Nat} {xs : List Value} (h' : OwnT T size w base v n xs) {g : Nat} {cur : Array Value} {T' : Nat} (c : w.heap[g]? = some (.cells cur T' (0, 0))) (hT : T' ≠ T) (hg : w.grownBy w' v.ownBlock) : w'.heap[g]? = some (.cells cur T' (0, 0)) := by
  rw [hg.block g (block_lt c)]
  · exact c
  · intro e
    rcases h'.2 with ⟨rfl, _⟩ | ⟨g', cap', cur', rfl, _, hg', _⟩
    · simp [Value.ownBlock] at e
    · simp [Value.ownBlock] at e
      rw [e, hg'] at c
      simp at c
      exact hT c.2.symm
theorem OwnT.nil (T size : Nat) (w : World) (base : Nat) : OwnT T size w base (.slice none 0 0) 0 [] := World.ownsRow_nil _ _ _ _
theorem below_own {T size : Nat} {B : Nat} {a w w' : World} {o : Obj} {v : Value} {n : Nat} {xs : List Value} (h : Below B a w) (hown : OwnT T size w a.heap.size v n xs) (hg : (w.alloc o).grownBy w' v.ownBlock) (hB : B = a.heap.size := by rfl) : Below B a w' := by
  subst hB
  have := h.size
  exact (h.alloc (by omega) _).grown hg (by simp; omega) (fun k hk => (hown.lt k hk).1)
theorem cells_three (w : World) (x y z : Value) (t : TypeId) : ∀ j u, [x, y, z][j]? = some u → (w.alloc (.cells #[x, y, z] t)).cell? ((⟨w.heap.size, 0, none⟩ : Addr).add j) = some u := by
  intro j u hj
  match j, hj with
  | 0, hj => simp at hj; subst hj; simp [Addr.add]
  | 1, hj => simp at hj; subst hj; simp [Addr.add]
  | 2, hj => simp at hj; subst hj; simp [Addr.add]
  | (j + 3), hj => simp at hj
theorem cells_two (w : World) (x y : Value) (t : TypeId) : ∀ j u, [x, y][j]? = some u → (w.alloc (.cells #[x, y] t)).cell? ((⟨w.heap.size, 0, none⟩ : Addr).add j) = some u := by
  intro j u hj
  match j, hj with
  | 0, hj => simp at hj; subst hj; simp [Addr.add]
  | 1, hj => simp at hj; subst hj; simp [Addr.add]
  | (j + 2), hj => simp at hj

theorem box_one (b : Bx) : b.v.oneCell' = true := by cases b <;> rfl
theorem wpList_append_box {ops : Array Oper} {rest : List Oper} {o : Oper} {a : Act} {w : World} {Q : Exit → Act → World → Prop}
    (hg : o.guard = none) (s x : Operand) (hop : o.op = Op.call { callee := Callee.builtin Builtin.append, args := #[s, x], argTypes := #[30, 30] })
    (base : Nat) (v : Value) (l : List Bx) (hs : a.eval s = v) (hown : OwnT 52 1 w base v l.length (boxRow l))
    (ad : Addr) (c : Nat) (b : Bx) (hx : a.eval x = .slice (some ad) 1 c) (hc : ∀ j u, [b.v][j]? = some u → w.cell? (ad.add j) = some u) (hb : l.length + 1 ≤ 100000000) (hbase : base ≤ w.heap.size)
    (hK : ∀ v' w', OwnT 52 1 w' base v' (l ++ [b]).length (boxRow (l ++ [b])) → w.grownBy w' v.ownBlock → wpList Tryd.prog ops Q rest (a.put o.dst v') w') :
    wpList Tryd.prog ops Q (o :: rest) a w := by
  obtain ⟨i0, hi, hz0, hz1, hz2⟩ := info_parts info52
  refine wpList_append_own w hg s x 30 hop base 52 i0 (.agg #[.nilIface]) 1 16 Tryd.underlying30 hi hz0 hz1 hz2 rfl (by decide) v _ _ hs hown ad 1 c [b.v] hx rfl hc (by intro u hu; simp at hu; subst hu; exact box_one b) (by unfold maxLen; omega) (by omega) hbase ?_
  intro v' w' h1 h2 _
  refine hK v' w' ?_ h2
  unfold OwnT boxRow
  rw [List.map_append, List.length_append]
  exact h1
theorem wpList_append_ref {ops : Array Oper} {rest : List Oper} {o : Oper} {a : Act} {w : World} {Q : Exit → Act → World → Prop}
    (hg : o.guard = none) (s x : Operand) (hop : o.op = Op.call { callee := Callee.builtin Builtin.append, args := #[s, x], argTypes := #[33, 33] })
    (base : Nat) (v : Value) (l : List Bx) (hs : a.eval s = v) (hown : OwnT 43 3 w base v l.length (refRow l))
    (ad : Addr) (c : Nat) (b : Bx) (hx : a.eval x = .slice (some ad) 1 c) (hc : ∀ j u, [Value.int .i64 b.kd, .int .i64 b.int, .string b.str][j]? = some u → w.cell? (ad.add j) = some u) (hb : l.length + 1 ≤ 100000000) (hbase : base ≤ w.heap.size)
    (hK : ∀ v' w', OwnT 43 3 w' base v' (l ++ [b]).length (refRow (l ++ [b])) → w.grownBy w' v.ownBlock → wpList Tryd.prog ops Q rest (a.put o.dst v') w') :
    wpList Tryd.prog ops Q (o :: rest) a w := by
  obtain ⟨i0, hi, hz0, hz1, hz2⟩ := info_parts info43
  refine wpList_append_own w hg s x 33 hop base 43 i0 (.agg #[.int .i64 0, .int .i64 0, .string ⟨#[]⟩]) 3 32 Tryd.underlying33 hi hz0 hz1 hz2 rfl (by decide) v _ _ hs hown ad 1 c [.int .i64 b.kd, .int .i64 b.int, .string b.str] hx rfl hc (by intro u hu; simp at hu; rcases hu with rfl | rfl | rfl <;> rfl) (by unfold maxLen; omega) (by omega) hbase ?_
  intro v' w' h1 h2 _
  refine hK v' w' ?_ h2
  unfold OwnT
  rw [show refRow (l ++ [b]) = refRow l ++ [.int .i64 b.kd, .int .i64 b.int, .string b.str] by simp [refRow], List.length_append]
  exact h1
/-- A line, as two cells. -/
def lineRow (l : List (Nat × Value)) : List Value := l.flatMap fun p => [.int .i64 p.1, p.2]
def IsSlice (v : Value) : Prop := ∃ a n c, v = .slice a n c
theorem wpList_append_line {ops : Array Oper} {rest : List Oper} {o : Oper} {a : Act} {w : World} {Q : Exit → Act → World → Prop} (S E : Nat) (hSE : (S = 23 ∧ E = 32) ∨ (S = 27 ∧ E = 35))
    (hg : o.guard = none) (s x : Operand) (hop : o.op = Op.call { callee := Callee.builtin Builtin.append, args := #[s, x], argTypes := #[S, S] })
    (base : Nat) (v : Value) (l : List (Nat × Value)) (hs : a.eval s = v) (hown : OwnT E 2 w base v l.length (lineRow l))
    (ad : Addr) (c : Nat) (p : Nat × Value) (hp : IsSlice p.2) (hx : a.eval x = .slice (some ad) 1 c) (hc : ∀ j u, [Value.int .i64 p.1, p.2][j]? = some u → w.cell? (ad.add j) = some u) (hb : l.length + 1 ≤ 100000000) (hbase : base ≤ w.heap.size)
    (hK : ∀ v' w', OwnT E 2 w' base v' (l ++ [p]).length (lineRow (l ++ [p])) → w.grownBy w' v.ownBlock → wpList Tryd.prog ops Q rest (a.put o.dst v') w') :
    wpList Tryd.prog ops Q (o :: rest) a w := by
  have h1c : ∀ u ∈ [Value.int .i64 p.1, p.2], u.oneCell' = true := by
    intro u hu
    obtain ⟨a', n', c', e⟩ := hp
    simp at hu
    rcases hu with rfl | rfl
    · rfl
    · rw [e]; rfl
  have hK' : ∀ v' w', w'.ownsRow base E 2 v' (l.length + 1) (lineRow l ++ [.int .i64 p.1, p.2]) → w.grownBy w' v.ownBlock → wpList Tryd.prog ops Q rest (a.put o.dst v') w' := by
    intro v' w' h1 h2
    refine hK v' w' ?_ h2
    unfold OwnT
    rw [show lineRow (l ++ [p]) = lineRow l ++ [.int .i64 p.1, p.2] by simp [lineRow], List.length_append]
    exact h1
  rcases hSE with ⟨rfl, rfl⟩ | ⟨rfl, rfl⟩
  · obtain ⟨i0, hi, hz0, hz1, hz2⟩ := info_parts info32
    exact wpList_append_own w hg s x 23 hop base 32 i0 (.agg #[.int .i64 0, .slice none 0 0]) 2 32 Tryd.underlying23 hi hz0 hz1 hz2 rfl (by decide) v _ _ hs hown ad 1 c [.int .i64 p.1, p.2] hx rfl hc h1c (by unfold maxLen; omega) (by omega) hbase fun v' w' h1 h2 _ => hK' v' w' h1 h2
  · obtain ⟨i0, hi, hz0, hz1, hz2⟩ := info_parts info35
    exact wpList_append_own w hg s x 27 hop base 35 i0 (.agg #[.int .i64 0, .slice none 0 0]) 2 32 Tryd.underlying27 hi hz0 hz1 hz2 rfl (by decide) v _ _ hs hown ad 1 c [.int .i64 p.1, p.2] hx rfl hc h1c (by unfold maxLen; omega) (by omega) hbase fun v' w' h1 h2 _ => hK' v' w' h1 h2
end Go.Proofs.YtponiboiijgllaaDoor
