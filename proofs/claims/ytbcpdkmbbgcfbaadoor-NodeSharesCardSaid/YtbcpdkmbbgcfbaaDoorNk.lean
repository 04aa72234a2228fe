/- What upTo comes to: the first age of a chain that isn't newer than a version. Conditions: at most 700000 asks; so many ages at most as are told. -/
import Derived.Test.YtbcpdkmbbgcfbaaDoorNj
namespace Go.Proofs.YtbcpdkmbbgcfbaaDoor
open Go.RowKit Go.Op
set_option maxRecDepth 100000
attribute [local go_sem] Oper.semAt_some

/-- A load, a store in a round, by their runs. -/
theorem store_runI {F : Fence} {n : Nat} {P : Program} {w w' : World} {ops : Array Oper} {rest : List Oper} {o : Oper} {a : Act} {Q : Exit → Act → World → Prop} {v y : Value} (hgd : o.guard = none) (x z : Operand) (t : TypeId)
    (ho : o.op = .store t x z) (hx : a.eval x = v) (hz : a.eval z = y) (hr : (Instr.storeAt t v y).run P w = .ok () w') (h : wpListIn F n P ops Q rest (a.put o.dst undef) w') : wpListIn F n P ops Q (o :: rest) a w := by
  refine wpListIn_plain hgd fun K hK => ?_
  unfold Oper.wpIn
  refine ⟨?_, ?_⟩
  · simp [Oper.about, ho]
  · rw [Oper.semAt_plain F _ _ (by rw [ho]; intro c hc'; cases hc')]
    unfold execOp
    simp only [ho, hx, hz, Sem.run_bind, Sem.run_pure, Result.andThen_ok, hr]
    exact hK _ _ h
theorem load_runI {F : Fence} {n : Nat} {P : Program} {w : World} {ops : Array Oper} {rest : List Oper} {o : Oper} {a : Act} {Q : Exit → Act → World → Prop} {v u : Value} (hgd : o.guard = none) (x : Operand) (t : TypeId)
    (ho : o.op = .load t x) (hx : a.eval x = v) (hr : (Instr.loadAt t v).run P w = .ok u w) (h : wpListIn F n P ops Q rest (a.put o.dst u) w) : wpListIn F n P ops Q (o :: rest) a w := by
  refine wpListIn_plain hgd fun K hK => ?_
  unfold Oper.wpIn
  refine ⟨?_, ?_⟩
  · simp [Oper.about, ho]
  · rw [Oper.semAt_plain F _ _ (by rw [ho]; intro c hc'; cases hc')]
    unfold execOp
    simp only [ho, hx, Sem.run_bind, Sem.run_pure, Result.andThen_ok, hr]
    exact hK _ _ h
/-- The marks that a range over a function leaves, at the function's end. -/
theorem leave_ret {fn : Func} {ts : Array Value} {R : Ending → World → Prop} {W : World} {B : Nat} {v : Value} (hK : W.heap[B]? = some (.deferred (some []))) (hr : (results fn ts).run Tryd.prog (W.putObj B (.deferred none)) = .ok v (W.putObj B (.deferred none))) (hR : R (.returned v) (W.putObj B (.deferred none))) :
    LeavesInM Fence.wide 0 Tryd.prog fn ts R [{ target := .collected B, args := #[] }] .returning W :=
  ⟨by simp, .inl ⟨B, _, rfl, run_takeDeferred hK, v, hr, hR⟩⟩
theorem leave_die {fn : Func} {ts : Array Value} {R : Ending → World → Prop} {W : World} {B : Nat} {ch : List PanicEntry} (hK : W.heap[B]? = some (.deferred (some []))) (hR : R (.panicked ch) (W.putObj B (.deferred none))) :
    LeavesInM Fence.wide 0 Tryd.prog fn ts R [{ target := .collected B, args := #[] }] (.panicking ch) W :=
  ⟨by simp, .inl ⟨B, _, rfl, run_takeDeferred hK, hR⟩⟩
section
variable {w0 : World} {b c r pb po : Nat} {t t1 : Value} {G G1 : List (Nat × List Value)} {w w1 w2 : World} {m m1 : M} {s s1 : Pt}
/-- Variables of the caller's own. -/
def Vars (w0 : World) (b c r pb : Nat) (t : Value) (G : List (Nat × List Value)) (W : World) (L : List (Nat × List Value)) : Prop := ∀ x, x ∈ L → Loc w0 b c r pb t G W x.1 ∧ SVar W x.1 x.2
theorem Vars.aft {L : List (Nat × List Value)} (h : Vars w0 b c r pb t G w L) (ha : Aft w0 b c r pb po t G w t1 G1 w1 m1 s1) : Vars w0 b c r pb t1 G1 w1 L := fun x hx => ⟨((h x hx).1.aft ha).1, (h x hx).2.same ha.but.size ((h x hx).1.aft ha).2⟩
theorem Vars.but {L : List (Nat × List Value)} {z : Nat} (h : Vars w0 b c r pb t G w L) (hb : But z w w1) (hz : ∀ x, x ∈ L → x.1 ≠ z) : Vars w0 b c r pb t G w1 L := fun x hx => ⟨(h x hx).1.same hb.size, (h x hx).2.same hb.size (hb.block _ (h x hx).2.lt (hz x hx))⟩
theorem Vars.later {L : List (Nat × List Value)} (h : Vars w0 b c r pb t G w L) (hb : Below w.heap.size w w1) : Vars w0 b c r pb t G w1 L := fun x hx => ⟨(h x hx).1.same hb.size, (h x hx).2.later hb⟩
theorem Vars.nil : Vars w0 b c r pb t G w [] := fun x hx => (by cases hx)
theorem Vars.new {L : List (Nat × List Value)} (h : Vars w0 b c r pb t G w L) (hs : SysE w0 b c r pb po t G w m s) (row : List Value) (ty : TypeId) : Vars w0 b c r pb t G (w.alloc (.cells row.toArray ty)) ((w.heap.size, row) :: L) := fun x hx => by
  rcases List.mem_cons.1 hx with rfl | hx
  · exact ⟨hs.fresh _, snew w row ty⟩
  · exact h.later ((Below.refl _ _).alloc (Nat.le_refl _) _) x hx
theorem Vars.sub {L L' : List (Nat × List Value)} (h : Vars w0 b c r pb t G w L) (hs : ∀ x, x ∈ L' → x ∈ L) : Vars w0 b c r pb t G w L' := fun x hx => h x (hs x hx)
theorem chain_E (w : World) (p : Addr) (h : Int) (fid : FuncId) (fst cap : Array Value) :
    Calls Tryd.prog 52 #[.pointer (some p), .int .i64 h, .func (.func fid) fst cap] w fun e w' => e = .returned (.func (.func 69) #[] #[.pointer (some ⟨w.heap.size + 1, 0, none⟩), .pointer (some ⟨w.heap.size, 0, none⟩), .pointer (some ⟨w.heap.size + 2, 0, none⟩)]) ∧ w' = ((w.alloc (.cells #[.pointer (some p)] 34)).alloc (.cells #[.int .i64 h] 3)).alloc (.cells #[.func (.func fid) fst cap] 73) := by
  have hm := hmf
  go_enter Tryd.func52, Tryd.ntmps52
  go_wp2
  go_ret
  exact ⟨rfl, rfl⟩
end
end Go.Proofs.YtbcpdkmbbgcfbaaDoor
