/- What run answers: the deferred closure meets what a port panics with, and nothing else. Conditions: the function leaves all but memory's blocks, the port's and its row's as it was. -/
import Derived.Test.YteiikkkcjpfapaaDoorStDl
import Derived.Lib.Builder
import Derived.Defers
import Derived.Recover
namespace Go.Proofs.YteiikkkcjpfapaaDoor
open Go.RowKit Go.Op
set_option maxRecDepth 100000

/-- More rows of swaps; the new ones stand in blocks that weren't there. -/
def Grow (w : World) (G G' : List (Nat × List Sw)) : Prop := (∀ x, x ∈ G → x ∈ G') ∧ ∀ x, x ∈ G' → x ∈ G ∨ w.heap.size ≤ x.1
theorem Grow.refl (w : World) (G : List (Nat × List Sw)) : Grow w G G := ⟨fun _ h => h, fun _ h => .inl h⟩
theorem Grow.trans {w w' : World} {G G' G'' : List (Nat × List Sw)} (h : Grow w G G') (hs : w.heap.size ≤ w'.heap.size) (k : Grow w' G' G'') : Grow w G G'' :=
  ⟨fun x hx => k.1 x (h.1 x hx), fun x hx => (k.2 x hx).elim (h.2 x) fun e => .inr (Nat.le_trans hs e)⟩
theorem Grow.from {w w1 : World} {G G' : List (Nat × List Sw)} (h : Grow w1 G G') (hs : w.heap.size ≤ w1.heap.size) : Grow w G G' := ⟨h.1, fun x hx => (h.2 x hx).imp id fun e => Nat.le_trans hs e⟩

theorem as108_no (w : World) : (Instr.typeAssert .nilIface 20 117 true).run Tryd.prog w = .ok (.tuple #[.agg #[.pointer none], .bool false]) w := by kernel_rfl
theorem as108_yes (v : Value) (w : World) : (Instr.typeAssert (.iface 117 v) 20 117 true).run Tryd.prog w = .ok (.tuple #[v, .bool true]) w := by kernel_rfl

theorem neq58_same (a : Addr) (w : World) : (binOp .neq 36 (.pointer (some a)) (.pointer (some a))).run Tryd.prog w = .ok (.bool false) w := by
  obtain ⟨j, hj⟩ : ∃ j, Tryd.prog.info? 84 = some j := ⟨_, rfl⟩
  exact Lib.run_neq_ptr_same w a Tryd.underlying36 hj
theorem slots57 (x y : Value) : #[x] ++ ((Array.replicate 22 undef).setIfInBounds 3 y).setIfInBounds 0 y = #[x, y, undef, undef, y, undef, undef, undef, undef, undef, undef, undef, undef, undef, undef, undef, undef, undef, undef, undef, undef, undef, undef] := by kernel_rfl
theorem catch_idle (p : Addr) (w : World) :
    CallsD Tryd.prog 73 #[.pointer (some p)] .returning w fun e u' w' => e = .returned (.tuple #[]) ∧ u' = .returning ∧ Below w.heap.size w w' := by
  have a1 := as108_no
  refine callsD_of_wpS Tryd.func73 rfl fun c₀ cs hu => ?_
  apply wpS_seq
  apply wpS_region
  simp [wpOpsS, go_sem, recoverD, hu, Tryd.ntmps73, Exit.thenS]
  rw [slots57]
  refine wpS_of_wp ?_
  go_wp2
  exact ⟨rfl, .returning, by cases c₀; simp_all, _, results_none rfl _ _ _, rfl, rfl, (Below.refl _ _).alloc (Nat.le_refl _) _⟩
theorem catch_halt (q : Addr) (pb po : Nat) (older : List PanicEntry) (w : World) (hc : w.cell? q = some (.pointer (some ⟨pb, po, none⟩))) (hq : q.block < w.heap.size) :
    CallsD Tryd.prog 73 #[.pointer (some q)] (.panicking ({ v := .iface 117 (.agg #[.pointer (some ⟨pb, po, none⟩)]), recovered := false } :: older)) w fun e u' w' =>
      e = .returned (.tuple #[]) ∧ u' = .panicking ({ v := .iface 117 (.agg #[.pointer (some ⟨pb, po, none⟩)]), recovered := true } :: older) ∧ Below w.heap.size w w' := by
  have a1 := as108_yes
  refine callsD_of_wpS Tryd.func73 rfl fun c₀ cs hu => ?_
  apply wpS_seq
  apply wpS_region
  simp [wpOpsS, go_sem, recoverD, hu, Tryd.ntmps73, Exit.thenS]
  rw [slots57]
  refine wpS_of_wp ?_
  have hn : ∀ (a : Addr) (w : World), (binOp .neq 36 (.pointer (some a)) (.pointer (some a))).run Tryd.prog w = .ok (.bool false) w := neq58_same
  go_wp2
  exact ⟨rfl, _, rfl, _, results_none rfl _ _ _, rfl, rfl, (Below.refl _ _).alloc (Nat.le_refl _) _⟩

/-- How a function's call ends: it answers v, and its port wasn't stopped; or its port panics, and was. -/
def Ran (pb po : Nat) (R : Option Value → World → Prop) (e : Ending) (w : World) : Prop :=
  (∃ ty x, e = .returned (.iface ty x) ∧ R (some (.iface ty x)) w ∧ w.cell? ⟨pb, po + 6, none⟩ = some (.bool false)) ∨ (e = Halt pb po ∧ R none w)
/-- What run answers then. -/
def Run2 (R : Option Value → World → Prop) (e : Ending) (w : World) : Prop :=
  (∃ ty x w', e = .returned (.tuple #[.iface ty x, .bool true]) ∧ R (some (.iface ty x)) w' ∧ Below w'.heap.size w' w) ∨ (∃ w', e = .returned (.tuple #[.nilIface, .bool false]) ∧ R none w' ∧ Below w'.heap.size w' w)
theorem hmf (fn : Fn) (first cap : Array Value) (w : World) : (Instr.makeFunc fn first cap).run Tryd.prog w = .ok (.func fn first cap) w := rfl
theorem run_any (w : World) (b c r pb po : Nat) (t : Value) (fk : FuncId) (caps : Array Value) (R : Option Value → World → Prop)
    (hb : b < w.heap.size ∧ c < w.heap.size ∧ r < w.heap.size ∧ pb < w.heap.size ∧ ∀ k, t.ownBlock = some k → k < w.heap.size)
    (he : ∀ zs w, (callFunc fk zs).run Tryd.prog w = .ok (.enter fk zs) w)
    (hf : ∀ w1, Below w.heap.size w w1 → Calls Tryd.prog fk (#[.pointer (some ⟨pb, po, none⟩)] ++ caps) w1 fun e w' => Ran pb po R e w' ∧ But5 b c r pb t w1 w') :
    Calls Tryd.prog 56 #[.pointer (some ⟨pb, po, none⟩), .func (.func fk) #[] caps] w fun e w' => Run2 R e w' ∧ But5 b c r pb t w w' := by
  have hm := hmf
  obtain ⟨w1, hw1⟩ : ∃ W, W = w.alloc (.cells #[.pointer (some ⟨pb, po, none⟩)] 36) := ⟨_, rfl⟩
  have b1 : Below w.heap.size w w1 := by rw [hw1]; exact (Below.refl _ _).alloc (Nat.le_refl _) _
  have c1 : w1.cell? ⟨w.heap.size, 0, none⟩ = some (.pointer (some ⟨pb, po, none⟩)) := by rw [hw1]; simp [go_sem]
  have z1 : w1.heap.size = w.heap.size + 1 := by rw [hw1]; simp
  have hf1 := hf w1 b1
  have HB := Lib.hid hb
  have HW := Lib.hid hw1.symm
  have B1 := Lib.hid b1
  have Z1 := Lib.hid z1
  clear hf hb hw1 b1 z1
  go_enter_defers Tryd.func56, Tryd.ntmps56
  go_wp2_with (first | rw [HW.out] | fail)
  refine hf1.mono ?_
  rintro e w2 ⟨⟨ty, x, rfl, r2, h3⟩ | ⟨rfl, r2⟩, h5⟩
  · have c2 : w2.cell? ⟨w.heap.size, 0, none⟩ = some (.pointer (some ⟨pb, po, none⟩)) := by
      obtain ⟨h1, h2, h3, h4, h6⟩ := HB.out
      have hz := Z1.out
      rw [World.cell?_of_block (w := w1) (a := ⟨w.heap.size, 0, none⟩) (h5.block w.heap.size (by omega) (by omega) (by omega) (by omega) (by omega) (fun e => by have := h6 _ e.symm; omega))]
      exact c1
    have R2 := Lib.hid r2
    have H5 := Lib.hid h5
    clear hf1 r2 h5 he c1
    go_wp2_with fail
    go_quiet (fail)
    go_wp2
    have d2 : (w2.drewN nq).cell? ⟨w.heap.size, 0, none⟩ = some (.pointer (some ⟨pb, po, none⟩)) := c2
    refine leaves_cons (f := 73) (args := #[.pointer (some ⟨w.heap.size, 0, none⟩)]) (by simp) (by simp [go_sem]) ?_
    refine (catch_idle ⟨w.heap.size, 0, none⟩ _).mono ?_
    rintro e u' w3 ⟨rfl, rfl, b3⟩
    simp [Leaves, settle, results, Tryd.results56, go_sem]
    have b4 := (below_drewN (B := w2.heap.size) w2 nq).trans b3
    exact ⟨.inl ⟨ty, x, w2, rfl, R2.out, b4⟩, ((But5.of B1.out).trans H5.out).trans (But5.of b4)⟩
  · have c2 : w2.cell? ⟨w.heap.size, 0, none⟩ = some (.pointer (some ⟨pb, po, none⟩)) := by
      obtain ⟨h1, h2, h3, h4, h6⟩ := HB.out
      have hz := Z1.out
      rw [World.cell?_of_block (w := w1) (a := ⟨w.heap.size, 0, none⟩) (h5.block w.heap.size (by omega) (by omega) (by omega) (by omega) (by omega) (fun e => by have := h6 _ e.symm; omega))]
      exact c1
    have R2 := Lib.hid r2
    have H5 := Lib.hid h5
    have hq : w.heap.size < w2.heap.size := by
      have := h5.size
      have := Z1.out
      omega
    clear hf1 r2 h5 he c1
    unfold Halt
    go_wp2
    refine leaves_cons (f := 73) (args := #[.pointer (some ⟨w.heap.size, 0, none⟩)]) (by simp) (by simp [go_sem]) ?_
    refine (catch_halt ⟨w.heap.size, 0, none⟩ pb po [] _ c2 hq).mono ?_
    rintro e u' w3 ⟨rfl, rfl, b3⟩
    simp [Leaves, settle, results, Tryd.results56, go_sem]
    exact ⟨.inr ⟨w2, rfl, R2.out, b3⟩, ((But5.of B1.out).trans H5.out).trans (But5.of b3)⟩
end Go.Proofs.YteiikkkcjpfapaaDoor
