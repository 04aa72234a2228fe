/- What run answers: the deferred closure meets what a port panics with, and nothing else. Conditions: the function leaves all but memory's blocks, the port's and its row's as it was. -/
import Derived.Test.YtbcpdkmbbgcfbaaDoorStDl
import Derived.Lib.Builder
import Derived.Defers
import Derived.Recover
namespace Go.Proofs.YtbcpdkmbbgcfbaaDoor
open Go.RowKit Go.Op
set_option maxRecDepth 100000

/-- More rows of swaps; the new ones stand in blocks that weren't there. -/
def Grow (w : World) (G G' : List (Nat × List Value)) : Prop := (∀ x, x ∈ G → x ∈ G') ∧ ∀ x, x ∈ G' → x ∈ G ∨ w.heap.size ≤ x.1
theorem Grow.refl (w : World) (G : List (Nat × List Value)) : Grow w G G := ⟨fun _ h => h, fun _ h => .inl h⟩
theorem Grow.trans {w w' : World} {G G' G'' : List (Nat × List Value)} (h : Grow w G G') (hs : w.heap.size ≤ w'.heap.size) (k : Grow w' G' G'') : Grow w G G'' :=
  ⟨fun x hx => k.1 x (h.1 x hx), fun x hx => (k.2 x hx).elim (h.2 x) fun e => .inr (Nat.le_trans hs e)⟩
theorem Grow.from {w w1 : World} {G G' : List (Nat × List Value)} (h : Grow w1 G G') (hs : w.heap.size ≤ w1.heap.size) : Grow w G G' := ⟨h.1, fun x hx => (h.2 x hx).imp id fun e => Nat.le_trans hs e⟩

theorem as108_no (w : World) : (Instr.typeAssert .nilIface 20 118 true).run Tryd.prog w = .ok (.tuple #[.agg #[.pointer none], .bool false]) w := by kernel_rfl
theorem as108_yes (v : Value) (w : World) : (Instr.typeAssert (.iface 118 v) 20 118 true).run Tryd.prog w = .ok (.tuple #[v, .bool true]) w := by kernel_rfl

theorem neq58_same (a : Addr) (w : World) : (binOp .neq 34 (.pointer (some a)) (.pointer (some a))).run Tryd.prog w = .ok (.bool false) w := by
  obtain ⟨j, hj⟩ : ∃ j, Tryd.prog.info? 82 = some j := ⟨_, rfl⟩
  exact Lib.run_neq_ptr_same w a Tryd.underlying34 hj
theorem slots57 (x y : Value) : #[x] ++ ((Array.replicate 22 undef).setIfInBounds 3 y).setIfInBounds 0 y = #[x, y, undef, undef, y, undef, undef, undef, undef, undef, undef, undef, undef, undef, undef, undef, undef, undef, undef, undef, undef, undef, undef] := by kernel_rfl
theorem catch_idle (p : Addr) (w : World) :
    CallsD Tryd.prog 70 #[.pointer (some p)] .returning w fun e u' w' => e = .returned (.tuple #[]) ∧ u' = .returning ∧ Below w.heap.size w w' := by
  have a1 := as108_no
  refine callsD_of_wpS Tryd.func70 rfl fun c₀ cs hu => ?_
  apply wpS_seq
  apply wpS_region
  simp [wpOpsS, go_sem, recoverD, hu, Tryd.ntmps70, Exit.thenS]
  rw [slots57]
  refine wpS_of_wp ?_
  go_wp2
  exact ⟨rfl, .returning, by cases c₀; simp_all, _, results_none rfl _ _ _, rfl, rfl, (Below.refl _ _).alloc (Nat.le_refl _) _⟩
theorem catch_halt (q : Addr) (pb po : Nat) (older : List PanicEntry) (w : World) (hc : w.cell? q = some (.pointer (some ⟨pb, po, none⟩))) (hq : q.block < w.heap.size) :
    CallsD Tryd.prog 70 #[.pointer (some q)] (.panicking ({ v := .iface 118 (.agg #[.pointer (some ⟨pb, po, none⟩)]), recovered := false } :: older)) w fun e u' w' =>
      e = .returned (.tuple #[]) ∧ u' = .panicking ({ v := .iface 118 (.agg #[.pointer (some ⟨pb, po, none⟩)]), recovered := true } :: older) ∧ Below w.heap.size w w' := by
  have a1 := as108_yes
  refine callsD_of_wpS Tryd.func70 rfl fun c₀ cs hu => ?_
  apply wpS_seq
  apply wpS_region
  simp [wpOpsS, go_sem, recoverD, hu, Tryd.ntmps70, Exit.thenS]
  rw [slots57]
  refine wpS_of_wp ?_
  have hn : ∀ (a : Addr) (w : World), (binOp .neq 34 (.pointer (some a)) (.pointer (some a))).run Tryd.prog w = .ok (.bool false) w := neq58_same
  go_wp2
  exact ⟨rfl, _, rfl, _, results_none rfl _ _ _, rfl, rfl, (Below.refl _ _).alloc (Nat.le_refl _) _⟩

/-- How a function's call ends: it answers v, and its port wasn't stopped; or its port panics, and was. -/
def Ran (pb po : Nat) (R : Option Value → World → Prop) (e : Ending) (w : World) : Prop :=
  (∃ ty x, e = .returned (.iface ty x) ∧ R (some (.iface ty x)) w ∧ w.cell? ⟨pb, po + 6, none⟩ = some (.bool false)) ∨ (e = Halt pb po ∧ R none w)
/-- What run answers then. -/
def Run2 (R : Option Value → World → Prop) (e : Ending) (w : World) : Prop :=
  (∃ ty x w', e = .returned (.tuple #[.iface ty x, .bool true]) ∧ R (some (.iface ty x)) w' ∧ Below w'.heap.size w' w) ∨ (∃ w', e = .returned (.tuple #[.nilIface, .bool false]) ∧ R none w' ∧ Below w'.heap.size w' w)
theorem hmf (fn : Fn) (first cap : Array Value) (w : World) : (Instr.makeFunc fn first cap).run Tryd.prog w = .ok (.func fn first cap) w := rfl
theorem run_any (w : World) (b c r pb po : Nat) (t : Value) (fk : FuncId) (caps : Array Value) (R : Option Value → World → Prop)
    (hb : b < w.heap.size ∧ c < w.heap.size ∧ r < w.heap.size ∧ pb < w.heap.size ∧ ∀ k, t.ownBlock = some k → k < w.heap.size)
    (he : ∀ zs w, (callFunc fk zs).run Tryd.prog w = .ok (.enter fk zs) w)
    (hf : ∀ w1, Below w.heap.size w w1 → Calls Tryd.prog fk (#[.pointer (some ⟨pb, po, none⟩)] ++ caps) w1 fun e w' => Ran pb po R e w' ∧ But5 b c r pb t w1 w') :
    Calls Tryd.prog 55 #[.pointer (some ⟨pb, po, none⟩), .func (.func fk) #[] caps] w fun e w' => Run2 R e w' ∧ But5 b c r pb t w w' := by
  have hm := hmf
  obtain ⟨w1, hw1⟩ : ∃ W, W = w.alloc (.cells #[.pointer (some ⟨pb, po, none⟩)] 34) := ⟨_, rfl⟩
  have b1 : Below w.heap.size w w1 := by rw [hw1]; exact (Below.refl _ _).alloc (Nat.le_refl _) _
  have c1 : w1.cell? ⟨w.heap.size, 0, none⟩ = some (.pointer (some ⟨pb, po, none⟩)) := by rw [hw1]; simp [go_sem]
  have z1 : w1.heap.size = w.heap.size + 1 := by rw [hw1]; simp
  have hf1 := hf w1 b1
  have HB := Lib.hid hb
  have HW := Lib.hid hw1.symm
  have B1 := Lib.hid b1
  have Z1 := Lib.hid z1
  clear hf hb hw1 b1 z1
  go_enter_defers Tryd.func55, Tryd.ntmps55
  go_wp2_with (first | rw [HW.out] | fail)
  refine hf1.mono ?_
  rintro e w2 ⟨⟨ty, x, rfl, r2, h3⟩ | ⟨rfl, r2⟩, h5⟩
  · have c2 : w2.cell? ⟨w.heap.size, 0, none⟩ = some (.pointer (some ⟨pb, po, none⟩)) := by
      obtain ⟨h1, h2, h3, h4, h6⟩ := HB.out
      have hz := Z1.out
      rw [World.cell?_of_block (w := w1) (a := ⟨w.heap.size, 0, none⟩) (h5.block w.heap.size (by omega) (by omega) (by omega) (by omega) (by omega) (fun e => by have := h6 _ e.symm; omega))]
      exact c1
    have R2 := Lib.hid r2
    have H5 := Lib.hid h5
    clear hf1 r2 h5 he c1
    go_wp2_with fail
    go_quiet (fail)
    go_wp2
    have d2 : (w2.drewN nq).cell? ⟨w.heap.size, 0, none⟩ = some (.pointer (some ⟨pb, po, none⟩)) := c2
    refine leaves_cons (f := 70) (args := #[.pointer (some ⟨w.heap.size, 0, none⟩)]) (by simp) (by simp [go_sem]) ?_
    refine (catch_idle ⟨w.heap.size, 0, none⟩ _).mono ?_
    rintro e u' w3 ⟨rfl, rfl, b3⟩
    simp [Leaves, settle, results, Tryd.results55, go_sem]
    have b4 := (below_drewN (B := w2.heap.size) w2 nq).trans b3
    exact ⟨.inl ⟨ty, x, w2, rfl, R2.out, b4⟩, ((But5.of B1.out).trans H5.out).trans (But5.of b4)⟩
  · have c2 : w2.cell? ⟨w.heap.size, 0, none⟩ = some (.pointer (some ⟨pb, po, none⟩)) := by
      obtain ⟨h1, h2, h3, h4, h6⟩ := HB.out
      have hz := Z1.out
      rw [World.cell?_of_block (w := w1) (a := ⟨w.heap.size, 0, none⟩) (h5.block w.heap.size (by omega) (by omega) (by omega) (by omega) (by omega) (fun e => by have := h6 _ e.symm; omega))]
      exact c1
    have R2 := Lib.hid r2
    have H5 := Lib.hid h5
    have hq : w.heap.size < w2.heap.size := by
      have := h5.size
      have := Z1.out
      omega
    clear hf1 r2 h5 he c1
    unfold Halt
    go_wp2
    refine leaves_cons (f := 70) (args := #[.pointer (some ⟨w.heap.size, 0, none⟩)]) (by simp) (by simp [go_sem]) ?_
    refine (catch_halt ⟨w.heap.size, 0, none⟩ pb po [] _ c2 hq).mono ?_
    rintro e u' w3 ⟨rfl, rfl, b3⟩
    simp [Leaves, settle, results, Tryd.results55, go_sem]
    exact ⟨.inr ⟨w2, rfl, R2.out, b3⟩, ((But5.of B1.out).trans H5.out).trans (But5.of b3)⟩
end Go.Proofs.YtbcpdkmbbgcfbaaDoor
/- What a machine's calls answer and make of it: New, Step, Ended, Out, Steps, Noted. Conditions: its function does what its port lets it do; at most 1000000 asks. -/
namespace Go.Proofs.YtbcpdkmbbgcfbaaDoor
open Go.RowKit Go.Op
set_option maxRecDepth 100000

/-- A machine: its port, its function, whether it has ended, what it answered. -/
structure Mac (w0 : World) (b c r : Nat) (N : Int) (G : List (Nat × List Value)) (xb : Nat) (t : Value) (w : World) (m : M) (s : Pt) (f : Value) (fin : Bool) (out : Value) : Prop where
  sys : Sys w0 b c r N G xb 1 t w m s
  ok : fin = false → s.Ok
  e0 : s.ext 0 = some f
  e8 : s.ext 8 = some (.bool fin)
  e9 : s.ext 9 = some out
section
variable {w0 : World} {b c r : Nat} {N : Int} {G : List (Nat × List Value)} {xb : Nat} {t : Value} {w : World} {m : M} {s : Pt} {f : Value} {fin : Bool} {out : Value}
theorem Mac.c0 (h : Mac w0 b c r N G xb t w m s f fin out) : w.cell? ⟨xb, 0, none⟩ = some f := (h.sys.pt.ext 0 (by omega)).trans h.e0
theorem Mac.c8 (h : Mac w0 b c r N G xb t w m s f fin out) : w.cell? ⟨xb, 8, none⟩ = some (.bool fin) := (h.sys.pt.ext 8 (by omega)).trans h.e8
theorem Mac.c9 (h : Mac w0 b c r N G xb t w m s f fin out) : w.cell? ⟨xb, 9, none⟩ = some out := (h.sys.pt.ext 9 (by omega)).trans h.e9
theorem Mac.less {N' : Int} (h : Mac w0 b c r N G xb t w m s f fin out) (hN : N ≤ N') : Mac w0 b c r N' G xb t w m s f fin out := ⟨h.sys.less hN, h.ok, h.e0, h.e8, h.e9⟩
theorem Mac.later {w' : World} (h : Mac w0 b c r N G xb t w m s f fin out) (hb : Below w.heap.size w w') : Mac w0 b c r N G xb t w' m s f fin out := ⟨h.sys.later hb, h.ok, h.e0, h.e8, h.e9⟩
theorem ended_any (h : Mac w0 b c r N G xb t w m s f fin out) : Calls Tryd.prog 28 #[.pointer (some ⟨xb, 0, none⟩)] w fun e w' => e = .returned (.bool fin) ∧ w = w' := by
  have c8 := h.c8
  clear h
  go_enter Tryd.func28, Tryd.ntmps28
  go_wp2
  go_ret
  exact ⟨rfl, rfl⟩
theorem out_any (h : Mac w0 b c r N G xb t w m s f fin out) : Calls Tryd.prog 29 #[.pointer (some ⟨xb, 0, none⟩)] w fun e w' => e = .returned out ∧ w = w' := by
  have c9 := h.c9
  clear h
  go_enter Tryd.func29, Tryd.ntmps29
  go_wp2
  go_ret
  exact ⟨rfl, rfl⟩
/-- A part of what is told. -/
def nth (k : Nat) (v : Value) : Value := match v with
  | .tuple xs => xs.getD k undef
  | _ => undef
theorem nth_0 (a b : Value) : nth 0 (.tuple #[a, b]) = a := rfl
theorem nth_1 (a b : Value) : nth 1 (.tuple #[a, b]) = b := rfl
theorem load_35 {w : World} {p : Addr} {fk : FuncId} {caps : Array Value} (h : w.cell? p = some (.func (.func fk) #[] caps)) : (Instr.loadAt 49 (.pointer (some p))).run Tryd.prog w = .ok (.func (.func fk) #[] caps) w := by go_simp
theorem enter_42 (xs : Array Value) (w : World) : (callFunc 55 xs).run Tryd.prog w = .ok (.enter 55 xs) w := by kernel_rfl

theorem st_nil (a : Addr) (m : Mode) (w : World) : (store a .nilFunc m).run Tryd.prog w = stored Tryd.prog w a .nilFunc m := run_store _ w a _ m rfl
/-- What a step comes to: the machine, its row, memory, its port; o is what the function answered, if it ended. -/
def Outc (s : Pt) (w0 : World) (b c r : Nat) (N : Int) (G : List (Nat × List Value)) (xb po : Nat) (t : Value) (w : World) (Φ : Option Value → M → Pt → List (Nat × List Value) → Prop) (o : Option Value) (w' : World) : Prop :=
  ∃ t' m' s' G', Sys w0 b c r N G' xb po t' w' m' s' ∧ Row2 w t t' ∧ s'.Ok ∧ s'.ext = s.ext ∧ Grow w G G' ∧ Φ o m' s' G'
def SMid (R : Option Value → World → Prop) (b c r xb : Nat) (t : Value) (w : World) (bs : List Bool) (β : Nat → Value) (W : World) : Prop :=
  (bs[0]? = some false → Below w.heap.size w W) ∧ (bs[0]? = some true → Run2 R (.returned (β 7)) W ∧ But5 b c r xb t w W)
end
section
variable {R : Option Value → World → Prop} {b c r xb : Nat} {t : Value} {w : World} {bs : List Bool} {β : Nat → Value} {W : World}
theorem smid_start {β : Nat → Value} : SMid R b c r xb t w [false] β w.drew := ⟨fun _ => (Below.refl _ _).drew, fun e => (by cases e)⟩
theorem smid_nth (h : SMid R b c r xb t w bs β W) (h0 : bs[0]? = some true) {k : Nat} (hk : k < 2) : (Instr.extract (β 7) k).run Tryd.prog W = .ok (nth k (β 7)) W := by
  rcases (h.2 h0).1 with ⟨ty, x, _, e, _⟩ | ⟨_, e, _⟩
  all_goals
    have e7 := Ending.returned.inj e
    rw [e7]
    match k, hk with
    | 0, _ => rfl
    | 1, _ => rfl
theorem smid_run {fk : FuncId} {caps : Array Value} (hr : ∀ W, Below w.heap.size w W → Calls Tryd.prog 55 #[.pointer (some ⟨xb, 1, none⟩), .func (.func fk) #[] caps] W fun e w' => Run2 R e w' ∧ But5 b c r xb t W w')
    (h : SMid R b c r xb t w bs β W) (h0 : bs[0]? = some false) : Calls Tryd.prog 55 #[.pointer (some ⟨xb, 1, none⟩), .func (.func fk) #[] caps] W fun e w' => ∃ u, e = .returned u ∧ SMid R b c r xb t w (bs.set 0 true) (FreeV.upd β 7 u) w' := by
  have hb := h.1 h0
  refine (hr W hb).mono ?_
  rintro e w' ⟨h1, h2⟩
  have key : ∀ u, e = .returned u → SMid R b c r xb t w (bs.set 0 true) (FreeV.upd β 7 u) w' := fun u eu => by
    refine ⟨fun e2 => (by rw [set_at h0] at e2; cases e2), fun _ => ⟨?_, (But5.of hb).trans h2⟩⟩
    simp only [FreeV.upd, if_true]
    exact eu ▸ h1
  rcases h1 with ⟨ty, x, _, e1, _⟩ | ⟨_, e1, _⟩
  · exact ⟨_, e1, key _ e1⟩
  · exact ⟨_, e1, key _ e1⟩
end
section
variable {w0 : World} {b c r : Nat} {N : Int} {G : List (Nat × List Value)} {xb : Nat} {t : Value} {w : World} {m : M} {s : Pt} {f : Value} {fin : Bool} {out : Value}
theorem step_done (h : Mac w0 b c r N G xb t w m s f true out) : Calls Tryd.prog 27 #[.pointer (some ⟨xb, 0, none⟩)] w fun e w' => e = .returned (.bool true) ∧ w = w' := by
  have c8 := h.c8
  clear h
  go_enter Tryd.func27, Tryd.ntmps27
  go_wp2
  go_ret
  exact ⟨rfl, rfl⟩
/-- A port at a step's beginning. -/
def Pt.fresh (s : Pt) : Pt := { s with place := 0, spent := false, halted := false }
/-- Behind a step. -/
def Stepped (w0 : World) (b c r : Nat) (N : Int) (G : List (Nat × List Value)) (xb : Nat) (t : Value) (w : World) (f out : Value) (Φ : Option Value → M → Pt → List (Nat × List Value) → Prop) (e : Ending) (w' : World) : Prop :=
  ∃ t' m' s' G', ((∃ v, e = .returned (.bool true) ∧ ∃ s1, Φ (some v) m' s1 G' ∧ s'.place = s1.place ∧ s'.noted = s1.noted ∧ Mac w0 b c r N G' xb t' w' m' s' .nilFunc true v) ∨ (e = .returned (.bool false) ∧ Φ none m' s' G' ∧ Mac w0 b c r N G' xb t' w' m' s' f false out)) ∧ But5 b c r xb t w w' ∧ Row2 w t t' ∧ Grow w G G'

theorem step_run {fk : FuncId} {caps : Array Value} (h : Mac w0 b c r N G xb t w m s (.func (.func fk) #[] caps) false out) (Φ : Option Value → M → Pt → List (Nat × List Value) → Prop) (he : ∀ zs w, (callFunc fk zs).run Tryd.prog w = .ok (.enter fk zs) w) (N' : Int)
    (hf : ∀ w1, Sys w0 b c r N G xb 1 t w1 m s.fresh → But xb w w1 → Calls Tryd.prog fk (#[.pointer (some ⟨xb, 1, none⟩)] ++ caps) w1 fun e w' => Ran xb 1 (Outc s w0 b c r N' G xb 1 t w1 Φ) e w' ∧ But5 b c r xb t w1 w') :
    Calls Tryd.prog 27 #[.pointer (some ⟨xb, 0, none⟩)] w fun e w' => Stepped w0 b c r N' G xb t w (.func (.func fk) #[] caps) out Φ e w' := by
  have mixed : Tryd.prog.follows .mixedOrders = true := by kernel_rfl
  have c8 := h.c8
  have hbg := begin_any h.sys.pt
  have HM := Lib.hid h
  clear h
  go_enter Tryd.func27, Tryd.ntmps27
  go_wp2_with fail
  refine hbg.mono ?_
  rintro e w1 ⟨rfl, p1, b1⟩
  have S1 := HM.out.sys.port p1 b1
  have c0 : w1.cell? ⟨xb, 0, none⟩ = some (.func (.func fk) #[] caps) := (p1.ext 0 (by omega)).trans HM.out.e0
  have HL := Lib.hid p1.lt
  have HR : Hid (∀ W, Below w1.heap.size w1 W → Calls Tryd.prog 55 #[.pointer (some ⟨xb, 1, none⟩), .func (.func fk) #[] caps] W fun e w' => Run2 (Outc s w0 b c r N' G xb 1 t w1 Φ) e w' ∧ But5 b c r xb t W w') := by
    intro W hW
    have hS := S1.later hW
    have o := hS.has.at_.own
    refine run_any W b c r xb 1 t fk caps _ ⟨o.lb, o.lc, o.lr, hS.pt.lt, fun k e => (World.ownsRow.lt hS.pt.own k e).2⟩ he fun w2 h2 => ?_
    refine (hf w2 (hS.later h2) ((b1.trans (But.of hW)).trans (But.of h2))).mono ?_
    rintro e w' ⟨h3, h4⟩
    refine ⟨?_, h4⟩
    have hz := Nat.le_trans hW.size h2.size
    have key : ∀ o w', Outc s w0 b c r N' G xb 1 t w2 Φ o w' → Outc s w0 b c r N' G xb 1 t w1 Φ o w' := by
      rintro o w' ⟨t', m', s', G', q1, q2, q3, q4, q5, q6⟩
      exact ⟨t', m', s', G', q1, q2.from hz, q3, q4, q5.from hz, q6⟩
    rcases h3 with ⟨ty, x, e1, q, hc⟩ | ⟨e1, q⟩
    · exact .inl ⟨ty, x, e1, key _ _ q, hc⟩
    · exact .inr ⟨e1, key _ _ q⟩
  have HS1 := Lib.hid S1
  have HB1 := Lib.hid b1
  clear hbg p1 b1 S1 hf
  go_wp2_with fail
  refine FreeV.region_puts (S := SMid (Outc s w0 b c r N' G xb 1 t w1 Φ) b c r xb t w1) (effs := [7])
    (tab := [⟨1, fun _ => [.pointer (some ⟨xb, 0, none⟩)], fun _ => .pointer (some ⟨xb, 0, none⟩), .pure⟩,
      ⟨4, fun _ => [.pointer (some ⟨xb, 0, none⟩)], fun _ => .pointer (some ⟨xb, 0, none⟩), .pure⟩,
      ⟨6, fun _ => [.pointer (some ⟨xb, 0, none⟩)], fun _ => (.func (.func fk) #[] caps), .read⟩,
      ⟨7, fun _ => [.func (.func 55) #[] #[], .pointer (some ⟨xb, 1, none⟩), (.func (.func fk) #[] caps)], fun β => (β 7), .get⟩,
      ⟨9, fun β => [(β 7)], fun β => (nth 0 (β 7)), .read⟩,
      ⟨10, fun β => [(β 7)], fun β => (nth 1 (β 7)), .read⟩])
    (vs := [([], fun _ => .pointer (some ⟨xb, 0, none⟩)), ([], fun _ => .pointer (some ⟨xb, 0, none⟩)), ([], fun _ => .pointer (some ⟨xb, 1, none⟩)), ([], fun _ => .pointer (some ⟨xb, 0, none⟩)), ([], fun _ => .pointer (some ⟨xb, 0, none⟩)), ([], fun _ => .pointer (some ⟨xb, 0, none⟩)), ([], fun _ => (.func (.func fk) #[] caps)), ([7], fun l => l.headD undef), ([7], fun l => l.headD undef), ([7], fun l => nth 0 (l.headD undef)), ([7], fun l => nth 1 (l.headD undef)), ([7], fun l => nth 0 (l.headD undef)), ([7], fun l => nth 1 (l.headD undef))])
    (by kernel_rfl) ⟨by kernel_rfl, ⟨FreeV.d_nil _ rfl rfl,
      FreeV.d_nil _ rfl rfl,
      FreeV.d_load _ rfl rfl (fun β bs w h hd => load_35 (((h.1 ((hd 0 7 rfl).2 (.inl (by kernel_rfl)))).cell HL.out).trans c0)),
      FreeV.d_get2 _ rfl rfl enter_42 0 rfl (fun β bs w h hd => smid_run HR.out h ((hd 0 7 rfl).2 (.inr rfl))),
      FreeV.d_extract _ rfl rfl (fun β bs w h hd => smid_nth h ((hd 0 7 rfl).1 (by kernel_rfl)) (by decide)),
      FreeV.d_extract _ rfl rfl (fun β bs w h hd => smid_nth h ((hd 0 7 rfl).1 (by kernel_rfl)) (by decide)),
      trivial⟩,
      fun β => by kernel_rfl, fun β => by kernel_rfl, by kernel_rfl, fun β => by kernel_rfl, by kernel_rfl⟩ smid_start (fun β => Free.from_ 14 [.pointer (some ⟨xb, 0, none⟩), .pointer (some ⟨xb, 0, none⟩), .pointer (some ⟨xb, 1, none⟩), .pointer (some ⟨xb, 0, none⟩), .pointer (some ⟨xb, 0, none⟩), .pointer (some ⟨xb, 0, none⟩), (.func (.func fk) #[] caps), (β 7)] ++ [(13, (β 7)), (22, (nth 0 (β 7))), (23, (nth 1 (β 7))), (3, (nth 0 (β 7))), (4, (nth 1 (β 7)))]) (fun β => by kernel_rfl) ?_
  intro β w4 h4
  obtain ⟨h5, h6⟩ := h4.2 rfl
  clear h4
  rw [FreeX.puts_append, Free.puts_from _ _ _ (Nat.le_of_ble_eq_true rfl)]
  simp only [List.take_succ_cons, List.take_zero, List.drop_succ_cons, List.drop_zero, List.cons_append, List.nil_append, List.length_cons, List.length_nil, Nat.reduceAdd]
  unfold Free.puts
  simp only [List.foldl_cons, List.foldl_nil]
  rcases h5 with ⟨ty, x, w5, e, ⟨t', m', s', G', S5, r5, ok5, x5, g5, φ⟩, b5⟩ | ⟨w5, e, ⟨t', m', s', G', S5, r5, ok5, x5, g5, φ⟩, b5⟩
  · have e7 := Ending.returned.inj e
    simp only [e7, nth_0, nth_1]
    have S4 := S5.later b5
    have P4 := S4.pt
    have d0 : s'.ext 0 = some (.func (.func fk) #[] caps) := by rw [x5]; exact HM.out.e0
    have d8 : s'.ext 8 = some (.bool false) := by rw [x5]; exact HM.out.e8
    have d9 : s'.ext 9 = some out := by rw [x5]; exact HM.out.e9
    have k0 := (P4.ext 0 (by omega)).trans d0
    have k8 := (P4.ext 8 (by omega)).trans d8
    have k9 := (P4.ext 9 (by omega)).trans d9
    have k3 := P4.cells.c2
    have fz := P4.fz
    have p8 := P4.put (.bool true) d8 (by omega)
    have p9 := p8.put (i := 9) (x := out) (.iface ty x) d9 (by omega)
    have p0 := p9.put (i := 0) (x := .func (.func fk) #[] caps) .nilFunc d0 (by omega)
    have HP := Lib.hid p0.forget
    have HB := Lib.hid (((((But2.of (Below.refl _ _) : But2 xb t' w4 w4).set 8 (.bool true)).set 9 (.iface ty x)).set 0 .nilFunc).set 3 (.slice none 0 0))
    have HS := Lib.hid S4
    have H6 := Lib.hid h6
    have HR5 := Lib.hid r5
    have HG5 := Lib.hid g5
    have HΦ := Lib.hid φ
    clear HR S5 S4 P4 b5 h6 r5 g5 φ p8 p9 p0 d0 d8 d9 c0 c8 e e7 x5
    simp only at HP
    have st := st_nil
    go_wp2
    go_ret
    have H9 := HS.out.keep HP.out HB.out (fun k e => (by cases e))
    simp only [Nat.reduceAdd] at H9
    refine ⟨.slice none 0 0, m', _, G', .inl ⟨_, rfl, s', HΦ.out, ?_, ?_, H9, fun e => (by cases e), ?_, ?_, ?_⟩, ((But5.of1 HB1.out).trans H6.out).next (HR5.out.from HB1.out.size) (But5.of2 HB.out), fun k e => (by cases e), HG5.out.from HB1.out.size⟩
    all_goals rfl
  · have e7 := Ending.returned.inj e
    simp only [e7, nth_0, nth_1]
    have HS := Lib.hid (S5.later b5)
    have H6 := Lib.hid h6
    have HR5 := Lib.hid r5
    have HG5 := Lib.hid g5
    have HΦ := Lib.hid φ
    have HX := Lib.hid x5
    clear HR S5 b5 h6 r5 g5 φ c0 c8 e e7 x5
    go_wp2
    go_ret
    exact ⟨t', m', s', G', .inr ⟨rfl, HΦ.out, HS.out, fun _ => ok5, by rw [HX.out]; exact HM.out.e0, by rw [HX.out]; exact HM.out.e8, by rw [HX.out]; exact HM.out.e9⟩, (But5.of1 HB1.out).trans H6.out, HR5.out.from HB1.out.size, HG5.out.from HB1.out.size⟩
end
end Go.Proofs.YtbcpdkmbbgcfbaaDoor
/- Many machines of one memory: each has its own blocks; a step of one leaves the others as they were. New. No condition. -/
namespace Go.Proofs.YtbcpdkmbbgcfbaaDoor
open Go.RowKit Go.Op
set_option maxRecDepth 100000

structure Mach where
  xb : Nat
  t : Value
  s : Pt
  f : Value
  fin : Bool
  out : Value
/-- No block of one is the other's. -/
structure Apart2 (x y : Mach) : Prop where
  xx : x.xb ≠ y.xb
  tx : x.t.ownBlock ≠ some y.xb
  xt : y.t.ownBlock ≠ some x.xb
  tt : ∀ k, x.t.ownBlock = some k → y.t.ownBlock ≠ some k
theorem Apart2.symm {x y : Mach} (h : Apart2 x y) : Apart2 y x := ⟨h.xx.symm, h.xt, h.tx, fun k e e2 => h.tt k e2 e⟩
structure Team (w0 : World) (b c r : Nat) (N : Int) (G : List (Nat × List Value)) (w : World) (m : M) (L : List Mach) : Prop where
  has : Has w0 b c r N w m
  mac : ∀ (i : Nat) (x : Mach), L[i]? = some x → Mac w0 b c r N G x.xb x.t w m x.s x.f x.fin x.out
  apart : ∀ (i j : Nat) (x y : Mach), L[i]? = some x → L[j]? = some y → i ≠ j → Apart2 x y
/-- A block that is nobody's. -/
structure Off (z b c r : Nat) (w : World) (L : List Mach) : Prop where
  lt : z < w.heap.size
  m : z ≠ b ∧ z ≠ c ∧ z ≠ r
  x : ∀ (i : Nat) (x : Mach), L[i]? = some x → z ≠ x.xb ∧ x.t.ownBlock ≠ some z
section
variable {w0 : World} {b c r : Nat} {N N' : Int} {G G' : List (Nat × List Value)} {w w' : World} {m m' : M} {L : List Mach}
theorem Sys.okof {pb po : Nat} {t : Value} {s : Pt} (h : Sys w0 b c r N G pb po t w m s) (ho : m.Ok N') : Sys w0 b c r N' G pb po t w m s :=
  ⟨⟨h.has.at_, ho, h.has.below, h.has.hb, h.has.hc, h.has.hr⟩, h.pt, h.nb, h.tb, h.hp, h.rows⟩
/-- Rows for another port. -/
theorem RowsG.for {pb : Nat} {t0 : Value} (h : RowsG w0 b c r pb t0 G w) (h' : ∀ g l, (g, l) ∈ G' → Rw w' g l ∧ w0.heap.size ≤ g ∧ g ≠ b ∧ g ≠ c ∧ g ≠ r) (hg : Grow w G G') (hp : pb < w.heap.size) (ht : ∀ k, t0.ownBlock = some k → k < w.heap.size) : RowsG w0 b c r pb t0 G' w' := by
  intro g l hx
  obtain ⟨h1, h2, h3, h4, h5⟩ := h' g l hx
  refine ⟨h1, h2, h3, h4, h5, ?_⟩
  rcases hg.2 _ hx with e | e
  · obtain ⟨_, _, _, _, _, h6, h7⟩ := h g l e
    exact ⟨h6, h7⟩
  · have e : w.heap.size ≤ g := e
    exact ⟨by omega, fun e2 => by have := ht g e2; omega⟩
theorem RowsG.bare {pb : Nat} {t0 : Value} (h : RowsG w0 b c r pb t0 G w) : ∀ g l, (g, l) ∈ G → Rw w g l ∧ w0.heap.size ≤ g ∧ g ≠ b ∧ g ≠ c ∧ g ≠ r := fun g l hx =>
  let ⟨h1, h2, h3, h4, h5, _⟩ := h g l hx
  ⟨h1, h2, h3, h4, h5⟩
/-- Another machine's step. -/
theorem Mac.other {x y : Mach} (h : Mac w0 b c r N G y.xb y.t w m y.s y.f y.fin y.out) (ha : Apart2 x y) (hh : Has w0 b c r N' w' m') (hk : But5 b c r x.xb x.t w w') (hg : Grow w G G') (hr : ∀ g l, (g, l) ∈ G' → Rw w' g l ∧ w0.heap.size ≤ g ∧ g ≠ b ∧ g ≠ c ∧ g ≠ r) : Mac w0 b c r N' G' y.xb y.t w' m' y.s y.f y.fin y.out := by
  have p := h.sys.pt
  refine ⟨⟨hh, p.same (hk.block _ p.lt h.sys.nb.1 h.sys.nb.2.1 h.sys.nb.2.2 ha.xx.symm (fun e => ha.tx e.symm)) (fun k e => hk.block k (World.ownsRow.lt p.own k e).2 (fun e2 => h.sys.tb.1 (e2 ▸ e)) (fun e2 => h.sys.tb.2.1 (e2 ▸ e)) (fun e2 => h.sys.tb.2.2 (e2 ▸ e)) (fun e2 => ha.xt (e2 ▸ e)) (fun e2 => ha.tt k e2.symm e)), h.sys.nb, h.sys.tb, h.sys.hp, h.sys.rows.for hr hg p.lt (fun k e => (World.ownsRow.lt p.own k e).2)⟩, h.ok, h.e0, h.e8, h.e9⟩
/-- Memory is asked, by none of these machines. -/
theorem Mac.mem {y : Mach} (h : Mac w0 b c r N G y.xb y.t w m y.s y.f y.fin y.out) (hh : Has w0 b c r N' w' m') (hk : Kept b c r w w') (hg : Grow w G G') (hr : ∀ g l, (g, l) ∈ G' → Rw w' g l ∧ w0.heap.size ≤ g ∧ g ≠ b ∧ g ≠ c ∧ g ≠ r) : Mac w0 b c r N' G' y.xb y.t w' m' y.s y.f y.fin y.out := by
  have p := h.sys.pt
  exact ⟨⟨hh, p.same (hk.block _ p.lt h.sys.nb.1 h.sys.nb.2.1 h.sys.nb.2.2) (fun k e => hk.block k (World.ownsRow.lt p.own k e).2 (fun e2 => h.sys.tb.1 (e2 ▸ e)) (fun e2 => h.sys.tb.2.1 (e2 ▸ e)) (fun e2 => h.sys.tb.2.2 (e2 ▸ e))), h.sys.nb, h.sys.tb, h.sys.hp, h.sys.rows.for hr hg p.lt (fun k e => (World.ownsRow.lt p.own k e).2)⟩, h.ok, h.e0, h.e8, h.e9⟩
theorem Team.mem (h : Team w0 b c r N G w m L) (hh : Has w0 b c r N' w' m') (hk : Kept b c r w w') (hg : Grow w G G') (hr : ∀ g l, (g, l) ∈ G' → Rw w' g l ∧ w0.heap.size ≤ g ∧ g ≠ b ∧ g ≠ c ∧ g ≠ r) : Team w0 b c r N' G' w' m' L :=
  ⟨hh, fun i x hx => (h.mac i x hx).mem hh hk hg hr, h.apart⟩
theorem Team.step (h : Team w0 b c r N G w m L) {i : Nat} {x y : Mach} (hi : L[i]? = some x) (hx : y.xb = x.xb) (hy : Mac w0 b c r N' G' y.xb y.t w' m' y.s y.f y.fin y.out) (hk : But5 b c r x.xb x.t w w') (hr : Row2 w x.t y.t) (hg : Grow w G G') : Team w0 b c r N' G' w' m' (L.set i y) := by
  have hlt : ∀ (j : Nat) (z : Mach), L[j]? = some z → z.xb < w.heap.size ∧ ∀ k, z.t.ownBlock = some k → k < w.heap.size := fun j z hz =>
    ⟨(h.mac j z hz).sys.pt.lt, fun k e => (World.ownsRow.lt (h.mac j z hz).sys.pt.own k e).2⟩
  have key : ∀ (j : Nat) (z : Mach), L[j]? = some z → i ≠ j → Apart2 y z := fun j z hz hij => by
    have a := h.apart i j x z hi hz hij
    obtain ⟨l1, l2⟩ := hlt j z hz
    refine ⟨by rw [hx]; exact a.xx, fun e => ?_, by rw [hx]; exact a.xt, fun k e e2 => ?_⟩
    · rcases hr _ e with e2 | e2
      · exact a.tx e2
      · omega
    · rcases hr _ e with e3 | e3
      · exact a.tt k e3 e2
      · have := l2 k e2
        omega
  refine ⟨hy.sys.has, fun j z hz => ?_, fun j k z u hz hu hjk => ?_⟩
  · rw [List.getElem?_set] at hz
    split at hz
    · split at hz
      · cases hz; exact hy
      · cases hz
    · rename_i hij
      exact (h.mac j z hz).other (h.apart i j x z hi hz hij) hy.sys.has hk hg hy.sys.rows.bare
  · rw [List.getElem?_set] at hz hu
    split at hz
    · rename_i hij
      split at hz
      · cases hz
        rw [if_neg (by omega)] at hu
        exact key k u hu (by omega)
      · cases hz
    · rename_i hij
      split at hu
      · split at hu
        · cases hu
          exact (key j z hz hij).symm
        · cases hu
      · exact h.apart j k z u hz hu hjk
theorem Off.step {z : Nat} (h : Off z b c r w L) {i : Nat} {x y : Mach} (hi : L[i]? = some x) (hx : y.xb = x.xb) (hk : But5 b c r x.xb x.t w w') (hr : Row2 w x.t y.t) : Off z b c r w' (L.set i y) ∧ w'.heap[z]? = w.heap[z]? := by
  have a := h.x i x hi
  refine ⟨⟨Nat.lt_of_lt_of_le h.lt hk.size, h.m, fun j u hu => ?_⟩, hk.block z h.lt h.m.1 h.m.2.1 h.m.2.2 a.1 (fun e => a.2 e.symm)⟩
  rw [List.getElem?_set] at hu
  split at hu
  · split at hu
    · cases hu
      refine ⟨by rw [hx]; exact a.1, fun e => ?_⟩
      rcases hr _ e with e2 | e2
      · exact a.2 e2
      · have := h.lt; omega
    · cases hu
  · exact h.x j u hu
theorem Team.later (h : Team w0 b c r N G w m L) (hb : Below w.heap.size w w') : Team w0 b c r N G w' m L :=
  ⟨h.has.later hb, fun i x hx => (h.mac i x hx).later hb, h.apart⟩
theorem Off.later {z : Nat} (h : Off z b c r w L) (hb : w.heap.size ≤ w'.heap.size) : Off z b c r w' L := ⟨Nat.lt_of_lt_of_le h.lt hb, h.m, h.x⟩
theorem Team.nil (h : Has w0 b c r N w m) : Team w0 b c r N G w m [] := ⟨h, fun i x hx => (by simp at hx), fun i j x y hx => (by simp at hx)⟩
/-- What a change of other blocks leaves. -/
theorem Team.beside (h : Team w0 b c r N G w m L) {g : Nat} (hs : w.heap.size ≤ w'.heap.size) (hw : Below w0.heap.size w0 w') (hk : ∀ k, k < w.heap.size → k ≠ g → w'.heap[k]? = w.heap[k]?) (hG : ∀ x, x ∈ G → x.1 ≠ g) (hg : g ≠ b ∧ g ≠ c ∧ g ≠ r ∧ ∀ (i : Nat) (x : Mach), L[i]? = some x → g ≠ x.xb ∧ x.t.ownBlock ≠ some g) : Team w0 b c r N G w' m L := by
  have o := h.has.at_.own
  have hh : Has w0 b c r N w' m := h.has.same hs hw (hk b o.lb hg.1.symm) (hk c o.lc hg.2.1.symm) (hk r o.lr hg.2.2.1.symm)
  refine ⟨hh, fun i x hx => ?_, h.apart⟩
  have q := h.mac i x hx
  have a := hg.2.2.2 i x hx
  have p := q.sys.pt
  exact ⟨⟨hh, p.same (hk _ p.lt a.1.symm) (fun k e => hk k (World.ownsRow.lt p.own k e).2 (fun e2 => a.2 (e2 ▸ e))), q.sys.nb, q.sys.tb, q.sys.hp, fun z l hz => by
    obtain ⟨h1, h2⟩ := q.sys.rows z l hz
    exact ⟨h1.same hs (hk z h1.lt (hG _ hz)), h2⟩⟩, q.ok, q.e0, q.e8, q.e9⟩

/-- A new machine's block. -/
def machObj (b : Nat) (f : Value) : Obj := .cells #[f, .pointer (some ⟨b, 0, none⟩), .bool true, .slice none 0 0, .int .i64 0, .int .i64 0, .bool false, .bool false, .bool false, .nilIface] 94
def machExt (f : Value) (i : Nat) : Option Value := if i = 0 then some f else if i = 8 then some (.bool false) else if i = 9 then some .nilIface else none
def mach0 (xb : Nat) (f : Value) : Mach := ⟨xb, .slice none 0 0, ⟨true, [], 0, 0, false, false, machExt f⟩, f, false, .nilIface⟩
theorem mach_at (h : Has w0 b c r N w m) (hr : ∀ g l, (g, l) ∈ G → Rw w g l ∧ w0.heap.size ≤ g ∧ g ≠ b ∧ g ≠ c ∧ g ≠ r) (f : Value) : Mac w0 b c r N G w.heap.size (.slice none 0 0) (w.alloc (machObj b f)) m ⟨true, [], 0, 0, false, false, machExt f⟩ f false .nilIface := by
  have hb := (Below.refl w.heap.size w).alloc (Nat.le_refl _) (machObj b f)
  have o := h.at_.own
  have k : ∀ i, (w.alloc (machObj b f)).cell? ⟨w.heap.size, i, none⟩ = (#[f, .pointer (some ⟨b, 0, none⟩), .bool true, .slice none 0 0, .int .i64 0, .int .i64 0, .bool false, .bool false, .bool false, .nilIface] : Array Value)[i]? := fun i => World.cell?_alloc_new _ _ _ _
  have h1 := o.lb
  have h2 := o.lc
  have h3 := o.lr
  refine ⟨⟨h.later hb, ⟨⟨k 1, k 2, k 3, k 4, k 5, k 6, k 7⟩, fun i => World.frozen?_alloc_at _ 94 _ i rfl, World.ownsRow_nil _ _ _ _, fun e => (by cases e), fun i hi => ?_⟩, ⟨by omega, by omega, by omega⟩, ⟨fun e => (by cases e), fun e => (by cases e), fun e => (by cases e)⟩, h.below.size, fun g l hx => by
    obtain ⟨q1, q2, q3, q4, q5⟩ := hr g l hx
    exact ⟨q1.same hb.size (hb.block g q1.lt), q2, q3, q4, q5, by have := q1.lt; omega, fun e => (by cases e)⟩⟩, fun _ => ⟨Nat.le_refl _, by simp⟩, rfl, rfl, rfl⟩
  rw [k]
  simp only [machExt]
  rcases hi with hi | hi
  · obtain rfl : i = 0 := by omega
    rfl
  · by_cases e8 : i = 8
    · subst e8; rfl
    · by_cases e9 : i = 9
      · subst e9; rfl
      · rw [if_neg (by omega), if_neg e8, if_neg e9]
        simp; omega
theorem newmach_any (f : Value) (w : World) (hf : ∃ fk caps, f = .func (.func fk) #[] caps) : Calls Tryd.prog 25 #[.pointer (some ⟨b, 0, none⟩), f] w fun e w' => e = .returned (.pointer (some ⟨w.heap.size, 0, none⟩)) ∧ w' = w.alloc (machObj b f) := by
  obtain ⟨fk, caps, rfl⟩ := hf
  unfold machObj
  go_enter Tryd.func25, Tryd.ntmps25
  go_wp2
  go_ret
  exact ⟨rfl, rfl⟩
theorem Team.add (h : Team w0 b c r N G w m L) (hr : ∀ g l, (g, l) ∈ G → Rw w g l ∧ w0.heap.size ≤ g ∧ g ≠ b ∧ g ≠ c ∧ g ≠ r) (f : Value) : Team w0 b c r N G (w.alloc (machObj b f)) m (L ++ [mach0 w.heap.size f]) := by
  have hb := (Below.refl w.heap.size w).alloc (Nat.le_refl _) (machObj b f)
  have hL := h.later hb
  have key : ∀ (j : Nat) (z : Mach), L[j]? = some z → Apart2 z (mach0 w.heap.size f) := fun j z hz => by
    have q := h.mac j z hz
    have h1 := q.sys.pt.lt
    refine ⟨by simp only [mach0]; omega, fun e => ?_, fun e => (by cases e), fun k e e2 => (by cases e2)⟩
    have := (World.ownsRow.lt q.sys.pt.own _ e).2
    simp only [mach0] at this
    omega
  have hlast : ∀ (j : Nat) (z : Mach), (L ++ [mach0 w.heap.size f])[j]? = some z → L[j]? = some z ∨ (j = L.length ∧ z = mach0 w.heap.size f) := fun j z hz => by
    rw [List.getElem?_append] at hz
    split at hz
    · exact .inl hz
    · have hj := (List.getElem?_eq_some_iff.1 hz).1
      simp at hj
      obtain rfl : j = L.length := by omega
      simp at hz
      exact .inr ⟨rfl, hz.symm⟩
  refine ⟨hL.has, fun j z hz => ?_, fun j k z u hz hu hjk => ?_⟩
  · rcases hlast j z hz with e | ⟨_, rfl⟩
    · exact hL.mac j z e
    · exact mach_at h.has hr f
  · rcases hlast j z hz with e | ⟨e1, rfl⟩ <;> rcases hlast k u hu with e2 | ⟨e2, rfl⟩
    · exact h.apart j k z u e e2 hjk
    · exact key j z e
    · exact (key k u e2).symm
    · omega
theorem Off.add {z : Nat} (h : Off z b c r w L) (f : Value) : Off z b c r (w.alloc (machObj b f)) (L ++ [mach0 w.heap.size f]) := by
  refine ⟨by have := h.lt; simp; omega, h.m, fun j u hu => ?_⟩
  rw [List.getElem?_append] at hu
  split at hu
  · exact h.x j u hu
  · have hj := (List.getElem?_eq_some_iff.1 hu).1
    simp at hj
    obtain rfl : j = L.length := by omega
    simp at hu
    subst hu
    exact ⟨by have := h.lt; simp only [mach0]; omega, fun e => (by cases e)⟩
end
end Go.Proofs.YtbcpdkmbbgcfbaaDoor
