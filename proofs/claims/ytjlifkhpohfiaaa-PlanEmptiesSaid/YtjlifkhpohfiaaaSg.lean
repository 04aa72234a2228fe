/- A region that draws its order, all of whose effects but the last ones only make new blocks: one law for its table. Rows beside a row that grows. No condition. -/
import Derived.Test.YtjlifkhpohfiaaaRc
import Derived.Test.YtjlifkhpohfiaaaEWalkH
namespace Go.Proofs.Ytjlifkhpohfiaaa
open Go.RowKit Go.Op
set_option maxRecDepth 100000

/-- The same worlds but for one block. -/
structure But (pb : Nat) (w w' : World) : Prop where
  os : w'.os = w.os
  tape : w'.tape = w.tape
  output : w'.output = w.output
  size : w.heap.size ≤ w'.heap.size
  block : ∀ k, k < w.heap.size → k ≠ pb → w'.heap[k]? = w.heap[k]?
theorem But.refl (pb : Nat) (w : World) : But pb w w := ⟨rfl, rfl, rfl, Nat.le_refl _, fun _ _ _ => rfl⟩
theorem But.trans {pb : Nat} {w1 w2 w3 : World} (h : But pb w1 w2) (k : But pb w2 w3) : But pb w1 w3 :=
  ⟨k.os.trans h.os, k.tape.trans h.tape, k.output.trans h.output, Nat.le_trans h.size k.size, fun i hi hb => (k.block i (Nat.lt_of_lt_of_le hi h.size) hb).trans (h.block i hi hb)⟩
theorem But.of {pb : Nat} {w w' : World} (h : Below w.heap.size w w') : But pb w w' := ⟨h.os, h.tape, h.output, h.size, fun k hk _ => h.block k hk⟩
theorem But.set {pb : Nat} {w w' : World} (h : But pb w w') (i : Nat) (u : Value) : But pb w (w'.setCell ⟨pb, i, none⟩ u) :=
  h.trans ⟨rfl, rfl, rfl, by simp [World.setCell], fun k _ hb => Below.heap_setCell _ _ _ _ hb⟩
theorem But.drew {pb : Nat} {w w' : World} (h : But pb w w') : But pb w w'.drew := h.trans (But.of (Below.refl _ _).drew)

theorem below_drewN (w : World) (n : Nat) {B : Nat} : Below B w (w.drewN n) := by
  induction n with
  | zero => exact Below.refl _ _
  | succ n ih => exact ih.drew
theorem But.sput (w : World) (z : Nat) : ∀ (row : List Value) (o : Nat), But z w (w.setCells z o row)
  | [], _ => But.refl _ _
  | v :: r, o => by
    rw [World.setCells]
    exact ((But.refl z w).set o v).trans (But.sput _ z r (o + 1))
theorem But.below {z B : Nat} {w w1 : World} (h : But z w w1) (hB : B ≤ z) (hs : B ≤ w.heap.size) : Below B w w1 := ⟨h.os, h.tape, h.output, h.size, fun k hk => h.block k (by omega) (by omega)⟩
theorem But.svar {z y : Nat} {w w1 : World} {row : List Value} (h : But z w w1) (hs : SVar w y row) (hy : y ≠ z) : SVar w1 y row := hs.same h.size (h.block y hs.lt hy)
theorem own_but {z base size n : Nat} {e : TypeId} {v : Value} {xs : List Value} {w w1 : World} (h : w.ownsRow base e size v n xs) (hb : But z w w1) (hz : v.ownBlock ≠ some z) : w1.ownsRow base e size v n xs := by
  refine ⟨h.1, ?_⟩
  have hl := World.ownsRow.lt h
  rcases h.2 with q | ⟨g, cap, cur, e1, e2, e3, e4⟩
  · exact .inl q
  · exact .inr ⟨g, cap, cur, e1, e2, by rw [hb.block g (hl g (by rw [e1]; rfl)).2 (fun e => hz (by rw [e1, ← e]; rfl))]; exact e3, e4⟩
theorem own_same {base size n : Nat} {e : TypeId} {v : Value} {xs : List Value} {w w1 : World} (h : w.ownsRow base e size v n xs) (hb : ∀ g, v.ownBlock = some g → w1.heap[g]? = w.heap[g]?) : w1.ownsRow base e size v n xs := by
  refine ⟨h.1, ?_⟩
  rcases h.2 with q | ⟨g, cap, cur, e1, e2, e3, e4⟩
  · exact .inl q
  · exact .inr ⟨g, cap, cur, e1, e2, by rw [hb g (by rw [e1]; rfl)]; exact e3, e4⟩

section
variable {bs : List Bool}
theorem set_at {p : Nat} (h : bs[p]? = some false) : (bs.set p true)[p]? = some true := List.getElem?_set_self (List.getElem?_eq_some_iff.1 h).1
end
/-- What an answer has: it was made between two sizes of memory. -/
abbrev Fact := Value → Nat → Nat → World → Prop
/-- What is true of the answers that have come up, where all only make new blocks. -/
structure SG (w2 : World) (F : List (Nat × Fact)) (iv : Nat → Nat × Nat) (bs : List Bool) (β : Nat → Value) (W : World) : Prop where
  bel : Below w2.heap.size w2 W
  at_ : ∀ (p j : Nat) (Φ : Fact), F[p]? = some (j, Φ) → bs[p]? = some true → Φ (β j) (iv p).1 (iv p).2 W
  lo : ∀ p, p < F.length → bs[p]? = some true → w2.heap.size ≤ (iv p).1 ∧ (iv p).2 ≤ W.heap.size
  dis : ∀ p q, p < F.length → q < F.length → p ≠ q → bs[p]? = some true → bs[q]? = some true → (iv p).2 ≤ (iv q).1 ∨ (iv q).2 ≤ (iv p).1
  st : ∀ x : Nat × Fact, x ∈ F → ∀ v lo hi W W', x.2 v lo hi W → Below W.heap.size W W' → x.2 v lo hi W'
  nd : (F.map (·.1)).Nodup
theorem SG.later {w2 W W' : World} {F : List (Nat × Fact)} {iv : Nat → Nat × Nat} {bs : List Bool} {β : Nat → Value} (h : SG w2 F iv bs β W) (hb : Below W.heap.size W W') : SG w2 F iv bs β W' :=
  ⟨h.bel.trans (hb.mono h.bel.size), fun p j Φ hp hq => h.st _ (List.mem_of_getElem? hp) _ _ _ _ _ (h.at_ p j Φ hp hq) hb, fun p h1 h2 => ⟨(h.lo p h1 h2).1, Nat.le_trans (h.lo p h1 h2).2 hb.size⟩, h.dis, h.st, h.nd⟩
theorem SG.step {w2 W W' : World} {F : List (Nat × Fact)} {iv : Nat → Nat × Nat} {bs : List Bool} {β : Nat → Value} (h : SG w2 F iv bs β W) {p j : Nat} {Φ : Fact} (hp : F[p]? = some (j, Φ)) {u : Value} (hb : Below W.heap.size W W') (hu : Φ u W.heap.size W'.heap.size W') :
    SG w2 F (fun q => if q = p then (W.heap.size, W'.heap.size) else iv q) (bs.set p true) (FreeV.upd β j u) W' := by
  refine ⟨h.bel.trans (hb.mono h.bel.size), fun q k Ψ hq e => ?_, fun q h1 e => ?_, fun q r h1 h2 hne e1 e2 => ?_, h.st, h.nd⟩
  · by_cases e1 : q = p
    · subst e1
      rw [hp] at hq
      cases hq
      rw [FreeV.upd_same]
      simpa using hu
    · have hne : k ≠ j := fun e2 => by
        subst e2
        have h1 : (F.map (·.1))[q]? = some k := by rw [List.getElem?_map, hq]; rfl
        have h2 : (F.map (·.1))[p]? = some k := by rw [List.getElem?_map, hp]; rfl
        exact e1 ((List.getElem?_inj (List.getElem?_eq_some_iff.1 h1).1 h.nd).1 (h1.trans h2.symm))
      rw [FreeV.upd_ne hne]
      rw [List.getElem?_set_ne (fun e => e1 e.symm)] at e
      simp only [if_neg e1]
      exact h.st _ (List.mem_of_getElem? hq) _ _ _ _ _ (h.at_ q k Ψ hq e) hb
  · by_cases e1 : q = p
    · simp only [if_pos e1]
      exact ⟨h.bel.size, Nat.le_refl _⟩
    · rw [List.getElem?_set_ne (fun e => e1 e.symm)] at e
      simp only [if_neg e1]
      exact ⟨(h.lo q h1 e).1, Nat.le_trans (h.lo q h1 e).2 hb.size⟩
  · by_cases e3 : q = p
    · have e4 : r ≠ p := fun e => hne (e3.trans e.symm)
      rw [List.getElem?_set_ne (fun e => e4 e.symm)] at e2
      simp only [if_pos e3, if_neg e4]
      exact .inr (h.lo r h2 e2).2
    · rw [List.getElem?_set_ne (fun e => e3 e.symm)] at e1
      by_cases e4 : r = p
      · simp only [if_neg e3, if_pos e4]
        exact .inl (h.lo q h1 e1).2
      · rw [List.getElem?_set_ne (fun e => e4 e.symm)] at e2
        simp only [if_neg e3, if_neg e4]
        exact h.dis q r h1 h2 hne e1 e2
/-- The same, with one effect that is the last one. -/
structure SGL (w2 : World) (F : List (Nat × Fact)) (a : Nat) (P : (Nat → Value) → World → Prop) (bs : List Bool) (β : Nat → Value) (W : World) : Prop where
  tot : bs[a]? = some false ∨ bs[a]? = some true
  pre : bs[a]? = some false → ∃ iv, SG w2 F iv bs β W
  fin : bs[a]? = some true → P β W
section
variable {w2 W W' : World} {F : List (Nat × Fact)} {a : Nat} {P : (Nat → Value) → World → Prop} {bs : List Bool} {β : Nat → Value} {p j : Nat} {Φ : Fact} {u : Value}
theorem SGL.start (n : Nat) (ha : a < n) (st : ∀ x : Nat × Fact, x ∈ F → ∀ v lo hi W W', x.2 v lo hi W → Below W.heap.size W W' → x.2 v lo hi W') (nd : (F.map (·.1)).Nodup) : SGL w2 F a P (List.replicate n false) (fun _ => undef) w2.drew := by
  have e : (List.replicate n false)[a]? = some false := by rw [List.getElem?_replicate, if_pos ha]
  have no : ∀ p, (List.replicate n false)[p]? ≠ some true := fun p e => by rw [List.getElem?_replicate] at e; split at e <;> cases e
  exact ⟨.inl e, fun _ => ⟨fun _ => (0, 0), ⟨(Below.refl _ _).drew, fun p j Φ _ e => absurd e (no p), fun p _ e => absurd e (no p), fun p q _ _ _ e => absurd e (no p), st, nd⟩⟩, fun e2 => by rw [e] at e2; cases e2⟩
theorem SGL.later (h : SGL w2 F a P bs β W) (ba : bs[a]? = some false) (hb : Below W.heap.size W W') : SGL w2 F a P bs β W' := ⟨h.tot, fun e => let ⟨iv, h1⟩ := h.pre e; ⟨iv, h1.later hb⟩, fun e => by rw [ba] at e; cases e⟩
theorem SGL.bel (h : SGL w2 F a P bs β W) (ba : bs[a]? = some false) : Below w2.heap.size w2 W := let ⟨_, h1⟩ := h.pre ba; h1.bel
theorem SGL.get (h : SGL w2 F a P bs β W) (ba : bs[a]? = some false) (hp : F[p]? = some (j, Φ)) (bp : bs[p]? = some true) : ∃ lo hi, Φ (β j) lo hi W := let ⟨_, h1⟩ := h.pre ba; ⟨_, _, h1.at_ p j Φ hp bp⟩
theorem SGL.step (h : SGL w2 F a P bs β W) (ba : bs[a]? = some false) (hne : p ≠ a) (hp : F[p]? = some (j, Φ)) (hb : Below W.heap.size W W') (hu : Φ u W.heap.size W'.heap.size W') : SGL w2 F a P (bs.set p true) (FreeV.upd β j u) W' :=
  ⟨.inl (by rw [List.getElem?_set_ne hne]; exact ba), fun _ => let ⟨_, h1⟩ := h.pre ba; ⟨_, h1.step hp hb hu⟩, fun e => by rw [List.getElem?_set_ne hne, ba] at e; cases e⟩
theorem SGL.call {f : FuncId} {args : Array Value} (h : SGL w2 F a P bs β W) (ba : bs[a]? = some false) (hne : p ≠ a) (hp : F[p]? = some (j, Φ)) (hc : Calls Try.prog f args W fun e w' => ∃ u, e = .returned u ∧ Below W.heap.size W w' ∧ Φ u W.heap.size w'.heap.size w') :
    Calls Try.prog f args W fun e w' => ∃ u, e = .returned u ∧ SGL w2 F a P (bs.set p true) (FreeV.upd β j u) w' := by
  refine hc.mono ?_
  rintro e w' ⟨u, rfl, hb, hu⟩
  exact ⟨u, rfl, h.step ba hne hp hb hu⟩
theorem SGL.last (h : bs[a]? = some false) {β' : Nat → Value} (hP : P β' W') : SGL w2 F a P (bs.set a true) β' W' := ⟨.inr (set_at h), fun e => (by rw [set_at h] at e; cases e), fun _ => hP⟩
end

section
variable {P : Program} {effs : List Nat} {ops : Array Oper} {S : List Bool → (Nat → Value) → World → Prop} {i : Nat} {o0 : Oper}
theorem d_get1 (ho : ops[i]? = some o0) {f : FuncId} {x a : Operand} {ts : Array TypeId} (hop : o0.op = .call { callee := .value x, args := #[a], argTypes := ts }) (he : ∀ zs w, (callFunc f zs).run P w = .ok (.enter f zs) w) (p : Nat) (hp : effs[p]? = some i) {va : (Nat → Value) → Value}
    (h : ∀ β bs w, S bs β w → FreeV.Due ops effs i bs → Calls P f #[va β] w fun e w' => ∃ u, e = .returned u ∧ S (bs.set p true) (FreeV.upd β i u) w') : FreeV.Does P effs ops S ⟨i, fun β => [.func (.func f) #[] #[], va β], fun β => β i, .get⟩ := by
  refine ⟨fun β u => FreeV.upd_same i u, p, hp, ?_⟩
  rintro o h1 β ρ h2 bs w hS hd
  rw [ho] at h1
  cases h1
  rw [hop] at h2
  have h3 : ρ x = .func (.func f) #[] #[] ∧ ρ a = va β := by simpa [Op.operands, Call.operands] using h2
  have hcf := he #[va β] w
  exact ⟨f, _, by simp [execOp, hop, resolve, h3.1, h3.2, invoke, go_sem, hcf], h β bs w hS hd⟩
theorem d_get3 (ho : ops[i]? = some o0) {f : FuncId} {x a b c : Operand} {ts : Array TypeId} (hop : o0.op = .call { callee := .value x, args := #[a, b, c], argTypes := ts }) (he : ∀ zs w, (callFunc f zs).run P w = .ok (.enter f zs) w) (p : Nat) (hp : effs[p]? = some i) {va vb vc : (Nat → Value) → Value}
    (h : ∀ β bs w, S bs β w → FreeV.Due ops effs i bs → Calls P f #[va β, vb β, vc β] w fun e w' => ∃ u, e = .returned u ∧ S (bs.set p true) (FreeV.upd β i u) w') : FreeV.Does P effs ops S ⟨i, fun β => [.func (.func f) #[] #[], va β, vb β, vc β], fun β => β i, .get⟩ := by
  refine ⟨fun β u => FreeV.upd_same i u, p, hp, ?_⟩
  rintro o h1 β ρ h2 bs w hS hd
  rw [ho] at h1
  cases h1
  rw [hop] at h2
  have h3 : ρ x = .func (.func f) #[] #[] ∧ ρ a = va β ∧ ρ b = vb β ∧ ρ c = vc β := by simpa [Op.operands, Call.operands] using h2
  have hcf := he #[va β, vb β, vc β] w
  exact ⟨f, _, by simp [execOp, hop, resolve, h3.1, h3.2.1, h3.2.2.1, h3.2.2.2, invoke, go_sem, hcf], h β bs w hS hd⟩
theorem d_ask3 (ho : ops[i]? = some o0) {f : FuncId} {x a b c : Operand} {ts : Array TypeId} (hop : o0.op = .call { callee := .value x, args := #[a, b, c], argTypes := ts }) (he : ∀ zs w, (callFunc f zs).run P w = .ok (.enter f zs) w) {va vb vc v : (Nat → Value) → Value}
    (h : ∀ β bs w, S bs β w → FreeV.Due ops effs i bs → Calls P f #[va β, vb β, vc β] w fun e w' => e = .returned (v β) ∧ S bs β w') : FreeV.Does P effs ops S ⟨i, fun β => [.func (.func f) #[] #[], va β, vb β, vc β], v, .ask⟩ := by
  rintro o h1 β ρ h2 bs w hS hd
  rw [ho] at h1
  cases h1
  rw [hop] at h2
  have h3 : ρ x = .func (.func f) #[] #[] ∧ ρ a = va β ∧ ρ b = vb β ∧ ρ c = vc β := by simpa [Op.operands, Call.operands] using h2
  have hcf := he #[va β, vb β, vc β] w
  exact ⟨f, _, by simp [execOp, hop, resolve, h3.1, h3.2.1, h3.2.2.1, h3.2.2.2, invoke, go_sem, hcf], h β bs w hS hd⟩
theorem d_build3 (ho : ops[i]? = some o0) {T : TypeId} {x1 x2 x3 : Operand} {k1 k2 k3 : Nat} (hop : o0.op = .build T #[(k1, x1), (k2, x2), (k3, x3)]) {v1 v2 v3 v : (Nat → Value) → Value}
    (h : ∀ β bs w, S bs β w → FreeV.Due ops effs i bs → (Instr.build T #[(k1, v1 β), (k2, v2 β), (k3, v3 β)]).run P w = .ok (v β) w) : FreeV.Does P effs ops S ⟨i, fun β => [v1 β, v2 β, v3 β], v, .read⟩ := by
  rintro o h1 β ρ h2 bs w hS hd
  rw [ho] at h1
  cases h1
  rw [hop] at h2
  simp [Op.operands] at h2
  simp [execOp, hop, h2, h β bs w hS hd]
theorem d_build4 (ho : ops[i]? = some o0) {T : TypeId} {x1 x2 x3 x4 : Operand} {k1 k2 k3 k4 : Nat} (hop : o0.op = .build T #[(k1, x1), (k2, x2), (k3, x3), (k4, x4)]) {v1 v2 v3 v4 v : (Nat → Value) → Value}
    (h : ∀ β bs w, S bs β w → FreeV.Due ops effs i bs → (Instr.build T #[(k1, v1 β), (k2, v2 β), (k3, v3 β), (k4, v4 β)]).run P w = .ok (v β) w) : FreeV.Does P effs ops S ⟨i, fun β => [v1 β, v2 β, v3 β, v4 β], v, .read⟩ := by
  rintro o h1 β ρ h2 bs w hS hd
  rw [ho] at h1
  cases h1
  rw [hop] at h2
  simp [Op.operands] at h2
  simp [execOp, hop, h2, h β bs w hS hd]
theorem d_conv (ho : ops[i]? = some o0) {T U : TypeId} {x : Operand} (hop : o0.op = .convert T U x) {vx v : (Nat → Value) → Value} (h : ∀ β w, (convert T U (vx β)).run P w = .ok (v β) w) : FreeV.Does P effs ops S ⟨i, fun β => [vx β], v, .pure⟩ := by
  rintro o h1 β ρ h2 w
  rw [ho] at h1
  cases h1
  rw [hop] at h2
  simp [Op.operands] at h2
  simp [execOp, hop, h2, h β w]
theorem d_binr (ho : ops[i]? = some o0) {op : BinOp} {T R : TypeId} {c : Value} {x : Operand} (hop : o0.op = .binOp op T (.const c) x R) {vx v : (Nat → Value) → Value} (h : ∀ β xo w, (eqGuard op T (.const c) xo c (vx β)).run P w = .ok () w ∧ (binOp op T c (vx β)).run P w = .ok (v β) w) : FreeV.Does P effs ops S ⟨i, fun β => [c, vx β], v, .pure⟩ := by
  rintro o h1 β ρ h2 w
  rw [ho] at h1
  cases h1
  rw [hop] at h2
  simp [Op.operands] at h2
  obtain ⟨h3, h4⟩ := h β x w
  simp [execOp, hop, h2, h3, h4]
end

/-- A row that doesn't stand in a block. -/
def Far (g : Option Nat) (a : Option Addr) (n : Nat) : Prop := n = 0 ∨ ∀ x, a = some x → g ≠ some x.block
structure VFar (g : Option Nat) (v : Vw) (q : Vs) : Prop where
  na : Far g q.na v.nd.nx.length
  la : Far g q.la v.links.length
  ka : Far g q.s.ka v.rv.l.length
  va : Far g q.s.va v.rv.l.length
  ga : Far g q.s.ga v.rv.l.length
  ta : Far g q.s.ta v.rv.tab.length
section
variable {w w1 : World} {g : Option Nat}
theorem RowAt.same {a : Option Addr} {xs : List Value} {n : Nat} (h : RowAt w a xs) (hf : Far g a n) (hn : n = 0 → xs = []) (hs : w.heap.size ≤ w1.heap.size) (hb : ∀ j, j < w.heap.size → g ≠ some j → w1.heap[j]? = w.heap[j]?) : RowAt w1 a xs := by
  rcases h with e | ⟨b, o, e, hl, hr⟩
  · exact .inl e
  · rcases hf with e0 | hf
    · exact .inl (hn e0)
    · exact .inr ⟨b, o, e, Nat.lt_of_lt_of_le hl hs, rangeAt_same hr (hb b hl (hf _ e))⟩
theorem keys_same {a : Option Addr} {l : List ByteArray} {n : Nat} (h : Keys w a l) (hf : Far g a n) (hn : n = 0 → l = []) (hs : w.heap.size ≤ w1.heap.size) (hb : ∀ j, j < w.heap.size → g ≠ some j → w1.heap[j]? = w.heap[j]?) : Keys w1 a l := by
  rcases h with e | ⟨b, o, e, hl, hr⟩
  · exact .inl e
  · rcases hf with e0 | hf
    · exact .inl (hn e0)
    · exact .inr ⟨b, o, e, Nat.lt_of_lt_of_le hl hs, fun k hk => by rw [World.cell?_of_block (w := w) (a := ⟨b, o + k, none⟩) (hb b hl (hf _ e))]; exact hr k hk⟩
theorem bools_same {a : Option Addr} {l : List Bool} {n : Nat} (h : Bools w a l) (hf : Far g a n) (hn : n = 0 → l = []) (hs : w.heap.size ≤ w1.heap.size) (hb : ∀ j, j < w.heap.size → g ≠ some j → w1.heap[j]? = w.heap[j]?) : Bools w1 a l := by
  rcases h with e | ⟨b, o, e, hl, hr⟩
  · exact .inl e
  · rcases hf with e0 | hf
    · exact .inl (hn e0)
    · exact .inr ⟨b, o, e, Nat.lt_of_lt_of_le hl hs, fun k hk => by rw [World.cell?_of_block (w := w) (a := ⟨b, o + k, none⟩) (hb b hl (hf _ e))]; exact hr k hk⟩
theorem nums_same {a : Option Addr} {l : List Int} {n : Nat} (h : Nums w a l) (hf : Far g a n) (hn : n = 0 → l = []) (hs : w.heap.size ≤ w1.heap.size) (hb : ∀ j, j < w.heap.size → g ≠ some j → w1.heap[j]? = w.heap[j]?) : Nums w1 a l := by
  rcases h with e | ⟨b, o, e, hl, hr⟩
  · exact .inl e
  · rcases hf with e0 | hf
    · exact .inl (hn e0)
    · exact .inr ⟨b, o, e, Nat.lt_of_lt_of_le hl hs, fun k hk => by rw [World.cell?_of_block (w := w) (a := ⟨b, o + k, none⟩) (hb b hl (hf _ e))]; exact hr k hk⟩
theorem len0 {α : Type} {l : List α} (h : l.length = 0) : l = [] := List.length_eq_zero_iff.1 h
theorem RevAt.same {R : Rm} {s : Rs} (h : RevAt w R s) (h1 : Far g s.ka R.l.length) (h2 : Far g s.va R.l.length) (h3 : Far g s.ga R.l.length) (h4 : Far g s.ta R.tab.length) (hs : w.heap.size ≤ w1.heap.size) (hb : ∀ j, j < w.heap.size → g ≠ some j → w1.heap[j]? = w.heap[j]?) : RevAt w1 R s :=
  ⟨keys_same h.k h1 (fun e => by rw [len0 e]; rfl) hs hb, keys_same h.v h2 (fun e => by rw [len0 e]; rfl) hs hb, bools_same h.g h3 (fun e => by rw [len0 e]; rfl) hs hb, nums_same h.t h4 len0 hs hb⟩
theorem VAt.same {v : Vw} {q : Vs} (h : VAt w v q) (hf : VFar g v q) (hs : w.heap.size ≤ w1.heap.size) (hb : ∀ j, j < w.heap.size → g ≠ some j → w1.heap[j]? = w.heap[j]?) : VAt w1 v q :=
  ⟨h.nx.same hf.na (fun e => by rw [len0 e]; rfl) hs hb, h.lk.same hf.la (fun e => by rw [len0 e]; rfl) hs hb, h.rv.same hf.ka hf.va hf.ga hf.ta hs hb, h.nf, h.lf⟩
/-- What stands in memory stands in no block that isn't there yet. -/
theorem RowAt.far {a : Option Addr} {xs : List Value} (h : RowAt w a xs) {b n : Nat} (hb : w.heap.size ≤ b) (hn : xs = [] → n = 0) : Far (some b) a n := by
  rcases h with e | ⟨c, o, e, hl, hr⟩
  · exact .inl (hn e)
  · refine .inr fun x hx => ?_
    rw [e] at hx; cases hx
    intro e2
    have e3 : b = c := Option.some.inj e2
    omega
theorem keys_far {a : Option Addr} {l : List ByteArray} (h : Keys w a l) {b n : Nat} (hb : w.heap.size ≤ b) (hn : l = [] → n = 0) : Far (some b) a n := by
  rcases h with e | ⟨c, o, e, hl, hr⟩
  · exact .inl (hn e)
  · refine .inr fun x hx => ?_
    rw [e] at hx; cases hx
    intro e2
    have e3 : b = c := Option.some.inj e2
    omega
theorem bools_far {a : Option Addr} {l : List Bool} (h : Bools w a l) {b n : Nat} (hb : w.heap.size ≤ b) (hn : l = [] → n = 0) : Far (some b) a n := by
  rcases h with e | ⟨c, o, e, hl, hr⟩
  · exact .inl (hn e)
  · refine .inr fun x hx => ?_
    rw [e] at hx; cases hx
    intro e2
    have e3 : b = c := Option.some.inj e2
    omega
theorem nums_far {a : Option Addr} {l : List Int} (h : Nums w a l) {b n : Nat} (hb : w.heap.size ≤ b) (hn : l = [] → n = 0) : Far (some b) a n := by
  rcases h with e | ⟨c, o, e, hl, hr⟩
  · exact .inl (hn e)
  · refine .inr fun x hx => ?_
    rw [e] at hx; cases hx
    intro e2
    have e3 : b = c := Option.some.inj e2
    omega
theorem VAt.far {v : Vw} {q : Vs} (h : VAt w v q) {b : Nat} (hb : w.heap.size ≤ b) : VFar (some b) v q :=
  ⟨h.nx.far hb (fun e => by simpa [ints] using e), h.lk.far hb (fun e => by simpa [ints] using e), keys_far h.rv.k hb (fun e => by simpa using e), keys_far h.rv.v hb (fun e => by simpa using e), bools_far h.rv.g hb (fun e => by simpa using e), nums_far h.rv.t hb (fun e => by rw [e]; rfl)⟩
theorem far_of {a : Option Addr} {n B b : Nat} (h : ∀ x, a = some x → B ≤ x.block) (hb : b < B) : Far (some b) a n := .inr fun x hx e => by
  have := h x hx
  cases e
  omega
theorem far_none {a : Option Addr} {n : Nat} : Far none a n := .inr fun _ _ e => (by cases e)
end
end Go.Proofs.Ytjlifkhpohfiaaa
