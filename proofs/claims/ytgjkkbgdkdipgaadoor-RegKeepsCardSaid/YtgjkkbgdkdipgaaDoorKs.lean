/- RegKeeps' machines in the program's memory: a step of one that keeps to what it keeps to. Conditions: at most 1000 asks. -/
import Derived.Test.YtgjkkbgdkdipgaaDoorKr
namespace Go.Proofs.YtgjkkbgdkdipgaaDoor
open Go.RowKit Go.Op
set_option maxRecDepth 100000

/-- Blocks of the law's own beside memory and machines. -/
structure KW (w0 : World) (b c r : Nat) (Z : List Nat) (G : List (Nat × List Sw)) (w : World) (m : M) (L : List Mach) : Prop where
  tm : TeamE w0 b c r G w m L
  own : ∀ z, z ∈ Z → LocM w0 b c r G w z ∧ Off z b c r w L
/-- Where a machine stands, and what it keeps to. -/
def Ms {α σ : Type} (r : Ru α σ) (p : Pn α) (f : Value) (Rv : α → Value → Prop) (x : Mach) (s : σ) : Prop :=
  (x.fin = false ∧ x.f = f ∧ ∃ q k, MAt p x (.ask q k) x.s.noted x.s.place ∧ Og r (.ask q k) x.s.noted x.s.place s) ∨
  (x.fin = true ∧ ∃ a, Rv a x.out ∧ Og r (.ret a) x.s.noted x.s.place s)
section
variable {α σ : Type} {ru : Ru α σ} {p : Pn α} {f : Value} {Rv : α → Value → Prop} {x : Mach} {s s2 : σ}
theorem Ms.inv (h : Ms ru p f Rv x s) (hr : ru.rely s s) : ru.inv x.s.noted x.s.place s := by
  rcases h with ⟨-, -, q, k, -, h⟩ | ⟨-, a, -, h⟩
  · exact (h s hr).1
  · exact (h s hr).1
theorem Ms.others (ht : ∀ s1 s2 s3, ru.rely s1 s2 → ru.rely s2 s3 → ru.rely s1 s3) (h : Ms ru p f Rv x s) (h2 : ru.rely s s2) : Ms ru p f Rv x s2 := by
  rcases h with ⟨h1, e, q, k, hM, h⟩ | ⟨h1, a, ha, h⟩
  · exact .inl ⟨h1, e, q, k, hM, Og.others ht _ h h2⟩
  · exact .inr ⟨h1, a, ha, Og.others ht _ h h2⟩
theorem Ms.ended (h : Ms ru p f Rv x s) (hf : x.fin = true) (hr : ru.rely s s) : ∃ a, Rv a x.out ∧ ru.inv x.s.noted x.s.place s ∧ ru.fin a x.s.noted s := by
  rcases h with ⟨h1, -⟩ | ⟨-, a, ha, h⟩
  · rw [hf] at h1; cases h1
  · exact ⟨a, ha, h s hr⟩
theorem Ms.start (z : Nat) (hp : p.skip = p) (hn : p.nt 0 = 0) {q : Qn} {k : An → Pn α} (e : p = .ask q k) (h : Og ru p 0 0 s) : Ms ru p f Rv (mach0 z f) s := by
  have h1 := MAt.start p z f hn
  rw [hp] at h1
  refine .inl ⟨rfl, rfl, q, k, ?_, ?_⟩
  · rw [← e]; exact h1
  · rw [← e]; exact h
end
section
variable {w0 : World} {b c r : Nat} {Z : List Nat} {G G' : List (Nat × List Sw)} {w w1 w' : World} {m m' : M} {L : List Mach}
theorem KW.later (h : KW w0 b c r Z G w m L) (hb : Below w.heap.size w w') : KW w0 b c r Z G w' m L :=
  ⟨h.tm.later hb, fun z hz => ⟨(h.own z hz).1.later hb.size (Grow.refl _ _), (h.own z hz).2.later hb.size⟩⟩
theorem KW.keep (h : KW w0 b c r Z G w m L) (hb : Below w.heap.size w w') {z : Nat} (hz : z ∈ Z) : w'.heap[z]? = w.heap[z]? := hb.block z (h.own z hz).1.lt
theorem KW.mem (h : KW w0 b c r Z G w m L) (k : HasE w0 b c r G' w' m') (hb : ButN [b, c, r] w.heap.size w w') (hg : Grow w G G') (hc : m.count ≤ m'.count) : KW w0 b c r Z G' w' m' L ∧ ∀ z, z ∈ Z → w'.heap[z]? = w.heap[z]? :=
  ⟨⟨h.tm.mem k hb hg (.inl hc), fun z hz => ⟨(h.own z hz).1.later hb.size hg, (h.own z hz).2.later hb.size⟩⟩, fun z hz => hb.block z (h.own z hz).1.lt (by have := (h.own z hz).1.ne; simp; omega)⟩
theorem KW.aside (h : KW w0 b c r Z G w m L) {z : Nat} (hz : z ∈ Z) (hk : But z w w') : KW w0 b c r Z G w' m L :=
  ⟨h.tm.aside hk (h.own z hz).1 (h.own z hz).2, fun y hy => ⟨(h.own y hy).1.later hk.size (Grow.refl _ _), (h.own y hy).2.later hk.size⟩⟩
theorem KW.add (h : KW w0 b c r Z G w m L) (f : Value) : KW w0 b c r Z G (w.alloc (machObj b f)) m (L ++ [mach0 w.heap.size f]) :=
  ⟨h.tm.add f, fun z hz => ⟨(h.own z hz).1.later (by simp) (Grow.refl _ _), (h.own z hz).2.add f⟩⟩
theorem KW.new (h : KW w0 b c r Z G w m L) (o : Obj) : KW w0 b c r (w.heap.size :: Z) G (w.alloc o) m L := by
  have hb := (Below.refl w.heap.size w).alloc (Nat.le_refl _) o
  have h2 := h.later hb
  refine ⟨h2.tm, fun z hz => ?_⟩
  rcases List.mem_cons.1 hz with rfl | hz
  · refine ⟨h.tm.has.fresh o, ⟨by simp, (h.tm.has.fresh o).ne, fun i x hx => ?_⟩⟩
    obtain ⟨m0, q1, -⟩ := h.tm
    have p := (q1.mac i x hx).sys.pt
    have p1 := p.lt
    exact ⟨by omega, fun e => by have := (World.ownsRow.lt p.own _ e).2; omega⟩
  · exact h2.own z hz
theorem KW.loc (h : KW w0 b c r Z G w m L) {z : Nat} (hz : z ∈ Z) {i : Nat} {x : Mach} (hi : L[i]? = some x) (hB : But x.xb w w1) : Loc w0 b c r x.xb x.t G w1 z ∧ w1.heap[z]? = w.heap[z]? := by
  obtain ⟨h1, h2⟩ := h.own z hz
  have h3 := h2.x i x hi
  exact ⟨⟨Nat.lt_of_lt_of_le h1.lt hB.size, h1.ge, ⟨h1.ne.1, h1.ne.2.1, h1.ne.2.2, h3.1⟩, h3.2, h1.ng⟩, hB.block z h1.lt h3.1⟩
/-- A step. -/
theorem KW.step {α σ : Type} {ru : Ru α σ} {p : Pn α} {fk : FuncId} {caps : Array Value} {Rv : α → Value → Prop} {x : Mach} {s : σ} {j : Nat} {i : Nat} (h : KW w0 b c r Z G w m L) (hi : L[i]? = some x) (hm : Ms ru p (.func (.func fk) #[] caps) Rv x s) (hr : ru.rely s s) (hrep : ru.rep j m s) (hj : j ≤ 1000) (hc : m.count ≤ 800000) (hnext : ru.rep (j + 1) m s) (hg0 : ru.guar x.s.noted s x.s.noted s)
    (he : ∀ zs w, (callFunc fk zs).run Tryd.prog w = .ok (.enter fk zs) w) (hR : ∀ a v, Rv a v → ∃ ty u, v = .iface ty u)
    (hfn : ∀ w1 s1, SysE w0 b c r x.xb 1 x.t G w1 m s1 → s1.halted = false → But x.xb w w1 → Calls Tryd.prog fk (#[.pointer (some ⟨x.xb, 1, none⟩)] ++ caps) w1 fun e w' => Ev w0 b c r x.xb 1 x.t G w1 (fun _ => Rv) (p.run s1 m) e w') :
    Calls Tryd.prog 31 #[.pointer (some ⟨x.xb, 0, none⟩)] w fun e w' => ∃ y G' m' s', e = .returned (.bool y.fin) ∧ y.xb = x.xb ∧ KW w0 b c r Z G' w' m' (L.set i y) ∧ (∀ z, z ∈ Z → w'.heap[z]? = w.heap[z]?) ∧ ru.rep (j + 1) m' s' ∧ ru.guar x.s.noted s y.s.noted s' ∧ Ms ru p (.func (.func fk) #[] caps) Rv y s' := by
  rcases id hm with ⟨h1, e, q, k, hM, hog⟩ | ⟨h1, -⟩
  · obtain ⟨-, hst⟩ := hog s hr
    obtain ⟨s3, g1, g2, g3⟩ := hst j m hj hrep
    refine (h.tm.went hi h1 hM e he Rv hR (by rw [on_count]; omega) hfn).mono ?_
    rintro e w' ⟨y, G', hw⟩
    have hown : ∀ z, z ∈ Z → (LocM w0 b c r G' w' z ∧ Off z b c r w' (L.set i y)) ∧ w'.heap[z]? = w.heap[z]? := fun z hz => by
      obtain ⟨q1, q2⟩ := (h.own z hz).2.step hi hw.xb hw.but hw.row
      exact ⟨⟨(h.own z hz).1.later hw.but.size hw.gro, q1⟩, q2⟩
    have g4 := (Og.skip _ _ _ _).1 g3
    rw [← hw.noted] at g2
    rcases hw.out with ⟨a, o1, rfl, o3, o4⟩ | ⟨q2, k2, o1, rfl, o3, o4, o5⟩
    · refine ⟨y, G', _, s3, by rw [o3], hw.xb, ⟨hw.team, fun z hz => (hown z hz).1⟩, fun z hz => (hown z hz).2, g1, g2, .inr ⟨o3, a, o4, ?_⟩⟩
      rw [o1] at g4
      rw [hw.noted, hw.place]
      exact g4
    · refine ⟨y, G', _, s3, by rw [o3], hw.xb, ⟨hw.team, fun z hz => (hown z hz).1⟩, fun z hz => (hown z hz).2, g1, g2, .inl ⟨o3, o4.trans e, q2, k2, ?_, ?_⟩⟩
      · rw [hw.noted, hw.place, ← o1]
        exact o5
      · rw [o1] at g4
        rw [hw.noted, hw.place]
        exact g4
  · refine (h.tm.done hi h1).mono ?_
    rintro e w' ⟨rfl, rfl⟩
    have e2 : L.set i x = L := by
      obtain ⟨hl, e⟩ := List.getElem?_eq_some_iff.1 hi
      rw [← e]; exact List.set_getElem_self hl
    exact ⟨x, G, m, s, by rw [h1], rfl, by rw [e2]; exact h, fun z hz => rfl, hnext, hg0, hm⟩
end
end Go.Proofs.YtgjkkbgdkdipgaaDoor
