/- What slices.Clone of a descriptor's swaps, and Load, come to. Conditions: at most 900000 asks. -/
import Derived.Test.YteiikkkcjpfapaaDoorPrD
namespace Go.Proofs.YteiikkkcjpfapaaDoor
open Go.RowKit Go.Op
set_option maxRecDepth 100000

section
variable {w0 : World} {b c r pb po : Nat} {t t1 : Value} {G G1 : List (Nat × List Sw)} {w w1 w2 : World} {m m1 : M} {s s1 : Pt}
theorem SysE.grow (h : SysE w0 b c r pb po t G w m s) (hb : Below w.heap.size w w1) {g : Nat} {l : List Sw} (hg : w.heap.size ≤ g) (hr : Rw w1 g l) : SysE w0 b c r pb po t ((g, l) :: G) w1 m s := by
  obtain ⟨m0, s0, h1, h2, h3, h4⟩ := h
  have h5 := h1.later hb
  have o := h1.has.at_.own
  have q1 := o.lb
  have q2 := o.lc
  have q3 := o.lr
  have q4 := h1.pt.lt
  have q5 := h1.has.below.size
  have hs : ∀ x, x ∈ G → x ∈ (g, l) :: G := fun x hx => List.mem_cons_of_mem _ hx
  refine ⟨m0, s0, ⟨h5.has, h5.pt, h5.nb, h5.tb, h5.hp, fun g' l' hx => ?_⟩, h2.more hs, h3.more hs, h4⟩
  rcases List.mem_cons.1 hx with e | e
  · cases e
    exact ⟨hr, by omega, by omega, by omega, by omega, by omega, fun e => by
      have := (World.ownsRow.lt h1.pt.own _ e).2
      omega⟩
  · exact h5.rows g' l' e
theorem Aft.grow (h : Aft w0 b c r pb po t G w t1 G1 w1 m1 s1) (hb : Below w1.heap.size w1 w2) {g : Nat} {l : List Sw} (hg : w1.heap.size ≤ g) (hr : Rw w2 g l) : Aft w0 b c r pb po t G w t1 ((g, l) :: G1) w2 m1 s1 := by
  have h1 := h.later hb
  refine ⟨h.sys.grow hb hg hr, h1.but, h1.row, ⟨fun x hx => List.mem_cons_of_mem _ (h.gro.1 x hx), fun x hx => ?_⟩⟩
  rcases List.mem_cons.1 hx with e | e
  · cases e
    exact .inr (Nat.le_trans h.but.size hg)
  · exact h.gro.2 x e
/-- Behind Clone. -/
def Cloned (w0 : World) (b c r pb po : Nat) (t : Value) (G : List (Nat × List Sw)) (w : World) (t1 : Value) (G1 : List (Nat × List Sw)) (w1 : World) (m1 : M) (s1 : Pt) (d : Ds) (e : Ending) (w' : World) : Prop :=
  ∃ ad cap G2, e = .returned (.slice ad d.n cap) ∧ (Ds.mk d.ver d.bf d.st d.sw ad d.n cap).In G2 ∧ Aft w0 b c r pb po t G w t1 G2 w' m1 s1 ∧ Grow w1 G1 G2
theorem eclone (h : Aft w0 b c r pb po t G w t1 G1 w1 m1 s1) (d : Ds) (hd : d.In G1) :
    Calls Tryd.prog 53 #[.slice d.ad d.n d.cap] w1 fun e w' => Cloned w0 b c r pb po t G w t1 G1 w1 m1 s1 d e w' ∧ Below w1.heap.size w1 w' := by
  obtain ⟨m0, s0, h1, -⟩ := id h.sys
  have hsl : SlAt w1 d.ad d.sw := hd.row.imp id fun ⟨g, e, hm⟩ => ⟨g, e, (h1.rows g _ hm).1⟩
  have hcap := hd.cap
  rw [hd.n] at hcap
  rw [hd.n]
  refine (clone_any w1 d.ad d.cap d.sw hd.few hcap hsl).mono ?_
  rintro e w2 ⟨⟨ad, cap, rfl, h2, h3⟩, hb⟩
  refine ⟨?_, hb⟩
  rcases h3 with h3 | ⟨g, rfl, hg, hr⟩
  · exact ⟨ad, cap, G1, by rw [hd.n], ⟨hd.n, by rw [hd.n]; exact h2, hd.few, .inl h3⟩, h.later hb, Grow.refl _ _⟩
  · exact ⟨_, cap, (g, d.sw) :: G1, by rw [hd.n], ⟨hd.n, by rw [hd.n]; exact h2, hd.few, .inr ⟨g, rfl, List.mem_cons_self ..⟩⟩, h.grow hb hg hr, ⟨fun x hx => List.mem_cons_of_mem _ hx, fun x hx => (List.mem_cons.1 hx).elim (fun e => by cases e; exact .inr hg) .inl⟩⟩
theorem Loc.grow {z : Nat} (h : Loc w0 b c r pb t G w z) (hs : w.heap.size ≤ w1.heap.size) (hg : Grow w G G1) : Loc w0 b c r pb t G1 w1 z :=
  ⟨Nat.lt_of_lt_of_le h.lt hs, h.ge, h.ne, h.nt, fun x hx e => (hg.2 x hx).elim (fun e2 => h.ng x e2 e) fun e2 => by have := h.lt; omega⟩
theorem load_E (h : SysE w0 b c r pb po t G w m s) (hc : m.count ≤ 900000) (k : Int) :
    Calls Tryd.prog 36 #[.pointer (some ⟨pb, po, none⟩), .int .i64 k] w fun e w' => Ev w0 b c r pb po t G w RHeld ((heldP k).run s m) e w' := by
  have hb0 := (Below.refl w.heap.size w).alloc (Nat.le_refl _) dobj
  have hl := held_E (h.later hb0) hc k
  have HL := Lib.hid (h.fresh dobj)
  have HV := Lib.hid (dnew w)
  have HB := Lib.hid hb0
  clear h hb0
  unfold dobj at hl
  go_enter Tryd.func36, Tryd.ntmps36
  go_wp2_with fail
  refine hl.mono ?_
  rintro e w1 hE
  rcases hE.cases with ⟨t1, G1, s1, m1, ho, rfl, ha⟩ | ⟨t1, G1, s1, m1, a, v, ho, rfl, ⟨d, hd, hi, rfl⟩, ha⟩
  · have HE : Hid (Ev w0 b c r pb po t G w RHeld ((heldP k).run s m) (Halt pb po) w1) := Ev.die ho (ha.back HB.out)
    clear hl hE ho ha
    unfold Halt
    go_wp2
    exact ⟨rfl, HE.out⟩
  · obtain ⟨v1, l1⟩ := ha.cells HL.out HV.out
    have ha1 := ha.back HB.out
    have hz := v1.lt
    have hcl := eclone (ha1.later ((Below.refl w1.heap.size w1).alloc (Nat.le_refl _) d.obj)) d hi
    have HN := Lib.hid (dnewd w1 d)
    have HL1 := Lib.hid (l1.same (((Below.refl w1.heap.size w1).alloc (Nat.le_refl _) d.obj)).size)
    have HV1 := Lib.hid (v1.later ((Below.refl w1.heap.size w1).alloc (Nat.le_refl _) d.obj))
    have HF := Lib.hid (ha1.sys.fresh d.obj)
    have HA := Lib.hid ha1
    have HO := Lib.hid ho
    have HD := Lib.hid hd
    unfold Ds.v
    unfold Ds.obj at hcl
    clear hl hE ho ha v1 l1 ha1 hi hd
    go_wp2_with fail
    refine hcl.mono ?_
    rintro e w2 ⟨⟨ad, cap, G2, rfl, hi2, ha2, hs2⟩, hb2⟩
    have n2 := HN.out.later hb2
    have v2 := HV1.out.later hb2
    obtain ⟨c0, c1, c2, c3⟩ := v2.cells
    obtain ⟨e0, e1, e2, e3⟩ := n2.cells
    have fz := v2.fz
    have fn := n2.fz
    have l2 := HF.out.grow hb2.size hs2
    have l3 := HL1.out.grow hb2.size hs2
    have b3 : But w1.heap.size w2 (w2.setCell ⟨w1.heap.size, 3, none⟩ (.slice ad d.n cap)) := (But.refl _ _).set _ _
    have v3 := v2.same b3.size (b3.block _ v2.lt (by omega))
    have HE : Hid (Ev w0 b c r pb po t G w RHeld ((heldP k).run s m) (.returned (.tuple #[(Ds.mk d.ver d.bf d.st d.sw ad d.n cap).v, .int .i64 a.2])) (dput (w2.setCell ⟨w1.heap.size, 3, none⟩ (.slice ad d.n cap)) w.heap.size (Ds.mk d.ver d.bf d.st d.sw ad d.n cap))) :=
      Ev.ret HO.out ⟨Ds.mk d.ver d.bf d.st d.sw ad d.n cap, HD.out, hi2, rfl⟩ ((ha2.aside b3 l2 HA.out.but.size).aside (dput_but _ _ _) (l3.same b3.size) (Nat.le_refl _))
    have HG := Lib.hid (v3.put (Ds.mk d.ver d.bf d.st d.sw ad d.n cap)).loadVar
    clear hcl v2 n2 ha2 l2 l3 b3 v3 hs2 hi2 hb2
    go_wp2
    exact bodyPost_ret (results_cell2 (.int .i64 a.2) Tryd.results36 rfl rfl HG.out) rfl HE.out
end
end Go.Proofs.YteiikkkcjpfapaaDoor
