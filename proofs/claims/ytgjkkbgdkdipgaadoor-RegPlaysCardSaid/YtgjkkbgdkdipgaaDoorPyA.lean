/- One act of RegPlays: what the closure holds. Conditions: at most 64 clients and places. -/
import Derived.Test.YtgjkkbgdkdipgaaDoorRvD
import Derived.Test.YtgjkkbgdkdipgaaDoorLwD
import Derived.Test.YtgjkkbgdkdipgaaDoorOpen
namespace Go.Proofs.YtgjkkbgdkdipgaaDoor
open Go.RowKit Go.Op
set_option maxRecDepth 100000

section
variable {g : Int} {m : M} {top : Int} {S P : List Int} {V : Int} {A : List Int} {B : List (Int × Int)}
theorem RM.enter_all (h : RM g m top S P V A B) (hV : 0 ≤ V ∧ V ≤ 1073741824) (k : Int) : ∃ m', (enterP top k S).go m = ((if isC S k = true then V else 0, if isC S k = true then 0 else 10), m') ∧ RM g m' top S P V (if isC S k = true then A.set k.toNat V else A) B ∧ m'.count ≤ m.count + 5 := by
  by_cases hk : isC S k = true
  · rw [if_pos hk, if_pos hk, if_pos hk]; exact h.enter hV k hk
  · rw [if_neg hk, if_neg hk, if_neg hk]
    exact ⟨m, by unfold enterP; rw [if_neg hk]; rfl, h, by omega⟩
theorem RM.hold_all (h : RM g m top S P V A B) (k v : Int) : ∃ m', (holdP k v S).go m = (if isC S k = true ∧ isV v = true then 0 else 10, m') ∧ RM g m' top S P V (if isC S k = true ∧ isV v = true then A.set k.toNat v else A) B ∧ m'.count ≤ m.count + 5 := by
  by_cases hk : isC S k = true ∧ isV v = true
  · rw [if_pos hk, if_pos hk]; exact h.hold k v hk.1 hk.2
  · rw [if_neg hk, if_neg hk]
    exact ⟨m, by unfold holdP; rw [if_neg hk]; rfl, h, by omega⟩
theorem RM.leave_all (h : RM g m top S P V A B) (k : Int) : ∃ m', (leaveP k S).go m = (if isC S k = true then 0 else 10, m') ∧ RM g m' top S P V (if isC S k = true then A.set k.toNat (-1) else A) B ∧ m'.count ≤ m.count + 5 := by
  by_cases hk : isC S k = true
  · rw [if_pos hk, if_pos hk]; exact h.leave k hk
  · rw [if_neg hk, if_neg hk]
    exact ⟨m, by unfold leaveP; rw [if_neg hk]; rfl, h, by omega⟩
end
theorem refslot_any (w : World) {Q : Nat → Prop} (x : Rs) (V : Int) (A : List Int) (B : List (Int × Int)) (hx : RIs Q w x A B) (hA : A.length ≤ 64) (k n : Int) :
    Calls Tryd.prog 51 #[x.v V A.length B.length, .int .i64 k, .int .i64 n] w fun e w' => ∃ x' : Rs, e = .returned (.tuple #[x'.v V A.length B.length, .int .i64 (if isC A k = true then 0 else 10)]) ∧ RNew Q w w' x' (if isC A k = true then A.set k.toNat n else A) B := by
  by_cases hk : isC A k = true
  · rw [if_pos hk, if_pos hk]; exact refslot_yes w x V A B hx hA k n hk
  · rw [if_neg hk, if_neg hk]
    refine (refslot_no w x V A B hx hA k n (by simpa using hk)).mono ?_
    rintro e w' ⟨e1, e2⟩
    exact ⟨x, e1, e2⟩
theorem SysE.locge {w0 : World} {b c r pb po : Nat} {t : Value} {G : List (Nat × List Sw)} {w w1 : World} {m : M} {s : Pt} (h : SysE w0 b c r pb po t G w m s) {z : Nat} (hz : w.heap.size ≤ z) (hl : z < w1.heap.size) : Loc w0 b c r pb t G w1 z := by
  obtain ⟨m0, s0, h1, -⟩ := h
  have o := h1.has.at_.own
  have h2 := h1.pt.lt
  have h3 := o.lb
  have h4 := o.lc
  have h5 := o.lr
  exact ⟨hl, Nat.le_trans h1.has.below.size hz, ⟨by omega, by omega, by omega, by omega⟩, fun e => by
    have := (World.ownsRow.lt h1.pt.own _ e).2
    omega, fun x hx e => by
    have := (h1.rows x.1 x.2 hx).1.lt
    omega⟩
theorem HasE.locge {w0 : World} {b c r : Nat} {G : List (Nat × List Sw)} {w w1 : World} {m : M} (h : HasE w0 b c r G w m) {z : Nat} (hz : w.heap.size ≤ z) (hl : z < w1.heap.size) : LocM w0 b c r G w1 z := by
  obtain ⟨m0, h1, h2, h3, h4, h5⟩ := h
  have o := h1.at_.own
  have h3 := o.lb
  have h4 := o.lc
  have h6 := o.lr
  exact ⟨hl, Nat.le_trans h1.below.size hz, ⟨by omega, by omega, by omega⟩, fun x hx e => by have := (h5 x.1 x.2 hx).1.lt; omega⟩
/-- What stands ahead of the closure: the boxes of does behind the world wd. -/
structure DIn (w0 : World) (b c r : Nat) (G : List (Nat × List Sw)) (wd w : World) (R : Rg) (act : Ac) (id : Int) (x : Rs) (V : Int) (na nb : Nat) : Prop where
  below : Below wd.heap.size wd w
  sz : w.heap.size = wd.heap.size + 6
  y : YVar w wd.heap.size b R
  bx : V3 w (wd.heap.size + 1) V (.slice x.sa na x.sc) (.slice x.pa nb x.pc)
  ac : AcAt w (wd.heap.size + 2) 0 act
  ci : w.cell? ⟨wd.heap.size + 3, 0, none⟩ = some (.int .i64 id)
  to : w.cell? ⟨wd.heap.size + 5, 0, none⟩ = some (.int .i64 (-1))
  fz : ∀ i, w.frozen? ⟨wd.heap.size + 5, i, none⟩ = false
/-- In the midst of the closure: A, B are the program's, A', B' the reference's. -/
structure PMid (K : Nat → Prop) (w0 : World) (b c r : Nat) (G : List (Nat × List Sw)) (w : World) (nd : Nat) (top : Int) (S P : List Int) (g V : Int) (A : List Int) (B : List (Int × Int)) (A' : List Int) (B' : List (Int × Int)) (x : Rs) (to q : Int) (t1 : Value) (G1 : List (Nat × List Sw)) (m1 : M) (w1 : World) : Prop where
  dgo : Dgo w0 b c r w.heap.size [b, c, r, nd + 1, nd + 5] w t1 G G1 w1 m1 (ptDo w b)
  rm : RM g m1 top S P V A B
  is : RIs (fun z => Loc w0 b c r w.heap.size t1 G1 w1 z ∧ ((z < nd ∧ K z) ∨ nd + 6 ≤ z)) w1 x A' B'
  bx : V3 w1 (nd + 1) V (.slice x.sa A'.length x.sc) (.slice x.pa B'.length x.pc)
  to : w1.cell? ⟨nd + 5, 0, none⟩ = some (.int .i64 to)
  fz : ∀ i, w1.frozen? ⟨nd + 5, i, none⟩ = false
  cnt : m1.count ≤ q
  lw : LocM w0 b c r G w (nd + 1)
  lo : LocM w0 b c r G w (nd + 5)
section
variable {K : Nat → Prop} {w0 : World} {b c r : Nat} {G : List (Nat × List Sw)} {w wd : World} {nd : Nat} {top : Int} {S P : List Int} {g g' V : Int} {A A2 A' : List Int} {B B2 B' : List (Int × Int)} {x x' : Rs} {to q q' : Int} {t1 t2 : Value} {G1 G2 : List (Nat × List Sw)} {m1 m2 : M} {w1 w2 : World} {R : Rg} {act : Ac} {id : Int} {na nb : Nat}
theorem PMid.aft (h : PMid K w0 b c r G w nd top S P g V A B A' B' x to q t1 G1 m1 w1) (ha : Aft w0 b c r w.heap.size 0 t1 G1 w1 t2 G2 w2 m2 (ptDo w b)) (hr : RM g' m2 top S P V A2 B2) (hc : m2.count ≤ q') : PMid K w0 b c r G w nd top S P g' V A2 B2 A' B' x to q' t2 G2 m2 w2 := by
  have kw := (h.lw.loc h.dgo).aft ha
  have ko := (h.lo.loc h.dgo).aft ha
  refine ⟨h.dgo.aft ha, hr, h.is.keep (fun z hz _ => ⟨(hz.1.aft ha).1, hz.2⟩) ha.but.size (fun z hz _ => (hz.1.aft ha).2), h.bx.same kw.2, ?_, fun i => ?_, hc, h.lw, h.lo⟩
  · rw [World.cell?_of_block (w := w1) (a := ⟨nd + 5, 0, none⟩) ko.2]; exact h.to
  · rw [World.frozen?_of_block (w := w1) (a := ⟨nd + 5, i, none⟩) ko.2]; exact h.fz i
theorem PMid.later (h : PMid K w0 b c r G w nd top S P g V A B A' B' x to q t1 G1 m1 w1) (hb : Below w1.heap.size w1 w2) : PMid K w0 b c r G w nd top S P g V A B A' B' x to q t1 G1 m1 w2 := by
  have kw := hb.block _ (h.lw.loc h.dgo).lt
  have ko := hb.block _ (h.lo.loc h.dgo).lt
  refine ⟨h.dgo.later hb, h.rm, h.is.keep (fun z hz _ => ⟨hz.1.later hb, hz.2⟩) hb.size (fun z _ hl => hb.block z hl), h.bx.same kw, ?_, fun i => ?_, h.cnt, h.lw, h.lo⟩
  · rw [World.cell?_of_block (w := w1) (a := ⟨nd + 5, 0, none⟩) ko]; exact h.to
  · rw [World.frozen?_of_block (w := w1) (a := ⟨nd + 5, i, none⟩) ko]; exact h.fz i
theorem PMid.op2 (h : PMid K w0 b c r G w nd top S P g V A B A' B' x to q t1 G1 m1 w1) {p : Pr (Int × Int)} {e : Ending} (hE : Ev w0 b c r w.heap.size 0 t1 G1 w1 RInt2 (p.run (ptDo w b) m1) e w2) {n er : Int} (hgo : p.go m1 = ((n, er), m2)) (hr : RM g' m2 top S P V A2 B2) (hc : m2.count ≤ q') :
    e = .returned (.tuple #[.int .i64 n, .int .i64 er]) ∧ ∃ t2 G2, PMid K w0 b c r G w nd top S P g' V A2 B2 A' B' x to q' t2 G2 m2 w2 := by
  obtain ⟨t2, G2, v, rfl, hv, ha⟩ := hE.done (ptDo_quiet w b)
  rw [hgo] at hv ha
  replace hv : v = .tuple #[.int .i64 n, .int .i64 er] := hv
  subst hv
  exact ⟨rfl, t2, G2, h.aft ha hr hc⟩
theorem PMid.op1 (h : PMid K w0 b c r G w nd top S P g V A B A' B' x to q t1 G1 m1 w1) {p : Pr Int} {e : Ending} (hE : Ev w0 b c r w.heap.size 0 t1 G1 w1 RInt (p.run (ptDo w b) m1) e w2) {er : Int} (hgo : p.go m1 = (er, m2)) (hr : RM g' m2 top S P V A2 B2) (hc : m2.count ≤ q') :
    e = .returned (.int .i64 er) ∧ ∃ t2 G2, PMid K w0 b c r G w nd top S P g' V A2 B2 A' B' x to q' t2 G2 m2 w2 := by
  obtain ⟨t2, G2, v, rfl, hv, ha⟩ := hE.done (ptDo_quiet w b)
  rw [hgo] at hv ha
  replace hv : v = .int .i64 er := hv
  subst hv
  exact ⟨rfl, t2, G2, h.aft ha hr hc⟩
/-- The reference's answer is laid into its variable. -/
theorem PMid.ref (h : PMid K w0 b c r G w nd top S P g V A B A' B' x to q t1 G1 m1 w1) (hn : RNew (fun z => Loc w0 b c r w.heap.size t1 G1 w1 z ∧ ((z < nd ∧ K z) ∨ nd + 6 ≤ z)) w1 w2 x' A2 B2) (hl : A2.length = A'.length ∧ B2.length = B'.length) :
    V3 w2 (nd + 1) V (.slice x.sa A'.length x.sc) (.slice x.pa B'.length x.pc) ∧ PMid K w0 b c r G w nd top S P g V A B A2 B2 x' to q t1 G1 m1 (put3 w2 (nd + 1) V (.slice x'.sa A'.length x'.sc) (.slice x'.pa B'.length x'.pc)) := by
  obtain ⟨h1, hb⟩ := hn
  have lw1 := h.lw.loc h.dgo
  have lo1 := h.lo.loc h.dgo
  have k2 := h.later hb
  refine ⟨k2.bx, ?_⟩
  have b3 := But.put3 w2 (nd + 1) V (.slice x'.sa A'.length x'.sc) (.slice x'.pa B'.length x'.pc)
  have hw2 := hb.size
  refine ⟨k2.dgo.aside b3 (h.lw.loc k2.dgo) (.inl (by simp)), h.rm, h1.keep (fun z hz hl => ?_) b3.size (fun z hz hl => b3.block z hl ?_), ?_, ?_, fun i => ?_, h.cnt, h.lw, h.lo⟩
  · rcases hz with hz | hz
    · exact ⟨hz.1.same (Nat.le_trans hb.size b3.size), hz.2⟩
    · exact ⟨h.dgo.sys.locge hz (Nat.lt_of_lt_of_le hl b3.size), by have := lo1.lt; omega⟩
  · rcases hz with hz | hz
    · have := hz.2; omega
    · have := lw1.lt; omega
  · rw [hl.1, hl.2]; exact k2.bx.put _ _ _
  · rw [World.cell?_of_block (w := w2) (a := ⟨nd + 5, 0, none⟩) (b3.block (nd + 5) (h.lo.loc k2.dgo).lt (by omega))]; exact k2.to
  · rw [World.frozen?_of_block (w := w2) (a := ⟨nd + 5, i, none⟩) (b3.block (nd + 5) (h.lo.loc k2.dgo).lt (by omega))]; exact k2.fz i
/-- What was told is kept. -/
theorem PMid.tell (h : PMid K w0 b c r G w nd top S P g V A B A' B' x to q t1 G1 m1 w1) (u : Int) : PMid K w0 b c r G w nd top S P g V A B A' B' x u q t1 G1 m1 (w1.setCell ⟨nd + 5, 0, none⟩ (.int .i64 u)) := by
  have b3 : But (nd + 5) w1 (w1.setCell ⟨nd + 5, 0, none⟩ (.int .i64 u)) := (But.refl _ _).set _ _
  exact ⟨h.dgo.aside b3 (h.lo.loc h.dgo) (.inl (by simp)), h.rm, h.is.keep (fun z hz _ => ⟨hz.1.same b3.size, hz.2⟩) b3.size (fun z hz hl => b3.block z hl (by have := hz.2; omega)), h.bx.same (b3.block _ (h.lw.loc h.dgo).lt (by omega)), set_same h.to, fun i => by rw [World.frozen?_setCell]; exact h.fz i, h.cnt, h.lw, h.lo⟩
/-- What the closure reads. -/
theorem DIn.read (hin : DIn w0 b c r G wd w R act id x V na nb) (he : HasE w0 b c r G wd m2) (hrg : RgL w0 b c r G wd R S P) {s1 : Pt} {Z : List Nat} (hZ : Z = [b, c, r, wd.heap.size + 1, wd.heap.size + 5]) (hd : Dgo w0 b c r w.heap.size Z w t1 G G1 w1 m1 s1) :
    YVar w1 wd.heap.size b R ∧ RgAt w0 b c r w.heap.size t1 G1 w1 R S P ∧ AcAt w1 (wd.heap.size + 2) 0 act ∧ w1.cell? ⟨wd.heap.size + 3, 0, none⟩ = some (.int .i64 id) := by
  have hs := hin.sz
  subst hZ
  have kk : ∀ z, z < w.heap.size → z ≠ b → z ≠ c → z ≠ r → z ≠ wd.heap.size + 1 → z ≠ wd.heap.size + 5 → w1.heap[z]? = w.heap[z]? := fun z h1 h2 h3 h4 h5 h6 => hd.but.block z h1 (by simp; omega)
  have l0 : LocM w0 b c r G w wd.heap.size := he.locge (Nat.le_refl _) (by omega)
  have l2 : LocM w0 b c r G w (wd.heap.size + 2) := he.locge (by omega) (by omega)
  have l3 : LocM w0 b c r G w (wd.heap.size + 3) := he.locge (by omega) (by omega)
  have row : ∀ ad l, NumL w0 b c r G wd ad l → RowAt w0 b c r w.heap.size t1 G1 w1 ad l := fun ad l h => h.imp (fun h => h) fun ⟨z, e, hl, hc⟩ => by
    have hlw : LocM w0 b c r G w z := hl.later hin.below.size (Grow.refl _ _)
    have hlt := hl.lt
    refine ⟨z, e, hlw.loc hd, fun i y hy => ?_⟩
    rw [World.cell?_of_block (w := w) (a := ⟨z, i, none⟩) (kk z hlw.lt hlw.ne.1 hlw.ne.2.1 hlw.ne.2.2 (by omega) (by omega)), World.cell?_of_block (w := wd) (a := ⟨z, i, none⟩) (hin.below.block z hlt)]
    exact hc i y hy
  refine ⟨hin.y.same (kk _ l0.lt l0.ne.1 l0.ne.2.1 l0.ne.2.2 (by omega) (by omega)), ⟨hrg.sn, hrg.pn, hrg.sf, hrg.pf, row _ _ hrg.s, row _ _ hrg.p⟩, ?_, ?_⟩
  · have k2 : ∀ i, w1.cell? ⟨wd.heap.size + 2, i, none⟩ = w.cell? ⟨wd.heap.size + 2, i, none⟩ := fun i => World.cell?_of_block (w := w) (a := ⟨wd.heap.size + 2, i, none⟩) (kk (wd.heap.size + 2) l2.lt l2.ne.1 l2.ne.2.1 l2.ne.2.2 (by omega) (by omega))
    unfold AcAt
    rw [k2, k2, k2, k2, k2]
    exact hin.ac
  · rw [World.cell?_of_block (w := w) (a := ⟨wd.heap.size + 3, 0, none⟩) (kk (wd.heap.size + 3) l3.lt l3.ne.1 l3.ne.2.1 l3.ne.2.2 (by omega) (by omega))]
    exact hin.ci
/-- At the start. -/
theorem PMid.start (hin : DIn w0 b c r G wd w R act id x V A.length B.length) (he : HasE w0 b c r G wd m1) (hr : RM g m1 top S P V A B) (hx : RIs (fun z => LocM w0 b c r G wd z ∧ K z) wd x A B) : PMid K w0 b c r G w wd.heap.size top S P g V A B A B x (-1) m1.count (.slice none 0 0) G m1 (w.alloc (portObj b)) := by
  have hs := hin.sz
  have hd := Dgo.start (he.later hin.below) (Z := [b, c, r, wd.heap.size + 1, wd.heap.size + 5]) ⟨by simp, by simp, by simp⟩
  have hb := (Below.refl w.heap.size w).alloc (Nat.le_refl _) (portObj b)
  refine ⟨hd, hr, (hx.later hin.below).keep (fun z hz hl => ?_) hb.size (fun z _ hl => hb.block z hl), hin.bx.same (hb.block _ (by omega)), ?_, fun i => ?_, by omega, he.locge (by omega) (by omega), he.locge (by omega) (by omega)⟩
  · exact ⟨(hz.1.later hin.below.size (Grow.refl _ _)).loc hd, .inl ⟨hz.1.lt, hz.2⟩⟩
  · rw [World.cell?_of_block (w := w) (a := ⟨wd.heap.size + 5, 0, none⟩) (hb.block (wd.heap.size + 5) (by omega))]; exact hin.to
  · rw [World.frozen?_of_block (w := w) (a := ⟨wd.heap.size + 5, i, none⟩) (hb.block (wd.heap.size + 5) (by omega))]; exact hin.fz i
end
/-- Behind the closure. -/
structure POut (K : Nat → Prop) (w0 : World) (b c r : Nat) (G : List (Nat × List Sw)) (w : World) (nd : Nat) (top : Int) (S P : List Int) (g V : Int) (q : Int) (w1 : World) : Prop where
  but : ButN [b, c, r, nd + 1, nd + 5] w.heap.size w w1
  out : ∃ G1 m1 A B x to, HasE w0 b c r G1 w1 m1 ∧ Grow w G G1 ∧ RM g m1 top S P V A B ∧ RIs (fun z => LocM w0 b c r G1 w1 z ∧ ((z < nd ∧ K z) ∨ nd + 6 ≤ z)) w1 x A B ∧ V3 w1 (nd + 1) V (.slice x.sa A.length x.sc) (.slice x.pa B.length x.pc) ∧ w1.cell? ⟨nd + 5, 0, none⟩ = some (.int .i64 to) ∧ -1 ≤ to ∧ to ≤ 100000000 ∧ m1.count ≤ q
theorem PMid.out {K : Nat → Prop} {w0 : World} {b c r : Nat} {G : List (Nat × List Sw)} {w : World} {nd : Nat} {top : Int} {S P : List Int} {g V : Int} {A : List Int} {B : List (Int × Int)} {x : Rs} {to q : Int} {t1 : Value} {G1 : List (Nat × List Sw)} {m1 : M} {w1 : World} (h : PMid K w0 b c r G w nd top S P g V A B A B x to q t1 G1 m1 w1) (h1 : -1 ≤ to) (h2 : to ≤ 100000000) : POut K w0 b c r G w nd top S P g V q w1 :=
  ⟨h.dgo.but, G1, m1, A, B, x, to, h.dgo.sys.mem, h.dgo.gro, h.rm, h.is.keep (fun _ hz _ => ⟨hz.1.m, hz.2⟩) (Nat.le_refl _) (fun _ _ _ => rfl), h.bx, h.to, h1, h2, h.cnt⟩
end Go.Proofs.YtgjkkbgdkdipgaaDoor
