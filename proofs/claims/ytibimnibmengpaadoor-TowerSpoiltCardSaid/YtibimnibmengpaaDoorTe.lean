/- Rows of the caller's own, of whatever elements; views; what tower.Look comes to, by whatever port. Conditions: at most 500000 asks; so many ages, and links, at most as are told. -/
import Derived.Test.YtibimnibmengpaaDoorTd
namespace Go.Proofs.YtibimnibmengpaaDoor
open Go.RowKit Go.Op
set_option maxRecDepth 100000

/-- A row of the caller's own that was made by append, in blocks from a number on. -/
structure GRow (w0 : World) (b c r pb : Nat) (t : Value) (G : List (Nat × List Value)) (base : Nat) (e : TypeId) (size : Nat) (w : World) (v : Value) (n : Nat) (xs : List Value) : Prop where
  own : w.ownsRow base e size v n xs
  loc : ∀ g, v.ownBlock = some g → Loc w0 b c r pb t G w g
section
variable {w0 : World} {b c r pb po : Nat} {t t1 t2 : Value} {G G1 G2 : List (Nat × List Value)} {w w1 w2 : World} {m m1 : M} {s s1 : Pt} {base size n : Nat} {e : TypeId} {v : Value} {xs : List Value}
theorem GRow.nil (w : World) : GRow w0 b c r pb t G base e size w (.slice none 0 0) 0 [] := ⟨World.ownsRow_nil _ _ _ _, fun g e => (by cases e)⟩
theorem GRow.same (h : GRow w0 b c r pb t G base e size w v n xs) (hl : ∀ g, v.ownBlock = some g → base ≤ g → Loc w0 b c r pb t1 G1 w1 g ∧ w1.heap[g]? = w.heap[g]?) : GRow w0 b c r pb t1 G1 base e size w1 v n xs := by
  have hb := World.ownsRow.lt h.own
  refine ⟨⟨h.own.1, ?_⟩, fun g hg => (hl g hg (hb g hg).1).1⟩
  rcases h.own.2 with q | ⟨g, cap, cur, e1, e2, e3, e4⟩
  · exact .inl q
  · exact .inr ⟨g, cap, cur, e1, e2, by rw [(hl g (by rw [e1]; rfl) e2).2]; exact e3, e4⟩
theorem GRow.aft (h : GRow w0 b c r pb t G base e size w v n xs) (ha : Aft w0 b c r pb po t G w t1 G1 w1 m1 s1) : GRow w0 b c r pb t1 G1 base e size w1 v n xs := h.same fun g hg _ => (h.loc g hg).aft ha
theorem GRow.later (h : GRow w0 b c r pb t G base e size w v n xs) (hb : Below w.heap.size w w1) : GRow w0 b c r pb t G base e size w1 v n xs := h.same fun g hg _ => ⟨(h.loc g hg).same hb.size, hb.block g (h.loc g hg).lt⟩
theorem GRow.but {z : Nat} (h : GRow w0 b c r pb t G base e size w v n xs) (hb : But z w w1) (hz : z < base) : GRow w0 b c r pb t G base e size w1 v n xs := h.same fun g hg hge => ⟨(h.loc g hg).same hb.size, hb.block g (h.loc g hg).lt (by omega)⟩
/-- More is appended. -/
theorem GRow.app (T : TypeId) (bytes : Nat) (i0 : TypeInfo) (z : Value) (hT : Tryd.prog.underlying T = some (.slice e)) (hi : Tryd.prog.info? e = some i0) (hz0 : i0.zero = some z) (hz1 : i0.size = size) (hz2 : i0.bytes = bytes) (hzs : z.cells.size = size) (hsz : 0 < size)
    (h : GRow w0 b c r pb t1 G1 base e size w1 v n xs) (hs : Aft w0 b c r pb po t G w t1 G1 w1 m1 s1) (hb0 : w0.heap.size ≤ base) (hbw : w.heap.size ≤ base) (hb1 : base ≤ w1.heap.size) (ad : Addr) (k cap : Nat) (news : List Value) (hl : news.length = k * size) (hk : ∀ j u, news[j]? = some u → w1.cell? (ad.add j) = some u) (h1 : ∀ u ∈ news, u.oneCell' = true) (hn : n + k ≤ 1000000) (hby : bytes ≤ 1000) (ty : TypeId) :
    ∃ v' w2, (Builtin.append_ #[T, T] ty #[v, .slice (some ad) k cap]).run Tryd.prog w1 = .ok v' w2 ∧ Aft w0 b c r pb po t G w t1 G1 w2 m1 s1 ∧ GRow w0 b c r pb t1 G1 base e size w2 v' (n + k) (xs ++ news) ∧ w1.heap.size ≤ w2.heap.size ∧ Below base w1 w2 ∧ ∀ z, z < w1.heap.size → v.ownBlock ≠ some z → w2.heap[z]? = w1.heap[z]? := by
  obtain ⟨m0, s0, q1, q2⟩ := id hs.sys
  obtain ⟨v', w', hr, ho, hg, _, hnw⟩ := run_append_own_at w1 base T ty e i0 z size bytes hT hi hz0 hz1 hz2 hzs hsz v n xs h.own ad k cap news hl hk h1 (by unfold maxLen; omega) (Nat.le_trans (Nat.mul_le_mul hn hby) (by decide)) hb1
  have hvb := World.ownsRow.lt h.own
  have hA : Aft w0 b c r pb po t G w t1 G1 w' m1 s1 := by
    cases hvn : v.ownBlock with
    | none => exact hs.later ⟨hg.os, hg.tape, hg.output, hg.size, fun k hk => hg.block k hk (by rw [hvn]; intro e; cases e)⟩
    | some y => exact hs.aside (z := y) ⟨hg.os, hg.tape, hg.output, hg.size, fun k hk hz => hg.block k hk (by rw [hvn]; intro e; cases e; exact hz rfl)⟩ (h.loc y hvn) (by have := (hvb y hvn).1; omega)
  refine ⟨v', w', hr, hA, ⟨ho, fun g e => ?_⟩, hg.size, ⟨hg.os, hg.tape, hg.output, hg.size, fun j hj => hg.block j (by omega) (fun e => by have := (hvb j e.symm).1; omega)⟩, fun z hz hn => hg.block z hz (fun e => hn e.symm)⟩
  rcases hnw with e2 | e2
  · exact (h.loc g (e2 ▸ e)).same hg.size
  · rw [e2] at e
    cases e
    have o := q1.has.at_.own
    have h2 := q1.pt.lt
    have h3 := o.lb
    have h4 := o.lc
    have h5 := o.lr
    exact ⟨(World.ownsRow.lt ho _ e2).2, by omega, ⟨by omega, by omega, by omega, by omega⟩, fun e => by
      have := (World.ownsRow.lt q1.pt.own _ e).2
      omega, fun x hx e => by
      have := (q1.rows x.1 x.2 hx).1.lt
      omega⟩
/-- What such a slice is. -/
theorem GRow.val (h : GRow w0 b c r pb t G base e size w v n xs) : (v = .slice none 0 0 ∧ n = 0) ∨ ∃ g cap, v = .slice (some ⟨g, 0, none⟩) n cap ∧ n ≤ cap ∧ base ≤ g ∧ Loc w0 b c r pb t G w g ∧ Rw w g xs := by
  rcases id h.own.2 with q | ⟨g, cap, cur, e1, q1, q2, q3, -⟩
  · exact .inl q
  · have hl := h.loc g (by rw [e1]; rfl)
    refine .inr ⟨g, cap, e1, q3, q1, hl, hl.lt, fun i x hx => ?_⟩
    have := World.ownsRow.cells h.own (g := g) (by rw [e1]; rfl) i x hx
    rwa [add_off, Nat.zero_add] at this
/-- It stands among rows that nobody changes, from now on. -/
theorem GRow.freeze {l : List Int} (h : GRow w0 b c r pb t1 G1 base 3 1 w1 v l.length (ints l)) (ha : Aft w0 b c r pb po t G w t1 G1 w1 m1 s1) (hbw : w.heap.size ≤ base) (hl : l.length ≤ 1000000) :
    ∃ (sl : Sl) (G2 : List (Nat × List Value)), v = .slice sl.a sl.n sl.cap ∧ sl.In G2 (ints l) ∧ Aft w0 b c r pb po t G w t1 G2 w1 m1 s1 ∧ (∀ x, x ∈ G1 → x ∈ G2) ∧ ∀ z, Loc w0 b c r pb t1 G1 w1 z → z < base → Loc w0 b c r pb t1 G2 w1 z := by
  rcases h.val with ⟨rfl, hn⟩ | ⟨g, cap, rfl, hc, hg, hlg, hr⟩
  · have : l = [] := List.length_eq_zero_iff.1 hn
    subst this
    exact ⟨.nil, G1, rfl, Sl.In.nil, ha, fun _ hx => hx, fun _ hz _ => hz⟩
  · exact ⟨⟨_, l.length, cap⟩, (g, ints l) :: G1, rfl, ⟨(ints_length l).symm, hc, by rw [ints_length]; exact hl, .inr ⟨g, 0, ints l, rfl, List.mem_cons_self, fun i x hx => by rw [Nat.zero_add]; exact hx⟩⟩, ha.freeze hlg (by omega) hr, fun x hx => List.mem_cons_of_mem _ hx, fun z hz hzb => hz.freeze (by omega)⟩
end
theorem at_27 (g o n cp k : Nat) (h : k < n) (w : World) : (Instr.indexAt 27 (.slice (some ⟨g, o, none⟩) n cp) (.int .i64 (k : Int))).run Tryd.prog w = .ok (.pointer (some ⟨g, o + k, none⟩)) w := by
  have h2 : (k : Int) < (n : Int) := by omega
  go_simp
theorem at_22 (g o n cp k : Nat) (h : k < n) (w : World) : (Instr.indexAt 22 (.slice (some ⟨g, o, none⟩) n cp) (.int .i64 (k : Int))).run Tryd.prog w = .ok (.pointer (some ⟨g, o + k, none⟩)) w := by
  have h2 : (k : Int) < (n : Int) := by omega
  go_simp
theorem at_44 (g o n cp k : Nat) (h : k < n) (w : World) : (Instr.indexAt 44 (.slice (some ⟨g, o, none⟩) n cp) (.int .i64 (k : Int))).run Tryd.prog w = .ok (.pointer (some ⟨g, o + k * 16, none⟩)) w := by
  have h2 : (k : Int) < (n : Int) := by omega
  go_simp
/-- A view; the slices in it. -/
structure Vw where
  h : Int
  nd : Nd
  links : List Int
  hd : Int
  rv : Rv
structure Vs where
  pn : Sl
  pl : Sl
  p : Pl
def vw0 : Vw := ⟨0, nd0, [], 0, rv0⟩
def vs0 : Vs := ⟨.nil, .nil, .nil⟩
def Vw.row (v : Vw) (q : Vs) : List Value := [.int .i64 v.h, .string v.nd.low, .int .i64 v.nd.head, .slice q.pn.a q.pn.n q.pn.cap, .slice q.pl.a q.pl.n q.pl.cap, .int .i64 v.hd, .int .i64 v.rv.ver, .int .i64 v.rv.rate, .string v.rv.lo, .string v.rv.hi, .bool v.rv.all, .bool v.rv.dead, .slice q.p.s0.a q.p.s0.n q.p.s0.cap, .slice q.p.s1.a q.p.s1.n q.p.s1.cap, .slice q.p.s2.a q.p.s2.n q.p.s2.cap, .slice q.p.s3.a q.p.s3.n q.p.s3.cap]
def Vw.v (v : Vw) (q : Vs) : Value := .agg #[.int .i64 v.h, .string v.nd.low, .int .i64 v.nd.head, .slice q.pn.a q.pn.n q.pn.cap, .slice q.pl.a q.pl.n q.pl.cap, .int .i64 v.hd, .int .i64 v.rv.ver, .int .i64 v.rv.rate, .string v.rv.lo, .string v.rv.hi, .bool v.rv.all, .bool v.rv.dead, .slice q.p.s0.a q.p.s0.n q.p.s0.cap, .slice q.p.s1.a q.p.s1.n q.p.s1.cap, .slice q.p.s2.a q.p.s2.n q.p.s2.cap, .slice q.p.s3.a q.p.s3.n q.p.s3.cap]
def Vw.In (G : List (Nat × List Value)) (v : Vw) (q : Vs) : Prop := q.pn.In G (ints v.nd.nx) ∧ q.pl.In G (ints v.links) ∧ v.rv.In G q.p
theorem Vw.row_one (a : Vw) (p : Vs) : ∀ v ∈ a.row p, v.oneCell' = true := by
  intro v hv
  simp only [Vw.row, List.mem_cons, List.not_mem_nil, or_false] at hv
  rcases hv with rfl | rfl | rfl | rfl | rfl | rfl | rfl | rfl | rfl | rfl | rfl | rfl | rfl | rfl | rfl | rfl <;> rfl
theorem sh54 : Shape 54 16 := ⟨⟨_, Tryd.underlying54, rfl⟩, by kernel_rfl⟩
def vobj : Obj := .cells #[.int .i64 0, .string { data := #[] }, .int .i64 0, .slice none 0 0, .slice none 0 0, .int .i64 0, .int .i64 0, .int .i64 0, .string { data := #[] }, .string { data := #[] }, .bool false, .bool false, .slice none 0 0, .slice none 0 0, .slice none 0 0, .slice none 0 0] 54
def linksP : List Int → List Int → Pr (List Int × Int)
  | [], acc => .ret (acc, 0)
  | k :: l, acc => .ask (.word k) fun a => if a.err = 0 then linksP l (acc ++ [a.n]) else .ret ([], a.err)
/-- Behind the links. -/
def lookK (n : Nat) (h : Int) (x : Nd) (y : List Int × Int) : Pr (Option (Vw × Int)) := if y.2 = 0 then (newestP n x.head).bind fun o => .ret (o.map fun z => if z.2 = 0 then (⟨h, x, y.1, z.1.h, z.1.a.r⟩, 0) else (vw0, z.2)) else .ret (some (vw0, y.2))
/-- None: more ages, or links, than are looked at. -/
def lookP (n : Nat) (h : Int) : Pr (Option (Vw × Int)) := (loadP h).bind fun x => if x.2 = 0 then (if x.1.nx.length ≤ 1000 then (linksP x.1.nx []).bind (lookK n h x.1) else .ret none) else .ret (some (vw0, x.2))
def RVw (G' : List (Nat × List Value)) (a : Option (Vw × Int)) (v : Value) : Prop := ∃ x, ∃ q : Vs, a = some x ∧ x.1.In G' q ∧ v = .tuple #[x.1.v q, .int .i64 x.2]
theorem vw0_in {G : List (Nat × List Value)} : vw0.In G vs0 := ⟨Sl.In.nil, Sl.In.nil, .nil, .nil, .nil, .nil⟩
end Go.Proofs.YtibimnibmengpaaDoor
