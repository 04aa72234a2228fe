/- Small things for TowerWalks: a view of a walked row; its links; a node's newest age, and a look at it, by a port that nobody stops. No condition. -/
import Derived.Test.YtibimnibmengpaaDoorVl
namespace Go.Proofs.YtibimnibmengpaaDoor
open Go.RowKit Go.Op
set_option maxRecDepth 100000

theorem Walked.at_ {G : List (Nat × List Value)} {B : Nat} {w : World} {g cap : Nat} {vl : List (Vw × Vs)} {l : List Nod} (h : Walked G B w g cap vl l) {i : Nat} {y : Nod} (hy : l[i]? = some y) : ∃ xv, vl[i]? = some xv ∧ xv.1 = y.vw := by
  obtain ⟨xv, hxv⟩ : ∃ x, vl[i]? = some x := ⟨_, List.getElem?_eq_getElem (by rw [h.len]; exact (List.getElem?_eq_some_iff.1 hy).1)⟩
  refine ⟨xv, hxv, ?_⟩
  have h1 : (vl.map Prod.fst)[i]? = some xv.1 := by rw [List.getElem?_map, hxv]; rfl
  rw [h.vs, List.getElem?_map, hy] at h1
  exact (Option.some.inj h1).symm
section
variable {w0 : World} {b c r pb po : Nat} {t1 : Value} {G G1 : List (Nat × List Value)} {W : World} {m1 : M} {s : Pt} {B : Nat} {w : World} {g cap : Nat} {vl : List (Vw × Vs)} {l : List Nod}
/-- A view's cells, later. -/
theorem Walked.cells (h : Walked G B w g cap vl l) (hS : SysE w0 b c r pb po t1 G1 W m1 s) (hsub : ∀ x, x ∈ G → x ∈ G1) {i : Nat} {xv : Vw × Vs} (hx : vl[i]? = some xv) : W.rangeAt g (i * 16) (xv.1.row xv.2) ∧ g < W.heap.size := by
  obtain ⟨m0, s0, h1, -⟩ := hS
  have h2 := (h1.rows g _ (hsub _ h.mem)).1
  exact ⟨fun j u hj => h2.at_ _ _ (vrows_get hx j u hj), h2.lt⟩
theorem Walked.links (h : Walked G B w g cap vl l) (hS : SysE w0 b c r pb po t1 G1 W m1 s) (hsub : ∀ x, x ∈ G → x ∈ G1) {i : Nat} {xv : Vw × Vs} (hx : vl[i]? = some xv) : xv.2.pl.n = xv.1.links.length ∧ ∀ (k : Nat) (u : Int), xv.1.links[k]? = some u → ∃ g' o', xv.2.pl.a = some ⟨g', o', none⟩ ∧ W.cell? ⟨g', o' + k, none⟩ = some (.int .i64 u) := by
  have hpl : xv.2.pl.In G1 (ints xv.1.links) := ((h.inn xv (List.mem_of_getElem? hx)).2.1).more hsub
  refine ⟨by rw [hpl.n, ints_length], fun k u hu => ?_⟩
  obtain ⟨g', o', e, hc, -⟩ := hS.slcell hpl (ints_get hu)
  exact ⟨g', o', e, hc⟩
theorem newest_call (h : SysE w0 b c r pb po t1 G1 W m1 s) (hq : Quiet s) (hc : m1.count ≤ 600000) (p : Pl) {y : Nod} (hy : NodAt m1 y) :
    ∃ m2, AskN m1 m2 3 ∧ Calls Tryd.prog 22 #[.pointer (some ⟨pb, po, none⟩), y.nd.v p] W fun e w' => ∃ t2 G2 q, e = .returned (.tuple #[.int .i64 y.ag, (⟨y.rv, y.pv⟩ : Ag).v q, .int .i64 0]) ∧ Aft w0 b c r pb po t1 G1 W t2 G2 w' m2 s := by
  obtain ⟨m3, e3, e4⟩ := up_go (v := 9223372036854775807) (l := [(y.ag, y.rv, y.pv)]) (n := 1) hy.head ⟨rfl, hy.nz, hy.age, 0, hy.prev, rfl⟩ (by simp) (by simp)
  have hf : foundS 9223372036854775807 [(y.ag, y.rv, y.pv)] = (⟨y.ag, ⟨y.rv, y.pv⟩⟩, 0) := by
    rw [foundS, if_pos (by have := hy.ver; show y.rv.ver ≤ _; omega)]
  rw [hf] at e3
  have hgo : (newestP 1 y.nd.head).go m1 = (some (⟨y.ag, ⟨y.rv, y.pv⟩⟩, 0), m3) := e3
  refine ⟨m3, e4.le (by simp), (Newest_E h 1 (by omega) y.nd p (by rw [hq.run, hgo]; simp)).mono ?_⟩
  rintro e w' hE
  obtain ⟨t2, G2, v, rfl, hR, ha⟩ := hE.done hq
  rw [hgo] at hR ha
  obtain ⟨x, q, e1, -, rfl⟩ := hR
  cases e1
  exact ⟨t2, G2, q, rfl, ha⟩
theorem look_call (h : SysE w0 b c r pb po t1 G1 W m1 s) (hq : Quiet s) (hc : m1.count ≤ 400000) {y : Nod} (hy : NodAt m1 y) :
    ∃ m2, AskN m1 m2 ((y.links.length : Int) + 4) ∧ Calls Tryd.prog 23 #[.pointer (some ⟨pb, po, none⟩), .int .i64 y.h] W fun e w' => ∃ t2 G2 q, e = .returned (.tuple #[y.vw.v q, .int .i64 0]) ∧ q.pl.n = y.links.length ∧ Aft w0 b c r pb po t1 G1 W t2 G2 w' m2 s := by
  obtain ⟨m2, e1, e2⟩ := look_go hy 1 (Nat.le_refl _)
  refine ⟨m2, e2, (Look_E h 1 (by omega) y.h (by rw [hq.run, e1]; simp)).mono ?_⟩
  rintro e w' hE
  obtain ⟨t2, G2, v, rfl, hR, ha⟩ := hE.done hq
  rw [e1] at hR ha
  obtain ⟨x, q, e3, e4, rfl⟩ := hR
  cases e3
  exact ⟨t2, G2, q, rfl, by have := e4.2.1.n; rw [ints_length] at this; exact this, ha⟩
end
theorem Good.linksL {m : M} {lows : List ByteArray} {hts : List Int} {l : List Nod} (h : Good m lows hts l) {i : Nat} {y : Nod} (hy : l[i]? = some y) : linksL hts (l.map Nod.h) i y.links.length = y.links := by
  obtain ⟨-, -, -, -, q5⟩ := h.suf.nod i y hy
  conv => rhs; rw [q5]
  unfold YtibimnibmengpaaDoor.linksL
  congr 1
  funext q
  rw [h.hts, ← List.map_drop, ← List.map_drop, toHs_toN]
end Go.Proofs.YtibimnibmengpaaDoor
