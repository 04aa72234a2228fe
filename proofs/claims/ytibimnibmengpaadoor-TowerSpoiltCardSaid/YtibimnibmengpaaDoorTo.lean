/- Small things about the law's lay: rows set aside, a region of two calls, ghosts' rows. No condition. -/
import Derived.Test.YtibimnibmengpaaDoorTn
namespace Go.Proofs.YtibimnibmengpaaDoor
open Go.RowKit Go.Op
set_option maxRecDepth 100000

theorem hx21 (zs : Array Value) (w : World) : (callFunc 21 zs).run Tryd.prog w = .ok (.enter 21 zs) w := by kernel_rfl
theorem hx43 (zs : Array Value) (w : World) : (callFunc 43 zs).run Tryd.prog w = .ok (.enter 43 zs) w := by kernel_rfl
theorem he40 (zs : Array Value) (w : World) : (callFunc 40 zs).run Tryd.prog w = .ok (.enter 40 zs) w := by kernel_rfl
theorem HasE.ge {w0 w : World} {b c r : Nat} {G : List (Nat × List Value)} {m : M} (h : HasE w0 b c r G w m) : w0.heap.size ≤ b ∧ w0.heap.size ≤ c ∧ w0.heap.size ≤ r ∧ Below w0.heap.size w0 w := by
  obtain ⟨m0, h1, -⟩ := h
  exact ⟨h1.hb, h1.hc, h1.hr, h1.below⟩
section
variable {w0 : World} {b c r pb po : Nat} {t t1 : Value} {G G0 G1 : List (Nat × List Value)} {w w1 w2 : World} {m m1 : M} {s s1 : Pt} {Z : List Nat}
theorem SysE.beyond {g : Nat} (h : SysE w0 b c r pb po t G w m s) (hg : w.heap.size ≤ g) (hl : g < w1.heap.size) : Loc w0 b c r pb t G w1 g := by
  obtain ⟨m0, s0, h1, -⟩ := h
  have o := h1.has.at_.own
  have h2 := h1.pt.lt
  have h3 := o.lb
  have h4 := o.lc
  have h5 := o.lr
  have h6 := h1.has.below.size
  exact ⟨hl, by omega, ⟨by omega, by omega, by omega, by omega⟩, fun e => by
    have := (World.ownsRow.lt h1.pt.own _ e).2
    omega, fun x hx e => by
    have := (h1.rows x.1 x.2 hx).1.lt
    omega⟩
theorem Dgo.frz {g : Nat} {x : List Value} (h : Dgo w0 b c r pb Z w t1 G0 G1 w1 m1 s1) (hl : Loc w0 b c r pb t1 G1 w1 g) (hr : Rw w1 g x) (hg : w.heap.size ≤ g) : Dgo w0 b c r pb Z w t1 G0 ((g, x) :: G1) w1 m1 s1 := by
  refine ⟨h.sys.freeze hl hr, h.but, h.own, h.pb, h.inz, ⟨fun y hy => List.mem_cons_of_mem _ (h.gro.1 y hy), fun y hy => ?_⟩⟩
  rcases List.mem_cons.1 hy with e | e
  · subst e; exact .inr hg
  · exact h.gro.2 y e
theorem SysE.rowAt {sl : Sl} {l : List Value} {g o : Nat} (h : SysE w0 b c r pb po t G w m s) (hs : sl.In G l) (he : sl.a = some ⟨g, o, none⟩) : w.rangeAt g o l ∧ (l ≠ [] → g < w.heap.size) := by
  refine ⟨fun i x hx => ?_, fun hne => ?_⟩
  · obtain ⟨g', o', e, hc, -⟩ := h.slcell hs hx
    rw [he] at e
    cases e
    exact hc
  · obtain ⟨x, hx⟩ : ∃ x, l[0]? = some x := ⟨_, List.getElem?_eq_getElem (List.length_pos_iff.2 hne)⟩
    obtain ⟨g', o', e, -, hg⟩ := h.slcell hs hx
    rw [he] at e
    cases e
    exact hg
end
/-- Within a region of two calls, the second of which stands on the first. -/
structure X9 (N : Nat) (ls : List Int) (w9 : World) (P : World → Prop) (xh : Int) (bs : List Bool) (β : Nat → Value) (W : World) : Prop where
  seq : bs[0]? = some false → bs[1]? = some false
  one : bs[1]? = some false → Below w9.heap.size w9 W
  two : bs[0]? = some true → bs[1]? = some false → ∃ g cap, β 9 = .slice (some ⟨g, 0, none⟩) N cap ∧ W.rangeAt g 0 (ints ls) ∧ g < W.heap.size
  three : bs[1]? = some true → β 10 = .tuple #[.int .i64 xh, .int .i64 0] ∧ P W
theorem x9_start {N : Nat} {ls : List Int} {w9 : World} {P : World → Prop} {xh : Int} {β : Nat → Value} : X9 N ls w9 P xh [false, false] β w9.drew :=
  ⟨fun _ => rfl, fun _ => (Below.refl _ _).drew, fun e => (by cases e), fun e => (by cases e)⟩
theorem x9_links {N : Nat} {ls : List Int} {w9 : World} {P : World → Prop} {xh : Int} {bs : List Bool} {β : Nat → Value} {W W2 : World} {e : Ending} (h : X9 N ls w9 P xh bs β W) (b0 : bs[0]? = some false) (hN : 0 < N)
    (hE : ∃ a cap, e = .returned (.slice a N cap) ∧ W2.ownsRow (W.heap.size + 1) 3 1 (.slice a N cap) N (ints ls) ∧ Below W.heap.size W W2) : ∃ u, e = .returned u ∧ X9 N ls w9 P xh (bs.set 0 true) (FreeV.upd β 9 u) W2 := by
  obtain ⟨a, cap, rfl, h1, h2⟩ := hE
  have h3 := h.one (h.seq b0)
  refine ⟨_, rfl, fun e => (by rw [set_at b0] at e; cases e), fun _ => h3.trans (h2.mono h3.size), fun _ _ => ?_, fun e => ?_⟩
  · rcases own_val h1 with ⟨-, e⟩ | ⟨g, cap', e, -, -, q2, q3⟩
    · omega
    · cases e
      exact ⟨g, cap, by simp [FreeV.upd], q3, q2⟩
  · rw [List.getElem?_set_ne (by decide), h.seq b0] at e
    cases e
theorem x9_make {N : Nat} {ls : List Int} {w9 : World} {P : World → Prop} {xh : Int} {bs : List Bool} {β : Nat → Value} {W2 : World} {e : Ending} (b0 : bs[0]? = some true) (b1 : bs[1]? = some false)
    (hE : e = .returned (.tuple #[.int .i64 xh, .int .i64 0]) ∧ P W2) : ∃ u, e = .returned u ∧ X9 N ls w9 P xh (bs.set 1 true) (FreeV.upd β 10 u) W2 := by
  obtain ⟨rfl, h2⟩ := hE
  refine ⟨_, rfl, fun e => ?_, fun e => (by rw [set_at b1] at e; cases e), fun _ e => (by rw [set_at b1] at e; cases e), fun _ => ⟨by simp [FreeV.upd], h2⟩⟩
  rw [List.getElem?_set_ne (by decide), b0] at e
  cases e
theorem ext0 (x y : Value) (w : World) : (Instr.extract (.tuple #[x, y]) 0).run Tryd.prog w = .ok x w := by kernel_rfl
theorem ext1 (x y : Value) (w : World) : (Instr.extract (.tuple #[x, y]) 1).run Tryd.prog w = .ok y w := by kernel_rfl
theorem add1_3 (k : Nat) (h : k ≤ 1000000) (xo yo : Operand) (w : World) : (eqGuard .add 3 xo yo (.int .i64 (k : Int)) (.int .i64 1)).run Tryd.prog w = .ok () w ∧ (binOp .add 3 (.int .i64 (k : Int)) (.int .i64 1)).run Tryd.prog w = .ok (.int .i64 ((k + 1 : Nat) : Int)) w := by
  have h0 : (0 : Int) ≤ (k : Int) := by omega
  have h1 : (k : Int) ≤ 1000000 := by omega
  rw [show ((k + 1 : Nat) : Int) = (k : Int) + 1 by omega]
  generalize (k : Int) = x at h0 h1
  exact ⟨by simp [eqGuard], by go_simp; rw [IntKind.wrap_i64]; omega⟩
/-- The links that lay asks for are those of the ghost. -/
theorem Suf.links {m : M} {lows : List ByteArray} {hts : List Int} {k : Nat} {l : List Nod} (h : Suf m lows hts (k + 1) l) (hl : hts.length = lows.length) (N : Nat) :
    linksL hts (List.replicate (k + 1) 0 ++ l.map Nod.h) k N = (List.range N).map fun (q : Nat) => tword (toN (q : Int) l) (9 + (q : Int)) := by
  have e1 : hts.drop (k + 1) = l.map fun x => (x.links.length : Int) := by
    refine List.ext_getElem? fun j => ?_
    rw [List.getElem?_drop, List.getElem?_map]
    cases hx : l[j]? with
    | some x =>
      obtain ⟨-, -, q3, -⟩ := h.nod j x hx
      rw [q3]; rfl
    | none =>
      rw [List.getElem?_eq_none (by have := List.getElem?_eq_none_iff.1 hx; have := h.len; omega)]; rfl
  have e2 : (List.replicate (k + 1) (0 : Int) ++ l.map Nod.h).drop (k + 1) = l.map Nod.h := by
    rw [List.drop_append_of_le_length (by simp), List.drop_of_length_le (by simp)]
    rfl
  unfold linksL
  rw [e1, e2]
  congr 1
  funext q
  rw [toHs_toN]
theorem hs_set (k : Nat) (l : List Int) (x : Int) : (ints (List.replicate (k + 1) 0 ++ l)).set k (.int .i64 x) = ints (List.replicate k 0 ++ x :: l) := by
  have e : ints (List.replicate (k + 1) 0 ++ l) = ints (List.replicate k 0) ++ (.int .i64 0 :: ints l) := by
    simp [ints, List.replicate_succ']
  have e2 : ints (List.replicate k 0 ++ x :: l) = ints (List.replicate k 0) ++ (.int .i64 x :: ints l) := by simp [ints]
  rw [e, e2, List.set_append_right _ _ (by simp [ints])]
  simp [ints]
end Go.Proofs.YtibimnibmengpaaDoor
