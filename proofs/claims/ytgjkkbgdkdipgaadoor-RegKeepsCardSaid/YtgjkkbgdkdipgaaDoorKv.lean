/- RegKeeps' start; what its walk reads off its state. Conditions: the library's table stands. -/
import Derived.Test.YtgjkkbgdkdipgaaDoorKu
import Derived.Test.YtgjkkbgdkdipgaaDoorVGen
import Derived.Test.YtgjkkbgdkdipgaaDoorOpen
namespace Go.Proofs.YtgjkkbgdkdipgaaDoor
open Go.RowKit Go.Op
set_option maxRecDepth 100000

theorem KW.sub {w0 : World} {b c r : Nat} {Z Z' : List Nat} {G : List (Nat × List Sw)} {w : World} {m : M} {L : List Mach} (h : KW w0 b c r Z G w m L) (hz : ∀ z, z ∈ Z' → z ∈ Z) : KW w0 b c r Z' G w m L := ⟨h.tm, fun z hz' => h.own z (hz z hz')⟩
theorem ini0_db : ini0.Db := by
  rw [ini0_is]
  intro i x hx
  simp only at hx
  match i, hx with
  | 0, hx => simp at hx; subst hx; exact word_dv
  | 1, hx => simp at hx; subst hx; intro d e; cases e; decide
  | 2, hx => simp at hx; subst hx; exact word_dv
  | i + 3, hx =>
    simp only [List.getElem?_cons_succ, List.getElem?_replicate] at hx
    split at hx
    · cases hx; exact no_dv
    · cases hx
theorem freeP_dv : ∀ l : List Int, (freeP l).Dv fun _ => True
  | [] => trivial
  | _ :: l => ⟨trivial, fun _ _ => freeP_dv l⟩
theorem zerosP_dv : ∀ (n : Nat) (l : List Int), (zerosP n l).Dv fun _ => True
  | 0, _ => trivial
  | n + 1, l => by
    rw [zerosP_succ]
    refine ⟨word_dv, fun a _ => ?_⟩
    dsimp only
    split
    · exact zerosP_dv n _
    · exact (freeP_dv l).bind fun _ _ => trivial
theorem initRP_dv (a k : Int) : (initRP a k).Dv fun _ => True := by
  unfold initRP
  split
  · trivial
  · refine (zerosP_dv _ _).bind fun x _ => ?_
    split
    · refine (zerosP_dv _ _).bind fun y _ => ?_
      split
      · trivial
      · exact (freeP_dv _).bind fun _ _ => trivial
    · trivial
section
variable {w0 : World} {b c r zy zi gs gp : Nat} {R : Rg} {a0 a1 a2 a3 p0 p1 : Int} {Z : List Nat} {G G' : List (Nat × List Sw)} {W W' : World} {m m' : M} {j : Nat} {F : Int} {av hv cv : Value} {ob hb : Nat}
theorem ks_start {w1 w2 w4 w5 : World} {S P : List Int} {n : Int} (hL : Laid w1 4 2 w2 b c r G R S P m) (hp : Pub w1 b c r G (w2.alloc (yobj b R)) 0 m R.top S P (0 + 1 + n) (List.replicate 4 (-1)) (List.replicate 2 (0, -1)) w4 G' m') (hn : 0 ≤ n ∧ n ≤ 5) (hV : Below (w4.alloc (machObj b (capO w2.heap.size))).heap.size (w4.alloc (machObj b (capO w2.heap.size))) w5) :
    ∃ gs gp a0 a1 a2 a3 p0 p1, (w2.heap.size ≠ w5.heap.size ∧ gs ≠ w5.heap.size ∧ gp ≠ w5.heap.size) ∧ KS w1 b c r w2.heap.size w5.heap.size gs gp R a0 a1 a2 a3 p0 p1 0 (-1) (.pointer none) w4.heap.size (.pointer none) (.pointer none) (w5.alloc (.cells #[.int .i64 (-1)] 3)) := by
  have hb2 := (Below.refl w2.heap.size w2).alloc (Nat.le_refl _) (yobj b R)
  obtain ⟨S0, hS⟩ : ∃ S0, S0 = S := ⟨_, rfl⟩
  obtain ⟨a0, a1, a2, a3, eS⟩ : ∃ a0 a1 a2 a3, S = [a0, a1, a2, a3] := by
    have := hL.sl
    match S, this with
    | [a0, a1, a2, a3], _ => exact ⟨a0, a1, a2, a3, rfl⟩
  obtain ⟨p0, p1, eP⟩ : ∃ p0 p1, P = [p0, p1] := by
    have := hL.pl
    match P, this with
    | [p0, p1], _ => exact ⟨p0, p1, rfl⟩
  subst eS
  subst eP
  clear hS
  have hrg := (hL.rg.later hb2).butn hp.but hp.gro
  obtain ⟨gs, es, ls, cs⟩ : ∃ g, R.sa = some ⟨g, 0, none⟩ ∧ LocM w1 b c r G' w4 g ∧ ∀ (i : Nat) (x : Int), [a0, a1, a2, a3][i]? = some x → w4.cell? ⟨g, i, none⟩ = some (.int .i64 x) := hrg.s.resolve_left (by simp)
  obtain ⟨gp, ep, lp, cp⟩ : ∃ g, R.pa = some ⟨g, 0, none⟩ ∧ LocM w1 b c r G' w4 g ∧ ∀ (i : Nat) (x : Int), [p0, p1][i]? = some x → w4.cell? ⟨g, i, none⟩ = some (.int .i64 x) := hrg.p.resolve_left (by simp)
  have ly0 : LocM w1 b c r G (w2.alloc (yobj b R)) w2.heap.size := hL.has.fresh (yobj b R)
  have ly : LocM w1 b c r G' w4 w2.heap.size := ly0.later hp.but.size hp.gro
  have hy : YVar w4 w2.heap.size b R := (ynew w2 b R).same (hp.but.block _ (by simp) (by have := ly.ne; simp; omega))
  have hoff : ∀ z, LocM w1 b c r G' w4 z → LocM w1 b c r G' w4 z ∧ Off z b c r w4 [] := fun z hz => ⟨hz, ⟨hz.lt, hz.ne, fun i x hx => (by simp at hx)⟩⟩
  have kw0 : KW w1 b c r [w2.heap.size, gs, gp] G' w4 m' [] := ⟨TeamE.nil hp.has, fun z hz => by
    simp at hz
    rcases hz with rfl | rfl | rfl
    · exact hoff _ ly
    · exact hoff _ ls
    · exact hoff _ lp⟩
  have kw1 := (kw0.add (capO w2.heap.size)).later hV
  have kw2 := kw1.new (.cells #[.int .i64 (-1)] 3)
  have hb4 := (Below.refl w4.heap.size w4).alloc (Nat.le_refl _) (machObj b (capO w2.heap.size))
  have hb5 := (Below.refl w5.heap.size w5).alloc (Nat.le_refl _) (.cells #[.int .i64 (-1)] 3)
  have hbb : Below w4.heap.size w4 (w5.alloc (.cells #[.int .i64 (-1)] 3)) := hb4.trans ((hV.trans (hb5.mono hV.size)).mono hb4.size)
  have hk : ∀ z, z < w4.heap.size → (w5.alloc (.cells #[.int .i64 (-1)] 3)).heap[z]? = w4.heap[z]? := fun z hz => hbb.block z hz
  have s5 : w4.heap.size < w5.heap.size := by have := hV.size; simp at this; omega
  have kc : KC w4 b w2.heap.size R gs gp a0 a1 a2 a3 p0 p1 := ⟨hy, es, ep, hL.rg.sn, hL.rg.pn, hL.top, cs, cp⟩
  have l1 := ly.lt
  have l2 := ls.lt
  have l3 := lp.lt
  refine ⟨gs, gp, a0, a1, a2, a3, p0, p1, ⟨by omega, by omega, by omega⟩, .inl ⟨rfl, rfl, G', m', _, List.replicate 4 (-1), openB, 0, mach0 w4.heap.size (capO w2.heap.size), ⟨kw2.sub (fun z hz => by simp at hz ⊢; omega), by simp, kc.same (hk _ l1) (hk _ l2) (hk _ l3), by simp [go_sem], fun i => World.frozen?_alloc_at _ 3 _ i rfl, ⟨⟨0 + 2, 0 + 1 + n, ?_, by decide, by omega, by omega⟩, ?_, by have := hp.cnt; have := hL.cnt; omega⟩, by simp⟩, ?_, fun h => (by omega), .inl rfl, rfl⟩⟩
  · have := hp.rm
    rw [hL.top] at this
    exact this
  · obtain ⟨V', d, g2, s2, m1, m2, m3, m4, m5, v1, v2, e1, e2, e3, e4, e5, e6⟩ := hp.runs
    refine pub_db (by omega) ⟨v1, v2⟩ e1 e2 e3 e4 e5 e6 ?_
    rw [← hL.run]
    exact (initRP_dv _ _).go ini0_db
  · exact Ms.start (q := .store a0 1) w4.heap.size rfl rfl rfl (op_keeps _)
/-- The opening has ended, its id is stored. -/
def KTs (w0 : World) (b c r : Nat) (zy zi gs gp : Nat) (R : Rg) (a0 a1 a2 a3 p0 p1 : Int) (j : Nat) (F : Int) (av : Value) (ob : Nat) (W : World) : Prop := ∃ G m L A B io xo v, KT w0 b c r zy zi gs gp R a0 a1 a2 a3 p0 p1 j F av ob W G m L A B io xo v
def KHs (w0 : World) (b c r : Nat) (zy zi gs gp : Nat) (R : Rg) (a0 a1 a2 a3 p0 p1 : Int) (j : Nat) (F : Int) (av : Value) (ob hb : Nat) (W : World) : Prop := ∃ zh zk G m L A B io ih xo v, KH w0 b c r zy zi gs gp R a0 a1 a2 a3 p0 p1 j F av ob hb W zh zk G m L A B io ih xo v
theorem KTs.later (h : KTs w0 b c r zy zi gs gp R a0 a1 a2 a3 p0 p1 j F av ob W) (hb : Below W.heap.size W W') : KTs w0 b c r zy zi gs gp R a0 a1 a2 a3 p0 p1 j F av ob W' := by
  obtain ⟨G, m, L, A, B, io, xo, v, k⟩ := h
  exact ⟨G, m, L, A, B, io, xo, v, k.later hb⟩
theorem KTs.y (h : KTs w0 b c r zy zi gs gp R a0 a1 a2 a3 p0 p1 j F av ob W) : YVar W zy b R ∧ W.cell? ⟨zi, 0, none⟩ = some (.int .i64 0) := by
  obtain ⟨G, m, L, A, B, io, xo, v, k⟩ := h
  exact ⟨k.kb.kc.y, k.kb.ci⟩
theorem KTs.hold {V : World} (h : KTs w0 b c r zy zi gs gp R a0 a1 a2 a3 p0 p1 j F av ob W) (hV : Below ((W.alloc (yobj b R)).alloc (.cells #[.int .i64 0] 3)).heap.size ((W.alloc (yobj b R)).alloc (.cells #[.int .i64 0] 3)) V) : KHs w0 b c r zy zi gs gp R a0 a1 a2 a3 p0 p1 j F av ob V.heap.size (V.alloc (machObj b (capH W.heap.size (W.heap.size + 1)))) := by
  obtain ⟨G, m, L, A, B, io, xo, v, k⟩ := h
  exact ⟨_, _, _, _, _, _, _, _, _, _, _, k.hold hV⟩
theorem KHs.y (h : KHs w0 b c r zy zi gs gp R a0 a1 a2 a3 p0 p1 j F av ob hb W) : YVar W zy b R := by
  obtain ⟨zh, zk, G, m, L, A, B, io, ih, xo, v, k⟩ := h
  exact k.kb.kc.y
theorem KHs.close {V : World} (h : KHs w0 b c r zy zi gs gp R a0 a1 a2 a3 p0 p1 j F av ob hb W) (hV : Below W.heap.size W V) : KS w0 b c r zy zi gs gp R a0 a1 a2 a3 p0 p1 j F av ob (.pointer (some ⟨hb, 0, none⟩)) (.pointer (some ⟨V.heap.size, 0, none⟩)) (V.alloc (machObj b (capC zy zi))) := by
  obtain ⟨zh, zk, G, m, L, A, B, io, ih, xo, v, k⟩ := h
  exact k.close hV
theorem KS.next (h : KS w0 b c r zy zi gs gp R a0 a1 a2 a3 p0 p1 j F av ob hv cv W) : KS w0 b c r zy zi gs gp R a0 a1 a2 a3 p0 p1 (j + 1) F av ob hv cv W := by
  rcases h with ⟨e1, e2, G, m, L, A, B, io, xo, k⟩ | ⟨hb1, cb1, e1, e2, zh, zk, G, m, L, A, B, io, ih, ic, xo, xh, xc, v, k⟩
  · exact .inl ⟨e1, e2, G, m, L, A, B, io, xo, k.kb.move k.kb.kw (fun _ _ => rfl) k.kb.rp.next k.kb.o, k.mo, k.fr, k.as_, k.ob⟩
  · exact .inr ⟨hb1, cb1, e1, e2, zh, zk, G, m, L, A, B, io, ih, ic, xo, xh, xc, v, k.kb.move k.kb.kw (fun _ _ => rfl) k.kb.rp.next k.kb.o, k.fo, k.no, k.v0, k.ih_, k.ic_, k.ne, k.mh, k.mc, k.bw, k.yh, k.ck, k.fr, k.as_, k.ob, k.hb, k.cb⟩
theorem KS.ge (h : KS w0 b c r zy zi gs gp R a0 a1 a2 a3 p0 p1 j F av ob hv cv W) : Below w0.heap.size w0 W := by
  rcases h with ⟨-, -, G, m, L, A, B, io, xo, k⟩ | ⟨hb1, cb1, -, -, zh, zk, G, m, L, A, B, io, ih, ic, xo, xh, xc, v, k⟩
  · exact k.kb.kw.tm.has.ge.2.2.2
  · exact k.kb.kw.tm.has.ge.2.2.2
theorem KS.y (h : KS w0 b c r zy zi gs gp R a0 a1 a2 a3 p0 p1 j F av ob hv cv W) : YVar W zy b R := by
  rcases h with ⟨-, -, G, m, L, A, B, io, xo, k⟩ | ⟨hb1, cb1, -, -, zh, zk, G, m, L, A, B, io, ih, ic, xo, xh, xc, v, k⟩
  · exact k.kb.kc.y
  · exact k.kb.kc.y
theorem As.who {zy : Nat} {I : List Nat} {H : Int} {L : List Mach} {A : List Int} {B : List (Int × Int)} (h : As a0 a1 a2 a3 p0 p1 zy I F H av L A B) : av = .pointer none ∨ ∃ ab, av = .pointer (some ⟨ab, 0, none⟩) := h.imp id fun ⟨_, xa, e, _⟩ => ⟨xa.xb, e⟩
theorem KS.who (h : KS w0 b c r zy zi gs gp R a0 a1 a2 a3 p0 p1 j F av ob hv cv W) : av = .pointer none ∨ ∃ ab, av = .pointer (some ⟨ab, 0, none⟩) := by
  rcases h with ⟨-, -, G, m, L, A, B, io, xo, k⟩ | ⟨hb1, cb1, -, -, zh, zk, G, m, L, A, B, io, ih, ic, xo, xh, xc, v, k⟩
  · exact k.as_.who
  · exact k.as_.who
theorem KS.hc (h : KS w0 b c r zy zi gs gp R a0 a1 a2 a3 p0 p1 j F av ob hv cv W) : (hv = .pointer none ∧ cv = .pointer none) ∨ ∃ hb cb, hv = .pointer (some ⟨hb, 0, none⟩) ∧ cv = .pointer (some ⟨cb, 0, none⟩) := by
  rcases h with ⟨e1, e2, -⟩ | ⟨hb1, cb1, e1, e2, -⟩
  · exact .inl ⟨e1, e2⟩
  · exact .inr ⟨hb1, cb1, e1, e2⟩
/-- Whether the opening has ended. -/
theorem KS.view (h : KS w0 b c r zy zi gs gp R a0 a1 a2 a3 p0 p1 j F av ob hv cv W) (hne : zy ≠ zi ∧ gs ≠ zi ∧ gp ≠ zi) :
    ((hv = .pointer none ∧ cv = .pointer none) ∧ Calls Tryd.prog 23 #[.pointer (some ⟨ob, 0, none⟩)] W fun e w' => e = .returned (.bool false) ∧ W = w') ∨
    ((hv = .pointer none ∧ cv = .pointer none) ∧ (Calls Tryd.prog 23 #[.pointer (some ⟨ob, 0, none⟩)] W fun e w' => e = .returned (.bool true) ∧ W = w') ∧ (Calls Tryd.prog 24 #[.pointer (some ⟨ob, 0, none⟩)] W fun e w' => e = .returned (.iface 3 (.int .i64 0)) ∧ W = w') ∧ W.cell? ⟨zi, 0, none⟩ = some (.int .i64 (-1)) ∧ W.frozen? ⟨zi, 0, none⟩ = false ∧ KTs w0 b c r zy zi gs gp R a0 a1 a2 a3 p0 p1 j F av ob (W.setCell ⟨zi, 0, none⟩ (.int .i64 0))) ∨
    ((∃ hb cb, hv = .pointer (some ⟨hb, 0, none⟩) ∧ cv = .pointer (some ⟨cb, 0, none⟩)) ∧ (Calls Tryd.prog 23 #[.pointer (some ⟨ob, 0, none⟩)] W fun e w' => e = .returned (.bool true) ∧ W = w') ∧ W.cell? ⟨zi, 0, none⟩ = some (.int .i64 0)) := by
  rcases h with ⟨e1, e2, G, m, L, A, B, io, xo, k⟩ | ⟨hb1, cb1, e1, e2, zh, zk, G, m, L, A, B, io, ih, ic, xo, xh, xc, v, k⟩
  · have h1 := k.kb.kw.tm.ended k.kb.o
    rw [k.ob] at h1
    cases hf : xo.fin with
    | false => rw [hf] at h1; exact .inl ⟨⟨e1, e2⟩, h1⟩
    | true =>
      rw [hf] at h1
      obtain ⟨q1, q2⟩ := k.ends hf hne
      exact .inr (.inl ⟨⟨e1, e2⟩, h1, q1, k.kb.ci, k.kb.fi 0, _, _, _, _, _, _, _, _, q2⟩)
  · have h1 := k.kb.kw.tm.ended k.kb.o
    rw [k.ob, k.fo] at h1
    exact .inr (.inr ⟨⟨hb1, cb1, e1, e2⟩, h1, k.kb.ci⟩)
end
/-- A region with two calls, the second of the first one's answer. -/
structure K2Mid (w : World) (k1 k2 : Nat) (P1 P2 : Value → World → Prop) (bs : List Bool) (β : Nat → Value) (V : World) : Prop where
  o : bs[0]? = some false ∨ bs[0]? = some true
  a : bs[0]? = some false → Below w.heap.size w V
  b1 : bs[0]? = some true → bs[1]? = some false → P1 (β k1) V
  b2 : bs[1]? = some true → P2 (β k2) V
section
variable {w : World} {k1 k2 : Nat} {P1 P2 : Value → World → Prop} {bs : List Bool} {β : Nat → Value} {V : World} {f : FuncId} {args : Array Value}
theorem K2Mid.some {Q : World → Prop} (h : K2Mid w k1 k2 P1 P2 bs β V) (h1 : bs[1]? = some false) (ha : Below w.heap.size w V → Q V) (hb : ∀ u, P1 u V → Q V) : Q V :=
  h.o.elim (fun e => ha (h.a e)) fun e => hb _ (h.b1 e h1)
theorem k2mid_start : K2Mid w k1 k2 P1 P2 [false, false] β w.drew := ⟨.inl rfl, fun _ => (Below.refl _ _).drew, fun e => (by cases e), fun e => (by cases e)⟩
theorem k2mid_one (h : K2Mid w k1 k2 P1 P2 bs β V) (h0 : bs[0]? = some false) (h1 : bs[1]? = some false) (hc : ∀ V, Below w.heap.size w V → Calls Tryd.prog f args V fun e w' => ∃ u, e = .returned u ∧ P1 u w') :
    Calls Tryd.prog f args V fun e w' => ∃ u, e = .returned u ∧ K2Mid w k1 k2 P1 P2 (bs.set 0 true) (FreeV.upd β k1 u) w' := by
  refine (hc V (h.a h0)).mono ?_
  rintro e w' ⟨u, rfl, hp⟩
  refine ⟨u, rfl, .inr (set_at h0), fun e => ?_, fun _ _ => ?_, fun e => ?_⟩
  · rw [set_at h0] at e; cases e
  · simp only [FreeV.upd, if_true]; exact hp
  · simp [h1] at e
theorem k2mid_two (h : K2Mid w k1 k2 P1 P2 bs β V) (h0 : bs[0]? = some true) (h1 : bs[1]? = some false) (hc : P1 (β k1) V → Calls Tryd.prog f args V fun e w' => ∃ u, e = .returned u ∧ P2 u w') :
    Calls Tryd.prog f args V fun e w' => ∃ u, e = .returned u ∧ K2Mid w k1 k2 P1 P2 (bs.set 1 true) (FreeV.upd β k2 u) w' := by
  refine (hc (h.b1 h0 h1)).mono ?_
  rintro e w' ⟨u, rfl, hp⟩
  refine ⟨u, rfl, .inr (by simpa using h0), fun e => ?_, fun _ e => ?_, fun _ => ?_⟩
  · simp [h0] at e
  · rw [set_at h1] at e; cases e
  · simp only [FreeV.upd, if_true]; exact hp
end
end Go.Proofs.YtgjkkbgdkdipgaaDoor
