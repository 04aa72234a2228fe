/- RegKeeps' state between two turns, ahead of the opening's end and behind it; what each turn makes of it. Conditions: at most 1000 asks; the library's table stands. -/
import Derived.Test.YtgjkkbgdkdipgaaDoorKs
namespace Go.Proofs.YtgjkkbgdkdipgaaDoor
open Go.RowKit Go.Op
set_option maxRecDepth 100000

def ptr (z : Nat) : Value := .pointer (some ⟨z, 0, none⟩)
def capO (zy : Nat) : Value := .func (.func 18) #[] #[.pointer (some ⟨zy, 0, none⟩)]
def capA (zy : Nat) : Value := .func (.func 28) #[] #[.pointer (some ⟨zy, 0, none⟩)]
def capC (zy zi : Nat) : Value := .func (.func 26) #[] #[.pointer (some ⟨zy, 0, none⟩), .pointer (some ⟨zi, 0, none⟩)]
def capH (zh zk : Nat) : Value := .func (.func 66) #[] #[.pointer (some ⟨zh, 0, none⟩), .pointer (some ⟨zk, 0, none⟩)]
def RI3 (a : Int) (v : Value) : Prop := v = .iface 3 (.int .i64 a)
def RI25 (a : Int) (v : Value) : Prop := v = .iface 25 (.int .i64 a)
theorem ent18 (xs : Array Value) (w : World) : (callFunc 18 xs).run Tryd.prog w = .ok (.enter 18 xs) w := by kernel_rfl
theorem ent28 (xs : Array Value) (w : World) : (callFunc 28 xs).run Tryd.prog w = .ok (.enter 28 xs) w := by kernel_rfl
theorem ent26 (xs : Array Value) (w : World) : (callFunc 26 xs).run Tryd.prog w = .ok (.enter 26 xs) w := by kernel_rfl
theorem ent66 (xs : Array Value) (w : World) : (callFunc 66 xs).run Tryd.prog w = .ok (.enter 66 xs) w := by kernel_rfl
/-- What the yard's blocks hold. -/
structure KC (W : World) (b zy : Nat) (R : Rg) (gs gp : Nat) (a0 a1 a2 a3 p0 p1 : Int) : Prop where
  y : YVar W zy b R
  sa : R.sa = some ⟨gs, 0, none⟩
  pa : R.pa = some ⟨gp, 0, none⟩
  sn : R.sn = 4
  pn : R.pn = 2
  top : R.top = 3
  s : ∀ (i : Nat) (x : Int), [a0, a1, a2, a3][i]? = some x → W.cell? ⟨gs, i, none⟩ = some (.int .i64 x)
  p : ∀ (i : Nat) (x : Int), [p0, p1][i]? = some x → W.cell? ⟨gp, i, none⟩ = some (.int .i64 x)
section
variable {w0 : World} {b c r zy zi zh zk gs gp : Nat} {R : Rg} {a0 a1 a2 a3 p0 p1 : Int} {Z : List Nat} {G G' : List (Nat × List Sw)} {W W' w1 : World} {m m' : M} {L L' : List Mach} {A A' : List Int} {B B' : List (Int × Int)} {j : Nat} {id F H v : Int} {io : Nat} {xo x : Mach} {av hv cv : Value} {I : List Nat}
theorem KC.same (h : KC W b zy R gs gp a0 a1 a2 a3 p0 p1) (k1 : W'.heap[zy]? = W.heap[zy]?) (k2 : W'.heap[gs]? = W.heap[gs]?) (k3 : W'.heap[gp]? = W.heap[gp]?) : KC W' b zy R gs gp a0 a1 a2 a3 p0 p1 :=
  ⟨h.y.same k1, h.sa, h.pa, h.sn, h.pn, h.top, fun i x hx => (World.cell?_of_block (w := W) (a := ⟨gs, i, none⟩) k2).trans (h.s i x hx), fun i x hx => (World.cell?_of_block (w := W) (a := ⟨gp, i, none⟩) k3).trans (h.p i x hx)⟩
theorem yd_of (h : KW w0 b c r Z G W m L) (hc : KC W b zy R gs gp a0 a1 a2 a3 p0 p1) (hz : zy ∈ Z ∧ gs ∈ Z ∧ gp ∈ Z) {i : Nat} (hi : L[i]? = some x) (hB : But x.xb W w1) : Yd w0 b c r x.xb x.t G w1 zy R [a0, a1, a2, a3] [p0, p1] := by
  obtain ⟨l1, k1⟩ := h.loc hz.1 hi hB
  obtain ⟨l2, k2⟩ := h.loc hz.2.1 hi hB
  obtain ⟨l3, k3⟩ := h.loc hz.2.2 hi hB
  have h2 := hc.same k1 k2 k3
  exact ⟨h2.y, l1, ⟨h2.sn, h2.pn, by simp, by simp, .inr ⟨gs, h2.sa, l2, h2.s⟩, .inr ⟨gp, h2.pa, l3, h2.p⟩⟩⟩
/-- What stands in whatever turn. -/
structure KB (w0 : World) (b c r : Nat) (Z : List Nat) (zy zi gs gp : Nat) (R : Rg) (a0 a1 a2 a3 p0 p1 : Int) (j : Nat) (id : Int) (G : List (Nat × List Sw)) (W : World) (m : M) (L : List Mach) (A : List Int) (B : List (Int × Int)) (io : Nat) (xo : Mach) : Prop where
  kw : KW w0 b c r Z G W m L
  zs : zy ∈ Z ∧ zi ∈ Z ∧ gs ∈ Z ∧ gp ∈ Z
  kc : KC W b zy R gs gp a0 a1 a2 a3 p0 p1
  ci : W.cell? ⟨zi, 0, none⟩ = some (.int .i64 id)
  fi : ∀ i, W.frozen? ⟨zi, i, none⟩ = false
  rp : Rp [a0, a1, a2, a3] [p0, p1] j m A B
  o : L[io]? = some xo
theorem KB.move (h : KB w0 b c r Z zy zi gs gp R a0 a1 a2 a3 p0 p1 j id G W m L A B io xo) (kw : KW w0 b c r Z G' W' m' L') (hk : ∀ z, z ∈ Z → W'.heap[z]? = W.heap[z]?) {j' : Nat} {xo' : Mach} (rp : Rp [a0, a1, a2, a3] [p0, p1] j' m' A' B') (o : L'[io]? = some xo') : KB w0 b c r Z zy zi gs gp R a0 a1 a2 a3 p0 p1 j' id G' W' m' L' A' B' io xo' :=
  ⟨kw, h.zs, h.kc.same (hk _ h.zs.1) (hk _ h.zs.2.2.1) (hk _ h.zs.2.2.2), (World.cell?_of_block (w := W) (a := ⟨zi, 0, none⟩) (hk _ h.zs.2.1)).trans h.ci, fun i => by rw [World.frozen?_of_block (w := W) (a := ⟨zi, i, none⟩) (hk _ h.zs.2.1)]; exact h.fi i, rp, o⟩
theorem KB.later (h : KB w0 b c r Z zy zi gs gp R a0 a1 a2 a3 p0 p1 j id G W m L A B io xo) (hb : Below W.heap.size W W') : KB w0 b c r Z zy zi gs gp R a0 a1 a2 a3 p0 p1 j id G W' m L A B io xo :=
  h.move (h.kw.later hb) (fun _ hz => h.kw.keep hb hz) h.rp h.o
theorem KB.cnt (h : KB w0 b c r Z zy zi gs gp R a0 a1 a2 a3 p0 p1 j id G W m L A B io xo) (hj : j ≤ 1000) : m.count ≤ 100000 := by have := h.rp.cnt; omega
/-- Who asks, if somebody does. -/
def As (a0 a1 a2 a3 p0 p1 : Int) (zy : Nat) (I : List Nat) (F H : Int) (av : Value) (L : List Mach) (A : List Int) (B : List (Int × Int)) : Prop :=
  av = .pointer none ∨ ∃ ia xa, av = .pointer (some ⟨xa.xb, 0, none⟩) ∧ L[ia]? = some xa ∧ ia ∉ I ∧ Ms (ruA a0 a1 a2 a3 p0 p1 F) (asP a0 a1 a2 a3 p0 p1) (capA zy) RI3 xa ((A, B), H)
theorem As.others {H' : Int} (h : As a0 a1 a2 a3 p0 p1 zy I F H av L A B) (h2 : (ruA a0 a1 a2 a3 p0 p1 F).rely ((A, B), H) ((A', B'), H')) (hL : ∀ k, k ∉ I → L'[k]? = L[k]?) : As a0 a1 a2 a3 p0 p1 zy I F H' av L' A' B' := by
  rcases h with h | ⟨ia, xa, e, hi, hn, hm⟩
  · exact .inl h
  · exact .inr ⟨ia, xa, e, (hL ia hn).trans hi, hn, hm.others as_trans h2⟩
/-- Ahead of the opening's end. -/
structure K1 (w0 : World) (b c r : Nat) (zy zi gs gp : Nat) (R : Rg) (a0 a1 a2 a3 p0 p1 : Int) (j : Nat) (F : Int) (av : Value) (ob : Nat) (W : World) (G : List (Nat × List Sw)) (m : M) (L : List Mach) (A : List Int) (B : List (Int × Int)) (io : Nat) (xo : Mach) : Prop where
  kb : KB w0 b c r [zy, zi, gs, gp] zy zi gs gp R a0 a1 a2 a3 p0 p1 j (-1) G W m L A B io xo
  mo : Ms (ruO a0 a1 a2 a3 p0 p1) (opP a0 a1 a2 a3 p0 p1) (capO zy) RI3 xo (A, B)
  fr : 0 < F → xo.s.noted = F
  as_ : As a0 a1 a2 a3 p0 p1 zy [io] F 0 av L A B
  ob : xo.xb = ob
/-- Behind it. -/
structure K2 (w0 : World) (b c r : Nat) (zy zi gs gp : Nat) (R : Rg) (a0 a1 a2 a3 p0 p1 : Int) (j : Nat) (F : Int) (av : Value) (ob hb cb : Nat) (W : World) (zh zk : Nat) (G : List (Nat × List Sw)) (m : M) (L : List Mach) (A : List Int) (B : List (Int × Int)) (io ih ic : Nat) (xo xh xc : Mach) (v : Int) : Prop where
  kb : KB w0 b c r [zk, zh, zy, zi, gs, gp] zy zi gs gp R a0 a1 a2 a3 p0 p1 j 0 G W m L A B io xo
  fo : xo.fin = true
  no : xo.s.noted = v + 1
  v0 : 0 ≤ v ∧ v ≤ 1000000
  ih_ : L[ih]? = some xh
  ic_ : L[ic]? = some xc
  ne : io ≠ ih ∧ io ≠ ic ∧ ih ≠ ic
  mh : Ms (ruH a0 a1 a2 a3 p0 p1 v) (hoP a0 a1 a2 a3 p0 p1 0) (capH zh zk) RI3 xh (A, B)
  mc : Ms (ruC a0 a1 a2 a3 p0 p1 v) (clP p0 p1 0) (capC zy zi) RI25 xc (A, B)
  bw : B[0]? = some (0, v) ∨ B[0]? = some (1, -1)
  yh : YVar W zh b R
  ck : W.cell? ⟨zk, 0, none⟩ = some (.int .i64 0)
  fr : 0 < F → F = v + 1
  as_ : As a0 a1 a2 a3 p0 p1 zy [io, ih, ic] F xh.s.noted av L A B
  ob : xo.xb = ob
  hb : xh.xb = hb
  cb : xc.xb = cb
/-- Whichever. -/
def KS (w0 : World) (b c r : Nat) (zy zi gs gp : Nat) (R : Rg) (a0 a1 a2 a3 p0 p1 : Int) (j : Nat) (F : Int) (av : Value) (ob : Nat) (hv cv : Value) (W : World) : Prop :=
  (hv = .pointer none ∧ cv = .pointer none ∧ ∃ G m L A B io xo, K1 w0 b c r zy zi gs gp R a0 a1 a2 a3 p0 p1 j F av ob W G m L A B io xo) ∨
  (∃ hb cb, hv = .pointer (some ⟨hb, 0, none⟩) ∧ cv = .pointer (some ⟨cb, 0, none⟩) ∧ ∃ zh zk G m L A B io ih ic xo xh xc v, K2 w0 b c r zy zi gs gp R a0 a1 a2 a3 p0 p1 j F av ob hb cb W zh zk G m L A B io ih ic xo xh xc v)
theorem K1.inv {ob : Nat} (h : K1 w0 b c r zy zi gs gp R a0 a1 a2 a3 p0 p1 j F av ob W G m L A B io xo) : (xo.s.noted = 0 ∧ B = openB) ∨ (1 ≤ xo.s.noted ∧ xo.s.noted ≤ 1000001 ∧ B = [(0, xo.s.noted - 1), (0, -1)]) := h.mo.inv rfl
variable {ob hb cb ih ic : Nat} {xh xc : Mach}
theorem K2.invh (h : K2 w0 b c r zy zi gs gp R a0 a1 a2 a3 p0 p1 j F av ob hb cb W zh zk G m L A B io ih ic xo xh xc v) : xh.s.noted = 0 ∨ (xh.s.noted = v + 1 ∧ A[1]? = some v) := h.mh.inv (ho_refl _)
theorem K2.invc (h : K2 w0 b c r zy zi gs gp R a0 a1 a2 a3 p0 p1 j F av ob hb cb W zh zk G m L A B io ih ic xo xh xc v) : xc.s.place = 0 → B[0]? = some (0, v) := h.mc.inv rfl
theorem KS.later (h : KS w0 b c r zy zi gs gp R a0 a1 a2 a3 p0 p1 j F av ob hv cv W) (hb : Below W.heap.size W W') : KS w0 b c r zy zi gs gp R a0 a1 a2 a3 p0 p1 j F av ob hv cv W' := by
  rcases h with ⟨e1, e2, G, m, L, A, B, io, xo, k⟩ | ⟨hb1, cb1, e1, e2, zh, zk, G, m, L, A, B, io, ih, ic, xo, xh, xc, v, k⟩
  · exact .inl ⟨e1, e2, G, m, L, A, B, io, xo, k.kb.later hb, k.mo, k.fr, k.as_, k.ob⟩
  · exact .inr ⟨hb1, cb1, e1, e2, zh, zk, G, m, L, A, B, io, ih, ic, xo, xh, xc, v, k.kb.later hb, k.fo, k.no, k.v0, k.ih_, k.ic_, k.ne, k.mh, k.mc, k.bw, k.yh.same (k.kb.kw.keep hb (by simp)), (World.cell?_of_block (w := W) (a := ⟨zk, 0, none⟩) (k.kb.kw.keep hb (by simp))).trans k.ck, k.fr, k.as_, k.ob, k.hb, k.cb⟩
/-- A version is done. -/
theorem KB.publish (h : KB w0 b c r Z zy zi gs gp R a0 a1 a2 a3 p0 p1 j id G W m L A B io xo) (hT : TabAt w0) (hj : j ≤ 1000) :
    Calls Tryd.prog 15 #[yv b R, .int .i64 0] W fun e w' => e = .returned (.bool true) ∧ ∃ G' m', KW w0 b c r Z G' w' m' L ∧ (∀ z, z ∈ Z → w'.heap[z]? = W.heap[z]?) ∧ Rp [a0, a1, a2, a3] [p0, p1] (j + 1) m' A B := by
  obtain ⟨g, V, h1, h2, h3, h4⟩ := h.rp.rm
  have hc := h.rp.cnt
  refine (publish_any (R := R) (n := 0) h.kw.tm.has hT (by rw [h.kc.top]; exact h1) (by omega) (by omega) (by omega)).mono ?_
  rintro e w' ⟨rfl, G', m', hp⟩
  obtain ⟨q1, q2⟩ := h.kw.mem hp.has hp.but hp.gro hp.mono
  refine ⟨rfl, G', m', q1, q2, ⟨g + 2, V + 1 + 0, by have := hp.rm; rw [h.kc.top] at this; exact this, by push_cast; omega, by omega, by push_cast; omega⟩, ?_, by have := hp.cnt; push_cast; omega⟩
  obtain ⟨V', d, g2, s2, m1, m2, m3, m4, m5, v1, v2, e1, e2, e3, e4, e5, e6⟩ := hp.runs
  exact pub_db (by omega) ⟨v1, v2⟩ e1 e2 e3 e4 e5 e6 h.rp.db
theorem KS.publish (h : KS w0 b c r zy zi gs gp R a0 a1 a2 a3 p0 p1 j F av ob hv cv W) (hT : TabAt w0) (hj : j ≤ 1000) :
    Calls Tryd.prog 15 #[yv b R, .int .i64 0] W fun e w' => e = .returned (.bool true) ∧ KS w0 b c r zy zi gs gp R a0 a1 a2 a3 p0 p1 (j + 1) F av ob hv cv w' := by
  rcases h with ⟨e1, e2, G, m, L, A, B, io, xo, k⟩ | ⟨hb1, cb1, e1, e2, zh, zk, G, m, L, A, B, io, ih, ic, xo, xh, xc, v, k⟩
  · refine (k.kb.publish hT hj).mono ?_
    rintro e w' ⟨rfl, G', m', q1, q2, q3⟩
    exact ⟨rfl, .inl ⟨e1, e2, G', m', L, A, B, io, xo, k.kb.move q1 q2 q3 k.kb.o, k.mo, k.fr, k.as_, k.ob⟩⟩
  · refine (k.kb.publish hT hj).mono ?_
    rintro e w' ⟨rfl, G', m', q1, q2, q3⟩
    exact ⟨rfl, .inr ⟨hb1, cb1, e1, e2, zh, zk, G', m', L, A, B, io, ih, ic, xo, xh, xc, v, k.kb.move q1 q2 q3 k.kb.o, k.fo, k.no, k.v0, k.ih_, k.ic_, k.ne, k.mh, k.mc, k.bw, k.yh.same (q2 _ (by simp)), (World.cell?_of_block (w := W) (a := ⟨zk, 0, none⟩) (q2 _ (by simp))).trans k.ck, k.fr, k.as_, k.ob, k.hb, k.cb⟩⟩
theorem set_other_get {L : List Mach} {i k : Nat} {y : Mach} (h : k ≠ i) : (L.set i y)[k]? = L[k]? := List.getElem?_set_ne (fun e => h e.symm)
theorem set_self_get {L : List Mach} {i : Nat} {x y : Mach} (h : L[i]? = some x) : (L.set i y)[i]? = some y := List.getElem?_set_self (List.getElem?_eq_some_iff.1 h).1
/-- Who opens does a step. -/
theorem KS.opens (h : KS w0 b c r zy zi gs gp R a0 a1 a2 a3 p0 p1 j F av ob hv cv W) (hj : j ≤ 1000) :
    Calls Tryd.prog 31 #[.pointer (some ⟨ob, 0, none⟩)] W fun e w' => (∃ f, e = .returned (.bool f)) ∧ KS w0 b c r zy zi gs gp R a0 a1 a2 a3 p0 p1 (j + 1) F av ob hv cv w' := by
  rcases h with ⟨e1, e2, G, m, L, A, B, io, xo, k⟩ | ⟨hb1, cb1, e1, e2, zh, zk, G, m, L, A, B, io, ih, ic, xo, xh, xc, v, k⟩
  · have hz := k.kb.zs
    have hcn := k.kb.cnt hj
    obtain rfl := k.ob
    refine (KW.step k.kb.kw k.kb.o k.mo rfl k.kb.rp hj (by omega) k.kb.rp.next (.inr rfl) ent18 (fun a v e => ⟨_, _, e⟩) (fun w1 s1 hS hs hB => ?_)).mono ?_
    · have := clo18 hS hs (by omega) (yd_of k.kb.kw k.kb.kc ⟨hz.1, hz.2.2.1, hz.2.2.2⟩ k.kb.o hB)
      rw [k.kb.kc.top] at this
      exact this
    · rintro e w' ⟨y, G', m', ⟨A', B'⟩, rfl, hy, q1, q2, q3, q4, q5⟩
      have hin := k.inv
      have hin2 : (y.s.noted = 0 ∧ B' = openB) ∨ (1 ≤ y.s.noted ∧ y.s.noted ≤ 1000001 ∧ B' = [(0, y.s.noted - 1), (0, -1)]) := q5.inv rfl
      have q4 : B = openB ∨ B' = B := q4
      have hF : 0 < F → B' = B ∧ y.s.noted = F := fun hF => by
        have h1 := k.fr hF
        rcases hin with ⟨h2, -⟩ | ⟨-, -, h2⟩
        · omega
        · have h3 : B' = B := by
            rcases q4 with h3 | h3
            · rw [h2] at h3
              simp [openB] at h3
              omega
            · exact h3
          refine ⟨h3, ?_⟩
          rcases hin2 with ⟨h4, h5⟩ | ⟨-, -, h5⟩
          · rw [h3, h2] at h5
            simp [openB] at h5
            omega
          · rw [h3, h2] at h5
            simp at h5
            omega
      refine ⟨⟨_, rfl⟩, .inl ⟨e1, e2, G', m', _, A', B', io, y, k.kb.move q1 q2 q3 (set_self_get k.kb.o), q5, fun hF' => (hF hF').2, ?_, hy⟩⟩
      refine k.as_.others (fun hF' h6 => ?_) (fun i hi => set_other_get (by simpa using hi))
      have h7 : B[0]? = some (1, -1) := h6
      rcases hin with ⟨-, h2⟩ | ⟨-, -, h2⟩
      · rw [h2] at h7; simp [openB] at h7
      · rw [h2] at h7; simp at h7
  · obtain rfl := k.ob
    refine (k.kb.kw.tm.done k.kb.o k.fo).mono ?_
    rintro e w' ⟨rfl, rfl⟩
    exact ⟨⟨_, rfl⟩, .inr ⟨hb1, cb1, e1, e2, zh, zk, G, m, L, A, B, io, ih, ic, xo, xh, xc, v, k.kb.move k.kb.kw (fun _ _ => rfl) k.kb.rp.next k.kb.o, k.fo, k.no, k.v0, k.ih_, k.ic_, k.ne, k.mh, k.mc, k.bw, k.yh, k.ck, k.fr, k.as_, k.ob, k.hb, k.cb⟩⟩
/-- Who holds does a step. -/
theorem KS.holds (h : KS w0 b c r zy zi gs gp R a0 a1 a2 a3 p0 p1 j F av ob (.pointer (some ⟨hb, 0, none⟩)) cv W) (hj : j ≤ 1000) :
    Calls Tryd.prog 31 #[.pointer (some ⟨hb, 0, none⟩)] W fun e w' => (∃ f, e = .returned (.bool f)) ∧ KS w0 b c r zy zi gs gp R a0 a1 a2 a3 p0 p1 (j + 1) F av ob (.pointer (some ⟨hb, 0, none⟩)) cv w' := by
  rcases h with ⟨e1, -⟩ | ⟨hb1, cb1, e1, e2, zh, zk, G, m, L, A, B, io, ih, ic, xo, xh, xc, v, k⟩
  · cases e1
  · cases e1
    have hz := k.kb.zs
    have hcn := k.kb.cnt hj
    obtain rfl := k.hb
    refine (KW.step k.kb.kw k.ih_ k.mh (ho_refl _) ⟨k.kb.rp, k.bw⟩ hj (by omega) ⟨k.kb.rp.next, k.bw⟩ ⟨rfl, fun _ h => h⟩ ent66 (fun a v e => ⟨_, _, e⟩) (fun w1 s1 hS hs hB => ?_)).mono ?_
    · obtain ⟨l1, k1⟩ := k.kb.kw.loc (z := zh) (by simp) k.ih_ hB
      obtain ⟨l2, k2⟩ := k.kb.kw.loc (z := zk) (by simp) k.ih_ hB
      have hyd := yd_of k.kb.kw k.kb.kc ⟨hz.1, hz.2.2.1, hz.2.2.2⟩ k.ih_ hB
      have := clo66 hS hs (by omega) ⟨k.yh.same k1, l1, hyd.rg⟩ (id := 0) (by decide) (zi := zk) ⟨(World.cell?_of_block (w := W) (a := ⟨zk, 0, none⟩) k2).trans k.ck, l2⟩
      rw [k.kb.kc.top] at this
      exact this
    · rintro e w' ⟨y, G', m', ⟨A', B'⟩, rfl, hy, q1, q2, ⟨q3, q3b⟩, ⟨q4, q4b⟩, q5⟩
      have q4 : B' = B := q4
      subst q4
      have hinv : y.s.noted = 0 ∨ (y.s.noted = v + 1 ∧ A'[1]? = some v) := q5.inv (ho_refl _)
      have hlo : (L.set ih y)[io]? = some xo := (set_other_get k.ne.1).trans k.kb.o
      refine ⟨⟨_, rfl⟩, .inr ⟨_, cb1, rfl, e2, zh, zk, G', m', _, A', B', io, ih, ic, xo, y, xc, v, k.kb.move q1 q2 q3 hlo, k.fo, k.no, k.v0, set_self_get k.ih_, (set_other_get k.ne.2.2.symm).trans k.ic_, k.ne, q5, k.mc.others (fun _ _ _ h1 h2 => h2.trans h1) rfl, q3b, k.yh.same (q2 _ (by simp)), (World.cell?_of_block (w := W) (a := ⟨zk, 0, none⟩) (q2 _ (by simp))).trans k.ck, k.fr, ?_, k.ob, hy, k.cb⟩⟩
      refine k.as_.others (fun _ h6 => ⟨h6, fun h7 => q4b h6 h7⟩) (fun i hi => set_other_get fun e => hi (by simp [e]))
/-- Who closes does a step. -/
theorem KS.closes (h : KS w0 b c r zy zi gs gp R a0 a1 a2 a3 p0 p1 j F av ob hv (.pointer (some ⟨cb, 0, none⟩)) W) (hj : j ≤ 1000) :
    Calls Tryd.prog 31 #[.pointer (some ⟨cb, 0, none⟩)] W fun e w' => (∃ f, e = .returned (.bool f)) ∧ KS w0 b c r zy zi gs gp R a0 a1 a2 a3 p0 p1 (j + 1) F av ob hv (.pointer (some ⟨cb, 0, none⟩)) w' := by
  rcases h with ⟨-, e1, -⟩ | ⟨hb1, cb1, e1, e2, zh, zk, G, m, L, A, B, io, ih, ic, xo, xh, xc, v, k⟩
  · cases e1
  · cases e2
    have hz := k.kb.zs
    have hcn := k.kb.cnt hj
    obtain rfl := k.cb
    refine (KW.step k.kb.kw k.ic_ k.mc rfl k.kb.rp hj (by omega) k.kb.rp.next ⟨rfl, .inl rfl⟩ ent26 (fun a v e => ⟨_, _, e⟩) (fun w1 s1 hS hs hB => ?_)).mono ?_
    · obtain ⟨l2, k2⟩ := k.kb.kw.loc hz.2.1 k.ic_ hB
      exact clo26 hS hs (by omega) (yd_of k.kb.kw k.kb.kc ⟨hz.1, hz.2.2.1, hz.2.2.2⟩ k.ic_ hB) (id := 0) (by decide) (zi := zi) ⟨(World.cell?_of_block (w := W) (a := ⟨zi, 0, none⟩) k2).trans k.kb.ci, l2⟩
    · rintro e w' ⟨y, G', m', ⟨A', B'⟩, rfl, hy, q1, q2, q3, ⟨q4, q4b⟩, q5⟩
      have q4 : A' = A := q4
      subst q4
      have q4b : B' = B ∨ B'[0]? = some (1, -1) := q4b
      have hcl : B[0]? = some (1, -1) → B'[0]? = some (1, -1) := fun h => q4b.elim (fun e => by rw [e]; exact h) _root_.id
      have hbw : B'[0]? = some (0, v) ∨ B'[0]? = some (1, -1) := q4b.elim (fun e => by rw [e]; exact k.bw) .inr
      have hlo : (L.set ic y)[io]? = some xo := (set_other_get k.ne.2.1).trans k.kb.o
      refine ⟨⟨_, rfl⟩, .inr ⟨hb1, _, e1, rfl, zh, zk, G', m', _, A', B', io, ih, ic, xo, xh, y, v, k.kb.move q1 q2 q3 hlo, k.fo, k.no, k.v0, (set_other_get k.ne.2.2).trans k.ih_, set_self_get k.ic_, k.ne, k.mh.others ho_trans ⟨rfl, hcl⟩, q5, hbw, k.yh.same (q2 _ (by simp)), (World.cell?_of_block (w := W) (a := ⟨zk, 0, none⟩) (q2 _ (by simp))).trans k.ck, k.fr, ?_, k.ob, k.hb, hy⟩⟩
      exact k.as_.others (fun _ h6 => ⟨hcl h6, _root_.id⟩) (fun i hi => set_other_get fun e => hi (by simp [e]))
/-- What is told of who asked at its end. -/
def Told (F n to : Int) : Prop := 0 < F → 0 < to → to = F ∧ F ≤ 1000001 ∧ n ≤ F - 1
end
end Go.Proofs.YtgjkkbgdkdipgaaDoor
