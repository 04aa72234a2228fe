/- RegKeeps' asker; what is needed; the opening's end. Conditions: at most 1000 asks. -/
import Derived.Test.YtgjkkbgdkdipgaaDoorKt
namespace Go.Proofs.YtgjkkbgdkdipgaaDoor
open Go.RowKit Go.Op
set_option maxRecDepth 100000

theorem neq53_no (w : World) : (binOp .neq 53 (.pointer none) (.pointer none)).run Tryd.prog w = .ok (.bool false) w := by kernel_rfl
theorem neq53_yes (a : Addr) (w : World) : (binOp .neq 53 (.pointer (some a)) (.pointer none)).run Tryd.prog w = .ok (.bool true) w := by kernel_rfl
theorem eql53_no (w : World) : (binOp .eql 53 (.pointer none) (.pointer none)).run Tryd.prog w = .ok (.bool true) w := by kernel_rfl
theorem eql53_yes (a : Addr) (w : World) : (binOp .eql 53 (.pointer (some a)) (.pointer none)).run Tryd.prog w = .ok (.bool false) w := by kernel_rfl
theorem needed1 {ob : Nat} {N : Int} {W : World} (h : Calls Tryd.prog 71 #[.pointer (some ⟨ob, 0, none⟩)] W fun e w' => e = .returned (.int .i64 N) ∧ W = w') :
    Calls Tryd.prog 30 #[.pointer (some ⟨ob, 0, none⟩), .pointer none, .pointer none] W fun e w' => e = .returned (.int .i64 N) ∧ W = w' := by
  have q1 := neq53_no
  go_enter Tryd.func30, Tryd.ntmps30
  go_wp2_with fail
  refine h.mono ?_
  rintro e w' ⟨rfl, rfl⟩
  clear h
  go_wp2
  go_ret
  exact ⟨rfl, rfl⟩
theorem needed2 {ob hb cb : Nat} {N H : Int} {C : Nat} {W : World} (h : Calls Tryd.prog 71 #[.pointer (some ⟨ob, 0, none⟩)] W fun e w' => e = .returned (.int .i64 N) ∧ W = w')
    (h2 : Calls Tryd.prog 71 #[.pointer (some ⟨hb, 0, none⟩)] W fun e w' => e = .returned (.int .i64 H) ∧ W = w')
    (h3 : Calls Tryd.prog 72 #[.pointer (some ⟨cb, 0, none⟩)] W fun e w' => e = .returned (.int .i64 (C : Int)) ∧ W = w') :
    Calls Tryd.prog 30 #[.pointer (some ⟨ob, 0, none⟩), .pointer (some ⟨hb, 0, none⟩), .pointer (some ⟨cb, 0, none⟩)] W fun e w' => e = .returned (.int .i64 (if 0 < H then H else if 0 < C then 0 else N)) ∧ W = w' := by
  have q1 := neq53_yes
  by_cases hH : 0 < H
  · rw [if_pos hH]
    go_enter Tryd.func30, Tryd.ntmps30
    go_wp2_with fail
    refine h2.mono ?_
    rintro e w' ⟨rfl, rfl⟩
    go_wp2_with fail
    refine h2.mono ?_
    rintro e w' ⟨rfl, rfl⟩
    clear h h2 h3
    go_wp2
    go_ret
    exact ⟨rfl, rfl⟩
  · rw [if_neg hH]
    by_cases hC : 0 < C
    · rw [if_pos hC]
      have hC2 : 0 < (C : Int) := by omega
      clear hC
      go_enter Tryd.func30, Tryd.ntmps30
      go_wp2_with fail
      refine h2.mono ?_
      rintro e w' ⟨rfl, rfl⟩
      go_wp2_with fail
      refine h3.mono ?_
      rintro e w' ⟨rfl, rfl⟩
      clear h h2 h3
      go_wp2
      go_ret
      exact ⟨rfl, rfl⟩
    · rw [if_neg hC]
      obtain rfl : C = 0 := by omega
      clear hC
      go_enter Tryd.func30, Tryd.ntmps30
      go_wp2_with fail
      refine h2.mono ?_
      rintro e w' ⟨rfl, rfl⟩
      go_wp2_with fail
      refine h3.mono ?_
      rintro e w' ⟨rfl, rfl⟩
      go_wp2_with fail
      refine h.mono ?_
      rintro e w' ⟨rfl, rfl⟩
      clear h h2 h3
      go_wp2
      go_ret
      exact ⟨rfl, rfl⟩
theorem hold_any (b : Nat) (R : Rg) (id : Int) (V : World) : Calls Tryd.prog 25 #[yv b R, .int .i64 id] V fun e w' => e = .returned (capH V.heap.size (V.heap.size + 1)) ∧ w' = (V.alloc (yobj b R)).alloc (.cells #[.int .i64 id] 3) := by
  have hm := hmf1
  unfold yv yobj capH
  go_enter Tryd.func25, Tryd.ntmps25
  go_wp2
  go_ret
  simp
section
variable {w0 : World} {b c r zy zi zh zk gs gp : Nat} {R : Rg} {a0 a1 a2 a3 p0 p1 : Int} {Z : List Nat} {G G' : List (Nat × List Sw)} {W W' w1 : World} {m m' : M} {L L' : List Mach} {A A' : List Int} {B B' : List (Int × Int)} {j : Nat} {id F H v : Int} {io : Nat} {xo x : Mach} {av hv cv : Value} {I I' : List Nat} {ob hb cb ih ic : Nat} {xh xc : Mach}
theorem K1.needed (k : K1 w0 b c r zy zi gs gp R a0 a1 a2 a3 p0 p1 j F av ob W G m L A B io xo) : Calls Tryd.prog 30 #[.pointer (some ⟨ob, 0, none⟩), .pointer none, .pointer none] W fun e w' => e = .returned (.int .i64 xo.s.noted) ∧ W = w' := by
  have h := k.kb.kw.tm.noted k.kb.o
  rw [k.ob] at h
  exact needed1 h
theorem K2.needed (k : K2 w0 b c r zy zi gs gp R a0 a1 a2 a3 p0 p1 j F av ob hb cb W zh zk G m L A B io ih ic xo xh xc v) : Calls Tryd.prog 30 #[.pointer (some ⟨ob, 0, none⟩), .pointer (some ⟨hb, 0, none⟩), .pointer (some ⟨cb, 0, none⟩)] W fun e w' => e = .returned (.int .i64 (if 0 < xh.s.noted then xh.s.noted else if 0 < xc.s.place then 0 else v + 1)) ∧ W = w' := by
  have h := k.kb.kw.tm.noted k.kb.o
  have h2 := k.kb.kw.tm.noted k.ih_
  have h3 := k.kb.kw.tm.steps k.ic_
  rw [k.ob, k.no] at h
  rw [k.hb] at h2
  rw [k.cb] at h3
  exact needed2 h h2 h3
theorem K1.facts (k : K1 w0 b c r zy zi gs gp R a0 a1 a2 a3 p0 p1 j F av ob W G m L A B io xo) (hF : 0 < F) : F ≤ 1000001 ∧ B[0]? = some (0, F - 1) := by
  have h1 := k.fr hF
  rcases k.inv with ⟨h2, -⟩ | ⟨-, h2, h3⟩
  · omega
  · rw [h1] at h2 h3
    exact ⟨h2, by rw [h3]; rfl⟩
theorem As.more {L' : List Mach} (h : As a0 a1 a2 a3 p0 p1 zy I F H av L A B) (hI : ∀ k, k ∈ I' → k ∈ I ∨ L.length ≤ k) (hL : ∀ k, k < L.length → L'[k]? = L[k]?) : As a0 a1 a2 a3 p0 p1 zy I' F H av L' A B := by
  rcases h with h | ⟨ia, xa, e, hi, hn, hm⟩
  · exact .inl h
  · have hl := (List.getElem?_eq_some_iff.1 hi).1
    exact .inr ⟨ia, xa, e, (hL ia hl).trans hi, fun h => (hI ia h).elim hn fun h2 => by omega, hm⟩
theorem as_new (F H : Int) (z : Nat) (hI : ∀ k, k ∈ I → k < L.length) : As a0 a1 a2 a3 p0 p1 zy I F H (.pointer (some ⟨z, 0, none⟩)) (L ++ [mach0 z (capA zy)]) A B :=
  .inr ⟨L.length, mach0 z (capA zy), rfl, by simp, fun h => Nat.lt_irrefl _ (hI _ h), Ms.start (q := .word 3) z rfl rfl rfl (as_keeps F _)⟩
theorem app_get {L : List Mach} {i : Nat} {x y : Mach} (h : L[i]? = some x) : (L ++ [y])[i]? = some x := by
  rw [List.getElem?_append_left (List.getElem?_eq_some_iff.1 h).1]; exact h
/-- Somebody asks anew; what is needed is told. -/
theorem KS.anew (h : KS w0 b c r zy zi gs gp R a0 a1 a2 a3 p0 p1 j F av ob hv cv W) (hw : Below (W.alloc (machObj b (capA zy))).heap.size (W.alloc (machObj b (capA zy))) W') :
    Calls Tryd.prog 30 #[.pointer (some ⟨ob, 0, none⟩), hv, cv] W' fun e w' => ∃ to, e = .returned (.int .i64 to) ∧ W' = w' ∧ KS w0 b c r zy zi gs gp R a0 a1 a2 a3 p0 p1 j to (.pointer (some ⟨W.heap.size, 0, none⟩)) ob hv cv W' := by
  have hb1 := (Below.refl W.heap.size W).alloc (Nat.le_refl _) (machObj b (capA zy))
  rcases h with ⟨rfl, rfl, G, m, L, A, B, io, xo, k⟩ | ⟨hb1', cb1, rfl, rfl, zh, zk, G, m, L, A, B, io, ih, ic, xo, xh, xc, v, k⟩
  · have hlo := (List.getElem?_eq_some_iff.1 k.kb.o).1
    have k1 : K1 w0 b c r zy zi gs gp R a0 a1 a2 a3 p0 p1 j xo.s.noted (.pointer (some ⟨W.heap.size, 0, none⟩)) ob (W.alloc (machObj b (capA zy))) G m (L ++ [mach0 W.heap.size (capA zy)]) A B io xo :=
      ⟨k.kb.move (k.kb.kw.add _) (fun _ hz => k.kb.kw.keep hb1 hz) k.kb.rp (app_get k.kb.o), k.mo, fun _ => rfl, as_new _ _ _ (fun i hi => by simp at hi; subst hi; exact hlo), k.ob⟩
    have k2 : KS w0 b c r zy zi gs gp R a0 a1 a2 a3 p0 p1 j xo.s.noted (.pointer (some ⟨W.heap.size, 0, none⟩)) ob (.pointer none) (.pointer none) W' := KS.later (.inl ⟨rfl, rfl, _, _, _, _, _, _, _, k1⟩) hw
    have k3 : K1 w0 b c r zy zi gs gp R a0 a1 a2 a3 p0 p1 j xo.s.noted (.pointer (some ⟨W.heap.size, 0, none⟩)) ob W' G m (L ++ [mach0 W.heap.size (capA zy)]) A B io xo := ⟨k1.kb.later hw, k1.mo, k1.fr, k1.as_, k1.ob⟩
    refine k3.needed.mono ?_
    rintro e w' ⟨rfl, rfl⟩
    exact ⟨_, rfl, rfl, k2⟩
  · have hlo := (List.getElem?_eq_some_iff.1 k.kb.o).1
    have hlh := (List.getElem?_eq_some_iff.1 k.ih_).1
    have hlc := (List.getElem?_eq_some_iff.1 k.ic_).1
    have key : ∀ to : Int, (0 < to → to = v + 1) → K2 w0 b c r zy zi gs gp R a0 a1 a2 a3 p0 p1 j to (.pointer (some ⟨W.heap.size, 0, none⟩)) ob hb1' cb1 W' zh zk G m (L ++ [mach0 W.heap.size (capA zy)]) A B io ih ic xo xh xc v := fun to hto => by
      have hkw := k.kb.kw.add (capA zy)
      have hk2 : ∀ z, z ∈ [zk, zh, zy, zi, gs, gp] → W'.heap[z]? = W.heap[z]? := fun z hz => (hkw.keep hw hz).trans (k.kb.kw.keep hb1 hz)
      exact ⟨k.kb.move (hkw.later hw) hk2 k.kb.rp (app_get k.kb.o), k.fo, k.no, k.v0, app_get k.ih_, app_get k.ic_, k.ne, k.mh, k.mc, k.bw, k.yh.same (hk2 _ (by simp)), (World.cell?_of_block (w := W) (a := ⟨zk, 0, none⟩) (hk2 _ (by simp))).trans k.ck, hto, as_new _ _ _ (fun i hi => by simp at hi; rcases hi with rfl | rfl | rfl <;> assumption), k.ob, k.hb, k.cb⟩
    have hto : 0 < (if 0 < xh.s.noted then xh.s.noted else if 0 < xc.s.place then 0 else v + 1) → (if 0 < xh.s.noted then xh.s.noted else if 0 < xc.s.place then 0 else v + 1) = v + 1 := by
      intro h
      split
      · rcases k.invh with h2 | ⟨h2, -⟩
        · omega
        · exact h2
      · split
        · rename_i h2 h3
          rw [if_neg h2, if_pos h3] at h
          omega
        · rfl
    have k3 := key _ hto
    refine k3.needed.mono ?_
    rintro e w' ⟨rfl, rfl⟩
    exact ⟨_, rfl, rfl, .inr ⟨_, _, rfl, rfl, _, _, _, _, _, _, _, _, _, _, _, _, _, _, k3⟩⟩
/-- Nobody asks any more. -/
theorem KS.drop (h : KS w0 b c r zy zi gs gp R a0 a1 a2 a3 p0 p1 j F av ob hv cv W) : KS w0 b c r zy zi gs gp R a0 a1 a2 a3 p0 p1 j F (.pointer none) ob hv cv W := by
  rcases h with ⟨e1, e2, G, m, L, A, B, io, xo, k⟩ | ⟨hb1, cb1, e1, e2, zh, zk, G, m, L, A, B, io, ih, ic, xo, xh, xc, v, k⟩
  · exact .inl ⟨e1, e2, G, m, L, A, B, io, xo, k.kb, k.mo, k.fr, .inl rfl, k.ob⟩
  · exact .inr ⟨hb1, cb1, e1, e2, zh, zk, G, m, L, A, B, io, ih, ic, xo, xh, xc, v, k.kb, k.fo, k.no, k.v0, k.ih_, k.ic_, k.ne, k.mh, k.mc, k.bw, k.yh, k.ck, k.fr, .inl rfl, k.ob, k.hb, k.cb⟩
/-- Who asks does a step. -/
theorem KS.asks {ab : Nat} (h : KS w0 b c r zy zi gs gp R a0 a1 a2 a3 p0 p1 j F (.pointer (some ⟨ab, 0, none⟩)) ob hv cv W) (hj : j ≤ 1000) :
    Calls Tryd.prog 31 #[.pointer (some ⟨ab, 0, none⟩)] W fun e w' => ∃ f, e = .returned (.bool f) ∧ KS w0 b c r zy zi gs gp R a0 a1 a2 a3 p0 p1 (j + 1) F (.pointer (some ⟨ab, 0, none⟩)) ob hv cv w' ∧ (f = true → ∃ n, (Calls Tryd.prog 24 #[.pointer (some ⟨ab, 0, none⟩)] w' fun e w2 => e = .returned (.iface 3 (.int .i64 n)) ∧ w' = w2) ∧ Calls Tryd.prog 30 #[.pointer (some ⟨ob, 0, none⟩), hv, cv] w' fun e w2 => ∃ to, e = .returned (.int .i64 to) ∧ w' = w2 ∧ Told F n to) := by
  rcases h with ⟨rfl, rfl, G, m, L, A, B, io, xo, k⟩ | ⟨hb1', cb1, rfl, rfl, zh, zk, G, m, L, A, B, io, ih, ic, xo, xh, xc, v, k⟩
  · rcases k.as_ with e | ⟨ia, xa, e, hia, hn, hm⟩
    · cases e
    have hab : xa.xb = ab := by cases e; rfl
    clear e
    subst hab
    have hz := k.kb.zs
    have hcn := k.kb.cnt hj
    have hrp : ∀ i : Nat, Rp [a0, a1, a2, a3] [p0, p1] i m A B → (ruA a0 a1 a2 a3 p0 p1 F).rep i m ((A, B), 0) := fun i h => ⟨h, fun hF => ⟨(k.facts hF).1, .inl (k.facts hF).2, fun h => absurd (show (0 : Int) < 0 from h) (by decide)⟩⟩
    refine (KW.step k.kb.kw hia hm (as_refl _) (hrp j k.kb.rp) hj (by omega) (hrp _ k.kb.rp.next) rfl ent28 (fun a v e => ⟨_, _, e⟩) (fun w1 s1 hS hs hB => ?_)).mono ?_
    · have := clo28 hS hs (by omega) (yd_of k.kb.kw k.kb.kc ⟨hz.1, hz.2.2.1, hz.2.2.2⟩ hia hB)
      rw [k.kb.kc.top] at this
      exact this
    · rintro e w' ⟨y, G', m', s', rfl, hy, q1, q2, ⟨q3, -⟩, q4, q5⟩
      have q4 : s' = ((A, B), 0) := q4
      subst q4
      have hne : io ≠ ia := fun e => hn (by simp [e])
      have k1 : K1 w0 b c r zy zi gs gp R a0 a1 a2 a3 p0 p1 (j + 1) F (.pointer (some ⟨xa.xb, 0, none⟩)) ob w' G' m' (L.set ia y) A B io xo :=
        ⟨k.kb.move q1 q2 q3 ((set_other_get hne).trans k.kb.o), k.mo, k.fr, .inr ⟨ia, y, by rw [hy], set_self_get hia, hn, q5⟩, k.ob⟩
      refine ⟨y.fin, rfl, .inl ⟨rfl, rfl, _, _, _, _, _, _, _, k1⟩, fun hf => ?_⟩
      obtain ⟨n, hn1, -, hn2⟩ := q5.ended hf (as_refl _)
      have hn1 : y.out = .iface 3 (.int .i64 n) := hn1
      refine ⟨n, ?_, ?_⟩
      · have h1 := q1.tm.out (set_self_get hia)
        rw [hy, hn1] at h1
        exact h1
      · refine k1.needed.mono ?_
        rintro e w2 ⟨rfl, rfl⟩
        refine ⟨_, rfl, rfl, fun hF hto => ?_⟩
        refine ⟨k.fr hF, (k.facts hF).1, ?_⟩
        rcases hn2 hF with h2 | ⟨h2, -⟩
        · exact h2
        · have h2 : B[0]? = some (1, -1) := h2
          rw [(k.facts hF).2] at h2
          simp at h2
  · rcases k.as_ with e | ⟨ia, xa, e, hia, hn, hm⟩
    · cases e
    have hab : xa.xb = ab := by cases e; rfl
    clear e
    subst hab
    have hz := k.kb.zs
    have hcn := k.kb.cnt hj
    have hrp : ∀ i : Nat, Rp [a0, a1, a2, a3] [p0, p1] i m A B → (ruA a0 a1 a2 a3 p0 p1 F).rep i m ((A, B), xh.s.noted) := fun i h => ⟨h, fun hF => by
      have h1 := k.fr hF
      have h2 := k.v0
      have e1 : F - 1 = v := by omega
      refine ⟨by omega, by rw [e1]; exact k.bw, fun h => ?_⟩
      have h : 0 < xh.s.noted := h
      rcases k.invh with h3 | ⟨-, h3⟩
      · omega
      · rw [e1]; exact h3⟩
    refine (KW.step k.kb.kw hia hm (as_refl _) (hrp j k.kb.rp) hj (by omega) (hrp _ k.kb.rp.next) rfl ent28 (fun a v e => ⟨_, _, e⟩) (fun w1 s1 hS hs hB => ?_)).mono ?_
    · have := clo28 hS hs (by omega) (yd_of k.kb.kw k.kb.kc ⟨hz.1, hz.2.2.1, hz.2.2.2⟩ hia hB)
      rw [k.kb.kc.top] at this
      exact this
    · rintro e w' ⟨y, G', m', s', rfl, hy, q1, q2, ⟨q3, -⟩, q4, q5⟩
      have q4 : s' = ((A, B), xh.s.noted) := q4
      subst q4
      have n1 : io ≠ ia := fun e => hn (by simp [e])
      have n2 : ih ≠ ia := fun e => hn (by simp [e])
      have n3 : ic ≠ ia := fun e => hn (by simp [e])
      have k1 : K2 w0 b c r zy zi gs gp R a0 a1 a2 a3 p0 p1 (j + 1) F (.pointer (some ⟨xa.xb, 0, none⟩)) ob hb1' cb1 w' zh zk G' m' (L.set ia y) A B io ih ic xo xh xc v :=
        ⟨k.kb.move q1 q2 q3 ((set_other_get n1).trans k.kb.o), k.fo, k.no, k.v0, (set_other_get n2).trans k.ih_, (set_other_get n3).trans k.ic_, k.ne, k.mh, k.mc, k.bw, k.yh.same (q2 _ (by simp)), (World.cell?_of_block (w := W) (a := ⟨zk, 0, none⟩) (q2 _ (by simp))).trans k.ck, k.fr, .inr ⟨ia, y, by rw [hy], set_self_get hia, hn, q5⟩, k.ob, k.hb, k.cb⟩
      refine ⟨y.fin, rfl, .inr ⟨_, _, rfl, rfl, _, _, _, _, _, _, _, _, _, _, _, _, _, _, k1⟩, fun hf => ?_⟩
      obtain ⟨n, hn1, -, hn2⟩ := q5.ended hf (as_refl _)
      have hn1 : y.out = .iface 3 (.int .i64 n) := hn1
      refine ⟨n, ?_, ?_⟩
      · have h1 := q1.tm.out (set_self_get hia)
        rw [hy, hn1] at h1
        exact h1
      · refine k1.needed.mono ?_
        rintro e w2 ⟨rfl, rfl⟩
        refine ⟨_, rfl, rfl, fun hF hto => ?_⟩
        have h1 := k.fr hF
        have h2 : n ≤ F - 1 ∨ (B[0]? = some (1, -1) ∧ xh.s.noted ≤ 0) := hn2 hF
        have h3 := k.invh
        have h4 := k.invc
        have h7 := k.v0
        split at hto
        · rename_i h5
          rw [if_pos h5]
          omega
        · rename_i h5
          rw [if_neg h5]
          split at hto
          · omega
          · rename_i h6
            rw [if_neg h6]
            rcases h2 with h2 | ⟨h2, -⟩
            · omega
            · rw [h4 (by omega)] at h2
              simp at h2
/-- The opening has ended; its id is stored. -/
structure KT (w0 : World) (b c r : Nat) (zy zi gs gp : Nat) (R : Rg) (a0 a1 a2 a3 p0 p1 : Int) (j : Nat) (F : Int) (av : Value) (ob : Nat) (W : World) (G : List (Nat × List Sw)) (m : M) (L : List Mach) (A : List Int) (B : List (Int × Int)) (io : Nat) (xo : Mach) (v : Int) : Prop where
  kb : KB w0 b c r [zy, zi, gs, gp] zy zi gs gp R a0 a1 a2 a3 p0 p1 j 0 G W m L A B io xo
  fo : xo.fin = true
  no : xo.s.noted = v + 1
  v0 : 0 ≤ v ∧ v ≤ 1000000
  bo : B = [(0, v), (0, -1)]
  fr : 0 < F → F = v + 1
  as_ : As a0 a1 a2 a3 p0 p1 zy [io] F 0 av L A B
  ob : xo.xb = ob
theorem K1.ends (k : K1 w0 b c r zy zi gs gp R a0 a1 a2 a3 p0 p1 j F av ob W G m L A B io xo) (hf : xo.fin = true) (hne : zy ≠ zi ∧ gs ≠ zi ∧ gp ≠ zi) :
    (Calls Tryd.prog 24 #[.pointer (some ⟨ob, 0, none⟩)] W fun e w' => e = .returned (.iface 3 (.int .i64 0)) ∧ W = w') ∧ KT w0 b c r zy zi gs gp R a0 a1 a2 a3 p0 p1 j F av ob (W.setCell ⟨zi, 0, none⟩ (.int .i64 0)) G m L A B io xo (xo.s.noted - 1) := by
  obtain ⟨a, ha, -, ha2⟩ := k.mo.ended hf rfl
  have ha : xo.out = .iface 3 (.int .i64 a) := ha
  have ha2 : a = 0 ∧ 1 ≤ xo.s.noted := ha2
  have hin := k.inv
  have hB : xo.s.noted ≤ 1000001 ∧ B = [(0, xo.s.noted - 1), (0, -1)] := by
    rcases hin with ⟨h, -⟩ | ⟨-, h1, h2⟩
    · omega
    · exact ⟨h1, h2⟩
  have hk : But zi W (W.setCell ⟨zi, 0, none⟩ (.int .i64 0)) := (But.refl _ _).set _ _
  have hz := k.kb.zs
  have hl : ∀ z, z ∈ [zy, zi, gs, gp] → z ≠ zi → (W.setCell ⟨zi, 0, none⟩ (.int .i64 0)).heap[z]? = W.heap[z]? := fun z hz hn => hk.block z (k.kb.kw.own z hz).1.lt hn
  refine ⟨?_, ⟨⟨k.kb.kw.aside hz.2.1 hk, hz, k.kb.kc.same (hl _ hz.1 hne.1) (hl _ hz.2.2.1 hne.2.1) (hl _ hz.2.2.2 hne.2.2), set_same k.kb.ci, fun i => by rw [World.frozen?_setCell]; exact k.kb.fi i, k.kb.rp, k.kb.o⟩, hf, by omega, by omega, hB.2, fun hF => by have := k.fr hF; omega, k.as_, k.ob⟩⟩
  have h1 := k.kb.kw.tm.out k.kb.o
  rw [k.ob, ha, ha2.1] at h1
  exact h1
theorem KT.later (k : KT w0 b c r zy zi gs gp R a0 a1 a2 a3 p0 p1 j F av ob W G m L A B io xo v) (hb : Below W.heap.size W W') : KT w0 b c r zy zi gs gp R a0 a1 a2 a3 p0 p1 j F av ob W' G m L A B io xo v :=
  ⟨k.kb.later hb, k.fo, k.no, k.v0, k.bo, k.fr, k.as_, k.ob⟩
/-- Who holds is made. -/
structure KH (w0 : World) (b c r : Nat) (zy zi gs gp : Nat) (R : Rg) (a0 a1 a2 a3 p0 p1 : Int) (j : Nat) (F : Int) (av : Value) (ob hb : Nat) (W : World) (zh zk : Nat) (G : List (Nat × List Sw)) (m : M) (L : List Mach) (A : List Int) (B : List (Int × Int)) (io ih : Nat) (xo : Mach) (v : Int) : Prop where
  kb : KB w0 b c r [zk, zh, zy, zi, gs, gp] zy zi gs gp R a0 a1 a2 a3 p0 p1 j 0 G W m L A B io xo
  fo : xo.fin = true
  no : xo.s.noted = v + 1
  v0 : 0 ≤ v ∧ v ≤ 1000000
  bo : B = [(0, v), (0, -1)]
  ih_ : L[ih]? = some (mach0 hb (capH zh zk))
  ne : io ≠ ih
  yh : YVar W zh b R
  ck : W.cell? ⟨zk, 0, none⟩ = some (.int .i64 0)
  fr : 0 < F → F = v + 1
  as_ : As a0 a1 a2 a3 p0 p1 zy [io, ih] F 0 av L A B
  ob : xo.xb = ob
theorem KT.hold {V : World} (k : KT w0 b c r zy zi gs gp R a0 a1 a2 a3 p0 p1 j F av ob W G m L A B io xo v) (hV : Below ((W.alloc (yobj b R)).alloc (.cells #[.int .i64 0] 3)).heap.size ((W.alloc (yobj b R)).alloc (.cells #[.int .i64 0] 3)) V) :
    KH w0 b c r zy zi gs gp R a0 a1 a2 a3 p0 p1 j F av ob V.heap.size (V.alloc (machObj b (capH W.heap.size (W.heap.size + 1)))) W.heap.size (W.heap.size + 1) G m (L ++ [mach0 V.heap.size (capH W.heap.size (W.heap.size + 1))]) A B io L.length xo v := by
  have hb1 := (Below.refl W.heap.size W).alloc (Nat.le_refl _) (yobj b R)
  have e1 : (W.alloc (yobj b R)).heap.size = W.heap.size + 1 := by simp
  have hb2 := (Below.refl (W.alloc (yobj b R)).heap.size (W.alloc (yobj b R))).alloc (Nat.le_refl _) (.cells #[.int .i64 0] 3)
  have kw := ((k.kb.kw.new (yobj b R)).new (.cells #[.int .i64 0] 3))
  rw [e1] at kw
  have kw3 := (kw.later hV).add (capH W.heap.size (W.heap.size + 1))
  have hb4 := (Below.refl V.heap.size V).alloc (Nat.le_refl _) (machObj b (capH W.heap.size (W.heap.size + 1)))
  have hlo := (List.getElem?_eq_some_iff.1 k.kb.o).1
  have h1 : ∀ z, z ∈ [zy, zi, gs, gp] → (V.alloc (machObj b (capH W.heap.size (W.heap.size + 1)))).heap[z]? = W.heap[z]? := fun z hz => by
    have l0 := (k.kb.kw.own z hz).1.lt
    have l3 := (kw.own z (by simp at hz ⊢; omega)).1.lt
    rw [hb4.block z (Nat.lt_of_lt_of_le l3 hV.size), hV.block z l3, hb2.block z (by omega), hb1.block z l0]
  have s2 : ((W.alloc (yobj b R)).alloc (.cells #[.int .i64 0] 3)).heap.size = W.heap.size + 2 := by simp
  have h2 : ∀ z, z < W.heap.size + 2 → (V.alloc (machObj b (capH W.heap.size (W.heap.size + 1)))).heap[z]? = ((W.alloc (yobj b R)).alloc (.cells #[.int .i64 0] 3)).heap[z]? := fun z hz => by
    rw [hb4.block z (by have := hV.size; omega), hV.block z (by omega)]
  have kc := k.kb.kc.same (h1 _ k.kb.zs.1) (h1 _ k.kb.zs.2.2.1) (h1 _ k.kb.zs.2.2.2)
  refine ⟨⟨kw3, ?_, kc, (World.cell?_of_block (w := W) (a := ⟨zi, 0, none⟩) (h1 _ k.kb.zs.2.1)).trans k.kb.ci, fun i => by rw [World.frozen?_of_block (w := W) (a := ⟨zi, i, none⟩) (h1 _ k.kb.zs.2.1)]; exact k.kb.fi i, k.kb.rp, app_get k.kb.o⟩, k.fo, k.no, k.v0, k.bo, by simp, by omega, ?_, ?_, k.fr, k.as_.more (fun i hi => by simp at hi ⊢; omega) (fun i hi => List.getElem?_append_left hi), k.ob⟩
  · simp
  · exact ((ynew W b R).same (hb2.block _ (by omega))).same (h2 _ (by omega))
  · rw [World.cell?_of_block (w := (W.alloc (yobj b R)).alloc (.cells #[.int .i64 0] 3)) (a := ⟨W.heap.size + 1, 0, none⟩) (h2 (W.heap.size + 1) (by omega)), ← e1]
    simp [go_sem]
theorem KH.close {V : World} (k : KH w0 b c r zy zi gs gp R a0 a1 a2 a3 p0 p1 j F av ob hb W zh zk G m L A B io ih xo v) (hV : Below W.heap.size W V) :
    KS w0 b c r zy zi gs gp R a0 a1 a2 a3 p0 p1 j F av ob (.pointer (some ⟨hb, 0, none⟩)) (.pointer (some ⟨V.heap.size, 0, none⟩)) (V.alloc (machObj b (capC zy zi))) := by
  have hb4 := (Below.refl V.heap.size V).alloc (Nat.le_refl _) (machObj b (capC zy zi))
  have hbb := hV.trans (hb4.mono hV.size)
  have hk : ∀ z, z ∈ [zk, zh, zy, zi, gs, gp] → (V.alloc (machObj b (capC zy zi))).heap[z]? = W.heap[z]? := fun z hz => k.kb.kw.keep hbb hz
  have hlo := (List.getElem?_eq_some_iff.1 k.kb.o).1
  have hlh := (List.getElem?_eq_some_iff.1 k.ih_).1
  refine .inr ⟨hb, V.heap.size, rfl, rfl, zh, zk, G, m, _, A, B, io, ih, L.length, xo, mach0 hb (capH zh zk), mach0 V.heap.size (capC zy zi), v, k.kb.move ((k.kb.kw.later hV).add _) hk k.kb.rp (app_get k.kb.o), k.fo, k.no, k.v0, app_get k.ih_, by simp, ⟨k.ne, by omega, by omega⟩, ?_, ?_, .inl (by rw [k.bo]; rfl), k.yh.same (hk _ (by simp)), (World.cell?_of_block (w := W) (a := ⟨zk, 0, none⟩) (hk _ (by simp))).trans k.ck, k.fr, k.as_.more (fun i hi => by simp at hi ⊢; omega) (fun i hi => List.getElem?_append_left hi), k.ob, rfl, rfl⟩
  · exact Ms.start (q := .store a1 1) hb rfl rfl rfl (ho_keeps k.v0 _)
  · have := cl_keeps (a0 := a0) (a1 := a1) (a2 := a2) (a3 := a3) (p0 := p0) (p1 := p1) k.v0 A
    rw [← k.bo] at this
    exact Ms.start (q := .word p0) V.heap.size rfl rfl rfl this
end
end Go.Proofs.YtgjkkbgdkdipgaaDoor
