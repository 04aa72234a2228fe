/- A row of numbers beside machines; a step that tells what others may rely on. No condition. -/
import Derived.Test.YtbcpdkmbbgcfbaaDoorKg
namespace Go.Proofs.YtbcpdkmbbgcfbaaDoor
open Go.RowKit Go.Op
set_option maxRecDepth 100000

section
variable {w0 : World} {b c r : Nat} {G : List (Nat × List Value)} {W : World} {J : List Job} {rep : Nat → M → Ow → Prop} {m : M} {L : List Mach} {rv : Value} {s : Ow} {j : Nat} {vars : List (Nat × List Value)}
/-- Behind a step, whether the machine had ended or not. -/
structure Gone (w0 : World) (b c r : Nat) (G : List (Nat × List Value)) (W : World) (J : List Job) (rep : Nat → M → Ow → Prop) (L : List Mach) (rv : Value) (j i : Nat) (vars : List (Nat × List Value)) (x : Mach) (s : Ow) (e : Ending) (W' : World) (G' : List (Nat × List Value)) (m' : M) (s' : Ow) (y : Mach) : Prop where
  sr : Sr w0 b c r G' J rep m' (L.set i y) rv s' (j + 1) W' vars
  ret : e = .returned (.bool y.fin)
  xb : y.xb = x.xb
  told : y.fin = false → x.fin = false ∧ y.s.e.told.length = x.s.e.told.length + 1
  gro : ∀ z, z ∈ G → z ∈ G'
  gu : ∀ (k : Nat) (jk : Job), k ≠ i → J[k]? = some jk → jk.r.rely s s'
  mine : ∀ z, Mine w0 b c r G W L rv z → Mine w0 b c r G' W' (L.set i y) rv z ∧ W'.heap[z]? = W.heap[z]?
theorem Sr.gone (h : Sr w0 b c r G J rep m L rv s j W vars) (hJ : JobsIx J) {i : Nat} {x : Mach} {jb : Job} (hi : L[i]? = some x) (hjb : J[i]? = some jb)
    (hmono : ∀ j m s, rep j m s → rep (j + 1) m s) (hcnt : ∀ j m s, rep j m s → j ≤ 10000 → m.count ≤ 100000) (hj : j ≤ 9999)
    (hcl : ∀ w1 s1, SysE w0 b c r x.xb 1 x.t G w1 m s1 → (∀ p, p ∈ vars → SVar w1 p.1 p.2) → (∀ a, (jb.p.run s1 m).1 = some a → jb.good a) → Calls Tryd.prog jb.fk (#[.pointer (some ⟨x.xb, 1, none⟩)] ++ jb.caps) w1 fun e w' => Ev w0 b c r x.xb 1 x.t G w1 jb.R (jb.p.run s1 m) e w') :
    Calls Tryd.prog 27 #[.pointer (some ⟨x.xb, 0, none⟩)] W fun e w' => ∃ G' m' s' y, Gone w0 b c r G W J rep L rv j i vars x s e w' G' m' s' y := by
  cases hfin : x.fin with
  | false =>
    obtain ⟨r1, r2, -⟩ := hJ i jb hjb
    refine (h.kw.step (fun jb hb => by
      obtain ⟨k, hk⟩ := List.mem_iff_getElem?.1 hb
      exact (hJ k jb hk).2.2) hi hjb hfin (fun s1 s2 hg k jk hne hk => by
      rw [r2] at hg
      rw [(hJ k jk hk).1]
      exact hg.rely hne) hcnt hj fun w1 s1 hS hB hg => hcl w1 s1 hS (fun p hp => ?_) hg).mono ?_
    · obtain ⟨q1, q2⟩ := h.vs p hp
      exact q2.same hB.size (hB.block _ q2.lt (q1.off.x i x hi).1)
    · rintro e w' ⟨G', m', s', y, hd⟩
      refine ⟨G', m', s', y, ⟨hd.kw, fun p hp => ?_⟩, hd.ret, hd.xb, fun hy => ⟨by rw [hfin], hd.told hy⟩, hd.gro.1, hd.gu, hd.mine⟩
      obtain ⟨q1, q2⟩ := h.vs p hp
      obtain ⟨r1, r2⟩ := hd.mine p.1 q1
      exact ⟨r1, q2.same hd.size r2⟩
  | true =>
    refine (h.kw.cr.tm.done hi hfin).mono ?_
    rintro e w' ⟨rfl, rfl⟩
    refine ⟨G, m, s, x, ?_, by rw [hfin], rfl, fun hy => (by rw [hfin] at hy; cases hy), fun z hz => hz, fun k jk _ hk => (hJ k jk hk).2.2.refl s, fun z hz => ?_⟩
    · rw [set_self hi]
      exact ⟨⟨h.kw.cr, hmono _ _ _ h.kw.rp, h.kw.ln, h.kw.ms⟩, h.vs⟩
    · rw [set_self hi]
      exact ⟨hz, rfl⟩
theorem Sr.grown {W' : World} {ro : Option Nat} (h : Sr w0 b c r G J rep m L rv s j W vars) (hg : W.grownBy W' ro) (hr : ∀ k, ro = some k → Mine w0 b c r G W L rv k ∧ ∀ p, p ∈ vars → p.1 ≠ k) : Sr w0 b c r G J rep m L rv s j W' vars := by
  cases ro with
  | none => exact h.later ⟨hg.os, hg.tape, hg.output, hg.size, fun k hk => hg.block k hk (fun e => (by cases e))⟩
  | some g =>
    have hb : But g W W' := ⟨hg.os, hg.tape, hg.output, hg.size, fun k hk hne => hg.block k hk (fun e => hne (by cases e; rfl))⟩
    obtain ⟨q1, q2⟩ := hr g rfl
    refine ⟨h.kw.aside hb q1, fun p hp => ?_⟩
    obtain ⟨r1, r2⟩ := h.vs p hp
    exact ⟨r1.later hb.size, r2.same hb.size (hb.block _ r2.lt (q2 p hp))⟩
/-- A row of numbers of the law's own. -/
structure CR (w0 : World) (b c r : Nat) (G : List (Nat × List Value)) (L : List Mach) (rv : Value) (vars : List (Nat × List Value)) (W : World) (v : Value) (l : List Int) : Prop where
  own : W.ownsRow w0.heap.size 3 1 v l.length (ints l)
  mi : ∀ k, v.ownBlock = some k → Mine w0 b c r G W L rv k ∧ ∀ p, p ∈ vars → p.1 ≠ k
theorem ints_row_same {w w' : World} {B : Nat} {v : Value} {n : Nat} {xs : List Value} (h : w.ownsRow B 3 1 v n xs) (hk : ∀ k, v.ownBlock = some k → w'.heap[k]? = w.heap[k]?) : w'.ownsRow B 3 1 v n xs := by
  refine ⟨h.1, h.2.imp id ?_⟩
  rintro ⟨g, cap, cur, rfl, a, b, d⟩
  exact ⟨g, cap, cur, rfl, a, by rw [hk g rfl]; exact b, d⟩
theorem CR.nil : CR w0 b c r G L rv vars W (.slice none 0 0) [] := ⟨World.ownsRow_nil _ _ _ _, fun k e => (by cases e)⟩
theorem CR.later {W' : World} {v : Value} {l : List Int} (h : CR w0 b c r G L rv vars W v l) (hb : Below W.heap.size W W') : CR w0 b c r G L rv vars W' v l :=
  ⟨ints_row_same h.own fun k e => hb.block k (h.mi k e).1.loc.lt, fun k e => ⟨(h.mi k e).1.later hb.size, (h.mi k e).2⟩⟩
theorem CR.gone {v : Value} {l : List Int} {G' : List (Nat × List Value)} {m' : M} {s' : Ow} {x y : Mach} {i : Nat} {e : Ending} {W' : World} (h : CR w0 b c r G L rv vars W v l) (hg : Gone w0 b c r G W J rep L rv j i vars x s e W' G' m' s' y) : CR w0 b c r G' (L.set i y) rv vars W' v l :=
  ⟨ints_row_same h.own fun k e => (hg.mine k (h.mi k e).1).2, fun k e => ⟨(hg.mine k (h.mi k e).1).1, (h.mi k e).2⟩⟩
theorem CR.cell {v : Value} {l : List Int} (h : CR w0 b c r G L rv vars W v l) (h0 : l ≠ []) : ∃ g cap, v = .slice (some ⟨g, 0, none⟩) l.length cap ∧ ∀ i x, l[i]? = some x → W.cell? ⟨g, i, none⟩ = some (.int .i64 x) := by
  rcases id h.own.2 with ⟨_, e⟩ | ⟨g, cap, cur, e, -⟩
  · exact absurd (List.length_eq_zero_iff.1 e) h0
  · refine ⟨g, cap, e, fun i x hx => ?_⟩
    have := World.ownsRow.cells h.own (g := g) (by rw [e]; rfl) i _ (ints_get hx)
    rwa [add_off, Nat.zero_add] at this
theorem CR.val {v : Value} {l : List Int} (h : CR w0 b c r G L rv vars W v l) : ∃ a cap, v = .slice a l.length cap := by
  rcases id h.own.2 with ⟨e, e2⟩ | ⟨g, cap, cur, e, -⟩
  · exact ⟨none, 0, by rw [e, e2]⟩
  · exact ⟨_, cap, e⟩
/-- One number more. -/
theorem CR.app {W2 W' : World} {v v' : Value} {l : List Int} {x : Int} (h : CR w0 b c r G L rv vars W v l) (hS : Sr w0 b c r G J rep m L rv s j W vars) (hb : Below W.heap.size W W2) (own : W'.ownsRow w0.heap.size 3 1 v' (l.length + 1) (ints l ++ [.int .i64 x])) (hg : W2.grownBy W' v.ownBlock) (hn : v'.ownBlock = v.ownBlock ∨ v'.ownBlock = some W2.heap.size) :
    Sr w0 b c r G J rep m L rv s j W' vars ∧ CR w0 b c r G L rv vars W' v' (l ++ [x]) := by
  have h2 := h.later hb
  have hS2 := hS.later hb
  refine ⟨hS2.grown hg fun k e => h2.mi k e, ?_, fun k e => ?_⟩
  · have e : ints l ++ [.int .i64 x] = ints (l ++ [x]) := by simp [ints]
    rw [e] at own
    rw [List.length_append]
    exact own
  · rcases hn with e2 | e2
    · rw [e2] at e
      exact ⟨(h2.mi k e).1.later hg.size, (h2.mi k e).2⟩
    · rw [e2] at e
      cases e
      have hlt := (World.ownsRow.lt own _ e2).2
      exact ⟨(hS2.kw.cr.newP (Nat.le_refl _)).mine hlt, fun p hp e => by have := (hS2.vs p hp).2.lt; omega⟩
end
theorem append_num {ops : Array Oper} {rest : List Oper} {o : Oper} {a : Act} {w : World} {Q : Exit → Act → World → Prop}
    (hg : o.guard = none) (s x : Operand) (hop : o.op = Op.call { callee := Callee.builtin Builtin.append, args := #[s, x], argTypes := #[25, 25] })
    (B : Nat) (v : Value) (l : List Int) (p : Int) (hs : a.eval s = v) (hown : w.ownsRow B 3 1 v l.length (ints l)) (g c : Nat) (hx : a.eval x = .slice (some ⟨g, 0, none⟩) 1 c) (hc : w.cell? ⟨g, 0, none⟩ = some (.int .i64 p))
    (hl : l.length ≤ 1000000) (hB : B ≤ w.heap.size)
    (hK : ∀ v' w', w'.ownsRow B 3 1 v' (l.length + 1) (ints l ++ [.int .i64 p]) → w.grownBy w' v.ownBlock → (v'.ownBlock = v.ownBlock ∨ v'.ownBlock = some w.heap.size) → wpList Tryd.prog ops Q rest (a.put o.dst v') w') :
    wpList Tryd.prog ops Q (o :: rest) a w := by
  obtain ⟨i0, hi, hz0, hz1, hz2⟩ := info_parts info3
  refine wpList_append_own_at w hg s x 25 hop B 3 i0 (.int .i64 0) 1 8 Tryd.underlying25 hi hz0 hz1 hz2 rfl (by decide) v _ _ hs hown ⟨g, 0, none⟩ 1 c [.int .i64 p] hx rfl ?_ (fun u hu => by simp at hu; subst hu; rfl) (by unfold maxLen; omega) (by omega) hB ?_
  · intro j u hu
    match j, hu with
    | 0, hu =>
      simp at hu
      subst hu
      exact hc
  · intro v' w' h1 h2 _ h4
    exact hK v' w' h1 h2 h4
theorem toldTo_ext {f f' : Nat → Option (List Int × Int)} : ∀ {i : Nat}, (∀ o, o < i → f o = f' o) → toldTo f i = toldTo f' i
  | 0, _ => rfl
  | i + 1, h => by rw [toldTo, toldTo, toldTo_ext fun o ho => h o (by omega), h i (by omega)]
set_option maxHeartbeats 1000000 in
theorem refLeft_any (w : World) (a : Option Addr) (cap : Nat) (l : List Int) (hl : l.length ≤ 1000) (hr : l ≠ [] → ∃ g o, a = some ⟨g, o, none⟩ ∧ w.rangeAt g o (ints l)) (v : Int) :
    Calls Tryd.prog 18 #[.slice a l.length cap, .int .i64 v] w fun e w' => e = .returned (.int .i64 (leftOf v l)) ∧ w = w' := by
  have h1 := refAt_any w a cap l hl hr v
  have hp := posOf_ge v l
  obtain ⟨n, hn⟩ : ∃ n, n = l.length := ⟨_, rfl⟩
  obtain ⟨p, hpp⟩ : ∃ p, p = posOf v l := ⟨_, rfl⟩
  have hlo : leftOf v l = if p < 0 then (n : Int) else p + 1 := by rw [leftOf, ← hpp, ← hn]
  rw [← hn, ← hpp] at h1
  rw [hlo]
  rw [← hn]
  rw [← hpp] at hp
  have hn2 : (n : Int) ≤ 1000 := by omega
  have hp1 : -1 ≤ p := hp.1
  have hp2 : p < 1000 := by omega
  clear hr hl hlo hn hpp hp
  by_cases hv : p < 0
  · rw [if_pos hv]
    go_enter Tryd.func18, Tryd.ntmps18
    go_wp2_with fail
    refine h1.mono ?_
    rintro e w1 ⟨rfl, rfl⟩
    clear h1
    go_wp2
    go_ret
    exact ⟨rfl, rfl⟩
  · rw [if_neg hv]
    go_enter Tryd.func18, Tryd.ntmps18
    go_wp2_with fail
    refine h1.mono ?_
    rintro e w1 ⟨rfl, rfl⟩
    clear h1
    go_wp2
    go_ret
    exact ⟨rfl, rfl⟩
theorem leftN_le (l : List (Int × Rv × Int)) (v : Int) : leftN l v ≤ l.length ∧ (1 ≤ l.length → 1 ≤ leftN l v) := by unfold leftN; omega
/-- What is left fits. -/
theorem fits_all {w1 w2 W : World} {bs : List Nat} {b c r : Nat} {G G2 : List (Nat × List Value)} {m m2 : M} {y : Yd} {hd p1 p2 : Int} {l : List (Int × Rv × Int)} (hL : Laid w1 bs w2 b c r G m y hd p1 p2 l) (hE : HasE w1 b c r G2 W m2) (hg : ∀ x, x ∈ G → x ∈ G2) {n : Nat} (hc : Ch m2 (topOf l) (l.take n)) (hw : m2.look hd = some (.word (topOf l))) (hcn : m2.count ≤ 100000) (h1 : 1 ≤ n) (h2 : n ≤ l.length) (h40 : l.length ≤ 40) (hver : ∀ x, x ∈ l → x.2.1.ver ≤ 1000000) :
    Calls Tryd.prog 22 #[Yd.v b y, .int .i64 (n : Int)] W fun e w' => e = .returned (.bool true) ∧ ButN [b, c, r] W.heap.size W w' := by
  match l, hL, hc, hw, h2, h40, hver with
  | [], _, _, _, h2, _, _ => simp at h2; omega
  | x0 :: l', hL, hc, hw, h2, h40, hver =>
  obtain ⟨k, rfl⟩ : ∃ k, n = k + 1 := ⟨n - 1, by omega⟩
  have hch := hL.ch
  rw [← hL.vers] at hch
  rw [List.take_succ_cons] at hc
  have ht := List.length_take (i := k) (l := l')
  simp only [List.length_cons] at h2 h40
  refine fits_any hE hcn (x0 := x0) (l' := l'.take k) (hd := hd) (p1 := p1) (p2 := p2) hw hc (by simp only [List.length_cons]; omega) (fun x hx => hver x ?_) hL.n (hch.more hg) (by rw [List.length_map]; simp only [List.length_cons]; omega) (k + 1) (by simp only [List.length_cons]; omega) (by rw [List.length_map]; simp only [List.length_cons]; omega) ?_ hE.lt
  · rcases List.mem_cons.1 hx with rfl | hx
    · exact List.mem_cons_self
    · exact List.mem_cons_of_mem _ (List.mem_of_mem_take hx)
  · rw [List.map_cons, List.map_cons, List.take_succ_cons, List.map_take]
end Go.Proofs.YtbcpdkmbbgcfbaaDoor
