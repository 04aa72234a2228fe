/- What a port's asks come to, rows' places set aside; slices.Clone of a row of swaps. Conditions: at most 900000 asks; at most 1000000 swaps. -/
import Derived.Test.YteiikkkcjpfapaaDoorPrA
import Derived.Deep.Upon
namespace Go.Proofs.YteiikkkcjpfapaaDoor
open Go.RowKit Go.Op
set_option maxRecDepth 100000

theorem Ev.mono {α : Type} {w0 : World} {b c r pb po : Nat} {t : Value} {G : List (Nat × List Sw)} {w w1 : World} {R R' : List (Nat × List Sw) → α → Value → Prop} {o : Option α × Pt × M} {e : Ending} (h : Ev w0 b c r pb po t G w R o e w1) (hR : ∀ G' a v, R G' a v → R' G' a v) : Ev w0 b c r pb po t G w R' o e w1 := by
  obtain ⟨oa, s', m'⟩ := o
  obtain ⟨t', G', h1, h2⟩ := h
  refine ⟨t', G', ?_, h2⟩
  cases oa with
  | none => exact h1
  | some a =>
    obtain ⟨v, h3, h4⟩ := h1
    exact ⟨v, h3, hR _ _ _ h4⟩
section
variable {w0 : World} {b c r pb po : Nat} {t : Value} {G : List (Nat × List Sw)} {w : World} {m : M} {s : Pt}
theorem ev_ask {m0 : M} {s0 : Pt} {q : Qn} {e : Ending} {w1 : World} (hm : m0.In G) (hs : s0.In G) (hf : Fit s0 m0) (hq : q.In G) (h : Asked w0 b c r m0.count G pb po t w m0 s0 q e w1) :
    Ev w0 b c r pb po t G w (fun G' a v => ∃ a0 : An, a0.e = a ∧ a0.held.In G' ∧ v = q.ret a0) (s0.e.ask q.e m0.e) e w1 := by
  obtain ⟨t', hE, hS, hB, hR⟩ := h
  rw [Pt.e_ask]
  obtain ⟨i1, i2, i3⟩ := hs.ask hm hq
  have hF := hf.ask q
  have hS' := hS.okof hF.ok
  refine ⟨t', G, ?_, ⟨⟨_, _, hS', i3, i2, hF, rfl, rfl⟩, hB, hR, Grow.refl _ _⟩⟩
  cases ho : (s0.ask q m0).1 with
  | none => rw [ho] at hE; exact hE
  | some a => rw [ho] at hE; exact ⟨_, hE, a, rfl, i1 a ho, rfl⟩
theorem Fit.pok {m0 : M} {s0 : Pt} (h : Fit s0 m0) (hc : m0.count ≤ 900000) : s0.Ok := ⟨h.le, by have := h.len; omega⟩
theorem eword (h : SysE w0 b c r pb po t G w m s) (hc : m.count ≤ 900000) (k : Int) :
    Calls Tryd.prog 57 #[.pointer (some ⟨pb, po, none⟩), .int .i64 k] w fun e w' => Ev w0 b c r pb po t G w (fun _ a v => v = .tuple #[.int .i64 a.n, .int .i64 a.err]) (s.ask (.word k) m) e w' := by
  obtain ⟨m0, s0, hS, hm, hs, hf, rfl, rfl⟩ := h
  have hc : m0.count ≤ 900000 := hc
  refine (pword_any hS (by omega) (hf.pok hc) k).mono fun e w' h => ?_
  exact (ev_ask (q := .word k) hm hs hf trivial h).mono fun G' a v ⟨a0, e, _, hv⟩ => by rw [hv, ← e]; rfl
theorem eload (h : SysE w0 b c r pb po t G w m s) (hc : m.count ≤ 900000) (k : Int) :
    Calls Tryd.prog 76 #[.pointer (some ⟨pb, po, none⟩), .int .i64 k] w fun e w' => Ev w0 b c r pb po t G w (fun G' a v => ∃ x : Held, x.e = a.held ∧ x.In G' ∧ v = .tuple #[x.v, .int .i64 a.err]) (s.ask (.load k) m) e w' := by
  obtain ⟨m0, s0, hS, hm, hs, hf, rfl, rfl⟩ := h
  have hc : m0.count ≤ 900000 := hc
  refine (pload_any hS (by omega) (hf.pok hc) k).mono fun e w' h => ?_
  exact (ev_ask (q := .load k) hm hs hf trivial h).mono fun G' a v ⟨a0, e, hi, hv⟩ => ⟨a0.held, by rw [← e]; rfl, hi, by rw [hv, ← e]; rfl⟩
theorem eallocword (h : SysE w0 b c r pb po t G w m s) (hT : TabAt w0) (hc : m.count ≤ 900000) (k : Int) :
    Calls Tryd.prog 46 #[.pointer (some ⟨pb, po, none⟩), .int .i64 k] w fun e w' => Ev w0 b c r pb po t G w (fun _ a v => v = .tuple #[.int .i64 a.n, .int .i64 a.err]) (s.ask (.alloc (.word k)) m) e w' := by
  obtain ⟨m0, s0, hS, hm, hs, hf, rfl, rfl⟩ := h
  have hc : m0.count ≤ 900000 := hc
  refine (palloc_any hS hT (by omega) (hf.pok hc) k).mono fun e w' h => ?_
  exact (ev_ask (q := .alloc (.word k)) hm hs hf word_in h).mono fun G' a v ⟨a0, e, _, hv⟩ => by rw [hv, ← e]; rfl
theorem ealloctext (h : SysE w0 b c r pb po t G w m s) (hT : TabAt w0) (hc : m.count ≤ 900000) (k : Value) :
    Calls Tryd.prog 38 #[.pointer (some ⟨pb, po, none⟩), .iface 9 k] w fun e w' => Ev w0 b c r pb po t G w (fun _ a v => v = .tuple #[.int .i64 a.n, .int .i64 a.err]) (s.ask (.alloc (.text k)) m) e w' := by
  obtain ⟨m0, s0, hS, hm, hs, hf, rfl, rfl⟩ := h
  have hc : m0.count ≤ 900000 := hc
  refine (palloctext_any hS hT (by omega) (hf.pok hc) k).mono fun e w' h => ?_
  exact (ev_ask (q := .alloc (.text k)) hm hs hf (fun _ e => (by cases e)) h).mono fun G' a v ⟨a0, e, _, hv⟩ => by rw [hv, ← e]; rfl
theorem eallocdesc (h : SysE w0 b c r pb po t G w m s) (hT : TabAt w0) (hc : m.count ≤ 900000) (d : Ds) (hd : d.In G) :
    Calls Tryd.prog 38 #[.pointer (some ⟨pb, po, none⟩), .iface 52 d.v] w fun e w' => Ev w0 b c r pb po t G w (fun _ a v => v = .tuple #[.int .i64 a.n, .int .i64 a.err]) (s.ask (.alloc (.desc d.e)) m) e w' := by
  obtain ⟨m0, s0, hS, hm, hs, hf, rfl, rfl⟩ := h
  have hc : m0.count ≤ 900000 := hc
  refine (pallocdesc_any hS hT (by omega) (hf.pok hc) d).mono fun e w' h => ?_
  exact (ev_ask (q := .alloc (.desc d)) hm hs hf (fun _ e => by cases e; exact hd) h).mono fun G' a v ⟨a0, e, _, hv⟩ => by rw [hv, ← e]; rfl
theorem eswap (h : SysE w0 b c r pb po t G w m s) (hc : m.count ≤ 900000) (k o n : Int) :
    Calls Tryd.prog 54 #[.pointer (some ⟨pb, po, none⟩), .int .i64 k, .int .i64 o, .int .i64 n] w fun e w' => Ev w0 b c r pb po t G w (fun _ a v => v = .tuple #[.bool a.ok, .int .i64 a.err]) (s.ask (.swap k o n) m) e w' := by
  obtain ⟨m0, s0, hS, hm, hs, hf, rfl, rfl⟩ := h
  have hc : m0.count ≤ 900000 := hc
  refine (pswap_any hS (by omega) (hf.pok hc) k o n).mono fun e w' h => ?_
  exact (ev_ask (q := .swap k o n) hm hs hf trivial h).mono fun G' a v ⟨a0, e, _, hv⟩ => by rw [hv, ← e]; rfl
theorem efree (h : SysE w0 b c r pb po t G w m s) (hc : m.count ≤ 900000) (k : Int) :
    Calls Tryd.prog 40 #[.pointer (some ⟨pb, po, none⟩), .int .i64 k] w fun e w' => Ev w0 b c r pb po t G w (fun _ a v => v = .int .i64 a.err) (s.ask (.free k) m) e w' := by
  obtain ⟨m0, s0, hS, hm, hs, hf, rfl, rfl⟩ := h
  have hc : m0.count ≤ 900000 := hc
  refine (pfree_any hS (by omega) (hf.pok hc) k).mono fun e w' h => ?_
  exact (ev_ask (q := .free k) hm hs hf trivial h).mono fun G' a v ⟨a0, e, _, hv⟩ => by rw [hv, ← e]; rfl
theorem eretire (h : SysE w0 b c r pb po t G w m s) (hc : m.count ≤ 900000) (k n : Int) :
    Calls Tryd.prog 61 #[.pointer (some ⟨pb, po, none⟩), .int .i64 k, .int .i64 n] w fun e w' => Ev w0 b c r pb po t G w (fun _ a v => v = .int .i64 a.err) (s.ask (.retire k n) m) e w' := by
  obtain ⟨m0, s0, hS, hm, hs, hf, rfl, rfl⟩ := h
  have hc : m0.count ≤ 900000 := hc
  refine (pretire_any hS (by omega) (hf.pok hc) k n).mono fun e w' h => ?_
  exact (ev_ask (q := .retire k n) hm hs hf trivial h).mono fun G' a v ⟨a0, e, _, hv⟩ => by rw [hv, ← e]; rfl
theorem ereap (h : SysE w0 b c r pb po t G w m s) (hc : m.count ≤ 900000) (k n : Int) :
    Calls Tryd.prog 35 #[.pointer (some ⟨pb, po, none⟩), .int .i64 k, .int .i64 n] w fun e w' => Ev w0 b c r pb po t G w (fun _ a v => v = .tuple #[.bool a.ok, .int .i64 a.err]) (s.ask (.reap k n) m) e w' := by
  obtain ⟨m0, s0, hS, hm, hs, hf, rfl, rfl⟩ := h
  have hc : m0.count ≤ 900000 := hc
  refine (preap_any hS (by omega) (hf.pok hc) k n).mono fun e w' h => ?_
  exact (ev_ask (q := .reap k n) hm hs hf trivial h).mono fun G' a v ⟨a0, e, _, hv⟩ => by rw [hv, ← e]; rfl
end

/-- A row's cells. -/
def Sw.row (x : Sw) : List Value := [.int .i64 x.cell, .int .i64 x.old, .int .i64 x.new]
def swRow (l : List Sw) : List Value := l.flatMap Sw.row
theorem swRow_length : ∀ l : List Sw, (swRow l).length = l.length * 3
  | [] => rfl
  | e :: l => by
    have ih := swRow_length l
    simp only [swRow, List.flatMap_cons, List.length_append, List.length_cons] at ih ⊢
    rw [ih, show e.row.length = 3 from rfl]; omega
theorem swRow_get : ∀ (l : List Sw) (k : Nat) (x : Sw), l[k]? = some x → ∀ j, j < 3 → (swRow l)[k * 3 + j]? = (x.row)[j]?
  | [], _, _, hk, _, _ => by simp at hk
  | e :: l, 0, x, hk, j, hj => by
    simp only [List.getElem?_cons_zero, Option.some.injEq] at hk
    subst hk
    simp only [swRow, List.flatMap_cons]
    rw [List.getElem?_append_left (by rw [show e.row.length = 3 from rfl]; omega)]
    simp
  | e :: l, k + 1, x, hk, j, hj => by
    have ih := swRow_get l k x (by simpa using hk) j hj
    simp only [swRow, List.flatMap_cons] at ih ⊢
    rw [List.getElem?_append_right (by rw [show e.row.length = 3 from rfl]; omega), show e.row.length = 3 from rfl, show (k + 1) * 3 + j - 3 = k * 3 + j by omega]
    exact ih
theorem Rw.row {w : World} {g : Nat} {l : List Sw} (h : Rw w g l) : ∀ j v, (swRow l)[j]? = some v → w.cell? ⟨g, j, none⟩ = some v := by
  intro j v hj
  have hl := (List.getElem?_eq_some_iff.1 hj).1
  rw [swRow_length] at hl
  have hk : j / 3 < l.length := by omega
  have hx : l[j / 3]? = some l[j / 3] := List.getElem?_eq_getElem hk
  have h1 := swRow_get l (j / 3) _ hx (j % 3) (by omega)
  rw [show j / 3 * 3 + j % 3 = j by omega, hj] at h1
  obtain ⟨c0, c1, c2⟩ := h.at_ _ _ hx
  have : j % 3 = 0 ∨ j % 3 = 1 ∨ j % 3 = 2 := by omega
  rcases this with e | e | e <;> rw [e] at h1 <;> simp [Sw.row] at h1
  · rw [h1, ← c0]; congr 2; omega
  · rw [h1, ← c1]; congr 2; omega
  · rw [h1, ← c2]; congr 2; omega
theorem rw_of {w : World} {g : Nat} {l : List Sw} (hg : g < w.heap.size) (h : ∀ j v, (swRow l)[j]? = some v → w.cell? ⟨g, j, none⟩ = some v) : Rw w g l :=
  ⟨hg, fun i x hx => ⟨by rw [h (i * 3) (.int .i64 x.cell) (swRow_get l i x hx 0 (by omega))], h _ _ (swRow_get l i x hx 1 (by omega)), h _ _ (swRow_get l i x hx 2 (by omega))⟩⟩
theorem info90 : (Tryd.prog.info? 90).map (fun i => (i.zero, i.size, i.bytes)) = some (some (.agg #[.int .i64 0, .int .i64 0, .int .i64 0]), 3, 24) := by kernel_rfl
/-- What a slice of swaps holds. -/
def SlAt (w : World) (ad : Option Addr) (l : List Sw) : Prop := l = [] ∨ ∃ g, ad = some ⟨g, 0, none⟩ ∧ Rw w g l
/-- A new row. -/
def SlNew (B : Nat) (w : World) (ad : Option Addr) (l : List Sw) : Prop := l = [] ∨ ∃ g, ad = some ⟨g, 0, none⟩ ∧ B ≤ g ∧ Rw w g l
theorem append_run {P : Program} {w : World} {ops : Array Oper} {rest : List Oper} {o : Oper} {a : Act} {Q : Exit → Act → World → Prop} (hgd : o.guard = none) (s x : Operand) (t : TypeId)
    (ho : o.op = .call { callee := .builtin .append, args := #[s, x], argTypes := #[t, t] }) (v y u : Value) (w' : World) (hs : a.eval s = v) (hx : a.eval x = y)
    (hr : ∀ ty, (Builtin.append_ #[t, t] ty #[v, y]).run P w = .ok u w') (h : wpList P ops Q rest (a.put o.dst u) w') : wpList P ops Q (o :: rest) a w := by
  refine wpList_plain hgd fun K hK => ?_
  unfold Oper.wp execOp
  simp only [ho, resolve, invoke, builtin, Sem.run_bind, Sem.run_pure, Result.andThen_ok, List.map_toArray, List.map_cons, List.map_nil, hs, hx, hr]
  exact hK _ _ h
theorem clone_app (w : World) (q : Nat) (ad : Option Addr) (cap : Nat) (l : List Sw) (hl : l.length ≤ 1000000) (hcap : l.length ≤ cap) (hn : ad ≠ none) (h : SlAt w ad l) :
    ∃ ad' cap' w', (∀ ty, (Builtin.append_ #[50, 50] ty #[.slice (some ⟨q, 0, none⟩) 0 0, .slice ad l.length cap]).run Tryd.prog w = .ok (.slice ad' l.length cap') w') ∧ l.length ≤ cap' ∧ Below w.heap.size w w' ∧ SlNew w.heap.size w' ad' l := by
  obtain ⟨i0, hi, hz0, hz1, hz2⟩ := info_parts info90
  rcases h with rfl | ⟨g, rfl, hr⟩
  · obtain ⟨a, rfl⟩ := Option.ne_none_iff_exists'.1 hn
    refine ⟨_, _, _, fun ty => run_append_nothing w 50 50 ty 90 i0 Tryd.underlying50 hi (some ⟨q, 0, none⟩) 0 0 (Nat.le_refl _) _ (Src.ofSlice w Tryd.underlying50 a 0 cap [] (by simp) (fun j u hu => (by simp at hu)) (fun u hu => (by simp at hu))), Nat.le_refl _, Below.refl _ _, .inl rfl⟩
  · by_cases h0 : l = []
    · subst h0
      refine ⟨_, _, _, fun ty => run_append_nothing w 50 50 ty 90 i0 Tryd.underlying50 hi (some ⟨q, 0, none⟩) 0 0 (Nat.le_refl _) _ (Src.ofSlice w Tryd.underlying50 ⟨g, 0, none⟩ 0 cap [] (by simp) (fun j u hu => (by simp at hu)) (fun u hu => (by simp at hu))), Nat.le_refl _, Below.refl _ _, .inl rfl⟩
    · have hp : 0 < l.length := List.length_pos_iff.2 h0
      have hrun := fun ty => run_append_grow (P := Tryd.prog) w 50 ty 90 i0 _ Tryd.underlying50 hi hz0 ⟨q, 0, none⟩ 0 0 [] (by simp) (fun j u hu => (by simp at hu)) ⟨g, 0, none⟩ l.length cap (swRow l) (by rw [swRow_length, hz1]) (fun j u hu => by rw [add_off, Nat.zero_add]; exact hr.row j u hu) (by omega) (by omega) (growslice_fits (by omega) (by rw [hz2]; omega))
      have hge := grownCap_ge w (0 + l.length) 0 90
      simp only [Nat.zero_add] at hrun hge
      refine ⟨_, _, _, hrun, hge, ?_, .inr ⟨w.heap.size, rfl, Nat.le_refl _, rw_of (by simp) fun j u hj => ?_⟩⟩
      · exact (Below.refl w.heap.size w).drew.alloc (Nat.le_refl _) _
      · have hlt := (List.getElem?_eq_some_iff.1 hj).1
        rw [show w.heap.size = w.drew.heap.size from rfl, World.cell?_alloc_new]
        rw [Array.getElem?_append_left (by simp; exact hlt)]
        rw [← hj]
        simp
theorem eq50_no (a : Addr) (n c : Nat) (w : World) : (binOp .eql 50 (.slice (some a) n c) (.slice none 0 0)).run Tryd.prog w = .ok (.bool false) w := by kernel_rfl
theorem eq50_nil (n c : Nat) (w : World) : (binOp .eql 50 (.slice none n c) (.slice none 0 0)).run Tryd.prog w = .ok (.bool true) w := by kernel_rfl
def IsSl (B : Nat) (l : List Sw) (e : Ending) (w' : World) : Prop := ∃ ad cap, e = .returned (.slice ad l.length cap) ∧ l.length ≤ cap ∧ SlNew B w' ad l
theorem clone_any (w : World) (ad : Option Addr) (cap : Nat) (l : List Sw) (hl : l.length ≤ 1000000) (hcap : l.length ≤ cap) (h : SlAt w ad l) :
    Calls Tryd.prog 53 #[.slice ad l.length cap] w fun e w' => IsSl w.heap.size l e w' ∧ Below w.heap.size w w' := by
  cases ad with
  | none =>
    have h0 : l = [] := by
      rcases h with e | ⟨g, e, _⟩
      · exact e
      · cases e
    subst h0
    clear h
    have h1 := eq50_nil
    go_enter Tryd.func53, Tryd.ntmps53
    go_wp2
    go_ret
    exact ⟨⟨none, 0, rfl, Nat.le_refl _, .inl rfl⟩, Below.refl _ _⟩
  | some a =>
    have hb := (Below.refl w.heap.size w).alloc (Nat.le_refl _) (.cells #[] 90)
    have HA := Lib.hid (clone_app (w.alloc (.cells #[] 90)) w.heap.size (some a) cap l hl hcap (by simp) (h.imp id fun ⟨g, e, hr⟩ => ⟨g, e, hr.same hb.size (hb.block g hr.lt)⟩))
    have HB := Lib.hid hb
    have h1 := eq50_no a
    clear h hb hl hcap
    obtain ⟨ad', cap', w2, hrun, h2, h3, h4⟩ := HA.out
    have HE : Hid (IsSl w.heap.size l (.returned (.slice ad' l.length cap')) w2 ∧ Below w.heap.size w w2) :=
      ⟨⟨ad', cap', rfl, h2, h4.imp id fun ⟨g, e, k, r⟩ => ⟨g, e, Nat.le_trans HB.out.size k, r⟩⟩, HB.out.trans (h3.mono HB.out.size)⟩
    clear h2 h3 h4 HA HB
    generalize l.length = n at *
    have HR := Lib.hid hrun
    clear hrun
    go_enter Tryd.func53, Tryd.ntmps53
    go_wp2_with (at_builtin; refine append_run rfl (.tmp 5) (.tmp 6) 50 rfl _ _ _ _ rfl rfl HR.out ?_)
    go_ret
    exact HE.out
end Go.Proofs.YteiikkkcjpfapaaDoor
