/- What Fell comes to: all that is behind an age is taken. Conditions: at most 600000 asks; so many ages at most as are told; an error is met at the first age alone. -/
import Derived.Test.YtbcpdkmbbgcfbaaDoorNm
namespace Go.Proofs.YtbcpdkmbbgcfbaaDoor
open Go.RowKit Go.Op
set_option maxRecDepth 100000
attribute [local go_sem] Oper.semAt_some

def fellF (x : List Int × Int) (sp : Sp) (err : Int) : Option (Bool × (List Int × Int)) := if err = 0 then (if x.1.length ≤ 900000 then some (true, (x.1 ++ [sp.h, sp.a.pv], 0)) else none) else if x.1 = [] then some (false, ([], err)) else none
/-- None: more ages than so many, or an error behind the first one. -/
def fellP (n : Nat) (h : Int) : Pr (Option (List Int × Int)) := if h = 0 then .ret (some ([], 0)) else (chainP takenP fellF n h ([], 0)).bind fun o => .ret (o.map Prod.snd)
def RFell (G' : List (Nat × List Value)) (a : Option (List Int × Int)) (v : Value) : Prop := ∃ x, ∃ sl : Sl, a = some x ∧ sl.In G' (ints x.1) ∧ v = .tuple #[.slice sl.a sl.n sl.cap, .int .i64 x.2]
theorem takenP_count (k : Int) (s : Pt) (m : M) : ((takenP k).run s m).2.2.count ≤ m.count + 2 := by
  rw [takenP, Pr.run_ask]
  have h := ask_count s (.word k) m
  rcases ha : s.ask (.word k) m with ⟨_ | a, s', m'⟩
  all_goals rw [ha] at h
  · simp only at h ⊢; omega
  · simp only at h ⊢
    split
    · rw [Pr.run_ask]
      have h2 := ask_count s' (.swap k a.n 0) m'
      rcases hb : s'.ask (.swap k a.n 0) m' with ⟨_ | x, s2, m2⟩
      all_goals rw [hb] at h2
      · simp only at h2 ⊢; omega
      · simp only at h2 ⊢
        split <;> simp only [Pr.run] <;> omega
    · simp only [Pr.run]; omega
theorem append_runI2 {F : Fence} {n : Nat} {P : Program} {w : World} {ops : Array Oper} {rest : List Oper} {o : Oper} {a : Act} {Q : Exit → Act → World → Prop} {v y : Value} {R : Value → World → Prop} (hgd : o.guard = none) (s x : Operand) (t : TypeId)
    (ho : o.op = .call { callee := .builtin .append, args := #[s, x], argTypes := #[t, t] }) (hs : a.eval s = v) (hx : a.eval x = y)
    (hr : ∀ ty, ∃ u w', (Builtin.append_ #[t, t] ty #[v, y]).run P w = .ok u w' ∧ R u w') (h : ∀ u w', R u w' → wpListIn F n P ops Q rest (a.put o.dst u) w') : wpListIn F n P ops Q (o :: rest) a w := by
  refine wpListIn_plain hgd fun K hK => ?_
  obtain ⟨u, w', h1, h2⟩ := hr o.type
  unfold Oper.wpIn
  refine ⟨?_, ?_⟩
  · simp [Oper.about, ho, resolve, Target.leads, Sem.run_pure]
  · rw [Oper.semAt_plain F _ _ (by rw [ho]; intro c hc'; cases hc')]
    simp [execOp, ho, resolve, invoke, builtin, hs, hx, h1, Result.andThen]
    exact hK _ _ (h u w' h2)
theorem putBack_one (w : World) (p : Addr) (a : Option Addr) (cap : Nat) : Calls Tryd.prog 53 #[.pointer (some p), .slice a 1 cap] w fun e w' => e = .returned (.tuple #[]) ∧ w = w' := by
  go_enter Tryd.func53, Tryd.ntmps53
  go_wp2_with fail
  go_loopw [4] (fun iv wr => iv = .int .i64 2 ∧ w = wr) (fun _ _ => 0)
  case atStart => exact ⟨rfl, rfl⟩
  case round =>
    obtain ⟨rfl, rfl⟩ := hrel
    go_wp2
    exact bodyPost_end (results_none rfl _ _ _) rfl ⟨rfl, rfl⟩
theorem he50 (zs : Array Value) (w : World) : (callFunc 50 zs).run Tryd.prog w = .ok (.enter 50 zs) w := by kernel_rfl
theorem SVar.loadSl {w : World} {z : Nat} {a : Option Addr} {n cap : Nat} (h : SVar w z [.slice a n cap]) : (Go.loadVar 25 ⟨z, 0, none⟩).run Tryd.prog w = .ok (.slice a n cap) w := by
  have := h.cell (i := 0) rfl
  go_simp
section
variable {w0 : World} {b c r pb po : Nat} {t t1 : Value} {G G1 : List (Nat × List Value)} {w w1 w2 : World} {m m1 : M} {s s1 : Pt}
/-- Fell's list. -/
def CellsV (w0 : World) (b c r pb : Nat) (t : Value) (G : List (Nat × List Value)) (W : World) (z B : Nat) (l : List Int) : Prop :=
  Loc w0 b c r pb t G W z ∧ l.length ≤ 900002 ∧ ∃ a cap, SVar W z [.slice a l.length cap] ∧ ORow w0 b c r pb t G W (.slice a l.length cap) l ∧ ∀ g o, a = some ⟨g, o, none⟩ → B + 2 ≤ g
theorem CellsV.aft {z B : Nat} {l : List Int} (h : CellsV w0 b c r pb t G w z B l) (ha : Aft w0 b c r pb po t G w t1 G1 w1 m1 s1) : CellsV w0 b c r pb t1 G1 w1 z B l := by
  obtain ⟨h1, hle, a, cap, h2, h3, h4⟩ := h
  exact ⟨(h1.aft ha).1, hle, a, cap, h2.same ha.but.size (h1.aft ha).2, h3.aft ha, h4⟩
theorem CellsV.but {z B y : Nat} {l : List Int} (h : CellsV w0 b c r pb t G w z B l) (hb : But y w w1) (hz : z ≠ y) (hy : y < B + 2) : CellsV w0 b c r pb t G w1 z B l := by
  obtain ⟨h1, hle, a, cap, h2, h3, h4⟩ := h
  exact ⟨h1.same hb.size, hle, a, cap, h2.same hb.size (hb.block z h2.lt hz), h3.same fun g e => ⟨(h3.loc g e).same hb.size, hb.block g (h3.loc g e).lt (by
    cases a with
    | none => cases e
    | some ad =>
      have e2 : ad.block = g := Option.some.inj e
      obtain ⟨g', o', u⟩ := ad
      have hown := h3.own.2
      rcases hown with ⟨e4, -⟩ | ⟨g2, c2, cur, e4, -⟩
      · cases e4
      · cases e4
        have := h4 g' _ rfl
        simp only at e2
        omega)⟩, h4⟩
/-- Two variables of one cell are stored into. -/
theorem put2c {t2 : Value} {G2 : List (Nat × List Value)} {m2 : M} {s2 : Pt} {W : World} {z6 z7 : Nat} {u0 u : Value} {k : Int} (hA : Aft w0 b c r pb po t G w t2 G2 W m2 s2) (l6 : Loc w0 b c r pb t2 G2 W z6) (v6 : SVar W z6 [u0]) (l7 : Loc w0 b c r pb t2 G2 W z7) (v7 : SVar W z7 [.int .i64 k]) (hne : z6 ≠ z7) (h6 : w.heap.size ≤ z6) (h7 : w.heap.size ≤ z7) (e : Int) :
    Put2 w0 b c r pb po t G w t2 G2 m2 s2 W z6 z7 [u] k e (W.setCell ⟨z6, 0, none⟩ u) ((W.setCell ⟨z6, 0, none⟩ u).setCell ⟨z7, 0, none⟩ (.int .i64 e)) := by
  have b6 : But z6 W (W.setCell ⟨z6, 0, none⟩ u) := (But.refl _ _).set _ _
  have b7 : But z7 (W.setCell ⟨z6, 0, none⟩ u) ((W.setCell ⟨z6, 0, none⟩ u).setCell ⟨z7, 0, none⟩ (.int .i64 e)) := (But.refl _ _).set _ _
  have q6 : SVar (W.setCell ⟨z6, 0, none⟩ u) z6 [u] := v6.set (i := 0) (by simp) _
  have q7 := v7.same b6.size (b6.block _ v7.lt (Ne.symm hne))
  exact ⟨(hA.aside b6 l6 h6).aside b7 (l7.same b6.size) h7, q6.same b7.size (b7.block _ q6.lt hne), q7.set (i := 0) (by simp) _, (l6.same b6.size).same b7.size, (l7.same b6.size).same b7.size, q7, Nat.le_trans b6.size b7.size, fun z h1 h2 h3 => (b7.block z (Nat.lt_of_lt_of_le h3 b6.size) h2).trans (b6.block z h3 h1)⟩
theorem ORow.app2 {v : Value} {l : List Int} (h : ORow w0 b c r pb t1 G1 w1 v l) (hs : Aft w0 b c r pb po t G w t1 G1 w1 m1 s1) (hv : ∀ z, v.ownBlock = some z → w.heap.size ≤ z) (ad : Addr) (cap : Nat) (k : List Int) (hk : ∀ j u, (ints k)[j]? = some u → w1.cell? (ad.add j) = some u) (hl : l.length + k.length ≤ 1000000) (ty : TypeId) :
    ∃ v' w2, (Builtin.append_ #[25, 25] ty #[v, .slice (some ad) k.length cap]).run Tryd.prog w1 = .ok v' w2 ∧ Aft w0 b c r pb po t G w t1 G1 w2 m1 s1 ∧ ORow w0 b c r pb t1 G1 w2 v' (l ++ k) ∧ (∀ z, v'.ownBlock = some z → v.ownBlock = some z ∨ z = w1.heap.size) ∧ w1.heap.size ≤ w2.heap.size ∧ ∀ z, z < w1.heap.size → v.ownBlock ≠ some z → w2.heap[z]? = w1.heap[z]? := by
  obtain ⟨i0, hi, hz0, hz1, hz2⟩ := info_parts info3
  obtain ⟨m0, s0, q1, q2⟩ := id hs.sys
  have hB := q1.has.below.size
  obtain ⟨v', w', hr, ho, hg, _, hn⟩ := run_append_own_at w1 w0.heap.size 25 ty 3 i0 _ 1 8 Tryd.underlying25 hi hz0 hz1 hz2 rfl (by decide) v _ _ h.own ad k.length cap (ints k) (by rw [ints_length]; omega) hk (ints_one k) (by unfold maxLen; omega) (by omega) hB
  have hsz := hg.size
  have hA : Aft w0 b c r pb po t G w t1 G1 w' m1 s1 := by
    cases hvb : v.ownBlock with
    | none => exact hs.later ⟨hg.os, hg.tape, hg.output, hg.size, fun k hk => hg.block k hk (by rw [hvb]; intro e; cases e)⟩
    | some z => exact hs.aside (z := z) ⟨hg.os, hg.tape, hg.output, hg.size, fun k hk hz => hg.block k hk (by rw [hvb]; intro e; cases e; exact hz rfl)⟩ (h.loc z hvb) (hv z hvb)
  refine ⟨v', w', hr, hA, ⟨?_, fun g e => ?_⟩, fun z e => ?_, hsz, fun z hz hne => hg.block z hz (fun e => hne e.symm)⟩
  · have := ho
    rw [show ints l ++ ints k = ints (l ++ k) by simp [ints]] at this
    rw [List.length_append]; exact this
  · rcases hn with e2 | e2
    · exact (h.loc g (e2 ▸ e)).same hsz
    · rw [e2] at e
      cases e
      have o := q1.has.at_.own
      have h2 := q1.pt.lt
      have h3 := o.lb
      have h4 := o.lc
      have h5 := o.lr
      exact ⟨(World.ownsRow.lt ho _ e2).2, hB, ⟨by omega, by omega, by omega, by omega⟩, fun e => by
        have := (World.ownsRow.lt q1.pt.own _ e).2
        omega, fun x hx e => by
        have := (q1.rows x.1 x.2 hx).1.lt
        omega⟩
  · rcases hn with e2 | e2
    · exact .inl (e2 ▸ e)
    · rw [e2] at e
      cases e
      exact .inr rfl
/-- What an append to Fell's list comes to. -/
structure Pushed (w0 : World) (b c r pb po : Nat) (t : Value) (G : List (Nat × List Value)) (w : World) (t2 : Value) (G2 : List (Nat × List Value)) (m2 : M) (s2 : Pt) (W : World) (z B : Nat) (g : Option Nat) (l k : List Int) (v' : Value) (w2 : World) : Prop where
  aft : Aft w0 b c r pb po t G w t2 G2 w2 m2 s2
  row : ORow w0 b c r pb t2 G2 w2 v' (l ++ k)
  own : ∀ y, v'.ownBlock = some y → B + 2 ≤ y ∧ w.heap.size ≤ y
  size : W.heap.size ≤ w2.heap.size
  same : ∀ y, y < W.heap.size → g ≠ some y → w2.heap[y]? = W.heap[y]?
theorem CellsV.push {t2 : Value} {G2 : List (Nat × List Value)} {m2 : M} {s2 : Pt} {W Wa : World} {z B : Nat} {l : List Int} (h : CellsV w0 b c r pb t2 G2 W z B l) (hb : CellsV w0 b c r pb t2 G2 Wa z B l) (hz : W.heap[z]? = Wa.heap[z]?) (hA : Aft w0 b c r pb po t G w t2 G2 W m2 s2) (hB : w.heap.size ≤ B) (hBW : B + 2 ≤ W.heap.size) (k : List Int) (hk : k.length ≤ 2) (hl : l.length ≤ 900000) :
    ∃ a cap g, SVar W z [.slice a l.length cap] ∧ (∀ y, g = some y → B + 2 ≤ y ∧ y < Wa.heap.size) ∧ ∀ ty, ∃ v' w2, (Builtin.append_ #[25, 25] ty #[.slice a l.length cap, .slice (some ⟨W.heap.size, 0, none⟩) k.length k.length]).run Tryd.prog (W.alloc (.cells (ints k).toArray 3)) = .ok v' w2 ∧ Pushed w0 b c r pb po t G w t2 G2 m2 s2 W z B g l k v' w2 := by
  obtain ⟨h1, -, a, cap, h2, h3, h4⟩ := h
  obtain ⟨g1, -, a', cap', g2, g3, g4⟩ := hb
  have e : (Value.slice a l.length cap) = .slice a' l.length cap' := by
    have q1 := h2.cell (i := 0) rfl
    have q2 := g2.cell (i := 0) rfl
    rw [World.cell?_of_block (w := Wa) (a := ⟨z, 0, none⟩) hz, q2] at q1
    exact (Option.some.inj q1).symm
  have hb2 : Below W.heap.size W (W.alloc (.cells (ints k).toArray 3)) := (Below.refl _ W).alloc (Nat.le_refl _) _
  have hown : ∀ y, (Value.slice a l.length cap).ownBlock = some y → B + 2 ≤ y ∧ y < Wa.heap.size := fun y hy => by
    refine ⟨?_, (g3.loc y (by rw [← e]; exact hy)).lt⟩
    cases a with
    | none => cases hy
    | some ad =>
      have e2 : ad.block = y := Option.some.inj hy
      have hown := h3.own.2
      rcases hown with ⟨e4, -⟩ | ⟨g', c2, cur, e4, -⟩
      · cases e4
      · cases e4
        have := h4 g' _ rfl
        simp only at e2
        omega
  refine ⟨a, cap, (Value.slice a l.length cap).ownBlock, h2, hown, fun ty => ?_⟩
  obtain ⟨v', w2, hr, q1, q2, q3, q4, q5⟩ := (h3.later hb2).app2 (hA.later hb2) (fun y hy => by have := (hown y hy).1; omega) ⟨W.heap.size, 0, none⟩ k.length k (fun j u hu => by
    rw [add_off, Nat.zero_add]
    exact (snew W (ints k) 3).cell hu) (by omega) ty
  have hsz := hb2.size
  refine ⟨v', w2, hr, q1, q2, fun y hy => ?_, Nat.le_trans hsz q4, fun y hy hg => (q5 y (by omega) hg).trans (hb2.block y hy)⟩
  rcases q3 y hy with q | q
  · have := (hown y q).1
    exact ⟨this, by omega⟩
  · rw [q]
    have := hA.but.size
    simp only [World.size_alloc]
    omega
attribute [-go_sem] Builtin.append_
set_option maxHeartbeats 2000000 in
theorem Fell_E (h : SysE w0 b c r pb po t G w m s) (n : Nat) (hc : m.count + 3 * (n : Int) ≤ 600000) (k : Int) (hne : ((fellP n k).run s m).1 ≠ some none) :
    Calls Tryd.prog 24 #[.pointer (some ⟨pb, po, none⟩), .int .i64 k] w fun e w' => Ev w0 b c r pb po t G w RFell ((fellP n k).run s m) e w' := by
  obtain ⟨wa, hwa⟩ : ∃ W, W = ((w.alloc (.cells #[.pointer (some ⟨pb, po, none⟩)] 34)).alloc (.cells #[.slice none 0 0] 25)).alloc (.cells #[.int .i64 0] 43) := ⟨_, rfl⟩
  have ba : Below w.heap.size w wa := by
    rw [hwa]
    exact ((((Below.refl _ w).alloc (Nat.le_refl _) _).alloc (by simp) _).alloc (by simp; omega) _)
  have hza : wa.heap.size = w.heap.size + 3 := by rw [hwa]; simp
  have V1 := (Vars.nil (w := w)).new h [.pointer (some ⟨pb, po, none⟩)] 34
  have h1 := h.later ((Below.refl w.heap.size w).alloc (Nat.le_refl _) (.cells [Value.pointer (some ⟨pb, po, none⟩)].toArray 34))
  have V2 := V1.new h1 [.slice none 0 0] 25
  have h2 := h1.later ((Below.refl _ _).alloc (Nat.le_refl _) (.cells [Value.slice none 0 0].toArray 25))
  have V3 := V2.new h2 [.int .i64 0] 43
  simp only [World.size_alloc] at V3
  have e3 : (((w.alloc (.cells [Value.pointer (some ⟨pb, po, none⟩)].toArray 34)).alloc (.cells [Value.slice none 0 0].toArray 25)).alloc (.cells [Value.int .i64 0].toArray 43)) = wa := hwa.symm
  rw [e3] at V3
  have ha := (Aft.refl h).later ba
  by_cases hk : k = 0
  · subst hk
    have v4 := (V3 (w.heap.size + 1, [.slice none 0 0]) (by simp)).2
    have v5 := (V3 (w.heap.size + 1 + 1, [.int .i64 0]) (by simp)).2
    have l4 := (V3 (w.heap.size + 1, [.slice none 0 0]) (by simp)).1
    have l5 := (V3 (w.heap.size + 1 + 1, [.int .i64 0]) (by simp)).1
    have b4 : But (w.heap.size + 1) wa (wa.setCell ⟨w.heap.size + 1, 0, none⟩ (.slice none 0 0)) := (But.refl _ _).set _ _
    have b5 : But (w.heap.size + 1 + 1) (wa.setCell ⟨w.heap.size + 1, 0, none⟩ (.slice none 0 0)) ((wa.setCell ⟨w.heap.size + 1, 0, none⟩ (.slice none 0 0)).setCell ⟨w.heap.size + 1 + 1, 0, none⟩ (.int .i64 0)) := (But.refl _ _).set _ _
    have q4 : SVar (wa.setCell ⟨w.heap.size + 1, 0, none⟩ (.slice none 0 0)) (w.heap.size + 1) [.slice none 0 0] := v4.set (i := 0) (by simp) _
    have q5 := v5.same b4.size (b4.block _ v5.lt (by simp only; omega))
    have HX : Hid (Ev w0 b c r pb po t G w RFell ((fellP n 0).run s m) (.returned (.tuple #[.slice none 0 0, .int .i64 0])) ((wa.setCell ⟨w.heap.size + 1, 0, none⟩ (.slice none 0 0)).setCell ⟨w.heap.size + 1 + 1, 0, none⟩ (.int .i64 0)) ∧ (Go.loadVar 25 ⟨w.heap.size + 1, 0, none⟩).run Tryd.prog ((wa.setCell ⟨w.heap.size + 1, 0, none⟩ (.slice none 0 0)).setCell ⟨w.heap.size + 1 + 1, 0, none⟩ (.int .i64 0)) = .ok (.slice none 0 0) ((wa.setCell ⟨w.heap.size + 1, 0, none⟩ (.slice none 0 0)).setCell ⟨w.heap.size + 1 + 1, 0, none⟩ (.int .i64 0)) ∧ (Go.loadVar 43 ⟨w.heap.size + 1 + 1, 0, none⟩).run Tryd.prog ((wa.setCell ⟨w.heap.size + 1, 0, none⟩ (.slice none 0 0)).setCell ⟨w.heap.size + 1 + 1, 0, none⟩ (.int .i64 0)) = .ok (.int .i64 0) ((wa.setCell ⟨w.heap.size + 1, 0, none⟩ (.slice none 0 0)).setCell ⟨w.heap.size + 1 + 1, 0, none⟩ (.int .i64 0))) :=
      ⟨Ev.ret (a := some ([], 0)) (by rw [fellP, if_pos rfl]; simp only [Pr.run]) ⟨_, .nil, rfl, Sl.In.nil, rfl⟩ ((ha.aside b4 l4 (by omega)).aside b5 (l5.same b4.size) (by omega)), SVar.loadSl (q4.same b5.size (b5.block _ q4.lt (by omega))), SVar.loadInt (q5.set (i := 0) (by simp) _)⟩
    have c4 := v4.cell (i := 0) rfl
    have f4 := v4.fz
    have c5 := v5.cell (i := 0) rfl
    have f5 := v5.fz
    have HW := Lib.hid hwa.symm
    clear h hwa ba hza V1 h1 V2 h2 V3 e3 ha hne hc v4 v5 l4 l5 b4 b5 q4 q5
    refine (callsIn_wide (n := 0)).1 (callsIn_of_wp_marks Tryd.func24 rfl trivial ?_ rfl)
    simp only [Tryd.ntmps24, List.size_toArray, List.length_cons, List.length_nil, Nat.reduceAdd, Nat.reduceSub, Array.replicate_succ, Array.replicate_zero, List.push_toArray, List.append_toArray, List.nil_append, List.cons_append]
    gi_wp2_with (first | rw [HW.out] | fail)
    exact ⟨_, res_cc Tryd.results24 rfl rfl HX.out.2.1 HX.out.2.2, HX.out.1⟩
  · have hk0 : (k == 0) = false := by simpa using hk
    have HW := Lib.hid hwa.symm
    have c2 := (V3 (w.heap.size, [.pointer (some ⟨pb, po, none⟩)]) (by simp)).2.cell (i := 0) rfl
    have V4 := V3.new ha.sys [.slice none 0 0] 25
    have h3 := ha.later ((Below.refl wa.heap.size wa).alloc (Nat.le_refl _) (.cells [Value.slice none 0 0].toArray 25))
    obtain ⟨wb, hwb⟩ : ∃ W, W = wa.alloc (.cells #[.slice none 0 0] 25) := ⟨_, rfl⟩
    have e4 : wa.alloc (.cells [Value.slice none 0 0].toArray 25) = wb := hwb.symm
    rw [e4] at V4 h3
    have hzb : wb.heap.size = w.heap.size + 4 := by rw [hwb]; simp [hza]
    have hch := chain_E wb ⟨pb, po, none⟩ k 50 #[] #[.pointer (some ⟨w.heap.size, 0, none⟩)]
    obtain ⟨wc, hwc⟩ : ∃ W, W = ((wb.alloc (.cells #[.pointer (some ⟨pb, po, none⟩)] 34)).alloc (.cells #[.int .i64 k] 3)).alloc (.cells #[.func (.func 50) #[] #[.pointer (some ⟨w.heap.size, 0, none⟩)]] 73) := ⟨_, rfl⟩
    have bb : Below wb.heap.size wb wc := by
      rw [hwc]
      exact ((((Below.refl _ wb).alloc (Nat.le_refl _) _).alloc (by simp) _).alloc (by simp; omega) _)
    have U1 := V4.new h3.sys [.pointer (some ⟨pb, po, none⟩)] 34
    have g1 := h3.sys.later ((Below.refl wb.heap.size wb).alloc (Nat.le_refl _) (.cells [Value.pointer (some ⟨pb, po, none⟩)].toArray 34))
    have U2 := U1.new g1 [.int .i64 k] 3
    have g2 := g1.later ((Below.refl _ _).alloc (Nat.le_refl _) (.cells [Value.int .i64 k].toArray 3))
    have U3 := U2.new g2 [.func (.func 50) #[] #[.pointer (some ⟨w.heap.size, 0, none⟩)]] 73
    simp only [World.size_alloc] at U3
    have e5 : (((wb.alloc (.cells [Value.pointer (some ⟨pb, po, none⟩)].toArray 34)).alloc (.cells [Value.int .i64 k].toArray 3)).alloc (.cells [Value.func (.func 50) #[] #[.pointer (some ⟨w.heap.size, 0, none⟩)]].toArray 73)) = wc := hwc.symm
    rw [e5] at U3
    have hac := h3.later bb
    have hzc : wb.heap.size + 3 = wc.heap.size := by rw [hwc]; simp
    have hm := hmf
    have c2b : wb.cell? ⟨w.heap.size, 0, none⟩ = some (.pointer (some ⟨pb, po, none⟩)) := (V4 (w.heap.size, [.pointer (some ⟨pb, po, none⟩)]) (by simp)).2.cell (i := 0) rfl
    have HA := Lib.hid hac
    have HU := Lib.hid U3
    have HWb := Lib.hid hwb.symm
    have HWc := Lib.hid hwc
    have HZa := Lib.hid hza
    have HZb := Lib.hid hzb
    have HZc := Lib.hid hzc
    clear h hwa ba hza V1 h1 V2 h2 V3 e3 ha hwb V4 h3 e4 hzb hwc bb U1 g1 U2 g2 U3 e5 hac hzc
    refine (callsIn_wide (n := 0)).1 (callsIn_of_wp_marks Tryd.func24 rfl trivial ?_ rfl)
    simp only [Tryd.ntmps24, List.size_toArray, List.length_cons, List.length_nil, Nat.reduceAdd, Nat.reduceSub, Array.replicate_succ, Array.replicate_zero, List.push_toArray, List.append_toArray, List.nil_append, List.cons_append]
    gi_wp2_with (first | rw [HW.out] | rw [HWb.out] | fail)
    refine ⟨trivial, rfl, (callsIn_wide.2 hch).mono ?_⟩
    rintro e w2 ⟨rfl, rfl⟩
    rw [← HWc.out]
    clear hch
    gi_wp2_with fail
    obtain ⟨L, hL⟩ : ∃ L : List (Nat × List Value), L = [(w.heap.size, [.pointer (some ⟨pb, po, none⟩)]), (w.heap.size + 1, [.slice none 0 0]), (w.heap.size + 1 + 1, [.int .i64 0]), (wb.heap.size, [.pointer (some ⟨pb, po, none⟩)]), (wb.heap.size + 2, [.func (.func 50) #[] #[.pointer (some ⟨w.heap.size, 0, none⟩)]])] := ⟨_, rfl⟩
    have hUL : Vars w0 b c r pb t G wc L := HU.out.sub (fun x hx => by
      rw [hL] at hx
      simp only [List.mem_cons, List.not_mem_nil, or_false] at hx ⊢
      rcases hx with rfl | rfl | rfl | rfl | rfl <;> simp)
    have hlt : ∀ x, x ∈ L → x.1 < wc.heap.size := fun x hx => (hUL x hx).2.lt
    have hm2 : (w.heap.size, [Value.pointer (some ⟨pb, po, none⟩)]) ∈ L := by rw [hL]; simp
    have hm4 : (w.heap.size + 1, [Value.slice none 0 0]) ∈ L := by rw [hL]; simp
    have hm5 : (w.heap.size + 1 + 1, [Value.int .i64 0]) ∈ L := by rw [hL]; simp
    have hmp : (wb.heap.size, [Value.pointer (some ⟨pb, po, none⟩)]) ∈ L := by rw [hL]; simp
    have hmn : (wb.heap.size + 2, [Value.func (.func 50) #[] #[.pointer (some ⟨w.heap.size, 0, none⟩)]]) ∈ L := by rw [hL]; simp
    have hh : wc.cell? ⟨wb.heap.size + 1, 0, none⟩ = some (.int .i64 k) := (HU.out (wb.heap.size + 1, [.int .i64 k]) (by simp)).2.cell (i := 0) rfl
    have hcv := HU.out (wa.heap.size, [.slice none 0 0]) (by simp)
    have hI0 : CellsV w0 b c r pb t G wc wa.heap.size wc.heap.size [] := ⟨hcv.1, by simp, none, 0, hcv.2, ORow.nil _, fun g o e => (by cases e)⟩
    have hneL : ∀ x, x ∈ L → x.1 ≠ wa.heap.size := fun x hx => by
      have e1 := HZa.out
      have e2 := HZb.out
      rw [hL] at hx
      simp only [List.mem_cons, List.not_mem_nil, or_false] at hx
      rcases hx with rfl | rfl | rfl | rfl | rfl <;> simp only <;> omega
    clear hL hcv
    have hza := HZa.out
    have hzb := HZb.out
    have hzc := HZc.out
    have hrw : ∀ o, (chainP takenP fellF n k ([], 0)).run s m = o → (fellP n k).run s m = (match o with
        | (some o, s', m') => (some (o.map Prod.snd), s', m')
        | (none, s', m') => (none, s', m')) := by
      intro o ho
      rw [fellP, if_neg hk, Pr.run_bind, ho]
      rcases o with ⟨_ | o, s', m'⟩
      · rfl
      · rfl
    have HRw := Lib.hid hrw
    clear hrw
    refine wp_chain (w0 := w0) (b := b) (c := c) (r := r) (pb := pb) (po := po) (t := t) (G := G) (w := w) (σ := List Int × Int) takenP fellF 50 #[] #[.pointer (some ⟨w.heap.size, 0, none⟩)] rfl rfl HA.out
      (fun x t2 G2 W => x.2 = 0 ∧ Vars w0 b c r pb t2 G2 W L ∧ CellsV w0 b c r pb t2 G2 W wa.heap.size wc.heap.size x.1)
      (fun x t2 G2 W => x.1 = [] ∧ Vars w0 b c r pb t2 G2 W [(w.heap.size + 1, [.slice none 0 0]), (w.heap.size + 1 + 1, [.int .i64 x.2])])
      (fun x t2 G2 W t3 G3 m3 s3 W' ⟨e, V, C⟩ ha => ⟨e, V.aft ha, C.aft ha⟩)
      (fun x t2 G2 W W' z ⟨e, V, C⟩ hb hz2 => ⟨e, V.but hb fun y hy => by have := hlt y hy; rcases hz2 with e2 | e2 <;> rw [e2] <;> omega, C.but hb (by rcases hz2 with e2 | e2 <;> rw [e2] <;> omega) (by rcases hz2 with e2 | e2 <;> rw [e2] <;> omega)⟩)
      (fun x t2 G2 W W' z ⟨e, V⟩ hb hz2 => ⟨e, V.but hb fun y hy => by
        simp only [List.mem_cons, List.not_mem_nil, or_false] at hy
        rcases hy with rfl | rfl <;> rcases hz2 with e2 | e2 <;> rw [e2] <;> simp only <;> omega⟩)
      (fun x t2 G2 W ⟨e, V, C⟩ => ⟨(V _ hmp).2.cell (i := 0) rfl, (V _ hmn).2.cell (i := 0) rfl⟩)
      (fun z sp q err => { tmps := #[.pointer (some ⟨pb, po, none⟩), .int .i64 k, .pointer (some ⟨w.heap.size, 0, none⟩), undef, .pointer (some ⟨w.heap.size + 1, 0, none⟩), .pointer (some ⟨w.heap.size + 1 + 1, 0, none⟩), .pointer (some ⟨wa.heap.size, 0, none⟩), .func (.func 50) #[] #[.pointer (some ⟨w.heap.size, 0, none⟩)], .pointer (some ⟨z, 0, none⟩), .int .i64 err, .int .i64 k, .bool false, .func (.func 50) #[] #[.pointer (some ⟨w.heap.size, 0, none⟩)], .pointer (some ⟨pb, po, none⟩), .int .i64 k, .func (.func 50) #[] #[.pointer (some ⟨w.heap.size, 0, none⟩)], .func (.func 69) #[] #[.pointer (some ⟨wb.heap.size + 1, 0, none⟩), .pointer (some ⟨wb.heap.size, 0, none⟩), .pointer (some ⟨wb.heap.size + 2, 0, none⟩)], sp.v q, .int .i64 err, undef, undef, undef, undef, undef, undef, undef, undef, undef, undef, undef, undef, undef, undef, undef, undef, undef, undef, undef], defers := [] })
      ?assign ?body he50 (fun k x t2 G2 m2 s2 W hS hI hcc => fell1_E hS hcc k w.heap.size ((hI.2.1 _ hm2).2.cell (i := 0) rfl)) takenP_count n k ([], 0) ⟨rfl, hUL, hI0⟩ hh (by omega) ?ne ?done ?stop ?halt
    case ne =>
      intro e
      rcases ho : (chainP takenP fellF n k ([], 0)).run s m with ⟨o, s', m'⟩
      rw [ho] at e
      cases o with
      | none => cases e
      | some o =>
        cases o with
        | none => exact hne (by rw [HRw.out _ ho]; rfl)
        | some o => cases e
    case assign =>
      intro l sp q err W K hK
      clear hza hzb hzc
      unfold Sp.v
      unfold Sp.v at hK
      simp only [Sp.row, Ag.row] at hK
      gi_wp2
      exact hK
    case body =>
      rintro l ⟨cs, e0⟩ sp q err y0 t2 G2 m2 s2 Wa W z hfy hA2 ⟨he0, Va, Ca⟩ ⟨-, V, C⟩ hsame hza' hBa hWW hv hin
      simp only at he0 Ca C
      subst he0
      by_cases herr : err = 0
      · subst herr
        rw [fellF, if_pos rfl] at hfy
        by_cases hlen : cs.length ≤ 900000
        · simp only [if_pos hlen] at hfy
          obtain rfl := Option.some.inj hfy
          clear hfy
          obtain ⟨a, cap, g, hcell, hg, happ⟩ := C.push Ca (hsame _ Ca.1.lt (by omega)) hA2 (by omega) (by omega) [sp.h, sp.a.pv] (by simp) hlen
          have c6 := hcell.cell (i := 0) rfl
          have f6 := hcell.fz
          have c80 := hv.cell (i := 0) rfl
          have c81 := hv.cell (i := 11) rfl
          have HPost : ∀ v' w2, Pushed w0 b c r pb po t G w t2 G2 m2 s2 W wa.heap.size wc.heap.size g cs [sp.h, sp.a.pv] v' w2 → w2.cell? ⟨wa.heap.size, 0, none⟩ = some (.slice a cs.length cap) ∧ (∀ i, w2.frozen? ⟨wa.heap.size, i, none⟩ = false) ∧ ((cs ++ [sp.h, sp.a.pv], (0 : Int)).2 = 0 ∧ Vars w0 b c r pb t2 G2 (w2.setCell ⟨wa.heap.size, 0, none⟩ v') L ∧ CellsV w0 b c r pb t2 G2 (w2.setCell ⟨wa.heap.size, 0, none⟩ v') wa.heap.size wc.heap.size (cs ++ [sp.h, sp.a.pv])) ∧ BKeep w0 b c r pb po t G w wc.heap.size t2 G2 m2 s2 Wa W (w2.setCell ⟨wa.heap.size, 0, none⟩ v') := by
            intro v' w2 hp
            have hgz : ∀ y, y < wc.heap.size + 2 → g ≠ some y := fun y hy e => by have := (hg y e).1; omega
            have hb6 : But wa.heap.size w2 (w2.setCell ⟨wa.heap.size, 0, none⟩ v') := (But.refl _ _).set _ _
            have hsz := hp.size
            have hold : ∀ y, y < wc.heap.size + 2 → y ≠ wa.heap.size → (w2.setCell ⟨wa.heap.size, 0, none⟩ v').heap[y]? = W.heap[y]? := fun y hy hne => (hb6.block y (by omega) hne).trans (hp.same y (by omega) (hgz y hy))
            have v6 := hcell.same hp.size (hp.same _ (by omega) (hgz _ (by omega)))
            have l6 := C.1.same hp.size
            have hA3 := hp.aft.aside hb6 l6 (by omega)
            have q6 : SVar (w2.setCell ⟨wa.heap.size, 0, none⟩ v') wa.heap.size [v'] := v6.set (i := 0) (by simp) _
            have hsz6 := hb6.size
            refine ⟨v6.cell (i := 0) rfl, v6.fz, ⟨rfl, fun x hx => ?_, ?_⟩, hA3, by omega, fun y h1 h2 => ?_⟩
            · have hx2 := hlt x hx
              have hne6 : x.1 ≠ wa.heap.size := hneL x hx
              exact ⟨((V x hx).1.same hp.size).same hsz6, (V x hx).2.same (by omega) (hold x.1 (by omega) hne6)⟩
            · obtain ⟨a', cap', e, -, -, h0⟩ := hp.row.val
              have hrow : ORow w0 b c r pb t2 G2 (w2.setCell ⟨wa.heap.size, 0, none⟩ v') v' (cs ++ [sp.h, sp.a.pv]) := hp.row.same fun y hy => ⟨(hp.row.loc y hy).same hsz6, hb6.block y (hp.row.loc y hy).lt (by have := (hp.own y hy).1; omega)⟩
              refine ⟨l6.same hsz6, by rw [List.length_append]; simp only [List.length_cons, List.length_nil]; omega, a', cap', ?_, ?_, fun y o e2 => ?_⟩
              · rw [← e]; exact q6
              · rw [← e]; exact hrow
              · refine (hp.own y ?_).1
                rw [e, e2, h0 y o e2]
                rfl
            · refine (hb6.block y (by omega) (by omega)).trans (hp.same y h2 fun e => ?_)
              have := hg y e
              omega
          have HP := Lib.hid HPost
          have happ2 : ∀ ty, ∃ u w', (Builtin.append_ #[25, 25] ty #[.slice a cs.length cap, .slice (some ⟨W.heap.size, 0, none⟩) 2 2]).run Tryd.prog (W.alloc (.cells #[.int .i64 sp.h, .int .i64 sp.a.pv] 3)) = .ok u w' ∧ Pushed w0 b c r pb po t G w t2 G2 m2 s2 W wa.heap.size wc.heap.size g cs [sp.h, sp.a.pv] u w' := happ
          have HAp := Lib.hid happ2
          clear HPost hA2 V Va C Ca hv hsame hcell happ happ2 hza hzb hzc
          gi_wp2_with (first | ((with_reducible refine append_runI2 ?_ (.tmp 29) (.tmp 35) 25 ?_ ?_ ?_ HAp.out ?_); exact rfl; exact rfl; exact rfl; exact rfl) | fail)
          intro u w2 hp
          obtain ⟨c7, f7, hX, hY⟩ := HP.out u w2 hp
          obtain ⟨a', cap', eu, -⟩ := hp.row.val
          obtain ⟨len, hlen2⟩ : ∃ len, len = (cs ++ [sp.h, sp.a.pv]).length := ⟨_, rfl⟩
          rw [← hlen2] at eu
          subst eu
          clear hp hlen2 HP HAp
          gi_wp2_with fail
          exact ⟨rfl, ⟨rfl, hX.2⟩, hY⟩
        · simp only [if_neg hlen] at hfy
          cases hfy
      · rw [fellF, if_neg herr] at hfy
        by_cases hcs : cs = []
        · simp only [if_pos hcs] at hfy
          obtain rfl := Option.some.inj hfy
          clear hfy
          subst hcs
          have hbd := (Below.refl W.heap.size W).drew
          have hrd := (Aft.refl hA2.sys).later hbd
          obtain ⟨a, cap, g, hcell, hg, happ⟩ := (C.aft hrd).push Ca (hsame _ Ca.1.lt (by omega)) (hA2.later hbd) (by omega) (by exact (by omega : wc.heap.size + 2 ≤ W.heap.size)) [sp.h] (by simp) (by simp)
          replace V := V.aft hrd
          replace hA2 := hA2.later hbd
          have c6 : W.cell? ⟨wa.heap.size, 0, none⟩ = some (.slice a 0 cap) := hcell.cell (i := 0) rfl
          have c80 := hv.cell (i := 0) rfl
          have c2W : W.cell? ⟨w.heap.size, 0, none⟩ = some (.pointer (some ⟨pb, po, none⟩)) := (V _ hm2).2.cell (i := 0) rfl
          have happ2 : ∀ ty, ∃ u w', (Builtin.append_ #[25, 25] ty #[.slice a 0 cap, .slice (some ⟨W.heap.size, 0, none⟩) 1 1]).run Tryd.prog ((W.alloc (.cells #[.int .i64 sp.h] 3)).drew) = .ok u w' ∧ ∃ a' cap', u = .slice a' 1 cap' ∧ w'.cell? ⟨w.heap.size, 0, none⟩ = some (.pointer (some ⟨pb, po, none⟩)) ∧ w'.cell? ⟨w.heap.size + 1, 0, none⟩ = some (.slice none 0 0) ∧ (∀ i, w'.frozen? ⟨w.heap.size + 1, i, none⟩ = false) ∧ (w'.setCell ⟨w.heap.size + 1, 0, none⟩ (.slice none 0 0)).cell? ⟨w.heap.size + 1 + 1, 0, none⟩ = some (.int .i64 0) ∧ (∀ i, (w'.setCell ⟨w.heap.size + 1, 0, none⟩ (.slice none 0 0)).frozen? ⟨w.heap.size + 1 + 1, i, none⟩ = false) ∧ Hid (Vars w0 b c r pb t2 G2 ((w'.setCell ⟨w.heap.size + 1, 0, none⟩ (.slice none 0 0)).setCell ⟨w.heap.size + 1 + 1, 0, none⟩ (.int .i64 err)) [(w.heap.size + 1, [.slice none 0 0]), (w.heap.size + 1 + 1, [.int .i64 err])] ∧ BKeep w0 b c r pb po t G w wc.heap.size t2 G2 m2 s2 Wa W ((w'.setCell ⟨w.heap.size + 1, 0, none⟩ (.slice none 0 0)).setCell ⟨w.heap.size + 1 + 1, 0, none⟩ (.int .i64 err))) := by
            intro ty
            obtain ⟨v', w2, hr, hp⟩ := happ ty
            refine ⟨v', w2, hr, ?_⟩
            have hgz : ∀ y, y < wc.heap.size + 2 → g ≠ some y := fun y hy e => by have := (hg y e).1; omega
            obtain ⟨a', cap', e, -, -, -⟩ := hp.row.val
            have hK : ∀ x, x ∈ L → Loc w0 b c r pb t2 G2 w2 x.1 ∧ SVar w2 x.1 x.2 := fun x hx => by
              have hx2 := hlt x hx
              exact ⟨(V x hx).1.same hp.size, (V x hx).2.same hp.size (hp.same _ (V x hx).2.lt (hgz _ (by omega)))⟩
            have hne : w.heap.size + 1 ≠ w.heap.size + 1 + 1 := by omega
            have hp2 := put2c (u := .slice none 0 0) hp.aft (hK _ hm4).1 (hK _ hm4).2 (hK _ hm5).1 (hK _ hm5).2 hne (by simp only; omega) (by simp only; omega) err
            refine ⟨a', cap', e, (hK _ hm2).2.cell (i := 0) rfl, (hK _ hm4).2.cell (i := 0) rfl, (hK _ hm4).2.fz, hp2.mid.cell (i := 0) rfl, hp2.mid.fz, fun x hx => ?_, hp2.aft, Nat.le_trans hp.size hp2.size, fun y h1 h2 => (hp2.same y (by simp only; omega) (by simp only; omega) (Nat.lt_of_lt_of_le h2 hp.size)).trans (hp.same y h2 fun e => ?_)⟩
            · simp only [List.mem_cons, List.not_mem_nil, or_false] at hx
              rcases hx with rfl | rfl
              · exact ⟨hp2.l6, hp2.v6⟩
              · exact ⟨hp2.l7, hp2.v7⟩
            · have := hg y e
              omega
          have hzW : w.heap.size < W.heap.size := by omega
          have hzW6 : wa.heap.size < W.heap.size := by omega
          obtain ⟨_, w5, hap, a5, cap5, rfl, f1, f2, f3, f4, f5, HX⟩ := happ2 25
          clear hA2 V Va C Ca hv hsame hcell happ happ2 hza hzb hzc hg HU HA HW HWb HWc hbd hrd
          gi_wp2_with fail
          have hmx : Tryd.prog.follows .mixedOrders = true := by kernel_rfl
          gi_region_with_o (first
            | (refine ⟨trivial, rfl, (CallsIn.inRound l (callsIn_wide.2 (putBack_one _ _ _ _))).mono ?_⟩; rintro e w6 ⟨rfl, rfl⟩)
            | fail)
          all_goals
            gi_wp2_with fail
            exact ⟨rfl, ⟨rfl, HX.out.1⟩, HX.out.2⟩
        · simp only [if_neg hcs] at hfy
          cases hfy
    case done =>
      rintro ⟨cs, e0⟩ t2 G2 m2 s2 W ho hA2 ⟨he0, V, C⟩ hK hlD
      simp only at he0 C
      subst he0
      obtain ⟨hlz, hle, a, cap, v6, hrow, hbl⟩ := C
      have hne : w.heap.size + 1 ≠ w.heap.size + 1 + 1 := by omega
      have hp := put2c (u := .slice a cs.length cap) hA2 (V _ hm4).1 (V _ hm4).2 (V _ hm5).1 (V _ hm5).2 hne (by simp only; omega) (by simp only; omega) 0
      have c6 := v6.cell (i := 0) rfl
      have c4 := (V _ hm4).2.cell (i := 0) rfl
      have f4 := (V _ hm4).2.fz
      have c5 := hp.mid.cell (i := 0) rfl
      have f5 := hp.mid.fz
      have hD := (hp.same wc.heap.size (by simp only; omega) (by simp only; omega) hlD.lt).trans hK
      have bd := But.putObj ((W.setCell ⟨w.heap.size + 1, 0, none⟩ (.slice a cs.length cap)).setCell ⟨w.heap.size + 1 + 1, 0, none⟩ (.int .i64 0)) wc.heap.size (.deferred none)
      have hsz := hp.size
      have q4 := hp.v6.same bd.size (bd.block _ hp.v6.lt (by simp only; omega))
      have q5 := hp.v7.same bd.size (bd.block _ hp.v7.lt (by simp only; omega))
      have hA3 := hp.aft.aside bd (hlD.same hp.size) (by omega)
      have HX : Hid (Ev w0 b c r pb po t G w RFell ((fellP n k).run s m) (.returned (.tuple #[.slice a cs.length cap, .int .i64 0])) (((W.setCell ⟨w.heap.size + 1, 0, none⟩ (.slice a cs.length cap)).setCell ⟨w.heap.size + 1 + 1, 0, none⟩ (.int .i64 0)).putObj wc.heap.size (.deferred none))) := by
        have hrow2 : ∀ g, (Value.slice a cs.length cap).ownBlock = some g → wc.heap.size + 2 ≤ g ∧ Loc w0 b c r pb t2 G2 W g := fun g e => by
          refine ⟨?_, hrow.loc g e⟩
          obtain ⟨a2, cap2, e2, -, -, h0⟩ := hrow.val
          cases a with
          | none => cases e
          | some ad =>
            obtain ⟨g', o', u'⟩ := ad
            have hown := hrow.own.2
            rcases hown with ⟨e4, -⟩ | ⟨g3, c2, cur, e4, -⟩
            · cases e4
            · cases e4
              have e5 : g' = g := Option.some.inj e
              rw [← e5]
              exact hbl g' _ rfl
        have hrow3 := hrow.same (t1 := t2) (G1 := G2) (w1 := ((W.setCell ⟨w.heap.size + 1, 0, none⟩ (.slice a cs.length cap)).setCell ⟨w.heap.size + 1 + 1, 0, none⟩ (.int .i64 0)).putObj wc.heap.size (.deferred none)) fun g e => by
          have hg := hrow2 g e
          exact ⟨(hg.2.same hp.size).same bd.size, (bd.block g (Nat.lt_of_lt_of_le hg.2.lt hp.size) (by omega)).trans (hp.same g (by omega) (by omega) hg.2.lt)⟩
        rcases id hrow3.own.2 with ⟨e, e2⟩ | ⟨g, cap2, cur, e, q1, q2, q3, -⟩
        · have hnil : cs = [] := List.length_eq_zero_iff.1 e2
          subst hnil
          exact Ev.ret (a := some ([], 0)) (HRw.out _ ho) ⟨_, .nil, rfl, Sl.In.nil, by rw [e]; rfl⟩ hA3
        · have hob : (Value.slice a cs.length cap).ownBlock = some g := by rw [e]; rfl
          have hl := hrow3.loc g hob
          have hge := (hrow2 g hob).1
          have hr : Rw (((W.setCell ⟨w.heap.size + 1, 0, none⟩ (.slice a cs.length cap)).setCell ⟨w.heap.size + 1 + 1, 0, none⟩ (.int .i64 0)).putObj wc.heap.size (.deferred none)) g (ints cs) := ⟨hl.lt, fun j u hj => by
            have := World.ownsRow.cells hrow3.own (g := g) hob j u hj
            rwa [add_off, Nat.zero_add] at this⟩
          have hsl : (⟨some ⟨g, 0, none⟩, cs.length, cap2⟩ : Sl).In ((g, ints cs) :: G2) (ints cs) := ⟨by rw [ints_length], q3, by rw [ints_length]; omega, .inr ⟨g, 0, ints cs, rfl, List.mem_cons_self, fun i x hx => by rw [Nat.zero_add]; exact hx⟩⟩
          exact Ev.ret (a := some (cs, 0)) (HRw.out _ ho) ⟨(cs, 0), ⟨some ⟨g, 0, none⟩, cs.length, cap2⟩, rfl, hsl, by rw [e]⟩ (hA3.freeze hl (by omega) hr)
      clear hA2 V v6 hrow hbl hlz hlD ho hza hzb hzc hp bd hsz hA3
      gi_wp2_with fail
      exact leave_ret hD (res_cc Tryd.results24 rfl rfl (SVar.loadSl q4) (SVar.loadInt q5)) HX.out
    case stop =>
      rintro ⟨cs, e1⟩ t2 G2 m2 s2 W ho hA2 ⟨hx1, V⟩ hK hlD
      simp only at hx1
      subst hx1
      have v4 := (V (w.heap.size + 1, [.slice none 0 0]) (by simp)).2
      have v5 := (V (w.heap.size + 1 + 1, [.int .i64 e1]) (by simp)).2
      have bd := But.putObj W wc.heap.size (.deferred none)
      have q4 := v4.same bd.size (bd.block _ v4.lt (by simp only; omega))
      have q5 := v5.same bd.size (bd.block _ v5.lt (by simp only; omega))
      have HX := Lib.hid (Ev.ret (R := RFell) (a := some ([], e1)) (v := .tuple #[.slice none 0 0, .int .i64 e1]) (HRw.out _ ho) ⟨_, .nil, rfl, Sl.In.nil, rfl⟩ (hA2.aside bd hlD (by omega)))
      clear hA2 V v4 v5 hlD ho hza hzb hzc
      gi_wp2
      exact leave_ret hK (res_cc Tryd.results24 rfl rfl (SVar.loadSl q4) (SVar.loadInt q5)) HX.out
    case halt =>
      rintro t2 G2 m2 s2 W ho hA2 hK hlD
      have hrun := HRw.out _ ho
      have hX : Ev w0 b c r pb po t G w RFell ((fellP n k).run s m) (Halt pb po) (W.putObj wc.heap.size (.deferred none)) := Ev.die hrun (hA2.aside (But.putObj _ _ _) hlD (by omega))
      exact leave_die hK hX
end
end Go.Proofs.YtbcpdkmbbgcfbaaDoor
