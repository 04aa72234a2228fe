/- What the law's function does, done by a port: ask by ask, till the list ends or the port stops it. Conditions: memory is the call's own; at most 40 asks in the list; the library's table stands. -/
import Derived.Test.YthdcilbbllldiaaDoorStJ
import Derived.Test.YthdcilbbllldiaaDoorWGen
namespace Go.Proofs.YthdcilbbllldiaaDoor
open Go.RowKit Go.Op
set_option maxRecDepth 100000

/-- A run, a port, memory. -/
structure Xn where
  r : Rn
  s : Pt
  m : M
def Xn.qn (X : Xn) (z : Aq) : Qn := z.q X.r.told
def Xn.asked (X : Xn) (z : Aq) : Option An × Pt × M := X.s.ask (z.q X.r.told) X.m
def Xn.step (l : List Aq) (X : Xn) : Xn := match l[X.r.at_]? with
  | none => X
  | some z => match X.asked z with
    | (some a, s', m') => ⟨X.r.next l (z.res X.r.told a), { s' with noted := ((X.r.steps + 1 : Nat) : Int) }, m'⟩
    | (none, s', m') => ⟨X.r, s', m'⟩
def iter (l : List Aq) (X : Xn) : Nat → Xn
  | 0 => X
  | k + 1 => (iter l X k).step l
/-- So far each ask was answered. -/
def Runs (l : List Aq) (X : Xn) (k : Nat) : Prop := ∀ i, i < k → ∃ z a, l[(iter l X i).r.at_]? = some z ∧ ((iter l X i).asked z).1 = some a
theorem step_is {l : List Aq} {X : Xn} {z : Aq} {a : An} (hz : l[X.r.at_]? = some z) (ha : (X.asked z).1 = some a) : X.step l = ⟨X.r.next l (z.res X.r.told a), { (X.asked z).2.1 with noted := ((X.r.steps + 1 : Nat) : Int) }, (X.asked z).2.2⟩ := by
  unfold Xn.step
  rw [hz]
  simp only
  generalize X.asked z = A at *
  obtain ⟨o, s', m'⟩ := A
  cases ha
  rfl
theorem next_at (r : Rn) (l : List Aq) (x : Int × Int × Int) (h : r.at_ < l.length) : r.at_ < (r.next l x).at_ ∧ (r.next l x).at_ ≤ l.length := by
  unfold Rn.next
  simp only
  split
  · rename_i h2
    simp only [Bool.and_eq_true, decide_eq_true_eq] at h2
    omega
  · omega
theorem ask_fine {s : Pt} {q : Qn} {m : M} (h : s.place ≤ s.told.length) : (s.ask q m).2.1.place ≤ (s.ask q m).2.1.told.length ∧ (s.ask q m).2.1.told.length ≤ s.told.length + 1 ∧ ((s.ask q m).1 ≠ none → (s.ask q m).2.1.halted = s.halted) ∧ (s.ask q m).2.1.ext = s.ext := by
  cases hx : s.told[s.place]? with
  | some a =>
    rw [Pt.ask_told hx]
    have := (List.getElem?_eq_some_iff.1 hx).1
    exact ⟨this, Nat.le_succ _, fun _ => rfl, rfl⟩
  | none =>
    cases hs : s.spent with
    | true =>
      rw [Pt.ask_halt hx hs]
      exact ⟨h, Nat.le_succ _, fun e => absurd rfl e, rfl⟩
    | false =>
      cases hk : s.keeps with
      | true =>
        rw [Pt.ask_keep hx hs hk]
        exact ⟨by simp; omega, by simp, fun _ => rfl, rfl⟩
      | false =>
        rw [Pt.ask_do hx hs hk]
        exact ⟨h, Nat.le_succ _, fun _ => rfl, rfl⟩
/-- What is true of each run on the way. -/
structure Way (l : List Aq) (s0 : Pt) (k : Nat) (X : Xn) : Prop where
  at_ : X.r.at_ ≤ l.length
  le : k ≤ X.r.at_
  st : X.r.steps = k
  pl : X.s.place ≤ X.s.told.length
  tl : X.s.told.length ≤ s0.told.length + k
  ha : X.s.halted = false
  ex : X.s.ext = s0.ext
theorem Way.step {l : List Aq} {s0 : Pt} {k : Nat} {X : Xn} {z : Aq} {a : An} (h : Way l s0 k X) (hz : l[X.r.at_]? = some z) (ha : (X.asked z).1 = some a) : Way l s0 (k + 1) (X.step l) := by
  rw [step_is hz ha]
  have hlt := (List.getElem?_eq_some_iff.1 hz).1
  obtain ⟨n1, n2⟩ := next_at X.r l (z.res X.r.told a) hlt
  obtain ⟨f1, f2, f3, f4⟩ := ask_fine (q := z.q X.r.told) (m := X.m) h.pl
  refine ⟨n2, ?_, ?_, f1, ?_, ?_, f4.trans h.ex⟩
  · have := h.le; simp only; omega
  · show X.r.steps + 1 = k + 1
    rw [h.st]
  · have := h.tl; simp only [Xn.asked]; omega
  · exact (f3 (by unfold Xn.asked at ha; rw [ha]; exact fun e => (by cases e))).trans h.ha
/-- A run in a variable. -/
def RnAt (w : World) (p : Nat) (r : Rn) : Prop := w.cell? ⟨p, 0, none⟩ = some (.int .i64 (r.at_ : Int)) ∧ w.cell? ⟨p, 1, none⟩ = some (.int .i64 r.told) ∧ w.cell? ⟨p, 2, none⟩ = some (.int .i64 r.sum) ∧ w.cell? ⟨p, 3, none⟩ = some (.int .i64 r.last) ∧ w.cell? ⟨p, 4, none⟩ = some (.int .i64 (r.steps : Int))
theorem RnAt.same {w w' : World} {p : Nat} {r : Rn} (h : RnAt w p r) (hb : w'.heap[p]? = w.heap[p]?) : RnAt w' p r := by
  have k : ∀ i, w'.cell? ⟨p, i, none⟩ = w.cell? ⟨p, i, none⟩ := fun i => World.cell?_of_block (w := w) (a := ⟨p, i, none⟩) hb
  unfold RnAt
  rw [k, k, k, k, k]
  exact h
def rput (w : World) (p : Nat) (r : Rn) : World := ((((w.setCell ⟨p, 0, none⟩ (.int .i64 (r.at_ : Int))).setCell ⟨p, 1, none⟩ (.int .i64 r.told)).setCell ⟨p, 2, none⟩ (.int .i64 r.sum)).setCell ⟨p, 3, none⟩ (.int .i64 r.last)).setCell ⟨p, 4, none⟩ (.int .i64 (r.steps : Int))
theorem RnAt.put {w : World} {p : Nat} {r : Rn} (h : RnAt w p r) (r' : Rn) : RnAt (rput w p r') p r' := by
  obtain ⟨h0, h1, h2, h3, h4⟩ := h
  unfold rput
  refine ⟨?_, ?_, ?_, ?_, ?_⟩
  · exact set_other (set_other (set_other (set_other (set_same h0) (by omega)) (by omega)) (by omega)) (by omega)
  · exact set_other (set_other (set_other (set_same (set_other h1 (by omega))) (by omega)) (by omega)) (by omega)
  · exact set_other (set_other (set_same (set_other (set_other h2 (by omega)) (by omega))) (by omega)) (by omega)
  · exact set_other (set_same (set_other (set_other (set_other h3 (by omega)) (by omega)) (by omega))) (by omega)
  · exact set_same (set_other (set_other (set_other (set_other h4 (by omega)) (by omega)) (by omega)) (by omega))
theorem rput_but (w : World) (p : Nat) (r : Rn) : But p w (rput w p r) := (((((But.refl p w).set 0 _).set 1 _).set 2 _).set 3 _).set 4 _
theorem rput_fz (w : World) (p : Nat) (r : Rn) (a : Addr) : (rput w p r).frozen? a = w.frozen? a := by
  unfold rput
  simp only [World.frozen?_setCell]
section
variable {w0 : World} {b c r : Nat} {N : Int} {pb po : Nat} {t : Value} {w w' : World} {m : M} {s : Pt}
theorem Sys.aside {g : Nat} (h : Sys w0 b c r N pb po t w m s) (hk : But g w w') (hB : w0.heap.size ≤ g) (hg : g ≠ b ∧ g ≠ c ∧ g ≠ r ∧ g ≠ pb ∧ t.ownBlock ≠ some g) : Sys w0 b c r N pb po t w' m s := by
  have o := h.has.at_.own
  refine ⟨h.has.same hk.size (h.has.below.trans ⟨hk.os, hk.tape, hk.output, hk.size, fun k hl => hk.block k (Nat.lt_of_lt_of_le hl h.has.below.size) (by omega)⟩) (hk.block b o.lb hg.1.symm) (hk.block c o.lc hg.2.1.symm) (hk.block r o.lr hg.2.2.1.symm), h.pt.same (hk.block pb h.pt.lt hg.2.2.2.1.symm) (fun k e => hk.block k (World.ownsRow.lt h.pt.own k e).2 (fun e2 => hg.2.2.2.2 (e2 ▸ e))), h.nb, h.tb, h.hp⟩
theorem But5.new {g : Nat} {w1 w2 w3 : World} (h : But5 b c r pb t w1 w2) (hk : But g w2 w3) (hg : w1.heap.size ≤ g) : But5 b c r pb t w1 w3 :=
  ⟨hk.os.trans h.os, hk.tape.trans h.tape, hk.output.trans h.output, Nat.le_trans h.size hk.size, fun i hi h1 h2 h3 h4 h5 => (hk.block i (Nat.lt_of_lt_of_le hi h.size) (by omega)).trans (h.block i hi h1 h2 h3 h4 h5)⟩
end
theorem enter_32 (xs : Array Value) (w : World) : (callFunc 32 xs).run Tryd.prog w = .ok (.enter 32 xs) w := by kernel_rfl
theorem enter_31 (xs : Array Value) (w : World) : (callFunc 31 xs).run Tryd.prog w = .ok (.enter 31 xs) w := by kernel_rfl
theorem load_22 {w : World} {p : Addr} {a : Option Addr} {n cp : Nat} (h : w.cell? p = some (.slice a n cp)) : (Instr.loadAt 22 (.pointer (some p))).run Tryd.prog w = .ok (.slice a n cp) w := by go_simp
theorem at_22 (g o n cp k : Nat) (h : k < n) (w : World) : (Instr.indexAt 22 (.slice (some ⟨g, o, none⟩) n cp) (.int .i64 (k : Int))).run Tryd.prog w = .ok (.pointer (some ⟨g, o + k * 6, none⟩)) w := by
  have h1 : (k : Int) < (n : Int) := by omega
  go_simp
theorem size41 : (Tryd.prog.info? 41).map (·.size) = some 6 := by kernel_rfl
theorem load_41 {w : World} {p o : Nat} {z : Aq} (h : AqAt w p o z) : (Instr.loadAt 41 (.pointer (some ⟨p, o, none⟩))).run Tryd.prog w = .ok z.v w := by
  obtain ⟨z0, z1, z2, z3, z4, z5⟩ := h
  refine run_loadAt_mid _ p o 41 [.int .u8 z.act, .int .i64 z.pos, .int .i64 z.n, .int .i64 z.m, .bool z.told, .bool z.skip] _ (fun j v hj => ?_) Tryd.underlying41 rfl size41
  match j, hj with
  | 0, hj => cases hj; exact z0
  | 1, hj => cases hj; exact z1
  | 2, hj => cases hj; exact z2
  | 3, hj => cases hj; exact z3
  | 4, hj => cases hj; exact z4
  | 5, hj => cases hj; exact z5
theorem AqAt.below {w W : World} {p o : Nat} {z : Aq} (h : AqAt w p o z) {B : Nat} (hb : Below B w W) (hp : p < B) : AqAt W p o z := by
  have k : ∀ i, W.cell? ⟨p, i, none⟩ = w.cell? ⟨p, i, none⟩ := fun i => hb.cell (p := ⟨p, i, none⟩) hp
  unfold AqAt
  rw [k, k, k, k, k, k]
  exact h

def n3 (k : Nat) (v : Value) : Value := match v with
  | .tuple xs => xs.getD k undef
  | _ => undef
/-- Within the region that asks. -/
def OMid (w0 : World) (b c r : Nat) (N : Int) (pb po : Nat) (t : Value) (w : World) (m : M) (s : Pt) (z : Aq) (tl : Int) (bs : List Bool) (β : Nat → Value) (W : World) : Prop :=
  (bs[0]? = some false → Below w.heap.size w W) ∧
  (bs[0]? = some true → ∃ a, (s.ask (z.q tl) m).1 = some a ∧ β 8 = Res3 (z.res tl a) ∧ ∃ t', Sys w0 b c r (N + 1) pb po t' W (s.ask (z.q tl) m).2.2 (s.ask (z.q tl) m).2.1 ∧ But5 b c r pb t w W ∧ Row2 w t t')
def ODie (w0 : World) (b c r : Nat) (N : Int) (pb po : Nat) (t : Value) (w : World) (m : M) (s : Pt) (z : Aq) (tl : Int) (ch : List PanicEntry) (W : World) : Prop :=
  Ending.panicked ch = Halt pb po ∧ (s.ask (z.q tl) m).1 = none ∧ ∃ t', Sys w0 b c r (N + 1) pb po t' W (s.ask (z.q tl) m).2.2 (s.ask (z.q tl) m).2.1 ∧ But5 b c r pb t w W ∧ Row2 w t t'
section
variable {w0 : World} {b c r : Nat} {N : Int} {pb po : Nat} {t : Value} {w : World} {m : M} {s : Pt} {z : Aq} {tl : Int} {bs : List Bool} {β : Nat → Value} {W : World}
theorem omid_start {β : Nat → Value} : OMid w0 b c r N pb po t w m s z tl [false] β w.drew := ⟨fun _ => (Below.refl _ _).drew, fun e => (by cases e)⟩
theorem omid_nth (h : OMid w0 b c r N pb po t w m s z tl bs β W) (h0 : bs[0]? = some true) {k : Nat} (hk : k < 3) : (Instr.extract (β 8) k).run Tryd.prog W = .ok (nth k (β 8)) W := by
  obtain ⟨a, _, e8, _⟩ := h.2 h0
  rw [e8]
  match k, hk with
  | 0, _ => rfl
  | 1, _ => rfl
  | 2, _ => rfl
theorem omid_one (hT : TabAt w0) (hS : Sys w0 b c r N pb po t w m s) (hN : N ≤ 999999) (hs : s.Ok) (ha : 0 ≤ z.act ∧ z.act ≤ 255) (h : OMid w0 b c r N pb po t w m s z tl bs β W) (h0 : bs[0]? = some false) :
    Calls Tryd.prog 32 #[.pointer (some ⟨pb, po, none⟩), z.v, .int .i64 tl] W fun e w' => (∃ u, e = .returned u ∧ OMid w0 b c r N pb po t w m s z tl (bs.set 0 true) (FreeW.upd β 8 u) w') ∨ ∃ ch, e = .panicked ch ∧ ODie w0 b c r N pb po t w m s z tl ch w' := by
  have hb := h.1 h0
  refine (one_any (hS.later hb) hT hN hs z tl ha).mono ?_
  rintro e w' ⟨t', he, h1, h2, h3⟩
  cases hA : (s.ask (z.q tl) m).1 with
  | some a =>
    rw [hA] at he
    refine .inl ⟨_, he, fun e2 => (by rw [set_at h0] at e2; cases e2), fun _ => ⟨a, hA, by simp only [FreeW.upd, if_true], t', h1, (But5.of hb).trans h2, h3.from hb.size⟩⟩
  | none =>
    rw [hA] at he
    exact .inr ⟨_, he, rfl, hA, t', h1, (But5.of hb).trans h2, h3.from hb.size⟩
end

theorem nth_30 (a b c : Value) : nth 0 (.tuple #[a, b, c]) = a := rfl
theorem nth_31 (a b c : Value) : nth 1 (.tuple #[a, b, c]) = b := rfl
theorem nth_32 (a b c : Value) : nth 2 (.tuple #[a, b, c]) = c := rfl
/-- Behind the function's call: it ran k asks, and then the list ended, or its port stopped it. -/
def Did (l : List Aq) (s : Pt) (w0 : World) (b c r : Nat) (N : Int) (pb po : Nat) (t : Value) (w : World) (m : M) (e : Ending) (w' : World) : Prop :=
  ∃ k, k ≤ l.length ∧ Runs l ⟨⟨0, 0, 0, 0, 0⟩, s, m⟩ k ∧ ∃ X, X = iter l ⟨⟨0, 0, 0, 0, 0⟩, s, m⟩ k ∧ Way l s k X ∧ ∃ t',
    ((l.length ≤ X.r.at_ ∧ e = .returned (.iface 32 X.r.v) ∧ Sys w0 b c r (N + k) pb po t' w' X.m X.s) ∨
     (∃ z, l[X.r.at_]? = some z ∧ (X.asked z).1 = none ∧ e = Halt pb po ∧ Sys w0 b c r (N + k + 1) pb po t' w' (X.asked z).2.2 (X.asked z).2.1)) ∧ But5 b c r pb t w w' ∧ Row2 w t t'
/-- At the loop's head. -/
def DHead (l : List Aq) (s : Pt) (w0 : World) (b c r : Nat) (N : Int) (pb po : Nat) (t : Value) (w : World) (m : M) (rb : Nat) (k : Nat) (X : Xn) (t' : Value) (wr : World) : Prop :=
  Runs l ⟨⟨0, 0, 0, 0, 0⟩, s, m⟩ k ∧ X = iter l ⟨⟨0, 0, 0, 0, 0⟩, s, m⟩ k ∧ Way l s k X ∧ Sys w0 b c r (N + k) pb po t' wr X.m X.s ∧ But5 b c r pb t w wr ∧ Row2 w t t' ∧ RnAt wr rb X.r ∧ (∀ i, wr.frozen? ⟨rb, i, none⟩ = false) ∧ rb < wr.heap.size ∧ t'.ownBlock ≠ some rb
set_option maxHeartbeats 1000000 in
theorem does_fn {w0 : World} {b c r : Nat} {N : Int} {pb po : Nat} {t : Value} {w : World} {m : M} {s : Pt} {lb cap : Nat} {ad : Option Addr} {l : List Aq} (h : Sys w0 b c r N pb po t w m s) (HT : TabAt w0) (hN : N ≤ 999000)
    (h2 : s.halted = false) (h3 : s.place ≤ s.told.length) (h4 : s.told.length ≤ 900000) (hL : Asks w0 ad l) (hK : AsksOk l) (hl : l.length ≤ 40)
    (hq : w.cell? ⟨lb, 0, none⟩ = some (.slice ad l.length cap)) (hqn : lb ≠ b ∧ lb ≠ c ∧ lb ≠ r ∧ lb ≠ pb ∧ some lb ≠ t.ownBlock) :
    Calls Tryd.prog 31 (#[.pointer (some ⟨pb, po, none⟩)] ++ #[.pointer (some ⟨lb, 0, none⟩)]) w fun e w' => Did l s w0 b c r N pb po t w m e w' := by
  have mixed : Tryd.prog.follows .mixedOrders = true := by kernel_rfl
  have hql := World.block_lt_of_cell? w _ hq
  have HK : Hid (∀ W, But5 b c r pb t w W → W.cell? ⟨lb, 0, none⟩ = some (.slice ad l.length cap)) := fun W hb => by
    rw [World.cell?_of_block (w := w) (a := ⟨lb, 0, none⟩) (hb.block lb hql hqn.1 hqn.2.1 hqn.2.2.1 hqn.2.2.2.1 hqn.2.2.2.2)]
    exact hq
  obtain ⟨w1, hw1⟩ : ∃ W, W = w.alloc (.cells #[.int .i64 0, .int .i64 0, .int .i64 0, .int .i64 0, .int .i64 0] 32) := ⟨_, rfl⟩
  have hb1 : Below w.heap.size w w1 := by rw [hw1]; exact (Below.refl _ _).alloc (Nat.le_refl _) _
  have HH : Hid (DHead l s w0 b c r N pb po t w m w.heap.size 0 ⟨⟨0, 0, 0, 0, 0⟩, s, m⟩ t w1) := by
    refine ⟨fun i hi => absurd hi (Nat.not_lt_zero _), rfl, ⟨Nat.zero_le _, Nat.le_refl _, rfl, h3, Nat.le_refl _, h2, rfl⟩, (h.later hb1).less (by omega), But5.of hb1, Row2.refl _ _, ?_, ?_, ?_, ?_⟩
    · rw [hw1]
      unfold RnAt
      simp only [World.cell?_alloc_new]
      exact ⟨rfl, rfl, rfl, rfl, rfl⟩
    · intro i
      rw [hw1]
      exact World.frozen?_alloc_at _ 32 _ i rfl
    · rw [hw1]; simp
    · intro e
      have := (World.ownsRow.lt h.pt.own _ e).2
      omega
  have HW := Lib.hid hw1.symm
  have HQ := Lib.hid (⟨hL, hK, h4, h.pt.lt, h.has.at_.own.lb, h.has.at_.own.lc, h.has.at_.own.lr, h.has.below.size, h.has.below⟩ : _ ∧ _ ∧ _ ∧ _ ∧ _ ∧ _ ∧ _ ∧ _ ∧ _)
  obtain ⟨rb, hrb⟩ : ∃ q, q = w.heap.size := ⟨_, rfl⟩
  rw [← hrb] at HH
  have HRB := Lib.hid hrb
  show Calls Tryd.prog 31 #[.pointer (some ⟨pb, po, none⟩), .pointer (some ⟨lb, 0, none⟩)] w _
  clear h h2 h3 h4 hL hK hq hqn hql hb1 hw1 hrb
  go_enter Tryd.func31, Tryd.ntmps31
  go_wp2_with fail
  rw [HW.out, ← HRB.out]
  go_loopw [] (fun wr => ∃ (k : Nat) (X : Xn) (t' : Value), Hid (DHead l s w0 b c r N pb po t w m rb k X t' wr)) (fun wr => 40 - (intOf ((wr.cell? ⟨rb, 0, none⟩).getD undef)).toNat)
  case atStart => exact ⟨0, _, t, HH⟩
  case round =>
    obtain ⟨k, X, t1, hR⟩ := hrel
    clear HH
    obtain ⟨hRuns, hX, hW, hS, hB5, hR2, hRn, hfz, hlr, hne⟩ := hR.out
    obtain ⟨c0, c1, c2, c3, c4⟩ := hRn
    have lc := HK.out wr hB5
    have hk40 : k ≤ 40 := by have := hW.le; have := hW.at_; omega
    have hat := hW.at_
    have HO : Hid (X.s.Ok) := ⟨hW.pl, by have := hW.tl; have := HQ.out.2.2.1; omega⟩
    have HS := Lib.hid hS
    have HG := Lib.hid (⟨hlr, World.block_lt_of_cell? wr _ lc⟩ : rb < wr.heap.size ∧ lb < wr.heap.size)
    by_cases hlt : X.r.at_ < l.length
    · have i1 : (X.r.at_ : Int) < (l.length : Int) := by omega
      obtain ⟨pa, off, ea, hpa, hz⟩ := HQ.out.1.at_ hS.has.below hlt
      subst ea
      have hge : l[X.r.at_]? = some l[X.r.at_] := List.getElem?_eq_getElem hlt
      have hzk := HQ.out.2.1 _ (List.getElem_mem hlt)
      generalize l[X.r.at_] = z at hz hge hzk
      have HZ := Lib.hid (⟨hz, Nat.lt_of_lt_of_le hpa hS.has.below.size, hzk⟩ : AqAt wr pa (off + X.r.at_ * 6) z ∧ pa < wr.heap.size ∧ (0 ≤ z.act ∧ z.act ≤ 255))
      have HE := Lib.hid hge
      clear hz hzk hge hS hRuns hX hB5 hR2 hfz hlr hne hW
      go_wp2_with fail
      refine FreeW.region_puts (S := OMid w0 b c r (N + k) pb po t1 wr X.m X.s z X.r.told) (D := ODie w0 b c r (N + k) pb po t1 wr X.m X.s z X.r.told) (effs := [8])
        (tab := [⟨1, fun _ => [.pointer (some ⟨lb, 0, none⟩)], fun _ => (.slice (some ⟨pa, off, none⟩) l.length cap), .read⟩,
          ⟨3, fun _ => [.pointer (some ⟨rb, 0, none⟩)], fun _ => .int .i64 (X.r.at_ : Int), .read⟩,
          ⟨4, fun _ => [(.slice (some ⟨pa, off, none⟩) l.length cap), .int .i64 (X.r.at_ : Int)], fun _ => .pointer (some ⟨pa, (off + X.r.at_ * 6), none⟩), .pure⟩,
          ⟨5, fun _ => [.pointer (some ⟨pa, (off + X.r.at_ * 6), none⟩)], fun _ => z.v, .read⟩,
          ⟨7, fun _ => [.pointer (some ⟨rb, 1, none⟩)], fun _ => .int .i64 X.r.told, .read⟩,
          ⟨8, fun _ => [.func (.func 32) #[] #[], .pointer (some ⟨pb, po, none⟩), z.v, .int .i64 X.r.told], fun β => (β 8), .get⟩,
          ⟨10, fun β => [(β 8)], fun β => (nth 0 (β 8)), .read⟩,
          ⟨11, fun β => [(β 8)], fun β => (nth 1 (β 8)), .read⟩,
          ⟨12, fun β => [(β 8)], fun β => (nth 2 (β 8)), .read⟩])
        (vs := [([], fun _ => .pointer (some ⟨pb, po, none⟩)), ([], fun _ => (.slice (some ⟨pa, off, none⟩) l.length cap)), ([], fun _ => .pointer (some ⟨rb, 0, none⟩)), ([], fun _ => .int .i64 (X.r.at_ : Int)), ([], fun _ => .pointer (some ⟨pa, (off + X.r.at_ * 6), none⟩)), ([], fun _ => z.v), ([], fun _ => .pointer (some ⟨rb, 1, none⟩)), ([], fun _ => .int .i64 X.r.told), ([8], fun l => l.headD undef), ([8], fun l => l.headD undef), ([8], fun l => nth 0 (l.headD undef)), ([8], fun l => nth 1 (l.headD undef)), ([8], fun l => nth 2 (l.headD undef)), ([8], fun l => nth 0 (l.headD undef)), ([8], fun l => nth 1 (l.headD undef)), ([8], fun l => nth 2 (l.headD undef))])
        ?hD (by kernel_rfl) ⟨by kernel_rfl, ⟨FreeW.d_load _ rfl rfl (fun β bs w h hd => load_22 (((h.1 ((hd 0 8 rfl).2 (.inl (by kernel_rfl)))).cell HG.out.2).trans lc)),
          FreeW.d_load _ rfl rfl (fun β bs w h hd => load_3 (((h.1 ((hd 0 8 rfl).2 (.inl (by kernel_rfl)))).cell HG.out.1).trans c0)),
          FreeW.d_at _ rfl rfl (fun _ w => at_22 pa off l.length cap X.r.at_ hlt w),
          FreeW.d_load _ rfl rfl (fun β bs w h hd => load_41 (HZ.out.1.below (h.1 ((hd 0 8 rfl).2 (.inl (by kernel_rfl)))) HZ.out.2.1)),
          FreeW.d_load _ rfl rfl (fun β bs w h hd => load_3 (((h.1 ((hd 0 8 rfl).2 (.inl (by kernel_rfl)))).cell HG.out.1).trans c1)),
          FreeW.d_get3 _ rfl rfl enter_32 0 rfl (fun β bs w h hd => omid_one HT HS.out (by omega) HO.out HZ.out.2.2 h ((hd 0 8 rfl).2 (.inr rfl))),
          FreeW.d_extract _ rfl rfl (fun β bs w h hd => omid_nth h ((hd 0 8 rfl).1 (by kernel_rfl)) (by decide)),
          FreeW.d_extract _ rfl rfl (fun β bs w h hd => omid_nth h ((hd 0 8 rfl).1 (by kernel_rfl)) (by decide)),
          FreeW.d_extract _ rfl rfl (fun β bs w h hd => omid_nth h ((hd 0 8 rfl).1 (by kernel_rfl)) (by decide)),
          trivial⟩,
          fun β => by kernel_rfl, fun β => by kernel_rfl, by kernel_rfl, fun β => by kernel_rfl, by kernel_rfl⟩ omid_start (fun β => Free.from_ 15 [.pointer (some ⟨pb, po, none⟩), (.slice (some ⟨pa, off, none⟩) l.length cap), .pointer (some ⟨rb, 0, none⟩), .int .i64 (X.r.at_ : Int), .pointer (some ⟨pa, (off + X.r.at_ * 6), none⟩), z.v, .pointer (some ⟨rb, 1, none⟩), .int .i64 X.r.told, (β 8)] ++ [(14, (β 8)), (24, (nth 0 (β 8))), (25, (nth 1 (β 8))), (26, (nth 2 (β 8))), (5, (nth 0 (β 8))), (6, (nth 1 (β 8))), (7, (nth 2 (β 8)))]) (fun β => by kernel_rfl) ?_
      case hD =>
        intro ch a W hdf hD
        obtain ⟨hh, hn, t2, hS2, hB2, hT2⟩ := hD
        refine And.intro (hdf.trans rfl) ?_
        obtain ⟨hRuns, hX, hW, hS, hB5, hR2, -⟩ := hR.out
        exact ⟨k, Nat.le_trans hW.le hW.at_, hRuns, X, hX, hW, t2, .inr ⟨z, HE.out, hn, hh, hS2⟩, hB5.next hR2 hB2, hR2.next hB5.size hT2⟩
      intro β w4 h4
      obtain ⟨a, ha, e8, t4, S4, B4, T4⟩ := h4.2 rfl
      simp only [e8, Res3, nth_30, nth_31, nth_32]
      clear h4 e8
      rw [FreeX.puts_append, Free.puts_from _ _ _ (Nat.le_of_ble_eq_true rfl)]
      simp only [List.take_succ_cons, List.take_zero, List.drop_succ_cons, List.drop_zero, List.cons_append, List.nil_append, List.length_cons, List.length_nil, Nat.reduceAdd]
      unfold Free.puts
      simp only [List.foldl_cons, List.foldl_nil]
      have hrb := HRB.out
      obtain ⟨hRuns, hX, hW, -, hB5, hR2, hRn, hfz, hlr, hne⟩ := hR.out
      have q := HQ.out
      have hrs : w4.heap[rb]? = wr.heap[rb]? := B4.block rb hlr (by omega) (by omega) (by omega) (by omega) (fun e => hne e.symm)
      have hRn4 := hRn.same hrs
      have hfz4 : ∀ i, w4.frozen? ⟨rb, i, none⟩ = false := fun i => by rw [World.frozen?_of_block (w := wr) (a := ⟨rb, i, none⟩) hrs]; exact hfz i
      have lc4 := HK.out w4 (hB5.next hR2 B4)
      have hne4 : t4.ownBlock ≠ some rb := fun e => by
        rcases T4 _ e with e2 | e2
        · exact hne e2
        · omega
      have hn := next_any w4 X.r (some ⟨pa, off, none⟩) cap l (z.res X.r.told a) (q.1.below S4.has.below) hlt hl (by rw [hW.st]; exact hk40)
      obtain ⟨d0, d1, d2, d3, d4⟩ := hRn4
      have HR4 := Lib.hid (⟨hRn.same hrs, hfz4, Nat.lt_of_lt_of_le hlr B4.size, hne4⟩ : RnAt w4 rb X.r ∧ (∀ i, w4.frozen? ⟨rb, i, none⟩ = false) ∧ rb < w4.heap.size ∧ t4.ownBlock ≠ some rb)
      have HS4 := Lib.hid S4
      have HB4 := Lib.hid (hB5.next hR2 B4)
      have HT4 := Lib.hid (hR2.next hB5.size T4)
      have HA := Lib.hid ha
      clear S4 B4 T4 ha hrs hfz4 hne4 q hrb hRuns hX hW hB5 hR2 hRn hfz hlr hne c0 c1 c2 c3 c4 lc
      go_wp2_with fail
      refine hn.mono ?_
      rintro e w5 ⟨rfl, hb5⟩
      clear hn
      obtain ⟨r', hr'⟩ : ∃ r', r' = X.r.next l (z.res X.r.told a) := ⟨_, rfl⟩
      rw [← hr']
      have ev : r'.v = .agg #[.int .i64 (r'.at_ : Int), .int .i64 r'.told, .int .i64 r'.sum, .int .i64 r'.last, .int .i64 (r'.steps : Int)] := rfl
      rw [ev]
      have HR5 := Lib.hid (HR4.out.1.same (hb5.block rb HR4.out.2.2.1))
      obtain ⟨d0, d1, d2, d3, d4⟩ := HR5.out
      have f5 : ∀ i, w5.frozen? ⟨rb, i, none⟩ = false := fun i => by rw [hb5.frozen (p := ⟨rb, i, none⟩) HR4.out.2.2.1]; exact HR4.out.2.1 i
      obtain ⟨w6, hw6⟩ : ∃ W, W = rput w5 rb r' := ⟨_, rfl⟩
      have hsz : w6.heap.size = w5.heap.size := by rw [hw6]; simp [rput, World.setCell]
      have S6 : Sys w0 b c r (N + k + 1) pb po t4 w6 (X.asked z).2.2 (X.asked z).2.1 := by
        have q := HQ.out
        have hrb := HRB.out
        rw [hw6]
        exact (HS4.out.later hb5).aside (rput_but _ _ _) (by omega) ⟨by omega, by omega, by omega, by omega, HR4.out.2.2.2⟩
      have HB6 := Lib.hid ((HB4.out.trans (But5.of hb5)).new (w3 := w6) (by rw [hw6]; exact rput_but _ _ _) (by rw [HRB.out]; exact Nat.le_refl _))
      have HR6 : Hid (RnAt w6 rb r' ∧ (∀ i, w6.frozen? ⟨rb, i, none⟩ = false) ∧ rb < w6.heap.size) := by
        refine ⟨by rw [hw6]; exact HR5.out.put r', fun i => by rw [hw6, rput_fz]; exact f5 i, ?_⟩
        rw [hsz]
        exact Nat.lt_of_lt_of_le HR4.out.2.2.1 hb5.size
      have e4 := HR6.out.1.2.2.2.2
      have hno := note_any S6.pt (by
        obtain ⟨_, _, hW, _⟩ := hR.out
        exact ((ask_fine (q := z.q X.r.told) (m := X.m) hW.pl).2.2.1 (by have := HA.out; unfold Xn.asked at this; rw [this]; exact fun e => (by cases e))).trans hW.ha) (r'.steps : Int)
      have HS6 := Lib.hid S6
      unfold rput at hw6
      have HW6 := Lib.hid hw6.symm
      have HR' := Lib.hid hr'
      clear HR5 hb5 hsz S6 hw6 hr'
      go_wp2_with (first | rw [HW6.out] | fail)
      refine hno.mono ?_
      rintro e w7 ⟨rfl, p7, b7⟩
      have HH : Hid (DHead l s w0 b c r N pb po t w m rb (k + 1) (X.step l) t4 w7) := by
        obtain ⟨hRuns, hX, hW, -⟩ := hR.out
        have q := HQ.out
        have hrb := HRB.out
        have hst := step_is HE.out HA.out
        have hr9 : (X.step l).r = r' := by rw [hst]; exact HR'.out.symm
        refine ⟨fun i hi => ?_, by rw [hX]; rfl, hW.step HE.out HA.out, ?_, HB6.out.trans (But5.of1 b7), HT4.out, ?_, ?_, ?_, HR4.out.2.2.2⟩
        · by_cases hik : i = k
          · subst hik
            exact ⟨z, a, by rw [← hX]; exact HE.out, by rw [← hX]; exact HA.out⟩
          · exact hRuns i (by omega)
        · have hS7 := HS6.out.port p7 b7
          have e1 : (X.step l).m = (X.asked z).2.2 := by rw [hst]
          have e2 : (X.step l).s = { (X.asked z).2.1 with noted := (r'.steps : Int) } := by
            rw [hst]
            have : r'.steps = X.r.steps + 1 := by rw [HR'.out]; rfl
            rw [this]
          rw [e1, e2]
          exact hS7.less (by omega)
        · rw [hr9]
          exact HR6.out.1.same (b7.block rb HR6.out.2.2 (by omega))
        · intro i
          rw [World.frozen?_of_block (w := w6) (a := ⟨rb, i, none⟩) (b7.block rb HR6.out.2.2 (by omega))]
          exact HR6.out.2.1 i
        · exact Nat.lt_of_lt_of_le HR6.out.2.2 b7.size
      have HM : Hid (40 - (intOf ((w7.cell? ⟨rb, 0, none⟩).getD undef)).toNat < 40 - (intOf ((wr.cell? ⟨rb, 0, none⟩).getD undef)).toNat) := by
        have e1 := HH.out.2.2.2.2.2.2.1.1
        have e2 := hR.out.2.2.2.2.2.2.1.1
        have e3 := (next_at X.r l (z.res X.r.told a) hlt).1
        have e4 := (next_at X.r l (z.res X.r.told a) hlt).2
        have hst := step_is HE.out HA.out
        have hr9 : (X.step l).r = X.r.next l (z.res X.r.told a) := by rw [hst]
        rw [e1, e2, hr9]
        unfold Hid
        simp [intOf]
        omega
      clear hno p7 b7
      go_wp2_with fail
      go_roundw
      case rel => exact ⟨k + 1, _, t4, HH⟩
      case measure => exact HM.out
    · have i1 : ¬ (X.r.at_ : Int) < (l.length : Int) := by omega
      have HE : Hid (Did l s w0 b c r N pb po t w m (.returned (.iface 32 (.agg #[.int .i64 (X.r.at_ : Int), .int .i64 X.r.told, .int .i64 X.r.sum, .int .i64 X.r.last, .int .i64 (X.r.steps : Int)]))) wr) :=
        ⟨k, Nat.le_trans hW.le hW.at_, hRuns, X, hX, hW, t1, .inl ⟨by omega, rfl, hS⟩, hB5, hR2⟩
      clear hRuns hX hW hS hB5 hR2 hfz hlr hne hR
      go_wp2
      go_ret
      exact HE.out
end Go.Proofs.YthdcilbbllldiaaDoor
