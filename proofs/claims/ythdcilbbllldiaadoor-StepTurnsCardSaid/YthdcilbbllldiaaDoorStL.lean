/- A machine of the law's function: a step of it does the list's next ask, of the memory as it is then. Conditions: memory is the call's own; at most 40 asks in the list; the library's table stands. -/
import Derived.Test.YthdcilbbllldiaaDoorStK
namespace Go.Proofs.YthdcilbbllldiaaDoor
open Go.RowKit Go.Op
set_option maxRecDepth 100000

def r0 : Rn := ⟨0, 0, 0, 0, 0⟩
def stepA (l : List Aq) (r : Rn) (a : An) : Rn := match l[r.at_]? with
  | some z => r.next l (z.res r.told a)
  | none => r
/-- How far a list is done behind these answers. -/
def rep (l : List Aq) (T : List An) : Rn := T.foldl (stepA l) r0
def Going (l : List Aq) (T : List An) : Prop := ∀ i, i < T.length → (rep l (T.take i)).at_ < l.length
theorem rep_snoc (l : List Aq) (T : List An) (a : An) : rep l (T ++ [a]) = stepA l (rep l T) a := by
  unfold rep; rw [List.foldl_append]; rfl
theorem rep_take {l : List Aq} {T : List An} {i : Nat} {a : An} (ha : T[i]? = some a) : rep l (T.take (i + 1)) = stepA l (rep l (T.take i)) a := by
  rw [List.take_add_one, ha]; exact rep_snoc _ _ _
theorem stepA_is {l : List Aq} {r : Rn} {z : Aq} (hz : l[r.at_]? = some z) (a : An) : stepA l r a = r.next l (z.res r.told a) := by
  unfold stepA; rw [hz]
theorem Going.snoc {l : List Aq} {T : List An} (h : Going l T) (hr : (rep l T).at_ < l.length) (a : An) : Going l (T ++ [a]) := by
  intro i hi
  rw [List.length_append, List.length_singleton] at hi
  by_cases e : i = T.length
  · subst e
    rw [List.take_left' rfl]; exact hr
  · rw [List.take_append_of_le_length (by omega)]
    exact h i (by omega)
theorem next_steps (r : Rn) (l : List Aq) (x : Int × Int × Int) : (r.next l x).steps = r.steps + 1 := rfl
section
variable {l : List Aq} {s : Pt} {m : M}
/-- What was told is told again. -/
theorem iter_replay (h0 : s.place = 0) (hg : Going l s.told) : ∀ i, i ≤ s.told.length → iter l ⟨r0, s, m⟩ i = ⟨rep l (s.told.take i), { s with place := i, noted := if i = 0 then s.noted else (i : Int) }, m⟩ ∧ (rep l (s.told.take i)).steps = i
  | 0, _ => by
    refine ⟨?_, rfl⟩
    obtain ⟨k, t, p, n, sp, ha, e⟩ := s
    simp only at h0
    subst h0
    rfl
  | i + 1, hi => by
    obtain ⟨ih, hs⟩ := iter_replay h0 hg i (by omega)
    have hat := hg i (by omega)
    obtain ⟨z, hz⟩ : ∃ z, l[(rep l (s.told.take i)).at_]? = some z := ⟨_, List.getElem?_eq_getElem hat⟩
    obtain ⟨a, ha⟩ : ∃ a, s.told[i]? = some a := ⟨_, List.getElem?_eq_getElem (by omega)⟩
    have hask : ∀ n, Xn.asked ⟨rep l (s.told.take i), { s with place := i, noted := n }, m⟩ z = (some a, { s with place := i + 1, noted := n }, m) := fun n => Pt.ask_told (s := { s with place := i, noted := n }) ha _ _
    have hst := step_is (X := ⟨rep l (s.told.take i), { s with place := i, noted := if i = 0 then s.noted else (i : Int) }, m⟩) hz (a := a) (by rw [hask])
    rw [rep_take ha, stepA_is hz]
    refine ⟨?_, by rw [next_steps, hs]⟩
    show (iter l ⟨r0, s, m⟩ i).step l = _
    rw [ih, hst, hask]
    simp only
    rw [hs, if_neg (by omega)]
theorem runs_replay (h0 : s.place = 0) (hg : Going l s.told) {i : Nat} (hi : i < s.told.length) : ∃ z a, l[(iter l ⟨r0, s, m⟩ i).r.at_]? = some z ∧ ((iter l ⟨r0, s, m⟩ i).asked z).1 = some a := by
  obtain ⟨ih, hs⟩ := iter_replay (m := m) h0 hg i (by omega)
  have hat := hg i hi
  obtain ⟨a, ha⟩ : ∃ a, s.told[i]? = some a := ⟨_, List.getElem?_eq_getElem hi⟩
  rw [ih]
  exact ⟨_, a, List.getElem?_eq_getElem hat, congrArg Prod.fst (Pt.ask_told (s := { s with place := i, noted := if i = 0 then s.noted else (i : Int) }) ha _ _)⟩
/-- The ask that is new. -/
theorem iter_new (h0 : s.place = 0) (h1 : s.spent = false) (h2 : s.keeps = true) (hg : Going l s.told) {z : Aq} (hz : l[(rep l s.told).at_]? = some z) :
    iter l ⟨r0, s, m⟩ (s.told.length + 1) = ⟨(rep l s.told).next l (z.res (rep l s.told).told ((z.q (rep l s.told).told).on m).2), { s with told := s.told ++ [((z.q (rep l s.told).told).on m).2], place := s.told.length + 1, spent := true, noted := ((s.told.length + 1 : Nat) : Int) }, ((z.q (rep l s.told).told).on m).1⟩ ∧
    ((iter l ⟨r0, s, m⟩ s.told.length).asked z).1 = some ((z.q (rep l s.told).told).on m).2 ∧ (iter l ⟨r0, s, m⟩ s.told.length).r = rep l s.told := by
  obtain ⟨ih, hs⟩ := iter_replay (m := m) h0 hg s.told.length (Nat.le_refl _)
  rw [List.take_length] at ih hs
  have hask : ∀ n, Xn.asked ⟨rep l s.told, { s with place := s.told.length, noted := n }, m⟩ z = (some ((z.q (rep l s.told).told).on m).2, { s with told := s.told ++ [((z.q (rep l s.told).told).on m).2], place := s.told.length + 1, spent := true, noted := n }, ((z.q (rep l s.told).told).on m).1) := fun n =>
    Pt.ask_keep (s := { s with place := s.told.length, noted := n }) (by simp) h1 h2 _ _
  have hst := step_is (X := ⟨rep l s.told, { s with place := s.told.length, noted := if s.told.length = 0 then s.noted else ((s.told.length : Nat) : Int) }, m⟩) hz (by rw [hask])
  refine ⟨?_, by rw [ih, hask], by rw [ih]⟩
  show (iter l ⟨r0, s, m⟩ s.told.length).step l = _
  rw [ih, hst, hask]
  simp only
  rw [hs]
end
/-- The next ask of a list, of memory as it is. -/
def mnext (l : List Aq) (r : Rn) (m : M) : Rn × M := match l[r.at_]? with
  | some z => (r.next l (z.res r.told ((z.q r.told).on m).2), ((z.q r.told).on m).1)
  | none => (r, m)
theorem mnext_is {l : List Aq} {r : Rn} {z : Aq} (hz : l[r.at_]? = some z) (m : M) : mnext l r m = (r.next l (z.res r.told ((z.q r.told).on m).2), ((z.q r.told).on m).1) := by
  unfold mnext; rw [hz]
theorem mnext_end {l : List Aq} {r : Rn} (h : l.length ≤ r.at_) (m : M) : mnext l r m = (r, m) := by
  unfold mnext; rw [List.getElem?_eq_none h]
def caps31 (lb : Nat) : Value := .func (.func 31) #[] #[.pointer (some ⟨lb, 0, none⟩)]
/-- A machine of this list that is so far done. -/
structure Lm (l : List Aq) (lb : Nat) (r : Rn) (x : Mach) : Prop where
  run : x.fin = false → x.f = caps31 lb ∧ x.s.keeps = true ∧ r = rep l x.s.told ∧ Going l x.s.told ∧ x.s.told.length = r.steps ∧ (r.at_ < l.length ∨ l = []) ∧ x.out = .nilIface
  fin : x.fin = true → l.length ≤ r.at_ ∧ x.out = .iface 32 r.v
  pl : x.s.place = r.steps
  nt : x.s.noted = (r.steps : Int)
  sl : r.steps ≤ l.length
theorem Lm.start (l : List Aq) (lb p : Nat) : Lm l lb r0 (mach0 p (caps31 lb)) :=
  ⟨fun _ => ⟨rfl, rfl, rfl, fun i hi => absurd hi (Nat.not_lt_zero _), rfl, by
    cases l
    · exact .inr rfl
    · exact .inl (by simp [r0]), rfl⟩, fun e => (by cases e), rfl, rfl, Nat.zero_le _⟩
/-- What a step's function comes to. -/
def PhiL (l : List Aq) (r : Rn) (m0 : M) (o : Option Value) (m : M) (s : Pt) : Prop :=
  m = (mnext l r m0).2 ∧ s.place = (mnext l r m0).1.steps ∧ s.noted = ((mnext l r m0).1.steps : Int) ∧ (mnext l r m0).1.steps ≤ l.length ∧
  ((o = some (.iface 32 (mnext l r m0).1.v) ∧ l.length ≤ (mnext l r m0).1.at_) ∨
   (o = none ∧ (mnext l r m0).1.at_ < l.length ∧ s.keeps = true ∧ (mnext l r m0).1 = rep l s.told ∧ Going l s.told ∧ s.told.length = (mnext l r m0).1.steps))
theorem lstep_fn {w0 : World} {b c r : Nat} {N : Int} {pb po : Nat} {t : Value} {w : World} {m : M} {s : Pt} {lb cap : Nat} {ad : Option Addr} {l : List Aq} {rr : Rn} (h : Sys w0 b c r N pb po t w m s) (HT : TabAt w0) (hN : N ≤ 990000)
    (h0 : s.place = 0) (h1 : s.spent = false) (h2 : s.halted = false) (h3 : s.keeps = true) (hr : rr = rep l s.told) (hg : Going l s.told) (hst : s.told.length = rr.steps) (hend : rr.at_ < l.length ∨ l = []) (hnt : s.noted = (rr.steps : Int)) (hsl : s.told.length ≤ l.length)
    (hL : Asks w0 ad l) (hK : AsksOk l) (hl : l.length ≤ 40) (hq : w.cell? ⟨lb, 0, none⟩ = some (.slice ad l.length cap)) (hqn : lb ≠ b ∧ lb ≠ c ∧ lb ≠ r ∧ lb ≠ pb ∧ some lb ≠ t.ownBlock) :
    Calls Tryd.prog 31 (#[.pointer (some ⟨pb, po, none⟩)] ++ #[.pointer (some ⟨lb, 0, none⟩)]) w fun e w' => Ran pb po (Outc s w0 b c r (N + 42) pb po t w (PhiL l rr m)) e w' ∧ But5 b c r pb t w w' := by
  refine (does_fn h HT (by omega) h2 (by omega) (by omega) hL hK hl hq hqn).mono ?_
  rintro e w' ⟨k, hk, hRuns, X, hX, hW, t', hc, hB, hT⟩
  refine ⟨?_, hB⟩
  have hk2 : (k : Int) ≤ 40 := by omega
  rcases hend with hlt | rfl
  · -- there is an ask left
    obtain ⟨z, hz⟩ : ∃ z, l[rr.at_]? = some z := ⟨_, List.getElem?_eq_getElem hlt⟩
    have hz2 := hz
    rw [hr] at hz2
    obtain ⟨n1, n2, n3⟩ := iter_new (m := m) h0 h1 h3 hg hz2
    obtain ⟨ih, hs⟩ := iter_replay (m := m) h0 hg s.told.length (Nat.le_refl _)
    have hmn := mnext_is hz m
    rw [← hr] at n1 n2 n3
    generalize hon : (z.q rr.told).on m = on at *
    obtain ⟨m', a⟩ := on
    simp only at n1 n2 hmn
    have hr' : rr.next l (z.res rr.told a) = rep l (s.told ++ [a]) := by rw [rep_snoc, ← hr, stepA_is hz]
    have hg' : Going l (s.told ++ [a]) := hg.snoc (by rw [← hr]; exact hlt) a
    -- a port that was told all, and asked, is stopped at its next ask
    have hstop : ∀ z2, ((iter l ⟨r0, s, m⟩ (s.told.length + 1)).asked z2) = (none, { s with told := s.told ++ [a], place := s.told.length + 1, spent := true, noted := ((s.told.length + 1 : Nat) : Int), halted := true }, m') := fun z2 => by
      rw [n1]
      exact Pt.ask_halt (s := { s with told := s.told ++ [a], place := s.told.length + 1, spent := true, noted := ((s.told.length + 1 : Nat) : Int) }) (by simp) rfl _ _
    have hkk : k = s.told.length + 1 := by
      rcases Nat.lt_trichotomy k (s.told.length + 1) with hlt2 | he | hgt
      · exfalso
        by_cases e : k = s.told.length
        · subst e
          rcases hc with ⟨h9, _⟩ | ⟨z2, hz3, h9, _⟩
          · rw [hX] at h9
            have : (iter l ⟨⟨0, 0, 0, 0, 0⟩, s, m⟩ s.told.length).r = rr := n3
            rw [this] at h9
            omega
          · rw [hX] at hz3 h9
            have e3 : (iter l ⟨⟨0, 0, 0, 0, 0⟩, s, m⟩ s.told.length).r = rr := n3
            rw [e3, hz] at hz3
            cases hz3
            rw [show ((iter l ⟨⟨0, 0, 0, 0, 0⟩, s, m⟩ s.told.length).asked z).1 = some a from n2] at h9
            cases h9
        · obtain ⟨z2, a2, g1, g2⟩ := runs_replay (m := m) h0 hg (i := k) (by omega)
          rcases hc with ⟨h9, _⟩ | ⟨z3, hz3, h9, _⟩
          · rw [hX] at h9
            have : (iter l ⟨⟨0, 0, 0, 0, 0⟩, s, m⟩ k).r.at_ < l.length := (List.getElem?_eq_some_iff.1 g1).1
            omega
          · rw [hX] at hz3 h9
            have e3 : l[(iter l ⟨⟨0, 0, 0, 0, 0⟩, s, m⟩ k).r.at_]? = some z2 := g1
            rw [e3] at hz3
            cases hz3
            rw [show ((iter l ⟨⟨0, 0, 0, 0, 0⟩, s, m⟩ k).asked z2).1 = some a2 from g2] at h9
            cases h9
      · exact he
      · exfalso
        obtain ⟨z2, a2, _, g2⟩ := hRuns (s.told.length + 1) hgt
        rw [show (iter l ⟨⟨0, 0, 0, 0, 0⟩, s, m⟩ (s.told.length + 1)).asked z2 = _ from hstop z2] at g2
        cases g2
    subst hkk
    have hX2 : X = ⟨rr.next l (z.res rr.told a), { s with told := s.told ++ [a], place := s.told.length + 1, spent := true, noted := ((s.told.length + 1 : Nat) : Int) }, m'⟩ := hX.trans n1
    have hsteps : (rr.next l (z.res rr.told a)).steps = s.told.length + 1 := by rw [next_steps, hst]
    rcases hc with ⟨h9, he, hS⟩ | ⟨z2, hz3, h9, he, hS⟩
    · rw [hX2] at h9 he hS
      subst he
      refine .inl ⟨32, _, rfl, ⟨t', _, _, hS.less (by omega), hT, ⟨?_, ?_⟩, rfl, ?_⟩, ?_⟩
      · simp
      · simp; omega
      · unfold PhiL
        rw [hmn]
        exact ⟨rfl, hsteps.symm, by rw [hsteps], by rw [hsteps]; exact hk, .inl ⟨rfl, h9⟩⟩
      · exact hS.pt.cells.c6.trans (by simp only; rw [h2])
    · have hst2 := hstop z2
      have e5 : X.asked z2 = (none, { s with told := s.told ++ [a], place := s.told.length + 1, spent := true, noted := ((s.told.length + 1 : Nat) : Int), halted := true }, m') := by rw [hX]; exact hst2
      rw [e5] at hS
      refine .inr ⟨he, t', _, _, hS.less (by omega), hT, ⟨?_, ?_⟩, rfl, ?_⟩
      · simp
      · simp; omega
      · rw [hX2] at hz3
        unfold PhiL
        rw [hmn]
        exact ⟨rfl, hsteps.symm, by rw [hsteps], by rw [hsteps]; exact hk, .inr ⟨rfl, (List.getElem?_eq_some_iff.1 hz3).1, h3, hr', hg', by rw [hsteps]; simp⟩⟩
  · -- an empty list
    have hk0 : k = 0 := by simpa using hk
    subst hk0
    have hT0 : s.told = [] := by simpa using hsl
    have hrr : rr = r0 := by rw [hr, hT0]; rfl
    have hX2 : X = ⟨r0, s, m⟩ := hX
    rcases hc with ⟨h9, he, hS⟩ | ⟨z2, hz3, _⟩
    · rw [hX2] at he hS
      subst he
      have hmn : mnext [] rr m = (rr, m) := mnext_end (Nat.zero_le _) m
      refine .inl ⟨32, _, rfl, ⟨t', _, _, hS.less (by omega), hT, ⟨?_, ?_⟩, rfl, ?_⟩, ?_⟩
      · simp only; omega
      · simp only; omega
      · unfold PhiL
        rw [hmn]
        refine ⟨rfl, ?_, hnt, ?_, .inl ⟨by rw [hrr], Nat.zero_le _⟩⟩
        · rw [← hst, hT0]; exact h0
        · rw [← hst, hT0]; exact Nat.zero_le _
      · exact hS.pt.cells.c6.trans (by simp only; rw [h2])
    · simp at hz3
/-- Behind a machine's step. -/
def LStep (l : List Aq) (lb : Nat) (r : Rn) (w0 : World) (b c k : Nat) (N : Int) (x : Mach) (w : World) (m : M) (e : Ending) (w' : World) : Prop :=
  ∃ x' : Mach, x'.xb = x.xb ∧ e = .returned (.bool (decide (l.length ≤ (mnext l r m).1.at_))) ∧ Mac w0 b c k N x'.xb x'.t w' (mnext l r m).2 x'.s x'.f x'.fin x'.out ∧ Lm l lb (mnext l r m).1 x' ∧ x'.fin = decide (l.length ≤ (mnext l r m).1.at_) ∧ But5 b c k x.xb x.t w w' ∧ Row2 w x.t x'.t
theorem lstep_any {w0 : World} {b c k : Nat} {N : Int} {w : World} {m : M} {x : Mach} {lb cap : Nat} {ad : Option Addr} {l : List Aq} {r : Rn} (h : Mac w0 b c k N x.xb x.t w m x.s x.f x.fin x.out) (hx : Lm l lb r x) (HT : TabAt w0) (hN : N ≤ 990000)
    (hL : Asks w0 ad l) (hK : AsksOk l) (hl : l.length ≤ 40) (hq : w.cell? ⟨lb, 0, none⟩ = some (.slice ad l.length cap)) (hqn : lb ≠ b ∧ lb ≠ c ∧ lb ≠ k ∧ lb ≠ x.xb ∧ some lb ≠ x.t.ownBlock) :
    Calls Tryd.prog 16 #[.pointer (some ⟨x.xb, 0, none⟩)] w fun e w' => LStep l lb r w0 b c k (N + 42) x w m e w' := by
  cases hf : x.fin with
  | true =>
    obtain ⟨g1, g2⟩ := hx.fin hf
    have hmn := mnext_end g1 m
    have h' := h
    rw [hf] at h'
    refine (step_done h').mono ?_
    rintro e w' ⟨rfl, rfl⟩
    refine ⟨x, rfl, ?_, ?_, ?_, ?_, But5.refl _ _ _ _ _ _, Row2.refl _ _⟩
    · rw [hmn, decide_eq_true g1]
    · rw [hmn]; exact h.less (by omega)
    · rw [hmn]; exact hx
    · rw [hmn, decide_eq_true g1]; exact hf
  | false =>
    obtain ⟨g1, g2, g3, g4, g5, g6, g7⟩ := hx.run hf
    have h' := h
    rw [hf, g1] at h'
    unfold caps31 at h'
    have hnz := h.sys.pt
    refine (step_run h' (PhiL l r m) enter_31 (N + 42) (fun w1 hS hB => ?_)).mono ?_
    · have hq1 : w1.cell? ⟨lb, 0, none⟩ = some (.slice ad l.length cap) := by
        rw [World.cell?_of_block (w := w) (a := ⟨lb, 0, none⟩) (hB.block lb (World.block_lt_of_cell? w _ hq) hqn.2.2.2.1)]; exact hq
      exact lstep_fn (s := x.s.fresh) hS HT hN rfl rfl rfl g2 g3 g4 g5 g6 hx.nt (by show x.s.told.length ≤ l.length; rw [g5]; exact hx.sl) hL hK hl hq1 hqn
    · rintro e w' ⟨t', m', s', hc, hk, hr⟩
      rcases hc with ⟨v, rfl, s1, hφ, hp, hn, hM2⟩ | ⟨rfl, hφ, hM2⟩
      · obtain ⟨p1, p2, p3, p4, p5⟩ := hφ
        rcases p5 with ⟨ev, hge⟩ | ⟨ev, _⟩
        · cases ev
          refine ⟨⟨x.xb, t', s', .nilFunc, true, .iface 32 (mnext l r m).1.v⟩, rfl, by rw [decide_eq_true hge], by rw [← p1]; exact hM2, ⟨fun e => (by cases e), fun _ => ⟨hge, rfl⟩, hp.trans p2, hn.trans p3, p4⟩, (decide_eq_true hge).symm, hk, hr⟩
        · cases ev
      · obtain ⟨p1, p2, p3, p4, p5⟩ := hφ
        rcases p5 with ⟨ev, _⟩ | ⟨_, q1, q2, q3, q4, q5⟩
        · cases ev
        · refine ⟨⟨x.xb, t', s', caps31 lb, false, x.out⟩, rfl, by rw [decide_eq_false (by omega)], by rw [← p1]; exact hM2, ⟨fun _ => ⟨rfl, q2, q3, q4, q5, .inl q1, g7⟩, fun e => (by cases e), p2, p3, p4⟩, (decide_eq_false (by omega)).symm, hk, hr⟩
end Go.Proofs.YthdcilbbllldiaaDoor
