/- Programs that note: asks, and numbers noted between them; how a step of a machine goes through one. No condition. -/
import Derived.Test.YtgjkkbgdkdipgaaDoorLwD
namespace Go.Proofs.YtgjkkbgdkdipgaaDoor
open Go.RowKit Go.Op
set_option maxRecDepth 100000

inductive Pn (α : Type) where
  | ret (a : α)
  | ask (q : Qn) (k : An → Pn α)
  | note (n : Int) (p : Pn α)
def Pr.then {α β : Type} : Pr α → (α → Pn β) → Pn β
  | .ret a, f => f a
  | .ask q k, f => .ask q fun a => (k a).then f
def Pn.run {α : Type} : Pn α → Pt → M → Option α × Pt × M
  | .ret a, s, m => (some a, s, m)
  | .ask q k, s, m => match s.ask q m with
    | (some a, s', m') => (k a).run s' m'
    | (none, s', m') => (none, s', m')
  | .note n p, s, m => p.run { s with noted := n } m
theorem Pn.run_ask {α : Type} (q : Qn) (k : An → Pn α) (s : Pt) (m : M) : (Pn.ask q k).run s m = match s.ask q m with
    | (some a, s', m') => (k a).run s' m'
    | (none, s', m') => (none, s', m') := by simp only [Pn.run]
theorem Pn.run_note {α : Type} (n : Int) (p : Pn α) (s : Pt) (m : M) : (Pn.note n p).run s m = p.run { s with noted := n } m := rfl
theorem Pr.run_then {α β : Type} (f : α → Pn β) : ∀ (p : Pr α) (s : Pt) (m : M), (p.then f).run s m = match p.run s m with
    | (some a, s', m') => (f a).run s' m'
    | (none, s', m') => (none, s', m')
  | .ret a, s, m => rfl
  | .ask q k, s, m => by
    show (Pn.ask q fun a => (k a).then f).run s m = _
    rw [Pn.run_ask, Pr.run_ask]
    generalize s.ask q m = u
    obtain ⟨_ | a, s', m'⟩ := u
    · rfl
    · exact Pr.run_then f (k a) s' m'
theorem Pr.then_some {α β : Type} {f : α → Pn β} {p : Pr α} {s s1 : Pt} {m m1 : M} {a : α} (h : p.run s m = (some a, s1, m1)) : (p.then f).run s m = (f a).run s1 m1 := by rw [Pr.run_then, h]
theorem Pr.then_none {α β : Type} {f : α → Pn β} {p : Pr α} {s s1 : Pt} {m m1 : M} (h : p.run s m = (none, s1, m1)) : (p.then f).run s m = (none, s1, m1) := by rw [Pr.run_then, h]
theorem Pn.ask_some {α : Type} {q : Qn} {k : An → Pn α} {s s1 : Pt} {m m1 : M} {a : An} (h : s.ask q m = (some a, s1, m1)) : (Pn.ask q k).run s m = (k a).run s1 m1 := by rw [Pn.run_ask, h]
theorem Pn.ask_none {α : Type} {q : Qn} {k : An → Pn α} {s s1 : Pt} {m m1 : M} (h : s.ask q m = (none, s1, m1)) : (Pn.ask q k).run s m = (none, s1, m1) := by rw [Pn.run_ask, h]
theorem Pn.run_facts {α : Type} : ∀ (p : Pn α) (s : Pt) (m : M), RunF s m (p.run s m)
  | .ret a, s, m => ⟨rfl, rfl, fun _ => rfl, Int.le_refl _⟩
  | .note n p, s, m => by
    have h := Pn.run_facts p { s with noted := n } m
    exact ⟨h.ext, h.keeps, h.live, h.cnt⟩
  | .ask q k, s, m => by
    obtain ⟨h1, h2⟩ := ask_facts s q m
    obtain ⟨h3, _, h4⟩ := ask_count s q m
    rw [Pn.run_ask]
    generalize s.ask q m = u at h1 h2 h3 h4 ⊢
    obtain ⟨_ | a, s', m'⟩ := u
    · exact ⟨h4, h1, fun e => (by cases e), h3⟩
    · have ih := Pn.run_facts (k a) s' m'
      show RunF s m ((k a).run s' m')
      exact ⟨ih.ext.trans h4, ih.keeps.trans h1, fun e => (ih.live e).trans (h2 rfl), Int.le_trans h3 ih.cnt⟩
/-- Behind the notes at its head; what is noted then. -/
def Pn.skip {α : Type} : Pn α → Pn α
  | .note _ p => p.skip
  | p => p
def Pn.nt {α : Type} (z : Int) : Pn α → Int
  | .note n p => p.nt n
  | _ => z
theorem Pn.run_skip {α : Type} : ∀ (p : Pn α) (s : Pt) (m : M), p.run s m = p.skip.run { s with noted := p.nt s.noted } m
  | .ret a, s, m => rfl
  | .ask q k, s, m => rfl
  | .note n p, s, m => by
    rw [Pn.run_note]
    exact Pn.run_skip p { s with noted := n } m
theorem Pn.skip_not {α : Type} : ∀ (p : Pn α) {n : Int} {p2 : Pn α}, p.skip ≠ .note n p2
  | .ret a, _, _ => by intro e; cases e
  | .ask q k, _, _ => by intro e; cases e
  | .note n p, _, _ => Pn.skip_not p
/-- What is left behind some answers; what is noted by then; that it asks so often. -/
def Pn.rest {α : Type} : Pn α → List An → Pn α
  | p, [] => p.skip
  | p, a :: l => match p.skip with
    | .ask _ k => (k a).rest l
    | p2 => p2
def Pn.nts {α : Type} : Int → Pn α → List An → Int
  | z, p, [] => p.nt z
  | z, p, a :: l => match p.skip with
    | .ask _ k => Pn.nts (p.nt z) (k a) l
    | _ => p.nt z
def Pn.goes {α : Type} : Pn α → List An → Prop
  | _, [] => True
  | p, a :: l => match p.skip with
    | .ask _ k => (k a).goes l
    | _ => False
theorem Pn.goes_ask {α : Type} {p : Pn α} {a : An} {l : List An} (h : p.goes (a :: l)) : ∃ q k, p.skip = .ask q k ∧ (k a).goes l := by
  unfold Pn.goes at h
  split at h
  · rename_i q k e
    exact ⟨q, k, e, h⟩
  · exact h.elim
theorem Pn.rest_snoc {α : Type} {q : Qn} {k : An → Pn α} (a : An) : ∀ (l : List An) (p : Pn α) (z : Int), p.goes l → p.rest l = .ask q k → p.rest (l ++ [a]) = (k a).skip ∧ p.goes (l ++ [a]) ∧ Pn.nts z p (l ++ [a]) = (k a).nt (Pn.nts z p l)
  | [], p, z, _, h => by
    have e : p.skip = .ask q k := h
    simp only [List.nil_append, Pn.rest, Pn.goes, Pn.nts, e, and_self]
  | x :: l, p, z, hg, h => by
    obtain ⟨q2, k2, e, hg2⟩ := Pn.goes_ask hg
    have h2 : (k2 x).rest l = .ask q k := by
      have : p.rest (x :: l) = (k2 x).rest l := by simp only [Pn.rest, e]
      rw [← this]; exact h
    obtain ⟨i1, i2, i3⟩ := Pn.rest_snoc a l (k2 x) (p.nt z) hg2 h2
    simp only [List.cons_append, Pn.rest, Pn.goes, Pn.nts, e]
    exact ⟨i1, i2, i3⟩
/-- Notes are either none, or the last one counts. -/
theorem Pn.nt_or {α : Type} : ∀ p : Pn α, (∃ c, ∀ z, p.nt z = c) ∨ ∀ z, p.nt z = z
  | .ret _ => .inr fun _ => rfl
  | .ask _ _ => .inr fun _ => rfl
  | .note n p => .inl ⟨p.nt n, fun _ => rfl⟩
theorem Pn.nts_or {α : Type} : ∀ (l : List An) (p : Pn α), (∃ c, ∀ z, Pn.nts z p l = c) ∨ ∀ z, Pn.nts z p l = z
  | [], p => Pn.nt_or p
  | a :: l, p => by
    simp only [Pn.nts]
    cases hs : p.skip with
    | ask q k =>
      simp only
      rcases Pn.nts_or l (k a) with ⟨c, h⟩ | h
      · exact .inl ⟨c, fun z => h _⟩
      · rcases Pn.nt_or p with ⟨c, h2⟩ | h2
        · exact .inl ⟨c, fun z => by rw [h, h2]⟩
        · exact .inr fun z => by rw [h, h2]
    | ret _ => exact Pn.nt_or p
    | note n p2 => exact absurd hs (Pn.skip_not p)
theorem Pn.nts_again {α : Type} (z : Int) (p : Pn α) (l : List An) : Pn.nts (Pn.nts z p l) p l = Pn.nts z p l := by
  rcases Pn.nts_or l p with ⟨c, h⟩ | h
  · rw [h, h]
  · rw [h, h]
theorem Pn.run_told {α : Type} : ∀ (l pre : List An) (p : Pn α) (s : Pt) (m : M), p.goes l → s.told = pre ++ l → s.place = pre.length → p.run s m = (p.rest l).run { s with place := s.told.length, noted := Pn.nts s.noted p l } m
  | [], pre, p, s, m, _, ht, hp => by
    rw [Pn.run_skip]
    have : s.place = s.told.length := by rw [hp, ht]; simp
    show p.skip.run { s with noted := p.nt s.noted } m = p.skip.run { s with place := s.told.length, noted := p.nt s.noted } m
    rw [← this]
  | a :: l, pre, p, s, m, hg, ht, hp => by
    obtain ⟨q, k, e, hg2⟩ := Pn.goes_ask hg
    have hx : s.told[s.place]? = some a := by rw [ht, hp]; simp
    rw [Pn.run_skip, e, Pn.run_ask, Pt.ask_told (s := { s with noted := p.nt s.noted }) hx]
    simp only
    rw [Pn.run_told l (pre ++ [a]) (k a) { s with place := s.place + 1, noted := p.nt s.noted } m hg2 (by simp [ht]) (by simp [hp])]
    simp only [Pn.rest, Pn.nts, e]
section
variable {α : Type} {p : Pn α} {s : Pt} {m : M} {q : Qn} {k : An → Pn α}
/-- One step more. -/
theorem Pn.run_more (h : Fresh s) (hg : p.goes s.told) (hr : p.rest s.told = .ask q k) {z : Int} (hz : s.noted = Pn.nts z p s.told) :
    p.run s m = (k (q.on m).2).run { s with told := s.told ++ [(q.on m).2], place := s.told.length + 1, spent := true } (q.on m).1 := by
  rw [Pn.run_told s.told [] p s m hg rfl h.place, hr, Pn.run_ask, Pt.ask_keep (s := { s with place := s.told.length, noted := Pn.nts s.noted p s.told }) (by simp) h.spent h.keeps]
  simp only
  rw [hz, Pn.nts_again, ← hz]
theorem Pn.run_end (h : Fresh s) (hg : p.goes s.told) (hr : p.rest s.told = .ask q k) {z : Int} (hz : s.noted = Pn.nts z p s.told) {b : α} (hk : (k (q.on m).2).skip = .ret b) :
    p.run s m = (some b, { s with told := s.told ++ [(q.on m).2], place := s.told.length + 1, spent := true, noted := (k (q.on m).2).nt s.noted }, (q.on m).1) := by
  rw [Pn.run_more h hg hr hz, Pn.run_skip, hk]
  rfl
theorem Pn.run_on (h : Fresh s) (hg : p.goes s.told) (hr : p.rest s.told = .ask q k) {z : Int} (hz : s.noted = Pn.nts z p s.told) {q2 : Qn} {k2 : An → Pn α} (hk : (k (q.on m).2).skip = .ask q2 k2) :
    p.run s m = (none, { s with told := s.told ++ [(q.on m).2], place := s.told.length + 1, spent := true, halted := true, noted := (k (q.on m).2).nt s.noted }, (q.on m).1) := by
  rw [Pn.run_more h hg hr hz, Pn.run_skip, hk, Pn.run_ask, Pt.ask_halt (by simp) rfl]
end
/-- Where a machine stands in its program: what comes next, what is noted, how many steps it did. -/
structure MAt {α : Type} (p : Pn α) (x : Mach) (cur : Pn α) (N : Int) (n : Nat) : Prop where
  keeps : x.s.keeps = true
  goes : p.goes x.s.e.told
  rest : p.rest x.s.e.told = cur
  noted : x.s.noted = N
  nts : N = Pn.nts 0 p x.s.e.told
  len : x.s.e.told.length = n
  place : x.s.place = n
theorem MAt.start {α : Type} (p : Pn α) (xb : Nat) (f : Value) (hp : p.nt 0 = 0) : MAt p (mach0 xb f) p.skip 0 0 :=
  ⟨rfl, trivial, rfl, rfl, hp.symm, rfl, rfl⟩
section
variable {w0 : World} {b c r : Nat} {G G' : List (Nat × List Sw)} {w w' : World} {m m' : M} {L : List Mach} {α : Type} {p : Pn α} {q : Qn} {k : An → Pn α} {N : Int} {n : Nat} {x : Mach}
/-- Behind a step of a machine. -/
structure Went (w0 : World) (b c r : Nat) (G : List (Nat × List Sw)) (w : World) (L : List Mach) (i : Nat) (x : Mach) (p : Pn α) (R : α → Value → Prop) (m' : M) (next : Pn α) (N' : Int) (n' : Nat) (e : Ending) (w' : World) (y : Mach) (G' : List (Nat × List Sw)) : Prop where
  xb : y.xb = x.xb
  team : TeamE w0 b c r G' w' m' (L.set i y)
  but : But5 b c r x.xb x.t w w'
  row : Row2 w x.t y.t
  gro : Grow w G G'
  noted : y.s.noted = N'
  place : y.s.place = n'
  out : (∃ a, next = .ret a ∧ e = .returned (.bool true) ∧ y.fin = true ∧ R a y.out) ∨ (∃ q2 k2, next = .ask q2 k2 ∧ e = .returned (.bool false) ∧ y.fin = false ∧ y.f = x.f ∧ MAt p y next N' n')
theorem TeamE.went (h : TeamE w0 b c r G w m L) {i : Nat} (hi : L[i]? = some x) (hfin : x.fin = false) (hM : MAt p x (.ask q k) N n) {fk : FuncId} {caps : Array Value} (hf : x.f = .func (.func fk) #[] caps) (he : ∀ zs w, (callFunc fk zs).run Tryd.prog w = .ok (.enter fk zs) w)
    (R : α → Value → Prop) (hR : ∀ a v, R a v → ∃ ty u, v = .iface ty u) (hc : (q.on m).1.count ≤ 900000)
    (hfn : ∀ w1 s1, SysE w0 b c r x.xb 1 x.t G w1 m s1 → s1.halted = false → But x.xb w w1 → Calls Tryd.prog fk (#[.pointer (some ⟨x.xb, 1, none⟩)] ++ caps) w1 fun e w' => Ev w0 b c r x.xb 1 x.t G w1 (fun _ => R) (p.run s1 m) e w') :
    Calls Tryd.prog 31 #[.pointer (some ⟨x.xb, 0, none⟩)] w fun e w' => ∃ y G', Went w0 b c r G w L i x p R (q.on m).1 (k (q.on m).2).skip ((k (q.on m).2).nt N) (n + 1) e w' y G' := by
  have hF : Fresh x.s.fresh.e := ⟨hM.keeps, rfl, rfl⟩
  have hn : x.s.fresh.e.noted = Pn.nts 0 p x.s.fresh.e.told := hM.noted.trans hM.nts
  have hcnt : (p.run x.s.fresh.e m).2.2 = (q.on m).1 := by
    cases hk : (k (q.on m).2).skip with
    | ret a => rw [Pn.run_end hF hM.goes hM.rest hn hk]
    | ask q2 k2 => rw [Pn.run_on hF hM.goes hM.rest hn hk]
    | note n2 p2 => exact absurd hk (Pn.skip_not _)
  refine (h.step hi hfin hf he R hR (p.run x.s.fresh.e m) (Pn.run_facts _ _ _) (by rw [hcnt]; exact hc) (fun w1 hS hB => hfn w1 _ hS rfl hB)).mono ?_
  rintro e w' ⟨y, G', hy⟩
  obtain ⟨s1, s2, s3⟩ := Pn.rest_snoc (q.on m).2 x.s.e.told p 0 hM.goes hM.rest
  suffices key : y.s.noted = (k (q.on m).2).nt N ∧ y.s.place = n + 1 ∧ ((∃ a, (k (q.on m).2).skip = .ret a ∧ e = .returned (.bool true) ∧ y.fin = true ∧ R a y.out) ∨ (∃ q2 k2, (k (q.on m).2).skip = .ask q2 k2 ∧ e = .returned (.bool false) ∧ y.fin = false ∧ y.f = x.f ∧ MAt p y (k (q.on m).2).skip ((k (q.on m).2).nt N) (n + 1))) from
    ⟨y, G', hy.xb, by have := hy.team; rw [hcnt] at this; exact this, hy.but, hy.row, hy.gro, key.1, key.2.1, key.2.2⟩
  have e1 : x.s.fresh.e.noted = N := hM.noted
  have e2 : x.s.fresh.e.told = x.s.e.told := rfl
  cases hk : (k (q.on m).2).skip with
  | note n2 p2 => exact absurd hk (Pn.skip_not _)
  | ret a =>
    have hr := Pn.run_end hF hM.goes hM.rest hn hk
    rcases hy.out with ⟨a', o1, o2, o3, o4, o5, o6⟩ | ⟨o1, -⟩
    · rw [hr] at o1 o5 o6
      simp only [Option.some.injEq] at o1 o5 o6
      subst o1
      rw [e1] at o6
      rw [e2, hM.len] at o5
      exact ⟨o6, o5, .inl ⟨a, rfl, o2, o3, o4⟩⟩
    · rw [hr] at o1; cases o1
  | ask q2 k2 =>
    have hr := Pn.run_on hF hM.goes hM.rest hn hk
    rcases hy.out with ⟨a', o1, -⟩ | ⟨o1, o2, o3, o4, o5, o6⟩
    · rw [hr] at o1; cases o1
    · rw [hr] at o6
      simp only at o6
      rw [e1, e2, hM.len] at o6
      have f1 : y.s.noted = (k (q.on m).2).nt N := by
        have := congrArg Pt.noted o6
        exact this
      have f2 : y.s.place = n + 1 := by
        have := congrArg Pt.place o6
        exact this
      have f3 : y.s.e.told = x.s.e.told ++ [(q.on m).2] := by rw [o6]
      have f4 : y.s.keeps = true := by
        have := congrArg Pt.keeps o6
        exact this.trans hM.keeps
      exact ⟨f1, f2, .inr ⟨q2, k2, rfl, o2, o3, o4, ⟨f4, by rw [f3]; exact s2, by rw [f3, s1, hk], f1, by rw [f3, s3, ← hM.nts], by rw [f3, List.length_append, hM.len]; rfl, f2⟩⟩⟩
end
end Go.Proofs.YtgjkkbgdkdipgaaDoor
