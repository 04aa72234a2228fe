/- Many helpers, memory alone: one ask of a helper. Conditions: each change is a change; there is room. -/
import Derived.Test.YteiikkkcjpfapaaDoorRd
import Derived.Test.YteiikkkcjpfapaaDoorTn
import Derived.Test.YteiikkkcjpfapaaDoorOpen
namespace Go.Proofs.YteiikkkcjpfapaaDoor
open Go.RowKit Go.Op
set_option maxRecDepth 100000

/-- In the midst of helping: each cell holds its old word or its new one; all new where the status says done. -/
structure Half (m : M) (hs : List Int) (st : Int) (x : Wg) : Prop where
  cell : ∀ (k : Nat) (h o n : Int), hs[k]? = some h → x.cells[k]? = some o → x.help.cells[k]? = some n → m.look h = some (.word o) ∨ m.look h = some (.word n)
  stat : m.look st = some (.word 0) ∨ m.look st = some (.word 1) ∧ ∀ (k : Nat) (h n : Int), hs[k]? = some h → x.help.cells[k]? = some n → m.look h = some (.word n)
  nd : hs.Nodup
  ns : st ∉ hs
  len : hs.length = 8
  fit : x.Fit
/-- A cell that holds its new word. -/
def IsNew (m : M) (hs : List Int) (x : Wg) (k : Nat) : Prop := ∀ (h n : Int), hs[k]? = some h → x.help.cells[k]? = some n → m.look h = some (.word n)
theorem setAll_get : ∀ (ws : List (Nat × Int)) (l : List Int) (p : Nat × Int), (ws.map (·.1)).Nodup → p ∈ ws → p.1 < l.length → (setAll l ws)[p.1]? = some p.2
  | [], _, _, _, h, _ => by simp at h
  | q :: ws, l, p, hn, h, hl => by
    simp only [List.map_cons, List.nodup_cons] at hn
    have e : setAll l (q :: ws) = setAll (l.set q.1 q.2) ws := rfl
    rw [e]
    rcases List.mem_cons.1 h with rfl | h2
    · have key : ∀ (vs : List (Nat × Int)) (l2 : List Int), p.1 ∉ vs.map (·.1) → (setAll l2 vs)[p.1]? = l2[p.1]? := by
        intro vs
        induction vs with
        | nil => intro l2 _; rfl
        | cons r vs ih =>
          intro l2 hr
          simp only [List.map_cons, List.mem_cons, not_or] at hr
          show (setAll (l2.set r.1 r.2) vs)[p.1]? = _
          rw [ih _ hr.2, List.getElem?_set_ne (fun e => hr.1 e.symm)]
      rw [key ws _ hn.1, List.getElem?_set_self hl]
    · exact setAll_get ws _ p hn.2 h2 (by simpa using hl)
theorem Half.same {m m' : M} {hs : List Int} {st : Int} {x : Wg} (h : Half m hs st x) (hl : ∀ k, (m.look k).isSome = true → m'.look k = m.look k) : Half m' hs st x := by
  have g : ∀ {k v}, m.look k = some v → m'.look k = some v := fun e => by rw [hl _ (by rw [e]; rfl)]; exact e
  exact ⟨fun k a o n h1 h2 h3 => (h.cell k a o n h1 h2 h3).imp g g, h.stat.imp g fun ⟨e, q⟩ => ⟨g e, fun k a n h1 h2 => g (q k a n h1 h2)⟩, h.nd, h.ns, h.len, h.fit⟩
/-- One swap of a helper. -/
theorem half_swap {N : Nat} {m : M} {hs : List Int} {st : Int} {x : Wg} {c l : Int} (h : Half m hs st x) (hf : Fine N m c l) (hk : (x.wait.map (·.1)).Nodup) {p : Nat × Int} (hp : p ∈ x.wait) (hne : ∀ o, x.cells[p.1]? = some o → o ≠ p.2) :
    ∃ m' ok, (Qn.swap (hs.getD p.1 0) (x.cells.getD p.1 0) p.2).on m = (m', ⟨.no, 0, ok, 0⟩) ∧ Half m' hs st x ∧ Fine N m' (c + 1) l ∧ IsNew m' hs x p.1 ∧ (∀ k, IsNew m hs x k → IsNew m' hs x k) ∧ ∀ k, k ∉ hs → m'.look k = m.look k := by
  have hp8 := h.fit.mem p hp
  obtain ⟨a, ha⟩ : ∃ a, hs[p.1]? = some a := ⟨_, List.getElem?_eq_getElem (by have := h.len; omega)⟩
  obtain ⟨o, ho⟩ : ∃ o, x.cells[p.1]? = some o := ⟨_, List.getElem?_eq_getElem (by have := h.fit.len; omega)⟩
  have hn : x.help.cells[p.1]? = some p.2 := setAll_get x.wait x.cells p hk hp (by have := h.fit.len; omega)
  have hon := hne o ho
  have ham := List.mem_of_getElem? ha
  rw [show hs.getD p.1 0 = a by simp [List.getD, ha], show x.cells.getD p.1 0 = o by simp [List.getD, ho]]
  rcases h.cell p.1 a o p.2 ha ho hn with e | e
  · obtain ⟨m', e1, q1, q2, q3, q4, q5⟩ := swap_yes (n := p.2) e
    have keep : ∀ k, k ≠ a → m'.look k = m.look k := fun k hk => by rw [q1, if_neg hk]
    have hnew : ∀ (k : Nat) (b n : Int), hs[k]? = some b → x.help.cells[k]? = some n → m.look b = some (.word n) → m'.look b = some (.word n) := fun k b n h1 h2 h3 => by
      by_cases hba : b = a
      · subst hba
        have := nodup_get h.nd h1 ha
        subst this
        rw [hn] at h2
        cases h2
        rw [q1, if_pos rfl]
      · rw [keep b hba]; exact h3
    refine ⟨m', true, by simp only [Qn.on, e1], ⟨fun k b o' n h1 h2 h3 => ?_, ?_, h.nd, h.ns, h.len, h.fit⟩, ⟨q2 hf.tidy, q4.trans hf.len, by have := hf.cnt; omega, q3.trans hf.liv⟩, fun b n h1 h2 => ?_, fun k hk b n h1 h2 => hnew k b n h1 h2 (hk b n h1 h2), fun k hk => keep k fun e => hk (by rw [e]; exact ham)⟩
    · by_cases hba : b = a
      · subst hba
        have := nodup_get h.nd h1 ha
        subst this
        rw [hn] at h3
        cases h3
        exact .inr (by rw [q1, if_pos rfl])
      · rw [keep b hba]; exact h.cell k b o' n h1 h2 h3
    · have hsa : st ≠ a := fun e => h.ns (by rw [e]; exact ham)
      rw [keep st hsa]
      exact h.stat.imp id fun ⟨e, q⟩ => ⟨e, fun k b n h1 h2 => hnew k b n h1 h2 (q k b n h1 h2)⟩
    · rw [ha] at h1
      cases h1
      rw [hn] at h2
      cases h2
      rw [q1, if_pos rfl]
  · have e1 := swap_no (o := o) (n := p.2) e (fun e => hon e.symm)
    have f1 := hf.more 1
    have hs1 : ∀ k, (m.more 1).look k = m.look k := fun k => more_look m 1 k
    refine ⟨m.more 1, false, by simp only [Qn.on, e1, ask_more], h.same fun k _ => hs1 k, ⟨f1.tidy, f1.len, by have := f1.cnt; omega, f1.liv⟩, fun b n h1 h2 => ?_, fun k hk b n h1 h2 => (hs1 b).trans (hk b n h1 h2), fun k _ => hs1 k⟩
    rw [ha] at h1
    cases h1
    rw [hn] at h2
    cases h2
    rw [hs1]; exact e
theorem setAll_not : ∀ (vs : List (Nat × Int)) (l : List Int) (k : Nat), k ∉ vs.map (·.1) → (setAll l vs)[k]? = l[k]?
  | [], _, _, _ => rfl
  | r :: vs, l, k, hr => by
    simp only [List.map_cons, List.mem_cons, not_or] at hr
    show (setAll (l.set r.1 r.2) vs)[k]? = _
    rw [setAll_not vs _ k hr.2, List.getElem?_set_ne (fun e => hr.1 e.symm)]
theorem Half.all {m : M} {hs : List Int} {st : Int} {x : Wg} (h : Half m hs st x) (hw : ∀ p ∈ x.wait, IsNew m hs x p.1) : ∀ (k : Nat) (a n : Int), hs[k]? = some a → x.help.cells[k]? = some n → m.look a = some (.word n) := fun k a n h1 h2 => by
  by_cases hk : k ∈ x.wait.map (·.1)
  · obtain ⟨p, hp, e⟩ := List.mem_map.1 hk
    subst e
    exact hw p hp a n h1 h2
  · have e : x.help.cells[k]? = x.cells[k]? := setAll_not x.wait x.cells k hk
    exact (h.cell k a n n h1 (by rw [← e]; exact h2) h2).elim id id
/-- The last swap of a helper: the status. -/
theorem half_stat {N : Nat} {m : M} {hs : List Int} {st : Int} {x : Wg} {c l : Int} (h : Half m hs st x) (hf : Fine N m c l) (hw : ∀ p ∈ x.wait, IsNew m hs x p.1) :
    ∃ m' ok, (Qn.swap st 0 1).on m = (m', ⟨.no, 0, ok, 0⟩) ∧ Half m' hs st x ∧ m'.look st = some (.word 1) ∧ Fine N m' (c + 1) l ∧ ∀ k, k ≠ st → m'.look k = m.look k := by
  have hall := h.all hw
  rcases h.stat with e | ⟨e, -⟩
  · obtain ⟨m', e1, q1, q2, q3, q4, q5⟩ := swap_yes (n := 1) e
    have keep : ∀ k, k ≠ st → m'.look k = m.look k := fun k hk => by rw [q1, if_neg hk]
    have hne : ∀ (k : Nat) (a : Int), hs[k]? = some a → a ≠ st := fun k a h1 e => h.ns (by rw [← e]; exact List.mem_of_getElem? h1)
    refine ⟨m', true, by simp only [Qn.on, e1], ⟨fun k a o n h1 h2 h3 => by rw [keep a (hne k a h1)]; exact h.cell k a o n h1 h2 h3, .inr ⟨by rw [q1, if_pos rfl], fun k a n h1 h2 => by rw [keep a (hne k a h1)]; exact hall k a n h1 h2⟩, h.nd, h.ns, h.len, h.fit⟩, by rw [q1, if_pos rfl], ⟨q2 hf.tidy, q4.trans hf.len, by have := hf.cnt; omega, q3.trans hf.liv⟩, keep⟩
  · have e1 := swap_no (o := 0) (n := 1) e (by decide)
    have f1 := hf.more 1
    have hs1 : ∀ k, (m.more 1).look k = m.look k := fun k => more_look m 1 k
    exact ⟨m.more 1, false, by simp only [Qn.on, e1, ask_more], h.same fun k _ => hs1 k, (hs1 st).trans e, ⟨f1.tidy, f1.len, by have := f1.cnt; omega, f1.liv⟩, fun k _ => hs1 k⟩
/-- All of Help, where others have helped. -/
theorem half_help {N : Nat} {hs : List Int} {st : Int} {x : Wg} (hk : (x.wait.map (·.1)).Nodup) (hne : ∀ p ∈ x.wait, ∀ o, x.cells[p.1]? = some o → o ≠ p.2) : ∀ (ws pre : List (Nat × Int)) (m : M) (c l : Int), x.wait = pre ++ ws → Half m hs st x → Fine N m c l → (∀ p ∈ pre, IsNew m hs x p.1) →
    ∃ m', (helpL st (swapsOf hs x.cells ws)).go m = (0, m') ∧ Half m' hs st x ∧ m'.look st = some (.word 1) ∧ Fine N m' (c + ws.length + 1) l ∧ ∀ k, k ≠ st → k ∉ hs → m'.look k = m.look k
  | [], pre, m, c, l, e, h, hf, hw => by
    obtain ⟨m', ok, g1, g2, g3, g4, g5⟩ := half_stat h hf (fun p hp => hw p (by rw [e, List.append_nil] at hp; exact hp))
    exact ⟨m', by simp only [swapsOf, List.map_nil, helpL_nil, Pr.go, g1], g2, g3, ⟨g4.tidy, g4.len, by have := g4.cnt; simp only [List.length_nil]; omega, g4.liv⟩, fun k h1 _ => g5 k h1⟩
  | p :: ws, pre, m, c, l, e, h, hf, hw => by
    have hp : p ∈ x.wait := by rw [e]; simp
    obtain ⟨m1, ok, g1, g2, g3, g4, g5, g6⟩ := half_swap h hf hk hp (hne p hp)
    obtain ⟨m', k1, k2, k3, k4, k5⟩ := half_help hk hne ws (pre ++ [p]) m1 (c + 1) l (by rw [e]; simp) g2 g3 (fun q hq => by
      rcases List.mem_append.1 hq with h1 | h1
      · exact g5 _ (hw q h1)
      · simp at h1; subst h1; exact g4)
    refine ⟨m', ?_, k2, k3, ⟨k4.tidy, k4.len, by have := k4.cnt; simp only [List.length_cons]; push_cast at *; omega, k4.liv⟩, fun k h1 h2 => (k5 k h1 h2).trans (g6 k h2)⟩
    have e1 : swapsOf hs x.cells (p :: ws) = ⟨hs.getD p.1 0, x.cells.getD p.1 0, p.2⟩ :: swapsOf hs x.cells ws := rfl
    rw [e1, helpL_cons]
    simp only [Pr.go, g1, if_true]
    exact k1
/-- What is left of Help behind some answers, none of them an error. -/
theorem help_rest (st : Int) : ∀ (l : List Sw) (told : List An), (∀ a ∈ told, a.err = 0) → told.length ≤ l.length → (helpL st l).rest told = helpL st (l.drop told.length) ∧ (helpL st l).goes told
  | l, [], _, _ => by simp [Pr.rest, Pr.goes]
  | [], a :: told, _, hl => by simp at hl
  | x :: l, a :: told, h, hl => by
    have ih := help_rest st l told (fun b hb => h b (by simp [hb])) (by simpa using hl)
    rw [helpL_cons]
    simp only [Pr.rest, Pr.goes, h a (by simp), if_true, List.length_cons, List.drop_succ_cons]
    exact ih
theorem help_over (st : Int) : ∀ (l : List Sw) (told : List An), (∀ a ∈ told, a.err = 0) → told.length = l.length + 1 → (helpL st l).rest told = .ret 0 ∧ (helpL st l).goes told
  | l, [], _, hl => by simp at hl
  | [], a :: told, h, hl => by
    have : told = [] := List.eq_nil_of_length_eq_zero (by simpa using hl)
    subst this
    rw [helpL_nil]
    simp [Pr.rest, Pr.goes, h a (by simp)]
  | x :: l, a :: told, h, hl => by
    have ih := help_over st l told (fun b hb => h b (by simp [hb])) (by simpa using hl)
    rw [helpL_cons]
    simp only [Pr.rest, Pr.goes, h a (by simp), if_true]
    exact ih
end Go.Proofs.YteiikkkcjpfapaaDoor
/- DescHelped's machines. Conditions: at most 700000 asks. -/
namespace Go.Proofs.YteiikkkcjpfapaaDoor
open Go.RowKit Go.Op
set_option maxRecDepth 100000

theorem mkb44h (x : Value) (w : World) : (Instr.makeInterface 44 x).run Tryd.prog w = .ok (.iface 44 x) w := run_makeInterface w 44 x (by kernel_rfl)
def RIf44 (_ : List (Nat × List Sw)) (a : Int) (v : Value) : Prop := v = .iface 44 (.int .i64 a)
theorem clo21 {w0 : World} {b c r pb po : Nat} {t : Value} {G : List (Nat × List Sw)} {w : World} {m : M} {s : Pt} (h : SysE w0 b c r pb po t G w m s) (hc : m.count ≤ 700000) (d : Ds) (hd : d.In G) (hn : d.n ≤ 90000) (zd : Nat) (hv : DVar w zd d) :
    Calls Tryd.prog 21 #[.pointer (some ⟨pb, po, none⟩), .pointer (some ⟨zd, 0, none⟩)] w fun e w' => Ev w0 b c r pb po t G w RIf44 ((helpP d).run s m) e w' := by
  have hl := help_E h hc d hd hn
  obtain ⟨c0, c1, c2, c3⟩ := hv.cells
  have mk := mkb44h
  unfold Ds.v at hl
  clear h hd hv
  go_enter Tryd.func21, Tryd.ntmps21
  go_wp2_with fail
  refine hl.mono ?_
  rintro e w1 hE
  rcases hE.cases with ⟨t1, G1, s1, m1, ho, rfl, ha⟩ | ⟨t1, G1, s1, m1, a, v, ho, rfl, rfl, ha⟩
  · have HE : Hid (Ev w0 b c r pb po t G w RIf44 ((helpP d).run s m) (Halt pb po) w1) := Ev.die ho ha
    clear hl hE ho ha
    unfold Halt
    go_wp2
    exact ⟨rfl, HE.out⟩
  · have HE : Hid (Ev w0 b c r pb po t G w RIf44 ((helpP d).run s m) (.returned (.iface 44 (.int .i64 a))) w1) := Ev.ret ho rfl ha
    clear hl hE ho ha
    go_wp2_with fail
    go_ret
    exact HE.out
/-- As Rel, in the midst of helping. -/
structure HRel (m : M) (top : Int) (hs : List Int) (x : Wg) (hh : Int) (d : Ds) : Prop where
  tp : m.look top = some (.word hh)
  desc : m.look hh = some (.desc d)
  half : Half m hs d.st x
  ver : d.ver = x.ver
  bf : d.bf = x.bf
  sw : d.sw = swapsOf hs x.cells x.wait
  nt : top ≠ d.st ∧ top ∉ hs
  keys : (x.wait.map (·.1)).Nodup
theorem Rel.half {m : M} {top : Int} {hs : List Int} {x : Wg} {hh : Int} {d : Ds} (h : Rel m top hs x hh d) (hd : x.done = false) : HRel m top hs x hh d := by
  have hst := h.st
  rw [hd] at hst
  exact ⟨h.tp, h.desc, ⟨fun k a o n h1 h2 _ => .inl (h.cell k a o h1 h2), .inl hst, h.nd, h.nt.2.2, h.len, h.fit⟩, h.ver, h.bf, h.sw hd, ⟨h.nt.1, h.nt.2.1⟩, h.keys⟩
theorem HRel.nhh {m : M} {top : Int} {hs : List Int} {x : Wg} {hh : Int} {d : Ds} (h : HRel m top hs x hh d) : hh ≠ d.st ∧ hh ∉ hs := by
  have k2 := h.desc
  refine ⟨fun e => ?_, fun hm => ?_⟩
  · rcases h.half.stat with q | ⟨q, -⟩ <;> (rw [← e, k2] at q; cases q)
  · obtain ⟨i, hi, e⟩ := List.mem_iff_getElem.1 hm
    have l8 := h.half.len
    have f8 := h.half.fit.len
    have n8 := h.half.fit.help.len
    have := h.half.cell i hh _ _ (by rw [List.getElem?_eq_getElem hi, e]) (List.getElem?_eq_getElem (by omega)) (List.getElem?_eq_getElem (by omega))
    rcases this with q | q <;> (rw [k2] at q; cases q)
/-- Where the status says done. -/
theorem HRel.rel {m : M} {top : Int} {hs : List Int} {x : Wg} {hh : Int} {d : Ds} (h : HRel m top hs x hh d) (hst : m.look d.st = some (.word 1)) : Rel m top hs x.help hh d := by
  have hall : ∀ (k : Nat) (a n : Int), hs[k]? = some a → x.help.cells[k]? = some n → m.look a = some (.word n) := by
    rcases h.half.stat with q | ⟨_, q⟩
    · rw [hst] at q; cases q
    · exact q
  exact ⟨h.tp, h.desc, hst, h.ver, h.bf, hall, fun e => by simp [Wg.help] at e, ⟨h.nt.1, h.nt.2, h.half.ns⟩, h.half.nd, h.half.len, h.half.fit.help, by simp [Wg.help]⟩
theorem HRel.move {m m' : M} {top : Int} {hs : List Int} {x : Wg} {hh : Int} {d : Ds} (h : HRel m top hs x hh d) (hh' : Half m' hs d.st x) (hl : ∀ k, k ≠ d.st → k ∉ hs → m'.look k = m.look k) : HRel m' top hs x hh d :=
  ⟨(hl _ h.nt.1 h.nt.2).trans h.tp, (hl _ h.nhh.1 h.nhh.2).trans h.desc, hh', h.ver, h.bf, h.sw, h.nt, h.keys⟩
/-- All of Help by a quiet port, where others have helped. -/
theorem hrel_help {N : Nat} {m : M} {top : Int} {hs : List Int} {x : Wg} {hh : Int} {d : Ds} {c l : Int} (h : HRel m top hs x hh d) (hne : ∀ p ∈ x.wait, ∀ o, x.cells[p.1]? = some o → o ≠ p.2) (hf : Fine N m c l) :
    ∃ m', (helpP d).go m = (0, m') ∧ Rel m' top hs x.help hh d ∧ Fine N m' (c + 9) l := by
  obtain ⟨m', g1, g2, g3, g4, g5⟩ := half_help h.keys hne x.wait [] m c l rfl h.half hf (fun p hp => by simp at hp)
  rw [← h.sw] at g1
  exact ⟨m', g1, (h.move g2 g5).rel g3, ⟨g4.tidy, g4.len, by have := g4.cnt; have := h.half.fit.wl; omega, g4.liv⟩⟩
/-- How far a helper is, by its log. -/
structure Far (m : M) (hs : List Int) (x : Wg) (st : Int) (told : List An) : Prop where
  err : ∀ a ∈ told, a.err = 0
  le : told.length ≤ x.wait.length + 1
  new : ∀ p ∈ x.wait.take told.length, IsNew m hs x p.1
  done : told.length = x.wait.length + 1 → m.look st = some (.word 1)
theorem helpL_ask (st : Int) (l : List Sw) : ∃ q k, helpL st l = .ask q k := by
  cases l with
  | nil => exact ⟨_, _, rfl⟩
  | cons y l => exact ⟨_, _, rfl⟩
/-- A helper's step. -/
theorem helper_step {N : Nat} {m : M} {top : Int} {hs : List Int} {x : Wg} {hh : Int} {d : Ds} {c l : Int} {s : Pt} (h : HRel m top hs x hh d) (hne : ∀ p ∈ x.wait, ∀ o, x.cells[p.1]? = some o → o ≠ p.2) (hf : Fine N m c l) (hp : Fresh s) (hw : Far m hs x d.st s.told) :
    ∃ o s' m', (helpP d).run s m = (o, s', m') ∧ HRel m' top hs x hh d ∧ Fine N m' (c + 1) l ∧ (∀ k, IsNew m hs x k → IsNew m' hs x k) ∧ (m.look d.st = some (.word 1) → m'.look d.st = some (.word 1)) ∧ Far m' hs x d.st s'.told ∧ (∀ v, o = some v → v = 0 ∧ m'.look d.st = some (.word 1)) := by
  have hlen : d.sw.length = x.wait.length := by rw [h.sw]; simp [swapsOf]
  have e0 : helpP d = helpL d.st d.sw := rfl
  rcases Nat.lt_or_ge x.wait.length s.told.length with h1 | h1
  · have h2 : s.told.length = x.wait.length + 1 := by have := hw.le; omega
    obtain ⟨g1, g2⟩ := help_over d.st d.sw s.told hw.err (by rw [hlen]; exact h2)
    have hr := Pr.run_ret (m := m) hp g2 g1
    exact ⟨_, { s with place := s.told.length }, _, by rw [e0]; exact hr, h, ⟨hf.tidy, hf.len, by have := hf.cnt; omega, hf.liv⟩, fun _ q => q, fun q => q, hw, fun v e => by cases e; exact ⟨rfl, hw.done h2⟩⟩
  · obtain ⟨g1, g2⟩ := help_rest d.st d.sw s.told hw.err (by rw [hlen]; exact h1)
    rcases Nat.lt_or_ge s.told.length x.wait.length with h3 | h3
    · obtain ⟨p, hpe⟩ : ∃ p, x.wait[s.told.length]? = some p := ⟨_, List.getElem?_eq_getElem h3⟩
      have hpm := List.mem_of_getElem? hpe
      have ed : d.sw.drop s.told.length = ⟨hs.getD p.1 0, x.cells.getD p.1 0, p.2⟩ :: d.sw.drop (s.told.length + 1) := by
        have : d.sw[s.told.length]? = some ⟨hs.getD p.1 0, x.cells.getD p.1 0, p.2⟩ := by rw [h.sw]; simp [swapsOf, hpe]
        obtain ⟨hl, e⟩ := List.getElem?_eq_some_iff.1 this
        rw [List.drop_eq_getElem_cons hl, e]
      rw [ed, helpL_cons] at g1
      obtain ⟨m', ok, k1, k2, k3, k4, k5, k6⟩ := half_swap h.half hf h.keys hpm (hne p hpm)
      obtain ⟨q2, kk, e2⟩ := helpL_ask d.st (d.sw.drop (s.told.length + 1))
      have hr := Pr.run_more (m := m) (q2 := q2) (k2 := kk) hp g2 g1 (by rw [k1]; simp only [if_true]; exact e2)
      rw [k1] at hr
      refine ⟨_, _, _, by rw [e0]; exact hr, h.move k2 fun k _ hk => k6 k hk, k3, k5, fun q => (k6 _ h.half.ns).trans q, ⟨fun a ha => ?_, by simp; omega, fun q hq => ?_, fun e => ?_⟩, fun v e => by cases e⟩
      · rcases List.mem_append.1 ha with h4 | h4
        · exact hw.err a h4
        · simp at h4; subst h4; rfl
      · simp only [List.length_append, List.length_cons, List.length_nil, Nat.zero_add] at hq
        rw [List.take_add_one, hpe] at hq
        rcases List.mem_append.1 hq with h4 | h4
        · exact k5 _ (hw.new q h4)
        · simp at h4; subst h4; exact k4
      · simp at e; omega
    · have h4 : s.told.length = x.wait.length := by omega
      rw [List.drop_eq_nil_of_le (by rw [hlen]; omega), helpL_nil] at g1
      obtain ⟨m', ok, k1, k2, k3, k4, k5⟩ := half_stat h.half hf (fun p hp => hw.new p (by rw [h4, List.take_length]; exact hp))
      have hr := Pr.run_last (m := m) (b := 0) hp g2 g1 (by rw [k1])
      rw [k1] at hr
      have hkeep : ∀ k, IsNew m hs x k → IsNew m' hs x k := fun k hk a n h1 h2 => (k5 a fun e => h.half.ns (by rw [← e]; exact List.mem_of_getElem? h1)).trans (hk a n h1 h2)
      refine ⟨_, _, _, by rw [e0]; exact hr, h.move k2 fun k hk _ => k5 k hk, k4, hkeep, fun _ => k3, ⟨fun a ha => ?_, by simp; omega, fun q hq => ?_, fun _ => k3⟩, fun v e => by cases e; exact ⟨rfl, k3⟩⟩
      · rcases List.mem_append.1 ha with h4 | h4
        · exact hw.err a h4
        · simp at h4; subst h4; rfl
      · exact hkeep _ (hw.new q (by
          rw [h4, List.take_length]
          exact List.mem_of_mem_take hq))
end Go.Proofs.YteiikkkcjpfapaaDoor
/- Helpers who are late; the round behind. Conditions: each change is a change. -/
namespace Go.Proofs.YteiikkkcjpfapaaDoor
open Go.RowKit Go.Op
set_option maxRecDepth 100000

/-- A helper's log. -/
structure Lag (x : Wg) (told : List An) : Prop where
  err : ∀ a ∈ told, a.err = 0
  le : told.length ≤ x.wait.length + 1
theorem Far.lag {m : M} {hs : List Int} {x : Wg} {st : Int} {told : List An} (h : Far m hs x st told) : Lag x told := ⟨h.err, h.le⟩
/-- Behind a descriptor: its cells that it changed hold its words, its status says done. -/
structure Past (m : M) (hs : List Int) (x : Wg) (st : Int) : Prop where
  new : ∀ p ∈ x.wait, IsNew m hs x p.1
  stat : m.look st = some (.word 1)
theorem Past.more {m : M} {hs : List Int} {x : Wg} {st : Int} (h : Past m hs x st) (k : Nat) : Past (m.more k) hs x st :=
  ⟨fun p hp a n h1 h2 => (more_look m k a).trans (h.new p hp a n h1 h2), (more_look m k st).trans h.stat⟩
/-- A late helper's step changes no word. -/
theorem late_step {m : M} {hs : List Int} {x : Wg} {d : Ds} {s : Pt} (h : Past m hs x d.st) (hsw : d.sw = swapsOf hs x.cells x.wait) (hk : (x.wait.map (·.1)).Nodup) (hf : x.Fit) (hl : hs.length = 8) (hne : ∀ p ∈ x.wait, ∀ o, x.cells[p.1]? = some o → o ≠ p.2) (hp : Fresh s) (hw : Lag x s.told) :
    ∃ o s' m', (helpP d).run s m = (o, s', m') ∧ (m' = m ∨ m' = m.more 1) ∧ Lag x s'.told := by
  have hlen : d.sw.length = x.wait.length := by rw [hsw]; simp [swapsOf]
  have e0 : helpP d = helpL d.st d.sw := rfl
  rcases Nat.lt_or_ge x.wait.length s.told.length with h1 | h1
  · have h2 : s.told.length = x.wait.length + 1 := by have := hw.le; omega
    obtain ⟨g1, g2⟩ := help_over d.st d.sw s.told hw.err (by rw [hlen]; exact h2)
    have hr := Pr.run_ret (m := m) hp g2 g1
    exact ⟨_, { s with place := s.told.length }, _, by rw [e0]; exact hr, .inl rfl, hw⟩
  · obtain ⟨g1, g2⟩ := help_rest d.st d.sw s.told hw.err (by rw [hlen]; exact h1)
    rcases Nat.lt_or_ge s.told.length x.wait.length with h3 | h3
    · obtain ⟨p, hpe⟩ : ∃ p, x.wait[s.told.length]? = some p := ⟨_, List.getElem?_eq_getElem h3⟩
      have hpm := List.mem_of_getElem? hpe
      have hp8 := hf.mem p hpm
      obtain ⟨a, ha⟩ : ∃ a, hs[p.1]? = some a := ⟨_, List.getElem?_eq_getElem (by omega)⟩
      obtain ⟨o, ho⟩ : ∃ o, x.cells[p.1]? = some o := ⟨_, List.getElem?_eq_getElem (by have := hf.len; omega)⟩
      have hn : x.help.cells[p.1]? = some p.2 := setAll_get x.wait x.cells p hk hpm (by have := hf.len; omega)
      have hla := h.new p hpm a p.2 ha hn
      have e1 := swap_no (o := o) (n := p.2) hla (fun e => hne p hpm o ho e.symm)
      have ed : d.sw.drop s.told.length = ⟨a, o, p.2⟩ :: d.sw.drop (s.told.length + 1) := by
        have : d.sw[s.told.length]? = some ⟨a, o, p.2⟩ := by rw [hsw]; simp [swapsOf, hpe, List.getD, ha, ho]
        obtain ⟨hl, e⟩ := List.getElem?_eq_some_iff.1 this
        rw [List.drop_eq_getElem_cons hl, e]
      rw [ed, helpL_cons] at g1
      obtain ⟨q2, kk, e2⟩ := helpL_ask d.st (d.sw.drop (s.told.length + 1))
      have k1 : (Qn.swap a o p.2).on m = (m.more 1, ⟨.no, 0, false, 0⟩) := by simp only [Qn.on, e1, ask_more]
      have hr := Pr.run_more (m := m) (q2 := q2) (k2 := kk) hp g2 g1 (by rw [k1]; simp only [if_true]; exact e2)
      rw [k1] at hr
      refine ⟨_, _, _, by rw [e0]; exact hr, .inr rfl, fun b hb => ?_, by simp; omega⟩
      rcases List.mem_append.1 hb with h4 | h4
      · exact hw.err b h4
      · simp at h4; subst h4; rfl
    · have h4 : s.told.length = x.wait.length := by omega
      rw [List.drop_eq_nil_of_le (by rw [hlen]; omega), helpL_nil] at g1
      have k1 : (Qn.swap d.st 0 1).on m = (m.more 1, ⟨.no, 0, false, 0⟩) := by simp only [Qn.on, swap_no (o := 0) (n := 1) h.stat (by decide), ask_more]
      have hr := Pr.run_last (m := m) (b := 0) hp g2 g1 (by rw [k1])
      rw [k1] at hr
      refine ⟨_, _, _, by rw [e0]; exact hr, .inr rfl, fun b hb => ?_, by simp; omega⟩
      rcases List.mem_append.1 hb with h5 | h5
      · exact hw.err b h5
      · simp at h5; subst h5; rfl
theorem bit_not : ∀ n : Nat, n < 256 → ∀ k : Nat, k < 8 → bit (255 - n) k = !bit n k := by decide +kernel
/-- The round behind changes the other cells alone. -/
theorem past_next {m1 m2 : M} {hs : List Int} {x : Wg} {hh1 hh2 : Int} {d d2 : Ds} {n : Nat} (hn : n ≤ 255) (hr1 : Rel m1 3 hs x.help hh1 d) (hst : Stays m1 m2 3 hs d2.st) (hr2 : Rel m2 3 hs (x.help.foll (255 - n) 0 false 1) hh2 d2) (hw : x.wait = chg n 0) : Past m2 hs x d.st := by
  have ec : (x.help.foll (255 - n) 0 false 1).cells = setAll x.help.cells (chg (255 - n) 1) := rfl
  refine ⟨fun p hp a v h1 h2 => ?_, ?_⟩
  · rw [hw] at hp
    obtain ⟨p8, pb, -⟩ := chgTo_mem n 0 8 p hp
    refine hr2.cell p.1 a v h1 ?_
    rw [ec, setAll_not]
    · exact h2
    · intro hm
      obtain ⟨q, hq, e⟩ := List.mem_map.1 hm
      obtain ⟨_, qb, -⟩ := chgTo_mem (255 - n) 1 8 q hq
      rw [e, bit_not n (by omega) p.1 p8, pb] at qb
      cases qb
  · have h1 := hr1.st
    simp only [Wg.help, if_true] at h1
    exact (hst _ _ h1 (fun e => hr1.nt.1 e.symm) hr1.nt.2.2).1
/-- The first round's descriptor changes each of its cells. -/
theorem foll0_wait (n : Nat) : (wg0.foll n 0 true 0).wait = chg n 0 ∧ (wg0.foll n 0 true 0).done = false ∧ (wg0.foll n 0 true 0).cells = upTo 8 ∧ (wg0.foll n 0 true 0).help = wg0.foll n 0 false 0 ∧ (wg0.foll n 0 true 0).ver = 1 := ⟨rfl, rfl, rfl, rfl, rfl⟩
theorem foll0_ne (n : Nat) : ∀ p ∈ (wg0.foll n 0 true 0).wait, ∀ o, (wg0.foll n 0 true 0).cells[p.1]? = some o → o ≠ p.2 := by
  obtain ⟨e1, -, e3, -⟩ := foll0_wait n
  rw [e1, e3]
  intro p hp o ho
  obtain ⟨p8, -, e⟩ := chgTo_mem n 0 8 p hp
  have key : ∀ k : Nat, k < 8 → (upTo 8)[k]? = some (k : Int) := by decide
  rw [key p.1 p8] at ho
  cases ho
  omega
end Go.Proofs.YteiikkkcjpfapaaDoor
/- DescHelped's closures that do rounds. Conditions: memory and the reference say the same; there is room. -/
namespace Go.Proofs.YteiikkkcjpfapaaDoor
open Go.RowKit Go.Op
set_option maxRecDepth 100000

def hs8 : List Int := [4, 5, 6, 7, 8, 9, 10, 11]
/-- A region with two calls, the second of the first one's answer. -/
structure K2Mid (w : World) (k1 k2 : Nat) (P1 P2 : Value → World → Prop) (bs : List Bool) (β : Nat → Value) (V : World) : Prop where
  a : bs[1]? = some false → Below w.heap.size w V
  b1 : bs[0]? = some true → bs[1]? = some false → P1 (β k1) V
  b2 : bs[1]? = some true → P2 (β k2) V
section
variable {w : World} {k1 k2 : Nat} {P1 P2 : Value → World → Prop} {bs : List Bool} {β : Nat → Value} {V : World} {f : FuncId} {args : Array Value}
theorem k2mid_start : K2Mid w k1 k2 P1 P2 [false, false] β w.drew := ⟨fun _ => (Below.refl _ _).drew, fun e => (by cases e), fun e => (by cases e)⟩
theorem k2mid_one (h : K2Mid w k1 k2 P1 P2 bs β V) (_h0 : bs[0]? = some false) (h1 : bs[1]? = some false) (hc : ∀ V, Below w.heap.size w V → Calls Tryd.prog f args V fun e w' => ∃ u, e = .returned u ∧ P1 u w' ∧ Below V.heap.size V w') :
    Calls Tryd.prog f args V fun e w' => ∃ u, e = .returned u ∧ K2Mid w k1 k2 P1 P2 (bs.set 0 true) (FreeV.upd β k1 u) w' := by
  have hb := h.a h1
  refine (hc V hb).mono ?_
  rintro e w' ⟨u, rfl, hp, hb2⟩
  refine ⟨u, rfl, fun _ => hb.trans (hb2.mono hb.size), fun _ _ => ?_, fun e => ?_⟩
  · simp only [FreeV.upd, if_true]; exact hp
  · simp [h1] at e
theorem k2mid_two (h : K2Mid w k1 k2 P1 P2 bs β V) (h0 : bs[0]? = some true) (h1 : bs[1]? = some false) (hc : Below w.heap.size w V → P1 (β k1) V → Calls Tryd.prog f args V fun e w' => ∃ u, e = .returned u ∧ P2 u w') :
    Calls Tryd.prog f args V fun e w' => ∃ u, e = .returned u ∧ K2Mid w k1 k2 P1 P2 (bs.set 1 true) (FreeV.upd β k2 u) w' := by
  refine (hc (h.a h1) (h.b1 h0 h1)).mono ?_
  rintro e w' ⟨u, rfl, hp⟩
  refine ⟨u, rfl, fun e => ?_, fun _ e => ?_, fun _ => ?_⟩
  · rw [set_at h1] at e; cases e
  · rw [set_at h1] at e; cases e
  · simp only [FreeV.upd, if_true]; exact hp
end
theorem xor_255 : ∀ n : Nat, n < 256 → bits BinOp.xor IntKind.u8 IntKind.u8.max (n : Int) = ((255 - n : Nat) : Int) := by decide +kernel
theorem bd39 (n : Int) (w : World) : (Instr.build 39 #[(0, .int .u8 n), (2, .bool true)]).run Tryd.prog w = .ok (.agg #[.int .u8 n, .int .u8 0, .bool true]) w := by kernel_rfl
theorem enter_13 (xs : Array Value) (w : World) : (callFunc 13 xs).run Tryd.prog w = .ok (.enter 13 xs) w := by kernel_rfl
theorem enter_10 (xs : Array Value) (w : World) : (callFunc 10 xs).run Tryd.prog w = .ok (.enter 10 xs) w := by kernel_rfl
section
variable {w0 : World} {b c r zy zq zd zw : Nat} {G G1 : List (Nat × List Sw)} {gh cap : Nat} {W : World} {m : M} {x : Wg} {sx : Ws} {n : Nat} {hh cc ll : Int} {d d1 : Ds}
/-- The law's variables that closures see. -/
structure HVar (w0 : World) (b c r : Nat) (G : List (Nat × List Sw)) (zy zq gh cap n : Nat) (W : World) : Prop where
  y : YVar W zy b 3 (.slice (some ⟨gh, 0, none⟩) 8 cap)
  q : zq < w0.heap.size ∧ w0.cell? ⟨zq, 0, none⟩ = some (.int .u8 (n : Int))
  ly : LocM w0 b c r G W zy
  lh : LocM w0 b c r G W gh
  hc : ∀ (i : Nat) (h : Int), hs8[i]? = some h → W.cell? ⟨gh, i, none⟩ = some (.int .i64 h)
  n8 : n ≤ 255
theorem HVar.move {Z : List Nat} {W1 : World} (h : HVar w0 b c r G zy zq gh cap n W) (hb : ButN Z W.heap.size W W1) (hg : Grow W G G1) (hz : zy ∉ Z ∧ gh ∉ Z) : HVar w0 b c r G1 zy zq gh cap n W1 :=
  have k1 := hb.block _ h.ly.lt hz.1
  have k3 := hb.block _ h.lh.lt hz.2
  ⟨h.y.same k1, h.q, h.ly.later hb.size hg, h.lh.later hb.size hg, fun i y hy => (World.cell?_of_block (w := W) (a := ⟨gh, i, none⟩) k3).trans (h.hc i y hy), h.n8⟩
theorem HVar.later {W1 : World} (h : HVar w0 b c r G zy zq gh cap n W) (hb : Below W.heap.size W W1) : HVar w0 b c r G zy zq gh cap n W1 :=
  h.move (Z := []) (ButN.of hb (Nat.le_refl _)) (Grow.refl _ _) (by simp)
def P18 (w0 : World) (b c r : Nat) (G : List (Nat × List Sw)) (W : World) (n : Nat) (v : Value) (w' : World) : Prop :=
  v = .bool true ∧ ∃ t2 G2 m2 hh2 d2, Dgo w0 b c r W.heap.size [b, c, r] W t2 G G2 w' m2 (ptDo W b) ∧ Rel m2 3 hs8 (wg0.foll n 0 true 0) hh2 d2 ∧ Fine 60 m2 71 13
theorem Dgo.wide {pb : Nat} {Z Z' : List Nat} {t1 : Value} {G0 G1 : List (Nat × List Sw)} {w w1 : World} {m1 : M} {s1 : Pt} (h : Dgo w0 b c r pb Z w t1 G0 G1 w1 m1 s1) (hz : ∀ z, z ∈ Z → z ∈ Z') : Dgo w0 b c r pb Z' w t1 G0 G1 w1 m1 s1 :=
  ⟨h.sys, ⟨h.but.os, h.but.tape, h.but.output, h.but.size, fun k hk hn => h.but.block k hk fun e => hn (hz k e)⟩, h.own, h.pb, ⟨hz _ h.inz.1, hz _ h.inz.2.1, hz _ h.inz.2.2⟩, h.gro⟩
def C18 (w0 : World) (b c r zd : Nat) (G : List (Nat × List Sw)) (W : World) (n : Nat) (v : Value) (w' : World) : Prop :=
  v = .iface 4 (.bool true) ∧ ∃ t2 G2 m2 hh2 d2 d1, Dgo w0 b c r W.heap.size [b, c, r, zd] W t2 G G2 w' m2 (ptDo W b) ∧ Rel m2 3 hs8 (wg0.foll n 0 true 0) hh2 d2 ∧ Fine 60 m2 80 13 ∧ DVar w' zd d1 ∧ d1.e = d2 ∧ d1.In G2
set_option maxHeartbeats 1000000 in
theorem clo18 (h : HasE w0 b c r G W m) (hT : TabAt w0) (hv : HVar w0 b c r G zy zq gh cap n W) (hd : DVar W zd d0) (ld : LocM w0 b c r G W zd) (hne : zd ≠ zy ∧ zd ≠ gh) (hr : Rel m 3 hs8 wg0 hh d) (hf : Fine 60 m 11 11) :
    Calls Tryd.prog 18 #[.pointer (some ⟨W.heap.size, 0, none⟩), .pointer (some ⟨zy, 0, none⟩), .pointer (some ⟨zq, 0, none⟩), .pointer (some ⟨zd, 0, none⟩)] (W.alloc (portObj b)) fun e w' => ∃ v, e = .returned v ∧ C18 w0 b c r zd G W n v w' := by
  have hg := Dgo.start h (Z := [b, c, r]) ⟨by simp, by simp, by simp⟩
  have hb0 := (Below.refl W.heap.size W).alloc (Nat.le_refl _) (portObj b)
  obtain ⟨wp, hwp⟩ : ∃ V, V = W.alloc (portObj b) := ⟨_, rfl⟩
  rw [← hwp] at hg hb0 ⊢
  have HA : Hid (∀ V, Below wp.heap.size wp V → YVar V zy b 3 (.slice (some ⟨gh, 0, none⟩) 8 cap) ∧ V.cell? ⟨zq, 0, none⟩ = some (.int .u8 (n : Int))) := fun V hb => by
    have hv2 := hv.later (hb0.trans (hb.mono hb0.size))
    exact ⟨hv2.y, ((h.later (hb0.trans (hb.mono hb0.size))).ge.2.2.2.cell (p := ⟨zq, 0, none⟩) hv.q.1).trans hv.q.2⟩
  have HR1 : Hid (∀ V, Below wp.heap.size wp V → Calls Tryd.prog 10 #[.int .i64 8] V fun e w' => ∃ u, e = .returned u ∧ (∃ s, u = wg0.v s ∧ WIs wp.heap.size w' wg0 s) ∧ Below V.heap.size V w') := fun V hb => by
    refine (refnew_any V).mono ?_
    rintro e w' ⟨s, rfl, hw, hb2⟩
    exact ⟨_, rfl, ⟨s, rfl, hw.keep hb.size (Nat.le_refl _) fun g _ _ => rfl⟩, hb2⟩
  have HR2 : Hid (∀ V u, Below wp.heap.size wp V → (∃ s, u = wg0.v s ∧ WIs wp.heap.size V wg0 s) → Calls Tryd.prog 13 #[.agg #[.pointer (some ⟨b, 0, none⟩), .int .i64 3, .slice (some ⟨gh, 0, none⟩) 8 cap], .pointer (some ⟨W.heap.size, 0, none⟩), u, .agg #[.int .u8 (n : Int), .int .u8 0, .bool true], .int .i64 0] V fun e w' => ∃ u, e = .returned u ∧ P18 w0 b c r G W n u w') := by
    rintro V u hb ⟨s, rfl, hws⟩
    have hg2 := hg.later hb
    have hb2 := hb0.trans (hb.mono hb0.size)
    have hv2 := hv.later hb2
    refine (round_any hg2.sys (ptDo_quiet W b) hT hr hf (by decide) (by decide) (by decide) (some ⟨gh, 0, none⟩) cap ⟨gh, rfl, (hv.lh.loc hg2), hv2.hc⟩ ((hws.wisP (P := fun g => wp.heap.size ≤ g) fun _ h => h).imp fun g h1 h2 => hg.sys.newloc2 h1 h2) n 0 0 hv.n8 (by decide) (by decide) (by decide) true).mono ?_
    rintro e w' ⟨rfl, t2, G2, m2, hh2, d2, ha, h1, h2, -⟩
    exact ⟨_, rfl, rfl, t2, G2, m2, hh2, d2, hg2.aft ha, h1, h2⟩
  have HV := Lib.hid (⟨hv, hd, ld, hne, hb0⟩ : _ ∧ _ ∧ _ ∧ _ ∧ _)
  clear hg hb0 hwp hr hf h hv hd ld
  generalize hpb : W.heap.size = pb at *
  go_enter Tryd.func18, Tryd.ntmps18
  go_wp2_with fail
  refine FreeV.region_puts (S := K2Mid wp 2 5 (fun u V => ∃ s, u = wg0.v s ∧ WIs wp.heap.size V wg0 s) (P18 w0 b c r G W n)) (effs := [2, 5])
    (tab := [⟨0, fun _ => [.pointer (some ⟨zy, 0, none⟩)], fun _ => (.agg #[.pointer (some ⟨b, 0, none⟩), .int .i64 3, .slice (some ⟨gh, 0, none⟩) 8 cap]), .read⟩,
      ⟨2, fun _ => [.func (.func 10) #[] #[], .int .i64 8], fun β => (β 2), .get⟩,
      ⟨3, fun _ => [.pointer (some ⟨zq, 0, none⟩)], fun _ => .int .u8 (n : Int), .read⟩,
      ⟨4, fun _ => [.int .u8 (n : Int), .bool true], fun _ => (.agg #[.int .u8 (n : Int), .int .u8 0, .bool true]), .pure⟩,
      ⟨5, fun β => [.func (.func 13) #[] #[], (.agg #[.pointer (some ⟨b, 0, none⟩), .int .i64 3, .slice (some ⟨gh, 0, none⟩) 8 cap]), .pointer (some ⟨pb, 0, none⟩), (β 2), (.agg #[.int .u8 (n : Int), .int .u8 0, .bool true]), .int .i64 0], fun β => (β 5), .get⟩])
    (vs := [([], fun _ => (.agg #[.pointer (some ⟨b, 0, none⟩), .int .i64 3, .slice (some ⟨gh, 0, none⟩) 8 cap])), ([], fun _ => .pointer (some ⟨pb, 0, none⟩)), ([2], fun l => l.headD undef), ([], fun _ => .int .u8 (n : Int)), ([], fun _ => (.agg #[.int .u8 (n : Int), .int .u8 0, .bool true])), ([5], fun l => l.headD undef), ([5], fun l => l.headD undef)])
    (by kernel_rfl) ⟨by kernel_rfl, ⟨FreeV.d_load _ rfl rfl (fun β bs w h hd => yagg (HA.out _ (h.a ((hd 1 5 rfl).2 (.inl (by kernel_rfl))))).1),
      FreeV.d_get1 _ rfl rfl enter_10 0 rfl (fun β bs w h hd => k2mid_one h ((hd 0 2 rfl).2 (.inr rfl)) ((hd 1 5 rfl).2 (.inl (by kernel_rfl))) HR1.out),
      FreeV.d_load _ rfl rfl (fun β bs w h hd => load_5 (HA.out _ (h.a ((hd 1 5 rfl).2 (.inl (by kernel_rfl))))).2),
      FreeV.d_build2 _ rfl rfl (fun _ w => bd39 (n : Int) w),
      FreeV.d_get5 _ rfl rfl enter_13 1 rfl (fun β bs w h hd => k2mid_two h ((hd 0 2 rfl).1 (by kernel_rfl)) ((hd 1 5 rfl).2 (.inr rfl)) (HR2.out _ _)),
      trivial⟩,
      fun β => by kernel_rfl, fun β => by kernel_rfl, by kernel_rfl, fun β => by kernel_rfl, by kernel_rfl⟩ k2mid_start (fun β => Free.from_ 11 [(.agg #[.pointer (some ⟨b, 0, none⟩), .int .i64 3, .slice (some ⟨gh, 0, none⟩) 8 cap]), .pointer (some ⟨pb, 0, none⟩), (β 2), .int .u8 (n : Int), (.agg #[.int .u8 (n : Int), .int .u8 0, .bool true]), (β 5)] ++ [(6, (β 5))]) (fun β => by kernel_rfl) ?_
  intro β w2 h2
  rw [FreeX.puts_append, Free.puts_from _ _ _ (Nat.le_of_ble_eq_true rfl)]
  simp only [List.take_succ_cons, List.take_zero, List.drop_succ_cons, List.drop_zero, List.cons_append, List.nil_append, List.length_cons, List.length_nil, Nat.reduceAdd]
  unfold Free.puts
  simp only [List.foldl_cons, List.foldl_nil]
  have hP := h2.b2 rfl
  clear h2 HR1 HR2 HA
  generalize β 2 = u2 at *
  generalize β 5 = u5 at *
  obtain ⟨rfl, t2, G2, m2, hh2, d2, hg2, hr2, hf2⟩ := hP
  obtain ⟨hv, hd, ld, hne, hb0⟩ := HV.out
  have hv2 := hv.move hg2.but hg2.gro ⟨by have := hv.ly.ne; simp; omega, by have := hv.lh.ne; simp; omega⟩
  have hlq := latest_q hg2.sys (ptDo_quiet W b) (by have := hf2.cnt; omega) hr2
  rw [hpb] at hlq
  have c1 := hv2.y.c1
  have HD2 := Lib.hid (⟨hg2, hr2, hf2⟩ : _ ∧ _ ∧ _)
  clear hg2 hr2 hf2 hv2 hv hd ld hne hb0
  go_wp2_with fail
  refine hlq.mono ?_
  rintro e w3 ⟨d1, t3, G3, rfl, e1, hi, ha⟩
  obtain ⟨hv, hd, ld, hne, hb0⟩ := HV.out
  obtain ⟨hg2, hr2, hf2⟩ := HD2.out
  rw [← hpb] at ha
  have hg3 := hg2.aft ha
  have hd3 := hd.same hg3.but.size (hg3.but.block zd ld.lt (by have := ld.ne; simp; omega))
  have lz := ld.loc hg3
  have HE : Hid (C18 w0 b c r zd G W n (.iface 4 (.bool true)) ((dput w3 zd d1).alloc d1.obj)) := by
    have hk := dput_but w3 zd d1
    have hb := (Below.refl (dput w3 zd d1).heap.size (dput w3 zd d1)).alloc (Nat.le_refl _) d1.obj
    refine ⟨rfl, t3, G3, _, hh2, d2, d1, (((hg3.wide (Z' := [b, c, r, zd]) (by simp)).aside hk lz (.inl (by simp))).later hb), hr2.more 3, ?_, (hd3.put d1).later hb, e1, hi⟩
    have f := hf2.more 3
    exact ⟨f.tidy, f.len, by have := f.cnt; omega, f.liv⟩
  obtain ⟨c0, c1, c2, c3⟩ := hd3.cells
  have fz := hd3.fz
  have hz3 := hd3.lt
  unfold Ds.v
  unfold Ds.obj at HE
  clear hlq ha hv hd ld hne hb0 hg2 hr2 hf2 hg3 hd3 lz e1 hi HD2
  go_wp2_with fail
  go_ret
  exact ⟨_, rfl, HE.out⟩
def C25 (w0 : World) (b c r : Nat) (G : List (Nat × List Sw)) (W : World) (x : Wg) (st : Int) (n : Nat) (cc ll : Int) (v : Value) (w' : World) : Prop :=
  v = .iface 4 (.bool true) ∧ ∃ t2 G2 m2 hh2 d2, Dgo w0 b c r W.heap.size [b, c, r] W t2 G G2 w' m2 (ptDo W b) ∧ Rel m2 3 hs8 (x.help.foll (255 - n) 0 false 1) hh2 d2 ∧ Fine 60 m2 (cc + 69) (ll + 2) ∧ Past m2 hs8 x st
set_option maxHeartbeats 1000000 in
theorem clo25 (h : HasE w0 b c r G W m) (hT : TabAt w0) (hv : HVar w0 b c r G zy zq gh cap n W) (hd : DVar W zd d1) (hdi : d1.In G) (hde : d1.e = d) (ld : LocM w0 b c r G W zd) (hgv : GVar W zw x.help sx) (lw : LocM w0 b c r G W zw) (hws : WIsP (LocM w0 b c r G W) W x.help sx) (hr : HRel m 3 hs8 x hh d) (hne : ∀ p ∈ x.wait, ∀ o, x.cells[p.1]? = some o → o ≠ p.2) (hf : Fine 60 m cc ll) (hcc : cc ≤ 13000) (hll : ll ≤ 40) (hx : x.wait = chg n 0) (hx0 : 0 ≤ x.ver ∧ x.ver ≤ 1000) :
    Calls Tryd.prog 25 #[.pointer (some ⟨W.heap.size, 0, none⟩), .pointer (some ⟨zd, 0, none⟩), .pointer (some ⟨zy, 0, none⟩), .pointer (some ⟨zw, 0, none⟩), .pointer (some ⟨zq, 0, none⟩)] (W.alloc (portObj b)) fun e w' => ∃ v, e = .returned v ∧ C25 w0 b c r G W x d.st n cc ll v w' := by
  have hg := Dgo.start h (Z := [b, c, r]) ⟨by simp, by simp, by simp⟩
  have hb0 := (Below.refl W.heap.size W).alloc (Nat.le_refl _) (portObj b)
  obtain ⟨wp, hwp⟩ : ∃ V, V = W.alloc (portObj b) := ⟨_, rfl⟩
  rw [← hwp] at hg hb0 ⊢
  have hn1 : d1.n ≤ 90000 := by
    have e1 : d1.sw = d.sw := by rw [← hde]; rfl
    have := hr.half.fit.wl
    rw [hdi.n, e1, hr.sw]
    simp only [swapsOf, List.length_map]
    omega
  have hhe := help_E hg.sys (by have := hf.cnt; omega) d1 hdi hn1
  have hd2 := hd.later hb0
  obtain ⟨c0, c1, c2, c3⟩ := hd2.cells
  have HV := Lib.hid (⟨h, hg, hv, hd, ld, hgv, lw, hws, hr, hf, hb0, hde⟩ : _ ∧ _ ∧ _ ∧ _ ∧ _ ∧ _ ∧ _ ∧ _ ∧ _ ∧ _ ∧ _ ∧ _)
  unfold Ds.v at hhe
  have hxv := hx0.2
  clear hg hb0 hwp h hv hd ld hgv lw hws hr hf hd2 hn1
  generalize hpb : W.heap.size = pb at *
  go_enter Tryd.func25, Tryd.ntmps25
  go_wp2_with fail
  refine hhe.mono ?_
  intro e w2 hE
  obtain ⟨h, hg, hv, hd, ld, hgv, lw, hws, hr, hf, hb0, hde⟩ := HV.out
  have hE2 := hE.done (ptDo_quiet W b)
  have e3 : helpP d1 = helpP d := by rw [← hde]; rfl
  obtain ⟨m', g1, g2, g3⟩ := hrel_help hr hne hf
  rw [e3, g1] at hE2
  obtain ⟨t2, G2, v, rfl, rfl, ha⟩ := hE2
  subst hpb
  have hg2 := hg.aft ha
  have hb2 := hg2.but
  have hv2 := hv.move hb2 hg2.gro ⟨by have := hv.ly.ne; simp; omega, by have := hv.lh.ne; simp; omega⟩
  have kk : ∀ z, LocM w0 b c r G W z → w2.heap[z]? = W.heap[z]? := fun z hz => hb2.block z hz.lt (by have := hz.ne; simp; omega)
  have hgv2 := hgv.same hb2.size (kk zw lw)
  have hws2 := (hws.same hb2.size fun g hg _ => kk g hg).imp (Q := Loc w0 b c r W.heap.size t2 G2 w2) fun g hg _ => hg.loc hg2
  have hq2 : w2.cell? ⟨zq, 0, none⟩ = some (.int .u8 (n : Int)) := (hg2.sys.mem.ge.2.2.2.cell (p := ⟨zq, 0, none⟩) hv.q.1).trans hv.q.2
  have hst : Calls Tryd.prog 13 #[.agg #[.pointer (some ⟨b, 0, none⟩), .int .i64 3, .slice (some ⟨gh, 0, none⟩) 8 cap], .pointer (some ⟨W.heap.size, 0, none⟩), x.help.v sx, .agg #[.int .u8 ((255 - n : Nat) : Int), .int .u8 0, .bool false], .int .i64 1] w2 fun e w' => e = .returned (.bool true) ∧ C25 w0 b c r G W x d.st n cc ll (.iface 4 (.bool true)) w' := by
    refine (round_any hg2.sys (ptDo_quiet W b) hT g2 g3 (by omega) (by omega) (by decide) (some ⟨gh, 0, none⟩) cap ⟨gh, rfl, hv.lh.loc hg2, hv2.hc⟩ hws2 (255 - n) 0 1 (by omega) (by decide) (by decide) (show 0 ≤ x.ver ∧ x.ver ≤ 1000000 from ⟨hx0.1, by omega⟩) false).mono ?_
    rintro e w' ⟨rfl, t3, G3, m3, hh3, d3, ha3, h1, h2, h3⟩
    exact ⟨rfl, rfl, t3, G3, m3, hh3, d3, hg2.aft ha3, h1, ⟨h2.tidy, h2.len, by have := h2.cnt; omega, h2.liv⟩, past_next hv.n8 g2 (h3 rfl) h1 hx⟩
  obtain ⟨u, hu⟩ : ∃ u, u = x.help := ⟨_, rfl⟩
  rw [← hu] at hst hgv2
  obtain ⟨uc, uv, ub, ud, uw⟩ := u
  obtain ⟨xa, xn, xp, xq⟩ := sx
  obtain ⟨q0, q1, q2, q3, q4⟩ := hgv2.cells
  have y0 := hv2.y.c0
  have y1 := hv2.y.c1
  have y2 := hv2.y.c2
  have hn8 : (n : Int) ≤ 255 := by have := hv.n8; omega
  unfold Wg.v at hst
  simp only at q0 q1 q2 q3 q4 hst
  clear hhe hE HV h hg hv hd ld hgv lw hws hr hf hb0 hde e3 g1 g2 g3 ha hg2 hb2 hv2 kk hgv2 hws2 hu c0 c1 c2 c3 hne hx hxv hdi
  go_wp2_with fail
  rw [xor_255 n (by omega)]
  refine hst.mono ?_
  rintro e w3 ⟨rfl, hE⟩
  have HE := Lib.hid hE
  clear hst hE y0 y1 y2 q0 q1 q2 q3 q4
  go_wp2_with fail
  go_ret
  exact ⟨_, rfl, HE.out⟩
end
end Go.Proofs.YteiikkkcjpfapaaDoor
/- DescHelped's state between two steps, and that a step of any helper keeps it. Conditions: each change is a change; at most 13000 asks. -/
namespace Go.Proofs.YteiikkkcjpfapaaDoor
open Go.RowKit Go.Op
set_option maxRecDepth 100000

def caps21 (zd : Nat) : Value := .func (.func 21) #[] #[.pointer (some ⟨zd, 0, none⟩)]
theorem enter_21 (xs : Array Value) (w : World) : (callFunc 21 xs).run Tryd.prog w = .ok (.enter 21 xs) w := by kernel_rfl
/-- The law's variables beside the machines. -/
structure HL (w0 : World) (b c r : Nat) (G : List (Nat × List Sw)) (zy zq zd zw gh cap n : Nat) (xw : Wg) (s : Ws) (d1 : Ds) (m : M) (L : List Mach) (rv : Value) (W : World) : Prop where
  cr : Crew w0 b c r G W m L rv
  hv : HVar w0 b c r G zy zq gh cap n W
  dv : DVar W zd d1
  di : d1.In G
  gv : GVar W zw xw s
  ws : WIsP (fun g => Mine w0 b c r G W L rv g ∧ g ≠ zw) W xw s
  my : Mine w0 b c r G W L rv zy ∧ Mine w0 b c r G W L rv zd ∧ Mine w0 b c r G W L rv zw ∧ Mine w0 b c r G W L rv gh
  ne : zw ≠ zy ∧ zw ≠ zd ∧ zw ≠ gh
section
variable {w0 : World} {b c r : Nat} {G G' : List (Nat × List Sw)} {zy zq zd zw gh cap n : Nat} {xw : Wg} {s : Ws} {d1 : Ds} {m m' : M} {L L' : List Mach} {rv rv' : Value} {W W' : World} {x : Wg} {hh cc : Int} {d : Ds}
theorem HVar.same (h : HVar w0 b c r G zy zq gh cap n W) (k1 : W'.heap[zy]? = W.heap[zy]?) (k2 : W'.heap[gh]? = W.heap[gh]?) (hs : W.heap.size ≤ W'.heap.size) (hg : Grow W G G') : HVar w0 b c r G' zy zq gh cap n W' :=
  ⟨h.y.same k1, h.q, h.ly.later hs hg, h.lh.later hs hg, fun i y hy => (World.cell?_of_block (w := W) (a := ⟨gh, i, none⟩) k2).trans (h.hc i y hy), h.n8⟩
theorem HL.move (h : HL w0 b c r G zy zq zd zw gh cap n xw s d1 m L rv W) (cr : Crew w0 b c r G' W' m' L' rv') (hs : W.heap.size ≤ W'.heap.size) (hg : Grow W G G') (hk : ∀ z, Mine w0 b c r G W L rv z → Mine w0 b c r G' W' L' rv' z ∧ W'.heap[z]? = W.heap[z]?) : HL w0 b c r G' zy zq zd zw gh cap n xw s d1 m' L' rv' W' := by
  obtain ⟨m1, m2, m3, m4⟩ := h.my
  exact ⟨cr, h.hv.same (hk _ m1).2 (hk _ m4).2 hs hg, h.dv.same hs (hk _ m2).2, h.di.more hg.1, h.gv.same hs (hk _ m3).2, (h.ws.same hs fun g hg2 _ => (hk g hg2.1).2).imp fun g hg2 _ => ⟨(hk g hg2.1).1, hg2.2⟩, ⟨(hk _ m1).1, (hk _ m2).1, (hk _ m3).1, (hk _ m4).1⟩, h.ne⟩
theorem HL.later (h : HL w0 b c r G zy zq zd zw gh cap n xw s d1 m L rv W) (hb : Below W.heap.size W W') : HL w0 b c r G zy zq zd zw gh cap n xw s d1 m L rv W' :=
  h.move (h.cr.later hb) hb.size (Grow.refl _ _) fun z hz => ⟨hz.later hb.size, hb.block z hz.loc.lt⟩
theorem HL.mem (h : HL w0 b c r G zy zq zd zw gh cap n xw s d1 m L rv W) (k : HasE w0 b c r G' W' m') (hb : ButN [b, c, r] W.heap.size W W') (hg : Grow W G G') (hc : m.count ≤ m'.count ∨ ∀ (i : Nat) (x : Mach), L[i]? = some x → x.fin = false → (x.s.e.told.length : Int) ≤ m'.count) : HL w0 b c r G' zy zq zd zw gh cap n xw s d1 m' L rv W' :=
  h.move (h.cr.mem k hb hg hc) hb.size hg fun _ hz => hz.mem hb hg
theorem HL.add (h : HL w0 b c r G zy zq zd zw gh cap n xw s d1 m L rv W) {f : Value} {w2 : World} (hb : Below (W.alloc (machObj b f)).heap.size (W.alloc (machObj b f)) w2)
    (own : W'.ownsRow w0.heap.size 56 1 rv' (L.length + 1) (ptrs L ++ [.pointer (some ⟨W.heap.size, 0, none⟩)])) (hg : w2.grownBy W' rv.ownBlock) (hn : rv'.ownBlock = rv.ownBlock ∨ rv'.ownBlock = some w2.heap.size) :
    HL w0 b c r G zy zq zd zw gh cap n xw s d1 m (L ++ [mach0 W.heap.size f]) rv' W' := by
  have h1 : (W.alloc (machObj b f)).heap.size = W.heap.size + 1 := by simp
  have h2 := hb.size
  have h3 := hg.size
  exact h.move (h.cr.add hb own hg hn) (by omega) (Grow.refl _ _) fun z hz => hz.add hb hg hn
theorem HL.step {α : Type} (h : HL w0 b c r G zy zq zd zw gh cap n xw s d1 m L rv W) {i : Nat} {x y : Mach} {R : α → Value → Prop} {o : Option α × Pt × M} {e : Ending} (hi : L[i]? = some x) (hs : StepE w0 b c r G W L i x R o e W' y G') : HL w0 b c r G' zy zq zd zw gh cap n xw s d1 o.2.2 (L.set i y) rv W' :=
  h.move (h.cr.step hi hs) hs.but.size hs.gro fun _ hz => hz.step hi hs
theorem HL.put {x' : Wg} {s' : Ws} (h : HL w0 b c r G zy zq zd zw gh cap n xw s d1 m L rv W) (hw : WIsP (fun g => Mine w0 b c r G W L rv g ∧ g ≠ zw) W x' s') : HL w0 b c r G zy zq zd zw gh cap n x' s' d1 m L rv (gput W zw x' s') := by
  obtain ⟨m1, m2, m3, m4⟩ := h.my
  obtain ⟨n1, n2, n3⟩ := h.ne
  have hb := gput_but W zw x' s'
  exact ⟨h.cr.aside hb m3, h.hv.same (hb.block _ m1.loc.lt n1.symm) (hb.block _ m4.loc.lt n3.symm) hb.size (Grow.refl _ _), h.dv.same hb.size (hb.block _ m2.loc.lt n2.symm), h.di, h.gv.put x' s', (hw.same hb.size fun g hg2 hl => hb.block g hl hg2.2).imp fun g hg2 _ => ⟨hg2.1.later hb.size, hg2.2⟩, ⟨m1.later hb.size, m2.later hb.size, m3.later hb.size, m4.later hb.size⟩, h.ne⟩
/-- Between two turns. -/
structure Tu (zd : Nat) (x : Wg) (hh : Int) (d : Ds) (cc : Int) (m : M) (L : List Mach) : Prop where
  hr : HRel m 3 hs8 x hh d
  hf : Fine 60 m cc 13
  ea : ∀ (i : Nat) (y : Mach), L[i]? = some y → (y.fin = false → y.f = caps21 zd ∧ y.s.keeps = true ∧ Far m hs8 x d.st y.s.e.told) ∧ (y.fin = true → m.look d.st = some (.word 1))
theorem fresh_e {s : Pt} (h : s.keeps = true) : Fresh s.fresh.e := ⟨h, rfl, rfl⟩
theorem Far.move {st : Int} {told : List An} {hs : List Int} (h : Far m hs x st told) (h1 : ∀ k, IsNew m hs x k → IsNew m' hs x k) (h2 : m.look st = some (.word 1) → m'.look st = some (.word 1)) : Far m' hs x st told :=
  ⟨h.err, h.le, fun p hp => h1 _ (h.new p hp), fun e => h2 (h.done e)⟩
/-- The machine's function at a step. -/
theorem clo21_at (h : HL w0 b c r G zy zq zd zw gh cap n xw s d1 m L rv W) (hde : d1.e = d) (hn : d1.n ≤ 90000) (hc : m.count ≤ 700000) {i : Nat} {y : Mach} (hi : L[i]? = some y) {w1 : World} (hS : SysE w0 b c r y.xb 1 y.t G w1 m y.s.fresh.e) (hB : But y.xb W w1) :
    Calls Tryd.prog 21 (#[.pointer (some ⟨y.xb, 1, none⟩)] ++ #[.pointer (some ⟨zd, 0, none⟩)]) w1 fun e w' => Ev w0 b c r y.xb 1 y.t G w1 (fun _ a v => v = .iface 44 (.int .i64 a)) ((helpP d).run y.s.fresh.e m) e w' := by
  have h1 := (h.my.2.1.off.x i y hi).1
  have hv := h.dv.same hB.size (hB.block zd h.dv.lt h1)
  have e3 : helpP d = helpP d1 := by rw [← hde]; rfl
  rw [e3]
  exact clo21 hS hc d1 h.di hn zd hv
theorem set_get {α : Type} {l : List α} {i j : Nat} {a x : α} (h : (l.set i a)[j]? = some x) : (j = i ∧ x = a) ∨ l[j]? = some x := by
  rw [List.getElem?_set] at h
  split at h
  · split at h
    · cases h; exact .inl ⟨by omega, rfl⟩
    · cases h
  · exact .inr h
theorem turn_step (h : HL w0 b c r G zy zq zd zw gh cap n xw s d1 m L rv W) (hde : d1.e = d) (ht : Tu zd x hh d cc m L) (hne : ∀ p ∈ x.wait, ∀ o, x.cells[p.1]? = some o → o ≠ p.2) (hcc : cc ≤ 13000) {i : Nat} {y : Mach} (hi : L[i]? = some y) :
    Calls Tryd.prog 23 #[.pointer (some ⟨y.xb, 0, none⟩)] W fun e w' => ∃ o m' L' G' y', e = .returned (.bool o) ∧ L'[i]? = some y' ∧ y'.xb = y.xb ∧ HL w0 b c r G' zy zq zd zw gh cap n xw s d1 m' L' rv w' ∧ Tu zd x hh d (cc + 1) m' L' ∧ L'.length = L.length ∧ (m.look d.st = some (.word 1) → m'.look d.st = some (.word 1)) := by
  have hcn := ht.hf.cnt
  cases hf : y.fin with
  | true =>
    refine (h.cr.tm.done hi hf).mono ?_
    rintro e w' ⟨rfl, rfl⟩
    exact ⟨true, m, L, G, y, rfl, hi, rfl, h, ⟨ht.hr, ⟨ht.hf.tidy, ht.hf.len, by omega, ht.hf.liv⟩, ht.ea⟩, rfl, id⟩
  | false =>
    obtain ⟨f1, f2, f3⟩ := (ht.ea i y hi).1 hf
    have et : y.s.fresh.e.told = y.s.e.told := rfl
    obtain ⟨o, s', m', hrun, hr', hf', hnew, hst, hfar, hout⟩ := helper_step ht.hr hne ht.hf (fresh_e f2) (by rw [et]; exact f3)
    have hn : d1.n ≤ 90000 := by
      have e1 : d1.sw = d.sw := by rw [← hde]; rfl
      have := ht.hr.half.fit.wl
      rw [h.di.n, e1, ht.hr.sw]
      simp only [swapsOf, List.length_map]
      omega
    have hcm := hf'.cnt
    refine (h.cr.tm.step hi hf f1 enter_21 (helpP d) (fun a v => v = .iface 44 (.int .i64 a)) (fun a v e => ⟨_, _, e⟩) (o, s', m') hrun (by simp only; omega) (fun w1 hS hB => ?_)).mono ?_
    · have := clo21_at h hde hn (by omega) hi hS hB
      rw [hrun] at this
      exact this
    · rintro e w' ⟨y', G', hs⟩
      have hlt := (List.getElem?_eq_some_iff.1 hi).1
      have h2 := h.step hi hs
      have hother : ∀ (j : Nat) (z : Mach), L[j]? = some z → (z.fin = false → z.f = caps21 zd ∧ z.s.keeps = true ∧ Far m' hs8 x d.st z.s.e.told) ∧ (z.fin = true → m'.look d.st = some (.word 1)) := fun j z hz =>
        ⟨fun e => let ⟨q1, q2, q3⟩ := (ht.ea j z hz).1 e; ⟨q1, q2, q3.move hnew hst⟩, fun e => hst ((ht.ea j z hz).2 e)⟩
      have hkp : s'.keeps = true := by
        have := (Pr.run_facts (helpP d) y.s.fresh.e m).keeps
        rw [hrun] at this
        exact this.trans f2
      rcases hs.out with ⟨a, ea, rfl, q1, q2⟩ | ⟨ea, rfl, q1, q2, q3, q4⟩
      · refine ⟨true, m', _, G', y', rfl, List.getElem?_set_self hlt, hs.xb, h2, ⟨hr', hf', fun j z hz => ?_⟩, List.length_set .., hst⟩
        rcases set_get hz with ⟨rfl, rfl⟩ | hz
        · exact ⟨fun e => (by rw [q1] at e; cases e), fun _ => (hout a ea).2⟩
        · exact hother j z hz
      · refine ⟨false, m', _, G', y', rfl, List.getElem?_set_self hlt, hs.xb, h2, ⟨hr', hf', fun j z hz => ?_⟩, List.length_set .., hst⟩
        rcases set_get hz with ⟨rfl, rfl⟩ | hz
        · refine ⟨fun _ => ⟨q2.trans f1, ?_, ?_⟩, fun e => (by rw [q1] at e; cases e)⟩
          · have : z.s.e.keeps = true := by rw [q4]; exact hkp
            exact this
          · rw [q4]; exact hfar
        · exact hother j z hz
/-- Between two late turns. -/
structure Lt (zd : Nat) (x x3 : Wg) (hh3 : Int) (d3 d : Ds) (cc : Int) (m : M) (L : List Mach) : Prop where
  hr : Rel m 3 hs8 x3 hh3 d3
  hf : Fine 60 m cc 15
  past : Past m hs8 x d.st
  ea : ∀ (i : Nat) (y : Mach), L[i]? = some y → y.fin = false → y.f = caps21 zd ∧ y.s.keeps = true ∧ Lag x y.s.e.told
theorem late_turn {x3 : Wg} {hh3 : Int} {d3 : Ds} (h : HL w0 b c r G zy zq zd zw gh cap n xw s d1 m L rv W) (hde : d1.e = d) (ht : Lt zd x x3 hh3 d3 d cc m L) (hsw : d.sw = swapsOf hs8 x.cells x.wait) (hk : (x.wait.map (·.1)).Nodup) (hfit : x.Fit) (hne : ∀ p ∈ x.wait, ∀ o, x.cells[p.1]? = some o → o ≠ p.2) (hcc : cc ≤ 13000) {i : Nat} {y : Mach} (hi : L[i]? = some y) :
    Calls Tryd.prog 23 #[.pointer (some ⟨y.xb, 0, none⟩)] W fun e w' => ∃ o m' L' G', e = .returned (.bool o) ∧ HL w0 b c r G' zy zq zd zw gh cap n xw s d1 m' L' rv w' ∧ Lt zd x x3 hh3 d3 d (cc + 1) m' L' ∧ L'.length = L.length := by
  have hcn := ht.hf.cnt
  cases hf : y.fin with
  | true =>
    refine (h.cr.tm.done hi hf).mono ?_
    rintro e w' ⟨rfl, rfl⟩
    exact ⟨true, m, L, G, rfl, h, ⟨ht.hr, ⟨ht.hf.tidy, ht.hf.len, by omega, ht.hf.liv⟩, ht.past, ht.ea⟩, rfl⟩
  | false =>
    obtain ⟨f1, f2, f3⟩ := ht.ea i y hi hf
    have et : y.s.fresh.e.told = y.s.e.told := rfl
    obtain ⟨o, s', m', hrun, hm', hlag⟩ := late_step ht.past hsw hk hfit ht.hr.len hne (fresh_e f2) (by rw [et]; exact f3)
    have hn : d1.n ≤ 90000 := by
      have e1 : d1.sw = d.sw := by rw [← hde]; rfl
      have := hfit.wl
      rw [h.di.n, e1, hsw]
      simp only [swapsOf, List.length_map]
      omega
    have hnew : Rel m' 3 hs8 x3 hh3 d3 ∧ Fine 60 m' (cc + 1) 15 ∧ Past m' hs8 x d.st := by
      rcases hm' with rfl | rfl
      · exact ⟨ht.hr, ⟨ht.hf.tidy, ht.hf.len, by omega, ht.hf.liv⟩, ht.past⟩
      · have f := ht.hf.more 1
        exact ⟨ht.hr.more 1, ⟨f.tidy, f.len, by have := f.cnt; omega, f.liv⟩, ht.past.more 1⟩
    have hcm := hnew.2.1.cnt
    refine (h.cr.tm.step hi hf f1 enter_21 (helpP d) (fun a v => v = .iface 44 (.int .i64 a)) (fun a v e => ⟨_, _, e⟩) (o, s', m') hrun (by simp only; omega) (fun w1 hS hB => ?_)).mono ?_
    · have := clo21_at h hde hn (by omega) hi hS hB
      rw [hrun] at this
      exact this
    · rintro e w' ⟨y', G', hs⟩
      have h2 := h.step hi hs
      have hkp : s'.keeps = true := by
        have := (Pr.run_facts (helpP d) y.s.fresh.e m).keeps
        rw [hrun] at this
        exact this.trans f2
      rcases hs.out with ⟨a, ea, rfl, q1, q2⟩ | ⟨ea, rfl, q1, q2, q3, q4⟩
      · refine ⟨true, m', _, G', rfl, h2, ⟨hnew.1, hnew.2.1, hnew.2.2, fun j z hz hzf => ?_⟩, List.length_set ..⟩
        rcases set_get hz with ⟨rfl, rfl⟩ | hz
        · rw [q1] at hzf; cases hzf
        · exact ht.ea j z hz hzf
      · refine ⟨false, m', _, G', rfl, h2, ⟨hnew.1, hnew.2.1, hnew.2.2, fun j z hz hzf => ?_⟩, List.length_set ..⟩
        rcases set_get hz with ⟨rfl, rfl⟩ | hz
        · refine ⟨q2.trans f1, ?_, ?_⟩
          · have : z.s.e.keeps = true := by rw [q4]; exact hkp
            exact this
          · rw [q4]; exact hlag
        · exact ht.ea j z hz hzf
end
end Go.Proofs.YteiikkkcjpfapaaDoor
/- DescHelped's start: memory behind Lay. No condition. -/
namespace Go.Proofs.YteiikkkcjpfapaaDoor
open Go.RowKit Go.Op
set_option maxRecDepth 100000

def m60 : M := (layS (initP.go (M.new 60)).2 8).1
theorem hs60_is : (layS (initP.go (M.new 60)).2 8).2 = hs8 := by decide +kernel
theorem lay60 : (initP.go (M.new 60)).1 = (3, 0) ∧ (initP.go (M.new 60)).2.count ≤ 1000 ∧ ∀ i : Nat, i < 8 → ((layS (initP.go (M.new 60)).2 i).1.alloc (.word i)).2.2 = 0 := by
  refine ⟨by decide +kernel, by decide +kernel, by decide +kernel⟩
theorem m60_all : (m60.cells.all fun x => decide (0 ≤ x.gen ∧ x.gen ≤ m60.count)) = true ∧ m60.live = 11 ∧ m60.count = 11 ∧ m60.cells.length = 60 ∧ (m60.cells.countP fun x => x.held.busy) = 11 := by
  refine ⟨by kernel_rfl, by kernel_rfl, by kernel_rfl, by kernel_rfl, by kernel_rfl⟩
theorem fine60 : Fine 60 m60 11 11 := by
  obtain ⟨h1, h2, h3, h4, h5⟩ := m60_all
  refine ⟨⟨fun i x hx => ?_, by rw [h2, h5]; rfl, by rw [h3]; decide⟩, h4, by rw [h3]; decide, h2⟩
  have := List.all_eq_true.1 h1 x (List.mem_of_getElem? hx)
  simpa using this
theorem look60 : m60.look 3 = some (.word 2) ∧ m60.look 2 = some (.desc ⟨0, 0, 1, [], none, 0, 0⟩) ∧ m60.look 1 = some (.word 1) ∧ m60.look 4 = some (.word 0) ∧ m60.look 5 = some (.word 1) ∧ m60.look 6 = some (.word 2) ∧ m60.look 7 = some (.word 3) ∧ m60.look 8 = some (.word 4) ∧ m60.look 9 = some (.word 5) ∧ m60.look 10 = some (.word 6) ∧ m60.look 11 = some (.word 7) := by
  refine ⟨by kernel_rfl, by kernel_rfl, by kernel_rfl, by kernel_rfl, by kernel_rfl, by kernel_rfl, by kernel_rfl, by kernel_rfl, by kernel_rfl, by kernel_rfl, by kernel_rfl⟩
theorem rel60 : Rel m60 3 hs8 wg0 2 ⟨0, 0, 1, [], none, 0, 0⟩ := by
  obtain ⟨h1, h2, h3, q0, q1, q2, q3, q4, q5, q6, q7⟩ := look60
  refine ⟨h1, h2, h3, rfl, rfl, fun k h n e1 e2 => ?_, fun e => (by cases e), by decide, by decide, rfl, ⟨by decide, by decide, fun p hp => by simp [wg0] at hp⟩, by simp [wg0]⟩
  match k, e1, e2 with
  | 0, e1, e2 => cases e1; cases e2; exact q0
  | 1, e1, e2 => cases e1; cases e2; exact q1
  | 2, e1, e2 => cases e1; cases e2; exact q2
  | 3, e1, e2 => cases e1; cases e2; exact q3
  | 4, e1, e2 => cases e1; cases e2; exact q4
  | 5, e1, e2 => cases e1; cases e2; exact q5
  | 6, e1, e2 => cases e1; cases e2; exact q6
  | 7, e1, e2 => cases e1; cases e2; exact q7
  | k + 8, e1, _ => simp [hs8] at e1
theorem enter_14 (xs : Array Value) (w : World) : (callFunc 14 xs).run Tryd.prog w = .ok (.enter 14 xs) w := by kernel_rfl
theorem enter_18 (xs : Array Value) (w : World) : (callFunc 18 xs).run Tryd.prog w = .ok (.enter 18 xs) w := by kernel_rfl
theorem enter_25 (xs : Array Value) (w : World) : (callFunc 25 xs).run Tryd.prog w = .ok (.enter 25 xs) w := by kernel_rfl
theorem alloc32 (w : World) : (Instr.alloc 32 true (.tuple #[])).run Tryd.prog w = .ok (.pointer (some ⟨w.heap.size, 0, none⟩)) (w.alloc (gobj gz sz0)) := by kernel_rfl
/-- In the region that lays the reference behind the first round. -/
structure F4Mid (w : World) (x' : Wg) (bs : List Bool) (β : Nat → Value) (V : World) : Prop where
  a : bs[3]? = some false → Below w.heap.size w V
  b0 : bs[0]? = some true → bs[1]? = some false → bs[3]? = some false → ∃ s, β 0 = wg0.v s ∧ WIsP (fun g => w.heap.size ≤ g) V wg0 s
  b1 : bs[1]? = some true → bs[3]? = some false → ∃ s', β 2 = x'.v s' ∧ WIsP (fun g => w.heap.size ≤ g) V x' s'
  b2 : bs[2]? = some true → bs[3]? = some false → ∃ z, β 3 = .pointer (some ⟨z, 0, none⟩) ∧ w.heap.size ≤ z ∧ GVar V z gz sz0
  b3 : bs[3]? = some true → ∃ s' V0 z, β 3 = .pointer (some ⟨z, 0, none⟩) ∧ w.heap.size ≤ z ∧ Below w.heap.size w V0 ∧ WIsP (fun g => w.heap.size ≤ g) V0 x' s' ∧ GVar V0 z gz sz0 ∧ V = gput V0 z x' s'
section
variable {w V : World} {x' : Wg} {bs : List Bool} {β : Nat → Value}
theorem f4_start : F4Mid w x' [false, false, false, false] β w.drew := ⟨fun _ => (Below.refl _ _).drew, fun e => (by cases e), fun e => (by cases e), fun e => (by cases e), fun e => (by cases e)⟩
theorem f4_new (h : F4Mid w x' bs β V) (h1 : bs[1]? = some false) (h3 : bs[3]? = some false) :
    Calls Tryd.prog 10 #[.int .i64 8] V fun e w' => ∃ u, e = .returned u ∧ F4Mid w x' (bs.set 0 true) (FreeV.upd β 0 u) w' := by
  have hb := h.a h3
  refine (refnew_any V).mono ?_
  rintro e w' ⟨s, rfl, hw, hb2⟩
  refine ⟨_, rfl, fun _ => hb.trans (hb2.mono hb.size), fun _ _ _ => ⟨s, by simp only [FreeV.upd, if_true], hw.wisP fun g hg => Nat.le_trans hb.size hg⟩, fun e => ?_, fun e e3 => ?_, fun e => ?_⟩
  · simp [h1] at e
  · obtain ⟨z, q1, q2, q3⟩ := h.b2 (by simpa using e) h3
    exact ⟨z, by simpa [FreeV.upd] using q1, q2, q3.later hb2⟩
  · simp [h3] at e
theorem f4_foll {n : Nat} (hn : n ≤ 255) (hx : x' = wg0.foll n 0 false 0) (h : F4Mid w x' bs β V) (h0 : bs[0]? = some true) (h1 : bs[1]? = some false) (h3 : bs[3]? = some false) :
    Calls Tryd.prog 14 #[β 0, .agg #[.int .u8 (n : Int), .int .u8 0, .bool false], .int .i64 0] V fun e w' => ∃ u, e = .returned u ∧ F4Mid w x' (bs.set 1 true) (FreeV.upd β 2 u) w' := by
  have hb := h.a h3
  obtain ⟨s, e0, hw⟩ := h.b0 h0 h1 h3
  rw [e0]
  have hf := follow_any V (P := fun g => w.heap.size ≤ g) wg0 s hw (fun g hg => Nat.le_trans hb.size hg) ⟨by decide, by decide, fun p hp => by simp [wg0] at hp⟩ n 0 0 hn (by decide) (by decide) ⟨by decide, by decide⟩ false
  refine hf.mono ?_
  rintro e w' ⟨s', rfl, hw', hb2⟩
  refine ⟨_, rfl, fun _ => hb.trans (hb2.mono hb.size), fun _ e => ?_, fun _ _ => ⟨s', by simp only [FreeV.upd, if_true, hx]; rfl, by rw [hx]; exact hw'⟩, fun e e3 => ?_, fun e => ?_⟩
  · rw [set_at h1] at e; cases e
  · obtain ⟨z, q1, q2, q3⟩ := h.b2 (by simpa using e) h3
    exact ⟨z, by simpa [FreeV.upd] using q1, q2, q3.later hb2⟩
  · simp [h3] at e
theorem f4_alloc (h : F4Mid w x' bs β V) (_h2 : bs[2]? = some false) (h3 : bs[3]? = some false) :
    ∃ u w', (Instr.alloc 32 true (.tuple #[])).run Tryd.prog V = .ok u w' ∧ F4Mid w x' (bs.set 2 true) (FreeV.upd β 3 u) w' := by
  have hb := h.a h3
  have hb2 := (Below.refl V.heap.size V).alloc (Nat.le_refl _) (gobj gz sz0)
  refine ⟨_, _, alloc32 V, fun _ => hb.trans (hb2.mono hb.size), fun e e1 _ => ?_, fun e _ => ?_, fun _ _ => ⟨V.heap.size, by simp only [FreeV.upd, if_true], hb.size, gnew V gz sz0⟩, fun e => ?_⟩
  · obtain ⟨s, q1, q2⟩ := h.b0 (by simpa using e) (by simpa using e1) h3
    exact ⟨s, by simpa [FreeV.upd] using q1, q2.later hb2⟩
  · obtain ⟨s, q1, q2⟩ := h.b1 (by simpa using e) h3
    exact ⟨s, by simpa [FreeV.upd] using q1, q2.later hb2⟩
  · simp [h3] at e
theorem f4_store (h : F4Mid w x' bs β V) (h1 : bs[1]? = some true) (h2 : bs[2]? = some true) (h3 : bs[3]? = some false) :
    ∃ w', (Instr.storeAt 32 (β 3) (β 2)).run Tryd.prog V = .ok () w' ∧ F4Mid w x' (bs.set 3 true) β w' := by
  obtain ⟨s', e2, hw⟩ := h.b1 h1 h3
  obtain ⟨z, e3, hz, hg⟩ := h.b2 h2 h3
  have hb := h.a h3
  rw [e2, e3]
  refine ⟨_, hg.store _ _, fun e => ?_, fun _ _ e => ?_, fun _ e => ?_, fun _ e => ?_, fun _ => ⟨s', V, z, e3, hz, hb, hw, hg, rfl⟩⟩
  all_goals
    rw [set_at h3] at e; cases e
end
theorem Bys.nat {w W : World} {a : Option Addr} {T : List Int} (h : Bys w a T) (hb : Below w.heap.size w W) {k : Nat} (hk : k < T.length) : ∃ (pb off xn : Nat), a = some ⟨pb, off, none⟩ ∧ W.cell? ⟨pb, off + k, none⟩ = some (.int .u8 (xn : Int)) ∧ xn ≤ 255 := by
  obtain ⟨pb, off, ea, x1, x2, x3⟩ := h.at_ hb hk
  generalize T[k] = q at x1 x2 x3
  exact ⟨pb, off, q.toNat, ea, by rw [x1, show ((q.toNat : Nat) : Int) = q by omega], by omega⟩
theorem HRel.more {m : M} {top : Int} {hs : List Int} {x : Wg} {hh : Int} {d : Ds} (h : HRel m top hs x hh d) (k : Nat) : HRel (m.more k) top hs x hh d :=
  h.move (h.half.same fun a _ => more_look m k a) fun a _ _ => more_look m k a
theorem IsNew.more {m : M} {hs : List Int} {x : Wg} {k : Nat} (h : IsNew m hs x k) (j : Nat) : IsNew (m.more j) hs x k := fun a n h1 h2 => (more_look m j a).trans (h a n h1 h2)
section
variable {zd : Nat} {x x3 : Wg} {hh hh3 cc : Int} {d d3 : Ds} {m : M} {L : List Mach}
theorem Tu.more (h : Tu zd x hh d cc m L) (k : Nat) : Tu zd x hh d (cc + k) (m.more k) L :=
  ⟨h.hr.more k, h.hf.more k, fun i y hi => ⟨fun e => let ⟨q1, q2, q3⟩ := (h.ea i y hi).1 e; ⟨q1, q2, q3.move (fun _ q => q.more k) (fun e => (more_look m k d.st).trans e)⟩, fun e => (more_look m k d.st).trans ((h.ea i y hi).2 e)⟩⟩
theorem Tu.start (hr : Rel m 3 hs8 x hh d) (hd : x.done = false) (hf : Fine 60 m cc 13) : Tu zd x hh d cc m [] := ⟨hr.half hd, hf, fun i y hy => (by simp at hy)⟩
theorem Tu.add (h : Tu zd x hh d cc m L) (z : Nat) : Tu zd x hh d cc m (L ++ [mach0 z (caps21 zd)]) := by
  refine ⟨h.hr, h.hf, fun i y hy => ?_⟩
  rw [List.getElem?_append] at hy
  split at hy
  · exact h.ea i y hy
  · have hj := (List.getElem?_eq_some_iff.1 hy).1
    simp at hj
    obtain rfl : i = L.length := by omega
    simp at hy
    subst hy
    exact ⟨fun _ => ⟨rfl, rfl, ⟨fun a ha => (by simp [mach0, Pt.e] at ha), by simp [mach0, Pt.e], fun p hp => (by simp [mach0, Pt.e] at hp), fun e => (by simp [mach0, Pt.e] at e)⟩⟩, fun e => (by cases e)⟩
theorem Tu.told (h : Tu zd x hh d cc m L) {m' : M} (hc : 11 ≤ m'.count) (i : Nat) (y : Mach) (hi : L[i]? = some y) (hf : y.fin = false) : (y.s.e.told.length : Int) ≤ m'.count := by
  obtain ⟨_, _, q3⟩ := (h.ea i y hi).1 hf
  have := q3.le
  have := h.hr.half.fit.wl
  omega
theorem Lt.more (h : Lt zd x x3 hh3 d3 d cc m L) (k : Nat) : Lt zd x x3 hh3 d3 d (cc + k) (m.more k) L := ⟨h.hr.more k, h.hf.more k, h.past.more k, h.ea⟩
end
/-- What the cells hold, each its old word or its new one. -/
theorem half_words {m : M} {hs : List Int} {st : Int} {x : Wg} (h : Half m hs st x) : ∃ ns : List Int, hs.length = ns.length ∧ ∀ (i : Nat) (k n : Int), hs[i]? = some k → ns[i]? = some n → m.look k = some (.word n) := by
  refine ⟨hs.map fun k => match m.look k with
    | some (.word n) => n
    | _ => 0, by simp, fun i k n h1 h2 => ?_⟩
  rw [List.getElem?_map, h1] at h2
  have hi := (List.getElem?_eq_some_iff.1 h1).1
  have l8 := h.len
  have f8 := h.fit.len
  have n8 := h.fit.help.len
  rcases h.cell i k _ _ h1 (List.getElem?_eq_getElem (by omega)) (List.getElem?_eq_getElem (by omega)) with e | e
  all_goals
    simp only [Option.map_some, e, Option.some.injEq] at h2
    rw [e, h2]
theorem go_vers {m : M} {top : Int} {hs : List Int} {x : Wg} {hh : Int} {d : Ds} (h : Rel m top hs x hh d) : (versionP top).go m = ((if x.done = true then x.ver else x.bf, 0), m.more 3) := by
  simp only [versionP, Pr.go_bind, go_last h, Pr.go, h.ver, h.bf]
/-- A block of the law's own, wherever the heap ends. -/
structure MineP (w0 : World) (b c r : Nat) (G : List (Nat × List Sw)) (L : List Mach) (rv : Value) (z : Nat) : Prop where
  ge : w0.heap.size ≤ z
  ne : z ≠ b ∧ z ≠ c ∧ z ≠ r
  ng : ∀ x, x ∈ G → x.1 ≠ z
  x : ∀ (i : Nat) (x : Mach), L[i]? = some x → z ≠ x.xb ∧ x.t.ownBlock ≠ some z
  nr : rv.ownBlock ≠ some z
section
variable {w0 : World} {b c r : Nat} {G G' : List (Nat × List Sw)} {w w' : World} {m m' : M} {L : List Mach} {rv : Value} {z : Nat}
theorem Mine.p (h : Mine w0 b c r G w L rv z) : MineP w0 b c r G L rv z := ⟨h.loc.ge, h.loc.ne, h.loc.ng, h.off.x, h.nr⟩
theorem MineP.mine (h : MineP w0 b c r G L rv z) (hz : z < w.heap.size) : Mine w0 b c r G w L rv z := ⟨⟨hz, h.ge, h.ne, h.ng⟩, ⟨hz, h.ne, h.x⟩, h.nr⟩
theorem Crew.newP (h : Crew w0 b c r G w m L rv) (hz : w.heap.size ≤ z) : MineP w0 b c r G L rv z := by
  obtain ⟨m0, q1, q2, q3, q4, q5, q6⟩ := id h.tm
  have o := q1.has.at_.own
  have b1 := o.lb
  have b2 := o.lc
  have b3 := o.lr
  refine ⟨Nat.le_trans q1.has.below.size hz, ⟨by omega, by omega, by omega⟩, fun x hx e => by have := (q5 x.1 x.2 hx).1.lt; omega, fun i x hx => ?_, fun e => by have := (World.ownsRow.lt h.row _ e).2; omega⟩
  have p := (q1.mac i x hx).sys.pt
  have p1 := p.lt
  exact ⟨by omega, fun e => by have := (World.ownsRow.lt p.own _ e).2; omega⟩
end
/-- What stands behind the first closure. -/
structure S8 (W w0 : World) (b c r : Nat) (G : List (Nat × List Sw)) (zy zd zx gh cap n : Nat) (hh : Int) (d d1 : Ds) (m : M) (V : World) : Prop where
  has : HasE w0 b c r G V m
  hv : HVar w0 b c r G zy W.heap.size gh cap n V
  dv : DVar V zd d1
  de : d1.e = d
  di : d1.In G
  ld : LocM w0 b c r G V zd
  hr : Rel m 3 hs8 (wg0.foll n 0 true 0) hh d
  hf : Fine 60 m 80 13
  x0 : V.cell? ⟨zx, 0, none⟩ = some (.int .u8 (n : Int))
  x1 : V.cell? ⟨zx, 1, none⟩ = some (.int .u8 0)
  x2 : V.cell? ⟨zx, 2, none⟩ = some (.bool false)
  lx : zx < V.heap.size
  ww : W.heap.size + 1 ≤ w0.heap.size
  bw : Below W.heap.size W w0
section
variable {W w0 : World} {b c r : Nat} {G : List (Nat × List Sw)} {zy zd zx gh cap n : Nat} {hh : Int} {d d1 : Ds} {m : M} {V V' : World}
theorem S8.later (h : S8 W w0 b c r G zy zd zx gh cap n hh d d1 m V) (hb : Below V.heap.size V V') : S8 W w0 b c r G zy zd zx gh cap n hh d d1 m V' :=
  ⟨h.has.later hb, h.hv.later hb, h.dv.later hb, h.de, h.di, h.ld.later hb.size (Grow.refl _ _), h.hr, h.hf, (hb.cell (p := ⟨zx, 0, none⟩) h.lx).trans h.x0, (hb.cell (p := ⟨zx, 1, none⟩) h.lx).trans h.x1, (hb.cell (p := ⟨zx, 2, none⟩) h.lx).trans h.x2, Nat.lt_of_lt_of_le h.lx hb.size, h.ww, h.bw⟩
theorem hl_start (h : S8 W w0 b c r G zy zd zx gh cap n hh d d1 m V) {z : Nat} {x' : Wg} {s' : Ws} {V0 : World} (hz : V.heap.size ≤ z) (hb : Below V.heap.size V V0) (hw : WIsP (fun g => V.heap.size ≤ g) V0 x' s') (hg : GVar V0 z gz sz0) (hf : x'.Fit) (hx : x'.wait = []) :
    HL w0 b c r G zy W.heap.size zd z gh cap n x' s' d1 m [] (.slice none 0 0) (gput V0 z x' s') := by
  have hk := gput_but V0 z x' s'
  have h0 := h.later hb
  have l1 := h.hv.ly.lt
  have l2 := h.ld.lt
  have l3 := h.hv.lh.lt
  have lz := h.has.newloc hz hg.lt
  have lg : ∀ g, LocM w0 b c r G V0 g → LocM w0 b c r G (gput V0 z x' s') g := fun g hg => hg.later hk.size (Grow.refl _ _)
  refine ⟨Crew.nil (h0.has.aside hk ⟨lz.ne.1, lz.ne.2.1, lz.ne.2.2, lz.ge, lz.ng⟩), h0.hv.same (hk.block _ h0.hv.ly.lt (by omega)) (hk.block _ h0.hv.lh.lt (by omega)) hk.size (Grow.refl _ _), h0.dv.same hk.size (hk.block _ h0.dv.lt (by omega)), h0.di, hg.put x' s', ?_, ⟨(lg _ h0.hv.ly).mine0, (lg _ h0.ld).mine0, (lg _ lz).mine0, (lg _ h0.hv.lh).mine0⟩, ⟨by omega, by omega, by omega⟩⟩
  have hw2 : WIsP (fun g => V.heap.size ≤ g ∧ g ≠ z) V0 x' s' := by
    refine ⟨?_, .inl hx, hw.cc⟩
    rcases hw.c with e | ⟨g, e1, e2, e3, e4⟩
    · exact .inl e
    · refine .inr ⟨g, e1, ⟨e2, fun e => ?_⟩, e3, e4⟩
      have h8 := hf.len
      have k1 := e4 0 _ (List.getElem?_eq_getElem (by omega))
      have k2 := hg.cells.1
      rw [e] at k1
      rw [k1] at k2
      cases k2
  refine (hw2.same hk.size fun g hg2 hl => hk.block g hl hg2.2).imp fun g hg2 hl => ⟨?_, hg2.2⟩
  exact (h.has.newloc hg2.1 hl).mine0
end
end Go.Proofs.YteiikkkcjpfapaaDoor
/- DescHelped's walk. Condition: the library's table stands. -/
namespace Go.Proofs.YteiikkkcjpfapaaDoor
open Go.RowKit Go.Op
set_option maxRecDepth 100000

def xobj (n : Nat) : Obj := .cells #[.int .u8 (n : Int), .int .u8 0, .bool false] 39
set_option maxHeartbeats 800000 in
theorem helped_law (W : World) (hT : TabAt W) (n kk : Nat) (hn : n ≤ 255) (hkk : kk ≤ 255) (a1 : Option Addr) (l1 : List Int) (cap1 : Nat) (a2 : Option Addr) (l2 : List Int) (cap2 : Nat) (hl1 : Bys W a1 l1) (hl2 : Bys W a2 l2) :
    Calls Tryd.prog 4 #[.int .u8 (n : Int), .int .u8 (kk : Int), .slice a1 l1.length cap1, .slice a2 l2.length cap2] W fun e w' => e = .returned (.bool true) ∧ Below W.heap.size W w' := by
  obtain ⟨k1, hk1⟩ : ∃ k, k = l1.length := ⟨_, rfl⟩
  obtain ⟨k2, hk2⟩ : ∃ k, k = l2.length := ⟨_, rfl⟩
  have hwk := fun (V : World) (hb : Below W.heap.size W V) => awake_any V (hT.below hb)
  have HN := Lib.hid (⟨hk1, hk2, hl1, hl2, hT, hn⟩ : _ ∧ _ ∧ _ ∧ _ ∧ _ ∧ _)
  rw [← hk1, ← hk2]
  have hkk2 : (kk : Int) ≤ 255 := by omega
  clear hk1 hk2 hl1 hl2 hT hn hkk
  have b1 := (Below.refl W.heap.size W).alloc (Nat.le_refl _) (.cells #[.int .u8 (n : Int)] 5)
  have HB1 := Lib.hid b1
  have haw := hwk _ b1
  have HWK := Lib.hid hwk
  clear hwk b1
  have s1 : (W.alloc (.cells #[.int .u8 (n : Int)] 5)).heap.size = W.heap.size + 1 := by simp
  have HS1 := Lib.hid s1
  have cr : (W.alloc (.cells #[.int .u8 (n : Int)] 5)).cell? ⟨W.heap.size, 0, none⟩ = some (.int .u8 (n : Int)) := by simp [go_sem]
  obtain ⟨w1, hw1⟩ : ∃ V, V = W.alloc (.cells #[.int .u8 (n : Int)] 5) := ⟨_, rfl⟩
  rw [← hw1] at haw HB1 HS1 cr
  have HW1 := Lib.hid hw1.symm
  clear hw1 s1
  go_enter Tryd.func4, Tryd.ntmps4
  go_wp2_with (first | rw [HW1.out] | fail)
  refine haw.mono ?_
  rintro e w2 ⟨rfl, hb2⟩
  have cr2 := (hb2.cell (p := ⟨W.heap.size, 0, none⟩) (by have := HS1.out; simp only; omega)).trans cr
  have HB2 := Lib.hid (HB1.out.trans (hb2.mono HB1.out.size))
  have HCR := Lib.hid cr2
  have HS2 : Hid (W.heap.size + 1 ≤ w2.heap.size) := by have := HS1.out; have := hb2.size; unfold Hid; omega
  clear haw hb2 cr cr2
  by_cases hlen1 : k1 ≤ 400
  · have hl1 : (k1 : Int) ≤ 400 := by omega
    by_cases hlen2 : k2 ≤ 400
    · have hl2 : (k2 : Int) ≤ 400 := by omega
      obtain ⟨e0, e1, e2⟩ := lay60
      have hla := lay_any w2 (HN.out.2.2.2.2.1.below HB2.out) 60 8 (by decide) (by decide) (by decide) (by rw [e0]) e1 e2
      clear e1 e2
      go_wp2_with fail
      refine hla.mono ?_
      rintro e w3 ⟨⟨b, c, r, G, v, rfl, hE, hN⟩, hb3⟩
      rw [hs60_is] at hN
      rw [e0]
      obtain ⟨a, cap, rfl, hrow⟩ := hN
      simp only [show hs8.length = 8 from rfl] at hrow ⊢
      obtain ⟨gh, rfl, lgh, hgh⟩ : ∃ g, a = some ⟨g, 0, none⟩ ∧ LocM w2 b c r G w3 g ∧ ∀ (i : Nat) (x : Int), hs8[i]? = some x → w3.cell? ⟨g, i, none⟩ = some (.int .i64 x) := by
        rcases hrow with e | e
        · exact absurd e (by decide)
        · exact e
      have hz3 : W.heap.size < w3.heap.size := by have := HS2.out; have := hb3.size; omega
      have cr3 := (hb3.cell (p := ⟨W.heap.size, 0, none⟩) (by have := HS2.out; simp only; omega)).trans HCR.out
      obtain ⟨w4, hw4⟩ : ∃ V, V = w3.alloc (yobj b 3 (some ⟨gh, 0, none⟩) 8 cap) := ⟨_, rfl⟩
      obtain ⟨w5, hw5⟩ : ∃ V, V = w4.alloc dobj := ⟨_, rfl⟩
      obtain ⟨w6, hw6⟩ : ∃ V, V = w5.alloc (xobj n) := ⟨_, rfl⟩
      have s4 : w4.heap.size = w3.heap.size + 1 := by rw [hw4]; simp
      have s5 : w5.heap.size = w3.heap.size + 1 + 1 := by rw [hw5]; simp [s4]
      have s6 : w6.heap.size = w3.heap.size + 1 + 1 + 1 := by rw [hw6]; simp [s5]
      have b4 : Below w3.heap.size w3 w4 := by rw [hw4]; exact (Below.refl _ _).alloc (Nat.le_refl _) _
      have b5 : Below w4.heap.size w4 w5 := by rw [hw5]; exact (Below.refl _ _).alloc (Nat.le_refl _) _
      have b6 : Below w5.heap.size w5 w6 := by rw [hw6]; exact (Below.refl _ _).alloc (Nat.le_refl _) _
      have b56 := b5.trans (b6.mono b5.size)
      have b46 := b4.trans (b56.mono b4.size)
      have y4 : YVar w4 w3.heap.size b 3 (.slice (some ⟨gh, 0, none⟩) 8 cap) := by rw [hw4]; exact ynew w3 b 3 (some ⟨gh, 0, none⟩) 8 cap
      have ly4 : LocM w2 b c r G w4 w3.heap.size := by rw [hw4]; exact hE.fresh _
      have d5 : DVar w5 w4.heap.size d0 := by rw [hw5]; exact dnew w4
      have ld5 : LocM w2 b c r G w5 w4.heap.size := by rw [hw5]; exact (hE.later b4).fresh _
      have lx6 : LocM w2 b c r G w6 w5.heap.size := by rw [hw6]; exact (hE.later (b4.trans (b5.mono b4.size))).fresh _
      have x6 : w6.cell? ⟨w5.heap.size, 0, none⟩ = some (.int .u8 (n : Int)) ∧ w6.cell? ⟨w5.heap.size, 1, none⟩ = some (.int .u8 0) ∧ w6.cell? ⟨w5.heap.size, 2, none⟩ = some (.bool false) := by
        rw [hw6]; unfold xobj
        simp [go_sem]
      have hE6 := hE.later b46
      have hv6 : HVar w2 b c r G w3.heap.size W.heap.size gh cap n w6 :=
        ⟨y4.same (b56.block _ (by omega)), ⟨by have := HS2.out; omega, HCR.out⟩, ly4.later b56.size (Grow.refl _ _), lgh.later b46.size (Grow.refl _ _), fun i x hx => (b46.cell (p := ⟨gh, i, none⟩) lgh.lt).trans (hgh i x hx), HN.out.2.2.2.2.2⟩
      have ld6 := ld5.later b6.size (Grow.refl _ _)
      have hgl := lgh.lt
      have hcl := clo18 hE6 (HN.out.2.2.2.2.1.below HB2.out) hv6 (d5.later b6) ld6 ⟨by omega, by omega⟩ rel60 fine60
      have hdo := do_any w6 b 18 #[.pointer (some ⟨w3.heap.size, 0, none⟩), .pointer (some ⟨W.heap.size, 0, none⟩), .pointer (some ⟨w4.heap.size, 0, none⟩)] _ enter_18 hcl
      rw [s4] at hdo ld6
      rw [s5] at lx6 x6
      have H6 := Lib.hid (⟨hv6, ld6, lx6, x6, hgl, s6⟩ : _ ∧ _ ∧ _ ∧ _ ∧ _ ∧ _)
      have HW : Hid (((w3.alloc (.cells #[.pointer (some ⟨b, 0, none⟩), .int .i64 3, .slice (some ⟨gh, 0, none⟩) 8 cap] 27)).alloc (.cells #[.int .i64 0, .int .i64 0, .int .i64 0, .slice none 0 0] 52)).alloc (.cells #[.int .u8 (n : Int), .int .u8 0, .bool false] 39) = w6) := by
        rw [hw6, hw5, hw4]; rfl
      have c00 : w6.cell? ⟨w3.heap.size, 0, none⟩ = some (.pointer (some ⟨b, 0, none⟩)) := hv6.y.c0
      have hm := hmf1
      have a4 := as4_yes
      clear hla hrow lgh hgh hw4 hw5 hw6 s4 s5 s6 b4 b5 b6 b56 b46 y4 ly4 d5 ld5 lx6 x6 hE6 hv6 hcl hE e0 ld6 hgl
      go_wp2_with (first | rw [HW.out] | fail)
      refine hdo.mono ?_
      rintro e w7 ⟨u, rfl, rfl, t2, G2, m2, hh2, d2, d1, hg, hr, hf, hd, hde, hdi⟩
      obtain ⟨zy, hzy⟩ : ∃ z, z = w3.heap.size := ⟨_, rfl⟩
      obtain ⟨zd, hzd⟩ : ∃ z, z = w3.heap.size + 1 := ⟨_, rfl⟩
      obtain ⟨zx, hzx⟩ : ∃ z, z = w3.heap.size + 1 + 1 := ⟨_, rfl⟩
      have HS8 : Hid (S8 W w2 b c r G2 zy zd zx gh cap n hh2 d2 d1 m2 w7) := by
        rw [hzy, hzd, hzx]
        obtain ⟨hv6, ld6, lx6, x6, hgl, s6⟩ := H6.out
        have hx7 := hg.but.block (w3.heap.size + 1 + 1) (by omega) (by have := lx6.ne; simp; omega)
        have kx : ∀ j, w7.cell? ⟨w3.heap.size + 1 + 1, j, none⟩ = w6.cell? ⟨w3.heap.size + 1 + 1, j, none⟩ := fun j => World.cell?_of_block (w := w6) (a := ⟨w3.heap.size + 1 + 1, j, none⟩) hx7
        exact ⟨hg.sys.mem, hv6.move hg.but hg.gro ⟨by have := hv6.ly.ne; simp; omega, by have := hv6.lh.ne; simp; omega⟩, hd, hde, hdi, ld6.later hg.but.size hg.gro, hr, hf, (kx 0).trans x6.1, (kx 1).trans x6.2.1, (kx 2).trans x6.2.2, by have := hg.but.size; omega, HS2.out, HB2.out⟩
      rw [← hzx, ← hzd, ← hzy]
      have HX : Hid (∀ V, Below w7.heap.size w7 V → V.cell? ⟨zx, 0, none⟩ = some (.int .u8 (n : Int)) ∧ V.cell? ⟨zx, 1, none⟩ = some (.int .u8 0) ∧ V.cell? ⟨zx, 2, none⟩ = some (.bool false)) := fun V hb => by
        have := HS8.out.later hb
        exact ⟨this.x0, this.x1, this.x2⟩
      obtain ⟨x', hx'⟩ : ∃ x', x' = wg0.foll n 0 false 0 := ⟨_, rfl⟩
      have HFX := Lib.hid hx'
      clear hdo hg hr hf hd hde hdi hz3 cr3 H6 HW c00 hzy hzd hzx hx' t2 HWK HB1 HS1 HW1
      go_wp2_with fail
      refine FreeV.region_puts (S := F4Mid w7 x') (effs := [0, 2, 3, 4])
        (tab := [⟨0, fun _ => [.func (.func 10) #[] #[], .int .i64 8], fun β => (β 0), .get⟩,
          ⟨1, fun _ => [.pointer (some ⟨zx, 0, none⟩)], fun _ => (.agg #[.int .u8 (n : Int), .int .u8 0, .bool false]), .read⟩,
          ⟨2, fun β => [.func (.func 14) #[] #[], (β 0), (.agg #[.int .u8 (n : Int), .int .u8 0, .bool false]), .int .i64 0], fun β => (β 2), .get⟩,
          ⟨3, fun _ => [], fun β => (β 3), .eff⟩,
          ⟨4, fun β => [(β 3), (β 2)], fun _ => undef, .put⟩])
        (vs := [([0], fun l => l.headD undef), ([], fun _ => (.agg #[.int .u8 (n : Int), .int .u8 0, .bool false])), ([2], fun l => l.headD undef), ([3], fun l => l.headD undef), ([], fun _ => undef)])
        (by kernel_rfl) ⟨by kernel_rfl, ⟨FreeV.d_get1 _ rfl rfl enter_10 0 rfl (fun β bs w h hd => f4_new h ((hd 1 2 rfl).2 (.inl (by kernel_rfl))) ((hd 3 4 rfl).2 (.inl (by kernel_rfl)))),
          FreeV.d_load _ rfl rfl (fun β bs w h hd => load_39 (HX.out _ (h.a ((hd 3 4 rfl).2 (.inl (by kernel_rfl))))).1 (HX.out _ (h.a ((hd 3 4 rfl).2 (.inl (by kernel_rfl))))).2.1 (HX.out _ (h.a ((hd 3 4 rfl).2 (.inl (by kernel_rfl))))).2.2),
          FreeV.d_get3 _ rfl rfl enter_14 1 rfl (fun β bs w h hd => f4_foll HN.out.2.2.2.2.2 HFX.out h ((hd 0 0 rfl).1 (by kernel_rfl)) ((hd 1 2 rfl).2 (.inr rfl)) ((hd 3 4 rfl).2 (.inl (by kernel_rfl)))),
          FreeV.d_alloc _ rfl rfl 2 rfl (fun β bs w h hd => f4_alloc h ((hd 2 3 rfl).2 (.inr rfl)) ((hd 3 4 rfl).2 (.inl (by kernel_rfl)))),
          FreeV.d_store _ rfl rfl 3 rfl (fun β bs w h hd => f4_store h ((hd 1 2 rfl).1 (by kernel_rfl)) ((hd 2 3 rfl).1 (by kernel_rfl)) ((hd 3 4 rfl).2 (.inr rfl))),
          trivial⟩,
          fun β => by kernel_rfl, fun β => by kernel_rfl, by kernel_rfl, fun β => by kernel_rfl, by kernel_rfl⟩ f4_start (fun β => Free.from_ 61 [(β 0), (.agg #[.int .u8 (n : Int), .int .u8 0, .bool false]), (β 2)] ++ [(15, (β 3))]) (fun β => by kernel_rfl) ?_
      intro β w9 h9
      rw [FreeX.puts_append, Free.puts_from _ _ _ (Nat.le_of_ble_eq_true rfl)]
      simp only [List.take_succ_cons, List.take_zero, List.drop_succ_cons, List.drop_zero, List.cons_append, List.nil_append, List.length_cons, List.length_nil, Nat.reduceAdd]
      unfold Free.puts
      simp only [List.foldl_cons, List.foldl_nil]
      obtain ⟨s', V0, z, e3, hz, hbV, hws, hgv, rfl⟩ := h9.b3 rfl
      clear h9
      generalize β 0 = v0 at *
      generalize β 2 = v2 at *
      generalize β 3 = v3 at *
      subst e3
      obtain ⟨x, hx⟩ : ∃ x, x = wg0.foll n 0 true 0 := ⟨_, rfl⟩
      have hxh : x' = x.help := by rw [HFX.out, hx]; rfl
      have hxf : x'.Fit := by rw [HFX.out]; exact Wg.Fit.foll ⟨by decide, by decide, fun p hp => by simp [wg0] at hp⟩ n 0 false 0
      have HH : Hid (HL w2 b c r G2 zy W.heap.size zd z gh cap n x.help s' d1 m2 [] (.slice none 0 0) (gput V0 z x' s') ∧ Tu zd x hh2 d2 80 m2 []) := by
        rw [← hxh]
        exact ⟨hl_start HS8.out hz hbV hws hgv hxf (by rw [HFX.out]; rfl), Tu.start (by rw [hx]; exact HS8.out.hr) (by rw [hx]; rfl) HS8.out.hf⟩
      have HC : Hid (d1.e = d2 ∧ x.wait = chg n 0 ∧ x.done = false ∧ (∀ p ∈ x.wait, ∀ o, x.cells[p.1]? = some o → o ≠ p.2) ∧ x.ver = 1 ∧ x.help.Fit ∧ x.help.cells.length = 8 ∧ 0 ≤ x.help.ver ∧ x.help.ver ≤ 1) := by
        rw [← hxh]
        refine ⟨HS8.out.de, by rw [hx]; rfl, by rw [hx]; rfl, by rw [hx]; exact foll0_ne n, by rw [hx]; rfl, hxf, hxf.len, ?_, ?_⟩ <;> rw [HFX.out, show (wg0.foll n 0 false 0).ver = 1 from rfl] <;> decide
      have HBW : Hid (∀ G m L s x rv V, HL w2 b c r G zy W.heap.size zd z gh cap n x s d1 m L rv V → Below W.heap.size W V) := fun G m L s x rv V h => HB2.out.trans (h.cr.tm.has.ge.2.2.2.mono HB2.out.size)
      obtain ⟨w9, hw9⟩ : ∃ V, V = gput V0 z x' s' := ⟨_, rfl⟩
      rw [← hw9] at HH ⊢
      clear hz hbV hws hgv hxf hxh hx hw9 HS8 HX HFX
      go_wp2_with fail
      go_loopw [16, 17] (fun rv iv wr => ∃ (L : List Mach) (i : Nat) (la : Option Addr) (lc : Nat), i ≤ 1 + kk % 6 ∧ iv = .int .i64 (i : Int) ∧ rv = .slice la i lc ∧ Hid (HL w2 b c r G2 zy W.heap.size zd z gh cap n x.help s' d1 m2 L (.slice la i lc) wr ∧ Tu zd x hh2 d2 80 m2 L ∧ L.length = i)) (fun _ iv _ => 6 - (intOf iv).toNat)
      case atStart => exact ⟨[], 0, none, 0, by omega, rfl, rfl, HH.out.1, HH.out.2, rfl⟩
      case round =>
        obtain ⟨L, i, la, lc, hi, rfl, rfl, hR⟩ := hrel
        clear HH
        by_cases hlt : i < 1 + kk % 6
        · have i1 : (i : Int) < 1 + (kk : Int) % 6 := by omega
          have hnm := newmach_any (b := b) (caps21 zd) wr ⟨_, _, rfl⟩
          have y0 := hR.out.1.hv.y.c0
          unfold caps21 at hnm
          go_wp2_with fail
          refine hnm.mono ?_
          rintro e w5 ⟨rfl, hw5⟩
          have hz5 : w5.heap.size = wr.heap.size + 1 := by rw [hw5]; simp
          have HW5 := Lib.hid hw5
          have HO : Hid ((w5.alloc (.cells #[.pointer (some ⟨wr.heap.size, 0, none⟩)] 56)).ownsRow w2.heap.size 56 1 (.slice la i lc) (ptrs L).length (ptrs L) ∧ w2.heap.size ≤ w5.heap.size) := by
            obtain ⟨hC, hT, hLi⟩ := hR.out
            have hb : Below wr.heap.size wr (w5.alloc (.cells #[.pointer (some ⟨wr.heap.size, 0, none⟩)] 56)) := by
              rw [hw5]
              exact ((Below.refl _ _).alloc (Nat.le_refl _) _).alloc (by simp) _
            have := (hC.cr.later hb).row
            refine ⟨?_, ?_⟩
            · rw [ptrs_len]; exact this
            · have := hC.cr.tm.has.ge.2.2.2.size; omega
          have HZ := Lib.hid hz5
          clear hnm hw5 hz5 y0
          go_wp2_with (at_builtin; refine append_ptr rfl (.tmp 72) (.tmp 77) rfl w2.heap.size (.slice la i lc) (ptrs L) wr.heap.size rfl HO.out.1 w5.heap.size 1 rfl (by simp [go_sem]) (by rw [ptrs_len]; have := hR.out.2.2; omega) (by have := HO.out.2; simp; omega) ?_; intro v' w6 g1 g2 g3; have G := Lib.hid (⟨g1, g2, g3⟩ : _ ∧ _ ∧ _); clear g1 g2 g3)
          obtain ⟨g1, g2, g3⟩ := G.out
          obtain ⟨la', lc', ev⟩ : ∃ a c, v' = .slice a (i + 1) c := by
            rw [ptrs_len, hR.out.2.2] at g1
            rcases g1.2 with ⟨_, e⟩ | ⟨g, cp, _, e, _⟩
            · omega
            · exact ⟨_, _, e⟩
          subst ev
          have hE : Hid (HL w2 b c r G2 zy W.heap.size zd z gh cap n x.help s' d1 m2 (L ++ [mach0 wr.heap.size (caps21 zd)]) (.slice la' (i + 1) lc') w6 ∧ Tu zd x hh2 d2 80 m2 (L ++ [mach0 wr.heap.size (caps21 zd)]) ∧ (L ++ [mach0 wr.heap.size (caps21 zd)]).length = i + 1) := by
            obtain ⟨hC, hT, hLi⟩ := hR.out
            refine ⟨hC.add (w2 := w5.alloc (.cells #[.pointer (some ⟨wr.heap.size, 0, none⟩)] 56)) ?_ ?_ g2 g3, hT.add _, by simp; omega⟩
            · have : w5 = wr.alloc (machObj b (caps21 zd)) := HW5.out
              rw [this]
              exact (Below.refl _ _).alloc (Nat.le_refl _) _
            · rw [ptrs_len] at g1
              exact g1
          clear G HO hR g1 g2 g3
          go_roundw
          case rel => exact ⟨_, i + 1, la', lc', by omega, by go_num, rfl, hE⟩
          case measure => simp [intOf]; omega
        · have i1 : ¬ (i : Int) < 1 + (kk : Int) % 6 := by omega
          have hK : 1 ≤ i := by omega
          have hi7 : i ≤ 6 := by omega
          have HC1 : Hid (HL w2 b c r G2 zy W.heap.size zd z gh cap n x.help s' d1 m2 L (.slice la i lc) wr ∧ Tu zd x hh2 d2 80 m2 L ∧ L.length = i) := hR
          clear hR
          obtain ⟨wo, hwo⟩ : ∃ wo, wo = wr := ⟨_, rfl⟩
          subst hwo
          go_wp2_with fail
          go_loopw [18, 19] (fun ev jv wr => ∃ (j : Nat) (eb : Bool) (G : List (Nat × List Sw)) (m : M) (L : List Mach), j ≤ k1 ∧ ev = .bool eb ∧ jv = .int .i64 (j : Int) ∧ Hid (HL w2 b c r G zy W.heap.size zd z gh cap n x.help s' d1 m L (.slice la i lc) wr ∧ Tu zd x hh2 d2 (80 + 9 * (j : Int)) m L ∧ L.length = i ∧ (eb = true → m.look d2.st = some (.word 1)))) (fun _ jv _ => k1 - (intOf jv).toNat)
          case atStart => exact ⟨0, false, G2, m2, L, by omega, rfl, rfl, HC1.out.1, by simpa using HC1.out.2.1, HC1.out.2.2, fun e => (by cases e)⟩
          case round =>
            obtain ⟨j, eb, G3, m3, L3, hj, rfl, rfl, hR⟩ := hrel
            clear HC1
            by_cases hlt2 : j < k1
            · have j1 : (j : Int) < (k1 : Int) := by omega
              obtain ⟨pb, off, xn, ea, x1, hxn⟩ := HN.out.2.2.1.nat (HBW.out _ _ _ _ _ _ _ hR.out.1) (k := j) (by rw [← HN.out.1]; exact hlt2)
              subst ea
              obtain ⟨p, hp⟩ : ∃ p, p = xn % i := ⟨_, rfl⟩
              have E : (xn : Int) % (i : Int) = (p : Int) := by rw [hp]; rfl
              have hip : p < i := by rw [hp]; exact Nat.mod_lt _ (by omega)
              obtain ⟨y, hyy⟩ : ∃ y, L3[p]? = some y := ⟨_, List.getElem?_eq_getElem (by rw [hR.out.2.2.1]; exact hip)⟩
              obtain ⟨g, eg, hc⟩ := row_at hR.out.1.cr.row (k := p) (by rw [hR.out.2.2.1]; exact hip) (u := .pointer (some ⟨y.xb, 0, none⟩)) (by simp [ptrs, hyy])
              cases eg
              have hst := turn_step hR.out.1 HC.out.1 hR.out.2.1 HC.out.2.2.2.1 (by omega) hyy
              have hat : ∀ w, (Instr.indexAt 55 (.slice (some ⟨g, 0, none⟩) i lc) (.int .i64 ((xn : Int) % (i : Int)))).run Tryd.prog w = .ok (.pointer (some ⟨g, p, none⟩)) w := fun w => by rw [E]; exact at_55 g i lc p hip w
              have HR := Lib.hid (⟨hR.out.2.2.1, hR.out.2.2.2⟩ : _ ∧ _)
              have hxn2 : (xn : Int) ≤ 255 := by omega
              clear E hR hp hyy hxn
              go_wp2_with fail
              refine hst.mono ?_
              rintro e w8 ⟨o, m4, L4, G4, y', rfl, hyi, hxb, hHL, hTu, hlen, hmono⟩
              have hen := hHL.cr.tm.ended hyi
              rw [hxb] at hen
              have H4 := Lib.hid (⟨hHL, hTu, hlen⟩ : _ ∧ _ ∧ _)
              cases eb with
              | true =>
                have hw1 : m4.look d2.st = some (.word 1) := hmono (HR.out.2 rfl)
                clear hst hmono hen hyi hxb hat hc x1
                have hrl := hTu.hr.rel hw1
                have hwd := words_any hHL.cr.tm.has (by have := hTu.hf.cnt; omega) 3 (some ⟨gh, 0, none⟩) cap hs8 x.help.cells ⟨_, cap, rfl, .inr ⟨gh, rfl, hHL.hv.lh, hHL.hv.hc⟩⟩ (by rw [HC.out.2.2.2.2.2.2.1]; rfl) (by decide) (fun i k n h1 h2 => hrl.cell i k n h1 h2)
                simp only [show hs8.length = 8 from rfl] at hwd
                have y0 := hHL.hv.y.c0
                have y1 := hHL.hv.y.c1
                have y2 := hHL.hv.y.c2
                have HW1 := Lib.hid hw1
                clear hHL hTu hlen hrl hw1
                go_wp2_with fail
                refine hwd.mono ?_
                rintro e w10 ⟨vw, rfl, hN10, hx10⟩
                obtain ⟨aw, capw, rfl, -⟩ := id hN10
                have hHL10 := H4.out.1.mem hx10.has hx10.but hx10.gro (.inl (by simp only [M.more]; omega))
                have HE : Hid (HL w2 b c r G4 zy W.heap.size zd z gh cap n x.help s' d1 (m4.more 8) L4 (.slice (some ⟨g, 0, none⟩) i lc) w10 ∧ Tu zd x hh2 d2 (80 + 9 * ((j + 1 : Nat) : Int)) (m4.more 8) L4 ∧ L4.length = i ∧ (m4.more 8).look d2.st = some (.word 1)) := by
                  have ht := H4.out.2.1.more 8
                  have e : 80 + 9 * (j : Int) + 1 + ((8 : Nat) : Int) = 80 + 9 * ((j + 1 : Nat) : Int) := by push_cast; omega
                  rw [e] at ht
                  exact ⟨hHL10, ht, by rw [H4.out.2.2]; exact HR.out.1, (more_look _ _ _).trans HW1.out⟩
                have g0 := hHL10.gv.cells.1
                have hsm := same_any w10 (B1 := 0) (B2 := 0) aw s'.ca capw s'.cc x.help.cells (by
                  obtain ⟨a', c', e, hr⟩ := hN10
                  cases e
                  exact hr.imp id fun ⟨g, e, hl, hc⟩ => ⟨g, e, Nat.zero_le _, hl.lt, hc⟩) hHL10.ws.wis.c (by rw [HC.out.2.2.2.2.2.2.1]; decide)
                clear hwd hN10 hx10 hHL10 y0 y1 y2
                go_wp2_with fail
                refine hsm.mono ?_
                rintro e w12 ⟨rfl, hb12⟩
                have HE2 := Lib.hid (⟨HE.out.1.later hb12, HE.out.2⟩ : _ ∧ _)
                clear hsm hb12 HE g0
                go_wp2_with fail
                go_roundw
                case rel => exact ⟨j + 1, true, G4, _, L4, by omega, rfl, by go_num, HE2.out.1, HE2.out.2.1, HE2.out.2.2.1, fun _ => HE2.out.2.2.2⟩
                case measure => simp [intOf]; omega
              | false =>
                cases hfin : y'.fin with
                | true =>
                  have hw1 : m4.look d2.st = some (.word 1) := (hTu.ea p y' hyi).2 hfin
                  rw [hfin] at hen
                  clear hst hmono hyi hxb hat hc x1 hfin hHL hTu hlen
                  go_wp2_with fail
                  refine hen.mono ?_
                  rintro e w9' ⟨rfl, rfl⟩
                  obtain ⟨hHL, hTu, hlen⟩ := H4.out
                  clear hen
                  have hrl := hTu.hr.rel hw1
                  have hwd := words_any hHL.cr.tm.has (by have := hTu.hf.cnt; omega) 3 (some ⟨gh, 0, none⟩) cap hs8 x.help.cells ⟨_, cap, rfl, .inr ⟨gh, rfl, hHL.hv.lh, hHL.hv.hc⟩⟩ (by rw [HC.out.2.2.2.2.2.2.1]; rfl) (by decide) (fun i k n h1 h2 => hrl.cell i k n h1 h2)
                  simp only [show hs8.length = 8 from rfl] at hwd
                  have y0 := hHL.hv.y.c0
                  have y1 := hHL.hv.y.c1
                  have y2 := hHL.hv.y.c2
                  have HW1 := Lib.hid hw1
                  clear hHL hTu hlen hrl hw1
                  go_wp2_with fail
                  refine hwd.mono ?_
                  rintro e w10 ⟨vw, rfl, hN10, hx10⟩
                  obtain ⟨aw, capw, rfl, -⟩ := id hN10
                  have hHL10 := H4.out.1.mem hx10.has hx10.but hx10.gro (.inl (by simp only [M.more]; omega))
                  have HE : Hid (HL w2 b c r G4 zy W.heap.size zd z gh cap n x.help s' d1 (m4.more 8) L4 (.slice (some ⟨g, 0, none⟩) i lc) w10 ∧ Tu zd x hh2 d2 (80 + 9 * ((j + 1 : Nat) : Int)) (m4.more 8) L4 ∧ L4.length = i ∧ (m4.more 8).look d2.st = some (.word 1)) := by
                    have ht := H4.out.2.1.more 8
                    have e : 80 + 9 * (j : Int) + 1 + ((8 : Nat) : Int) = 80 + 9 * ((j + 1 : Nat) : Int) := by push_cast; omega
                    rw [e] at ht
                    exact ⟨hHL10, ht, by rw [H4.out.2.2]; exact HR.out.1, (more_look _ _ _).trans HW1.out⟩
                  have g0 := hHL10.gv.cells.1
                  have hsm := same_any w10 (B1 := 0) (B2 := 0) aw s'.ca capw s'.cc x.help.cells (by
                    obtain ⟨a', c', e, hr⟩ := hN10
                    cases e
                    exact hr.imp id fun ⟨g, e, hl, hc⟩ => ⟨g, e, Nat.zero_le _, hl.lt, hc⟩) hHL10.ws.wis.c (by rw [HC.out.2.2.2.2.2.2.1]; decide)
                  clear hwd hN10 hx10 hHL10 y0 y1 y2
                  go_wp2_with fail
                  refine hsm.mono ?_
                  rintro e w12 ⟨rfl, hb12⟩
                  have HE2 := Lib.hid (⟨HE.out.1.later hb12, HE.out.2⟩ : _ ∧ _)
                  clear hsm hb12 HE g0
                  go_wp2_with fail
                  go_roundw
                  case rel => exact ⟨j + 1, true, G4, _, L4, by omega, rfl, by go_num, HE2.out.1, HE2.out.2.1, HE2.out.2.2.1, fun _ => HE2.out.2.2.2⟩
                  case measure => simp [intOf]; omega
                | false =>
                  rw [hfin] at hen
                  clear hst hmono hyi hxb hat hc x1 hfin hHL hTu hlen
                  go_wp2_with fail
                  refine hen.mono ?_
                  rintro e w9' ⟨rfl, rfl⟩
                  obtain ⟨hHL, hTu, hlen⟩ := H4.out
                  clear hen
                  obtain ⟨ns, hns1, hns2⟩ := half_words hTu.hr.half
                  have hwd := words_any hHL.cr.tm.has (by have := hTu.hf.cnt; omega) 3 (some ⟨gh, 0, none⟩) cap hs8 ns ⟨_, cap, rfl, .inr ⟨gh, rfl, hHL.hv.lh, hHL.hv.hc⟩⟩ hns1 (by decide) hns2
                  simp only [show hs8.length = 8 from rfl] at hwd
                  have y0 := hHL.hv.y.c0
                  have y1 := hHL.hv.y.c1
                  have y2 := hHL.hv.y.c2
                  clear hHL hTu hlen hns1 hns2
                  go_wp2_with fail
                  refine hwd.mono ?_
                  rintro e w10 ⟨vw, rfl, hN10, hx10⟩
                  obtain ⟨aw, capw, rfl, -⟩ := id hN10
                  have hHL10 := H4.out.1.mem hx10.has hx10.but hx10.gro (.inl (by simp only [M.more]; omega))
                  have HE : Hid (HL w2 b c r G4 zy W.heap.size zd z gh cap n x.help s' d1 (m4.more 8) L4 (.slice (some ⟨g, 0, none⟩) i lc) w10 ∧ Tu zd x hh2 d2 (80 + 9 * ((j + 1 : Nat) : Int)) (m4.more 8) L4 ∧ L4.length = i ∧ (false = true → (m4.more 8).look d2.st = some (.word 1))) := by
                    have ht := H4.out.2.1.more 8
                    have e : 80 + 9 * (j : Int) + 1 + ((8 : Nat) : Int) = 80 + 9 * ((j + 1 : Nat) : Int) := by push_cast; omega
                    rw [e] at ht
                    exact ⟨hHL10, ht, by rw [H4.out.2.2]; exact HR.out.1, fun e => (by cases e)⟩
                  clear hwd hN10 hx10 hHL10 y0 y1 y2
                  go_wp2_with fail
                  go_roundw
                  case rel => exact ⟨j + 1, false, G4, _, L4, by omega, rfl, by go_num, HE⟩
                  case measure => simp [intOf]; omega
            · obtain rfl : j = k1 := by omega
              have j1 : ¬ (j : Int) < (j : Int) := by omega
              have HT2 : Hid (TabAt w2) := HN.out.2.2.2.2.1.below HB2.out
              have hcl := clo25 hR.out.1.cr.tm.has HT2.out hR.out.1.hv hR.out.1.dv hR.out.1.di HC.out.1 hR.out.1.my.2.1.loc hR.out.1.gv hR.out.1.my.2.2.1.loc (hR.out.1.ws.imp fun g hg _ => hg.1.loc) hR.out.2.1.hr HC.out.2.2.2.1 hR.out.2.1.hf (by omega) (by decide) HC.out.2.1 (by have := HC.out.2.2.2.2.1; omega)
              have hdo := do_any wr b 25 #[.pointer (some ⟨zd, 0, none⟩), .pointer (some ⟨zy, 0, none⟩), .pointer (some ⟨z, 0, none⟩), .pointer (some ⟨W.heap.size, 0, none⟩)] _ enter_25 hcl
              have y0 := hR.out.1.hv.y.c0
              clear hcl j1
              go_wp2_with fail
              refine hdo.mono ?_
              rintro e w10 ⟨u, rfl, rfl, t4, G4, m4, hh4, d4, hg, hr4, hf4, hpast⟩
              obtain ⟨x3, hx3⟩ : ∃ x3, x3 = x.help.foll (255 - n) 0 false 1 := ⟨_, rfl⟩
              have HX3 := Lib.hid hx3
              rw [← hx3] at hr4
              have hHL4 := hR.out.1.mem hg.sys.mem hg.but hg.gro (.inr fun i y hi hf => hR.out.2.1.told hf4.cnt.1 i y hi hf)
              have HLt : Hid (Lt zd x x3 hh4 d4 d2 (3760 : Int) m4 L3 ∧ d2.sw = swapsOf hs8 x.cells x.wait ∧ (x.wait.map (·.1)).Nodup ∧ x.Fit ∧ L3.length = i) :=
                ⟨⟨hr4, ⟨hf4.tidy, hf4.len, by have := hf4.cnt; omega, hf4.liv⟩, hpast, fun i y hi hf => let ⟨q1, q2, q3⟩ := (hR.out.2.1.ea i y hi).1 hf; ⟨q1, q2, q3.lag⟩⟩, hR.out.2.1.hr.sw, hR.out.2.1.hr.keys, hR.out.2.1.hr.half.fit, hR.out.2.2.1⟩
              have hfo : Calls Tryd.prog 14 #[x.help.v s', .agg #[.int .u8 ((255 - n : Nat) : Int), .int .u8 0, .bool false], .int .i64 1] w10 fun e w' => ∃ s3, e = .returned (x3.v s3) ∧ WIsP (fun g => MineP w2 b c r G4 L3 (.slice la i lc) g ∧ g ≠ z) w' x3 s3 ∧ Below w10.heap.size w10 w' := by
                rw [hx3]
                exact follow_any w10 (P := fun g => MineP w2 b c r G4 L3 (.slice la i lc) g ∧ g ≠ z) x.help s' (hHL4.ws.imp fun g hg _ => ⟨hg.1.p, hg.2⟩) (fun g hg => ⟨hHL4.cr.newP hg, by have := hHL4.gv.lt; omega⟩) HC.out.2.2.2.2.2.1 (255 - n) 0 1 (by omega) (by decide) (by decide) ⟨HC.out.2.2.2.2.2.2.2.1, by have := HC.out.2.2.2.2.2.2.2.2; omega⟩ false
              have crq := (hHL4.cr.tm.has.ge.2.2.2.cell (p := ⟨W.heap.size, 0, none⟩) hHL4.hv.q.1).trans hHL4.hv.q.2
              obtain ⟨g0, g1, g2, g3, g4⟩ := hHL4.gv.cells
              have hn8 : n < 256 := by have := HN.out.2.2.2.2.2; omega
              have hn9 : (n : Int) ≤ 255 := by omega
              have HH4 := Lib.hid hHL4
              clear hdo hg hr4 hf4 hpast hHL4 hR y0 hx3
              unfold Wg.v at hfo
              go_wp2_with fail
              rw [xor_255 n hn8]
              refine hfo.mono ?_
              rintro e w11 ⟨s3, rfl, hws, hb11⟩
              have hHL5 := HH4.out.later hb11
              have hHL6 := hHL5.put (x' := x3) (s' := s3) (hws.imp fun g hg hl => ⟨hg.1.mine hl, hg.2⟩)
              have HH6 := Lib.hid hHL6
              obtain ⟨g0, g1, g2, g3, g4⟩ := hHL5.gv.cells
              have gf := hHL5.gv.fz
              have gl := hHL5.gv.lt
              clear hfo hws hb11 hHL5 hHL6 HH4 crq
              unfold gput Wg.row at HH6
              simp only [World.setCells] at HH6
              go_wp2_with fail
              go_loopw [25] (fun jv wr => ∃ (j2 : Nat) (G : List (Nat × List Sw)) (m : M) (L : List Mach), j2 ≤ k2 ∧ jv = .int .i64 (j2 : Int) ∧ Hid (HL w2 b c r G zy W.heap.size zd z gh cap n x3 s3 d1 m L (.slice la i lc) wr ∧ Lt zd x x3 hh4 d4 d2 (3760 + (j2 : Int)) m L ∧ L.length = i)) (fun jv _ => k2 - (intOf jv).toNat)
              case atStart => exact ⟨0, G4, m4, L3, by omega, rfl, HH6.out, by simpa using HLt.out.1, HLt.out.2.2.2.2⟩
              case round =>
                obtain ⟨j2, G5, m5, L5, hj2, rfl, hR⟩ := hrel
                clear HH6
                by_cases hlt3 : j2 < k2
                · have j1 : (j2 : Int) < (k2 : Int) := by omega
                  obtain ⟨pb, off, xn, ea, x1, hxn⟩ := HN.out.2.2.2.1.nat (HBW.out _ _ _ _ _ _ _ hR.out.1) (k := j2) (by rw [← HN.out.2.1]; exact hlt3)
                  subst ea
                  obtain ⟨p, hp⟩ : ∃ p, p = xn % i := ⟨_, rfl⟩
                  have E : (xn : Int) % (i : Int) = (p : Int) := by rw [hp]; rfl
                  have hip : p < i := by rw [hp]; exact Nat.mod_lt _ (by omega)
                  obtain ⟨y, hyy⟩ : ∃ y, L5[p]? = some y := ⟨_, List.getElem?_eq_getElem (by rw [hR.out.2.2]; exact hip)⟩
                  obtain ⟨g, eg, hc⟩ := row_at hR.out.1.cr.row (k := p) (by rw [hR.out.2.2]; exact hip) (u := .pointer (some ⟨y.xb, 0, none⟩)) (by simp [ptrs, hyy])
                  cases eg
                  have hst := late_turn hR.out.1 HC.out.1 hR.out.2.1 HLt.out.2.1 HLt.out.2.2.1 HLt.out.2.2.2.1 HC.out.2.2.2.1 (by omega) hyy
                  have hat : ∀ w, (Instr.indexAt 55 (.slice (some ⟨g, 0, none⟩) i lc) (.int .i64 ((xn : Int) % (i : Int)))).run Tryd.prog w = .ok (.pointer (some ⟨g, p, none⟩)) w := fun w => by rw [E]; exact at_55 g i lc p hip w
                  have HR := Lib.hid hR.out.2.2
                  have hxn2 : (xn : Int) ≤ 255 := by omega
                  clear E hR hp hyy hxn
                  go_wp2_with fail
                  refine hst.mono ?_
                  rintro e w12 ⟨o, m6, L6, G6, rfl, hHL, hLt, hlen⟩
                  have HE : Hid (HL w2 b c r G6 zy W.heap.size zd z gh cap n x3 s3 d1 m6 L6 (.slice (some ⟨g, 0, none⟩) i lc) w12 ∧ Lt zd x x3 hh4 d4 d2 (3760 + ((j2 + 1 : Nat) : Int)) m6 L6 ∧ L6.length = i) := by
                    have e : 3760 + (j2 : Int) + 1 = 3760 + ((j2 + 1 : Nat) : Int) := by push_cast; omega
                    rw [e] at hLt
                    exact ⟨hHL, hLt, by rw [hlen]; exact HR.out⟩
                  clear hst hHL hLt hlen x1 hc
                  go_wp2_with fail
                  go_roundw
                  case rel => exact ⟨j2 + 1, G6, m6, L6, by omega, by go_num, HE⟩
                  case measure => simp [intOf]; omega
                · obtain rfl : j2 = k2 := by omega
                  have j1 : ¬ (j2 : Int) < (j2 : Int) := by omega
                  have HX8 : Hid (x3.cells.length = 8) := hR.out.2.1.hr.fit.len
                  have hwd := words_any hR.out.1.cr.tm.has (by have := hR.out.2.1.hf.cnt; omega) 3 (some ⟨gh, 0, none⟩) cap hs8 x3.cells ⟨_, cap, rfl, .inr ⟨gh, rfl, hR.out.1.hv.lh, hR.out.1.hv.hc⟩⟩ (by rw [HX8.out]; rfl) (by decide) (fun i k n h1 h2 => hR.out.2.1.hr.cell i k n h1 h2)
                  simp only [show hs8.length = 8 from rfl] at hwd
                  have y0 := hR.out.1.hv.y.c0
                  have y1 := hR.out.1.hv.y.c1
                  have y2 := hR.out.1.hv.y.c2
                  go_wp2_with fail
                  refine hwd.mono ?_
                  rintro e w12 ⟨vw, rfl, hN12, hx12⟩
                  obtain ⟨aw, capw, rfl, -⟩ := id hN12
                  have hHL12 := hR.out.1.mem hx12.has hx12.but hx12.gro (.inl (by simp only [M.more]; omega))
                  have hLt12 := hR.out.2.1.more 8
                  have hve := vers_any hHL12.cr.tm.has (by have := hLt12.hf.cnt; omega) 3 (some ⟨gh, 0, none⟩) 8 cap
                  rw [go_vers hLt12.hr] at hve
                  have y0 := hHL12.hv.y.c0
                  have y1 := hHL12.hv.y.c1
                  have y2 := hHL12.hv.y.c2
                  have H12 := Lib.hid (⟨hN12, hHL12, hLt12⟩ : _ ∧ _ ∧ _)
                  clear hwd hN12 hx12 hHL12 hLt12 hR
                  go_wp2_with fail
                  refine hve.mono ?_
                  rintro e w13 ⟨rfl, G7, hx13⟩
                  obtain ⟨hN12, hHL12, hLt12⟩ := H12.out
                  have hHL13 := hHL12.mem hx13.has hx13.but hx13.gro (.inl (by simp only [M.more]; omega))
                  have hN13 := hN12.keep hx13.but.size hx13.gro (fun k h1 h2 h3 h4 => hx13.but.block k h1 (by simp; omega))
                  have hdn : x3.done = true := by rw [HX3.out]; rfl
                  have hsm := same_any w13 (B1 := 0) (B2 := 0) aw s3.ca capw s3.cc x3.cells (by
                    obtain ⟨a', c', e, hr⟩ := hN13
                    cases e
                    exact hr.imp id fun ⟨g, e, hl, hc⟩ => ⟨g, e, Nat.zero_le _, hl.lt, hc⟩) hHL13.ws.wis.c (by rw [HX8.out]; decide)
                  obtain ⟨g0, g1, -, -, -⟩ := hHL13.gv.cells
                  have gl := hHL13.gv.lt
                  have HB13 := Lib.hid (HBW.out _ _ _ _ _ _ _ hHL13)
                  rw [if_pos hdn]
                  clear hdn hve hN12 hHL12 hLt12 hx13 hHL13 hN13 H12 y0 y1 y2
                  go_wp2_with fail
                  refine hsm.mono ?_
                  rintro e w14 ⟨rfl, hb14⟩
                  have q0 := (hb14.cell (p := ⟨z, 0, none⟩) gl).trans g0
                  have q1 := (hb14.cell (p := ⟨z, 1, none⟩) gl).trans g1
                  have HB14 := Lib.hid (HB13.out.trans (hb14.mono HB13.out.size))
                  clear hsm hb14 g0 g1
                  go_wp2_with fail
                  go_ret
                  exact ⟨rfl, HB14.out⟩
    · have hl2 : ¬ (k2 : Int) ≤ 400 := by omega
      have ha2 := HWK.out w2 HB2.out
      go_wp2_with fail
      refine ha2.mono ?_
      rintro e w3 ⟨rfl, hb3⟩
      have HE := Lib.hid (HB2.out.trans (hb3.mono HB2.out.size))
      clear ha2 hb3
      go_wp2_with fail
      go_ret
      exact ⟨rfl, HE.out⟩
  · have hl1 : ¬ (k1 : Int) ≤ 400 := by omega
    have ha2 := HWK.out w2 HB2.out
    go_wp2_with fail
    refine ha2.mono ?_
    rintro e w3 ⟨rfl, hb3⟩
    have HE := Lib.hid (HB2.out.trans (hb3.mono HB2.out.size))
    clear ha2 hb3
    go_wp2_with fail
    go_ret
    exact ⟨rfl, HE.out⟩
theorem helpedLaw (a : Int) (ha : (Lit.int .u8 a).wf = true) (k : Int) (hk : (Lit.int .u8 k).wf = true) (a1 : Option Addr) (l1 : List Int) (cap1 : Nat) {W : World} (hl1 : Bys W a1 l1) (a2 : Option Addr) (l2 : List Int) (cap2 : Nat) (hl2 : Bys W a2 l2) (_W : World) (hT : TabAt W) :
    Calls Tryd.prog 4 #[.int .u8 a, .int .u8 k, .slice a1 l1.length cap1, .slice a2 l2.length cap2] W fun e w' => e = .returned (.bool true) ∧ Below W.heap.size W w' := by
  obtain ⟨h0, h1⟩ := wf8 ha
  obtain ⟨q0, q1⟩ := wf8 hk
  obtain ⟨n, rfl⟩ : ∃ n : Nat, a = (n : Int) := ⟨a.toNat, by omega⟩
  obtain ⟨kk, rfl⟩ : ∃ n : Nat, k = (n : Int) := ⟨k.toNat, by omega⟩
  exact helped_law W hT n kk (by omega) (by omega) a1 l1 cap1 a2 l2 cap2 hl1 hl2
end Go.Proofs.YteiikkkcjpfapaaDoor
