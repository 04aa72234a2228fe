/- What is answered of what is no node. No condition. -/
import Derived.Test.YtibimnibmengpaaDoorVw
namespace Go.Proofs.YtibimnibmengpaaDoor
open Go.RowKit Go.Op
set_option maxRecDepth 100000

theorem look_load_none {m : M} {h : Int} (hl : m.look h = none) : m.load h = (m.miss, .no, 5) := by
  unfold M.look at hl
  cases ha : m.at h with
  | none => simp only [M.load, ha]
  | some p => rw [ha] at hl; cases hl
theorem look_load_word {m : M} {h x : Int} (hl : m.look h = some (.word x)) : m.load h = (m.ask, .no, 6) := by
  obtain ⟨p, y, h1, h2, -⟩ := look_some hl
  simp only [M.load, h1, h2]
theorem AskN.miss (m : M) : AskN m m.miss 1 := ⟨rfl, rfl, by show m.count ≤ m.count + 1; omega, by show m.count + 1 ≤ m.count + 1; omega⟩
theorem load_word {m : M} {h x : Int} (hl : m.look h = some (.word x)) : (loadP h).go m = ((nd0, 6), m.ask) := by
  simp [loadP, Pr.go, Qn.on, look_load_word hl, heldN]
theorem load_age {m : M} {h p : Int} {r : Rv} {pl : Pl} (hl : m.look h = some (.blk (.age r p) pl)) : (loadP h).go m = ((nd0, 6), m.ask) := by
  simp [loadP, Pr.go, Qn.on, look_load hl, heldN]
theorem load_none {m : M} {h : Int} (hl : m.look h = none) : (loadP h).go m = ((nd0, 5), m.miss) := by
  simp [loadP, Pr.go, Qn.on, look_load_none hl, heldN]
/-- How a port refuses it. -/
def Ref (m1 : M) (k e : Int) : Prop := (e = 5 ∨ e = 6) ∧ ∀ (m' : M) (n : Int), AskN m1 m' n → ∃ m'', (loadP k).go m' = ((nd0, e), m'') ∧ AskN m' m'' 1
theorem refuse {m1 : M} {k : Int} (hno : ∀ d pl, m1.look k = some (.blk d pl) → d.isNode = false) : ∃ e, Ref m1 k e := by
  cases hl : m1.look k with
  | none => exact ⟨5, .inl rfl, fun m' n ha => ⟨_, load_none ((ha.look k).trans hl), AskN.miss _⟩⟩
  | some x =>
    cases x with
    | no =>
      obtain ⟨p, y, -, h2, -, h4, -⟩ := look_some hl
      rw [h2] at h4
      cases h4
    | word x => exact ⟨6, .inr rfl, fun m' n ha => ⟨_, load_word ((ha.look k).trans hl), AskN.ask _⟩⟩
    | blk d pl =>
      cases d with
      | age r p => exact ⟨6, .inr rfl, fun m' n ha => ⟨_, load_age ((ha.look k).trans hl), AskN.ask _⟩⟩
      | node low hd nx =>
        have := hno _ _ hl
        cases this
theorem Ref.ne {m1 : M} {k e : Int} (h : Ref m1 k e) : e ≠ 0 := by
  rcases h.1 with e | e <;> omega
theorem Ref.search {m1 m' : M} {k e n : Int} (h : Ref m1 k e) (ha : AskN m1 m' n) (t : ByteArray) : ∃ m'', (searchP 60 k t).go m' = (some (0, nd0, e), m'') ∧ AskN m' m'' 1 := by
  obtain ⟨m'', e1, e2⟩ := h.2 m' n ha
  refine ⟨m'', ?_, e2⟩
  rw [searchP, Pr.go_bind, e1]
  simp only
  rw [if_neg h.ne]
  rfl
theorem Ref.look {m1 m' : M} {k e n : Int} (h : Ref m1 k e) (ha : AskN m1 m' n) : ∃ m'', (lookP 1 k).go m' = (some (vw0, e), m'') ∧ AskN m' m'' 1 := by
  obtain ⟨m'', e1, e2⟩ := h.2 m' n ha
  refine ⟨m'', ?_, e2⟩
  rw [lookP, Pr.go_bind, e1]
  simp only
  rw [if_neg h.ne]
  rfl
theorem Ref.walk {m1 m' : M} {k e n : Int} (h : Ref m1 k e) (ha : AskN m1 m' n) : ∃ m'', (walkP 1 41 k []).go m' = (some ([], e), m'') ∧ AskN m' m'' 1 := by
  obtain ⟨m'', e1, e2⟩ := h.look ha
  refine ⟨m'', ?_, e2⟩
  rw [walkP, Pr.go_bind, e1]
  simp only
  rw [if_neg h.ne]
  rfl
theorem Good.no {m : M} {lows : List ByteArray} {hts : List Int} {l : List Nod} (h : Good m lows hts l) {k : Int} (hk : k ∉ l.map Nod.h) : ∃ e, Ref m k e :=
  refuse fun d pl hl => by
    cases hd : d.isNode with
    | false => rfl
    | true =>
      obtain ⟨x, hx, e⟩ := h.suf.only k d pl hl hd
      exact absurd (List.mem_map.2 ⟨x, hx, e⟩) hk
section
variable {w0 : World} {b c r pb po : Nat} {t1 : Value} {G1 : List (Nat × List Value)} {W : World} {m1 : M} {s : Pt}
theorem walk_no (h : SysE w0 b c r pb po t1 G1 W m1 s) (hq : Quiet s) (hc : m1.count ≤ 10000) (k e : Int) (m2 : M) (hgo : (walkP 1 41 k []).go m1 = (some ([], e), m2)) :
    Calls Tryd.prog 19 #[.pointer (some ⟨pb, po, none⟩), .int .i64 k] W fun en w' => ∃ t2 G2 a cap, en = .returned (.tuple #[.slice a 0 cap, .int .i64 e]) ∧ Aft w0 b c r pb po t1 G1 W t2 G2 w' m2 s := by
  refine (Walk_E h 1 41 (by omega) (by omega) k (by rw [hq.run, hgo]; simp)).mono ?_
  rintro en w' ⟨hE, -⟩
  obtain ⟨t2, G2, v, rfl, hR, ha⟩ := hE.done hq
  rw [hgo] at hR ha
  obtain ⟨l, e', e1, -, -, h3⟩ := hR
  have e2 : l.map Prod.fst = [] ∧ e' = e := by
    have := Option.some.inj e1
    exact ⟨(Prod.mk.inj this).1.symm, (Prod.mk.inj this).2.symm⟩
  have e3 : l = [] := by have := congrArg List.length e2.1; simpa using this
  rcases h3 with ⟨-, h4⟩ | ⟨g, cap, -, -, -, h4, -⟩
  · exact ⟨t2, G2, none, 0, by rw [h4, e2.2], ha⟩
  · exact ⟨t2, G2, _, cap, by rw [h4, e2.2, e3]; rfl, ha⟩
theorem look_no (h : SysE w0 b c r pb po t1 G1 W m1 s) (hq : Quiet s) (hc : m1.count ≤ 10000) (k e : Int) (m2 : M) (hgo : (lookP 1 k).go m1 = (some (vw0, e), m2)) :
    Calls Tryd.prog 23 #[.pointer (some ⟨pb, po, none⟩), .int .i64 k] W fun en w' => ∃ t2 G2 q, en = .returned (.tuple #[vw0.v q, .int .i64 e]) ∧ Aft w0 b c r pb po t1 G1 W t2 G2 w' m2 s := by
  refine (Look_E h 1 (by omega) k (by rw [hq.run, hgo]; simp)).mono ?_
  rintro en w' hE
  obtain ⟨t2, G2, v, rfl, hR, ha⟩ := hE.done hq
  rw [hgo] at hR ha
  obtain ⟨x, q, e3, -, rfl⟩ := hR
  cases e3
  exact ⟨t2, G2, q, rfl, ha⟩
theorem load_call (h : SysE w0 b c r pb po t1 G1 W m1 s) (hq : Quiet s) (hc : m1.count ≤ 10000) (k : Int) (x : Nd × Int) (m2 : M) (hgo : (loadP k).go m1 = (x, m2)) :
    Calls Tryd.prog 32 #[.pointer (some ⟨pb, po, none⟩), .int .i64 k] W fun en w' => ∃ t2 G2 q, en = .returned (.tuple #[x.1.v q, .int .i64 x.2]) ∧ x.1.d.In G2 q ∧ Aft w0 b c r pb po t1 G1 W t2 G2 w' m2 s := by
  refine (Load_E h (by omega) k).mono ?_
  rintro en w' hE
  obtain ⟨t2, G2, v, rfl, hR, ha⟩ := hE.done hq
  rw [hgo] at hR ha
  obtain ⟨q, h1, rfl⟩ := hR
  exact ⟨t2, G2, q, rfl, h1, ha⟩
end
end Go.Proofs.YtibimnibmengpaaDoor
