/- What RegKeeps' opener, holder, closer and asker keep to. Conditions: at most 1000 asks. -/
import Derived.Test.YtgjkkbgdkdipgaaDoorKo
namespace Go.Proofs.YtgjkkbgdkdipgaaDoor
open Go.RowKit Go.Op
set_option maxRecDepth 100000

theorem then_bind {α β γ : Type} (g : α → Pr β) (f : β → Pn γ) : ∀ p : Pr α, (p.bind g).then f = p.then fun x => (g x).then f
  | .ret _ => rfl
  | .ask q k => by
    show Pn.ask q (fun a => ((k a).bind g).then f) = Pn.ask q fun a => (k a).then fun x => (g x).then f
    congr 1
    funext a
    exact then_bind g f (k a)
theorem heldP_reads (k : Int) : Reads (heldP k) := ⟨.inr ⟨_, rfl⟩, fun _ => trivial⟩
theorem lastP_reads (k : Int) : Reads (lastP k) := ⟨.inl ⟨_, rfl⟩, fun a => by
  dsimp only
  split
  · refine Reads.bind (fun x => ?_) (heldP_reads _)
    split
    · refine ⟨.inl ⟨_, rfl⟩, fun y => ?_⟩
      dsimp only
      split <;> trivial
    · trivial
  · trivial⟩
theorem versionP_reads (k : Int) : Reads (versionP k) := Reads.bind (f := fun x : La => (.ret (if x.is = true then x.d.ver else x.d.bf, x.err) : Pr (Int × Int))) (fun _ => trivial) (lastP_reads k)
theorem slotsP_reads (c : Int) : ∀ (l : List Int) (i : Nat) (lv : Int), Reads (slotsP c i lv l)
  | [], _, _ => trivial
  | h :: l, i, lv => by
    rw [slotsP_cons]
    split
    · exact slotsP_reads c l _ _
    · refine ⟨.inl ⟨_, rfl⟩, fun a => ?_⟩
      dsimp only
      split
      · exact slotsP_reads c l _ _
      · trivial
theorem snapsP_reads : ∀ (l : List Int) (lv : Int), Reads (snapsP lv l)
  | [], _ => trivial
  | h :: l, lv => by
    rw [snapsP_cons]
    refine ⟨.inl ⟨_, rfl⟩, fun a => ?_⟩
    dsimp only
    split
    · exact snapsP_reads l _
    · trivial
theorem Pr.Dv.imp {α : Type} {Q Q' : α → Prop} (hq : ∀ a, Q a → Q' a) : ∀ {p : Pr α}, p.Dv Q → p.Dv Q'
  | .ret _, h => hq _ h
  | .ask _ _, h => ⟨h.1, fun a ha => Pr.Dv.imp hq (h.2 a ha)⟩
theorem lastP_err (k : Int) : (lastP k).Dv fun x => x.err ≠ 0 → x.is = false ∧ x.d = d0 := by
  refine ⟨trivial, fun a _ => ?_⟩
  dsimp only
  split
  · refine (heldP_dv a.n).bind fun x hx => ?_
    split
    · refine ⟨trivial, fun y _ => ?_⟩
      dsimp only
      split
      · exact fun e => absurd rfl e
      · exact fun _ => ⟨rfl, rfl⟩
    · exact fun _ => ⟨rfl, rfl⟩
  · exact fun _ => ⟨rfl, rfl⟩
theorem versionP_err (k : Int) : (versionP k).Dv fun x => x.2 ≠ 0 → x.1 = 0 := (lastP_err k).bind fun x hx => by
  show x.err ≠ 0 → (if x.is = true then x.d.ver else x.d.bf) = 0
  intro e
  obtain ⟨h1, h2⟩ := hx e
  rw [h1, h2]; rfl
theorem slotsP_low (u c : Int) (hu : 0 ≤ u) : ∀ (l : List Int) (i : Nat) (lv : Int), lv ≤ u → (slotsP c i lv l).Dv fun y => y.1 ≤ u
  | [], _, _, h => h
  | k :: l, i, lv, h => by
    rw [slotsP_cons]
    split
    · exact slotsP_low u c hu l _ _ h
    · refine ⟨trivial, fun a _ => ?_⟩
      dsimp only
      split
      · refine slotsP_low u c hu l _ _ ?_
        split
        · exact h
        · omega
      · exact hu
theorem snapsP_low (u : Int) (hu : 0 ≤ u) : ∀ (l : List Int) (lv : Int), lv ≤ u → (snapsP lv l).Dv fun y => y.1 ≤ u
  | [], _, h => h
  | k :: l, lv, h => by
    rw [snapsP_cons]
    refine ⟨trivial, fun a _ => ?_⟩
    dsimp only
    split
    · refine snapsP_low u hu l _ ?_
      split
      · exact h
      · omega
    · exact hu
theorem slotsP_err (c : Int) : ∀ (l : List Int) (i : Nat) (lv : Int), (slotsP c i lv l).Dv fun y => y.2 ≠ 0 → y.1 = 0
  | [], _, _ => fun e => absurd rfl e
  | k :: l, i, lv => by
    rw [slotsP_cons]
    split
    · exact slotsP_err c l _ _
    · refine ⟨trivial, fun a _ => ?_⟩
      dsimp only
      split
      · exact slotsP_err c l _ _
      · exact fun _ => rfl
theorem snapsP_err : ∀ (l : List Int) (lv : Int), (snapsP lv l).Dv fun y => y.2 ≠ 0 → y.1 = 0
  | [], _ => fun e => absurd rfl e
  | k :: l, lv => by
    rw [snapsP_cons]
    refine ⟨trivial, fun a _ => ?_⟩
    dsimp only
    split
    · exact snapsP_err l _
    · exact fun _ => rfl
def St : Type := List Int × List (Int × Int)
def openB : List (Int × Int) := [(0, -1), (0, -1)]
section
variable (a0 a1 a2 a3 p0 p1 : Int)
/-- Who opens. -/
def opP : Pn Int := (enterP 3 0 [a0, a1, a2, a3]).then fun x => (openP x.1 [p0, p1]).then fun y => .note (wrap64 (1 + x.1)) ((leaveP 0 [a0, a1, a2, a3]).then fun _ => .ret y.1)
def ruO : Ru Int St where
  rep := fun j m s => Rp [a0, a1, a2, a3] [p0, p1] j m s.1 s.2
  rely := fun s s2 => s2.2 = s.2
  inv := fun N _ s => (N = 0 ∧ s.2 = openB) ∨ (1 ≤ N ∧ N ≤ 1000001 ∧ s.2 = [(0, N - 1), (0, -1)])
  guar := fun _ s _ s' => s.2 = openB ∨ s'.2 = s.2
  fin := fun a N _ => a = 0 ∧ 1 ≤ N
/-- Who holds. -/
def hoP (id : Int) : Pn Int := (enterP 3 1 [a0, a1, a2, a3]).then fun _ => (findVP id [p0, p1]).then fun x => if x.2 = 0 then (holdP 1 x.1 [a0, a1, a2, a3]).then fun _ => (findVP id [p0, p1]).then fun y => if y.2 = 0 then .note (wrap64 (1 + x.1)) (.ask (.word 3) fun _ => .ask (.word 3) fun _ => .note 0 ((leaveP 1 [a0, a1, a2, a3]).then fun _ => .ret x.1)) else .ret (-1) else .ret (-1)
def ruH (v : Int) : Ru Int St where
  rep := fun j m s => Rp [a0, a1, a2, a3] [p0, p1] j m s.1 s.2 ∧ (s.2[0]? = some (0, v) ∨ s.2[0]? = some (1, -1))
  rely := fun s s2 => s2.1[1]? = s.1[1]? ∧ (s.2[0]? = some (1, -1) → s2.2[0]? = some (1, -1))
  inv := fun N _ s => N = 0 ∨ (N = v + 1 ∧ s.1[1]? = some v)
  guar := fun N s N' s' => s'.2 = s.2 ∧ (s.2[0]? = some (1, -1) → N ≤ 0 → N' ≤ 0)
  fin := fun _ _ _ => True
/-- Who closes. -/
def clP (id : Int) : Pn Int := (closeP id [p0, p1]).then fun x => .ret x
def ruC (v : Int) : Ru Int St where
  rep := fun j m s => Rp [a0, a1, a2, a3] [p0, p1] j m s.1 s.2
  rely := fun s s2 => s2.2 = s.2
  inv := fun _ n s => n = 0 → s.2[0]? = some (0, v)
  guar := fun _ s _ s' => s'.1 = s.1 ∧ (s'.2 = s.2 ∨ s'.2[0]? = some (1, -1))
  fin := fun _ _ _ => True
/-- Who asks. -/
def asP : Pn Int := (leastP 3 3 [a0, a1, a2, a3] [p0, p1]).then fun x => .ret x.1
def ruA (F : Int) : Ru Int (St × Int) where
  rep := fun j m s => Rp [a0, a1, a2, a3] [p0, p1] j m s.1.1 s.1.2 ∧ (0 < F → F ≤ 1000001 ∧ (s.1.2[0]? = some (0, F - 1) ∨ s.1.2[0]? = some (1, -1)) ∧ (0 < s.2 → s.1.1[1]? = some (F - 1)))
  rely := fun s s2 => 0 < F → s.1.2[0]? = some (1, -1) → s2.1.2[0]? = some (1, -1) ∧ (s.2 ≤ 0 → s2.2 ≤ 0)
  inv := fun _ _ _ => True
  guar := fun _ s _ s' => s' = s
  fin := fun a _ s => 0 < F → a ≤ F - 1 ∨ s.1.2[0]? = some (1, -1) ∧ s.2 ≤ 0
end
section
variable {a0 a1 a2 a3 p0 p1 : Int}
theorem pw_open : pw (0, -1) = 0 := by decide
theorem op_leave {v y : Int} (hv : 0 ≤ v ∧ v ≤ 1000000) (hy : y = 0) (n : Nat) (s : St) (hs : s.2 = [(0, v), (0, -1)]) : Og (ruO a0 a1 a2 a3 p0 p1) ((leaveP 0 [a0, a1, a2, a3]).then fun _ => .ret y) (1 + v) n s := by
  have e0 : leaveP 0 [a0, a1, a2, a3] = .ask (.store a0 0) fun a => .ret a.err := by unfold leaveP; rw [if_pos (by rfl)]; rfl
  rw [e0]
  have hinv : ∀ s2 : St, s2.2 = s.2 → ∀ n, (ruO a0 a1 a2 a3 p0 p1).inv (1 + v) n s2 := fun s2 h2 n => .inr ⟨by omega, by omega, by rw [h2, hs, show 1 + v - 1 = v by omega]⟩
  intro s2 hs2
  refine ⟨hinv s2 hs2 n, fun j m hj hrep => ?_⟩
  obtain ⟨r1, e1⟩ := Rp.store (k := 0) hrep (by simp) (-1) (by decide)
  exact ⟨(s2.1.set 0 (-1), s2.2), r1, .inr rfl, fun s3 h3 => ⟨hinv s3 (h3.trans hs2) (n + 1), hy, by omega⟩⟩
theorem op_open {v : Int} (hv : 0 ≤ v ∧ v ≤ 1000000) (n : Nat) (s : St) (hs : s.2 = openB) : Og (ruO a0 a1 a2 a3 p0 p1) ((openP v [p0, p1]).then fun y => .note (wrap64 (1 + v)) ((leaveP 0 [a0, a1, a2, a3]).then fun _ => .ret y.1)) 0 n s := by
  have e0 : openP v [p0, p1] = openL v 0 [p0, p1] := by unfold openP; rw [if_pos (show isV v = true from decide_eq_true (by omega))]
  rw [e0, openL_cons]
  intro s2 hs2
  have hs2 : s2.2 = s.2 := hs2
  refine ⟨.inl ⟨rfl, hs2.trans hs⟩, fun j m hj hrep => ?_⟩
  have hb : s2.2[0]? = some (0, -1) := by rw [hs2, hs]; rfl
  obtain ⟨-, -, e1⟩ := Rp.place (k := 0) hrep (by simp) hb
  have e1 : ((Qn.word p0).on m).2 = ⟨.no, 0, false, 0⟩ := e1
  obtain ⟨r1, -⟩ := hrep.read (.word p0) (.inl ⟨_, rfl⟩)
  refine ⟨s2, r1, .inr rfl, ?_⟩
  rw [e1]
  simp only [if_true]
  rw [if_pos (by decide)]
  intro s3 hs3
  have hs3 : s3.2 = s2.2 := hs3
  refine ⟨.inl ⟨rfl, (hs3.trans hs2).trans hs⟩, fun j m hj hrep => ?_⟩
  have hb3 : s3.2[0]? = some (0, -1) := by rw [hs3]; exact hb
  have ew : wrap64 (wrap64 (0 + v) + 1) = pw (0, v) := by
    unfold pw
    rw [wrap_in (n := 0 + v) (by omega), wrap_in (by omega)]
    simp only
    omega
  obtain ⟨r2, e2⟩ := Rp.swap (k := 0) hrep (by simp) hb3 (0, v) ⟨by simp, by simp, by show -1 ≤ v; omega, by show v ≤ 1073741824; omega⟩
  rw [pw_open] at r2 e2
  have e2 : ((Qn.swap p0 0 (pw (0, v))).on m).2 = ⟨.no, 0, true, 0⟩ := e2
  rw [ew, e2]
  simp only [if_true]
  refine ⟨(s3.1, s3.2.set 0 (0, v)), r2, .inl ((hs3.trans hs2).trans hs), ?_⟩
  show Og _ ((leaveP 0 [a0, a1, a2, a3]).then fun _ => .ret _) (wrap64 (1 + v)) _ _
  rw [wrap_in (n := 1 + v) (by omega)]
  exact op_leave hv (by show wrap64 (wrap64 (genW 0 * 64) + 0) = 0; unfold wrap64 genW; omega) _ _ (by show s3.2.set 0 (0, v) = _; rw [hs3, hs2, hs]; rfl)
theorem op_reads (j : Nat) (m : M) (s : St) (q : Qn) (hq : (∃ k, q = .word k) ∨ ∃ k, q = .load k) (h : (ruO a0 a1 a2 a3 p0 p1).rep j m s) : (ruO a0 a1 a2 a3 p0 p1).rep (j + 1) (q.on m).1 s ∧ (q.on m).2.held.Dv := Rp.read h q hq
theorem op_keeps (A : List Int) : Og (ruO a0 a1 a2 a3 p0 p1) (opP a0 a1 a2 a3 p0 p1) 0 0 (A, openB) := by
  have e0 : enterP 3 0 [a0, a1, a2, a3] = .ask (.store a0 1) fun a => if a.err = 0 then (versionP 3).bind fun x => if x.2 = 0 then .ask (.store a0 (wrap64 (x.1 + 1))) fun y => if y.err = 0 then .ret (x.1, 0) else .ret (0, y.err) else .ret (0, x.2) else .ret (0, a.err) := by
    unfold enterP; rw [if_pos (by rfl)]; rfl
  unfold opP
  rw [e0]
  intro s2 hs2
  have hs2 : s2.2 = openB := hs2
  refine ⟨.inl ⟨rfl, hs2⟩, fun j m hj hrep => ?_⟩
  obtain ⟨r1, e1⟩ := Rp.store (k := 0) hrep (by simp) 0 (by decide)
  have e1 : ((Qn.store a0 1).on m).2 = ⟨.no, 0, false, 0⟩ := e1
  refine ⟨(s2.1.set 0 0, s2.2), r1, .inr rfl, ?_⟩
  rw [e1]
  simp only [if_true]
  rw [then_bind]
  refine Og.reads (fun s => rfl) op_reads (fun _ _ => .inr rfl) (fun _ _ _ h1 h2 => h2.trans h1) (Q := fun x => 0 ≤ x.1 ∧ x.1 ≤ 1000000) (fun x hx => ?_) (versionP_dv 3) (versionP_reads 3) (fun n s h1 h2 => .inl ⟨rfl, h2.trans hs2⟩) (fun x n s h1 hx h2 => ?_)
  · split
    · rfl
    · show ((openP 0 [p0, p1]).then _).nt 0 = 0
      unfold openP; rw [if_pos (by decide)]; rfl
  · have hb : s.2 = openB := h2.trans hs2
    split
    · intro s3 hs3
      have hs3 : s3.2 = s.2 := hs3
      refine ⟨.inl ⟨rfl, hs3.trans hb⟩, fun j m hj hrep => ?_⟩
      obtain ⟨r2, e2⟩ := Rp.store (k := 0) hrep (by simp) x.1 (by omega)
      have e2 : ((Qn.store a0 (x.1 + 1)).on m).2 = ⟨.no, 0, false, 0⟩ := e2
      rw [wrap_in (n := x.1 + 1) (by omega), e2]
      simp only [if_true]
      exact ⟨(s3.1.set 0 x.1, s3.2), r2, .inr rfl, op_open hx _ _ (hs3.trans hb)⟩
    · exact op_open (v := 0) (by decide) _ _ hb
/-- What Find tells of the id 0. -/
def fnd (p0 : Int) (f : Int × Int → Pn Int) (a : An) : Pn Int := ((if a.err = 0 then (if lowW a.n = 0 ∨ genW a.n ≠ 0 / 64 then .ret (0, 0, 2) else .ret (p0, a.n, 0)) else .ret (0, 0, a.err) : Pr (Int × Int × Int)).bind fun x => if x.2.2 = 0 then .ret (lowW x.2.1 - 1, 0) else .ret (0, x.2.2)).then f
theorem find0 (f : Int × Int → Pn Int) : (findVP 0 [p0, p1]).then f = .ask (.word p0) (fnd p0 f) := by
  unfold findVP findP
  rw [if_pos (by rfl)]
  rfl
theorem find0_yes {v : Int} (hv : 0 ≤ v ∧ v ≤ 1000000) (f : Int × Int → Pn Int) : fnd p0 f ⟨.no, pw (0, v), false, 0⟩ = f (v, 0) := by
  have e1 : lowW (pw (0, v)) = v + 1 := pw_low (by simp only; omega)
  have e2 : genW (pw (0, v)) = 0 := pw_gen (by simp only; omega)
  unfold fnd
  simp only [if_true]
  rw [if_neg (by rw [e1, e2]; omega)]
  show (if (0 : Int) = 0 then Pr.ret (lowW (pw (0, v)) - 1, (0 : Int)) else Pr.ret ((0 : Int), (0 : Int))).then f = _
  rw [if_pos rfl, e1, show v + 1 - 1 = v by omega]
  rfl
theorem find0_no (f : Int × Int → Pn Int) : fnd p0 f ⟨.no, pw (1, -1), false, 0⟩ = f (0, 2) := by
  unfold fnd
  simp only [if_true]
  rw [if_pos (by decide)]
  rfl
variable {v : Int}
theorem ho_refl (s : St) : (ruH a0 a1 a2 a3 p0 p1 v).rely s s := ⟨rfl, id⟩
theorem ho_trans (s1 s2 s3 : St) (h1 : (ruH a0 a1 a2 a3 p0 p1 v).rely s1 s2) (h2 : (ruH a0 a1 a2 a3 p0 p1 v).rely s2 s3) : (ruH a0 a1 a2 a3 p0 p1 v).rely s1 s3 := ⟨h2.1.trans h1.1, fun e => h2.2 (h1.2 e)⟩
theorem ho_reads (j : Nat) (m : M) (s : St) (q : Qn) (hq : (∃ k, q = .word k) ∨ ∃ k, q = .load k) (h : (ruH a0 a1 a2 a3 p0 p1 v).rep j m s) : (ruH a0 a1 a2 a3 p0 p1 v).rep (j + 1) (q.on m).1 s ∧ (q.on m).2.held.Dv :=
  let ⟨h1, h2⟩ := Rp.read h.1 q hq
  ⟨⟨h1, h.2⟩, h2⟩
/-- A find of who holds. -/
theorem ho_find (hv : 0 ≤ v ∧ v ≤ 1000000) {f : Int × Int → Pn Int} (n : Nat) (s : St) (hyes : ∀ s2, (ruH a0 a1 a2 a3 p0 p1 v).rely s s2 → Og (ruH a0 a1 a2 a3 p0 p1 v) (f (v, 0)) 0 (n + 1) s2) (hno : f (0, 2) = .ret (-1)) : Og (ruH a0 a1 a2 a3 p0 p1 v) ((findVP 0 [p0, p1]).then f) 0 n s := by
  rw [find0]
  intro s2 hs2
  refine ⟨.inl rfl, fun j m hj hrep => ?_⟩
  have hr := (ho_reads j m s2 (.word p0) (.inl ⟨_, rfl⟩) hrep).1
  rcases hrep.2 with hb | hb
  · obtain ⟨-, -, e1⟩ := Rp.place (k := 0) hrep.1 (by simp) hb
    have e1 : ((Qn.word p0).on m).2 = ⟨.no, pw (0, v), false, 0⟩ := e1
    refine ⟨s2, hr, ⟨rfl, fun e => ?_⟩, ?_⟩
    · rw [hb] at e; simp at e
    · rw [e1, find0_yes hv]
      exact hyes s2 hs2
  · obtain ⟨-, -, e1⟩ := Rp.place (k := 0) hrep.1 (by simp) hb
    have e1 : ((Qn.word p0).on m).2 = ⟨.no, pw (1, -1), false, 0⟩ := e1
    rw [e1, find0_no, hno]
    exact ⟨s2, hr, ⟨rfl, fun _ h => h⟩, fun _ _ => ⟨.inl rfl, trivial⟩⟩
theorem ho_leave (x : Int) (n : Nat) (s : St) : Og (ruH a0 a1 a2 a3 p0 p1 v) ((leaveP 1 [a0, a1, a2, a3]).then fun _ => .ret x) 0 n s := by
  have e0 : leaveP 1 [a0, a1, a2, a3] = .ask (.store a1 0) fun a => .ret a.err := by unfold leaveP; rw [if_pos (by rfl)]; rfl
  rw [e0]
  intro s2 hs2
  refine ⟨.inl rfl, fun j m hj hrep => ?_⟩
  obtain ⟨r1, e1⟩ := Rp.store (k := 1) hrep.1 (by simp) (-1) (by decide)
  exact ⟨(s2.1.set 1 (-1), s2.2), ⟨r1, hrep.2⟩, ⟨rfl, fun _ h => h⟩, fun s3 h3 => ⟨.inl rfl, trivial⟩⟩
theorem ho_end (hv : 0 ≤ v ∧ v ≤ 1000000) (n : Nat) (s : St) (hs : s.1[1]? = some v) : Og (ruH a0 a1 a2 a3 p0 p1 v) (.note (wrap64 (1 + v)) (.ask (.word 3) fun _ => .ask (.word 3) fun _ => .note 0 ((leaveP 1 [a0, a1, a2, a3]).then fun _ => .ret v))) 0 n s := by
  show Og _ (.ask (.word 3) fun _ => .ask (.word 3) fun _ => .note 0 _) (wrap64 (1 + v)) n s
  rw [wrap_in (n := 1 + v) (by omega)]
  intro s2 hs2
  have k2 : s2.1[1]? = some v := hs2.1.trans hs
  refine ⟨.inr ⟨by omega, k2⟩, fun j m hj hrep => ⟨s2, (ho_reads j m s2 (.word 3) (.inl ⟨_, rfl⟩) hrep).1, ⟨rfl, fun _ h => (by omega)⟩, fun s3 hs3 => ?_⟩⟩
  have k3 : s3.1[1]? = some v := hs3.1.trans k2
  refine ⟨.inr ⟨by omega, k3⟩, fun j m hj hrep => ⟨s3, (ho_reads j m s3 (.word 3) (.inl ⟨_, rfl⟩) hrep).1, ⟨rfl, fun _ h => (by omega)⟩, ?_⟩⟩
  exact ho_leave v _ _
theorem ho_keeps (hv : 0 ≤ v ∧ v ≤ 1000000) (s : St) : Og (ruH a0 a1 a2 a3 p0 p1 v) (hoP a0 a1 a2 a3 p0 p1 0) 0 0 s := by
  have e0 : enterP 3 1 [a0, a1, a2, a3] = .ask (.store a1 1) fun a => if a.err = 0 then (versionP 3).bind fun x => if x.2 = 0 then .ask (.store a1 (wrap64 (x.1 + 1))) fun y => if y.err = 0 then .ret (x.1, 0) else .ret (0, y.err) else .ret (0, x.2) else .ret (0, a.err) := by
    unfold enterP; rw [if_pos (by rfl)]; rfl
  have eh : holdP 1 v [a0, a1, a2, a3] = .ask (.store a1 (v + 1)) fun a => .ret a.err := by unfold holdP; rw [if_pos ⟨by rfl, show isV v = true from decide_eq_true (by omega)⟩]; rfl
  unfold hoP
  rw [e0]
  have hrest : ∀ (n : Nat) (s : St), Og (ruH a0 a1 a2 a3 p0 p1 v) ((findVP 0 [p0, p1]).then fun x => if x.2 = 0 then (holdP 1 x.1 [a0, a1, a2, a3]).then fun _ => (findVP 0 [p0, p1]).then fun y => if y.2 = 0 then .note (wrap64 (1 + x.1)) (.ask (.word 3) fun _ => .ask (.word 3) fun _ => .note 0 ((leaveP 1 [a0, a1, a2, a3]).then fun _ => .ret x.1)) else .ret (-1) else .ret (-1)) 0 n s := by
    intro n s
    refine ho_find hv n s (fun s2 _ => ?_) rfl
    simp only [if_true]
    rw [eh]
    intro s3 hs3
    refine ⟨.inl rfl, fun j m hj hrep => ?_⟩
    obtain ⟨r2, e2⟩ := Rp.store (k := 1) hrep.1 (by simp) v (by omega)
    obtain ⟨aa, ha, -⟩ := Rp.slot (k := 1) hrep.1 (by simp)
    have hlt := (List.getElem?_eq_some_iff.1 ha).1
    refine ⟨(s3.1.set 1 v, s3.2), ⟨r2, hrep.2⟩, ⟨rfl, fun _ h => h⟩, ?_⟩
    show Og _ ((findVP 0 [p0, p1]).then _) 0 _ _
    refine ho_find hv _ _ (fun s4 h4 => ?_) rfl
    simp only [if_true]
    exact ho_end hv _ _ (h4.1.trans (List.getElem?_set_self hlt))
  intro s2 hs2
  refine ⟨.inl rfl, fun j m hj hrep => ?_⟩
  obtain ⟨r1, e1⟩ := Rp.store (k := 1) hrep.1 (by simp) 0 (by decide)
  have e1 : ((Qn.store a1 1).on m).2 = ⟨.no, 0, false, 0⟩ := e1
  refine ⟨(s2.1.set 1 0, s2.2), ⟨r1, hrep.2⟩, ?_, ?_⟩
  · rw [e1]
    exact ⟨rfl, fun _ _ => Int.le_refl 0⟩
  · rw [e1]
    simp only [if_true]
    rw [then_bind]
    refine Og.reads ho_refl ho_reads (fun _ _ => ⟨rfl, fun _ h => h⟩) ho_trans (Q := fun x => 0 ≤ x.1 ∧ x.1 ≤ 1000000) (fun x hx => ?_) (versionP_dv 3) (versionP_reads 3) (fun n s h1 h2 => .inl rfl) (fun x n s h1 hx h2 => ?_)
    · split <;> rfl
    · split
      · intro s3 hs3
        refine ⟨.inl rfl, fun j m hj hrep => ?_⟩
        obtain ⟨r2, e2⟩ := Rp.store (k := 1) hrep.1 (by simp) x.1 (by omega)
        have e2 : ((Qn.store a1 (x.1 + 1)).on m).2 = ⟨.no, 0, false, 0⟩ := e2
        rw [wrap_in (n := x.1 + 1) (by omega), e2]
        simp only [if_true]
        exact ⟨(s3.1.set 1 x.1, s3.2), ⟨r2, hrep.2⟩, ⟨rfl, fun _ h => h⟩, hrest _ _⟩
      · exact hrest _ _
theorem cl_keeps (hv : 0 ≤ v ∧ v ≤ 1000000) (A : List Int) : Og (ruC a0 a1 a2 a3 p0 p1 v) (clP p0 p1 0) 0 0 (A, [(0, v), (0, -1)]) := by
  unfold clP closeP
  rw [then_bind]
  unfold findP
  rw [if_pos (by rfl)]
  intro s2 hs2
  have hb : s2.2[0]? = some (0, v) := by rw [show s2.2 = [(0, v), (0, -1)] from hs2]; rfl
  refine ⟨fun _ => hb, fun j m hj hrep => ?_⟩
  obtain ⟨-, -, e1⟩ := Rp.place (k := 0) hrep (by simp) hb
  have e1 : ((Qn.word p0).on m).2 = ⟨.no, pw (0, v), false, 0⟩ := e1
  have hr := (Rp.read hrep (.word p0) (.inl ⟨_, rfl⟩)).1
  have q1 : lowW (pw (0, v)) = v + 1 := pw_low (by simp only; omega)
  have q2 : genW (pw (0, v)) = 0 := pw_gen (by simp only; omega)
  refine ⟨s2, hr, ⟨rfl, .inl rfl⟩, ?_⟩
  show Og _ ((if ((Qn.word p0).on m).2.err = 0 then (if lowW ((Qn.word p0).on m).2.n = 0 ∨ genW ((Qn.word p0).on m).2.n ≠ 0 / 64 then .ret (0, 0, 2) else .ret (p0, ((Qn.word p0).on m).2.n, 0)) else .ret (0, 0, ((Qn.word p0).on m).2.err) : Pr (Int × Int × Int)).then _) _ _ _
  rw [e1]
  simp only [if_true]
  rw [if_neg (by rw [q1, q2]; omega)]
  show Og _ ((if (0 : Int) = 0 then .ask (.swap p0 (pw (0, v)) (nextW (pw (0, v)))) fun y => if y.err = 0 ∧ y.ok = false then .ret 2 else .ret y.err else .ret 0 : Pr Int).then _) _ _ _
  rw [if_pos rfl]
  have e5 : nextW (pw (0, v)) = pw (1, -1) := by
    unfold nextW
    rw [q2]
    unfold wrap64 pw
    decide
  rw [e5]
  intro s3 hs3
  have hb3 : s3.2[0]? = some (0, v) := by rw [show s3.2 = s2.2 from hs3]; exact hb
  refine ⟨fun e => (by omega), fun j m hj hrep => ?_⟩
  obtain ⟨r2, e2⟩ := Rp.swap (k := 0) hrep (by simp) hb3 (1, -1) (by decide)
  have e2 : ((Qn.swap p0 (pw (0, v)) (pw (1, -1))).on m).2 = ⟨.no, 0, true, 0⟩ := e2
  rw [e2]
  have hlt := (List.getElem?_eq_some_iff.1 hb3).1
  refine ⟨(s3.1, s3.2.set 0 (1, -1)), r2, ⟨rfl, .inr (List.getElem?_set_self hlt)⟩, ?_⟩
  simp only
  rw [if_neg (by decide)]
  exact fun s4 _ => ⟨fun e => (by omega), trivial⟩
variable {F : Int}
theorem as_trans (s1 s2 s3 : St × Int) (h1 : (ruA a0 a1 a2 a3 p0 p1 F).rely s1 s2) (h2 : (ruA a0 a1 a2 a3 p0 p1 F).rely s2 s3) : (ruA a0 a1 a2 a3 p0 p1 F).rely s1 s3 := fun hF e =>
  let ⟨q1, q2⟩ := h1 hF e
  let ⟨q3, q4⟩ := h2 hF q1
  ⟨q3, fun e2 => q4 (q2 e2)⟩
theorem as_refl (s : St × Int) : (ruA a0 a1 a2 a3 p0 p1 F).rely s s := fun _ e => ⟨e, id⟩
theorem as_reads (j : Nat) (m : M) (s : St × Int) (q : Qn) (hq : (∃ k, q = .word k) ∨ ∃ k, q = .load k) (h : (ruA a0 a1 a2 a3 p0 p1 F).rep j m s) : (ruA a0 a1 a2 a3 p0 p1 F).rep (j + 1) (q.on m).1 s ∧ (q.on m).2.held.Dv :=
  let ⟨h1, h2⟩ := Rp.read h.1 q hq
  ⟨⟨h1, h.2⟩, h2⟩
/-- Whatever is left of it reads, and what it answers is low; or the snapshot is closed and not held. -/
theorem as_low {p : Pr (Int × Int)} (hp : Reads p) (hd : p.Dv fun y => y.1 ≤ F - 1) (n : Nat) (s : St × Int) : Og (ruA a0 a1 a2 a3 p0 p1 F) (p.then fun x => .ret x.1) 0 n s :=
  Og.reads as_refl as_reads (fun _ _ => rfl) as_trans (fun _ _ => rfl) hd hp (fun _ _ _ _ => trivial) fun _ _ _ _ ha _ => fun _ _ => ⟨trivial, fun _ => .inl ha⟩
theorem reads_dv {α : Type} : ∀ {p : Pr α}, Reads p → p.Dv fun _ => True
  | .ret _, _ => trivial
  | .ask q k, h => ⟨by rcases h.1 with ⟨k, rfl⟩ | ⟨k, rfl⟩ <;> trivial, fun a _ => reads_dv (h.2 a)⟩
theorem as_shut {p : Pr (Int × Int)} (hp : Reads p) (n : Nat) (s : St × Int) (hs : s.1.2[0]? = some (1, -1) ∧ s.2 ≤ 0) : Og (ruA a0 a1 a2 a3 p0 p1 F) (p.then fun x => .ret x.1) 0 n s :=
  Og.reads as_refl as_reads (fun _ _ => rfl) as_trans (fun _ _ => rfl) (reads_dv hp) hp (fun _ _ _ _ => trivial) fun _ _ _ _ _ h2 => fun _ h3 => ⟨trivial, fun hF => .inr (let ⟨q1, q2⟩ := h2 hF hs.1; let ⟨q3, q4⟩ := h3 hF q1; ⟨q3, q4 (q2 hs.2)⟩)⟩
theorem as_free {p : Pr (Int × Int)} (hF : ¬ 0 < F) (hp : Reads p) (n : Nat) (s : St × Int) : Og (ruA a0 a1 a2 a3 p0 p1 F) (p.then fun x => .ret x.1) 0 n s :=
  Og.reads as_refl as_reads (fun _ _ => rfl) as_trans (fun _ _ => rfl) (reads_dv hp) hp (fun _ _ _ _ => trivial) fun _ _ _ _ _ _ => fun _ _ => ⟨trivial, fun h => absurd h hF⟩
/-- The second time that the slots are asked, behind the closing. -/
theorem as_second (hF : 0 < F) (lv : Int) (n : Nat) (s : St × Int) (hs : s.1.2[0]? = some (1, -1)) : Og (ruA a0 a1 a2 a3 p0 p1 F) ((slotsP 3 0 lv [a0, a1, a2, a3]).then fun x => .ret x.1) 0 n s := by
  rw [slotsP_cons, if_neg (by decide)]
  intro s2 hs2
  refine ⟨trivial, fun j m hj hrep => ⟨s2, (as_reads j m s2 (.word a0) (.inl ⟨_, rfl⟩) hrep).1, rfl, ?_⟩⟩
  obtain ⟨q1, -⟩ := hs2 hF hs
  generalize ((Qn.word a0).on m).2 = a
  show Og _ ((if a.err = 0 then slotsP 3 1 (if a.n = 0 then lv else min lv (wrap64 (a.n - 1))) [a1, a2, a3] else .ret (0, a.err)).then _) _ _ _
  split
  · generalize (if a.n = 0 then lv else min lv (wrap64 (a.n - 1))) = l2
    rw [slotsP_cons, if_neg (by decide)]
    intro s3 hs3
    refine ⟨trivial, fun j m hj hrep => ⟨s3, (as_reads j m s3 (.word a1) (.inl ⟨_, rfl⟩) hrep).1, rfl, ?_⟩⟩
    obtain ⟨q3, -⟩ := hs3 hF q1
    obtain ⟨a, ha, g1, g2, e1⟩ := Rp.slot (k := 1) hrep.1 (by simp)
    have e1 : ((Qn.word a1).on m).2 = ⟨.no, a + 1, false, 0⟩ := e1
    rw [e1]
    simp only [if_true]
    by_cases hH : 0 < s3.2
    · obtain ⟨h1, -, h2⟩ := hrep.2 hF
      have := h2 hH
      rw [ha] at this
      cases this
      rw [if_neg (by omega), wrap_in (n := F - 1 + 1 - 1) (by omega)]
      exact as_low (slotsP_reads _ _ _ _) (slotsP_low (F - 1) 3 (by omega) _ _ _ (by omega)) _ _
    · exact as_shut (slotsP_reads _ _ _ _) _ _ ⟨q3, by omega⟩
  · exact as_low (p := .ret (0, a.err)) trivial (show (0 : Int) ≤ F - 1 by omega) _ _
theorem as_keeps (F : Int) (s : St × Int) : Og (ruA a0 a1 a2 a3 p0 p1 F) (asP a0 a1 a2 a3 p0 p1) 0 0 s := by
  unfold asP
  have hrd : ∀ lv, Reads ((snapsP lv [p0, p1]).bind fun z => if z.2 = 0 then slotsP 3 0 z.1 [a0, a1, a2, a3] else .ret z) := fun lv => Reads.bind (fun z => by split; exact slotsP_reads _ _ _ _; trivial) (snapsP_reads _ _)
  by_cases hF : 0 < F
  · unfold leastP
    rw [then_bind]
    refine Og.reads as_refl as_reads (fun _ _ => rfl) as_trans (Q := fun x => x.2 ≠ 0 → x.1 = 0) (fun x _ => ?_) (versionP_err 3) (versionP_reads 3) (fun _ _ _ _ => trivial) (fun x n s1 _ hx _ => ?_)
    · split
      · rw [slotsP_cons, if_neg (by decide)]; rfl
      · rfl
    · split
      · rw [then_bind]
        refine Og.reads as_refl as_reads (fun _ _ => rfl) as_trans (Q := fun x => x.2 ≠ 0 → x.1 = 0) (fun y _ => ?_) (slotsP_err 3 _ _ _) (slotsP_reads _ _ _ _) (fun _ _ _ _ => trivial) (fun y n s2 _ hy _ => ?_)
        · split <;> rfl
        · split
          · rw [snapsP_cons]
            intro s3 hs3
            refine ⟨trivial, fun j m hj hrep => ⟨s3, (as_reads j m s3 (.word p0) (.inl ⟨_, rfl⟩) hrep).1, rfl, ?_⟩⟩
            obtain ⟨h1, hb, -⟩ := hrep.2 hF
            show Og _ (((if ((Qn.word p0).on m).2.err = 0 then snapsP (if lowW ((Qn.word p0).on m).2.n = 0 then y.1 else min y.1 (lowW ((Qn.word p0).on m).2.n - 1)) [p1] else .ret (0, ((Qn.word p0).on m).2.err)).bind fun z => if z.2 = 0 then slotsP 3 0 z.1 [a0, a1, a2, a3] else .ret z).then _) _ _ _
            rcases hb with hb | hb
            · obtain ⟨-, -, e1⟩ := Rp.place (k := 0) hrep.1 (by simp) hb
              have e1 : ((Qn.word p0).on m).2 = ⟨.no, pw (0, F - 1), false, 0⟩ := e1
              rw [e1]
              simp only [if_true]
              have q1 : lowW (pw (0, F - 1)) = F - 1 + 1 := pw_low (by simp only; omega)
              rw [q1, if_neg (by omega)]
              refine as_low (Reads.bind (fun z => by split; exact slotsP_reads _ _ _ _; trivial) (snapsP_reads _ _)) ((snapsP_low (F - 1) (by omega) _ _ (by omega)).bind fun z hz => ?_) _ _
              split
              · exact slotsP_low (F - 1) 3 (by omega) _ _ _ hz
              · exact hz
            · obtain ⟨-, -, e1⟩ := Rp.place (k := 0) hrep.1 (by simp) hb
              have e1 : ((Qn.word p0).on m).2 = ⟨.no, pw (1, -1), false, 0⟩ := e1
              rw [e1]
              simp only [if_true]
              rw [if_pos (show lowW (pw (1, -1)) = 0 by decide), then_bind]
              refine Og.reads as_refl as_reads (fun _ _ => rfl) as_trans (Q := fun x => x.2 ≠ 0 → x.1 = 0) (fun z _ => ?_) (snapsP_err _ _) (snapsP_reads _ _) (fun _ _ _ _ => trivial) (fun z n s4 _ hz h4 => ?_)
              · split
                · rw [slotsP_cons, if_neg (by decide)]; rfl
                · rfl
              · split
                · exact as_second hF _ _ _ (h4 hF hb).1
                · rename_i hz2
                  exact as_low (p := .ret z) trivial (show z.1 ≤ F - 1 by rw [hz hz2]; omega) _ _
          · rename_i hy2
            exact as_low (p := .ret y) trivial (show y.1 ≤ F - 1 by rw [hy hy2]; omega) _ _
      · rename_i hx2
        exact as_low (p := .ret x) trivial (show x.1 ≤ F - 1 by rw [hx hx2]; omega) _ _
  · refine as_free hF ?_ _ _
    unfold leastP
    refine Reads.bind (fun x => ?_) (versionP_reads 3)
    split
    · refine Reads.bind (fun y => ?_) (slotsP_reads _ _ _ _)
      split
      · exact hrd _
      · trivial
    · trivial
end
end Go.Proofs.YtgjkkbgdkdipgaaDoor
