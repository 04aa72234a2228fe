/- The law's yard and its rows; what the closure that lays it comes to. Conditions: at most 64 clients and places; the library's table stands. -/
import Derived.Test.YtgjkkbgdkdipgaaDoorLwA
import Derived.Test.YtgjkkbgdkdipgaaDoorRgO
namespace Go.Proofs.YtgjkkbgdkdipgaaDoor
open Go.RowKit Go.Op
set_option maxRecDepth 100000

/-- A yard's variable. -/
structure YVar (w : World) (z : Nat) (b : Nat) (R : Rg) : Prop where
  c0 : w.cell? ⟨z, 0, none⟩ = some (.pointer (some ⟨b, 0, none⟩))
  c1 : w.cell? ⟨z, 1, none⟩ = some (.int .i64 R.top)
  c2 : w.cell? ⟨z, 2, none⟩ = some (.slice R.sa R.sn R.sc)
  c3 : w.cell? ⟨z, 3, none⟩ = some (.slice R.pa R.pn R.pc)
  fz : ∀ i, w.frozen? ⟨z, i, none⟩ = false
theorem YVar.same {w w1 : World} {z b : Nat} {R : Rg} (h : YVar w z b R) (hk : w1.heap[z]? = w.heap[z]?) : YVar w1 z b R :=
  have k : ∀ i, w1.cell? ⟨z, i, none⟩ = w.cell? ⟨z, i, none⟩ := fun i => World.cell?_of_block (w := w) hk
  ⟨(k 0).trans h.c0, (k 1).trans h.c1, (k 2).trans h.c2, (k 3).trans h.c3, fun i => by rw [World.frozen?_of_block (w := w) (a := ⟨z, i, none⟩) hk]; exact h.fz i⟩
def yv (b : Nat) (R : Rg) : Value := .agg #[.pointer (some ⟨b, 0, none⟩), .int .i64 R.top, .slice R.sa R.sn R.sc, .slice R.pa R.pn R.pc]
def yobj (b : Nat) (R : Rg) : Obj := .cells #[.pointer (some ⟨b, 0, none⟩), .int .i64 R.top, .slice R.sa R.sn R.sc, .slice R.pa R.pn R.pc] 39
theorem ynew (w : World) (b : Nat) (R : Rg) : YVar (w.alloc (yobj b R)) w.heap.size b R :=
  ⟨by simp [yobj, go_sem], by simp [yobj, go_sem], by simp [yobj, go_sem], by simp [yobj, go_sem], fun i => World.frozen?_alloc_at _ 39 _ i rfl⟩
theorem info39 : (Tryd.prog.info? 39).map (·.size) = some 4 := by kernel_rfl
theorem YVar.range {w : World} {z b : Nat} {R : Rg} (h : YVar w z b R) : w.rangeAt z 0 [.pointer (some ⟨b, 0, none⟩), .int .i64 R.top, .slice R.sa R.sn R.sc, .slice R.pa R.pn R.pc] := fun j v hj => by
  match j, hj with
  | 0, hj => simp at hj; subst hj; exact h.c0
  | 1, hj => simp at hj; subst hj; exact h.c1
  | 2, hj => simp at hj; subst hj; exact h.c2
  | 3, hj => simp at hj; subst hj; exact h.c3
theorem YVar.load {w : World} {z b : Nat} {R : Rg} (h : YVar w z b R) : (Instr.loadAt 39 (.pointer (some ⟨z, 0, none⟩))).run Tryd.prog w = .ok (yv b R) w :=
  run_loadAt_mid w z 0 39 _ _ h.range Tryd.underlying39 rfl info39
theorem YVar.loadVar {w : World} {z b : Nat} {R : Rg} (h : YVar w z b R) : (loadVar 39 ⟨z, 0, none⟩).run Tryd.prog w = .ok (yv b R) w :=
  run_loadVar_mid w z 0 39 _ _ h.range Tryd.underlying39 rfl info39
theorem YVar.loadR {w : World} {z b : Nat} {R : Rg} (h : YVar w z b R) : (Instr.loadAt 33 (.pointer (some ⟨z, 1, none⟩))).run Tryd.prog w = .ok R.v w :=
  run_loadAt_mid w z 1 33 R.row _ (fun j v hj => by
    match j, hj with
    | 0, hj => simp [Rg.row] at hj; subst hj; exact h.c1
    | 1, hj => simp [Rg.row] at hj; subst hj; exact h.c2
    | 2, hj => simp [Rg.row] at hj; subst hj; exact h.c3) Tryd.underlying33 rfl size33
/-- A row of numbers that a law holds beside memory. -/
def NumL (w0 : World) (b c r : Nat) (G : List (Nat × List Sw)) (w : World) (ad : Option Addr) (l : List Int) : Prop :=
  l = [] ∨ ∃ g, ad = some ⟨g, 0, none⟩ ∧ LocM w0 b c r G w g ∧ ∀ (i : Nat) (x : Int), l[i]? = some x → w.cell? ⟨g, i, none⟩ = some (.int .i64 x)
/-- The rows of a law's register. -/
structure RgL (w0 : World) (b c r : Nat) (G : List (Nat × List Sw)) (w : World) (R : Rg) (S P : List Int) : Prop where
  sn : R.sn = S.length
  pn : R.pn = P.length
  sf : S.length ≤ 64
  pf : P.length ≤ 64
  s : NumL w0 b c r G w R.sa S
  p : NumL w0 b c r G w R.pa P
section
variable {w0 : World} {b c r pb : Nat} {t1 : Value} {G G1 : List (Nat × List Sw)} {w w1 w2 : World} {m m1 : M} {s1 : Pt} {R : Rg} {S P : List Int} {Z : List Nat}
theorem NumL.keep {ad : Option Addr} {l : List Int} (h : NumL w0 b c r G w ad l) (hs : w.heap.size ≤ w1.heap.size) (hg : Grow w G G1) (hk : ∀ k, k < w.heap.size → k ≠ b → k ≠ c → k ≠ r → w1.heap[k]? = w.heap[k]?) : NumL w0 b c r G1 w1 ad l :=
  h.imp id fun ⟨g, e, hl, hc⟩ => ⟨g, e, hl.later hs hg, fun i x hx => (World.cell?_of_block (w := w) (a := ⟨g, i, none⟩) (hk g hl.lt hl.ne.1 hl.ne.2.1 hl.ne.2.2)).trans (hc i x hx)⟩
theorem RgL.keep (h : RgL w0 b c r G w R S P) (hs : w.heap.size ≤ w1.heap.size) (hg : Grow w G G1) (hk : ∀ k, k < w.heap.size → k ≠ b → k ≠ c → k ≠ r → w1.heap[k]? = w.heap[k]?) : RgL w0 b c r G1 w1 R S P :=
  ⟨h.sn, h.pn, h.sf, h.pf, h.s.keep hs hg hk, h.p.keep hs hg hk⟩
theorem RgL.butn (h : RgL w0 b c r G w R S P) (hb : ButN [b, c, r] w.heap.size w w1) (hg : Grow w G G1) : RgL w0 b c r G1 w1 R S P :=
  h.keep hb.size hg fun k hk e1 e2 e3 => hb.block k hk (by simp; exact ⟨e1, e2, e3⟩)
theorem RgL.later (h : RgL w0 b c r G w R S P) (hb : Below w.heap.size w w1) : RgL w0 b c r G w1 R S P := h.keep hb.size (Grow.refl _ _) fun k hk _ _ _ => hb.block k hk
/-- Within a closure. -/
theorem NumL.row {ad : Option Addr} {l : List Int} (h : NumL w0 b c r G w ad l) (hd : Dgo w0 b c r pb [b, c, r] w t1 G G1 w1 m1 s1) : RowAt w0 b c r pb t1 G1 w1 ad l :=
  h.imp id fun ⟨g, e, hl, hc⟩ => ⟨g, e, hl.loc hd, fun i x hx => hl.cellD hd (hc i x hx)⟩
theorem RgL.at_ (h : RgL w0 b c r G w R S P) (hd : Dgo w0 b c r pb [b, c, r] w t1 G G1 w1 m1 s1) : RgAt w0 b c r pb t1 G1 w1 R S P :=
  ⟨h.sn, h.pn, h.sf, h.pf, h.s.row hd, h.p.row hd⟩
theorem YVar.in_ {z : Nat} (h : YVar w z b R) (hl : LocM w0 b c r G w z) (hd : Dgo w0 b c r pb [b, c, r] w t1 G G1 w1 m1 s1) : YVar w1 z b R :=
  h.same (hd.but.block _ hl.lt (by have := hl.ne; simp; omega))
end
theorem Loc.m {w0 : World} {b c r pb : Nat} {t : Value} {G : List (Nat × List Sw)} {w : World} {z : Nat} (h : Loc w0 b c r pb t G w z) : LocM w0 b c r G w z := ⟨h.lt, h.ge, ⟨h.ne.1, h.ne.2.1, h.ne.2.2.1⟩, h.ng⟩
/-- Memory behind desc's Init. -/
def ini0 : M := (initP.go (M.new 200)).2
theorem ini0_top : (initP.go (M.new 200)).1 = (3, 0) := by kernel_rfl
theorem ini0_is : ini0 = ⟨⟨.word 1, 0, false, 0⟩ :: ⟨.desc ⟨0, 0, 1, [], none, 0, 0⟩, 0, false, 0⟩ :: ⟨.word 2, 0, false, 0⟩ :: List.replicate 197 ⟨.no, 0, false, 0⟩, 3, 3, 0⟩ := by kernel_rfl
theorem ini0_tidy : Tidy 0 ini0 := by
  rw [ini0_is]
  refine ⟨fun i x hx => ?_, ?_⟩
  · simp only at hx
    match i, hx with
    | 0, hx => simp at hx; subst hx; simp
    | 1, hx => simp at hx; subst hx; simp
    | 2, hx => simp at hx; subst hx; simp
    | i + 3, hx =>
      simp only [List.getElem?_cons_succ, List.getElem?_replicate] at hx
      split at hx
      · cases hx; simp
      · cases hx
  · kernel_rfl
theorem ini0_l3 : ini0.look 3 = some (.word 2) := by kernel_rfl
theorem ini0_l2 : ini0.look 2 = some (.desc ⟨0, 0, 1, [], none, 0, 0⟩) := by kernel_rfl
theorem ini0_l1 : ini0.look 1 = some (.word 1) := by kernel_rfl
theorem ini0_n : ini0.cells.length = 200 ∧ ini0.live = 3 ∧ ini0.count = 3 := by rw [ini0_is]; exact ⟨by simp, rfl, rfl⟩
/-- A register that was laid. -/
theorem rm_start (a k : Nat) (ha : 1 ≤ a ∧ a ≤ 64) (hk : k ≤ 64) : ∃ S P m', (initRP a k).go ini0 = ((S, P, 0), m') ∧ S.length = a ∧ P.length = k ∧ m'.count ≤ 200 ∧ RM 0 m' 3 S P 0 (List.replicate a (-1)) (List.replicate k (0, -1)) := by
  obtain ⟨n1, n2, n3⟩ := ini0_n
  obtain ⟨S, P, m', e1, e2, e3, e4, e5, e6, e7, e8, e9, e10⟩ := init_yes a k ha hk ini0_tidy (by decide) (by rw [n1]; decide) (by rw [n1, n2]; omega)
  have nd := List.nodup_append.1 e8
  refine ⟨S, P, m', e1, e2, e3, by omega, ⟨e4, by rw [e6, n1], by rw [e5, n2, e2, e3]; omega, by simp [e2], by simp [e3], by omega, by omega, fun x hx => ?_, fun x hx => ?_, 2, 1, 0, fun x => if x = 3 then .top else if x = 1 then .st else if x ∈ S then .slot (S.idxOf x) else .place (P.idxOf x), ?_⟩⟩
  · rw [List.eq_of_mem_replicate hx]; omega
  · rw [List.eq_of_mem_replicate hx]; simp
  · have key : ∀ {h : Int} {x : Held}, ini0.look h = some x → h ∉ S ++ P := fun hh hm => by rw [e7 _ hm] at hh; cases hh
    refine ⟨by rw [e9, if_neg (key ini0_l3)]; exact ini0_l3, by rw [e9, if_neg (key ini0_l2)]; exact ini0_l2, by rw [e9, if_neg (key ini0_l1)]; exact ini0_l1, by simp, by simp, fun i h hi => ?_, fun i h hi => ?_⟩
    · have hm : h ∈ S := List.mem_of_getElem? hi
      have hm2 : h ∈ S ++ P := List.mem_append.2 (.inl hm)
      have h3 : h ≠ 3 := fun e => key ini0_l3 (e ▸ hm2)
      have h1 : h ≠ 1 := fun e => key ini0_l1 (e ▸ hm2)
      have hil := (List.getElem?_eq_some_iff.1 hi)
      obtain ⟨hlt, he⟩ := hil
      refine ⟨?_, -1, by rw [List.getElem?_replicate, if_pos (by omega)], by rw [e9, if_pos hm2]; rfl⟩
      show (if h = 3 then Who.top else if h = 1 then .st else if h ∈ S then .slot (S.idxOf h) else .place (P.idxOf h)) = _
      rw [if_neg h3, if_neg h1, if_pos hm]
      congr 1
      rw [← he]
      exact nd.1.idxOf_getElem i hlt
    · have hm : h ∈ P := List.mem_of_getElem? hi
      have hm2 : h ∈ S ++ P := List.mem_append.2 (.inr hm)
      have h3 : h ≠ 3 := fun e => key ini0_l3 (e ▸ hm2)
      have h1 : h ≠ 1 := fun e => key ini0_l1 (e ▸ hm2)
      have hns : h ∉ S := fun e => nd.2.2 h e h hm rfl
      obtain ⟨hlt, he⟩ := (List.getElem?_eq_some_iff.1 hi)
      refine ⟨?_, (0, -1), by rw [List.getElem?_replicate, if_pos (by omega)], by rw [e9, if_pos hm2]; rfl⟩
      show (if h = 3 then Who.top else if h = 1 then .st else if h ∈ S then .slot (S.idxOf h) else .place (P.idxOf h)) = _
      rw [if_neg h3, if_neg h1, if_neg hns]
      congr 1
      rw [← he]
      exact nd.2.1.idxOf_getElem i hlt
end Go.Proofs.YtgjkkbgdkdipgaaDoor
