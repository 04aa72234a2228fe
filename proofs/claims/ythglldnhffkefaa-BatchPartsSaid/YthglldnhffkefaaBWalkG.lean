/- What Parts answers of any entries and spans: a row of lists of the call's own. Conditions: at most 1000000 entries, at most 1000 spans. -/
import Derived.Test.YthglldnhffkefaaBWalkF
import Derived.Laws.MakeOwn
namespace Go.Proofs.Ythglldnhffkefaa
open Go.RowKit Go.Op
set_option maxRecDepth 100000

/-- Entries, parted by spans. -/
def partsL : List En → List Sp → List (List En)
  | _, [] => []
  | l, s :: r => withinL (fromL l s.lo) s :: partsL ((fromL l s.lo).drop (wN (fromL l s.lo) s)) r
theorem parts_length : ∀ (r : List Sp) (l : List En), (partsL l r).length = r.length
  | [], _ => rfl
  | s :: r, l => by simp [partsL, parts_length r]
/-- Spans that stand in memory. -/
def Sps (w : World) (a : Option Addr) (l : List Sp) : Prop :=
  l = [] ∨ ∃ b off, a = some ⟨b, off, none⟩ ∧ b < w.heap.size ∧ ∀ k (hk : k < l.length), At b (off + k * 3) (l[k]'hk) w
theorem Sps.below {w w' : World} {a : Option Addr} {l : List Sp} (h : Sps w a l) (hb : Below w.heap.size w w') : Sps w' a l := by
  rcases h with rfl | ⟨b, off, rfl, hlt, hc⟩
  · exact .inl rfl
  · exact .inr ⟨b, off, rfl, Nat.lt_of_lt_of_le hlt hb.size, fun k hk => (hc k hk).keep hb hlt⟩
theorem Sps.at {w : World} {a : Option Addr} {l : List Sp} (h : Sps w a l) {k : Nat} (hk : k < l.length) : ∃ b off, a = some ⟨b, off, none⟩ ∧ b < w.heap.size ∧ At b (off + k * 3) (l[k]'hk) w := by
  rcases h with rfl | ⟨b, off, rfl, hlt, hc⟩
  · simp at hk
  · exact ⟨b, off, rfl, hlt, hc k hk⟩

theorem cut_off {w : World} {a : Option Addr} {l : List En} {c : Nat} (h : Cut w a l c) {g j : Nat} {v : Value} (hn : ∀ p, a = some p → p.block ≠ g) : Cut (w.setCell ⟨g, j, none⟩ v) a l c := by
  refine ⟨?_, h.len, h.big, h.none, h.spot⟩
  rcases h.e with rfl | ⟨b, off, rfl, hlt, hc⟩
  · exact .inl rfl
  · have hne : b ≠ g := hn _ rfl
    have hk : ∀ o, (w.setCell ⟨g, j, none⟩ v).cell? ⟨b, o, none⟩ = w.cell? ⟨b, o, none⟩ := fun o => World.cell?_setCell_other _ _ _ _ (by intro e; simp only [Addr.mk.injEq] at e; exact hne e.1.symm)
    refine .inr ⟨b, off, rfl, by simpa [World.setCell] using hlt, fun k hk2 => ?_⟩
    obtain ⟨c1, c2, c3⟩ := hc k hk2
    exact ⟨by rw [hk]; exact c1, by rw [hk]; exact c2, by rw [hk]; exact c3⟩
/-- A row of lists of the call's own, so many of them laid. -/
def PRow (B : Nat) (W : World) (gp n : Nat) (done : List (List En)) : Prop :=
  ∃ vs : List Value, W.ownsRow B 25 1 (.slice (some ⟨gp, 0, none⟩) n n) n vs ∧ gp < W.heap.size ∧
    (∀ k (hk : k < done.length), ∃ a c, vs[k]? = some (.slice a (done[k]'hk).length c) ∧ Cut W a (done[k]'hk) c ∧ ∀ p, a = some p → p.block ≠ gp) ∧
    (∀ k, done.length ≤ k → k < n → vs[k]? = some (.slice none 0 0))
theorem PRow.below {B : Nat} {W W' : World} {gp n : Nat} {done : List (List En)} (h : PRow B W gp n done) (hb : Below W.heap.size W W') : PRow B W' gp n done := by
  obtain ⟨vs, h1, h2, h3, h4⟩ := h
  refine ⟨vs, ?_, Nat.lt_of_lt_of_le h2 hb.size, fun k hk => ?_, h4⟩
  · obtain ⟨e1, e2⟩ := h1
    refine ⟨e1, ?_⟩
    rcases e2 with e2 | ⟨g, cap, cur, e, b, c, d⟩
    · exact .inl e2
    · exact .inr ⟨g, cap, cur, e, b, by rw [hb.block g (heap_lt c)]; exact c, d⟩
  · obtain ⟨a, c, g1, g2, g3⟩ := h3 k hk
    exact ⟨a, c, g1, g2.below hb, g3⟩
theorem PRow.at {B : Nat} {W : World} {gp n : Nat} {done : List (List En)} (h : PRow B W gp n done) {k : Nat} (hk : k < done.length) (hkn : k < n) : ∃ a c, W.cell? ⟨gp, k, none⟩ = some (.slice a (done[k]'hk).length c) ∧ Cut W a (done[k]'hk) c := by
  obtain ⟨vs, h1, h2, h3, h4⟩ := h
  obtain ⟨a, c, g1, g2, _⟩ := h3 k hk
  exact ⟨a, c, by rw [World.ownsRow.cellAt h1 k (by omega)]; exact g1, g2⟩
theorem PRow.free {B : Nat} {W : World} {gp n : Nat} {done : List (List En)} (h : PRow B W gp n done) {k : Nat} (hk : done.length ≤ k) (hkn : k < n) : W.cell? ⟨gp, k, none⟩ = some (.slice none 0 0) ∧ W.frozen? ⟨gp, k, none⟩ = false := by
  obtain ⟨vs, h1, h2, h3, h4⟩ := h
  exact ⟨by rw [World.ownsRow.cellAt h1 k (by omega)]; exact h4 k hk hkn, World.ownsRow.frozenAt h1 k⟩
theorem PRow.put {B : Nat} {W : World} {gp n : Nat} {done : List (List En)} (h : PRow B W gp n done) (hn : done.length < n) {x : List En} {a : Option Addr} {c : Nat} (hx : Cut W a x c) (hg : ∀ p, a = some p → p.block ≠ gp) :
    PRow B (W.setCell ⟨gp, done.length, none⟩ (.slice a x.length c)) gp n (done ++ [x]) := by
  obtain ⟨vs, h1, h2, h3, h4⟩ := h
  have hl : vs.length = n := by have := h1.1; omega
  refine ⟨_, (World.ownsRow.stored h1 done.length (.slice a x.length c)).1, by simpa [World.setCell] using h2, fun k hk => ?_, fun k hk hkn => ?_⟩
  · by_cases e : k = done.length
    · subst e
      refine ⟨a, c, ?_, ?_, hg⟩
      · rw [List.getElem?_set_self (by omega)]
        simp
      · have : (done ++ [x])[done.length]'hk = x := by simp
        rw [this]
        exact cut_off hx hg
    · have hk2 : k < done.length := by simp at hk; omega
      obtain ⟨a', c', g1, g2, g3⟩ := h3 k hk2
      have e2 : (done ++ [x])[k]'hk = done[k] := List.getElem_append_left hk2
      rw [e2]
      exact ⟨a', c', by rw [List.getElem?_set_ne (by omega)]; exact g1, cut_off g2 g3, g3⟩
  · rw [List.length_append, List.length_singleton] at hk
    rw [List.getElem?_set_ne (by omega)]
    exact h4 k (by omega) hkn
theorem info25 : (Try.prog.info? 25).map (fun i => (i.zero, i.size, i.bytes)) = some (some (.slice none 0 0), 1, 24) := by kernel_rfl
theorem made_prow (n : Nat) (hn : n ≤ 1000) (w : World) : ∃ w', (Instr.makeSlice 42 (.int .i64 (n : Int)) (.int .i64 (n : Int))).run Try.prog w = .ok (.slice (some ⟨w.heap.size, 0, none⟩) n n) w' ∧ PRow w.heap.size w' w.heap.size n [] ∧ Below w.heap.size w w' := by
  have h5 := info25
  cases hi : Try.prog.info? 25 with
  | none => rw [hi] at h5; cases h5
  | some i =>
    rw [hi] at h5
    simp only [Option.map_some, Option.some.injEq, Prod.mk.injEq] at h5
    obtain ⟨h1, h2, h3⟩ := h5
    have hm := run_make (P := Try.prog) w 42 25 i (.slice none 0 0) Try.underlying42 hi h1 .i64 .i64 n n (by omega) (by omega) (by rw [h3]; omega) (by omega)
    rw [h2, Nat.mul_one] at hm
    simp only [Int.toNat_natCast] at hm
    refine ⟨_, hm, ⟨(madeCells (Value.slice none 0 0).cells n).toList, ⟨?_, .inr ⟨w.heap.size, n, _, rfl, Nat.le_refl _, heap_alloc_new w _, Nat.le_refl _, by unfold maxLen; omega, ?_, ?_⟩⟩, by simp, fun k hk => absurd hk (by simp), fun k _ hk => ?_⟩, (Below.refl _ _).alloc (Nat.le_refl _) _⟩
    · simp [madeCells, Value.cells]
    · simp [madeCells, Value.cells]
    · rw [Nat.mul_one, List.take_of_length_le (by simp [madeCells, Value.cells])]
    · simp [madeCells, Value.cells, hk, Nat.mod_one]
end Go.Proofs.Ythglldnhffkefaa
