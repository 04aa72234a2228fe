/- What strings.Split answers at the byte 10: the lines of a text; rows of lines in memory. No condition. -/
import Derived.Test.YtponiboiijgllaaDoorLWalkJ
import Derived.Test.YtponiboiijgllaaDoorShelfC
import Derived.Lib.SplitLaws
namespace Go.Proofs.YtponiboiijgllaaDoor
open Go.RowKit
set_option maxRecDepth 100000

theorem splitK_lines (l : List UInt8) : Lib.splitK [10] 0 (Lib.count l [10]) l = splitNL l := by
    have hge := Lib.indexByte_ge l 10
    by_cases h : Lib.index l [10] = -1
    · have h' : Lib.indexByte l 10 = -1 := by rw [← Lib.index_one]; exact h
      have hno : ∀ c ∈ l, c.toNat ≠ 10 := by
        intro c hc k10
        obtain ⟨j, hj, e⟩ := List.getElem_of_mem hc
        have := Lib.indexByte_none h' j
        rw [List.getElem?_eq_getElem hj, e, (u8_eq c 10 (by omega)).2 k10] at this
        exact this rfl
      rw [Lib.count_miss h, splitNL_line l hno]
      rfl
    · rw [Lib.index_one] at h
      obtain ⟨o, ho⟩ : ∃ o : Nat, Lib.indexByte l 10 = o := ⟨(Lib.indexByte l 10).toNat, by omega⟩
      obtain ⟨h1, h2⟩ := Lib.indexByte_some ho
      have hol : o < l.length := by
        rcases Nat.lt_or_ge o l.length with x | x
        · exact x
        · rw [List.getElem?_eq_none x] at h1; cases h1
      have e : l = l.take o ++ 10 :: l.drop (o + 1) := by
        have e1 := List.drop_eq_getElem_cons hol
        rw [List.getElem?_eq_getElem hol] at h1
        simp only [Option.some.injEq] at h1
        rw [h1] at e1
        rw [← e1, List.take_append_drop]
      have hno : ∀ c ∈ l.take o, c.toNat ≠ 10 := by
        intro c hc k10
        obtain ⟨j, hj, e'⟩ := List.getElem_of_mem hc
        have hj' : j < o := by rw [List.length_take] at hj; omega
        have := h2 j hj'
        rw [List.getElem?_eq_getElem (by omega)] at this
        rw [List.getElem_take] at e'
        exact this (by rw [e', (u8_eq c 10 (by omega)).2 k10]; rfl)
      have hi : Lib.index l [10] = o := by rw [Lib.index_one]; exact ho
      have hc := Lib.count_hit (s := l) (sub := [10]) (by simp) hi
      rw [hc, Nat.add_comm 1]
      have hm : ¬ (Lib.index l [10] == -1) = true := fun e => by have := beq_iff_eq.1 e; omega
      have ho2 : (Lib.index l [10]).toNat = o := by omega
      unfold Lib.splitK
      rw [if_neg hm, ho2]
      have ih := splitK_lines (l.drop (o + 1))
      conv => rhs; rw [e]
      rw [splitNL_cut _ _ hno]
      show l.take (o + 0) :: Lib.splitK [10] 0 (Lib.count (l.drop (o + 1)) [10]) (l.drop (o + 1)) = _
      rw [ih]
      rfl
termination_by l.length
decreasing_by
  rw [List.length_drop]
  omega
/-- The pieces that strings.Split makes. -/
def pieces (s : ByteArray) : List ByteArray := Lib.splitB ⟨#[10]⟩ 0 (Lib.countB s ⟨#[10]⟩) s
theorem pieces_data (s : ByteArray) : (pieces s).map (·.data.toList) = splitNL s.data.toList := by
  unfold pieces
  rw [Lib.splitB_data]
  exact splitK_lines _
theorem pieces_length (s : ByteArray) : (pieces s).length = Lib.countB s ⟨#[10]⟩ + 1 := Lib.splitB_all _ (by decide) 0 _ s rfl
theorem splitNL_short : ∀ (l : List UInt8), (splitNL l).length ≤ l.length + 1 ∧ ∀ x ∈ splitNL l, x.length ≤ l.length
  | [] => by simp [splitNL]
  | c :: t => by
    obtain ⟨h1, h2⟩ := splitNL_short t
    unfold splitNL
    split
    · refine ⟨by simp; omega, ?_⟩
      intro x hx
      simp at hx
      rcases hx with rfl | hx
      · simp
      · have := h2 x hx; simp; omega
    · cases hs : splitNL t with
      | nil => exact ⟨by simp, by simp⟩
      | cons a r =>
        rw [hs] at h1 h2
        refine ⟨by simp at *; omega, ?_⟩
        intro x hx
        simp at hx
        rcases hx with rfl | hx
        · have := h2 a (by simp); simp; omega
        · have := h2 x (by simp [hx]); simp; omega
/-- The library's variable bytealg.MaxLen holds some number. -/
def LibOk (w : World) : Prop := 0 < w.heap.size ∧ ∃ m, w.cell? ⟨0, 0, none⟩ = some (.int .i64 m)
theorem LibOk.of {w : World} (h : w.ShapedOpen Tryd.prog) : LibOk w := by
  obtain ⟨m, hm⟩ := Tryd.laysM146.s1_3 w h
  exact ⟨World.block_lt_of_cell? _ _ hm, m, hm⟩
theorem LibOk.below {B : Nat} {w w' : World} (h : LibOk w) (hb : Below B w w') (hB : 0 < B) : LibOk w' := by
  obtain ⟨h0, m, hm⟩ := h
  refine ⟨Nat.lt_of_lt_of_le h0 hb.size, m, ?_⟩
  rw [hb.cell (p := ⟨0, 0, none⟩) hB]
  exact hm
theorem LibOk.next {w w' : World} (h : LibOk w) (hb : Below w.heap.size w w') : LibOk w' := h.below hb h.1
theorem split_any (s : ByteArray) (w : World) (hs : s.size ≤ 1000000) (hsh : LibOk w) :
    Calls Tryd.prog 21 #[.string s, .string ⟨#[10]⟩] w fun e w' => e = .returned (.slice (some ⟨w.heap.size, 0, none⟩) (pieces s).length (pieces s).length) ∧ w' = w.alloc (.cells ((pieces s).map Value.string).toArray 9) := by
  obtain ⟨_, m, hm⟩ := hsh
  refine (Tryd.strings_Split s ⟨#[10]⟩ m w (by omega) hm (by decide)).mono ?_
  rintro e w' ⟨rfl, rfl⟩
  rw [pieces_length]
  exact ⟨rfl, rfl⟩

/-- Lines in memory: each a number and a row of words. -/
structure PairsI (T size : Nat) (row : List Bx → List Value) (w : World) (base : Nat) (ps : List (Nat × Value)) (ls : List (Nat × List Bx)) : Prop where
  len : ps.length = ls.length
  at' : ∀ (i : Nat) p q, ps[i]? = some p → ls[i]? = some q → p.1 = q.1 ∧ OwnT T size w base p.2 q.2.length (row q.2)
theorem PairsI.keep {T size : Nat} {row : List Bx → List Value} {w w' : World} {base : Nat} {ps : List (Nat × Value)} {ls : List (Nat × List Bx)} (h : PairsI T size row w base ps ls) (hk : ∀ v n xs, OwnT T size w base v n xs → OwnT T size w' base v n xs) : PairsI T size row w' base ps ls :=
  ⟨h.len, fun i p q hp hq => ⟨(h.at' i p q hp hq).1, hk _ _ _ (h.at' i p q hp hq).2⟩⟩
theorem PairsI.snoc {T size : Nat} {row : List Bx → List Value} {w : World} {base : Nat} {ps : List (Nat × Value)} {ls : List (Nat × List Bx)} (h : PairsI T size row w base ps ls) {n : Nat} {v : Value} {u : List Bx} (hv : OwnT T size w base v u.length (row u)) : PairsI T size row w base (ps ++ [(n, v)]) (ls ++ [(n, u)]) := by
  refine ⟨by simp [h.len], ?_⟩
  intro i p q hp hq
  have hl := h.len
  rcases Nat.lt_or_ge i ps.length with hi | hi
  · rw [List.getElem?_append_left hi] at hp
    rw [List.getElem?_append_left (by omega)] at hq
    exact h.at' i p q hp hq
  · rw [List.getElem?_append_right hi] at hp
    rw [List.getElem?_append_right (by omega)] at hq
    rw [hl] at hp
    rcases h0 : i - ls.length with _ | k
    · rw [h0] at hp hq
      simp at hp hq
      subst hp hq
      exact ⟨rfl, hv⟩
    · rw [h0] at hp
      simp at hp
/-- v is a row of lines of the call's own, and so are their words. -/
def LinesAt (E T size : Nat) (row : List Bx → List Value) (w : World) (base : Nat) (v : Value) (ls : List (Nat × List Bx)) : Prop := ∃ ps, OwnT E 2 w base v ps.length (lineRow ps) ∧ PairsI T size row w base ps ls
theorem LinesAt.below {E T size : Nat} {row : List Bx → List Value} {w w' : World} {base : Nat} {v : Value} {ls : List (Nat × List Bx)} (h : LinesAt E T size row w base v ls) (hb : Below w.heap.size w w') : LinesAt E T size row w' base v ls := by
  obtain ⟨ps, h1, h2⟩ := h
  exact ⟨ps, h1.below hb, h2.keep fun _ _ _ h => h.below hb⟩
theorem LinesAt.nil (E T size : Nat) (row : List Bx → List Value) (w : World) (base : Nat) : LinesAt E T size row w base (.slice none 0 0) [] := ⟨[], OwnT.nil _ _ _ _, rfl, fun i p q hp _ => by simp at hp⟩

/-- What lex.Lines, and the reference's, leave. -/
def LinesRes (E T size : Nat) (row : List Bx → List Value) (l : List UInt8) (w : World) (e : Ending) (w' : World) : Prop :=
  Below w.heap.size w w' ∧ ((20000 < l.length ∧ e = .returned (.tuple #[.slice none 0 0, .int .i64 0, .int .i64 1])) ∨
    (l.length ≤ 20000 ∧ badAt 1 (splitNL l) ≠ 0 ∧ e = .returned (.tuple #[.slice none 0 0, .int .i64 (badAt 1 (splitNL l)), .int .i64 7])) ∨
    (l.length ≤ 20000 ∧ badAt 1 (splitNL l) = 0 ∧ ∃ v, e = .returned (.tuple #[v, .int .i64 0, .int .i64 0]) ∧ LinesAt E T size row w' w.heap.size v (goodL 1 (splitNL l))))
theorem OwnT.isSlice {T size : Nat} {w : World} {base : Nat} {v : Value} {n : Nat} {xs : List Value} (h : OwnT T size w base v n xs) : ∃ a c, v = .slice a n c := by
  rcases h.2 with ⟨rfl, rfl⟩ | ⟨g, cap, cur, rfl, _⟩
  · exact ⟨none, 0, rfl⟩
  · exact ⟨_, _, rfl⟩
theorem wordsOf_some (s : ByteArray) (w : World) (hs : s.size ≤ 1000000) (u : List Bx) (h : wordsL s.data.toList = some u) :
    Calls Tryd.prog 22 #[.string s] w fun e w' => ∃ a c, e = .returned (.tuple #[.slice a u.length c, .bool true]) ∧ OwnT 52 1 w' w.heap.size (.slice a u.length c) u.length (boxRow u) ∧ Below w.heap.size w w' ∧ u.length ≤ s.size := by
  refine (wordsOf_any s w hs).mono ?_
  rintro e w' ⟨hb, ⟨v, u', hu, rfl, ho, hl⟩ | ⟨hu, _⟩⟩
  · rw [h] at hu
    obtain rfl := Option.some.inj hu
    obtain ⟨a, c, rfl⟩ := ho.isSlice
    rw [len_data] at hl
    exact ⟨a, c, rfl, ho, hb, hl⟩
  · rw [h] at hu; cases hu
theorem wordsOf_bad (s : ByteArray) (w : World) (hs : s.size ≤ 1000000) (h : wordsL s.data.toList = none) :
    Calls Tryd.prog 22 #[.string s] w fun e w' => e = .returned (.tuple #[.slice none 0 0, .bool false]) ∧ Below w.heap.size w w' := by
  refine (wordsOf_any s w hs).mono ?_
  rintro e w' ⟨hb, ⟨v, u', hu, rfl, ho, hl⟩ | ⟨hu, rfl⟩⟩
  · rw [h] at hu; cases hu
  · exact ⟨rfl, hb⟩
end Go.Proofs.YtponiboiijgllaaDoor
