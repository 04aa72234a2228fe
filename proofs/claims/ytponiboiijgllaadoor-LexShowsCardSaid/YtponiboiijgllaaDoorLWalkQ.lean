/- The document's examples of layer 3 hold (awake answers true). Conditions: the library's own variables are as a start leaves them. -/
import Derived.Test.YtponiboiijgllaaDoorLWalkP
namespace Go.Proofs.YtponiboiijgllaaDoor
open Go.RowKit
set_option maxRecDepth 100000

theorem sameB_any {w : World} {v1 v2 : Value} {l : List Bx} (hl : l.length ≤ 100000000) (h1 : SeesB w v1 l) (h2 : SeesR w v2 l) : Calls Tryd.prog 10 #[v1, v2] w fun e w' => e = .returned (.int .i64 1) ∧ Below w.heap.size w w' := by
  rcases h1 with ⟨rfl, a1, c1, rfl⟩ | ⟨g1, c1, rfl, hg1, e1⟩
  · rcases h2 with ⟨_, a2, c2, rfl⟩ | ⟨g2, c2, rfl, _, _⟩
    · exact sameB_nil a1 a2 c1 c2 w
    · exact sameB_nil a1 _ c1 c2 w
  · rcases h2 with ⟨rfl, a2, c2, rfl⟩ | ⟨g2, c2, rfl, hg2, e2⟩
    · exact sameB_nil _ a2 c1 c2 w
    · exact sameB_row l hl g1 g2 c1 c2 w hg1 hg2 e1 e2

/-- A row of lines that may be read. -/
def SeesL (S : World → Value → List Bx → Prop) (w : World) (v : Value) (ls : List (Nat × List Bx)) : Prop := (ls = [] ∧ ∃ a c, v = .slice a 0 c) ∨ ∃ g c, v = .slice (some ⟨g, 0, none⟩) ls.length c ∧ g < w.heap.size ∧ ∀ k (hk : k < ls.length), w.cell? ⟨g, k * 2, none⟩ = some (.int .i64 ((ls[k]'hk).1 : Nat)) ∧ ∃ x, w.cell? ⟨g, k * 2 + 1, none⟩ = some x ∧ S w x (ls[k]'hk).2
theorem lineRow_at (l : List (Nat × Value)) : ∀ (k : Nat) (hk : k < l.length), (lineRow l)[k * 2]? = some (.int .i64 ((l[k]'hk).1 : Nat)) ∧ (lineRow l)[k * 2 + 1]? = some (l[k]'hk).2 := by
  induction l with
  | nil => intro k hk; simp at hk
  | cons p t ih =>
    intro k hk
    have e : lineRow (p :: t) = .int .i64 (p.1 : Nat) :: p.2 :: lineRow t := by simp [lineRow]
    rw [e]
    rcases k with _ | k
    · exact ⟨rfl, rfl⟩
    · have := ih k (by simpa using hk)
      rw [show (k + 1) * 2 = k * 2 + 1 + 1 by omega]
      simp only [List.getElem?_cons_succ, List.getElem_cons_succ]
      exact this
theorem LinesAt.sees {E T size : Nat} {row : List Bx → List Value} {S : World → Value → List Bx → Prop} {w : World} {base : Nat} {v : Value} {ls : List (Nat × List Bx)} (h : LinesAt E T size row w base v ls) (hS : ∀ x l, OwnT T size w base x l.length (row l) → S w x l) : SeesL S w v ls := by
  obtain ⟨ps, h1, h2⟩ := h
  have hl := h2.len
  rcases own_form h1 with ⟨h0, hv⟩ | ⟨g, c, hv, hg⟩
  · exact .inl ⟨List.eq_nil_of_length_eq_zero (by omega), none, 0, by rw [hv]⟩
  · refine .inr ⟨g, c, by rw [← hl]; exact hv, hg, fun k hk => ?_⟩
    obtain ⟨e1, e2⟩ := lineRow_at ps k (by omega)
    obtain ⟨f1, f2⟩ := h2.at' k _ _ (List.getElem?_eq_getElem (by omega : k < ps.length)) (List.getElem?_eq_getElem hk)
    refine ⟨?_, _, own_cells h1 hv _ _ e2, hS _ _ f2⟩
    rw [← f1]
    exact own_cells h1 hv _ _ e1
theorem SeesL.below {S : World → Value → List Bx → Prop} {w w' : World} {v : Value} {ls : List (Nat × List Bx)} (h : SeesL S w v ls) (hb : Below w.heap.size w w') (hS : ∀ x l, S w x l → S w' x l) : SeesL S w' v ls := by
  rcases h with h | ⟨g, c, hv, hg, hc⟩
  · exact .inl h
  · refine .inr ⟨g, c, hv, Nat.lt_of_lt_of_le hg hb.size, fun k hk => ?_⟩
    obtain ⟨h1, x, h2, h3⟩ := hc k hk
    exact ⟨keep hb h1 hg, x, keep hb h2 hg, hS _ _ h3⟩
theorem SeesL.form {S : World → Value → List Bx → Prop} {w : World} {v : Value} {ls : List (Nat × List Bx)} (h : SeesL S w v ls) : ∃ a c, v = .slice a ls.length c := by
  rcases h with ⟨rfl, a, c, rfl⟩ | ⟨g, c, rfl, _⟩
  · exact ⟨a, c, rfl⟩
  · exact ⟨_, _, rfl⟩

theorem lines_good (s : ByteArray) (w : World) (hs : s.size ≤ 20000) (hsh : LibOk w) (hb : badAt 1 (splitNL s.data.toList) = 0) :
    Calls Tryd.prog 8 #[.string s] w fun e w' => ∃ v, e = .returned (.tuple #[v, .int .i64 0, .int .i64 0]) ∧ SeesL SeesB w' v (goodL 1 (splitNL s.data.toList)) ∧ Below w.heap.size w w' := by
  refine (lines_any s w (by omega) hsh).mono ?_
  rintro e w' ⟨hbw, ⟨h, _⟩ | ⟨_, h, _⟩ | ⟨_, _, v, rfl, hL⟩⟩
  · rw [len_data] at h; omega
  · exact absurd hb h
  · exact ⟨v, rfl, hL.sees fun _ _ h => h.seesB, hbw⟩
theorem lines_bad (s : ByteArray) (w : World) (hs : s.size ≤ 20000) (hsh : LibOk w) (n : Nat) (hn : n ≠ 0) (hb : badAt 1 (splitNL s.data.toList) = n) :
    Calls Tryd.prog 8 #[.string s] w fun e w' => e = .returned (.tuple #[.slice none 0 0, .int .i64 n, .int .i64 7]) ∧ Below w.heap.size w w' := by
  refine (lines_any s w (by omega) hsh).mono ?_
  rintro e w' ⟨hbw, ⟨h, _⟩ | ⟨_, h, rfl⟩ | ⟨_, h, _⟩⟩
  · rw [len_data] at h; omega
  · rw [hb]; exact ⟨rfl, hbw⟩
  · omega
theorem lines_long (s : ByteArray) (w : World) (hs : s.size ≤ 1000000) (hsh : LibOk w) (hl : 20000 < s.size) :
    Calls Tryd.prog 8 #[.string s] w fun e w' => e = .returned (.tuple #[.slice none 0 0, .int .i64 0, .int .i64 1]) ∧ Below w.heap.size w w' := by
  refine (lines_any s w hs hsh).mono ?_
  rintro e w' ⟨hbw, ⟨_, rfl⟩ | ⟨h, _⟩ | ⟨h, _⟩⟩
  · exact ⟨rfl, hbw⟩
  · rw [len_data] at h; omega
  · rw [len_data] at h; omega

/-- What was put between quotes is read as it was. -/
theorem unquote_quote (l : List UInt8) : unquoteL (quoteL l) = some l := by
  have hq : quoteL l = 34 :: (bodyL l ++ [34]) := by simp [quoteL]
  have hlen := quote_length l
  unfold unquoteL
  rw [if_pos ⟨by omega, by rw [hq]; rfl, by rw [hq]; exact List.getLast?_concat (l := 34 :: bodyL l), quote_right l⟩, quote_within, unq_body]

end Go.Proofs.YtponiboiijgllaaDoor
