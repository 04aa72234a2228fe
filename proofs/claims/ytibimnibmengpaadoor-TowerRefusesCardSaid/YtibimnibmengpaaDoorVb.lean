/- Whom a search from any node of a row finds. No condition. -/
import Derived.Test.YtibimnibmengpaaDoorVs
namespace Go.Proofs.YtibimnibmengpaaDoor
open Go.RowKit Go.Op
set_option maxRecDepth 100000

theorem goP_gt (t : ByteArray) {l : List Nod} : ∀ (f : Nat) (m : M) (i : Nat) (x : Nod) (L : Nat), RowOk m l → l[i]? = some x → (∀ j y, i < j → l[j]? = some y → lt t y.nd.low = true) → L ≤ x.links.length → L + 1 ≤ f →
    ∃ m', (goP t f x.h x.nd ((L : Int) - 1)).go m = (some (x.h, x.nd, 0), m') ∧ AskN m m' (2 * (L : Int))
  | 0, _, _, _, _, _, _, _, _, hf => by omega
  | f + 1, m, i, x, L, hR, hx, hgt, hL, hf => by
    have hx2 := hR.nod x (List.mem_of_getElem? hx)
    cases L with
    | zero =>
      refine ⟨m, ?_, (AskN.refl m).le (by omega)⟩
      rw [goP, if_neg (by omega)]
      rfl
    | succ L =>
      obtain ⟨y, hy⟩ : ∃ y, x.links[L]? = some y := ⟨_, List.getElem?_eq_getElem (by omega)⟩
      have hlv : ((L + 1 : Nat) : Int) - 1 = (L : Int) := by omega
      rw [hlv]
      have hto := hR.to_ i x L y hx hy
      rcases toN_spec (L : Int) (l.drop (i + 1)) with ⟨h1, h2⟩ | ⟨j, z, h1, h2, h3, h4⟩
      · rw [h1] at hto
        obtain ⟨m', q5, q6⟩ := goP_gt t f m.ask i x L (hR.asked (AskN.ask m)) hx hgt (by omega) (by omega)
        refine ⟨m', ?_, ((AskN.ask m).trans q6).le (by omega)⟩
        rw [goP, if_pos (by omega), Pr.go_bind, onward_no hx2 hy hto]
        simp only [if_true]
        exact q5
      · rw [h3] at hto
        rw [List.getElem?_drop] at h1
        have hz := hR.nod z (List.mem_of_getElem? h1)
        have hlt := hgt (i + 1 + j) z (by omega) h1
        obtain ⟨m', q5, q6⟩ := goP_gt t f m.ask.ask i x L (hR.asked ((AskN.ask m).trans (AskN.ask _))) hx hgt (by omega) (by omega)
        refine ⟨m', ?_, (((AskN.ask m).trans (AskN.ask _)).trans q6).le (by omega)⟩
        have ho := onward_to hx2 hz hy hto t
        rw [if_neg (by rw [hlt]; decide)] at ho
        rw [goP, if_pos (by omega), Pr.go_bind, ho]
        simp only [if_true]
        exact q5
section
variable {m m1 : M} {lows : List ByteArray} {hts : List Int} {l : List Nod}
theorem Good.rise (h : Good m lows hts l) {i j : Nat} {x y : ByteArray} (hij : i < j) (hx : lows[i]? = some x) (hy : lows[j]? = some y) : lt x y = true := by
  have := List.pairwise_iff_getElem.1 h.up i j (List.getElem?_eq_some_iff.1 hx).1 (List.getElem?_eq_some_iff.1 hy).1 hij
  rwa [(List.getElem?_eq_some_iff.1 hx).2, (List.getElem?_eq_some_iff.1 hy).2] at this
theorem Good.search2 (h : Good m lows hts l) (hR : RowOk m1 l) (t : ByteArray) {i r : Nat} {x : Nod} (hx : l[i]? = some x) (hf : FindP lows t r) :
    ∃ z m', l[max i r]? = some z ∧ (searchP 60 x.h t).go m1 = (some (z.h, z.nd, 0), m') ∧ AskN m1 m' 200 := by
  have hlx := (h.nod hx).2.1
  have h8 := h.hs hx
  have hll := h.ll
  have hfew := h.few
  cases hlow : lt t x.nd.low with
  | false =>
    obtain ⟨j, z, m', q1, q2, q3, q4, q5, q6⟩ := h.search hR t hx hlow
    obtain rfl : j = r := find_is h.up hf (h.nod q1).2.1 q3 q4
    exact ⟨z, m', by rw [Nat.max_eq_right q2]; exact q1, q5, q6.le (by omega)⟩
  | true =>
    have hri : r ≤ i := by
      rcases hf.1 with e | ⟨y, hy, hyl⟩
      · omega
      · apply Classical.byContradiction
        intro hn
        have h3 : lt t y = true := less_trans _ _ _ hlow (h.rise (by omega) hlx hy)
        rw [h3] at hyl
        cases hyl
    have hx2 := hR.nod x (List.mem_of_getElem? hx)
    have hl0 : x.links.length ≠ 0 := by omega
    obtain ⟨m', q5, q6⟩ := goP_gt t 60 m1.ask i x x.links.length (hR.asked (AskN.ask m1)) hx (fun j y hj hy => less_trans _ _ _ hlow (h.rise hj hlx (h.nod hy).2.1)) (Nat.le_refl _) (by omega)
    refine ⟨x, m', by rw [Nat.max_eq_left hri]; exact hx, ?_, ((AskN.ask m1).trans q6).le (by omega)⟩
    rw [searchP, Pr.go_bind, load_nod hx2]
    simp only [if_true]
    rw [if_neg (by rw [hx2.len]; exact hl0), hx2.len]
    exact q5
theorem FindP.lt {t : ByteArray} {r : Nat} (hf : FindP lows t r) (h0 : 0 < lows.length) : r < lows.length := by
  rcases hf.1 with e | ⟨y, hy, -⟩
  · omega
  · exact (List.getElem?_eq_some_iff.1 hy).1
theorem FindP.one {t : ByteArray} {r r' : Nat} (hf : FindP lows t r) (hf' : FindP lows t r') : r = r' := by
  have key : ∀ a b, FindP lows t a → FindP lows t b → a ≤ b := fun a b ha hb => by
    rcases ha.1 with e | ⟨y, hy, hyl⟩
    · omega
    · exact hb.2 a y hy hyl
  exact Nat.le_antisymm (key _ _ hf hf') (key _ _ hf' hf)
end
end Go.Proofs.YtibimnibmengpaaDoor
