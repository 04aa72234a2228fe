/- What is common to the laws: towers of a row, whom they lead to. Condition: 1 to 20 nodes. -/
import Derived.Test.YtjlifkhpohfiaaaTh
namespace Go.Proofs.Ytjlifkhpohfiaaa
open Go.RowKit Go.Op
set_option maxRecDepth 100000

/-- The towers of a row, of which some are to go. -/
def TWIs (l : List Spc) (tl : List (Tw × Ts)) : Prop := tl.length = l.length ∧ ∀ (i : Nat) (H : Nat), (hts l)[i]? = some H → ∃ q, tl[i]? = some (⟨handI i, cellsL i H, linksL (hts l) i H, goneB l i⟩, q)
theorem twis_of {l : List Spc} {vl : List (Vw × Vs)} {tl : List (Tw × Ts)} (hv : VIs l l.length vl) (hg : GIs l vl vl.length tl) : TWIs l tl := by
  refine ⟨by rw [hg.1, hv.1], fun i H hH => ?_⟩
  have hi : i < l.length := by have := (List.getElem?_eq_some_iff.1 hH).1; rwa [hts_length] at this
  obtain ⟨x, hx⟩ : ∃ x, l[i]? = some x := ⟨_, List.getElem?_eq_getElem hi⟩
  obtain ⟨q, hq⟩ := hv.2 i x hi hx
  obtain ⟨q', hq'⟩ := hg.2 i _ hq
  refine ⟨q', ?_⟩
  rw [hq', if_pos (by rw [hv.1]; exact hi), List.getD_eq_getElem?_getD, hH]
  rfl
section
variable {l : List Spc} {tl : List (Tw × Ts)}
theorem TWIs.at_ (h : TWIs l tl) {i : Nat} {y : Tw × Ts} (hy : tl[i]? = some y) : ∃ H, (hts l)[i]? = some H ∧ y.1 = ⟨handI i, cellsL i H, linksL (hts l) i H, goneB l i⟩ := by
  have hi : i < l.length := by rw [← h.1]; exact (List.getElem?_eq_some_iff.1 hy).1
  obtain ⟨H, hH⟩ : ∃ H, (hts l)[i]? = some H := ⟨_, List.getElem?_eq_getElem (by rw [hts_length]; exact hi)⟩
  obtain ⟨q, hq⟩ := h.2 i H hH
  rw [hy] at hq
  cases hq
  exact ⟨H, hH, rfl⟩
theorem cellsL_length (i k : Nat) : (cellsL i k).length = k := by simp [cellsL]
theorem linksL_length (hs : List Nat) (i k : Nat) : (linksL hs i k).length = k := by simp [linksL]
theorem rtL_get (l : List Spc) {n j : Nat} (h : j < n) : (rtL l n)[j]? = some (rtI l j) := by simp [rtL, h]
/-- Whom towers lead to is what the reference says. -/
theorem firstTR (h : TWIs l tl) (i lv : Int) : ∀ d j, j + d = l.length → i < (j : Int) → handT tl (firstT tl lv j) = handO (firstR (rtL l l.length) i lv j)
  | 0, j, e, _ => by rw [firstT_end (by rw [h.1]; omega), firstR_end (by rw [rtL_length]; omega)]; rfl
  | d + 1, j, e, hi => by
    have hj : j < tl.length := by rw [h.1]; omega
    obtain ⟨y, hy⟩ : ∃ y, tl[j]? = some y := ⟨_, List.getElem?_eq_getElem hj⟩
    obtain ⟨H, hH, e2⟩ := h.at_ hy
    have hr : rtI l j = (H, goneB l j) := by unfold rtI; rw [List.getD_eq_getElem?_getD, hH]; rfl
    rw [firstT_at hy, firstR_at (rtL_get l (show j < l.length by omega)), hr]
    have hs : stays lv y.1 = true ↔ (i < (j : Int) ∧ goneB l j = false ∧ lv < (H : Int)) := by
      rw [e2]
      unfold stays
      simp only [cellsL_length, Bool.and_eq_true, Bool.not_eq_true', decide_eq_true_eq]
      exact ⟨fun h => ⟨hi, h⟩, fun h => h.2⟩
    by_cases hc : i < (j : Int) ∧ goneB l j = false ∧ lv < (H : Int)
    · rw [if_pos hc, if_pos (hs.2 hc)]
      show (match tl[j]? with | some x => x.1.h | none => 0) = handI j
      rw [hy]
      show y.1.h = handI j
      rw [e2]
    · rw [if_neg hc, if_neg (fun e => hc (hs.1 e))]
      exact firstTR h i lv d (j + 1) (by omega) (by omega)
theorem firstR_skip (R : List Rt) (i lv : Int) : ∀ d j, ((j + d : Nat) : Int) ≤ i + 1 → firstR R i lv j = firstR R i lv (j + d)
  | 0, j, _ => rfl
  | d + 1, j, h => by
    by_cases hj : j < R.length
    · obtain ⟨x, hx⟩ : ∃ x, R[j]? = some x := ⟨_, List.getElem?_eq_getElem hj⟩
      rw [firstR_at hx, if_neg (by omega), firstR_skip R i lv d (j + 1) (by omega)]
      congr 1; omega
    · rw [firstR_end (by omega), firstR_end (by omega)]
theorem leads_ref (h : TWIs l tl) (i lv : Int) : leadsT tl i lv = handO (refO (rtL l l.length) i lv) := by
  unfold leadsT refO
  by_cases h2 : lv < 0
  · rw [if_pos (.inr h2), if_pos h2]; rfl
  rw [if_neg h2]
  by_cases h1 : (tl.length : Int) ≤ i
  · rw [if_pos (.inl h1)]
    have : firstR (rtL l l.length) i lv 0 = none := by
      have e := firstR_skip (rtL l l.length) i lv l.length 0 (by have := h.1; omega)
      rw [e, firstR_end (by rw [rtL_length]; omega)]
    rw [this]; rfl
  rw [if_neg (by omega)]
  have hd : ((behindI i : Nat) : Int) = max i (-1) + 1 := by unfold behindI; omega
  have hlen : behindI i ≤ l.length := by have := h.1; omega
  rw [firstTR h i lv (l.length - behindI i) (behindI i) (by omega) (by omega)]
  by_cases h3 : 0 ≤ i
  · rw [firstR_skip (rtL l l.length) i lv (behindI i) 0 (by omega), Nat.zero_add]
  · have : behindI i = 0 := by omega
    rw [this]
theorem tw_few (h : TWIs l tl) : ∀ x, x ∈ tl → x.1.cells.length ≤ 100 := fun x hx => by
  obtain ⟨i, hi, rfl⟩ := List.mem_iff_getElem.1 hx
  obtain ⟨H, hH, e⟩ := h.at_ (List.getElem?_eq_getElem hi)
  rw [e]
  show (cellsL i H).length ≤ 100
  rw [cellsL_length]
  have := hts_in (List.mem_of_getElem? hH)
  omega
/-- What has to be changed, as the law counts it. -/
def relink1 (l : List Spc) (ver : Int) (i k : Nat) : List Sw := if tto (linkI (hts l) i k) = handO (refO (rtL l l.length) (i : Int) (k : Int)) then [] else [(cellI i k, linkI (hts l) i k, tword (handO (refO (rtL l l.length) (i : Int) (k : Int))) ver)]
def relinkI (l : List Spc) (ver : Int) (i H : Nat) : List Sw := (List.range H).flatMap (relink1 l ver i)
def relinkT (l : List Spc) (ver : Int) (i : Nat) : List Sw := if goneB l i then [] else relinkI l ver i ((hts l).getD i 0)
def relinkL (l : List Spc) (ver : Int) (j : Nat) : List Sw := (List.range j).flatMap (relinkT l ver)
theorem flatMap_congr' {α β : Type} {f g : α → List β} : ∀ {l : List α}, (∀ x, x ∈ l → f x = g x) → l.flatMap f = l.flatMap g
  | [], _ => rfl
  | x :: l, h => by rw [List.flatMap_cons, List.flatMap_cons, h x List.mem_cons_self, flatMap_congr' fun y hy => h y (List.mem_cons_of_mem _ hy)]
theorem swaps_relink (h : TWIs l tl) (ver : Int) : swapsL tl ver tl.length = relinkL l ver l.length := by
  rw [h.1]
  refine flatMap_congr' fun i hi => ?_
  have hi2 : i < l.length := List.mem_range.1 hi
  obtain ⟨y, hy⟩ : ∃ y, tl[i]? = some y := ⟨_, List.getElem?_eq_getElem (by rw [h.1]; exact hi2)⟩
  obtain ⟨H, hH, e⟩ := h.at_ hy
  unfold swapsT relinkT
  rw [hy, List.getD_eq_getElem?_getD, hH]
  simp only [Option.getD_some, e, cellsL_length, linksL_length, Nat.min_self]
  split
  · rfl
  · refine flatMap_congr' fun k hk => ?_
    have hk2 : k < H := List.mem_range.1 hk
    have e1 : (cellsL i H)[k]? = some (cellI i k) := by simp [cellsL, hk2]
    have e2 : (linksL (hts l) i H)[k]? = some (linkI (hts l) i k) := by simp [linksL, hk2]
    unfold swap1 relink1
    rw [e1, e2, leads_ref h]
end
end Go.Proofs.Ytjlifkhpohfiaaa
