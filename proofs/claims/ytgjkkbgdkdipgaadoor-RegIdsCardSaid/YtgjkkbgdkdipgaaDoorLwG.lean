/- Ids of snapshots, and which are open: the mathematics of RegIds. No condition. -/
import Derived.Test.YtgjkkbgdkdipgaaDoorLwT
namespace Go.Proofs.YtgjkkbgdkdipgaaDoor
open Go.RowKit Go.Op
set_option maxRecDepth 100000

/-- An id that was told, and whether its snapshot is open. -/
def IdOk (B : List (Int × Int)) (id : Int) (op : Bool) : Prop := ∃ (g : Int) (p : Nat) (b : Int × Int), id = g * 64 + (p : Int) ∧ 0 ≤ g ∧ p < 64 ∧ B[p]? = some b ∧ (op = true → b.1 = g ∧ 0 ≤ b.2) ∧ (op = false → g < b.1)
theorem IdOk.find {B : List (Int × Int)} {id : Int} {op : Bool} (h : IdOk B id op) : (op = true → ∃ k b, findI B id = some (k, b)) ∧ (op = false → findI B id = none) := by
  obtain ⟨g, p, b, rfl, h0, hp, hb, h1, h2⟩ := h
  have e1 : (g * 64 + (p : Int)) % 64 = (p : Int) := by omega
  have e2 : (g * 64 + (p : Int)) / 64 = g := by omega
  have hl := (List.getElem?_eq_some_iff.1 hb).1
  unfold findI
  rw [e1, e2, if_pos ⟨by omega, by omega⟩, Int.toNat_natCast, hb]
  refine ⟨fun e => ⟨p, b, ?_⟩, fun e => ?_⟩
  · obtain ⟨q1, q2⟩ := h1 e
    simp only
    rw [if_pos ⟨q2, q1⟩]
  · have := h2 e
    simp only
    rw [if_neg (by omega)]
theorem IdOk.isSome {B : List (Int × Int)} {id : Int} {op : Bool} (h : IdOk B id op) : (findI B id).isSome = op := by
  cases op with
  | true => obtain ⟨k, b, e⟩ := h.find.1 rfl; rw [e]; rfl
  | false => rw [h.find.2 rfl]; rfl
theorem IdOk.set {B : List (Int × Int)} {id : Int} {op : Bool} {k : Nat} {b : Int × Int} (v : Int) (h : IdOk B id op) (hb : B[k]? = some b) (h0 : b.2 < 0) : IdOk (B.set k (b.1, v)) id op := by
  obtain ⟨g, p, b1, e, h1, hp, hb1, h2, h3⟩ := h
  have hl := (List.getElem?_eq_some_iff.1 hb).1
  by_cases e2 : p = k
  · subst e2
    rw [hb] at hb1; cases hb1
    exact ⟨g, p, (b.1, v), e, h1, hp, List.getElem?_set_self hl, fun e3 => by have := h2 e3; omega, fun e3 => h3 e3⟩
  · exact ⟨g, p, b1, e, h1, hp, by rw [List.getElem?_set_ne (fun e3 => e2 e3.symm)]; exact hb1, h2, h3⟩
theorem IdOk.new {B : List (Int × Int)} {k : Nat} {b : Int × Int} {v : Int} (hb : B[k]? = some b) (hk : k < 64) (h0 : 0 ≤ b.1) (hv : 0 ≤ v) : IdOk (B.set k (b.1, v)) (b.1 * 64 + (k : Int)) true :=
  ⟨b.1, k, (b.1, v), rfl, h0, hk, List.getElem?_set_self (List.getElem?_eq_some_iff.1 hb).1, fun _ => ⟨rfl, hv⟩, fun e => (by cases e)⟩
theorem IdOk.unlike {B : List (Int × Int)} {id : Int} {op : Bool} {k : Nat} {b : Int × Int} (h : IdOk B id op) (hb : B[k]? = some b) (hk : k < 64) (h0 : b.2 < 0) : id ≠ b.1 * 64 + (k : Int) := by
  obtain ⟨g, p, b1, e, h1, hp, hb1, h2, h3⟩ := h
  intro e2
  obtain rfl : p = k := by omega
  rw [hb] at hb1; cases hb1
  cases op with
  | true => have := h2 rfl; omega
  | false => have := h3 rfl; omega
theorem IdOk.shut {B : List (Int × Int)} {id id0 : Int} {op : Bool} {k : Nat} {b : Int × Int} (h : IdOk B id op) (hf : findI B id0 = some (k, b)) (hne : id ≠ id0) : IdOk (B.set k (b.1 + 1, -1)) id op := by
  obtain ⟨g, p, b1, e, h1, hp, hb1, h2, h3⟩ := h
  obtain ⟨f1, f2, f3, f4, f5⟩ := findI_some hf
  have hl := (List.getElem?_eq_some_iff.1 f3).1
  by_cases e2 : p = k
  · subst e2
    rw [f3] at hb1; cases hb1
    refine ⟨g, p, (b.1 + 1, -1), e, h1, hp, List.getElem?_set_self hl, fun e3 => ?_, fun e3 => by have := h3 e3; show g < b.1 + 1; omega⟩
    have := h2 e3
    exact absurd (show id = id0 by omega) hne
  · exact ⟨g, p, b1, e, h1, hp, by rw [List.getElem?_set_ne (fun e3 => e2 e3.symm)]; exact hb1, h2, h3⟩
theorem IdOk.closed {B : List (Int × Int)} {id0 : Int} {k : Nat} {b : Int × Int} (hf : findI B id0 = some (k, b)) : IdOk (B.set k (b.1 + 1, -1)) id0 false := by
  obtain ⟨f1, f2, f3, f4, f5⟩ := findI_some hf
  have hl := (List.getElem?_eq_some_iff.1 f3).1
  exact ⟨b.1, k, (b.1 + 1, -1), by omega, by omega, by omega, List.getElem?_set_self hl, fun e => (by cases e), fun _ => by show b.1 < b.1 + 1; omega⟩
/-- How many are open. -/
def nOpen (B : List (Int × Int)) : Nat := B.countP fun b => decide (0 ≤ b.2)
theorem countP_setB {α : Type} (p : α → Bool) {l : List α} {k : Nat} {x y : α} (hx : l[k]? = some x) : (l.set k y).countP p + (if p x = true then 1 else 0) = l.countP p + (if p y = true then 1 else 0) := by
  induction l generalizing k with
  | nil => simp at hx
  | cons a l ih =>
    cases k with
    | zero =>
      simp only [List.getElem?_cons_zero, Option.some.injEq] at hx
      subst hx
      simp only [List.set_cons_zero, List.countP_cons]
      omega
    | succ k =>
      simp only [List.getElem?_cons_succ] at hx
      have := ih hx
      simp only [List.set_cons_succ, List.countP_cons]
      omega
theorem openI_is : ∀ (l : List (Int × Int)) (i : Nat), (openI i l = none ↔ nOpen l = l.length) ∧ ∀ k, openI i l = some k → nOpen l < l.length
  | [], i => ⟨⟨fun _ => rfl, fun _ => rfl⟩, fun k h => (by cases h)⟩
  | b :: l, i => by
    obtain ⟨ih1, ih2⟩ := openI_is l (i + 1)
    have hle : nOpen l ≤ l.length := List.countP_le_length
    unfold openI
    by_cases h0 : b.2 < 0
    · rw [if_pos h0]
      have e : nOpen (b :: l) = nOpen l := by
        unfold nOpen
        rw [List.countP_cons_of_neg (by simp; omega)]
      rw [e]
      refine ⟨⟨fun h => (by cases h), fun h => by simp at h; omega⟩, fun k _ => by simp; omega⟩
    · rw [if_neg h0]
      have e : nOpen (b :: l) = nOpen l + 1 := by
        unfold nOpen
        rw [List.countP_cons_of_pos (by simp; omega)]
      rw [e]
      refine ⟨⟨fun h => by have := ih1.1 h; simp; omega, fun h => ih1.2 (by simp at h; omega)⟩, fun k h => by have := ih2 k h; simp; omega⟩
theorem nOpen_open {B : List (Int × Int)} {k : Nat} {b : Int × Int} {v : Int} (hb : B[k]? = some b) (h0 : b.2 < 0) (hv : 0 ≤ v) : nOpen (B.set k (b.1, v)) = nOpen B + 1 := by
  have := countP_setB (fun b : Int × Int => decide (0 ≤ b.2)) (y := (b.1, v)) hb
  rw [if_neg (by simp; omega), if_pos (by simpa using hv)] at this
  unfold nOpen; omega
theorem nOpen_shut {B : List (Int × Int)} {id0 : Int} {k : Nat} {b : Int × Int} (hf : findI B id0 = some (k, b)) : nOpen (B.set k (b.1 + 1, -1)) + 1 = nOpen B := by
  obtain ⟨f1, f2, f3, f4, f5⟩ := findI_some hf
  have := countP_setB (fun b : Int × Int => decide (0 ≤ b.2)) (y := (b.1 + 1, -1)) f3
  rw [if_pos (by simpa using f4), if_neg (by simp)] at this
  unfold nOpen; omega
/-- What was told, and which of it is open. -/
structure Told (B : List (Int × Int)) (ids : List Int) (fl : List Bool) : Prop where
  len : fl.length = ids.length
  nd : ids.Nodup
  ok : ∀ (k : Nat) (id : Int) (op : Bool), ids[k]? = some id → fl[k]? = some op → IdOk B id op
  cnt : fl.countP id = nOpen B
theorem Told.add {B : List (Int × Int)} {ids : List Int} {fl : List Bool} (h : Told B ids fl) {k : Nat} {b : Int × Int} {v : Int} (hb : B[k]? = some b) (hk : k < 64) (h0 : b.2 < 0) (h1 : 0 ≤ b.1) (hv : 0 ≤ v) : Told (B.set k (b.1, v)) (ids ++ [b.1 * 64 + (k : Int)]) (fl ++ [true]) := by
  have hne : ∀ x ∈ ids, x ≠ b.1 * 64 + (k : Int) := fun x hx => by
    obtain ⟨j, hj, e⟩ := List.mem_iff_getElem.1 hx
    have h2 : fl[j]? = some (fl[j]'(by rw [h.len]; exact hj)) := List.getElem?_eq_getElem _
    exact (h.ok j x _ (by rw [← e]; exact List.getElem?_eq_getElem hj) h2).unlike hb hk h0
  refine ⟨by simp [h.len], List.nodup_append.2 ⟨h.nd, by simp, fun x hx y hy => by simp at hy; subst hy; exact hne x hx⟩, fun j id op hi ho => ?_, ?_⟩
  · rw [List.getElem?_append] at hi ho
    rw [h.len] at ho
    by_cases hj : j < ids.length
    · rw [if_pos hj] at hi ho
      exact (h.ok j id op hi ho).set v hb h0
    · rw [if_neg hj] at hi ho
      have : j - ids.length = 0 := by
        have := (List.getElem?_eq_some_iff.1 hi).1
        simp at this; omega
      rw [this] at hi ho
      simp at hi ho
      subst hi
      subst ho
      exact IdOk.new hb hk h1 hv
  · rw [List.countP_append, nOpen_open hb h0 hv, h.cnt]
    rfl
theorem Told.shut {B : List (Int × Int)} {ids : List Int} {fl : List Bool} (h : Told B ids fl) {j : Nat} {id0 : Int} (hj : ids[j]? = some id0) {k : Nat} {b : Int × Int} (hf : findI B id0 = some (k, b)) : Told (B.set k (b.1 + 1, -1)) ids (fl.set j false) := by
  have hjl := (List.getElem?_eq_some_iff.1 hj).1
  have hfl : fl[j]? = some (fl[j]'(by rw [h.len]; exact hjl)) := List.getElem?_eq_getElem _
  have htrue : fl[j]'(by rw [h.len]; exact hjl) = true := by
    have := (h.ok j id0 _ hj hfl).isSome
    rw [hf] at this
    exact this.symm
  rw [htrue] at hfl
  refine ⟨by simp [h.len], h.nd, fun i id op hi ho => ?_, ?_⟩
  · by_cases e : i = j
    · subst e
      rw [hj] at hi; cases hi
      rw [List.getElem?_set_self (by rw [h.len]; exact hjl)] at ho
      cases ho
      exact IdOk.closed hf
    · rw [List.getElem?_set_ne (fun e2 => e e2.symm)] at ho
      refine (h.ok i id op hi ho).shut hf (fun e2 => e ?_)
      subst e2
      have hil := (List.getElem?_eq_some_iff.1 hi)
      have hjl2 := (List.getElem?_eq_some_iff.1 hj)
      obtain ⟨l1, q1⟩ := hil
      obtain ⟨l2, q2⟩ := hjl2
      rcases Nat.lt_trichotomy i j with hlt | heq | hgt
      · exact absurd (q1.trans q2.symm) (List.pairwise_iff_getElem.1 h.nd i j l1 l2 hlt)
      · exact heq
      · exact absurd (q2.trans q1.symm) (List.pairwise_iff_getElem.1 h.nd j i l2 l1 hgt)
  · have := countP_setB id (y := false) hfl
    have h2 := nOpen_shut hf
    have h3 := h.cnt
    have e1 : (if id true = true then 1 else 0 : Nat) = 1 := rfl
    have e2 : (if id false = true then 1 else 0 : Nat) = 0 := rfl
    rw [e1, e2] at this
    omega
theorem Told.no {B : List (Int × Int)} {ids : List Int} {fl : List Bool} (h : Told B ids fl) {j : Nat} {id0 : Int} (hj : ids[j]? = some id0) (hf : findI B id0 = none) : fl[j]? = some false ∧ fl.set j false = fl := by
  have hjl := (List.getElem?_eq_some_iff.1 hj).1
  have hfl : fl[j]? = some (fl[j]'(by rw [h.len]; exact hjl)) := List.getElem?_eq_getElem _
  have hf2 : fl[j]'(by rw [h.len]; exact hjl) = false := by
    have := (h.ok j id0 _ hj hfl).isSome
    rw [hf] at this
    exact this.symm
  rw [hf2] at hfl
  refine ⟨hfl, List.ext_getElem? fun i => ?_⟩
  by_cases e : i = j
  · subst e; rw [List.getElem?_set_self (by rw [h.len]; exact hjl), hfl]
  · rw [List.getElem?_set_ne (fun e2 => e e2.symm)]
end Go.Proofs.YtgjkkbgdkdipgaaDoor
