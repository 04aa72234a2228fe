/- symMergeCmpFunc at any two sorted parts; a row of the call's own as what is sorted, and back. Condition: the row has at most 2^40 entries. -/
import Derived.Test.YthglldnhffkefaaSWalkH
namespace Go.Proofs.Ythglldnhffkefaa
open Go.RowKit Go.Op Go.Sort
set_option maxRecDepth 100000

theorem sym_ok (w0 : World) (g cap n : Nat) (R : Sow w0 g n) (hsz : n ≤ 1099511627776) : ∀ N, SymOk w0 g cap n N
  | 0 => fun A x y B a m b w hN _ _ _ _ _ _ _ _ _ => absurd hN (by omega)
  | N + 1 => fun A x y B a m b w hN hx hy hn ha hm hb hux huy h => by
    have ih := sym_ok w0 g cap n R hsz N
    by_cases h1 : x.length = 1
    · obtain ⟨e, rfl⟩ := List.length_eq_one_iff.1 h1
      subst hm
      exact sym_left w0 g cap n a b A y B e w R (by simpa using hn) hsz ha (by simpa using hb) huy h
    · by_cases h2 : y.length = 1
      · obtain ⟨e, rfl⟩ := List.length_eq_one_iff.1 h2
        subst hb
        exact sym_right w0 g cap n a m A x B e w R (by simpa using hn) hsz ha hm (by omega) hux h
      · have ih2 : SymOk w0 g cap n (x.length + y.length) := fun A x' y' B a m b w hN' => ih A x' y' B a m b w (by omega)
        by_cases h3 : (a + b) / 2 < m
        · exact sym_a w0 g cap n (x.length + y.length) a m b A x y B w R hsz ih2 rfl (by omega) (by omega) hn ha hm hb h3 hux huy h
        · exact sym_b w0 g cap n (x.length + y.length) a m b A x y B w R hsz ih2 rfl (by omega) (by omega) hn ha hm hb h3 hux huy h
theorem sym_any (w0 : World) (g cap n a m b : Nat) (A x y B : List En) (w : World) (R : Sow w0 g n) (hsz : n ≤ 1099511627776) (hx : 0 < x.length) (hy : 0 < y.length) (hn : A.length + (x.length + (y.length + B.length)) = n) (ha : A.length = a) (hm : a + x.length = m) (hb : m + y.length = b) (hux : Up x) (huy : Up y)
    (h : Srt w0 g (A ++ (x ++ (y ++ B))) w) :
    Calls Try.prog 39 #[.slice (some ⟨g, 0, none⟩) n cap, .int .i64 (a : Int), .int .i64 (m : Int), .int .i64 (b : Int), .func (.func 27) #[] #[]] w fun ed w' => ed = .returned (.tuple #[]) ∧ Srt w0 g (A ++ (sortL (x ++ y) ++ B)) w' :=
  sym_ok w0 g cap n R hsz _ A x y B a m b w (Nat.lt_succ_self _) hx hy hn ha hm hb hux huy h

theorem flat_row (l : List En) : flatK En.cells 3 l.toArray = (enRow l).toArray := by
  refine ext_get! (by simp [enRow_length]) fun t ht => ?_
  rw [size_flatK] at ht
  have ht' : t < l.length * 3 := by simpa using ht
  rw [get_flatK _ _ _ _ ht]
  have hk : t / 3 < l.length := by omega
  have e : l.toArray[t / 3]! = l[t / 3] := by simp [hk]
  rw [e]
  obtain ⟨e1, e2, e3⟩ := enRow_get l _ hk
  have hr : t % 3 < 3 := Nat.mod_lt _ (by decide)
  have htt : t = t / 3 * 3 + t % 3 := by omega
  generalize t / 3 = q at *
  generalize t % 3 = r at *
  subst htt
  rw [List.getElem!_toArray]
  match r, hr with
  | 0, _ => rw [Nat.add_zero, List.getElem!_eq_getElem?_getD (l := enRow l), e1]; rfl
  | 1, _ => rw [List.getElem!_eq_getElem?_getD (l := enRow l), e2]; rfl
  | 2, _ => rw [List.getElem!_eq_getElem?_getD (l := enRow l), e3]; rfl
theorem own_holds {w : World} {base g cap : Nat} {l : List En} (h : OwnE 37 w base (.slice (some ⟨g, 0, none⟩) l.length cap) l) : HoldsK En.cells 3 w g 0 l.toArray := by
  show Holds id w g 0 (flatK En.cells 3 l.toArray)
  rw [flat_row]
  intro j hj
  have hj' : j < l.length * 3 := by simpa [enRow_length] using hj
  rw [Nat.zero_add]
  refine ⟨?_, World.ownsRow.frozenAt h j⟩
  rw [World.ownsRow.cellAt h j hj', List.getElem!_toArray, List.getElem!_eq_getElem?_getD, List.getElem?_eq_getElem (by rw [enRow_length]; exact hj')]
  rfl
theorem own_start {w : World} {base g cap : Nat} {l : List En} (h : OwnE 37 w base (.slice (some ⟨g, 0, none⟩) l.length cap) l) : Sow w g l.length ∧ Srt w g l w :=
  ⟨⟨l, rfl, ⟨fun _ => rfl, fun x v hv => by simp [En.cells] at hv; rcases hv with rfl | rfl | rfl <;> rfl, own_holds h, (OwnE.cap h).2.2.2⟩⟩, SWK.start (own_holds h)⟩
theorem own_back {w W : World} {base g cap : Nat} {l m : List En} (h : OwnE 37 w base (.slice (some ⟨g, 0, none⟩) l.length cap) l) (hm : m.length = l.length) (hs : Srt w g m W) :
    OwnE 37 W base (.slice (some ⟨g, 0, none⟩) l.length cap) m ∧ Below base w W := by
  obtain ⟨q, os, rfl⟩ := hs
  have hcap := OwnE.cap h
  obtain ⟨h1, h2⟩ := h
  rcases h2 with ⟨h2, _⟩ | ⟨g', cap', cur, h2, b, c, d1, d2, d3, d4⟩
  · cases h2
  · simp only [Value.slice.injEq, Option.some.injEq, Addr.mk.injEq, and_true, true_and] at h2
    obtain ⟨rfl, rfl⟩ := h2
    have hgl : g < w.heap.size := hcap.2.2.2
    have hgrow : ∀ k, k < w.heap.size → (sortWorldK En.cells 3 w g 0 q m.toArray os).heap[k]? = (putRowK En.cells 3 (Sort.ahead w q) g 0 m.toArray).heap[k]? := fun k hk => by
      unfold sortWorldK grow
      show ((putRowK En.cells 3 (Sort.ahead w q) g 0 m.toArray).heap ++ os)[k]? = _
      rw [Array.getElem?_append_left (by rw [size_putRowK]; exact hk)]
    have hput : (putRowK En.cells 3 (Sort.ahead w q) g 0 m.toArray).heap = w.heap.modify g (onCells (putCells id 0 (enRow m).toArray)) := by
      unfold putRowK putRow mapBlock
      rw [flat_row]
      rfl
    refine ⟨⟨by rw [hm]; exact enRow_length m |>.trans (by rw [hm]), .inr ⟨g, cap, putCells id 0 (enRow m).toArray cur, by rw [hm], b, ?_, ?_, d2, ?_, ?_⟩⟩, ⟨rfl, rfl, rfl, ?_, ?_⟩⟩
    · rw [hgrow g hgl, hput, Array.getElem?_modify, if_pos rfl, c]
      rfl
    · rw [hm]; exact d1
    · simp only [putCells, Array.size_mapIdx]
      exact d3
    · refine List.ext_getElem? fun j => ?_
      rw [List.getElem?_take, hm]
      by_cases hj : j < l.length * 3
      · rw [if_pos hj]
        have hjc : j < cur.size := by rw [d3]; exact Nat.lt_of_lt_of_le hj (Nat.mul_le_mul_right 3 d1)
        have hje : j < (enRow m).length := by rw [enRow_length, hm]; exact hj
        simp only [putCells, Array.getElem?_toList, Array.getElem?_mapIdx, Array.getElem?_eq_getElem hjc, Option.map_some]
        rw [if_pos ⟨Nat.zero_le _, by simpa using hje⟩, Nat.sub_zero, List.getElem!_toArray, List.getElem!_eq_getElem?_getD, List.getElem?_eq_getElem hje]
        rfl
      · rw [if_neg hj, List.getElem?_eq_none (by rw [enRow_length, hm]; omega)]
    · unfold sortWorldK grow
      show w.heap.size ≤ ((putRowK En.cells 3 (Sort.ahead w q) g 0 m.toArray).heap ++ os).size
      rw [Array.size_append, size_putRowK]
      exact Nat.le_add_right _ _
    · intro k hk
      rw [hgrow k (by omega), hput, Array.getElem?_modify, if_neg (by omega)]
end Go.Proofs.Ythglldnhffkefaa
