/- Chains that were cut: what is left of them. No condition. -/
import Derived.Test.YtbcpdkmbbgcfbaaDoorLe
namespace Go.Proofs.YtbcpdkmbbgcfbaaDoor
open Go.RowKit Go.Op
set_option maxRecDepth 100000

theorem prevs_flat : ∀ {l : List (Int × Rv × Int)} {k : Int}, k ∈ prevs l → k ∈ flat l := fun h => by
  obtain ⟨x, hx, rfl⟩ := List.mem_map.1 h
  exact flat_mem.2 ⟨x, hx, .inr rfl⟩
theorem prevs_nodup : ∀ {l : List (Int × Rv × Int)}, (flat l).Nodup → (prevs l).Nodup
  | [], _ => List.nodup_nil
  | x :: l, h => by
    have h2 : (x.1 :: x.2.2 :: flat l).Nodup := h
    have h3 := List.nodup_cons.1 (List.nodup_cons.1 h2).2
    exact List.nodup_cons.2 ⟨fun e => h3.1 (prevs_flat e), prevs_nodup h3.2⟩
theorem prevs_drop {l : List (Int × Rv × Int)} {i : Nat} {k : Int} (h : k ∈ prevs (l.drop i)) : k ∈ prevs l := by
  obtain ⟨x, hx, rfl⟩ := List.mem_map.1 h
  exact List.mem_map.2 ⟨x, List.mem_of_mem_drop hx, rfl⟩
theorem Ch.not_prev {m : M} {l : List (Int × Rv × Int)} {h : Int} (hc : Ch m h l) {k : Int} (hk : ∀ x, m.look k ≠ some (.word x)) : k ∉ prevs l := fun e => by
  obtain ⟨x, hx, rfl⟩ := List.mem_map.1 e
  obtain ⟨j, hj⟩ := (hc.age x hx).2
  exact hk j hj
/-- What is left of a chain whose prevs from an age on tell 0. -/
theorem Ch.cut {m m' : M} : ∀ {l : List (Int × Rv × Int)} {h : Int} (i : Nat), Ch m h l → (flat l).Nodup → (∀ k, m'.look k = if k ∈ prevs (l.drop i) then some (.word 0) else m.look k) → i < l.length → Ch m' h (l.take (i + 1))
  | [], _, i, _, _, _, hi => by simp at hi
  | x :: l, h, 0, hc, _, hs, _ => by
    have hn := hc.not_prev (k := h) fun y e => by rw [hc.2.2.1] at e; cases e
    obtain ⟨e, h0, h1, k, h2, h3⟩ := hc
    refine ⟨e, h0, ?_, 0, ?_, rfl⟩
    · rw [hs, List.drop_zero, if_neg hn, h1]
    · rw [hs, if_pos (by simp [prevs])]
  | x :: l, h, i + 1, hc, hnd, hs, hi => by
    have hn := hc.not_prev (k := h) fun y e => by rw [hc.2.2.1] at e; cases e
    obtain ⟨e, h0, h1, k, h2, h3⟩ := hc
    rw [List.drop_succ_cons] at hs
    have hnd2 : (x.1 :: x.2.2 :: flat l).Nodup := hnd
    have h4 := List.nodup_cons.1 (List.nodup_cons.1 hnd2).2
    refine ⟨e, h0, ?_, k, ?_, Ch.cut i h3 h4.2 hs (by simpa using hi)⟩
    · rw [hs, if_neg (fun e => hn (by simp only [prevs, List.map_cons]; exact List.mem_cons_of_mem _ (prevs_drop e))), h1]
    · rw [hs, if_neg (fun e => h4.1 (prevs_flat (prevs_drop e))), h2]
theorem Ch.one {m : M} {h : Int} {x : Int × Rv × Int} (hx : h = x.1) (h0 : h ≠ 0) (h1 : m.look x.1 = some (.blk (.age x.2.1 x.2.2) .nil)) (h2 : m.look x.2.2 = some (.word 0)) : Ch m h [x] := ⟨hx, h0, by rw [hx]; exact h1, 0, h2, rfl⟩
theorem drop_cons {l : List (Int × Rv × Int)} {i : Nat} {x : Int × Rv × Int} (h : l[i]? = some x) : l.drop i = x :: l.drop (i + 1) := by
  obtain ⟨hi, rfl⟩ := List.getElem?_eq_some_iff.1 h
  exact List.drop_eq_getElem_cons hi
theorem flat_get : ∀ (l : List (Int × Rv × Int)) (j : Nat) (x : Int × Rv × Int), l[j]? = some x → (flat l)[2 * j]? = some x.1 ∧ (flat l)[2 * j + 1]? = some x.2.2
  | [], j, x, h => by simp at h
  | y :: l, 0, x, h => by
    simp at h
    subst h
    exact ⟨rfl, rfl⟩
  | y :: l, j + 1, x, h => by
    have := flat_get l j x (by simpa using h)
    have e : flat (y :: l) = y.1 :: y.2.2 :: flat l := rfl
    rw [e, show 2 * (j + 1) = 2 * j + 1 + 1 by omega, List.getElem?_cons_succ, List.getElem?_cons_succ, List.getElem?_cons_succ, List.getElem?_cons_succ]
    exact this
theorem flat_drop : ∀ (l : List (Int × Rv × Int)) (i : Nat), flat (l.drop i) = (flat l).drop (2 * i)
  | l, 0 => rfl
  | [], i + 1 => by simp [flat]
  | x :: l, i + 1 => by
    rw [List.drop_succ_cons, flat_drop l i, show 2 * (i + 1) = 2 * i + 1 + 1 by omega]
    rfl
/-- Where the ages stand that a cut takes. -/
theorem tail_pos (v : Int) : ∀ (l : List (Int × Rv × Int)), (posOf v (l.map fun x => x.2.1.ver) = -1 ∧ tailFrom v l = []) ∨ ∃ (i : Nat) (x : Int × Rv × Int), l[i]? = some x ∧ posOf v (l.map fun x => x.2.1.ver) = (i : Int) ∧ tailFrom v l = l.drop i ∧ tailFrom v (l.take (i + 1)) = [x]
  | [] => .inl ⟨rfl, rfl⟩
  | y :: l => by
    rw [List.map_cons, posOf, tailFrom]
    by_cases hv : y.2.1.ver ≤ v
    · rw [if_pos hv, if_pos hv]
      exact .inr ⟨0, y, rfl, rfl, rfl, by simp [tailFrom, hv]⟩
    · rw [if_neg hv, if_neg hv]
      rcases tail_pos v l with ⟨h1, h2⟩ | ⟨i, x, h1, h2, h3, h4⟩
      · rw [h1]
        exact .inl ⟨rfl, h2⟩
      · rw [h2, if_neg (by omega)]
        exact .inr ⟨i + 1, x, by simpa using h1, by simp, h3, by rw [List.take_succ_cons, tailFrom, if_neg hv]; exact h4⟩
/-- How many are left. -/
def leftOf (v : Int) (vs : List Int) : Int := if posOf v vs < 0 then (vs.length : Int) else posOf v vs + 1
/-- What two falls make of a chain. -/
structure Felled (m m2 : M) (l : List (Int × Rv × Int)) (n : Nat) : Prop where
  ch : Ch m2 (topOf l) (l.take n)
  same : ∀ k, k ∉ flat l → m2.look k = m.look k
  ages : ∀ x, x ∈ l → m2.look x.1 = some (.blk (.age x.2.1 x.2.2) .nil)
  cnt : m.count ≤ m2.count ∧ m2.count ≤ m.count + 500
theorem Ch.top {m : M} {h : Int} {l : List (Int × Rv × Int)} (hc : Ch m h l) : h = topOf l := by
  cases l with
  | nil => exact hc
  | cons x l => exact hc.1
theorem Ch.set_ages {m m' : M} {l : List (Int × Rv × Int)} {h : Int} {i : Nat} (hc : Ch m h l) (hs : ∀ k, m'.look k = if k ∈ prevs (l.drop i) then some (.word 0) else m.look k) : ∀ x, x ∈ l → m'.look x.1 = some (.blk (.age x.2.1 x.2.2) .nil) := fun x hx => by
  have h1 := (hc.age x hx).1
  have hn := hc.not_prev (k := x.1) fun y e => by rw [h1] at e; cases e
  rw [hs, if_neg (fun e => hn (prevs_drop e)), h1]
theorem fell2_go {l : List (Int × Rv × Int)} {h : Int} {m : M} (hc : Ch m h l) (hlen : l.length ≤ 40) (hnd : (flat l).Nodup) {i : Nat} {x : Int × Rv × Int} (hx : l[i]? = some x) :
    ∃ m1 m2, (fellP 40 x.1).go m = (some (flat (l.drop i), 0), m1) ∧ (fellP 40 x.1).go m1 = (some ([x.1, x.2.2], 0), m2) ∧ Felled m m2 l (i + 1) ∧ m1.count ≤ m.count + 120 := by
  have hi := (List.getElem?_eq_some_iff.1 hx).1
  obtain ⟨h', d1, d2, -, -⟩ := hc.drop i
  obtain ⟨x', hx', rfl, hx0, hxl⟩ := d2 hi
  rw [hx] at hx'
  cases hx'
  have hdl := List.length_drop (i := i) (l := l)
  have hne : l.drop i ≠ [] := by rw [drop_cons hx]; simp
  have hpn : (prevs (l.drop i)).Nodup := prevs_nodup (by rw [flat_drop]; exact (List.drop_sublist _ _).nodup hnd)
  obtain ⟨m1, e1, s1⟩ := fell_go (n := 40) d1 hne (by omega) hpn (by omega)
  have hp : m1.look x.2.2 = some (.word 0) := by rw [s1.look, if_pos (by rw [drop_cons hx]; simp [prevs])]
  have ha := hc.set_ages s1.look
  have c1 : Ch m1 x.1 [x] := Ch.one rfl hx0 (ha x (List.mem_of_getElem? hx)) hp
  obtain ⟨m2, e2, s2⟩ := fell_go (n := 40) c1 (by simp) (by simp) (by simp [prevs]) (by simp)
  have hs : ∀ k, m2.look k = if k ∈ prevs (l.drop i) then some (.word 0) else m.look k := fun k => by
    rw [s2.look]
    by_cases hk : k ∈ prevs [x]
    · rw [if_pos hk, if_pos]
      rw [drop_cons hx]
      simp only [prevs, List.map_cons, List.map_nil, List.mem_cons, List.not_mem_nil, or_false] at hk ⊢
      exact .inl hk
    · rw [if_neg hk, s1.look]
  have n1 := s1.cnt
  have n2 := s2.cnt
  have n3 := s1.mono
  have n4 := s2.mono
  simp only [List.length_cons, List.length_nil] at n2
  refine ⟨m1, m2, e1, e2, ⟨by rw [← hc.top]; exact hc.cut i hnd hs hi, fun k hk => ?_, hc.set_ages hs, by omega, by omega⟩, by omega⟩
  rw [hs, if_neg (fun e => hk (prevs_flat (prevs_drop e)))]
theorem cut2_go {l : List (Int × Rv × Int)} {h hd v : Int} {m : M} (hc : Ch m h l) (hw : m.look hd = some (.word h)) (hhd : hd ∉ flat l) (h0 : l ≠ []) (hlen : l.length ≤ 40) (hnd : (flat l).Nodup) :
    ∃ (n : Nat) (m1 m2 : M), leftOf v (l.map fun x => x.2.1.ver) = (n : Int) ∧ 1 ≤ n ∧ n ≤ l.length ∧ (cutP 40 hd v).go m = (some (flat (l.drop n), 0), m1) ∧ (cutP 40 hd v).go m1 = (some ([], 0), m2) ∧ Felled m m2 l n ∧ m1.count ≤ m.count + 210 ∧ m2.count ≤ m.count + 410 := by
  obtain ⟨m1, e1, s1⟩ := cut_go (v := v) (n := 40) hw hc h0 hlen (prevs_nodup hnd) (by omega)
  have hw1 : m1.look hd = some (.word h) := by
    rw [s1.look, if_neg, hw]
    intro e
    obtain ⟨p, hp⟩ := (tail_sub (v := v) l).2
    refine hhd (prevs_flat (k := hd) (l := l) ?_)
    rw [hp]
    simp only [prevs, List.map_append, List.mem_append]
    exact .inr e
  have n1 := s1.cnt
  have n3 := s1.mono
  have hl1 : 1 ≤ l.length := List.length_pos_iff.2 h0
  rcases tail_pos v l with ⟨p1, p2⟩ | ⟨i, x, p0, p1, p2, p3⟩
  · rw [p2] at e1 s1
    have hs : ∀ k, m1.look k = m.look k := fun k => by rw [s1.look]; simp [prevs]
    have c1 : Ch m1 h l := hc.mono fun x _ => ⟨hs _, hs _⟩
    obtain ⟨m2, e2, s2⟩ := cut_go (v := v) (n := 40) hw1 c1 h0 hlen (prevs_nodup hnd) (by omega)
    rw [p2] at e2 s2
    have hs2 : ∀ k, m2.look k = m.look k := fun k => by rw [s2.look]; simp [prevs, hs]
    have n2 := s2.cnt
    have n4 := s2.mono
    refine ⟨l.length, m1, m2, by rw [leftOf, p1, if_pos (by omega), List.length_map], hl1, Nat.le_refl _, by rw [e1, List.drop_length]; rfl, e2, ⟨?_, fun k _ => hs2 k, fun x hx => by rw [hs2]; exact (hc.age x hx).1, by omega, by omega⟩, by omega, by omega⟩
    rw [List.take_length, ← hc.top]
    exact hc.mono fun x _ => ⟨hs2 _, hs2 _⟩
  · have hi := (List.getElem?_eq_some_iff.1 p0).1
    rw [p2] at e1 s1
    have c1 : Ch m1 h (l.take (i + 1)) := hc.cut i hnd s1.look hi
    have ht0 : l.take (i + 1) ≠ [] := fun e => by have := congrArg List.length e; rw [List.length_take, List.length_nil] at this; omega
    have htl := List.length_take (i := i + 1) (l := l)
    have hnd1 : (flat (l.take (i + 1))).Nodup := by
      have : flat (l.take (i + 1) ++ l.drop (i + 1)) = flat (l.take (i + 1)) ++ flat (l.drop (i + 1)) := List.flatMap_append
      rw [List.take_append_drop] at this
      rw [this] at hnd
      exact (List.nodup_append.1 hnd).1
    obtain ⟨m2, e2, s2⟩ := cut_go (v := v) (n := 40) hw1 c1 ht0 (by omega) (prevs_nodup hnd1) (by omega)
    rw [p3] at e2 s2
    have hs : ∀ k, m2.look k = if k ∈ prevs (l.drop i) then some (.word 0) else m.look k := fun k => by
      rw [s2.look]
      by_cases hk : k ∈ prevs [x]
      · rw [if_pos hk, if_pos]
        rw [drop_cons p0]
        simp only [prevs, List.map_cons, List.map_nil, List.mem_cons, List.not_mem_nil, or_false] at hk ⊢
        exact .inl hk
      · rw [if_neg hk, s1.look]
    have n2 := s2.cnt
    have n4 := s2.mono
    refine ⟨i + 1, m1, m2, by rw [leftOf, p1, if_neg (by omega)]; push_cast; rfl, by omega, by omega, ?_, e2, ⟨by rw [← hc.top]; exact hc.cut i hnd hs hi, fun k hk => ?_, hc.set_ages hs, by omega, by omega⟩, by omega, by omega⟩
    · rw [e1, drop_cons p0]; rfl
    · rw [hs, if_neg (fun e => hk (prevs_flat (prevs_drop e)))]
theorem Felled.asked {m m2 m3 : M} {l : List (Int × Rv × Int)} {n : Nat} {k : Int} (h : Felled m m2 l n) (ha : AskN m2 m3 k) (hk : m3.count ≤ m.count + 500) : Felled m m3 l n :=
  ⟨h.ch.asked ha, fun j hj => (ha.look j).trans (h.same j hj), fun x hx => (ha.look _).trans (h.ages x hx), Int.le_trans h.cnt.1 ha.mono, hk⟩
end Go.Proofs.YtbcpdkmbbgcfbaaDoor
