/- What the law's lay makes of memory, node by node, from the last one on: ghosts. No condition. -/
import Derived.Test.YtibimnibmengpaaDoorTm
namespace Go.Proofs.YtibimnibmengpaaDoor
open Go.RowKit Go.Op
set_option maxRecDepth 100000

theorem toHs_toN (lv : Int) : ∀ l : List Nod, toHs lv (l.map fun x => (x.links.length : Int)) (l.map Nod.h) = toN lv l
  | [] => rfl
  | x :: l => by rw [List.map_cons, List.map_cons, toHs, toN, toHs_toN lv l]
/-- The span, and the revision, of a place of a row. -/
def spOf (lows : List ByteArray) (i : Nat) : Kp := if i + 1 < lows.length then ⟨lows.getD i ⟨#[]⟩, lows.getD (i + 1) ⟨#[]⟩, false⟩ else ⟨lows.getD i ⟨#[]⟩, ⟨#[]⟩, true⟩
def revOf (lows : List ByteArray) (i : Nat) : Rv := newR (3 + (i : Int)) (spOf lows i)
/-- Whether data are a node's. -/
def Dat.isNode : Dat → Bool
  | .node _ _ _ => true
  | .age _ _ => false
/-- The nodes from a place of a row on. -/
structure Suf (m : M) (lows : List ByteArray) (hts : List Int) (i : Nat) (l : List Nod) : Prop where
  len : l.length + i = lows.length
  nod : ∀ (k : Nat) (x : Nod), l[k]? = some x → NodAt m x ∧ lows[i + k]? = some x.nd.low ∧ hts[i + k]? = some (x.links.length : Int) ∧ x.rv = revOf lows (i + k) ∧ x.links = (List.range x.links.length).map fun (q : Nat) => tword (toN (q : Int) (l.drop (k + 1))) (9 + (q : Int))
  tidy : Tidy 0 m
  live : m.live ≤ 12 * (l.length : Int)
  size : m.cells.length = 2000
  cnt : m.count ≤ 12 * (l.length : Int)
  only : ∀ (k : Int) (d : Dat) (pl : Pl), m.look k = some (.blk d pl) → d.isNode = true → ∃ x, x ∈ l ∧ x.h = k
theorem new_look (n : Nat) (k : Int) : (M.new n).look k = none := by
  cases hl : (M.new n).look k with
  | none => rfl
  | some x =>
    obtain ⟨p, y, -, h2, h3, h4, -⟩ := look_some hl
    simp only [M.new, List.getElem?_replicate] at h3
    split at h3
    · cases h3
      simp [Held.busy] at h4
    · cases h3
theorem Suf.start (lows : List ByteArray) (hts : List Int) : Suf (M.new 2000) lows hts lows.length [] :=
  ⟨by simp, fun k x hx => by simp at hx, new_tidy 2000, by show (0 : Int) ≤ _; simp, by simp [M.new], by show (0 : Int) ≤ _; simp, fun k d pl hk => by rw [new_look] at hk; cases hk⟩
/-- One more node ahead of them. -/
theorem Suf.step {m : M} {lows : List ByteArray} {hts : List Int} {i : Nat} {l : List Nod} (h : Suf m lows hts (i + 1) l) (hn : lows.length ≤ 50) {low : ByteArray} {N : Nat} (hlow : lows[i]? = some low) (hN : hts[i]? = some (N : Int)) (hN8 : N ≤ 8) :
    ∃ ag m1 x m2, (layP (revOf lows i) 0).go m = ((ag, 0), m1) ∧ (makeP low ag ((List.range N).map fun (q : Nat) => tword (toN (q : Int) l) (9 + (q : Int)))).go m1 = ((x.h, 0), m2) ∧ Suf m2 lows hts i (x :: l) ∧ m1.count ≤ m.count + 2 := by
  have hlen := h.len
  have hl50 : l.length ≤ 50 := by omega
  have hlive := h.live
  obtain ⟨ag, cs, m1, e1, L1⟩ := layW_yes (ageOf (revOf lows i)) [0] [] h.tidy (by decide) (by rw [h.size]; simp only [List.length_cons, List.length_nil]; omega) (by rw [h.size]; decide)
  have hcl := L1.len
  match cs, hcl, L1, e1 with
  | [], hcl, _, _ => simp at hcl
  | _ :: _ :: _, hcl, _, _ => simp at hcl
  | [pv], hcl, L1, e1 =>
  obtain ⟨ks, hks⟩ : ∃ ks : List Int, ks = (List.range N).map fun (q : Nat) => tword (toN (q : Int) l) (9 + (q : Int)) := ⟨_, rfl⟩
  have hkl : ks.length = N := by rw [hks]; simp
  have l1live : m1.live ≤ 12 * (l.length : Int) + 2 := by rw [L1.live]; simp only [List.length_cons, List.length_nil]; omega
  obtain ⟨hh, cs2, m2, e2, L2⟩ := layW_yes (nodeOf low) (ag :: ks) [] L1.tidy (by decide) (by rw [L1.size, h.size]; simp only [List.length_cons]; omega) (by rw [L1.size, h.size]; decide)
  have hcl2 := L2.len
  match cs2, hcl2, L2, e2 with
  | [], hcl2, _, _ => simp at hcl2
  | hd :: nx, hcl2, L2, e2 =>
  have hnl : nx.length = ks.length := by simp only [List.length_cons] at hcl2; omega
  have lage1 : m1.look ag = some (.blk (.age (revOf lows i) pv) .nil) := L1.at_
  have lpv1 : m1.look pv = some (.word 0) := L1.words 0 pv 0 rfl rfl
  have old1 : ∀ k, m.look k ≠ none → m1.look k = m.look k := fun k hk => L1.other k fun e => hk (L1.free k e)
  have old2 : ∀ k, m1.look k ≠ none → m2.look k = m1.look k := fun k hk => L2.other k fun e => hk (L2.free k e)
  have old : ∀ k, m.look k ≠ none → m2.look k = m.look k := fun k hk => (old2 k (by rw [old1 k hk]; exact hk)).trans (old1 k hk)
  have hat : NodAt m2 ⟨hh, ⟨low, hd, nx⟩, ks, ag, pv, revOf lows i⟩ := by
    refine ⟨L2.at_, L2.words 0 hd ag rfl rfl, hnl, fun k c y hc hy => L2.words (k + 1) c y (by simpa using hc) (by simpa using hy), (old2 ag (by rw [lage1]; simp)).trans lage1, (old2 pv (by rw [lpv1]; simp)).trans lpv1, L1.nz, ?_, by show ks.length ≤ 1000; omega⟩
    show (3 + (i : Int)) ≤ 1000000
    have := (List.getElem?_eq_some_iff.1 hlow).1
    omega
  refine ⟨ag, m1, ⟨hh, ⟨low, hd, nx⟩, ks, ag, pv, revOf lows i⟩, m2, e1, by rw [← hks]; exact e2, ⟨by simp only [List.length_cons]; omega, fun k x hx => ?_, L2.tidy, ?_, by rw [L2.size, L1.size, h.size], ?_, fun k d pl hk hd2 => ?_⟩, by rw [L1.cnt]; simp only [List.length_cons, List.length_nil]; omega⟩
  · cases k with
    | zero =>
      simp at hx
      subst hx
      exact ⟨hat, by rw [Nat.add_zero]; exact hlow, by rw [Nat.add_zero]; show _ = some ((ks.length : Nat) : Int); rw [hkl]; exact hN, by rw [Nat.add_zero], by show ks = (List.range ks.length).map _; rw [hkl]; exact hks⟩
    | succ k =>
      obtain ⟨q1, q2, q3, q4, q5⟩ := h.nod k x (by simpa using hx)
      rw [show i + 1 + k = i + (k + 1) by omega] at q2 q3 q4
      exact ⟨q1.mono old, q2, q3, q4, q5⟩
  · rw [L2.live]; simp only [List.length_cons]; omega
  · rw [L2.cnt, L1.cnt]
    have := h.cnt
    simp only [List.length_cons, List.length_nil]; omega
  · by_cases e1 : k = hh
    · exact ⟨_, List.mem_cons_self, e1.symm⟩
    by_cases e2 : k ∈ hd :: nx
    · obtain ⟨i, hi, e3⟩ := List.mem_iff_getElem.1 e2
      have hlw : i < (ag :: ks).length := by have := L2.len; omega
      have := L2.words i k _ (by rw [List.getElem?_eq_getElem hi, e3]) (List.getElem?_eq_getElem hlw)
      rw [this] at hk
      cases hk
    have hk1 : m1.look k = some (.blk d pl) := by
      rw [← L2.other k (by simp only [List.mem_cons, not_or] at e2 ⊢; exact ⟨e1, e2⟩)]; exact hk
    by_cases e3 : k = ag
    · rw [e3, lage1] at hk1
      cases hk1
      cases hd2
    by_cases e4 : k = pv
    · rw [e4, lpv1] at hk1
      cases hk1
    have hk0 : m.look k = some (.blk d pl) := by
      rw [← L1.other k (by simp only [List.mem_cons, not_or, List.not_mem_nil, or_false]; exact ⟨e3, e4⟩)]; exact hk1
    obtain ⟨x, hx, e5⟩ := h.only k d pl hk0 hd2
    exact ⟨x, List.mem_cons_of_mem _ hx, e5⟩
/-- The whole row is right. -/
theorem Suf.ok {m : M} {lows : List ByteArray} {hts : List Int} {l : List Nod} (h : Suf m lows hts 0 l) (hp : ∀ x, x ∈ hts → 0 < x ∧ x ≤ 100) : RowOk m l := by
  refine ⟨fun x hx => ?_, fun i x k y hx hy => ?_, fun x hx e => ?_⟩
  · obtain ⟨k, hk, rfl⟩ := List.mem_iff_getElem.1 hx
    exact (h.nod k _ (List.getElem?_eq_getElem hk)).1
  · obtain ⟨q1, -, q3, -, q5⟩ := h.nod i x hx
    have hk := (List.getElem?_eq_some_iff.1 hy).1
    have hkn := (hp _ (List.mem_of_getElem? q3)).2
    have hye : y = tword (toN (k : Int) (l.drop (i + 1))) (9 + (k : Int)) := by
      rw [q5] at hy
      rw [List.getElem?_map, List.getElem?_range hk] at hy
      simpa using hy.symm
    rw [hye]
    refine tto_word ?_ (by omega) (by omega)
    rcases toN_spec (k : Int) (l.drop (i + 1)) with ⟨h1, -⟩ | ⟨j, z, h1, -, h3, -⟩
    · exact .inl h1
    · right
      rw [h3]
      rw [List.getElem?_drop] at h1
      exact (h.nod _ z h1).1.isH
  · obtain ⟨k, hk, rfl⟩ := List.mem_iff_getElem.1 hx
    obtain ⟨-, -, q3, -⟩ := h.nod k _ (List.getElem?_eq_getElem hk)
    have := (hp _ (List.mem_of_getElem? q3)).1
    rw [e] at this
    simp at this
end Go.Proofs.YtibimnibmengpaaDoor
