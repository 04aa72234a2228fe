/- What freeing cells, and asking for words of 0, make of memory; Init of a register where nobody else asks. Conditions: generations are below 16001. -/
import Derived.Test.YtgjkkbgdkdipgaaDoorRgF
import Derived.Test.YtgjkkbgdkdipgaaDoorLk
namespace Go.Proofs.YtgjkkbgdkdipgaaDoor
open Go.RowKit Go.Op
set_option maxRecDepth 100000

theorem alloc_no {g : Int} {m : M} (ht : Tidy g m) (hl : m.live = (m.cells.length : Int)) (x : Held) : m.alloc x = (m.ask, 0, 3) := by
  unfold M.alloc M.take
  have : m.ask.cells[m.ask.least]? = none := by
    cases h : m.ask.cells[m.ask.least]? with
    | none => rfl
    | some y =>
      have hc := (can_is (least_can h)).1
      have hy : y ∈ m.cells := List.mem_of_getElem? h
      have h1 := ht.liv
      have h2 : (m.cells.countP fun x => x.held.busy) = m.cells.length := by omega
      have h3 := List.countP_eq_length.1 h2 y hy
      rw [hc] at h3
      cases h3
  rw [this]
theorem free_go : ∀ (l : List Int) {g : Int} {m : M}, Tidy g m → l.Nodup → (∀ h ∈ l, ∃ x, m.look h = some x) →
    ∃ m', (freeP l).go m = ((), m') ∧ Tidy (g + l.length) m' ∧ m'.live = m.live - l.length ∧ m'.cells.length = m.cells.length ∧ (∀ h, m'.look h = if h ∈ l then none else m.look h) ∧ m'.count = m.count + l.length
  | [], g, m, ht, _, _ => ⟨m, rfl, by simpa using ht, by simp, rfl, fun h => by simp, by simp⟩
  | k :: l, g, m, ht, hn, hl => by
    obtain ⟨x, hx⟩ := hl k (List.mem_cons_self ..)
    obtain ⟨m1, e1, k1, t1, l1, c1, n1⟩ := free_yes ht hx
    have hnd := List.nodup_cons.1 hn
    obtain ⟨m2, e2, t2, l2, c2, k2, n2⟩ := free_go l t1 hnd.2 (fun h hh => by
      rw [k1, if_neg (fun e => hnd.1 (by rw [← e]; exact hh))]
      exact hl h (List.mem_cons_of_mem _ hh))
    refine ⟨m2, ?_, ?_, by rw [l2, l1]; simp; omega, by rw [c2, c1], fun h => ?_, by rw [n2, n1]; simp; omega⟩
    · show (freeP l).go (m.free k).1 = _
      rw [e1]; exact e2
    · have : g + 1 + (l.length : Int) = g + ((k :: l).length : Int) := by simp; omega
      rw [← this]; exact t2
    · rw [k2, k1]
      by_cases e : h = k
      · subst e; simp
      · simp [e]
theorem zeros_go : ∀ (k : Nat) (l : List Int) {g : Int} {m : M}, Tidy g m → g ≤ 16000 → m.cells.length ≤ 65535 → m.live + k ≤ (m.cells.length : Int) →
    ∃ l' m', (zerosP k l).go m = ((l ++ l', 0), m') ∧ l'.length = k ∧ Tidy g m' ∧ m'.live = m.live + k ∧ m'.cells.length = m.cells.length ∧ (∀ h ∈ l', m.look h = none) ∧ l'.Nodup ∧ (∀ h, m'.look h = if h ∈ l' then some (.word 0) else m.look h) ∧ m'.count = m.count + k
  | 0, l, g, m, ht, _, _, _ => ⟨[], m, by simp [zerosP, Pr.go], rfl, ht, by simp, rfl, fun h hh => (by cases hh), List.nodup_nil, fun h => by simp, by simp⟩
  | k + 1, l, g, m, ht, hg, hlen, hroom => by
    obtain ⟨m1, h, e1, n1, k1, t1, l1, c1, q1, -⟩ := alloc_yes ht hg (by push_cast at hroom; omega) hlen (.word 0) rfl
    obtain ⟨l', m2, e2, le2, t2, l2, c2, n2, nd2, k2, q2⟩ := zeros_go k (l ++ [h]) t1 hg (by rw [c1]; exact hlen) (by rw [l1, c1]; push_cast at hroom; omega)
    have hnh : h ∉ l' := fun hh => by have := n2 h hh; rw [k1, if_pos rfl] at this; cases this
    refine ⟨h :: l', m2, ?_, by simp [le2], t2, by rw [l2, l1]; push_cast; omega, by rw [c2, c1], fun x hx => ?_, List.nodup_cons.2 ⟨hnh, nd2⟩, fun x => ?_, by rw [q2, q1]; push_cast; omega⟩
    · show (if (m.alloc (.word 0)).2.2 = 0 then zerosP k (l ++ [(m.alloc (.word 0)).2.1]) else _).go (m.alloc (.word 0)).1 = _
      rw [e1]
      simp only [if_true]
      rw [e2]; simp
    · rcases List.mem_cons.1 hx with e | e
      · rw [e]; exact n1
      · have h1 := n2 x e
        rw [k1] at h1
        split at h1
        · cases h1
        · exact h1
    · rw [k2, k1]
      by_cases e : x = h
      · subst e; simp
      · simp [e]
theorem zeros_no : ∀ (k : Nat) (l : List Int) {g : Int} {m : M}, Tidy g m → g ≤ 16000 → m.cells.length ≤ 65535 → m.live ≤ (m.cells.length : Int) → (m.cells.length : Int) < m.live + k → l.Nodup → (∀ h ∈ l, ∃ x, m.look h = some x) →
    ∃ m' g', (zerosP k l).go m = (([], 3), m') ∧ Tidy g' m' ∧ m'.live = m.live - l.length ∧ m'.cells.length = m.cells.length ∧ (∀ h, m'.look h = if h ∈ l then none else m.look h) ∧ m'.count ≤ m.count + 2 * k + l.length
  | 0, l, g, m, ht, _, _, h1, h2, _, _ => by exfalso; simp at h2; omega
  | k + 1, l, g, m, ht, hg, hlen, h1, h2, hn, hl => by
    by_cases hfull : m.live = (m.cells.length : Int)
    · have e1 := alloc_no ht hfull (.word 0)
      obtain ⟨m2, e2, t2, l2, c2, k2, q2⟩ := free_go l ht.ask hn (fun h hh => by rw [look_ask]; exact hl h hh)
      refine ⟨m2, _, ?_, t2, by rw [l2]; rfl, by rw [c2]; rfl, fun h => by rw [k2, look_ask], by rw [q2]; simp [M.ask]; omega⟩
      show (if (m.alloc (.word 0)).2.2 = 0 then zerosP k (l ++ [(m.alloc (.word 0)).2.1]) else (freeP l).bind fun _ => .ret ([], (m.alloc (.word 0)).2.2)).go (m.alloc (.word 0)).1 = _
      rw [e1]
      simp only
      rw [if_neg (by decide), Pr.go_bind, e2]
      rfl
    · obtain ⟨m1, h, e1, n1, k1, t1, l1, c1, q1, -⟩ := alloc_yes ht hg (by omega) hlen (.word 0) rfl
      have hnh : h ∉ l := fun hh => by obtain ⟨x, hx⟩ := hl h hh; rw [n1] at hx; cases hx
      obtain ⟨m2, g2, e2, t2, l2, c2, k2, q2⟩ := zeros_no k (l ++ [h]) t1 hg (by rw [c1]; exact hlen) (by rw [l1, c1]; omega) (by rw [l1, c1]; push_cast at h2; omega)
        (List.nodup_append.2 ⟨hn, by simp, fun a ha b hb => by simp at hb; subst hb; exact fun e => hnh (e ▸ ha)⟩) (fun x hx => by
          rw [k1]
          split
          · exact ⟨_, rfl⟩
          · rename_i hne
            rcases List.mem_append.1 hx with e | e
            · exact hl x e
            · simp at e; exact absurd e hne)
      refine ⟨m2, g2, ?_, t2, by rw [l2, l1]; simp; omega, by rw [c2, c1], fun x => ?_, by rw [q1] at q2; simp at q2; push_cast; omega⟩
      · show (if (m.alloc (.word 0)).2.2 = 0 then zerosP k (l ++ [(m.alloc (.word 0)).2.1]) else (freeP l).bind fun _ => .ret ([], (m.alloc (.word 0)).2.2)).go (m.alloc (.word 0)).1 = _
        rw [e1]
        simp only [if_true]
        exact e2
      · rw [k2, k1]
        by_cases e : x = h
        · subst e
          rw [if_pos (by simp), if_neg hnh, n1]
        · by_cases e2 : x ∈ l
          · rw [if_pos (by simp [e2]), if_pos e2]
          · rw [if_neg (by simp [e2, e]), if_neg e2, if_neg e]
/-- Init, where there is room. -/
theorem init_yes (a b : Nat) (ha : 1 ≤ a ∧ a ≤ 64) (hb : b ≤ 64) {g : Int} {m : M} (ht : Tidy g m) (hg : g ≤ 16000) (hlen : m.cells.length ≤ 65535) (hroom : m.live + a + b ≤ (m.cells.length : Int)) :
    ∃ S P m', (initRP a b).go m = ((S, P, 0), m') ∧ S.length = a ∧ P.length = b ∧ Tidy g m' ∧ m'.live = m.live + a + b ∧ m'.cells.length = m.cells.length ∧ (∀ h ∈ S ++ P, m.look h = none) ∧ (S ++ P).Nodup ∧ (∀ h, m'.look h = if h ∈ S ++ P then some (.word 0) else m.look h) ∧ m'.count = m.count + a + b := by
  obtain ⟨S, m1, e1, s1, t1, l1, c1, n1, d1, k1, q1⟩ := zeros_go a [] ht hg hlen (by omega)
  obtain ⟨P, m2, e2, s2, t2, l2, c2, n2, d2, k2, q2⟩ := zeros_go b [] t1 hg (by rw [c1]; exact hlen) (by rw [l1, c1]; omega)
  have hnp : ∀ x, x ∈ P → x ∉ S ∧ m.look x = none := fun x hx => by
    have h1 := n2 x hx
    rw [k1] at h1
    split at h1
    · cases h1
    · rename_i h2; exact ⟨h2, h1⟩
  refine ⟨S, P, m2, ?_, s1, s2, t2, by rw [l2, l1], by rw [c2, c1], fun h hh => ?_, List.nodup_append.2 ⟨d1, d2, fun x hx y hy e => (hnp y hy).1 (e ▸ hx)⟩, fun h => ?_, by rw [q2, q1]⟩
  · unfold initRP
    rw [if_neg (by omega), Pr.go_bind]
    simp only [Int.toNat_natCast]
    rw [e1]
    simp only [List.nil_append, if_true]
    rw [Pr.go_bind, e2]
    simp only [List.nil_append, if_true]
    rfl
  · rcases List.mem_append.1 hh with e | e
    · exact n1 h e
    · exact (hnp h e).2
  · rw [k2, k1]
    by_cases e1 : h ∈ P
    · rw [if_pos e1, if_pos (List.mem_append.2 (.inr e1))]
    · rw [if_neg e1]
      by_cases e2 : h ∈ S
      · rw [if_pos e2, if_pos (List.mem_append.2 (.inl e2))]
      · rw [if_neg e2, if_neg (fun e => (List.mem_append.1 e).elim e2 e1)]
/-- Init, where there is no room. -/
theorem init_no (a b : Nat) (ha : 1 ≤ a ∧ a ≤ 64) (hb : b ≤ 64) {g : Int} {m : M} (ht : Tidy g m) (hg : g ≤ 16000) (hlen : m.cells.length ≤ 65535) (h1 : m.live ≤ (m.cells.length : Int)) (hroom : (m.cells.length : Int) < m.live + a + b) :
    ∃ m', (initRP a b).go m = (([], [], 3), m') ∧ m'.live = m.live ∧ m'.cells.length = m.cells.length ∧ m'.count ≤ m.count + 400 := by
  by_cases hA : (m.cells.length : Int) < m.live + a
  · obtain ⟨m1, g1, e1, t1, l1, c1, k1, q1⟩ := zeros_no a [] ht hg hlen h1 hA List.nodup_nil (fun h hh => (by cases hh))
    refine ⟨m1, ?_, by simpa using l1, c1, by simp at q1; omega⟩
    unfold initRP
    rw [if_neg (by omega), Pr.go_bind]
    simp only [Int.toNat_natCast]
    rw [e1]
    rfl
  · obtain ⟨S, m1, e1, s1, t1, l1, c1, n1, d1, k1, q1⟩ := zeros_go a [] ht hg hlen (by omega)
    obtain ⟨m2, g2, e2, t2, l2, c2, k2, q2⟩ := zeros_no b [] t1 hg (by rw [c1]; exact hlen) (by rw [l1, c1]; omega) (by rw [l1, c1]; omega) List.nodup_nil (fun h hh => (by cases hh))
    obtain ⟨m3, e3, t3, l3, c3, k3, q3⟩ := free_go S t2 d1 (fun h hh => by
      rw [k2, if_neg (by simp), k1, if_pos hh]; exact ⟨_, rfl⟩)
    refine ⟨m3, ?_, by rw [l3, l2, l1, s1]; simp, by rw [c3, c2, c1], by rw [q3, s1]; simp at q2; omega⟩
    unfold initRP
    rw [if_neg (by omega), Pr.go_bind]
    simp only [Int.toNat_natCast]
    rw [e1]
    simp only [List.nil_append, if_true]
    rw [Pr.go_bind, e2]
    simp only
    rw [if_neg (by decide), Pr.go_bind, e3]
    rfl
end Go.Proofs.YtgjkkbgdkdipgaaDoor
/- A register in memory, as lists; what its calls come to where nobody else asks. Conditions: generations are below 16001. -/
namespace Go.Proofs.YtgjkkbgdkdipgaaDoor
open Go.RowKit Go.Op
set_option maxRecDepth 100000

inductive Who where
  | no
  | top
  | st
  | slot (i : Nat)
  | place (i : Nat)
/-- The word of a place: its generation, the version of the open snapshot, or -1. -/
def pw (b : Int × Int) : Int := b.1 * 4294967296 + b.2 + 1
theorem pw_low {b : Int × Int} (h : -1 ≤ b.2 ∧ b.2 ≤ 1073741824) : lowW (pw b) = b.2 + 1 := by unfold lowW pw; omega
theorem pw_gen {b : Int × Int} (h : -1 ≤ b.2 ∧ b.2 ≤ 1073741824) : genW (pw b) = b.1 := by unfold genW pw; omega
/-- Which handles a register has, and what they lead to. -/
structure RL (m : M) (top : Int) (S P : List Int) (V : Int) (A : List Int) (B : List (Int × Int)) (d st bf : Int) (ow : Int → Who) : Prop where
  lt : m.look top = some (.word d)
  ld : m.look d = some (.desc ⟨V, bf, st, [], none, 0, 0⟩)
  ls : m.look st = some (.word 1)
  ot : ow top = .top
  os : ow st = .st
  s : ∀ (i : Nat) (h : Int), S[i]? = some h → ow h = .slot i ∧ ∃ a, A[i]? = some a ∧ m.look h = some (.word (a + 1))
  p : ∀ (i : Nat) (h : Int), P[i]? = some h → ow h = .place i ∧ ∃ b, B[i]? = some b ∧ m.look h = some (.word (pw b))
structure RM (g : Int) (m : M) (top : Int) (S P : List Int) (V : Int) (A : List Int) (B : List (Int × Int)) : Prop where
  tidy : Tidy g m
  len : m.cells.length = 200
  live : m.live = S.length + P.length + 3
  al : A.length = S.length
  bl : B.length = P.length
  sf : S.length ≤ 64
  pf : P.length ≤ 64
  av : ∀ a ∈ A, -1 ≤ a ∧ a ≤ 1073741824
  bv : ∀ b ∈ B, 0 ≤ b.1 ∧ b.1 ≤ g ∧ -1 ≤ b.2 ∧ b.2 ≤ 1073741824
  lk : ∃ d st bf ow, RL m top S P V A B d st bf ow
theorem drop_atB {l : List (Int × Int)} {i : Nat} (h : i < l.length) : ∃ x, l[i]? = some x ∧ l.drop i = x :: l.drop (i + 1) :=
  ⟨l[i], List.getElem?_eq_getElem h, List.drop_eq_getElem_cons h⟩
section
variable {g : Int} {m m' : M} {top : Int} {S P : List Int} {V : Int} {A : List Int} {B : List (Int × Int)}
theorem RL.same {d st bf : Int} {ow : Int → Who} (h : RL m top S P V A B d st bf ow) (hl : ∀ k, m'.look k = m.look k) : RL m' top S P V A B d st bf ow :=
  ⟨by rw [hl]; exact h.lt, by rw [hl]; exact h.ld, by rw [hl]; exact h.ls, h.ot, h.os, fun i k hk => by rw [hl]; exact h.s i k hk, fun i k hk => by rw [hl]; exact h.p i k hk⟩
theorem RM.ask (h : RM g m top S P V A B) : RM g m.ask top S P V A B := by
  obtain ⟨d, st, bf, ow, hl⟩ := h.lk
  exact ⟨h.tidy.ask, h.len, h.live, h.al, h.bl, h.sf, h.pf, h.av, h.bv, d, st, bf, ow, hl.same (look_ask m)⟩
theorem RM.version (h : RM g m top S P V A B) : (versionP top).go m = ((V, 0), m.ask.ask.ask) := by
  obtain ⟨d, st, bf, ow, hl⟩ := h.lk
  have e1 : (Qn.word top).on m = (m.ask, ⟨.no, d, false, 0⟩) := by
    show ((m.word top).1, (⟨_, (m.word top).2.1, _, (m.word top).2.2⟩ : An)) = _
    rw [look_word hl.lt]
  have e2 : (Qn.load d).on m.ask = (m.ask.ask, ⟨.desc ⟨V, bf, st, [], none, 0, 0⟩, 0, false, 0⟩) := by
    show ((m.ask.load d).1, (⟨(m.ask.load d).2.1, _, _, (m.ask.load d).2.2⟩ : An)) = _
    rw [look_load (d := ⟨V, bf, st, [], none, 0, 0⟩) (by rw [look_ask]; exact hl.ld)]
  have e3 : (Qn.word st).on m.ask.ask = (m.ask.ask.ask, ⟨.no, 1, false, 0⟩) := by
    show ((m.ask.ask.word st).1, (⟨_, (m.ask.ask.word st).2.1, _, (m.ask.ask.word st).2.2⟩ : An)) = _
    rw [look_word (n := 1) (by rw [look_ask, look_ask]; exact hl.ls)]
  unfold versionP lastP heldP heldR
  simp only [Pr.bind, Pr.go, e1, e2, e3, if_true, beq_self_eq_true]
/-- The least one that the slots of all but one tell. -/
def slotsF (k : Int) : Nat → Int → List Int → Int
  | _, lv, [] => lv
  | i, lv, a :: l => slotsF k (i + 1) (if (i : Int) = k then lv else if a < 0 then lv else min lv a) l
def snapsF : Int → List (Int × Int) → Int
  | lv, [] => lv
  | lv, b :: l => snapsF (if b.2 < 0 then lv else min lv b.2) l
theorem slotsF_min (k x : Int) : ∀ (l : List Int) (i : Nat) (y : Int), slotsF k i (min x y) l = min x (slotsF k i y l)
  | [], _, _ => rfl
  | a :: l, i, y => by
    unfold slotsF
    split
    · exact slotsF_min k x l _ _
    · split
      · exact slotsF_min k x l _ _
      · rw [show min (min x y) a = min x (min y a) by omega]
        exact slotsF_min k x l _ _
theorem snapsF_min (x : Int) : ∀ (l : List (Int × Int)) (y : Int), snapsF (min x y) l = min x (snapsF y l)
  | [], _ => rfl
  | b :: l, y => by
    unfold snapsF
    split
    · exact snapsF_min x l _
    · rw [show min (min x y) b.2 = min x (min y b.2) by omega]
      exact snapsF_min x l _
theorem slotsF_le (k : Int) (l : List Int) (i : Nat) (y : Int) : slotsF k i y l ≤ y := by
  have := slotsF_min k y l i y
  rw [show min y y = y by omega] at this
  omega
theorem snapsF_le (l : List (Int × Int)) (y : Int) : snapsF y l ≤ y := by
  have := snapsF_min y l y
  rw [show min y y = y by omega] at this
  omega
def oldF (k : Int) (A : List Int) : Int := slotsF k 0 1073741825 A
def leastF (k V : Int) (A : List Int) (B : List (Int × Int)) : Int := snapsF (min (oldF k A) V) B
theorem least_is (k V : Int) (hV : V ≤ 1073741825) (A : List Int) (B : List (Int × Int)) : slotsF k 0 (snapsF (slotsF k 0 V A) B) A = leastF k V A B := by
  unfold leastF oldF
  have e1 : slotsF k 0 V A = min V (slotsF k 0 1073741825 A) := by
    rw [← slotsF_min, show min V 1073741825 = V by omega]
  rw [e1, show min V (slotsF k 0 1073741825 A) = min (slotsF k 0 1073741825 A) V by omega]
  generalize hs : slotsF k 0 1073741825 A = s
  have h1 := snapsF_le B (min s V)
  generalize snapsF (min s V) B = q at *
  have h2 := slotsF_le k A 0 1073741825
  have e2 := slotsF_min k q A 0 1073741825
  rw [show min q 1073741825 = q by omega] at e2
  omega
theorem wrap_in {n : Int} (h : -9223372036854775808 ≤ n ∧ n < 9223372036854775808) : wrap64 n = n := by unfold wrap64; omega
theorem RM.slots (k : Int) : ∀ (j i : Nat) (lv : Int) {m : M}, RM g m top S P V A B → S.length = i + j → ∃ m', (slotsP k i lv (S.drop i)).go m = ((slotsF k i lv (A.drop i), 0), m') ∧ RM g m' top S P V A B ∧ m'.count ≤ m.count + j ∧ (∀ h, m'.look h = m.look h)
  | 0, i, lv, m, h, e => by
    have e1 : S.drop i = [] := List.drop_eq_nil_of_le (by omega)
    have e2 : A.drop i = [] := List.drop_eq_nil_of_le (by have := h.al; omega)
    rw [e1, e2]
    exact ⟨m, rfl, h, by simp, fun _ => rfl⟩
  | j + 1, i, lv, m, h, e => by
    obtain ⟨x, hx, ex⟩ := drop_at (l := S) (i := i) (by omega)
    obtain ⟨d, st, bf, ow, hl⟩ := h.lk
    obtain ⟨-, a, ha, hw⟩ := hl.s i x hx
    have ea : A.drop i = a :: A.drop (i + 1) := by
      obtain ⟨a', h1, h2⟩ := drop_at (l := A) (i := i) (by have := h.al; omega)
      rw [ha] at h1; cases h1; exact h2
    have hav := h.av a (List.mem_of_getElem? ha)
    rw [ex, ea, slotsP_cons]
    unfold slotsF
    by_cases hk : (i : Int) = k
    · rw [if_pos hk, if_pos hk]
      obtain ⟨m', q1, q2, q3, q4⟩ := RM.slots k j (i + 1) lv h (by omega)
      exact ⟨m', q1, q2, by push_cast; omega, q4⟩
    · rw [if_neg hk, if_neg hk]
      obtain ⟨m', q1, q2, q3, q4⟩ := RM.slots k j (i + 1) (if a < 0 then lv else min lv a) h.ask (by omega)
      refine ⟨m', ?_, q2, by simp only [M.ask] at q3; push_cast; omega, fun y => by rw [q4, look_ask]⟩
      rw [← q1]
      show ((if (m.word x).2.2 = 0 then slotsP k (i + 1) (if (m.word x).2.1 = 0 then lv else min lv (wrap64 ((m.word x).2.1 - 1))) (S.drop (i + 1)) else .ret (0, (m.word x).2.2))).go (m.word x).1 = _
      rw [look_word hw]
      simp only [if_true]
      have e3 : (if a + 1 = 0 then lv else min lv (wrap64 (a + 1 - 1))) = if a < 0 then lv else min lv a := by
        by_cases h0 : a < 0
        · rw [if_pos h0, if_pos (by omega)]
        · rw [if_neg h0, if_neg (by omega), wrap_in (by omega), show a + 1 - 1 = a by omega]
      rw [e3]
theorem RM.snaps : ∀ (j i : Nat) (lv : Int) {m : M}, RM g m top S P V A B → P.length = i + j → ∃ m', (snapsP lv (P.drop i)).go m = ((snapsF lv (B.drop i), 0), m') ∧ RM g m' top S P V A B ∧ m'.count ≤ m.count + j ∧ (∀ h, m'.look h = m.look h)
  | 0, i, lv, m, h, e => by
    have e1 : P.drop i = [] := List.drop_eq_nil_of_le (by omega)
    have e2 : B.drop i = [] := List.drop_eq_nil_of_le (by have := h.bl; omega)
    rw [e1, e2]
    exact ⟨m, rfl, h, by simp, fun _ => rfl⟩
  | j + 1, i, lv, m, h, e => by
    obtain ⟨x, hx, ex⟩ := drop_at (l := P) (i := i) (by omega)
    obtain ⟨d, st, bf, ow, hl⟩ := h.lk
    obtain ⟨-, a, ha, hw⟩ := hl.p i x hx
    have ea : B.drop i = a :: B.drop (i + 1) := by
      obtain ⟨a', h1, h2⟩ := drop_atB (l := B) (i := i) (by have := h.bl; omega)
      rw [ha] at h1; cases h1; exact h2
    obtain ⟨-, -, hav⟩ := h.bv a (List.mem_of_getElem? ha)
    rw [ex, ea, snapsP_cons]
    unfold snapsF
    obtain ⟨m', q1, q2, q3, q4⟩ := RM.snaps j (i + 1) (if a.2 < 0 then lv else min lv a.2) h.ask (by omega)
    refine ⟨m', ?_, q2, by simp only [M.ask] at q3; push_cast; omega, fun y => by rw [q4, look_ask]⟩
    rw [← q1]
    show ((if (m.word x).2.2 = 0 then snapsP (if lowW (m.word x).2.1 = 0 then lv else min lv (lowW (m.word x).2.1 - 1)) (P.drop (i + 1)) else .ret (0, (m.word x).2.2))).go (m.word x).1 = _
    rw [look_word hw]
    simp only [if_true]
    have e3 : (if lowW (pw a) = 0 then lv else min lv (lowW (pw a) - 1)) = if a.2 < 0 then lv else min lv a.2 := by
      rw [pw_low hav]
      by_cases h0 : a.2 < 0
      · rw [if_pos h0, if_pos (by omega)]
      · rw [if_neg h0, if_neg (by omega), show a.2 + 1 - 1 = a.2 by omega]
    rw [e3]
theorem RM.oldest (h : RM g m top S P V A B) (k : Int) : ∃ m', (slotsP k 0 1073741825 S).go m = ((oldF k A, 0), m') ∧ RM g m' top S P V A B ∧ m'.count ≤ m.count + 64 ∧ (∀ h, m'.look h = m.look h) := by
  obtain ⟨m', q1, q2, q3, q4⟩ := RM.slots k S.length 0 1073741825 h (by omega)
  exact ⟨m', q1, q2, by have := h.sf; omega, q4⟩
theorem RM.least (h : RM g m top S P V A B) (hV : V ≤ 1073741825) (k : Int) : ∃ m', (leastP top k S P).go m = ((leastF k V A B, 0), m') ∧ RM g m' top S P V A B ∧ m'.count ≤ m.count + 200 ∧ (∀ h, m'.look h = m.look h) := by
  obtain ⟨m1, a1, a2, a3, a4⟩ := RM.slots k S.length 0 V h.ask.ask.ask (by omega)
  obtain ⟨m2, b1, b2, b3, b4⟩ := RM.snaps P.length 0 (slotsF k 0 V A) a2 (by omega)
  obtain ⟨m3, c1, c2, c3, c4⟩ := RM.slots k S.length 0 (snapsF (slotsF k 0 V A) B) b2 (by omega)
  simp only [List.drop_zero] at a1 b1 c1
  refine ⟨m3, ?_, c2, by have := h.sf; have := h.pf; simp only [M.ask] at a3; omega, fun y => by rw [c4, b4, a4, look_ask, look_ask, look_ask]⟩
  unfold leastP
  rw [Pr.go_bind, h.version]
  simp only [if_true]
  rw [Pr.go_bind, a1]
  simp only [if_true]
  rw [Pr.go_bind, b1]
  simp only [if_true]
  rw [c1, least_is k V hV]
theorem getD_of {l : List Int} {i : Nat} {x : Int} (h : l[i]? = some x) : l.getD i 0 = x := by simp [List.getD, h]
/-- A slot is stored. -/
theorem RM.store (h : RM g m top S P V A B) {k : Nat} (hk : k < S.length) (a : Int) (ha : -1 ≤ a ∧ a ≤ 1073741824) : ∃ m', m.store (S.getD k 0) (a + 1) = (m', 0) ∧ RM g m' top S P V (A.set k a) B ∧ m'.count = m.count + 1 := by
  obtain ⟨d, st, bf, ow, hl⟩ := h.lk
  have hx : S[k]? = some S[k] := List.getElem?_eq_getElem hk
  obtain ⟨o1, a0, ha0, hw⟩ := hl.s k _ hx
  rw [getD_of hx]
  obtain ⟨m', e1, e2, e3, e4, e5, e6⟩ := store_yes (n := a + 1) hw
  refine ⟨m', e1, ⟨e3 g h.tidy, by rw [e5, h.len], by rw [e4, h.live], by rw [List.length_set, h.al], h.bl, h.sf, h.pf, fun x hx => ?_, h.bv, d, st, bf, ow, ?_⟩, e6⟩
  · rcases List.mem_or_eq_of_mem_set hx with e | e
    · exact h.av x e
    · rw [e]; exact ha
  · refine ⟨?_, ?_, ?_, hl.ot, hl.os, fun i x hi => ?_, fun i x hi => ?_⟩
    · rw [e2, if_neg]
      · exact hl.lt
      · intro e; rw [← e, hl.ot] at o1; cases o1
    · rw [e2, if_neg]
      · exact hl.ld
      · intro e; rw [← e, hl.ld] at hw; cases hw
    · rw [e2, if_neg]
      · exact hl.ls
      · intro e; rw [← e, hl.os] at o1; cases o1
    · obtain ⟨o2, a2, h2, h3⟩ := hl.s i x hi
      refine ⟨o2, ?_⟩
      by_cases e : i = k
      · subst e
        rw [hx] at hi; cases hi
        exact ⟨a, List.getElem?_set_self (by rw [h.al]; exact hk), by rw [e2, if_pos rfl]⟩
      · refine ⟨a2, by rw [List.getElem?_set_ne (fun e2 => e e2.symm)]; exact h2, ?_⟩
        rw [e2, if_neg]
        · exact h3
        · intro e3; rw [e3, o1] at o2; cases o2; exact e rfl
    · obtain ⟨o2, b2, h2, h3⟩ := hl.p i x hi
      refine ⟨o2, b2, h2, ?_⟩
      rw [e2, if_neg]
      · exact h3
      · intro e3; rw [e3, o1] at o2; cases o2
/-- A place is swapped. -/
theorem RM.swap (h : RM g m top S P V A B) {k : Nat} {p : Int} {b0 : Int × Int} (hp : P[k]? = some p) (hb : B[k]? = some b0) (b : Int × Int) (hv : 0 ≤ b.1 ∧ b.1 ≤ g + 1 ∧ -1 ≤ b.2 ∧ b.2 ≤ 1073741824) : ∃ m', m.swap p (pw b0) (pw b) = (m', true, 0) ∧ RM (g + 1) m' top S P V A (B.set k b) ∧ m'.count = m.count + 1 := by
  obtain ⟨d, st, bf, ow, hl⟩ := h.lk
  have hk : k < P.length := (List.getElem?_eq_some_iff.1 hp).1
  obtain ⟨o1, b1, hb1, hw⟩ := hl.p k _ hp
  rw [hb] at hb1; cases hb1
  obtain ⟨m', e1, e2, e3, e4, e5, e6⟩ := swap_yes (n := pw b) hw
  have ht := e3 g h.tidy
  refine ⟨m', e1, ⟨⟨fun i x hx => by have := ht.gen i x hx; omega, ht.liv⟩, by rw [e5, h.len], by rw [e4, h.live], h.al, by rw [List.length_set, h.bl], h.sf, h.pf, h.av, fun x hx => ?_, d, st, bf, ow, ?_⟩, e6⟩
  · rcases List.mem_or_eq_of_mem_set hx with e | e
    · have := h.bv x e; omega
    · rw [e]; exact hv
  · refine ⟨?_, ?_, ?_, hl.ot, hl.os, fun i x hi => ?_, fun i x hi => ?_⟩
    · rw [e2, if_neg]
      · exact hl.lt
      · intro e; rw [← e, hl.ot] at o1; cases o1
    · rw [e2, if_neg]
      · exact hl.ld
      · intro e; rw [← e, hl.ld] at hw; cases hw
    · rw [e2, if_neg]
      · exact hl.ls
      · intro e; rw [← e, hl.os] at o1; cases o1
    · obtain ⟨o2, a2, h2, h3⟩ := hl.s i x hi
      refine ⟨o2, a2, h2, ?_⟩
      rw [e2, if_neg]
      · exact h3
      · intro e3; rw [e3, o1] at o2; cases o2
    · obtain ⟨o2, b2, h2, h3⟩ := hl.p i x hi
      refine ⟨o2, ?_⟩
      by_cases e : i = k
      · subst e
        rw [hp] at hi; cases hi
        exact ⟨b, List.getElem?_set_self (by rw [h.bl]; exact hk), by rw [e2, if_pos rfl]⟩
      · refine ⟨b2, by rw [List.getElem?_set_ne (fun e2 => e e2.symm)]; exact h2, ?_⟩
        rw [e2, if_neg]
        · exact h3
        · intro e3; rw [e3, o1] at o2; cases o2; exact e rfl
theorem RM.more {g' : Int} (h : RM g m top S P V A B) (hg : g ≤ g') : RM g' m top S P V A B :=
  ⟨⟨fun i x hx => by have := h.tidy.gen i x hx; omega, h.tidy.liv⟩, h.len, h.live, h.al, h.bl, h.sf, h.pf, h.av, fun b hb => by have := h.bv b hb; omega, h.lk⟩
end
end Go.Proofs.YtgjkkbgdkdipgaaDoor
/- What entering, holding, leaving, opening, finding, closing, and another version make of a register where nobody else asks. Conditions: generations are below 15990. -/
namespace Go.Proofs.YtgjkkbgdkdipgaaDoor
open Go.RowKit Go.Op
set_option maxRecDepth 100000

theorem store_on {m m' : M} {h n : Int} (e : m.store h n = (m', 0)) : (Qn.store h n).on m = (m', ⟨.no, 0, false, 0⟩) := by
  show ((m.store h n).1, (⟨_, _, _, (m.store h n).2⟩ : An)) = _
  rw [e]
theorem swap_on {m m' : M} {h o n : Int} {ok : Bool} (e : m.swap h o n = (m', ok, 0)) : (Qn.swap h o n).on m = (m', ⟨.no, 0, ok, 0⟩) := by
  show ((m.swap h o n).1, (⟨_, _, (m.swap h o n).2.1, (m.swap h o n).2.2⟩ : An)) = _
  rw [e]
theorem word_on {m : M} {h n : Int} (e : m.look h = some (.word n)) : (Qn.word h).on m = (m.ask, ⟨.no, n, false, 0⟩) := by
  show ((m.word h).1, (⟨_, (m.word h).2.1, _, (m.word h).2.2⟩ : An)) = _
  rw [look_word e]
section
variable {g : Int} {m m' : M} {top : Int} {S P : List Int} {V : Int} {A : List Int} {B : List (Int × Int)}
theorem RM.enter (h : RM g m top S P V A B) (hV : 0 ≤ V ∧ V ≤ 1073741824) (k : Int) (hk : isC S k = true) : ∃ m', (enterP top k S).go m = ((V, 0), m') ∧ RM g m' top S P V (A.set k.toNat V) B ∧ m'.count ≤ m.count + 5 := by
  have hk2 : 0 ≤ k ∧ k < (S.length : Int) := of_decide_eq_true hk
  obtain ⟨m1, e1, h1, c1⟩ := h.store (k := k.toNat) (by omega) 0 (by omega)
  obtain ⟨m2, e2, h2, c2⟩ := h1.ask.ask.ask.store (k := k.toNat) (by omega) V (by omega)
  refine ⟨m2, ?_, ?_, by simp only [M.ask] at c2; omega⟩
  · unfold enterP
    rw [if_pos hk]
    have q1 := store_on e1
    have q2 := store_on e2
    rw [show (0 : Int) + 1 = 1 from rfl] at q1
    simp only [Pr.go, q1, if_true, Pr.go_bind, h1.version]
    rw [wrap_in (by omega), q2]
    simp only [if_true, Pr.go]
  · rw [List.set_set] at h2
    exact h2
theorem RM.hold (h : RM g m top S P V A B) (k v : Int) (hk : isC S k = true) (hv : isV v = true) : ∃ m', (holdP k v S).go m = (0, m') ∧ RM g m' top S P V (A.set k.toNat v) B ∧ m'.count ≤ m.count + 5 := by
  have hk2 : 0 ≤ k ∧ k < (S.length : Int) := of_decide_eq_true hk
  have hv2 : 0 ≤ v ∧ v ≤ 1073741824 := of_decide_eq_true hv
  obtain ⟨m1, e1, h1, c1⟩ := h.store (k := k.toNat) (by omega) v (by omega)
  refine ⟨m1, ?_, h1, by omega⟩
  unfold holdP
  rw [if_pos ⟨hk, hv⟩]
  simp only [Pr.go, store_on e1]
theorem RM.leave (h : RM g m top S P V A B) (k : Int) (hk : isC S k = true) : ∃ m', (leaveP k S).go m = (0, m') ∧ RM g m' top S P V (A.set k.toNat (-1)) B ∧ m'.count ≤ m.count + 5 := by
  have hk2 : 0 ≤ k ∧ k < (S.length : Int) := of_decide_eq_true hk
  obtain ⟨m1, e1, h1, c1⟩ := h.store (k := k.toNat) (by omega) (-1) (by omega)
  refine ⟨m1, ?_, h1, by omega⟩
  unfold leaveP
  rw [if_pos hk]
  have q1 := store_on e1
  rw [show (-1 : Int) + 1 = 0 from rfl] at q1
  simp only [Pr.go, q1]
/-- The first place that is no open snapshot. -/
def openI : Nat → List (Int × Int) → Option Nat
  | _, [] => none
  | i, b :: l => if b.2 < 0 then some i else openI (i + 1) l
theorem look_swap {p : Int} {n o' : Int} (hw : m.look p = some (.word n)) (hne : n ≠ o') (x : Int) : m.swap p o' x = (m.ask, false, 0) := swap_no hw hne
theorem RM.opens (v : Int) (hv : 0 ≤ v ∧ v ≤ 1073741824) (hg : g ≤ 15990) : ∀ (j i : Nat) {m : M}, RM g m top S P V A B → P.length = i + j →
    match openI i (B.drop i) with
    | some k => ∃ b m', B[k]? = some b ∧ b.2 < 0 ∧ (openL v i (P.drop i)).go m = ((b.1 * 64 + (k : Int), 0), m') ∧ RM (g + 1) m' top S P V A (B.set k (b.1, v)) ∧ m'.count ≤ m.count + 2 * j
    | none => ∃ m', (openL v i (P.drop i)).go m = ((0, 3), m') ∧ RM g m' top S P V A B ∧ m'.count ≤ m.count + 2 * j
  | 0, i, m, h, e => by
    have e1 : P.drop i = [] := List.drop_eq_nil_of_le (by omega)
    have e2 : B.drop i = [] := List.drop_eq_nil_of_le (by have := h.bl; omega)
    rw [e1, e2]
    exact ⟨m, rfl, h, by simp⟩
  | j + 1, i, m, h, e => by
    obtain ⟨x, hx, ex⟩ := drop_at (l := P) (i := i) (by omega)
    obtain ⟨d, st, bf, ow, hl⟩ := h.lk
    obtain ⟨-, a, ha, hw⟩ := hl.p i x hx
    have ea : B.drop i = a :: B.drop (i + 1) := by
      obtain ⟨a', h1, h2⟩ := drop_atB (l := B) (i := i) (by have := h.bl; omega)
      rw [ha] at h1; cases h1; exact h2
    have hav := h.bv a (List.mem_of_getElem? ha)
    have e0 : (openL v i (P.drop i)).go m = (if lowW (pw a) = 0 ∧ genW (pw a) < 1073741823 then .ask (.swap x (pw a) (wrap64 (wrap64 (pw a + v) + 1))) fun b => if b.err = 0 then (if b.ok = true then .ret (wrap64 (wrap64 (genW (pw a) * 64) + (i : Int)), (0 : Int)) else openL v (i + 1) (P.drop (i + 1))) else .ret (0, b.err) else openL v (i + 1) (P.drop (i + 1))).go m.ask := by
      rw [ex, openL_cons]
      simp only [Pr.go, word_on hw, if_true]
    rw [ea]
    unfold openI
    by_cases h0 : a.2 < 0
    · rw [if_pos h0]
      have e3 : a.2 = -1 := by omega
      obtain ⟨m1, q1, q2, q3⟩ := h.ask.swap hx ha (a.1, v) ⟨hav.1, by simp only; omega, by simp only; omega⟩
      refine ⟨a, m1, ha, h0, ?_, q2, by simp only [M.ask] at q3; push_cast; omega⟩
      rw [e0, pw_low (by omega), pw_gen (by omega), if_pos (by omega)]
      have e4 : wrap64 (wrap64 (pw a + v) + 1) = pw (a.1, v) := by
        unfold pw
        rw [e3, wrap_in (n := a.1 * 4294967296 + -1 + 1 + v) (by omega), wrap_in (by omega)]
        simp only
        omega
      rw [e4]
      simp only [Pr.go, swap_on q1, if_true]
      rw [wrap_in (n := a.1 * 64) (by omega), wrap_in (by have := h.pf; omega)]
    · rw [if_neg h0]
      have ih := RM.opens v hv hg j (i + 1) h.ask (by omega)
      have e5 : (openL v i (P.drop i)).go m = (openL v (i + 1) (P.drop (i + 1))).go m.ask := by
        rw [e0, pw_low (by omega), if_neg (by omega)]
      rw [e5]
      revert ih
      cases openI (i + 1) (B.drop (i + 1)) with
      | some k =>
        rintro ⟨b, m1, p1, p2, p3, p4, p5⟩
        exact ⟨b, m1, p1, p2, p3, p4, by simp only [M.ask] at p5; push_cast; omega⟩
      | none =>
        rintro ⟨m1, p1, p2, p3⟩
        exact ⟨m1, p1, p2, by simp only [M.ask] at p3; push_cast; omega⟩
/-- The place of an open snapshot. -/
def findI (B : List (Int × Int)) (id : Int) : Option (Nat × (Int × Int)) := if 0 ≤ id ∧ id % 64 < (B.length : Int) then (match B[(id % 64).toNat]? with
    | some b => if 0 ≤ b.2 ∧ b.1 = id / 64 then some ((id % 64).toNat, b) else none
    | none => none) else none
theorem findI_some {id : Int} {k : Nat} {b : Int × Int} (h : findI B id = some (k, b)) : 0 ≤ id ∧ k = (id % 64).toNat ∧ B[k]? = some b ∧ 0 ≤ b.2 ∧ b.1 = id / 64 := by
  unfold findI at h
  split at h
  · rename_i h1
    split at h
    · rename_i b1 hb
      split at h
      · rename_i h2
        cases h
        exact ⟨h1.1, rfl, hb, h2.1, h2.2⟩
      · cases h
    · cases h
  · cases h
theorem RM.find (h : RM g m top S P V A B) (_hg : g ≤ 15990) (id : Int) :
    match findI B id with
    | some (k, b) => ∃ m' p, P[k]? = some p ∧ (findP id P).go m = ((p, pw b, 0), m') ∧ RM g m' top S P V A B ∧ m'.count ≤ m.count + 1
    | none => ∃ m', (findP id P).go m = ((0, 0, 2), m') ∧ RM g m' top S P V A B ∧ m'.count ≤ m.count + 1 := by
  unfold findI
  by_cases h0 : 0 ≤ id ∧ id % 64 < (B.length : Int)
  · rw [if_pos h0]
    have hi : isP P id = true := decide_eq_true (by have := h.bl; omega)
    have hk : (id % 64).toNat < P.length := by have := h.bl; omega
    have hx : P[(id % 64).toNat]? = some P[(id % 64).toNat] := List.getElem?_eq_getElem hk
    obtain ⟨d, st, bf, ow, hl⟩ := h.lk
    obtain ⟨-, b, hb, hw⟩ := hl.p _ _ hx
    have hav := h.bv b (List.mem_of_getElem? hb)
    have e0 : (findP id P).go m = (if lowW (pw b) = 0 ∨ genW (pw b) ≠ id / 64 then .ret (0, 0, 2) else .ret (P[(id % 64).toNat], pw b, 0) : Pr (Int × Int × Int)).go m.ask := by
      unfold findP
      rw [if_pos hi, getD_of hx]
      simp only [Pr.go, word_on hw, if_true]
    rw [pw_low (by omega), pw_gen (by omega)] at e0
    rw [hb]
    simp only
    by_cases h1 : 0 ≤ b.2 ∧ b.1 = id / 64
    · rw [if_pos h1]
      rw [if_neg (by omega)] at e0
      exact ⟨m.ask, _, hx, e0, h.ask, by simp [M.ask]⟩
    · rw [if_neg h1]
      rw [if_pos (by omega)] at e0
      exact ⟨m.ask, e0, h.ask, by simp [M.ask]⟩
  · rw [if_neg h0]
    have hi : ¬ isP P id = true := fun e => by have : 0 ≤ id ∧ id % 64 < (P.length : Int) := of_decide_eq_true e; have := h.bl; omega
    refine ⟨m, ?_, h, by omega⟩
    unfold findP
    rw [if_neg hi]
    rfl
theorem RM.findv (h : RM g m top S P V A B) (hg : g ≤ 15990) (id : Int) :
    ∃ m', (findVP id P).go m = ((match findI B id with | some (_, b) => (b.2, 0) | none => (0, 2)), m') ∧ RM g m' top S P V A B ∧ m'.count ≤ m.count + 1 := by
  have hf := h.find hg id
  unfold findVP
  revert hf
  cases hc : findI B id with
  | some x =>
    obtain ⟨k, b⟩ := x
    rintro ⟨m1, p, e1, e2, e3, e4⟩
    obtain ⟨-, -, hb, -⟩ := findI_some hc
    have hav := h.bv b (List.mem_of_getElem? hb)
    refine ⟨m1, ?_, e3, e4⟩
    rw [Pr.go_bind, e2]
    simp only [if_true]
    rw [pw_low (by omega), show b.2 + 1 - 1 = b.2 by omega]
    rfl
  | none =>
    rintro ⟨m1, e2, e3, e4⟩
    refine ⟨m1, ?_, e3, e4⟩
    rw [Pr.go_bind, e2]
    simp only
    rw [if_neg (by decide)]
    rfl
theorem RM.close (h : RM g m top S P V A B) (hg : g ≤ 15990) (id : Int) :
    match findI B id with
    | some (k, b) => ∃ m', (closeP id P).go m = (0, m') ∧ RM (g + 1) m' top S P V A (B.set k (b.1 + 1, -1)) ∧ m'.count ≤ m.count + 2
    | none => ∃ m', (closeP id P).go m = (2, m') ∧ RM g m' top S P V A B ∧ m'.count ≤ m.count + 2 := by
  have hf := h.find hg id
  unfold closeP
  revert hf
  cases hc : findI B id with
  | some x =>
    obtain ⟨k, b⟩ := x
    rintro ⟨m1, p, e1, e2, e3, e4⟩
    obtain ⟨-, -, hb, -⟩ := findI_some hc
    have hav := h.bv b (List.mem_of_getElem? hb)
    obtain ⟨m2, q1, q2, q3⟩ := e3.swap e1 hb (b.1 + 1, -1) ⟨by simp only; omega, by simp only; omega, by simp only; omega⟩
    refine ⟨m2, ?_, q2, by omega⟩
    rw [Pr.go_bind, e2]
    simp only [if_true]
    have e5 : nextW (pw b) = pw (b.1 + 1, -1) := by
      unfold nextW
      rw [pw_gen (by omega), wrap_in (n := b.1 + 1) (by omega), wrap_in (by omega)]
      unfold pw
      simp only
      omega
    rw [e5]
    simp only [Pr.go, swap_on q1]
    rfl
  | none =>
    rintro ⟨m1, e2, e3, e4⟩
    refine ⟨m1, ?_, e3, by omega⟩
    rw [Pr.go_bind, e2]
    simp only
    rw [if_neg (by decide)]
    rfl
/-- Another version. -/
theorem RM.publish (h : RM g m top S P V A B) (hg : g ≤ 15990) (W : Int) : ∃ (d bf st s2 g2 : Int) (m1 m2 m3 m4 m5 m6 : M),
    (lastP top).go m = (⟨d, ⟨V, bf, st, [], none, 0, 0⟩, true, 0⟩, m1) ∧ (makeP W V []).go m1 = ((g2, 0), m2) ∧ (Qn.swap top d g2).on m2 = (m3, ⟨.no, 0, true, 0⟩) ∧ (heldP g2).go m3 = ((⟨W, V, s2, [], none, 0, 0⟩, 0), m4) ∧ (helpL s2 []).go m4 = (0, m5) ∧ (undoP d).go m5 = (0, m6) ∧
    RM (g + 2) m6 top S P W A B ∧ m.count ≤ m1.count ∧ m1.count ≤ m2.count ∧ m2.count ≤ m3.count ∧ m3.count ≤ m4.count ∧ m4.count ≤ m5.count ∧ m5.count ≤ m6.count ∧ m6.count ≤ m.count + 11 := by
  obtain ⟨d, st, bf, ow, hl⟩ := h.lk
  have hh := h.ask.ask.ask
  obtain ⟨m2a, s2, a1, a2, a3, a4, a5, a6, a7, -⟩ := alloc_yes hh.tidy (by omega) (by rw [hh.live, hh.len]; have := h.sf; have := h.pf; omega) (by rw [hh.len]; decide) (.word 0) rfl
  obtain ⟨m2, g2, b1, b2, b3, b4, b5, b6, b7, -⟩ := alloc_yes a4 (by omega) (by rw [a5, hh.live, a6, hh.len]; have := h.sf; have := h.pf; omega) (by rw [a6, hh.len]; decide) (.desc ⟨W, V, s2, [], none, 0, 0⟩) rfl
  have L0 : ∀ k, m.ask.ask.ask.look k = m.look k := fun k => by rw [look_ask, look_ask, look_ask]
  rw [L0] at a2
  have L2 : ∀ k, m2.look k = if k = g2 then some (.desc ⟨W, V, s2, [], none, 0, 0⟩) else if k = s2 then some (.word 0) else m.look k := fun k => by rw [b3, a3, L0]
  have n1 : ∀ {k : Int} {x : Held}, m.look k = some x → k ≠ s2 := fun hk e => by rw [e, a2] at hk; cases hk
  have n2 : ∀ {k : Int} {x : Held}, m.look k = some x → k ≠ g2 := fun {k x} hk e => by
    rw [a3, L0] at b2
    split at b2
    · cases b2
    · rw [e, b2] at hk; cases hk
  have n3 : s2 ≠ g2 := fun e => by rw [a3, if_pos e.symm] at b2; cases b2
  have t2 : m2.look top = some (.word d) := by rw [L2, if_neg (n2 hl.lt), if_neg (n1 hl.lt)]; exact hl.lt
  obtain ⟨m3, c1, c2, c3, c4, c5, c6⟩ := swap_yes (n := g2) t2
  have k4 : m3.look g2 = some (.desc ⟨W, V, s2, [], none, 0, 0⟩) := by rw [c2, if_neg (fun e => n2 hl.lt e.symm), L2, if_pos rfl]
  have k5 : m3.ask.look s2 = some (.word 0) := by rw [look_ask, c2, if_neg (fun e => n1 hl.lt e.symm), L2, if_neg n3, if_pos rfl]
  obtain ⟨m5, e1, e2, e3, e4, e5, e6⟩ := swap_yes (n := 1) k5
  have dt : d ≠ top := fun e => by have := hl.ld; rw [e, hl.lt] at this; cases this
  have dst : d ≠ st := fun e => by have := hl.ld; rw [e, hl.ls] at this; cases this
  have tst : top ≠ st := fun e => by have := hl.ot; rw [e, hl.os] at this; cases this
  have L5 : ∀ k, m5.look k = if k = s2 then some (.word 1) else if k = top then some (.word g2) else if k = g2 then some (.desc ⟨W, V, s2, [], none, 0, 0⟩) else m.look k := fun k => by
    rw [e2]
    by_cases q : k = s2
    · rw [if_pos q, if_pos q]
    · rw [if_neg q, if_neg q, look_ask, c2, L2, if_neg q]
  have d5 : m5.look d = some (.desc ⟨V, bf, st, [], none, 0, 0⟩) := by rw [L5, if_neg (n1 hl.ld), if_neg dt, if_neg (n2 hl.ld)]; exact hl.ld
  have s5 : m5.ask.look st = some (.word 1) := by rw [look_ask, L5, if_neg (n1 hl.ls), if_neg tst.symm, if_neg (n2 hl.ls)]; exact hl.ls
  have T5 : Tidy g m5 := e3 g (c3 g b4).ask
  obtain ⟨m6a, f1, f2, f3, f4, f5, f6⟩ := free_yes T5.ask s5
  have d6 : m6a.look d = some (.desc ⟨V, bf, st, [], none, 0, 0⟩) := by rw [f2, if_neg dst, look_ask]; exact d5
  obtain ⟨m6, g1, g2', g3, g4, g5, g6⟩ := free_yes f3 d6
  have L6 : ∀ k, m6.look k = if k = d then none else if k = st then none else m5.look k := fun k => by rw [g2', f2, look_ask]
  have z1 : m.ask.ask.ask.count = m.count + 3 := by simp only [M.ask]; omega
  have z2 : m3.ask.count = m3.count + 1 := rfl
  have z3 : m5.ask.count = m5.count + 1 := rfl
  refine ⟨d, bf, st, s2, g2, m.ask.ask.ask, m2, m3, m3.ask, m5, m6, ?_, ?_, ?_, ?_, ?_, ?_, ⟨?_, ?_, ?_, h.al, h.bl, h.sf, h.pf, h.av, fun b hb => by have := h.bv b hb; omega, g2, s2, V, fun k => if k = s2 then .st else if k = st then .no else ow k, ?_⟩, by omega, by omega, by omega, by omega, by omega, by omega, by omega⟩
  · have q1 : (Qn.word top).on m = (m.ask, ⟨.no, d, false, 0⟩) := by
      show ((m.word top).1, (⟨_, (m.word top).2.1, _, (m.word top).2.2⟩ : An)) = _
      rw [look_word hl.lt]
    have q2 : (Qn.load d).on m.ask = (m.ask.ask, ⟨.desc ⟨V, bf, st, [], none, 0, 0⟩, 0, false, 0⟩) := by
      show ((m.ask.load d).1, (⟨(m.ask.load d).2.1, _, _, (m.ask.load d).2.2⟩ : An)) = _
      rw [look_load (d := ⟨V, bf, st, [], none, 0, 0⟩) (by rw [look_ask]; exact hl.ld)]
    have q3 : (Qn.word st).on m.ask.ask = (m.ask.ask.ask, ⟨.no, 1, false, 0⟩) := by
      show ((m.ask.ask.word st).1, (⟨_, (m.ask.ask.word st).2.1, _, (m.ask.ask.word st).2.2⟩ : An)) = _
      rw [look_word (n := 1) (by rw [look_ask, look_ask]; exact hl.ls)]
    unfold lastP heldP heldR
    simp only [Pr.bind, Pr.go, q1, q2, q3, if_true, beq_self_eq_true]
  · have q1 : (Qn.alloc (.word 0)).on m.ask.ask.ask = (m2a, ⟨.no, s2, false, 0⟩) := by
      show ((m.ask.ask.ask.alloc (.word 0)).1, (⟨_, (m.ask.ask.ask.alloc (.word 0)).2.1, _, (m.ask.ask.ask.alloc (.word 0)).2.2⟩ : An)) = _
      rw [a1]
    have q2 : (Qn.alloc (.desc ⟨W, V, s2, [], none, 0, 0⟩)).on m2a = (m2, ⟨.no, g2, false, 0⟩) := by
      show ((m2a.alloc _).1, (⟨_, (m2a.alloc _).2.1, _, (m2a.alloc _).2.2⟩ : An)) = _
      rw [b1]
    unfold makeP layP
    simp only [Pr.bind, Pr.go, q1, if_true, Ds.e, Ds.at_, q2]
  · show ((m2.swap top d g2).1, (⟨_, _, (m2.swap top d g2).2.1, (m2.swap top d g2).2.2⟩ : An)) = _
    rw [c1]
  · have q1 : (Qn.load g2).on m3 = (m3.ask, ⟨.desc ⟨W, V, s2, [], none, 0, 0⟩, 0, false, 0⟩) := by
      show ((m3.load g2).1, (⟨(m3.load g2).2.1, _, _, (m3.load g2).2.2⟩ : An)) = _
      rw [look_load k4]
    unfold heldP heldR
    simp only [Pr.go, q1, if_true]
  · have q1 : (Qn.swap s2 0 1).on m3.ask = (m5, ⟨.no, 0, true, 0⟩) := by
      show ((m3.ask.swap s2 0 1).1, (⟨_, _, (m3.ask.swap s2 0 1).2.1, (m3.ask.swap s2 0 1).2.2⟩ : An)) = _
      rw [e1]
    unfold helpL
    simp only [Pr.go, q1]
  · have q1 : (Qn.load d).on m5 = (m5.ask, ⟨.desc ⟨V, bf, st, [], none, 0, 0⟩, 0, false, 0⟩) := by
      show ((m5.load d).1, (⟨(m5.load d).2.1, _, _, (m5.load d).2.2⟩ : An)) = _
      rw [look_load d5]
    have q2 : (Qn.free st).on m5.ask = (m6a, ⟨.no, 0, false, 0⟩) := by
      show ((m5.ask.free st).1, (⟨_, _, _, (m5.ask.free st).2⟩ : An)) = _
      rw [f1]
    have q3 : (Qn.free d).on m6a = (m6, ⟨.no, 0, false, 0⟩) := by
      show ((m6a.free d).1, (⟨_, _, _, (m6a.free d).2⟩ : An)) = _
      rw [g1]
    unfold undoP bothP heldP heldR
    simp only [Pr.bind, Pr.go, q1, q2, q3, if_true]
  · rw [show g + 2 = g + 1 + 1 by omega]; exact g3
  · rw [g5, f5]; show m5.cells.length = _; rw [e5]; show m3.cells.length = _; rw [c5, b6, a6]; exact hh.len
  · have l5 : m5.live = S.length + P.length + 5 := by
      rw [e4]; show m3.live = _; rw [c4, b5, a5, hh.live]; omega
    rw [g4, f4]; show m5.live - 1 - 1 = _; omega
  · refine ⟨?_, ?_, ?_, ?_, ?_, fun i x hi => ?_, fun i x hi => ?_⟩
    · rw [L6, if_neg dt.symm, if_neg tst, L5, if_neg (n1 hl.lt), if_pos rfl]
    · rw [L6, if_neg (n2 hl.ld).symm, if_neg (n2 hl.ls).symm, L5, if_neg n3.symm, if_neg (n2 hl.lt).symm, if_pos rfl]
    · rw [L6, if_neg (n1 hl.ld).symm, if_neg (n1 hl.ls).symm, L5, if_pos rfl]
    · show (if top = s2 then Who.st else if top = st then Who.no else ow top) = _
      rw [if_neg (n1 hl.lt), if_neg tst]; exact hl.ot
    · simp only [if_true]
    · obtain ⟨o1, a, ha, hw⟩ := hl.s i x hi
      have xs : x ≠ st := fun e => by rw [e, hl.os] at o1; cases o1
      have xt : x ≠ top := fun e => by rw [e, hl.ot] at o1; cases o1
      have xd : x ≠ d := fun e => by rw [e, hl.ld] at hw; cases hw
      refine ⟨by show (if x = s2 then Who.st else if x = st then Who.no else ow x) = _; rw [if_neg (n1 hw), if_neg xs]; exact o1, a, ha, ?_⟩
      rw [L6, if_neg xd, if_neg xs, L5, if_neg (n1 hw), if_neg xt, if_neg (n2 hw)]; exact hw
    · obtain ⟨o1, a, ha, hw⟩ := hl.p i x hi
      have xs : x ≠ st := fun e => by rw [e, hl.os] at o1; cases o1
      have xt : x ≠ top := fun e => by rw [e, hl.ot] at o1; cases o1
      have xd : x ≠ d := fun e => by rw [e, hl.ld] at hw; cases hw
      refine ⟨by show (if x = s2 then Who.st else if x = st then Who.no else ow x) = _; rw [if_neg (n1 hw), if_neg xs]; exact o1, a, ha, ?_⟩
      rw [L6, if_neg xd, if_neg xs, L5, if_neg (n1 hw), if_neg xt, if_neg (n2 hw)]; exact hw
end
end Go.Proofs.YtgjkkbgdkdipgaaDoor
