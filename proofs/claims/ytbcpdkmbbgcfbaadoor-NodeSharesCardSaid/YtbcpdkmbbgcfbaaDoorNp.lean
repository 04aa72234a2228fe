/- Chains in memory, and what a quiet port makes of them: upTo, Fell, Cut, Lay, Make. No condition. -/
import Derived.Test.YtbcpdkmbbgcfbaaDoorNo
import Derived.Test.YtbcpdkmbbgcfbaaDoorLk
namespace Go.Proofs.YtbcpdkmbbgcfbaaDoor
open Go.RowKit Go.Op
set_option maxRecDepth 100000

/-- The same but for counts. -/
structure AskN (m m' : M) (n : Int) : Prop where
  cells : m'.cells = m.cells
  live : m'.live = m.live
  mono : m.count ≤ m'.count
  cnt : m'.count ≤ m.count + n
theorem AskN.refl (m : M) : AskN m m 0 := ⟨rfl, rfl, Int.le_refl _, by omega⟩
theorem AskN.ask (m : M) : AskN m m.ask 1 := ⟨rfl, rfl, by show m.count ≤ m.count + 1; omega, by show m.count + 1 ≤ m.count + 1; omega⟩
theorem AskN.trans {m m1 m2 : M} {n k : Int} (h : AskN m m1 n) (h2 : AskN m1 m2 k) : AskN m m2 (n + k) :=
  ⟨h2.cells.trans h.cells, h2.live.trans h.live, Int.le_trans h.mono h2.mono, by have := h.cnt; have := h2.cnt; omega⟩
theorem AskN.look {m m' : M} {n : Int} (h : AskN m m' n) (k : Int) : m'.look k = m.look k := look_cells h.cells k
theorem AskN.tidy {m m' : M} {n g : Int} (h : AskN m m' n) (ht : Tidy g m) : Tidy g m' := ⟨by rw [h.cells]; exact ht.gen, by rw [h.live, h.cells]; exact ht.liv⟩
theorem AskN.le {m m' : M} {n k : Int} (h : AskN m m' n) (hk : n ≤ k) : AskN m m' k := ⟨h.cells, h.live, h.mono, by have := h.cnt; omega⟩
/-- Some words are set, others stay. -/
structure Set0 (m m' : M) (ps : List Int) (n : Int) : Prop where
  look : ∀ k, m'.look k = if k ∈ ps then some (.word 0) else m.look k
  tidy : ∀ g, Tidy g m → Tidy g m'
  live : m'.live = m.live
  len : m'.cells.length = m.cells.length
  mono : m.count ≤ m'.count
  cnt : m'.count ≤ m.count + n
theorem takeA_go {m : M} {h p : Int} {r : Rv} {pl : Pl} (hl : m.look h = some (.blk (.age r p) pl)) : (takeP h).go m = ((⟨r, p⟩, 0), m.ask) := by
  simp [takeP, Pr.go, Qn.on, look_load hl, heldA]
theorem node_go {m : M} {h hd : Int} {low : ByteArray} {nx : List Int} {pl : Pl} (hl : m.look h = some (.blk (.node low hd nx) pl)) : (loadP h).go m = ((⟨low, hd, nx⟩, 0), m.ask) := by
  simp [loadP, Pr.go, Qn.on, look_load hl, heldN]
theorem wordA_go {m : M} {k x : Int} (hl : m.look k = some (.word x)) : (wordP k).go m = ((x, 0), m.ask) := by
  simp [wordP, Pr.go, Qn.on, look_word hl]
theorem taken_go0 {m : M} {k : Int} (hl : m.look k = some (.word 0)) : (takenP k).go m = ((0, 0), m.ask) := by
  simp [takenP, Pr.go, Qn.on, look_word hl]
theorem taken_go {m : M} {k x : Int} (hl : m.look k = some (.word x)) (hx : x ≠ 0) : ∃ m', (takenP k).go m = ((x, 0), m') ∧ Set0 m m' [k] 2 := by
  obtain ⟨m', h1, h2, h3, h4, h5, h6⟩ := swap_yes (n := 0) ((look_ask m k).trans hl)
  refine ⟨m', ?_, fun j => ?_, fun g ht => h3 g ht.ask, h4, h5, by rw [h6]; simp [M.ask]; omega, by rw [h6]; simp [M.ask]; omega⟩
  · simp [takenP, Pr.go, Qn.on, look_word hl, hx, h1]
  · rw [h2, look_ask]; simp
/-- A chain from an age on: handle, revision, the handle of its prev; newest first. -/
def Ch (m : M) : Int → List (Int × Rv × Int) → Prop
  | h, [] => h = 0
  | h, x :: l => h = x.1 ∧ h ≠ 0 ∧ m.look h = some (.blk (.age x.2.1 x.2.2) .nil) ∧ ∃ k, m.look x.2.2 = some (.word k) ∧ Ch m k l
theorem Ch.mono {m m' : M} : ∀ {l : List (Int × Rv × Int)} {h : Int}, Ch m h l → (∀ x, x ∈ l → m'.look x.1 = m.look x.1 ∧ m'.look x.2.2 = m.look x.2.2) → Ch m' h l
  | [], _, h, _ => h
  | x :: l, _, ⟨e, h0, h1, k, h2, h3⟩, hk => by
    have q := hk x List.mem_cons_self
    exact ⟨e, h0, by rw [e, q.1, ← e]; exact h1, k, q.2.trans h2, Ch.mono h3 fun y hy => hk y (List.mem_cons_of_mem _ hy)⟩
theorem Ch.asked {m m' : M} {n : Int} {l : List (Int × Rv × Int)} {h : Int} (hc : Ch m h l) (ha : AskN m m' n) : Ch m' h l := hc.mono fun _ _ => ⟨ha.look _, ha.look _⟩
theorem Ch.age {m : M} : ∀ {l : List (Int × Rv × Int)} {h : Int}, Ch m h l → ∀ x, x ∈ l → m.look x.1 = some (.blk (.age x.2.1 x.2.2) .nil) ∧ ∃ k, m.look x.2.2 = some (.word k)
  | [], _, _, x, hx => by cases hx
  | y :: l, _, ⟨e, h0, h1, k, h2, h3⟩, x, hx => by
    rcases List.mem_cons.1 hx with rfl | hx
    · exact ⟨by rw [← e]; exact h1, k, h2⟩
    · exact Ch.age h3 x hx
theorem Ch.zero {m : M} {l : List (Int × Rv × Int)} (h : Ch m 0 l) : l = [] := by
  cases l with
  | nil => rfl
  | cons x l => exact absurd rfl h.2.1
/-- The first age that isn't newer than a version. -/
def foundS (v : Int) : List (Int × Rv × Int) → Sp × Int
  | [] => (sp0, 0)
  | x :: l => if x.2.1.ver ≤ v then (⟨x.1, ⟨x.2.1, x.2.2⟩⟩, 0) else foundS v l
theorem chain_up (v : Int) : ∀ (l : List (Int × Rv × Int)) (n : Nat) (h : Int) (m : M), Ch m h l → l ≠ [] → l.length ≤ n → ∃ bx m', (chainP wordP (upF v) n h (sp0, 0)).go m = (some (bx, foundS v l), m') ∧ AskN m m' (2 * (l.length : Int))
  | [], _, _, _, _, h0, _ => absurd rfl h0
  | x :: l, 0, _, _, _, _, hn => by simp at hn
  | x :: l, n + 1, h, m, hc, _, hn => by
    obtain ⟨e, h0, h1, k, h2, h3⟩ := hc
    rw [chainP, Pr.go_bind, takeA_go h1]
    simp only
    by_cases hv : x.2.1.ver ≤ v
    · have hf : upF v (sp0, 0) ⟨h, ⟨x.2.1, x.2.2⟩⟩ 0 = some (false, (⟨h, ⟨x.2.1, x.2.2⟩⟩, 0)) := by simp [upF, hv]
      rw [hf]
      simp only [if_true, Pr.go]
      exact ⟨true, _, by rw [foundS, if_pos hv, e], (AskN.ask m).le (by simp only [List.length_cons]; omega)⟩
    · have hf : upF v (sp0, 0) ⟨h, ⟨x.2.1, x.2.2⟩⟩ 0 = some (true, (sp0, 0)) := by simp [upF, hv]
      rw [hf]
      simp only [Bool.true_eq_false, if_false, if_true]
      rw [Pr.go_bind, wordA_go ((look_ask m _).trans h2)]
      simp only [if_true]
      have ha := (AskN.ask m).trans (AskN.ask m.ask)
      by_cases hk : k = 0
      · subst hk
        have hl := h3.zero
        subst hl
        rw [if_pos rfl]
        exact ⟨false, _, by simp only [Pr.go]; rw [foundS, if_neg hv]; rfl, ha.le (by simp)⟩
      · rw [if_neg hk]
        have hl : l ≠ [] := fun e => by subst e; exact hk h3
        obtain ⟨bx, m', e1, e2⟩ := chain_up v l n k m.ask.ask (h3.asked ha) hl (by simp only [List.length_cons] at hn; omega)
        exact ⟨bx, m', by rw [e1, foundS, if_neg hv], (ha.trans e2).le (by simp only [List.length_cons]; omega)⟩
theorem up_go {v hd h : Int} {l : List (Int × Rv × Int)} {n : Nat} {m : M} (hw : m.look hd = some (.word h)) (hc : Ch m h l) (h0 : l ≠ []) (hn : l.length ≤ n) : ∃ m', (upP n hd v).go m = (some (foundS v l), m') ∧ AskN m m' (2 * (l.length : Int) + 1) := by
  obtain ⟨bx, m', e1, e2⟩ := chain_up v l n h m.ask (hc.asked (AskN.ask m)) h0 hn
  refine ⟨m', ?_, ((AskN.ask m).trans e2).le (by omega)⟩
  rw [upP, Pr.go_bind, wordA_go hw]
  simp only [if_true]
  rw [Pr.go_bind, e1]
  rfl
/-- The cells of a chain: of each age its own, and that of its prev. -/
def flat (l : List (Int × Rv × Int)) : List Int := l.flatMap fun x => [x.1, x.2.2]
def prevs (l : List (Int × Rv × Int)) : List Int := l.map fun x => x.2.2
theorem chain_fell : ∀ (l : List (Int × Rv × Int)) (acc : List Int) (n : Nat) (h : Int) (m : M), Ch m h l → l ≠ [] → l.length ≤ n → (prevs l).Nodup → acc.length + 2 * l.length ≤ 900000 → ∃ m', (chainP takenP fellF n h (acc, 0)).go m = (some (false, (acc ++ flat l, 0)), m') ∧ Set0 m m' (prevs l) (3 * (l.length : Int))
  | [], _, _, _, _, _, h0, _, _, _ => absurd rfl h0
  | x :: l, _, 0, _, _, _, _, hn, _, _ => by simp at hn
  | x :: l, acc, n + 1, h, m, hc, _, hn, hnd, hacc => by
    obtain ⟨e, h0, h1, k, h2, h3⟩ := hc
    simp only [List.length_cons] at hn hacc
    rw [chainP, Pr.go_bind, takeA_go h1]
    simp only
    have hf : fellF (acc, 0) ⟨h, ⟨x.2.1, x.2.2⟩⟩ 0 = some (true, (acc ++ [h, x.2.2], 0)) := by
      simp only [fellF, if_true]
      rw [if_pos (by omega)]
    rw [hf]
    simp only [Bool.true_eq_false, if_false, if_true]
    rw [Pr.go_bind]
    by_cases hk : k = 0
    · subst hk
      have hl := h3.zero
      subst hl
      rw [taken_go0 ((look_ask m _).trans h2)]
      simp only [if_true, Pr.go]
      refine ⟨_, by rw [e]; rfl, fun j => ?_, fun g ht => ht.ask.ask, rfl, rfl, by simp [M.ask]; omega, by simp [M.ask]; omega⟩
      rw [look_ask, look_ask]
      simp only [prevs, List.map_cons, List.map_nil, List.mem_cons, List.not_mem_nil, or_false]
      split
      · rename_i ej
        rw [ej]; exact h2
      · rfl
    · obtain ⟨m1, e1, hs⟩ := taken_go ((look_ask m _).trans h2) hk
      rw [e1]
      simp only [if_true]
      rw [if_neg hk]
      have hl : l ≠ [] := fun e => by subst e; exact hk h3
      have hnd2 := List.nodup_cons.1 hnd
      have hc1 : Ch m1 k l := h3.mono fun y hy => by
        obtain ⟨q1, j, q2⟩ := h3.age y hy
        refine ⟨?_, ?_⟩
        · rw [hs.look, look_ask, if_neg]
          intro e2
          rw [List.mem_singleton] at e2
          rw [e2, h2] at q1
          cases q1
        · rw [hs.look, look_ask, if_neg]
          intro e2
          rw [List.mem_singleton] at e2
          exact hnd2.1 (List.mem_map.2 ⟨y, hy, e2⟩)
      obtain ⟨m', e2, hs2⟩ := chain_fell l (acc ++ [h, x.2.2]) n k m1 hc1 hl (by omega) hnd2.2 (by simp only [List.length_append, List.length_cons, List.length_nil]; omega)
      have c1 := hs.cnt
      have c2 := hs2.cnt
      have c3 := hs.mono
      have c4 := hs2.mono
      have c5 : m.ask.count = m.count + 1 := rfl
      refine ⟨m', by rw [e2, e]; simp [flat], fun j => ?_, fun g ht => hs2.tidy g (hs.tidy g ht.ask), hs2.live.trans hs.live, hs2.len.trans hs.len, by omega, by simp only [List.length_cons]; omega⟩
      rw [hs2.look, hs.look, look_ask]
      simp only [prevs, List.map_cons, List.mem_cons, List.not_mem_nil, or_false]
      by_cases q1 : j ∈ List.map (fun x => x.2.2) l
      · rw [if_pos q1, if_pos (.inr q1)]
      · rw [if_neg q1]
        by_cases q2 : j = x.2.2
        · rw [if_pos q2, if_pos (.inl q2)]
        · rw [if_neg q2, if_neg (fun e => e.elim q2 q1)]
theorem fell_go {l : List (Int × Rv × Int)} {n : Nat} {h : Int} {m : M} (hc : Ch m h l) (h0 : l ≠ []) (hn : l.length ≤ n) (hd : (prevs l).Nodup) (hlen : 2 * l.length ≤ 900000) : ∃ m', (fellP n h).go m = (some (flat l, 0), m') ∧ Set0 m m' (prevs l) (3 * (l.length : Int)) := by
  obtain ⟨m', e1, e2⟩ := chain_fell l [] n h m hc h0 hn hd (by simpa using hlen)
  have hh : ¬ h = 0 := fun e => h0 (by subst e; exact hc.zero)
  refine ⟨m', ?_, e2⟩
  rw [fellP, if_neg hh, Pr.go_bind, e1]
  rfl
/-- What is behind the first age that isn't newer than a version, that one, too. -/
def tailFrom (v : Int) : List (Int × Rv × Int) → List (Int × Rv × Int)
  | [] => []
  | x :: l => if x.2.1.ver ≤ v then x :: l else tailFrom v l
theorem found_nil {v : Int} : ∀ {l : List (Int × Rv × Int)}, tailFrom v l = [] → foundS v l = (sp0, 0)
  | [], _ => rfl
  | x :: l, h => by
    rw [tailFrom] at h
    split at h
    · cases h
    · rename_i hv
      rw [foundS, if_neg hv]
      exact found_nil h
theorem found_cons {v : Int} {y : Int × Rv × Int} {k : List (Int × Rv × Int)} : ∀ {l : List (Int × Rv × Int)}, tailFrom v l = y :: k → foundS v l = (⟨y.1, ⟨y.2.1, y.2.2⟩⟩, 0)
  | [], h => by cases h
  | x :: l, h => by
    rw [tailFrom] at h
    rw [foundS]
    split at h
    · rename_i hv
      cases h
      rw [if_pos hv]
    · rename_i hv
      rw [if_neg hv]
      exact found_cons h
theorem Ch.tail {m : M} {v : Int} {y : Int × Rv × Int} {k : List (Int × Rv × Int)} : ∀ {l : List (Int × Rv × Int)} {h : Int}, Ch m h l → tailFrom v l = y :: k → Ch m y.1 (y :: k)
  | [], _, _, h => by cases h
  | x :: l, h, hc, ht => by
    rw [tailFrom] at ht
    split at ht
    · cases ht
      obtain ⟨e, -⟩ := id hc
      rw [← e]; exact hc
    · exact Ch.tail hc.2.2.2.choose_spec.2 ht
theorem tail_sub {v : Int} : ∀ (l : List (Int × Rv × Int)), (tailFrom v l).length ≤ l.length ∧ ∃ p, l = p ++ tailFrom v l
  | [] => ⟨Nat.le_refl _, [], rfl⟩
  | x :: l => by
    rw [tailFrom]
    split
    · exact ⟨Nat.le_refl _, [], rfl⟩
    · obtain ⟨h1, p, h2⟩ := tail_sub (v := v) l
      exact ⟨by simp only [List.length_cons]; omega, x :: p, by rw [List.cons_append, ← h2]⟩
theorem flat_length : ∀ l : List (Int × Rv × Int), (flat l).length = 2 * l.length
  | [] => rfl
  | x :: l => by
    have := flat_length l
    simp only [flat, List.flatMap_cons, List.length_append, List.length_cons, List.length_nil] at this ⊢
    omega
theorem cut_go {v hd h : Int} {l : List (Int × Rv × Int)} {n : Nat} {m : M} (hw : m.look hd = some (.word h)) (hc : Ch m h l) (h0 : l ≠ []) (hn : l.length ≤ n) (hd2 : (prevs l).Nodup) (hlen : 2 * l.length ≤ 900000) : ∃ m', (cutP n hd v).go m = (some ((flat (tailFrom v l)).drop 2, 0), m') ∧ Set0 m m' (prevs (tailFrom v l)) (5 * (l.length : Int) + 1) := by
  obtain ⟨m1, e1, a1⟩ := up_go (v := v) hw hc h0 hn
  obtain ⟨hl1, p, hp⟩ := tail_sub (v := v) l
  cases ht : tailFrom v l with
  | nil =>
    rw [found_nil ht] at e1
    refine ⟨m1, ?_, fun j => ?_, fun g hg => a1.tidy hg, a1.live, by rw [a1.cells], a1.mono, by have := a1.cnt; omega⟩
    · rw [cutP, Pr.go_bind, e1]
      simp only
      rw [cutQ_nil rfl]
      rfl
    · rw [a1.look]; simp [prevs]
  | cons y k =>
    rw [found_cons ht] at e1
    have hct := (hc.tail ht).asked a1
    have hk : (y :: k).length ≤ l.length := by rw [← ht]; exact hl1
    rw [ht] at hp
    have hnd : (prevs (y :: k)).Nodup := by
      rw [hp] at hd2
      unfold prevs at hd2 ⊢
      rw [List.map_append] at hd2
      exact (List.nodup_append.1 hd2).2.1
    obtain ⟨m2, e2, s2⟩ := fell_go hct (by simp) (Nat.le_trans hk hn) hnd (by omega)
    have hy : ¬ y.1 = 0 := hct.2.1
    refine ⟨m2, ?_, fun j => ?_, fun g hg => s2.tidy g (a1.tidy hg), s2.live.trans a1.live, by rw [s2.len, a1.cells], Int.le_trans a1.mono s2.mono, by have := a1.cnt; have := s2.cnt; omega⟩
    · rw [cutP, Pr.go_bind, e1]
      simp only
      rw [cutQ_go hy, Pr.go_bind, e2]
      simp only [Pr.go]
      rw [cutF_ok (by rw [flat_length]; simp only [List.length_cons]; omega)]
    · rw [s2.look, a1.look]
/-- Words and a block are allocated. -/
theorem alloc_go {m : M} {g : Int} (ht : Tidy g m) (hg : g ≤ 16000) (hl : m.live < (m.cells.length : Int)) (hlen : m.cells.length ≤ 65535) (x : Held) (hx : x.busy = true) :
    ∃ h m', (Qn.alloc x).on m = (m', ⟨.no, h, false, 0⟩) ∧ m.look h = none ∧ h ≠ 0 ∧ (∀ k, m'.look k = if k = h then some x else m.look k) ∧ Tidy g m' ∧ m'.live = m.live + 1 ∧ m'.cells.length = m.cells.length ∧ m'.count = m.count + 1 := by
  obtain ⟨m', h, e, h1, h2, h3, h4, h5, h6, h7⟩ := alloc_yes ht hg hl hlen x hx
  exact ⟨h, m', by simp only [Qn.on, e], h1, h7, h2, h3, h4, h5, h6⟩
theorem layP_go {m : M} {g : Int} (ht : Tidy g m) (hg : g ≤ 16000) (hl : m.live + 2 ≤ (m.cells.length : Int)) (hlen : m.cells.length ≤ 65535) (r : Rv) (before : Int) :
    ∃ h p m', (layP r before).go m = ((h, 0), m') ∧ m.look h = none ∧ m.look p = none ∧ h ≠ p ∧ h ≠ 0 ∧ p ≠ 0 ∧ (∀ k, m'.look k = if k = h then some (.blk (.age r p) .nil) else if k = p then some (.word before) else m.look k) ∧ Tidy g m' ∧ m'.live = m.live + 2 ∧ m'.cells.length = m.cells.length ∧ m'.count = m.count + 2 := by
  obtain ⟨p, m1, e1, a1, a2, a3, a4, a5, a6, a7⟩ := alloc_go ht hg (by omega) hlen (.word before) rfl
  obtain ⟨h, m2, e2, b1, b2, b3, b4, b5, b6, b7⟩ := alloc_go a4 hg (by omega) (by omega) (.blk (.age r p) .nil) rfl
  rw [a3] at b1
  have hp : ¬ h = p := fun e => by rw [if_pos e] at b1; cases b1
  rw [if_neg hp] at b1
  refine ⟨h, p, m2, ?_, b1, a1, hp, b2, a2, fun k => by rw [b3, a3], b4, by omega, by omega, by omega⟩
  rw [layP, layW_cons]
  simp only [Pr.go, e1, if_true, List.nil_append]
  rw [layW_nil]
  simp only [Pr.go, ageOf, List.getD_cons_zero, e2, if_true]
theorem makeP2_go {m : M} {g : Int} (ht : Tidy g m) (hg : g ≤ 16000) (hl : m.live + 4 ≤ (m.cells.length : Int)) (hlen : m.cells.length ≤ 65535) (low : ByteArray) (hd x y : Int) :
    ∃ h p1 p2 p3 m', (makeP low hd [x, y]).go m = ((h, 0), m') ∧ m.look h = none ∧ m.look p1 = none ∧ m.look p2 = none ∧ m.look p3 = none ∧ h ≠ p1 ∧ h ≠ p2 ∧ h ≠ p3 ∧ p1 ≠ p2 ∧ p1 ≠ p3 ∧ p2 ≠ p3 ∧ h ≠ 0 ∧ p1 ≠ 0 ∧
      (∀ k, m'.look k = if k = h then some (.blk (.node low p1 [p2, p3]) .nil) else if k = p3 then some (.word y) else if k = p2 then some (.word x) else if k = p1 then some (.word hd) else m.look k) ∧ Tidy g m' ∧ m'.live = m.live + 4 ∧ m'.cells.length = m.cells.length ∧ m'.count = m.count + 4 := by
  obtain ⟨p1, m1, e1, a1, a2, a3, a4, a5, a6, a7⟩ := alloc_go ht hg (by omega) hlen (.word hd) rfl
  obtain ⟨p2, m2, e2, b1, b2, b3, b4, b5, b6, b7⟩ := alloc_go a4 hg (by omega) (by omega) (.word x) rfl
  obtain ⟨p3, m3, e3, c1, c2, c3, c4, c5, c6, c7⟩ := alloc_go b4 hg (by omega) (by omega) (.word y) rfl
  obtain ⟨h, m4, e4, d1, d2, d3, d4, d5, d6, d7⟩ := alloc_go c4 hg (by omega) (by omega) (.blk (.node low p1 [p2, p3]) .nil) rfl
  rw [a3] at b1
  have h12 : ¬ p2 = p1 := fun e => by rw [if_pos e] at b1; cases b1
  rw [if_neg h12] at b1
  rw [b3, a3] at c1
  have h23 : ¬ p3 = p2 := fun e => by rw [if_pos e] at c1; cases c1
  rw [if_neg h23] at c1
  have h13 : ¬ p3 = p1 := fun e => by rw [if_pos e] at c1; cases c1
  rw [if_neg h13] at c1
  rw [c3, b3, a3] at d1
  have h3 : ¬ h = p3 := fun e => by rw [if_pos e] at d1; cases d1
  rw [if_neg h3] at d1
  have h2 : ¬ h = p2 := fun e => by rw [if_pos e] at d1; cases d1
  rw [if_neg h2] at d1
  have h1 : ¬ h = p1 := fun e => by rw [if_pos e] at d1; cases d1
  rw [if_neg h1] at d1
  refine ⟨h, p1, p2, p3, m4, ?_, d1, a1, b1, c1, h1, h2, h3, fun e => h12 e.symm, fun e => h13 e.symm, fun e => h23 e.symm, d2, a2, fun k => by rw [d3, c3, b3, a3], d4, by omega, by omega, by omega⟩
  rw [makeP, layW_cons]
  simp only [Pr.go, e1, if_true, List.nil_append]
  rw [layW_cons]
  simp only [Pr.go, e2, if_true, List.cons_append, List.nil_append]
  rw [layW_cons]
  simp only [Pr.go, e3, if_true, List.cons_append, List.nil_append]
  rw [layW_nil]
  simp only [Pr.go, nodeOf, List.getD_cons_zero, List.drop_succ_cons, List.drop_zero, e4, if_true]
end Go.Proofs.YtbcpdkmbbgcfbaaDoor
