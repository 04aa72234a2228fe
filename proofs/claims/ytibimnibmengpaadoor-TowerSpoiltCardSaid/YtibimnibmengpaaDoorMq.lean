/- Chains in memory, and what a quiet port makes of them: upTo, Lay, Make; rows of nodes. No condition. -/
import Derived.Test.YtibimnibmengpaaDoorNm
import Derived.Test.YtibimnibmengpaaDoorLk
namespace Go.Proofs.YtibimnibmengpaaDoor
open Go.RowKit Go.Op
set_option maxRecDepth 100000

/-- The same but for counts. -/
structure AskN (m m' : M) (n : Int) : Prop where
  cells : m'.cells = m.cells
  live : m'.live = m.live
  mono : m.count ≤ m'.count
  cnt : m'.count ≤ m.count + n
theorem AskN.refl (m : M) : AskN m m 0 := ⟨rfl, rfl, Int.le_refl _, by omega⟩
theorem AskN.ask (m : M) : AskN m m.ask 1 := ⟨rfl, rfl, by show m.count ≤ m.count + 1; omega, by show m.count + 1 ≤ m.count + 1; omega⟩
theorem AskN.trans {m m1 m2 : M} {n k : Int} (h : AskN m m1 n) (h2 : AskN m1 m2 k) : AskN m m2 (n + k) :=
  ⟨h2.cells.trans h.cells, h2.live.trans h.live, Int.le_trans h.mono h2.mono, by have := h.cnt; have := h2.cnt; omega⟩
theorem AskN.look {m m' : M} {n : Int} (h : AskN m m' n) (k : Int) : m'.look k = m.look k := look_cells h.cells k
theorem AskN.tidy {m m' : M} {n g : Int} (h : AskN m m' n) (ht : Tidy g m) : Tidy g m' := ⟨by rw [h.cells]; exact ht.gen, by rw [h.live, h.cells]; exact ht.liv⟩
theorem AskN.le {m m' : M} {n k : Int} (h : AskN m m' n) (hk : n ≤ k) : AskN m m' k := ⟨h.cells, h.live, h.mono, by have := h.cnt; omega⟩
theorem takeA_go {m : M} {h p : Int} {r : Rv} {pl : Pl} (hl : m.look h = some (.blk (.age r p) pl)) : (takeP h).go m = ((⟨r, p⟩, 0), m.ask) := by
  simp [takeP, Pr.go, Qn.on, look_load hl, heldA]
theorem node_go {m : M} {h hd : Int} {low : ByteArray} {nx : List Int} {pl : Pl} (hl : m.look h = some (.blk (.node low hd nx) pl)) : (loadP h).go m = ((⟨low, hd, nx⟩, 0), m.ask) := by
  simp [loadP, Pr.go, Qn.on, look_load hl, heldN]
theorem wordA_go {m : M} {k x : Int} (hl : m.look k = some (.word x)) : (wordP k).go m = ((x, 0), m.ask) := by
  simp [wordP, Pr.go, Qn.on, look_word hl]
/-- A chain from an age on: handle, revision, the handle of its prev; newest first. -/
def Ch (m : M) : Int → List (Int × Rv × Int) → Prop
  | h, [] => h = 0
  | h, x :: l => h = x.1 ∧ h ≠ 0 ∧ m.look h = some (.blk (.age x.2.1 x.2.2) .nil) ∧ ∃ k, m.look x.2.2 = some (.word k) ∧ Ch m k l
theorem Ch.mono {m m' : M} : ∀ {l : List (Int × Rv × Int)} {h : Int}, Ch m h l → (∀ x, x ∈ l → m'.look x.1 = m.look x.1 ∧ m'.look x.2.2 = m.look x.2.2) → Ch m' h l
  | [], _, h, _ => h
  | x :: l, _, ⟨e, h0, h1, k, h2, h3⟩, hk => by
    have q := hk x List.mem_cons_self
    exact ⟨e, h0, by rw [e, q.1, ← e]; exact h1, k, q.2.trans h2, Ch.mono h3 fun y hy => hk y (List.mem_cons_of_mem _ hy)⟩
theorem Ch.asked {m m' : M} {n : Int} {l : List (Int × Rv × Int)} {h : Int} (hc : Ch m h l) (ha : AskN m m' n) : Ch m' h l := hc.mono fun _ _ => ⟨ha.look _, ha.look _⟩
theorem Ch.age {m : M} : ∀ {l : List (Int × Rv × Int)} {h : Int}, Ch m h l → ∀ x, x ∈ l → m.look x.1 = some (.blk (.age x.2.1 x.2.2) .nil) ∧ ∃ k, m.look x.2.2 = some (.word k)
  | [], _, _, x, hx => by cases hx
  | y :: l, _, ⟨e, h0, h1, k, h2, h3⟩, x, hx => by
    rcases List.mem_cons.1 hx with rfl | hx
    · exact ⟨by rw [← e]; exact h1, k, h2⟩
    · exact Ch.age h3 x hx
theorem Ch.zero {m : M} {l : List (Int × Rv × Int)} (h : Ch m 0 l) : l = [] := by
  cases l with
  | nil => rfl
  | cons x l => exact absurd rfl h.2.1
/-- The first age that isn't newer than a version. -/
def foundS (v : Int) : List (Int × Rv × Int) → Sp × Int
  | [] => (sp0, 0)
  | x :: l => if x.2.1.ver ≤ v then (⟨x.1, ⟨x.2.1, x.2.2⟩⟩, 0) else foundS v l
theorem chain_up (v : Int) : ∀ (l : List (Int × Rv × Int)) (n : Nat) (h : Int) (m : M), Ch m h l → l ≠ [] → l.length ≤ n → ∃ bx m', (chainP wordP (upF v) n h (sp0, 0)).go m = (some (bx, foundS v l), m') ∧ AskN m m' (2 * (l.length : Int))
  | [], _, _, _, _, h0, _ => absurd rfl h0
  | x :: l, 0, _, _, _, _, hn => by simp at hn
  | x :: l, n + 1, h, m, hc, _, hn => by
    obtain ⟨e, h0, h1, k, h2, h3⟩ := hc
    rw [chainP, Pr.go_bind, takeA_go h1]
    simp only
    by_cases hv : x.2.1.ver ≤ v
    · have hf : upF v (sp0, 0) ⟨h, ⟨x.2.1, x.2.2⟩⟩ 0 = some (false, (⟨h, ⟨x.2.1, x.2.2⟩⟩, 0)) := by simp [upF, hv]
      rw [hf]
      simp only [if_true, Pr.go]
      exact ⟨true, _, by rw [foundS, if_pos hv, e], (AskN.ask m).le (by simp only [List.length_cons]; omega)⟩
    · have hf : upF v (sp0, 0) ⟨h, ⟨x.2.1, x.2.2⟩⟩ 0 = some (true, (sp0, 0)) := by simp [upF, hv]
      rw [hf]
      simp only [Bool.true_eq_false, if_false, if_true]
      rw [Pr.go_bind, wordA_go ((look_ask m _).trans h2)]
      simp only [if_true]
      have ha := (AskN.ask m).trans (AskN.ask m.ask)
      by_cases hk : k = 0
      · subst hk
        have hl := h3.zero
        subst hl
        rw [if_pos rfl]
        exact ⟨false, _, by simp only [Pr.go]; rw [foundS, if_neg hv]; rfl, ha.le (by simp)⟩
      · rw [if_neg hk]
        have hl : l ≠ [] := fun e => by subst e; exact hk h3
        obtain ⟨bx, m', e1, e2⟩ := chain_up v l n k m.ask.ask (h3.asked ha) hl (by simp only [List.length_cons] at hn; omega)
        exact ⟨bx, m', by rw [e1, foundS, if_neg hv], (ha.trans e2).le (by simp only [List.length_cons]; omega)⟩
theorem up_go {v hd h : Int} {l : List (Int × Rv × Int)} {n : Nat} {m : M} (hw : m.look hd = some (.word h)) (hc : Ch m h l) (h0 : l ≠ []) (hn : l.length ≤ n) : ∃ m', (upP n hd v).go m = (some (foundS v l), m') ∧ AskN m m' (2 * (l.length : Int) + 1) := by
  obtain ⟨bx, m', e1, e2⟩ := chain_up v l n h m.ask (hc.asked (AskN.ask m)) h0 hn
  refine ⟨m', ?_, ((AskN.ask m).trans e2).le (by omega)⟩
  rw [upP, Pr.go_bind, wordA_go hw]
  simp only [if_true]
  rw [Pr.go_bind, e1]
  rfl
/-- Words and a block are allocated. -/
theorem alloc_go {m : M} {g : Int} (ht : Tidy g m) (hg : g ≤ 16000) (hl : m.live < (m.cells.length : Int)) (hlen : m.cells.length ≤ 65535) (x : Held) (hx : x.busy = true) :
    ∃ h m', (Qn.alloc x).on m = (m', ⟨.no, h, false, 0⟩) ∧ m.look h = none ∧ h ≠ 0 ∧ (∀ k, m'.look k = if k = h then some x else m.look k) ∧ Tidy g m' ∧ m'.live = m.live + 1 ∧ m'.cells.length = m.cells.length ∧ m'.count = m.count + 1 := by
  obtain ⟨m', h, e, h1, h2, h3, h4, h5, h6, h7⟩ := alloc_yes ht hg hl hlen x hx
  exact ⟨h, m', by simp only [Qn.on, e], h1, h7, h2, h3, h4, h5, h6⟩
theorem layP_go {m : M} {g : Int} (ht : Tidy g m) (hg : g ≤ 16000) (hl : m.live + 2 ≤ (m.cells.length : Int)) (hlen : m.cells.length ≤ 65535) (r : Rv) (before : Int) :
    ∃ h p m', (layP r before).go m = ((h, 0), m') ∧ m.look h = none ∧ m.look p = none ∧ h ≠ p ∧ h ≠ 0 ∧ p ≠ 0 ∧ (∀ k, m'.look k = if k = h then some (.blk (.age r p) .nil) else if k = p then some (.word before) else m.look k) ∧ Tidy g m' ∧ m'.live = m.live + 2 ∧ m'.cells.length = m.cells.length ∧ m'.count = m.count + 2 := by
  obtain ⟨p, m1, e1, a1, a2, a3, a4, a5, a6, a7⟩ := alloc_go ht hg (by omega) hlen (.word before) rfl
  obtain ⟨h, m2, e2, b1, b2, b3, b4, b5, b6, b7⟩ := alloc_go a4 hg (by omega) (by omega) (.blk (.age r p) .nil) rfl
  rw [a3] at b1
  have hp : ¬ h = p := fun e => by rw [if_pos e] at b1; cases b1
  rw [if_neg hp] at b1
  refine ⟨h, p, m2, ?_, b1, a1, hp, b2, a2, fun k => by rw [b3, a3], b4, by omega, by omega, by omega⟩
  rw [layP, layW_cons]
  simp only [Pr.go, e1, if_true, List.nil_append]
  rw [layW_nil]
  simp only [Pr.go, ageOf, List.getD_cons_zero, e2, if_true]
theorem But.belowAt {w w1 : World} {z B : Nat} (h : But z w w1) (hz : B ≤ z) (hB : B ≤ w.heap.size) : Below B w w1 := ⟨h.os, h.tape, h.output, h.size, fun k hk => h.block k (by omega) (by omega)⟩
end Go.Proofs.YtibimnibmengpaaDoor
