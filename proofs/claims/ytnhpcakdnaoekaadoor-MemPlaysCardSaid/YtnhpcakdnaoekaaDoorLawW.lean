/- MemWords's law: at any acts it answers true. Conditions: the acts can be read; the library's table stands. -/
import Derived.Test.YtnhpcakdnaoekaaDoorOpen
namespace Go.Proofs.YtnhpcakdnaoekaaDoor
open Go.RowKit Go.Op
set_option maxRecDepth 100000

/-- Two cells, each with a word, never freed. -/
def Two (m : M) (x y : Int) : Prop := m.cells = [⟨.word x, 0, false, 0⟩, ⟨.word y, 0, false, 0⟩]
theorem two_at1 {m : M} {x y : Int} (h : Two m x y) : m.at 1 = some (0, ⟨.word x, 0, false, 0⟩) := by
  have hs : m.seek 1 = some 0 := by
    unfold M.seek
    rw [show m.cells = _ from h]
    rfl
  exact at_some hs (by rw [show m.cells = _ from h]; rfl)
theorem two_at2 {m : M} {x y : Int} (h : Two m x y) : m.at 2 = some (1, ⟨.word y, 0, false, 0⟩) := by
  have hs : m.seek 2 = some 1 := by
    unfold M.seek
    rw [show m.cells = _ from h]
    rfl
  exact at_some hs (by rw [show m.cells = _ from h]; rfl)
theorem two_start (x y : Int) : ((M.new 2).alloc (.word x)).2 = (1, 0) ∧ (((M.new 2).alloc (.word x)).1.alloc (.word y)).2 = (2, 0) ∧ Two (((M.new 2).alloc (.word x)).1.alloc (.word y)).1 x y := ⟨rfl, rfl, rfl⟩
theorem two_word {m : M} {x y : Int} (h : Two m x y) : (m.word 1).2 = (x, 0) ∧ Two (m.word 1).1 x y := by
  unfold M.word
  rw [two_at1 h]
  exact ⟨rfl, h⟩
theorem two_store1 {m : M} {x y : Int} (h : Two m x y) (n : Int) : (m.store 1 n).2 = 0 ∧ Two (m.store 1 n).1 n y := by
  unfold M.store
  rw [two_at1 h]
  refine ⟨rfl, ?_⟩
  show m.cells.set 0 _ = _
  rw [show m.cells = _ from h]; rfl
theorem two_store2 {m : M} {x y : Int} (h : Two m x y) (n : Int) : (m.store 2 n).2 = 0 ∧ Two (m.store 2 n).1 x n := by
  unfold M.store
  rw [two_at2 h]
  refine ⟨rfl, ?_⟩
  show m.cells.set 1 _ = _
  rw [show m.cells = _ from h]; rfl
theorem two_swap1 {m : M} {x y : Int} (h : Two m x y) (o n : Int) : (m.swap 1 o n).2 = (decide (x = o), 0) ∧ Two (m.swap 1 o n).1 (if x = o then n else x) y := by
  unfold M.swap
  rw [two_at1 h]
  by_cases e : x = o
  · simp only [if_pos e, decide_eq_true e]
    refine ⟨trivial, ?_⟩
    show m.cells.set 0 _ = _
    rw [show m.cells = _ from h]; rfl
  · simp only [if_neg e, decide_eq_false e]
    exact ⟨trivial, h⟩
theorem two_swap2 {m : M} {x y : Int} (h : Two m x y) (o n : Int) : (m.swap 2 o n).2.2 = 0 ∧ ∃ z, Two (m.swap 2 o n).1 x z := by
  unfold M.swap
  rw [two_at2 h]
  by_cases e : y = o
  · simp only [if_pos e]
    refine ⟨trivial, n, ?_⟩
    show m.cells.set 1 _ = _
    rw [show m.cells = _ from h]; rfl
  · simp only [if_neg e]
    exact ⟨trivial, y, h⟩

theorem alloc_cell (w : World) (vs : Array Value) (t : TypeId) (i : Nat) (v : Value) (h : vs[i]? = some v) : (w.alloc (.cells vs t)).cell? ⟨w.heap.size, i, none⟩ = some v := by
  rw [World.cell?_alloc_new]; exact h
theorem kcell {b c r p o : Nat} {W W' : World} {x : Value} (hk : Kept b c r W W') (h : W.cell? ⟨p, o, none⟩ = some x) (hp : p < W.heap.size ∧ b ≠ p ∧ c ≠ p ∧ r ≠ p) : W'.cell? ⟨p, o, none⟩ = some x := by
  rw [hk.cell (p := ⟨p, o, none⟩) hp.1 hp.2.1.symm hp.2.2.1.symm hp.2.2.2.symm]; exact h
theorem kmine {b c r p : Nat} {W W' : World} (hk : Kept b c r W W') (hp : p < W.heap.size ∧ b ≠ p ∧ c ≠ p ∧ r ≠ p) : p < W'.heap.size ∧ b ≠ p ∧ c ≠ p ∧ r ≠ p :=
  ⟨Nat.lt_of_lt_of_le hp.1 hk.size, hp.2⟩
/-- An act, put into a variable of the call's own. -/
theorem own_act {w0 w : World} {b c r : Nat} {N : Int} {m : M} (h : Has w0 b c r N w m) (x : Ac) (W : World) (hW : W = w.alloc (.cells #[.int .u8 x.act, .int .i64 x.pos, .int .i64 x.n, .int .i64 x.m, .bool x.raw] 37)) :
    Has w0 b c r N W m ∧ (w.heap.size < W.heap.size ∧ b ≠ w.heap.size ∧ c ≠ w.heap.size ∧ r ≠ w.heap.size) ∧ AcAt W w.heap.size 0 x ∧ Below w.heap.size w W := by
  subst hW
  have hb := (Below.refl w.heap.size w).alloc (Nat.le_refl _) (.cells #[.int .u8 x.act, .int .i64 x.pos, .int .i64 x.n, .int .i64 x.m, .bool x.raw] 37)
  have h1 := h.at_.own.lb
  have h2 := h.at_.own.lc
  have h3 := h.at_.own.lr
  exact ⟨h.later hb, ⟨by simp, by omega, by omega, by omega⟩, ⟨alloc_cell _ _ _ 0 _ rfl, alloc_cell _ _ _ 1 _ rfl, alloc_cell _ _ _ 2 _ rfl, alloc_cell _ _ _ 3 _ rfl, alloc_cell _ _ _ 4 _ rfl⟩, hb⟩
theorem Acts.at {w0 w : World} {a : Option Addr} {l : List Ac} (h : Acts w0 a l) (hb : Below w0.heap.size w0 w) {k : Nat} (hk : k < l.length) : ∃ b off, a = some ⟨b, off, none⟩ ∧ AcAt w b (off + k * 5) (l[k]'hk) := by
  rcases h.below hb with rfl | ⟨b, off, rfl, _, hc⟩
  · simp at hk
  · exact ⟨b, off, rfl, hc k hk⟩

set_option maxHeartbeats 4000000 in
theorem words_law (first other : Int) (a : Option Addr) (l : List Ac) (cap : Nat) (w : World) (hT : TabAt w) (hL : Acts w a l) (hO : ActsOk l) :
    Calls Tryd.prog 5 #[.int .i64 first, .int .i64 other, .slice a l.length cap] w fun e w' => e = .returned (.bool true) ∧ Below w.heap.size w w' := by
  have haw := fun w2 h2 => awake_any w2 (hT.below (w' := w2) h2)
  have HT := Lib.hid hT
  have HL := Lib.hid hL
  have HO := Lib.hid hO
  clear hL hO hT
  by_cases hlen : l.length ≤ 200
  · have h1 : (l.length : Int) ≤ 200 := by omega
    go_enter Tryd.func5, Tryd.ntmps5
    go_wp2_with fail
    refine (haw _ (Below.refl _ _)).mono ?_
    rintro e w1 ⟨rfl, b1⟩
    have hn := has_new 2 (by decide) (by decide) b1
    clear haw
    go_wp2_with fail
    refine hn.mono ?_
    rintro e w2 ⟨b, c, r, rfl, hH⟩
    obtain ⟨e1, e2, e3⟩ := two_start first other
    have hc1 := hH.allocword HT.out (by decide) first
    rw [e1] at hc1
    simp only at hc1
    clear hn b1
    go_wp2_with fail
    refine hc1.mono ?_
    rintro e w3 ⟨rfl, h3, _⟩
    have hc2 := h3.allocword HT.out (by decide) other
    rw [e2] at hc2
    simp only at hc2
    clear hc1 hH
    go_wp2_with fail
    refine hc2.mono ?_
    rintro e w4 ⟨rfl, h4, _⟩
    have HH : Hid (Has w b c r 2 w4 (((M.new 2).alloc (.word first)).1.alloc (.word other)).1 ∧ Two (((M.new 2).alloc (.word first)).1.alloc (.word other)).1 first other) := ⟨h4.less (by decide), e3⟩
    clear h3 h4 e1 e2 e3 hc2
    generalize (((M.new 2).alloc (.word first)).1.alloc (.word other)).1 = m0 at HH
    go_wp2_with fail
    go_loopw [13, 14] (fun nv iv wr => ∃ (i : Nat) (m : M) (x y : Int), i ≤ l.length ∧ nv = .int .i64 x ∧ iv = .int .i64 (i : Int) ∧ Hid (Has w b c r (2 + 3 * i) wr m ∧ Two m x y)) (fun _ iv _ => l.length - (intOf iv).toNat)
    case atStart => exact ⟨0, m0, first, other, by omega, rfl, rfl, HH.out⟩
    case round =>
      obtain ⟨i, m, x, y, hi, rfl, rfl, hR⟩ := hrel
      clear HH
      obtain ⟨wo, hwo⟩ : ∃ wo, wo = wr := ⟨_, rfl⟩
      subst hwo
      by_cases hlt : i < l.length
      · have i1 : (i : Int) < (l.length : Int) := by omega
        obtain ⟨pb, off, rfl, k0, k1, k2, k3, k4⟩ := HL.out.at hR.out.1.below hlt
        obtain ⟨g0, g1, _⟩ := HO.out _ (List.getElem_mem hlt)
        generalize l[i] = z at k0 k1 k2 k3 k4 g0 g1
        obtain ⟨W, hW⟩ : ∃ W, W = wo.alloc (.cells #[.int .u8 z.act, .int .i64 z.pos, .int .i64 z.n, .int .i64 z.m, .bool z.raw] 37) := ⟨_, rfl⟩
        obtain ⟨hH, hM, ⟨q0, q1, q2, q3, q4⟩, _⟩ := own_act hR.out.1 z W hW
        have HW := Lib.hid hW
        have HE := Lib.hid hR.out.2
        clear hR hW
        cases hr : z.raw with
        | true =>
          rw [hr] at k4 HW
          obtain ⟨e1, e2⟩ := two_store2 HE.out z.n
          have hc1 := hH.store (by omega) 2 z.n
          rw [e1] at hc1
          go_wp2_with fail
          rw [← HW.out]
          refine hc1.mono ?_
          rintro e w5 ⟨rfl, h5, hk5⟩
          have q2' := kcell hk5 q2 hM
          have q3' := kcell hk5 q3 hM
          obtain ⟨e3, z3, e4⟩ := two_swap2 e2 z.n z.m
          have hc2 := h5.swap (by omega) 2 z.n z.m
          have E4 := Lib.hid e4
          clear hc1 q0 q1 q2 q3 q4 hH hM k0 k1 k2 k3 k4 e1 e3 e4
          go_wp2_with fail
          refine hc2.mono ?_
          rintro e w6 ⟨rfl, h6, hk6⟩
          clear hc2 q2' q3' h5 hk5 e2 hk6
          obtain ⟨e4, e5⟩ := two_word E4.out
          have hc4 := h6.word (by omega) 1
          rw [e4] at hc4
          simp only at hc4
          have E5 := Lib.hid e5
          clear h6 e4 e5
          go_wp2_with fail
          refine hc4.mono ?_
          rintro e w9 ⟨rfl, h9, _⟩
          have H9 := Lib.hid h9
          clear h9 hc4
          go_wp2_with fail
          go_roundw
          case rel => exact ⟨i + 1, _, _, _, by omega, rfl, by go_num, H9.out.less (by omega), E5.out⟩
          case measure => simp [intOf]; omega
        | false =>
          rw [hr] at k4 HW
          by_cases hev : z.act % 2 = 0
          · have hev2 : (z.act % 2 == 0) = true := by simpa using hev
            obtain ⟨e1, e2⟩ := two_store1 HE.out z.n
            have hc1 := hH.store (by omega) 1 z.n
            rw [e1] at hc1
            clear hev
            have E4 := Lib.hid e2
            go_wp2_with fail
            rw [← HW.out]
            refine hc1.mono ?_
            rintro e w6 ⟨rfl, h6, hk5⟩
            have q2' := kcell hk5 q2 hM
            clear hc1 q0 q1 q2 q3 q4 hH hM k0 k1 k2 k3 k4 e1 e2 hk5
            obtain ⟨e4, e5⟩ := two_word E4.out
            have hc4 := h6.word (by omega) 1
            rw [e4] at hc4
            simp only at hc4
            have E5 := Lib.hid e5
            clear h6 e4 e5
            go_wp2_with fail
            refine hc4.mono ?_
            rintro e w9 ⟨rfl, h9, _⟩
            have H9 := Lib.hid h9
            clear h9 hc4
            go_wp2_with fail
            go_roundw
            case rel => exact ⟨i + 1, _, _, _, by omega, rfl, by go_num, H9.out.less (by omega), E5.out⟩
            case measure => simp [intOf]; omega
          · have hev2 : (z.act % 2 == 0) = false := by simpa using hev
            clear hev
            obtain ⟨e1, e2⟩ := two_swap1 HE.out z.n z.m
            have hc1 := hH.swap (by omega) 1 z.n z.m
            rw [e1] at hc1
            simp only at hc1
            by_cases hx : x = z.n
            · have hx2 : (x == z.n) = true := by simpa using hx
              rw [if_pos hx] at e2
              rw [decide_eq_true hx] at hc1
              clear hx
              have E4 := Lib.hid e2
              go_wp2_with fail
              rw [← HW.out]
              refine hc1.mono ?_
              rintro e w6 ⟨rfl, h6, hk5⟩
              have q2' := kcell hk5 q2 hM
              have q3' := kcell hk5 q3 hM
              clear hc1 q0 q1 q2 q3 q4 hH hM k0 k1 k2 k3 k4 e1 e2 hk5
              obtain ⟨e4, e5⟩ := two_word E4.out
              have hc4 := h6.word (by omega) 1
              rw [e4] at hc4
              simp only at hc4
              have E5 := Lib.hid e5
              clear h6 e4 e5
              go_wp2_with fail
              refine hc4.mono ?_
              rintro e w9 ⟨rfl, h9, _⟩
              have H9 := Lib.hid h9
              clear h9 hc4
              go_wp2_with fail
              go_roundw
              case rel => exact ⟨i + 1, _, _, _, by omega, rfl, by go_num, H9.out.less (by omega), E5.out⟩
              case measure => simp [intOf]; omega
            · have hx2 : (x == z.n) = false := by simpa using hx
              rw [if_neg hx] at e2
              rw [decide_eq_false hx] at hc1
              clear hx
              have E4 := Lib.hid e2
              go_wp2_with fail
              rw [← HW.out]
              refine hc1.mono ?_
              rintro e w6 ⟨rfl, h6, hk5⟩
              have q2' := kcell hk5 q2 hM
              have q3' := kcell hk5 q3 hM
              clear hc1 q0 q1 q2 q3 q4 hH hM k0 k1 k2 k3 k4 e1 e2 hk5
              obtain ⟨e4, e5⟩ := two_word E4.out
              have hc4 := h6.word (by omega) 1
              rw [e4] at hc4
              simp only at hc4
              have E5 := Lib.hid e5
              clear h6 e4 e5
              go_wp2_with fail
              refine hc4.mono ?_
              rintro e w9 ⟨rfl, h9, _⟩
              have H9 := Lib.hid h9
              clear h9 hc4
              go_wp2_with fail
              go_roundw
              case rel => exact ⟨i + 1, _, _, _, by omega, rfl, by go_num, H9.out.less (by omega), E5.out⟩
              case measure => simp [intOf]; omega
      · have i1 : ¬ (i : Int) < (l.length : Int) := by omega
        have HB := Lib.hid hR.out.1.below
        clear hR
        go_wp2
        go_ret
        exact ⟨rfl, HB.out⟩
  · have h1 : ¬ (l.length : Int) ≤ 200 := by omega
    go_enter Tryd.func5, Tryd.ntmps5
    go_wp2_with fail
    refine (haw _ (Below.refl _ _)).mono ?_
    rintro e w1 ⟨rfl, b1⟩
    have haw2 := haw _ b1
    have hsz := b1.size
    have HB := Lib.hid b1
    clear b1 haw
    go_wp2_with fail
    refine haw2.mono ?_
    rintro e w2 ⟨rfl, b2⟩
    have HE := Lib.hid (HB.out.trans (b2.mono hsz))
    clear b2
    go_wp2
    go_ret
    exact ⟨rfl, HE.out⟩
theorem wordsLaw (a : Int) (_ha : (Lit.int .i64 a).wf = true) (b : Int) (_hb : (Lit.int .i64 b).wf = true) (ad : Option Addr) (l : List Ac) (cap : Nat) {w : World} (hL : Acts w ad l) (hO : ActsOk l) (_W : World) (hT : TabAt w) : Calls Tryd.prog 5 #[.int .i64 a, .int .i64 b, .slice ad l.length cap] w fun e w' => e = .returned (.bool true) ∧ Below w.heap.size w w' :=
  words_law a b ad l cap w hT hL hO
end Go.Proofs.YtnhpcakdnaoekaaDoor
