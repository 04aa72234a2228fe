/- What the law's Same answers of two rows that hold the same words: 1. No condition but that the rows lie there. -/
import Derived.Test.YtponiboiijgllaaDoorLWalkO
namespace Go.Proofs.YtponiboiijgllaaDoor
open Go.RowKit
set_option maxRecDepth 100000

/-- A row of words that may be read: of the code's boxes, of the reference's. -/
def SeesB (w : World) (v : Value) (l : List Bx) : Prop := (l = [] ∧ ∃ a c, v = .slice a 0 c) ∨ ∃ g c, v = .slice (some ⟨g, 0, none⟩) l.length c ∧ g < w.heap.size ∧ ∀ k (hk : k < l.length), w.cell? ⟨g, k, none⟩ = some (l[k]'hk).v
def SeesR (w : World) (v : Value) (l : List Bx) : Prop := (l = [] ∧ ∃ a c, v = .slice a 0 c) ∨ ∃ g c, v = .slice (some ⟨g, 0, none⟩) l.length c ∧ g < w.heap.size ∧ ∀ k (hk : k < l.length), w.cell? ⟨g, k * 3, none⟩ = some (.int .i64 (l[k]'hk).kd) ∧ w.cell? ⟨g, k * 3 + 1, none⟩ = some (.int .i64 (l[k]'hk).int) ∧ w.cell? ⟨g, k * 3 + 2, none⟩ = some (.string (l[k]'hk).str)
theorem own_cells {T size : Nat} {w : World} {base : Nat} {v : Value} {n : Nat} {xs : List Value} (h : OwnT T size w base v n xs) {g c : Nat} (hv : v = .slice (some ⟨g, 0, none⟩) n c) (j : Nat) (u : Value) (hj : xs[j]? = some u) : w.cell? ⟨g, j, none⟩ = some u := by
  have := World.ownsRow.cells h (g := g) (by rw [hv]; rfl) j u hj
  rw [show (⟨g, 0, none⟩ : Addr).add j = ⟨g, j, none⟩ by simp [Addr.add]; rintro rfl; rfl] at this
  exact this
theorem own_form {T size : Nat} {w : World} {base : Nat} {v : Value} {n : Nat} {xs : List Value} (h : OwnT T size w base v n xs) : (n = 0 ∧ v = .slice none 0 0) ∨ ∃ g c, v = .slice (some ⟨g, 0, none⟩) n c ∧ g < w.heap.size := by
  rcases h.2 with ⟨rfl, rfl⟩ | ⟨g, cap, cur, rfl, b, c, d⟩
  · exact .inl ⟨rfl, rfl⟩
  · exact .inr ⟨g, cap, rfl, block_lt c⟩
theorem OwnT.seesB {w : World} {base : Nat} {v : Value} {l : List Bx} (h : OwnT 52 1 w base v l.length (boxRow l)) : SeesB w v l := by
  rcases own_form h with ⟨h0, hv⟩ | ⟨g, c, hv, hg⟩
  · exact .inl ⟨List.eq_nil_of_length_eq_zero h0, none, 0, hv⟩
  · exact .inr ⟨g, c, hv, hg, fun k hk => own_cells h hv k _ (by simp [boxRow, hk])⟩
theorem refRow_at (l : List Bx) : ∀ (k : Nat) (hk : k < l.length), (refRow l)[k * 3]? = some (.int .i64 (l[k]'hk).kd) ∧ (refRow l)[k * 3 + 1]? = some (.int .i64 (l[k]'hk).int) ∧ (refRow l)[k * 3 + 2]? = some (.string (l[k]'hk).str) := by
  induction l with
  | nil => intro k hk; simp at hk
  | cons b t ih =>
    intro k hk
    have e : refRow (b :: t) = .int .i64 b.kd :: .int .i64 b.int :: .string b.str :: refRow t := by simp [refRow]
    rw [e]
    rcases k with _ | k
    · exact ⟨rfl, rfl, rfl⟩
    · have := ih k (by simpa using hk)
      rw [show (k + 1) * 3 = k * 3 + 1 + 1 + 1 by omega]
      simp only [List.getElem?_cons_succ, List.getElem_cons_succ]
      exact this
theorem OwnT.seesR {w : World} {base : Nat} {v : Value} {l : List Bx} (h : OwnT 43 3 w base v l.length (refRow l)) : SeesR w v l := by
  rcases own_form h with ⟨h0, hv⟩ | ⟨g, c, hv, hg⟩
  · exact .inl ⟨List.eq_nil_of_length_eq_zero h0, none, 0, hv⟩
  · refine .inr ⟨g, c, hv, hg, fun k hk => ?_⟩
    obtain ⟨h1, h2, h3⟩ := refRow_at l k hk
    exact ⟨own_cells h hv _ _ h1, own_cells h hv _ _ h2, own_cells h hv _ _ h3⟩
theorem SeesB.below {w w' : World} {v : Value} {l : List Bx} (h : SeesB w v l) (hb : Below w.heap.size w w') : SeesB w' v l := by
  rcases h with h | ⟨g, c, hv, hg, hc⟩
  · exact .inl h
  · exact .inr ⟨g, c, hv, Nat.lt_of_lt_of_le hg hb.size, fun k hk => keep hb (hc k hk) hg⟩
theorem SeesR.below {w w' : World} {v : Value} {l : List Bx} (h : SeesR w v l) (hb : Below w.heap.size w w') : SeesR w' v l := by
  rcases h with h | ⟨g, c, hv, hg, hc⟩
  · exact .inl h
  · exact .inr ⟨g, c, hv, Nat.lt_of_lt_of_le hg hb.size, fun k hk => ⟨keep hb (hc k hk).1 hg, keep hb (hc k hk).2.1 hg, keep hb (hc k hk).2.2 hg⟩⟩

set_option maxHeartbeats 1000000 in
theorem sameB_nil (a1 a2 : Option Addr) (c1 c2 : Nat) (w : World) : Calls Tryd.prog 10 #[.slice a1 0 c1, .slice a2 0 c2] w fun e w' => e = .returned (.int .i64 1) ∧ Below w.heap.size w w' := by
  go_enter Tryd.func10, Tryd.ntmps10
  go_wp2
  go_rounds 1
  go_ret
  exact ⟨rfl, Below.refl _ _⟩

theorem plain_guard (b : Bx) (xo yo : Operand) (w : World) : (eqGuard .neq 43 xo yo b.plain (.agg #[.int .i64 b.kd, .int .i64 b.int, .string b.str])).run Tryd.prog w = .ok () w := by
  unfold Bx.plain
  have h : Tryd.prog.eqGuardType Tryd.prog.depth 43 = false := by kernel_rfl
  simp [eqGuard, h]
theorem plain_same (b : Bx) (w : World) : (binOp .neq 43 b.plain (.agg #[.int .i64 b.kd, .int .i64 b.int, .string b.str])).run Tryd.prog w = .ok (.bool false) w := by
  unfold Bx.plain
  go_simp
theorem held_start (wr : World) {g1 g2 k : Nat} {b : Bx} (h1 : wr.cell? ⟨g1, k, none⟩ = some b.v) (h2 : wr.cell? ⟨g2, k * 3, none⟩ = some (.int .i64 b.kd)) (h3 : wr.cell? ⟨g2, k * 3 + 1, none⟩ = some (.int .i64 b.int)) (h4 : wr.cell? ⟨g2, k * 3 + 2, none⟩ = some (.string b.str)) (hg1 : g1 < wr.heap.size) (hg2 : g2 < wr.heap.size) :
    wr.drew.cell? ⟨g1, k, none⟩ = some b.v ∧ wr.drew.cell? ⟨g2, k * 3, none⟩ = some (.int .i64 b.kd) ∧ wr.drew.cell? ⟨g2, k * 3 + 1, none⟩ = some (.int .i64 b.int) ∧ wr.drew.cell? ⟨g2, k * 3 + 2, none⟩ = some (.string b.str) ∧ g1 < wr.drew.heap.size ∧ g2 < wr.drew.heap.size ∧ Below wr.heap.size wr wr.drew :=
  ⟨h1, h2, h3, h4, hg1, hg2, drew_below (Below.refl _ _)⟩
theorem held_keep {wr w1 w2 : World} {g1 g2 k : Nat} {b : Bx} (h : w1.cell? ⟨g1, k, none⟩ = some b.v ∧ w1.cell? ⟨g2, k * 3, none⟩ = some (.int .i64 b.kd) ∧ w1.cell? ⟨g2, k * 3 + 1, none⟩ = some (.int .i64 b.int) ∧ w1.cell? ⟨g2, k * 3 + 2, none⟩ = some (.string b.str) ∧ g1 < w1.heap.size ∧ g2 < w1.heap.size ∧ Below wr.heap.size wr w1) (hb : Below w1.heap.size w1 w2) :
    w2.cell? ⟨g1, k, none⟩ = some b.v ∧ w2.cell? ⟨g2, k * 3, none⟩ = some (.int .i64 b.kd) ∧ w2.cell? ⟨g2, k * 3 + 1, none⟩ = some (.int .i64 b.int) ∧ w2.cell? ⟨g2, k * 3 + 2, none⟩ = some (.string b.str) ∧ g1 < w2.heap.size ∧ g2 < w2.heap.size ∧ Below wr.heap.size wr w2 := by
  obtain ⟨h1, h2, h3, h4, h5, h6, h7⟩ := h
  exact ⟨keep hb h1 h5, keep hb h2 h6, keep hb h3 h6, keep hb h4 h6, Nat.lt_of_lt_of_le h5 hb.size, Nat.lt_of_lt_of_le h6 hb.size, h7.trans (hb.mono h7.size)⟩

set_option maxHeartbeats 4000000 in
theorem sameB_row (l : List Bx) (hl : l.length ≤ 100000000) (g1 g2 c1 c2 : Nat) (w : World) (hg1 : g1 < w.heap.size) (hg2 : g2 < w.heap.size) (h1 : ∀ k (hk : k < l.length), w.cell? ⟨g1, k, none⟩ = some (l[k]'hk).v)
    (h2 : ∀ k (hk : k < l.length), w.cell? ⟨g2, k * 3, none⟩ = some (.int .i64 (l[k]'hk).kd) ∧ w.cell? ⟨g2, k * 3 + 1, none⟩ = some (.int .i64 (l[k]'hk).int) ∧ w.cell? ⟨g2, k * 3 + 2, none⟩ = some (.string (l[k]'hk).str)) :
    Calls Tryd.prog 10 #[.slice (some ⟨g1, 0, none⟩) l.length c1, .slice (some ⟨g2, 0, none⟩) l.length c2] w fun e w' => e = .returned (.int .i64 1) ∧ Below w.heap.size w w' := by
  have H1 := Lib.hid h1
  have H2 := Lib.hid h2
  clear h1 h2
  have pg := plain_guard
  have pn := plain_same
  go_enter Tryd.func10, Tryd.ntmps10
  go_wp2
  go_loopw [5] (fun i wr => ∃ k : Nat, k ≤ l.length ∧ i = .int .i64 k ∧ Below w.heap.size w wr) (fun i _ => l.length - (intOf i).toNat)
  case atStart => exact ⟨0, by omega, rfl, Below.refl _ _⟩
  case round =>
    obtain ⟨k, hk, rfl, hb⟩ := hrel
    have hsz := hb.size
    by_cases hp : k < l.length
    · have hi : (k : Int) < (l.length : Int) := by omega
      obtain ⟨x, hx⟩ : ∃ x, x = l[k]'hp := ⟨_, rfl⟩
      have e1 : wr.cell? ⟨g1, k, none⟩ = some x.v := by rw [hx]; exact keep hb (H1.out k hp) hg1
      have e2 : wr.cell? ⟨g2, k * 3, none⟩ = some (.int .i64 x.kd) := by rw [hx]; exact keep hb (H2.out k hp).1 hg2
      have e3 : wr.cell? ⟨g2, k * 3 + 1, none⟩ = some (.int .i64 x.int) := by rw [hx]; exact keep hb (H2.out k hp).2.1 hg2
      have e4 : wr.cell? ⟨g2, k * 3 + 2, none⟩ = some (.string x.str) := by rw [hx]; exact keep hb (H2.out k hp).2.2 hg2
      have e5 : g1 < wr.heap.size := by omega
      have e6 : g2 < wr.heap.size := by omega
      clear hx
      go_wp2_with fail
      go_region_held3 (fun w' => w'.cell? ⟨g1, k, none⟩ = some x.v ∧ w'.cell? ⟨g2, k * 3, none⟩ = some (.int .i64 x.kd) ∧ w'.cell? ⟨g2, k * 3 + 1, none⟩ = some (.int .i64 x.int) ∧ w'.cell? ⟨g2, k * 3 + 2, none⟩ = some (.string x.str) ∧ g1 < w'.heap.size ∧ g2 < w'.heap.size ∧ Below wr.heap.size wr w')
        (first | exact held_start wr e1 e2 e3 e4 e5 e6 | assumption | (refine held_keep ?_ hbc; assumption))
        (first | (go_at_call 24; refine (plainLaw_any x _).mono ?_; rintro e w' ⟨rfl, hbc⟩))
      rcases ‹_ ∧ _ ∧ _ ∧ _ ∧ _ ∧ _ ∧ Below wr.heap.size wr _› with ⟨_, _, _, _, _, _, hB⟩
      go_wp2
      go_roundw
      case rel => exact ⟨k + 1, by omega, by go_num, hb.trans (hB.mono hsz)⟩
      case measure => simp [intOf]; omega
    · have hi : ¬ (k : Int) < (l.length : Int) := by omega
      go_wp2
      go_ret
      exact ⟨rfl, hb⟩
end Go.Proofs.YtponiboiijgllaaDoor
