/- Memory's calls on a memory of the call's own. Conditions: at most 1000000000 asks so far; the library's table stands. -/
import Derived.Test.YthdcilbbllldiaaDoorWalkH
namespace Go.Proofs.YthdcilbbllldiaaDoor
open Go.RowKit Go.Op
set_option maxRecDepth 100000

theorem Has.later {w0 w w' : World} {b c r : Nat} {N : Int} {m : M} (h : Has w0 b c r N w m) (hb : Below w.heap.size w w') : Has w0 b c r N w' m :=
  ⟨AtF.below h.at_ hb, h.ok, h.below.trans (hb.mono h.below.size), h.hb, h.hc, h.hr⟩
section
variable {w0 w : World} {b c r : Nat} {N : Int} {m : M}
/-- The calls, on a memory of the call's own. -/
theorem Has.allocword (h : Has w0 b c r N w m) (hT : TabAt w0) (hN : N ≤ 1000000000) (n : Int) : Calls Tryd.prog 23 #[.pointer (some ⟨b, 0, none⟩), .int .i64 n] w fun e w' => e = .returned (.tuple #[.int .i64 (m.alloc (.word n)).2.1, .int .i64 (m.alloc (.word n)).2.2]) ∧ Has w0 b c r (N + 1) w' (m.alloc (.word n)).1 ∧ Kept b c r w w' := by
  obtain ⟨t1, t2, t3, t4⟩ := h.tab hT
  refine (allocword_any w b c r m n h.at_ (h.ok.mono (by omega)) t1 t2 t4).mono ?_
  rintro e w1 ⟨rfl, a, k⟩
  exact ⟨rfl, h.step a k h.ok.alloc, k⟩
theorem Has.word (h : Has w0 b c r N w m) (hN : N ≤ 1000000000) (n : Int) : Calls Tryd.prog 28 #[.pointer (some ⟨b, 0, none⟩), .int .i64 n] w fun e w' => e = .returned (.tuple #[.int .i64 (m.word n).2.1, .int .i64 (m.word n).2.2]) ∧ Has w0 b c r (N + 1) w' (m.word n).1 ∧ Kept b c r w w' := by
  refine (word_any w b c r m n h.at_ (h.ok.mono (by omega))).mono ?_
  rintro e w1 ⟨rfl, a, k⟩
  exact ⟨rfl, h.step a k (h.ok.word n), k⟩
theorem Has.store (h : Has w0 b c r N w m) (hN : N ≤ 1000000000) (a n : Int) : Calls Tryd.prog 61 #[.pointer (some ⟨b, 0, none⟩), .int .i64 a, .int .i64 n] w fun e w' => e = .returned (.int .i64 (m.store a n).2) ∧ Has w0 b c r (N + 1) w' (m.store a n).1 ∧ Kept b c r w w' := by
  refine (store_any w b c r m a n h.at_ (h.ok.mono (by omega))).mono ?_
  rintro e w1 ⟨rfl, ha, k⟩
  exact ⟨rfl, h.step ha k (h.ok.store a n), k⟩
theorem Has.swap (h : Has w0 b c r N w m) (hN : N ≤ 1000000000) (a o n : Int) : Calls Tryd.prog 47 #[.pointer (some ⟨b, 0, none⟩), .int .i64 a, .int .i64 o, .int .i64 n] w fun e w' => e = .returned (.tuple #[.bool (m.swap a o n).2.1, .int .i64 (m.swap a o n).2.2]) ∧ Has w0 b c r (N + 1) w' (m.swap a o n).1 ∧ Kept b c r w w' := by
  refine (swap_any w b c r m a o n h.at_ (h.ok.mono (by omega))).mono ?_
  rintro e w1 ⟨rfl, ha, k⟩
  exact ⟨rfl, h.step ha k (h.ok.swap a o n), k⟩
theorem Has.free (h : Has w0 b c r N w m) (hN : N ≤ 1000000000) (n : Int) : Calls Tryd.prog 62 #[.pointer (some ⟨b, 0, none⟩), .int .i64 n] w fun e w' => e = .returned (.int .i64 (m.free n).2) ∧ Has w0 b c r (N + 1) w' (m.free n).1 ∧ Kept b c r w w' := by
  refine (free_any w b c r m n h.at_ (h.ok.mono (by omega))).mono ?_
  rintro e w1 ⟨rfl, a, k⟩
  exact ⟨rfl, h.step a k (h.ok.free n), k⟩
theorem Has.retire (h : Has w0 b c r N w m) (hN : N ≤ 1000000000) (a n : Int) : Calls Tryd.prog 63 #[.pointer (some ⟨b, 0, none⟩), .int .i64 a, .int .i64 n] w fun e w' => e = .returned (.int .i64 (m.retire a n).2) ∧ Has w0 b c r (N + 1) w' (m.retire a n).1 ∧ Kept b c r w w' := by
  refine (retire_any w b c r m a n h.at_ (h.ok.mono (by omega))).mono ?_
  rintro e w1 ⟨rfl, ha, k⟩
  exact ⟨rfl, h.step ha k (h.ok.retire a n), k⟩
theorem Has.reap (h : Has w0 b c r N w m) (hN : N ≤ 1000000000) (a n : Int) : Calls Tryd.prog 64 #[.pointer (some ⟨b, 0, none⟩), .int .i64 a, .int .i64 n] w fun e w' => e = .returned (.tuple #[.bool (m.reap a n).2.1, .int .i64 (m.reap a n).2.2]) ∧ Has w0 b c r (N + 1) w' (m.reap a n).1 ∧ Kept b c r w w' := by
  refine (reap_any w b c r m a n h.at_ (h.ok.mono (by omega))).mono ?_
  rintro e w1 ⟨rfl, ha, k⟩
  exact ⟨rfl, h.step ha k (h.ok.reap a n), k⟩
end
/-- A new memory of the call's own. -/
def News (w0 : World) (n : Nat) (e : Ending) (w' : World) : Prop := ∃ b c r, e = .returned (.tuple #[.pointer (some ⟨b, 0, none⟩), .int .i64 0]) ∧ Has w0 b c r 0 w' (M.new n)
theorem has_new {w0 w : World} (n : Nat) (h1 : 1 ≤ n) (hn : n ≤ 65535) (hb : Below w0.heap.size w0 w) : Calls Tryd.prog 22 #[.int .i64 (n : Int)] w fun e w' => News w0 n e w' := by
  refine (new_any n h1 hn w).mono ?_
  rintro e w1 ⟨b, c, r, rfl, a, b1, h1, h2, h3⟩
  have := hb.size
  exact ⟨b, c, r, rfl, a, new_ok n hn, hb.trans (b1.mono hb.size), by omega, by omega, by omega⟩

/-- One cell, free, at a generation. -/
def One (m : M) (g : Int) : Prop := m.cells = [⟨.no, g, false, 0⟩] ∧ m.live = 0
theorem one_new : One (M.new 1) 0 := ⟨rfl, rfl⟩
theorem one_least {m : M} {g : Int} (h : One m g) (hg : g ≤ 16383) : m.least = 0 := by
  unfold M.least M.flags
  rw [h.1]
  simp [Cl.can, Held.busy, List.findIdx_cons, hg]
theorem one_full {m : M} {g : Int} (h : One m g) (hg : 16383 < g) (t : Held) : (m.alloc t).2 = (0, 3) ∧ One (m.alloc t).1 g := by
  have hl : m.ask.least = 1 := by
    unfold M.least M.flags M.ask
    rw [h.1]
    have : ¬ g ≤ 16383 := by omega
    simp [Cl.can, Held.busy, List.findIdx_cons, this]
  have e : m.alloc t = (m.ask, 0, 3) := by
    unfold M.alloc M.take
    rw [hl, show m.ask.cells[1]? = none by simp [M.ask, h.1]]
  rw [e]
  exact ⟨rfl, h⟩
theorem one_alloc {m : M} {g : Int} (h : One m g) (h0 : 0 ≤ g) (hg : g ≤ 16383) (n : Int) :
    (m.alloc (.word n)).2 = (g * 65536 + 1, 0) ∧ ((m.alloc (.word n)).1.free (g * 65536 + 1)).2 = 0 ∧ One ((m.alloc (.word n)).1.free (g * 65536 + 1)).1 (g + 1) := by
  have hl : m.ask.least = 0 := one_least (m := m.ask) h hg
  have e1 : m.alloc (.word n) = (⟨[⟨.word n, g, false, 0⟩], m.count + 1, 1, m.stale⟩, g * 65536 + 1, 0) := by
    unfold M.alloc M.take
    rw [hl]
    simp only [M.ask, h.1, h.2, List.getElem?_cons_zero, List.set_cons_zero]
    have : hand ((0 : Nat) : Int) g = g * 65536 + 1 := by unfold hand; rw [if_pos (by omega)]; omega
    rw [this]; rfl
  rw [e1]
  refine ⟨rfl, ?_⟩
  have hi : isH (g * 65536 + 1) = true := decide_eq_true (by omega)
  have hs : M.seek ⟨[⟨.word n, g, false, 0⟩], m.count + 1, 1, m.stale⟩ (g * 65536 + 1) = some 0 := by
    unfold M.seek
    rw [if_pos hi, show ((g * 65536 + 1) % 65536 - 1).toNat = 0 by omega]
    simp only [List.getElem?_cons_zero]
    rw [if_pos ⟨rfl, by omega⟩]
  unfold M.free
  rw [at_some hs (x := ⟨.word n, g, false, 0⟩) rfl]
  exact ⟨rfl, rfl, rfl⟩

end Go.Proofs.YthdcilbbllldiaaDoor
