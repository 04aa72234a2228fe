/- Memory's calls on a memory of the call's own. Conditions: at most 1000000000 asks so far; the library's table stands. -/
import Derived.Test.YteiikkkcjpfapaaDoorWalkH
namespace Go.Proofs.YteiikkkcjpfapaaDoor
open Go.RowKit Go.Op
set_option maxRecDepth 100000

theorem Has.later {w0 w w' : World} {b c r : Nat} {N : Int} {m : M} (h : Has w0 b c r N w m) (hb : Below w.heap.size w w') : Has w0 b c r N w' m :=
  ⟨AtF.below h.at_ hb, h.ok, h.below.trans (hb.mono h.below.size), h.hb, h.hc, h.hr⟩
section
variable {w0 w : World} {b c r : Nat} {N : Int} {m : M}
/-- The calls, on a memory of the call's own. -/
theorem Has.allocword (h : Has w0 b c r N w m) (hT : TabAt w0) (hN : N ≤ 1000000000) (n : Int) : Calls Tryd.prog 70 #[.pointer (some ⟨b, 0, none⟩), .int .i64 n] w fun e w' => e = .returned (.tuple #[.int .i64 (m.alloc (.word n)).2.1, .int .i64 (m.alloc (.word n)).2.2]) ∧ Has w0 b c r (N + 1) w' (m.alloc (.word n)).1 ∧ Kept b c r w w' := by
  obtain ⟨t1, t2, t3, t4⟩ := h.tab hT
  refine (allocword_any w b c r m n h.at_ (h.ok.mono (by omega)) t1 t2 t4).mono ?_
  rintro e w1 ⟨rfl, a, k⟩
  exact ⟨rfl, h.step a k h.ok.alloc, k⟩
theorem Has.allocdesc (h : Has w0 b c r N w m) (hT : TabAt w0) (hN : N ≤ 1000000000) (n : Ds) : Calls Tryd.prog 67 #[.pointer (some ⟨b, 0, none⟩), .iface 52 n.v] w fun e w' => e = .returned (.tuple #[.int .i64 (m.alloc (.desc n)).2.1, .int .i64 (m.alloc (.desc n)).2.2]) ∧ Has w0 b c r (N + 1) w' (m.alloc (.desc n)).1 ∧ Kept b c r w w' := by
  obtain ⟨t1, t2, t3, t4⟩ := h.tab hT
  refine (allocdesc_any w b c r m n h.at_ (h.ok.mono (by omega)) t1 t2 t4).mono ?_
  rintro e w1 ⟨rfl, a, k⟩
  exact ⟨rfl, h.step a k h.ok.alloc, k⟩
theorem Has.alloctext (h : Has w0 b c r N w m) (hT : TabAt w0) (hN : N ≤ 1000000000) (n : Value) : Calls Tryd.prog 67 #[.pointer (some ⟨b, 0, none⟩), .iface 9 n] w fun e w' => e = .returned (.tuple #[.int .i64 (m.alloc (.text n)).2.1, .int .i64 (m.alloc (.text n)).2.2]) ∧ Has w0 b c r (N + 1) w' (m.alloc (.text n)).1 ∧ Kept b c r w w' := by
  obtain ⟨t1, t2, t3, t4⟩ := h.tab hT
  refine (alloctext_any w b c r m n h.at_ (h.ok.mono (by omega)) t1 t2 t4).mono ?_
  rintro e w1 ⟨rfl, a, k⟩
  exact ⟨rfl, h.step a k h.ok.alloc, k⟩
theorem Has.load (h : Has w0 b c r N w m) (hN : N ≤ 1000000000) (n : Int) : Calls Tryd.prog 80 #[.pointer (some ⟨b, 0, none⟩), .int .i64 n] w fun e w' => e = .returned (.tuple #[(m.load n).2.1.v, .int .i64 (m.load n).2.2]) ∧ Has w0 b c r (N + 1) w' (m.load n).1 ∧ Kept b c r w w' := by
  refine (load_any w b c r m n h.at_ (h.ok.mono (by omega))).mono ?_
  rintro e w1 ⟨rfl, a, k⟩
  exact ⟨rfl, h.step a k (h.ok.load n), k⟩
theorem Has.word (h : Has w0 b c r N w m) (hN : N ≤ 1000000000) (n : Int) : Calls Tryd.prog 50 #[.pointer (some ⟨b, 0, none⟩), .int .i64 n] w fun e w' => e = .returned (.tuple #[.int .i64 (m.word n).2.1, .int .i64 (m.word n).2.2]) ∧ Has w0 b c r (N + 1) w' (m.word n).1 ∧ Kept b c r w w' := by
  refine (word_any w b c r m n h.at_ (h.ok.mono (by omega))).mono ?_
  rintro e w1 ⟨rfl, a, k⟩
  exact ⟨rfl, h.step a k (h.ok.word n), k⟩
theorem Has.swap (h : Has w0 b c r N w m) (hN : N ≤ 1000000000) (a o n : Int) : Calls Tryd.prog 72 #[.pointer (some ⟨b, 0, none⟩), .int .i64 a, .int .i64 o, .int .i64 n] w fun e w' => e = .returned (.tuple #[.bool (m.swap a o n).2.1, .int .i64 (m.swap a o n).2.2]) ∧ Has w0 b c r (N + 1) w' (m.swap a o n).1 ∧ Kept b c r w w' := by
  refine (swap_any w b c r m a o n h.at_ (h.ok.mono (by omega))).mono ?_
  rintro e w1 ⟨rfl, ha, k⟩
  exact ⟨rfl, h.step ha k (h.ok.swap a o n), k⟩
theorem Has.free (h : Has w0 b c r N w m) (hN : N ≤ 1000000000) (n : Int) : Calls Tryd.prog 68 #[.pointer (some ⟨b, 0, none⟩), .int .i64 n] w fun e w' => e = .returned (.int .i64 (m.free n).2) ∧ Has w0 b c r (N + 1) w' (m.free n).1 ∧ Kept b c r w w' := by
  refine (free_any w b c r m n h.at_ (h.ok.mono (by omega))).mono ?_
  rintro e w1 ⟨rfl, a, k⟩
  exact ⟨rfl, h.step a k (h.ok.free n), k⟩
theorem Has.retire (h : Has w0 b c r N w m) (hN : N ≤ 1000000000) (a n : Int) : Calls Tryd.prog 74 #[.pointer (some ⟨b, 0, none⟩), .int .i64 a, .int .i64 n] w fun e w' => e = .returned (.int .i64 (m.retire a n).2) ∧ Has w0 b c r (N + 1) w' (m.retire a n).1 ∧ Kept b c r w w' := by
  refine (retire_any w b c r m a n h.at_ (h.ok.mono (by omega))).mono ?_
  rintro e w1 ⟨rfl, ha, k⟩
  exact ⟨rfl, h.step ha k (h.ok.retire a n), k⟩
theorem Has.reap (h : Has w0 b c r N w m) (hN : N ≤ 1000000000) (a n : Int) : Calls Tryd.prog 64 #[.pointer (some ⟨b, 0, none⟩), .int .i64 a, .int .i64 n] w fun e w' => e = .returned (.tuple #[.bool (m.reap a n).2.1, .int .i64 (m.reap a n).2.2]) ∧ Has w0 b c r (N + 1) w' (m.reap a n).1 ∧ Kept b c r w w' := by
  refine (reap_any w b c r m a n h.at_ (h.ok.mono (by omega))).mono ?_
  rintro e w1 ⟨rfl, ha, k⟩
  exact ⟨rfl, h.step ha k (h.ok.reap a n), k⟩
end
/-- A new memory of the call's own. -/
def News (w0 : World) (n : Nat) (e : Ending) (w' : World) : Prop := ∃ b c r, e = .returned (.tuple #[.pointer (some ⟨b, 0, none⟩), .int .i64 0]) ∧ Has w0 b c r 0 w' (M.new n)
theorem has_new {w0 w : World} (n : Nat) (h1 : 1 ≤ n) (hn : n ≤ 65535) (hb : Below w0.heap.size w0 w) : Calls Tryd.prog 43 #[.int .i64 (n : Int)] w fun e w' => News w0 n e w' := by
  refine (new_any n h1 hn w).mono ?_
  rintro e w1 ⟨b, c, r, rfl, a, b1, h1, h2, h3⟩
  have := hb.size
  exact ⟨b, c, r, rfl, a, new_ok n hn, hb.trans (b1.mono hb.size), by omega, by omega, by omega⟩

end Go.Proofs.YteiikkkcjpfapaaDoor
