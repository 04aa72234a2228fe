/- MemEnds's law: at any number it answers true. Conditions: the number is a byte; the library's table stands. -/
import Derived.Test.YtnhpcakdnaoekaaDoorWalkH
namespace Go.Proofs.YtnhpcakdnaoekaaDoor
open Go.RowKit Go.Op
set_option maxRecDepth 100000

theorem Has.later {w0 w w' : World} {b c r : Nat} {N : Int} {m : M} (h : Has w0 b c r N w m) (hb : Below w.heap.size w w') : Has w0 b c r N w' m :=
  ⟨AtF.below h.at_ hb, h.ok, h.below.trans (hb.mono h.below.size), h.hb, h.hc, h.hr⟩
section
variable {w0 w : World} {b c r : Nat} {N : Int} {m : M}
/-- The calls, on a memory of the call's own. -/
theorem Has.allocword (h : Has w0 b c r N w m) (hT : TabAt w0) (hN : N ≤ 1000000000) (n : Int) : Calls Tryd.prog 17 #[.pointer (some ⟨b, 0, none⟩), .int .i64 n] w fun e w' => e = .returned (.tuple #[.int .i64 (m.alloc (.word n)).2.1, .int .i64 (m.alloc (.word n)).2.2]) ∧ Has w0 b c r (N + 1) w' (m.alloc (.word n)).1 ∧ Kept b c r w w' := by
  obtain ⟨t1, t2, t3, t4⟩ := h.tab hT
  refine (allocword_any w b c r m n h.at_ (h.ok.mono (by omega)) t1 t2 t4).mono ?_
  rintro e w1 ⟨rfl, a, k⟩
  exact ⟨rfl, h.step a k h.ok.alloc, k⟩
theorem Has.allocnote (h : Has w0 b c r N w m) (hT : TabAt w0) (hN : N ≤ 1000000000) (n : Int) : Calls Tryd.prog 16 #[.pointer (some ⟨b, 0, none⟩), .iface 58 (.agg #[.int .i64 n])] w fun e w' => e = .returned (.tuple #[.int .i64 (m.alloc (.note n)).2.1, .int .i64 (m.alloc (.note n)).2.2]) ∧ Has w0 b c r (N + 1) w' (m.alloc (.note n)).1 ∧ Kept b c r w w' := by
  obtain ⟨t1, t2, t3, t4⟩ := h.tab hT
  refine (alloc_any w b c r m n h.at_ (h.ok.mono (by omega)) t1 t2 t4).mono ?_
  rintro e w1 ⟨rfl, a, k⟩
  exact ⟨rfl, h.step a k h.ok.alloc, k⟩
theorem Has.allocnil (h : Has w0 b c r N w m) (hN : N ≤ 1000000000) : Calls Tryd.prog 16 #[.pointer (some ⟨b, 0, none⟩), .nilIface] w fun e w' => e = .returned (.tuple #[.int .i64 0, .int .i64 6]) ∧ Has w0 b c r (N + 1) w' m.ask ∧ Kept b c r w w' := by
  refine (allocnil_any w b c r m h.at_ (h.ok.mono (by omega))).mono ?_
  rintro e w1 ⟨rfl, a, k⟩
  exact ⟨rfl, h.step a k h.ok.ask, k⟩
theorem Has.load (h : Has w0 b c r N w m) (hN : N ≤ 1000000000) (n : Int) : Calls Tryd.prog 27 #[.pointer (some ⟨b, 0, none⟩), .int .i64 n] w fun e w' => e = .returned (.tuple #[(m.load n).2.1.v, .int .i64 (m.load n).2.2]) ∧ Has w0 b c r (N + 1) w' (m.load n).1 ∧ Kept b c r w w' := by
  refine (load_any w b c r m n h.at_ (h.ok.mono (by omega))).mono ?_
  rintro e w1 ⟨rfl, a, k⟩
  exact ⟨rfl, h.step a k (h.ok.load n), k⟩
theorem Has.word (h : Has w0 b c r N w m) (hN : N ≤ 1000000000) (n : Int) : Calls Tryd.prog 19 #[.pointer (some ⟨b, 0, none⟩), .int .i64 n] w fun e w' => e = .returned (.tuple #[.int .i64 (m.word n).2.1, .int .i64 (m.word n).2.2]) ∧ Has w0 b c r (N + 1) w' (m.word n).1 ∧ Kept b c r w w' := by
  refine (word_any w b c r m n h.at_ (h.ok.mono (by omega))).mono ?_
  rintro e w1 ⟨rfl, a, k⟩
  exact ⟨rfl, h.step a k (h.ok.word n), k⟩
theorem Has.store (h : Has w0 b c r N w m) (hN : N ≤ 1000000000) (a n : Int) : Calls Tryd.prog 22 #[.pointer (some ⟨b, 0, none⟩), .int .i64 a, .int .i64 n] w fun e w' => e = .returned (.int .i64 (m.store a n).2) ∧ Has w0 b c r (N + 1) w' (m.store a n).1 ∧ Kept b c r w w' := by
  refine (store_any w b c r m a n h.at_ (h.ok.mono (by omega))).mono ?_
  rintro e w1 ⟨rfl, ha, k⟩
  exact ⟨rfl, h.step ha k (h.ok.store a n), k⟩
theorem Has.swap (h : Has w0 b c r N w m) (hN : N ≤ 1000000000) (a o n : Int) : Calls Tryd.prog 20 #[.pointer (some ⟨b, 0, none⟩), .int .i64 a, .int .i64 o, .int .i64 n] w fun e w' => e = .returned (.tuple #[.bool (m.swap a o n).2.1, .int .i64 (m.swap a o n).2.2]) ∧ Has w0 b c r (N + 1) w' (m.swap a o n).1 ∧ Kept b c r w w' := by
  refine (swap_any w b c r m a o n h.at_ (h.ok.mono (by omega))).mono ?_
  rintro e w1 ⟨rfl, ha, k⟩
  exact ⟨rfl, h.step ha k (h.ok.swap a o n), k⟩
theorem Has.free (h : Has w0 b c r N w m) (hN : N ≤ 1000000000) (n : Int) : Calls Tryd.prog 18 #[.pointer (some ⟨b, 0, none⟩), .int .i64 n] w fun e w' => e = .returned (.int .i64 (m.free n).2) ∧ Has w0 b c r (N + 1) w' (m.free n).1 ∧ Kept b c r w w' := by
  refine (free_any w b c r m n h.at_ (h.ok.mono (by omega))).mono ?_
  rintro e w1 ⟨rfl, a, k⟩
  exact ⟨rfl, h.step a k (h.ok.free n), k⟩
theorem Has.retire (h : Has w0 b c r N w m) (hN : N ≤ 1000000000) (a n : Int) : Calls Tryd.prog 21 #[.pointer (some ⟨b, 0, none⟩), .int .i64 a, .int .i64 n] w fun e w' => e = .returned (.int .i64 (m.retire a n).2) ∧ Has w0 b c r (N + 1) w' (m.retire a n).1 ∧ Kept b c r w w' := by
  refine (retire_any w b c r m a n h.at_ (h.ok.mono (by omega))).mono ?_
  rintro e w1 ⟨rfl, ha, k⟩
  exact ⟨rfl, h.step ha k (h.ok.retire a n), k⟩
theorem Has.reap (h : Has w0 b c r N w m) (hN : N ≤ 1000000000) (a n : Int) : Calls Tryd.prog 23 #[.pointer (some ⟨b, 0, none⟩), .int .i64 a, .int .i64 n] w fun e w' => e = .returned (.tuple #[.bool (m.reap a n).2.1, .int .i64 (m.reap a n).2.2]) ∧ Has w0 b c r (N + 1) w' (m.reap a n).1 ∧ Kept b c r w w' := by
  refine (reap_any w b c r m a n h.at_ (h.ok.mono (by omega))).mono ?_
  rintro e w1 ⟨rfl, ha, k⟩
  exact ⟨rfl, h.step ha k (h.ok.reap a n), k⟩
end
/-- A new memory of the call's own. -/
def News (w0 : World) (n : Nat) (e : Ending) (w' : World) : Prop := ∃ b c r, e = .returned (.tuple #[.pointer (some ⟨b, 0, none⟩), .int .i64 0]) ∧ Has w0 b c r 0 w' (M.new n)
theorem has_new {w0 w : World} (n : Nat) (h1 : 1 ≤ n) (hn : n ≤ 65535) (hb : Below w0.heap.size w0 w) : Calls Tryd.prog 9 #[.int .i64 (n : Int)] w fun e w' => News w0 n e w' := by
  refine (new_any n h1 hn w).mono ?_
  rintro e w1 ⟨b, c, r, rfl, a, b1, h1, h2, h3⟩
  have := hb.size
  exact ⟨b, c, r, rfl, a, new_ok n hn, hb.trans (b1.mono hb.size), by omega, by omega, by omega⟩

/-- One cell, free, at a generation. -/
def One (m : M) (g : Int) : Prop := m.cells = [⟨.no, g, false, 0⟩] ∧ m.live = 0
theorem one_new : One (M.new 1) 0 := ⟨rfl, rfl⟩
theorem one_least {m : M} {g : Int} (h : One m g) (hg : g ≤ 16383) : m.least = 0 := by
  unfold M.least M.flags
  rw [h.1]
  simp [Cl.can, Held.busy, List.findIdx_cons, hg]
theorem one_full {m : M} {g : Int} (h : One m g) (hg : 16383 < g) (t : Held) : (m.alloc t).2 = (0, 3) ∧ One (m.alloc t).1 g := by
  have hl : m.ask.least = 1 := by
    unfold M.least M.flags M.ask
    rw [h.1]
    have : ¬ g ≤ 16383 := by omega
    simp [Cl.can, Held.busy, List.findIdx_cons, this]
  have e : m.alloc t = (m.ask, 0, 3) := by
    unfold M.alloc M.take
    rw [hl, show m.ask.cells[1]? = none by simp [M.ask, h.1]]
  rw [e]
  exact ⟨rfl, h⟩
theorem one_alloc {m : M} {g : Int} (h : One m g) (h0 : 0 ≤ g) (hg : g ≤ 16383) (n : Int) :
    (m.alloc (.word n)).2 = (g * 65536 + 1, 0) ∧ ((m.alloc (.word n)).1.free (g * 65536 + 1)).2 = 0 ∧ One ((m.alloc (.word n)).1.free (g * 65536 + 1)).1 (g + 1) := by
  have hl : m.ask.least = 0 := one_least (m := m.ask) h hg
  have e1 : m.alloc (.word n) = (⟨[⟨.word n, g, false, 0⟩], m.count + 1, 1, m.stale⟩, g * 65536 + 1, 0) := by
    unfold M.alloc M.take
    rw [hl]
    simp only [M.ask, h.1, h.2, List.getElem?_cons_zero, List.set_cons_zero]
    have : hand ((0 : Nat) : Int) g = g * 65536 + 1 := by unfold hand; rw [if_pos (by omega)]; omega
    rw [this]; rfl
  rw [e1]
  refine ⟨rfl, ?_⟩
  have hi : isH (g * 65536 + 1) = true := decide_eq_true (by omega)
  have hs : M.seek ⟨[⟨.word n, g, false, 0⟩], m.count + 1, 1, m.stale⟩ (g * 65536 + 1) = some 0 := by
    unfold M.seek
    rw [if_pos hi, show ((g * 65536 + 1) % 65536 - 1).toNat = 0 by omega]
    simp only [List.getElem?_cons_zero]
    rw [if_pos ⟨rfl, by omega⟩]
  unfold M.free
  rw [at_some hs (x := ⟨.word n, g, false, 0⟩) rfl]
  exact ⟨rfl, rfl, rfl⟩

set_option maxHeartbeats 1000000 in
theorem ends_law (n : Nat) (h1 : n ≤ 255) (w : World) (hT : TabAt w) : Calls Tryd.prog 7 #[.int .u8 (n : Int)] w fun e w' => e = .returned (.bool true) ∧ Below w.heap.size w w' := by
  have haw := awake_any w hT
  go_enter Tryd.func7, Tryd.ntmps7
  go_wp2_with fail
  refine haw.mono ?_
  rintro e w1 ⟨rfl, b1⟩
  have hn := has_new 1 (by decide) (by decide) b1
  clear haw
  go_wp2_with fail
  refine hn.mono ?_
  rintro e w2 ⟨b, c, r, rfl, hH⟩
  have HH := Lib.hid hH
  clear hH hn b1
  go_wp2_with fail
  go_loopw [5] (fun iv wr => ∃ (i : Nat) (m : M), i ≤ 16384 ∧ iv = .int .i64 (i : Int) ∧ Hid (Has w b c r (2 * i) wr m ∧ One m i)) (fun iv _ => 16384 - (intOf iv).toNat)
  case atStart => exact ⟨0, M.new 1, by omega, rfl, HH.out, one_new⟩
  case round =>
    obtain ⟨i, m, hi, rfl, hR⟩ := hrel
    clear HH
    by_cases hlt : i < 16384
    · have i1 : (i : Int) < 16384 := by omega
      have hc1 := hR.out.1.allocword hT (by omega) i
      obtain ⟨e1, e2, e3⟩ := one_alloc hR.out.2 (by omega) (by omega) i
      rw [e1] at hc1
      simp only at hc1
      go_wp2_with fail
      refine hc1.mono ?_
      rintro e w3 ⟨rfl, h3, _⟩
      have hc2 := h3.free (by omega) ((i : Int) * 65536 + 1)
      rw [e2] at hc2
      have E3 := Lib.hid e3
      clear h3 hc1 e1 e2 e3 hR
      go_wp2_with fail
      refine hc2.mono ?_
      rintro e w4 ⟨rfl, h4, _⟩
      have H4 := Lib.hid h4
      clear h4 hc2
      go_wp2_with fail
      go_roundw
      case rel => exact ⟨i + 1, _, by omega, by go_num, H4.out.less (by omega), by have := E3.out; simpa using this⟩
      case measure => simp [intOf]; omega
    · obtain rfl : i = 16384 := by omega
      rw [show ((16384 : Nat) : Int) = 16384 from rfl]
      have HR : Hid (Has w b c r 32768 wr m ∧ One m 16384) := hR.out
      clear hR
      go_wp2_with fail
      go_loopw [8] (fun iv wr => ∃ (j : Nat) (m : M), j ≤ n + 1 ∧ iv = .int .i64 (j : Int) ∧ Hid (Has w b c r (32768 + j) wr m ∧ One m 16384)) (fun iv _ => n + 1 - (intOf iv).toNat)
      case atStart => exact ⟨0, m, by omega, rfl, HR.out.1.less (by omega), HR.out.2⟩
      case round =>
        obtain ⟨j, m2, hj, rfl, hR⟩ := hrel
        clear HR
        by_cases hlt2 : j < n + 1
        · have i1 : (j : Int) < 1 + (n : Int) := by omega
          have hc1 := hR.out.1.allocword hT (by omega) j
          obtain ⟨e1, e2⟩ := one_full hR.out.2 (by omega) (.word j)
          rw [e1] at hc1
          simp only at hc1
          have E2 := Lib.hid e2
          clear hR e1 e2
          go_wp2_with fail
          refine hc1.mono ?_
          rintro e w3 ⟨rfl, h3, _⟩
          have H3 := Lib.hid h3
          clear h3 hc1
          go_wp2_with fail
          go_roundw
          case rel => exact ⟨j + 1, _, by omega, by go_num, H3.out.less (by omega), E2.out⟩
          case measure => simp [intOf]; omega
        · have i1 : ¬ (j : Int) < 1 + (n : Int) := by omega
          have hlv := live_any _ b c r m2 hR.out.1.at_
          rw [hR.out.2.2] at hlv
          have HB := Lib.hid hR.out.1.below
          clear hR
          go_wp2_with fail
          refine hlv.mono ?_
          rintro e w3 ⟨rfl, rfl⟩
          go_wp2
          go_ret
          exact ⟨rfl, HB.out⟩
end Go.Proofs.YtnhpcakdnaoekaaDoor
