/- That the laws are awake. Condition: the library's table stands. -/
import Derived.Test.YteiikkkcjpfapaaDoorAwA
namespace Go.Proofs.YteiikkkcjpfapaaDoor
open Go.RowKit Go.Op
set_option maxRecDepth 100000

theorem HasE.ge {w0 w : World} {b c r : Nat} {G : List (Nat × List Sw)} {m : M} (h : HasE w0 b c r G w m) : w0.heap.size ≤ b ∧ w0.heap.size ≤ c ∧ w0.heap.size ≤ r ∧ Below w0.heap.size w0 w := by
  obtain ⟨m0, h1, -⟩ := h
  exact ⟨h1.hb, h1.hc, h1.hr, h1.below⟩
theorem ButN.below {B : Nat} {Z : List Nat} {w w1 : World} (h : ButN Z w.heap.size w w1) (hz : ∀ z, z ∈ Z → B ≤ z) (hB : B ≤ w.heap.size) : Below B w w1 :=
  ⟨h.os, h.tape, h.output, h.size, fun k hk => h.block k (by omega) (fun e => by have := hz k e; omega)⟩
theorem as3_yes (n : Int) (w : World) : (Instr.typeAssert (.iface 3 (.int .i64 n)) 20 3 true).run Tryd.prog w = .ok (.tuple #[.int .i64 n, .bool true]) w := by kernel_rfl
theorem as4_yes (x : Bool) (w : World) : (Instr.typeAssert (.iface 4 (.bool x)) 20 4 true).run Tryd.prog w = .ok (.tuple #[.bool x, .bool true]) w := by kernel_rfl
theorem enter_41 (xs : Array Value) (w : World) : (callFunc 41 xs).run Tryd.prog w = .ok (.enter 41 xs) w := by kernel_rfl
def yobj (b : Nat) (top : Int) (a : Option Addr) (n cap : Nat) : Obj := .cells #[.pointer (some ⟨b, 0, none⟩), .int .i64 top, .slice a n cap] 27
theorem ynew (w : World) (b : Nat) (top : Int) (a : Option Addr) (n cap : Nat) : YVar (w.alloc (yobj b top a n cap)) w.heap.size b top (.slice a n cap) :=
  ⟨by simp [yobj, go_sem], by simp [yobj, go_sem], by simp [yobj, go_sem], fun i => World.frozen?_alloc_at _ 27 _ i rfl⟩
set_option maxHeartbeats 1000000 in
theorem awake_any (w : World) (hT : TabAt w) : Calls Tryd.prog 8 #[] w fun e w' => e = .returned (.bool true) ∧ Below w.heap.size w w' := by
  have hl := lay_any w hT 9 0 (by decide) (by decide) (by decide) (by rw [awt]) (by have := awc.1; unfold aw0 at this; omega) (fun i hi => absurd hi (Nat.not_lt_zero _))
  have a3 := as3_yes
  have hm := hmf1
  go_enter Tryd.func8, Tryd.ntmps8
  go_wp2_with fail
  refine hl.mono ?_
  rintro e w1 ⟨⟨b, c, r, G, v, rfl, hE, hN⟩, hb1⟩
  obtain ⟨a, cap, rfl, -⟩ := hN
  replace hE : HasE w b c r G w1 aw0 := hE
  rw [awt]
  simp only [layS, List.length_nil]
  have hb2 := (Below.refl w1.heap.size w1).alloc (Nat.le_refl _) (yobj b 3 a 0 cap)
  have hdo := do_any (w1.alloc (yobj b 3 a 0 cap)) b 41 #[.pointer (some ⟨w1.heap.size, 0, none⟩)] _ enter_41 (awake1_any (hE.later hb2) hT (ynew w1 b 3 a 0 cap) (hE.fresh _))
  obtain ⟨g1, g2, g3, g4⟩ := hE.ge
  have HB : Hid (∀ w2, ButN [b, c, r] (w1.alloc (yobj b 3 a 0 cap)).heap.size (w1.alloc (yobj b 3 a 0 cap)) w2 → Below w.heap.size w w2) := fun w2 h =>
    (hb1.trans (hb2.mono hb1.size)).trans (h.below (fun z hz => by simp at hz; rcases hz with rfl | rfl | rfl <;> assumption) (Nat.le_trans hb1.size hb2.size))
  unfold yobj at hdo HB
  clear hl hE hb1 hb2 g1 g2 g3 g4
  go_wp2_with fail
  refine hdo.mono ?_
  rintro e w2 ⟨u, rfl, rfl, hb⟩
  have HE := Lib.hid (HB.out w2 hb)
  clear hdo hb HB
  go_wp2
  go_ret
  exact ⟨rfl, HE.out⟩
end Go.Proofs.YteiikkkcjpfapaaDoor
