/- awake answers true. Condition: the library's table stands. -/
import Derived.Test.YthdcilbbllldiaaDoorStG
namespace Go.Proofs.YthdcilbbllldiaaDoor
open Go.RowKit Go.Op
set_option maxRecDepth 100000

theorem enter_29 (xs : Array Value) (w : World) : (callFunc 29 xs).run Tryd.prog w = .ok (.enter 29 xs) w := by kernel_rfl
def PhiA (m0 : M) (o : Option Value) (m : M) (s : Pt) : Prop := o = some (.iface 3 (.int .i64 7)) ∧ s.place = 1 ∧ m.count = m0.count + 1
theorem alloc_count (m : M) (t : Held) : (m.alloc t).1.count = m.count + 1 := by
  unfold M.alloc M.take
  split <;> rfl
theorem awake_fn {w0 : World} {b c r : Nat} {N : Int} {pb po : Nat} {t : Value} {w : World} {m : M} {s : Pt} (h : Sys w0 b c r N pb po t w m s) (hT : TabAt w0) (hN : N ≤ 999990)
    (h0 : s.place = 0) (h1 : s.spent = false) (h2 : s.halted = false) (h3 : s.keeps = true) (h4 : s.told = []) :
    Calls Tryd.prog 29 (#[.pointer (some ⟨pb, po, none⟩)] ++ #[]) w fun e w' => Ran pb po (Outc s w0 b c r (N + 1) pb po t w (PhiA m)) e w' ∧ But5 b c r pb t w w' := by
  have hx : s.told[s.place]? = none := by rw [h4]; rfl
  have hw := palloc_any h hT (by omega) ⟨by rw [h0]; exact Nat.zero_le _, by rw [h4]; decide⟩ 3
  have H4 := Lib.hid h4
  have HX := Lib.hid hx
  have HO := Lib.hid h.has.ok
  show Calls Tryd.prog 29 #[.pointer (some ⟨pb, po, none⟩)] w _
  clear h hx h4
  go_enter Tryd.func29, Tryd.ntmps29
  go_wp2_with fail
  refine hw.mono ?_
  rintro e w2 ⟨t2, he, hS, hb, hr⟩
  rw [Pt.ask_keep HX.out h1 h3] at he hS
  simp only [Ends, Qn.ret] at he
  subst he
  have HE : Hid (Ran pb po (Outc s w0 b c r (N + 1) pb po t w (PhiA m)) (.returned (.iface 3 (.int .i64 7))) w2 ∧ But5 b c r pb t w w2) := by
    refine ⟨.inl ⟨3, _, rfl, ⟨t2, _, _, hS, hr, ⟨?_, ?_⟩, rfl, rfl, ?_, alloc_count _ _⟩, ?_⟩, hb⟩
    · simp only [H4.out, h0, List.nil_append, List.length_singleton]; omega
    · simp only [H4.out, List.nil_append, List.length_singleton]; omega
    · simp only [h0]
    · exact hS.pt.cells.c6.trans (by simp only; rw [h2])
  clear hw hS hb hr
  go_wp2
  go_ret
  exact HE.out
theorem has_new2 {w0 w : World} (n : Nat) (h1 : 1 ≤ n) (hn : n ≤ 65535) (hb : Below w0.heap.size w0 w) : Calls Tryd.prog 22 #[.int .i64 (n : Int)] w fun e w' => (∃ b c r, e = .returned (.tuple #[.pointer (some ⟨b, 0, none⟩), .int .i64 0]) ∧ Has w0 b c r 0 w' (M.new n)) ∧ Below w.heap.size w w' := by
  refine (new_any n h1 hn w).mono ?_
  rintro e w1 ⟨b, c, r, rfl, a, b1, h1, h2, h3⟩
  have := hb.size
  exact ⟨⟨b, c, r, rfl, a, new_ok n hn, hb.trans (b1.mono hb.size), by omega, by omega, by omega⟩, b1⟩
theorem as3_yes (n : Int) (w : World) : (Instr.typeAssert (.iface 3 (.int .i64 n)) 20 3 true).run Tryd.prog w = .ok (.tuple #[.int .i64 n, .bool true]) w := by kernel_rfl
set_option maxHeartbeats 1000000 in
theorem awake_any (w : World) (hT : TabAt w) : Calls Tryd.prog 6 #[] w fun e w' => e = .returned (.bool true) ∧ Below w.heap.size w w' := by
  have hn := has_new2 1 (by decide) (by decide) (Below.refl w.heap.size w)
  have a3 := as3_yes
  go_enter Tryd.func6, Tryd.ntmps6
  go_wp2_with fail
  refine hn.mono ?_
  rintro e w1 ⟨⟨b, c, r, rfl, hH⟩, b1⟩
  have hnm := newmach_any (b := b) (.func (.func 29) #[] #[]) w1 ⟨_, _, rfl⟩
  have HM := Lib.hid (mach_at hH (.func (.func 29) #[] #[]))
  have HH := Lib.hid hH
  clear hn hH b1
  go_wp2_with fail
  refine hnm.mono ?_
  rintro e w2 ⟨rfl, hw2⟩
  rw [← hw2] at HM
  have he := ended_any HM.out
  have ho := out_any HM.out
  have hs := step_run HM.out (PhiA (M.new 1)) enter_29 1 (fun w3 hS hB => awake_fn hS hT (by decide) rfl rfl rfl rfl rfl)
  clear hw2 hnm
  go_wp2_with fail
  refine he.mono ?_
  rintro e w3 ⟨rfl, rfl⟩
  go_wp2_with fail
  refine ho.mono ?_
  rintro e w3 ⟨rfl, rfl⟩
  go_wp2_with fail
  refine hs.mono ?_
  rintro e w4 ⟨t', m', s', hc, hb, hr⟩
  rcases hc with ⟨v, rfl, s1, hφ, hp, hnn, hM⟩ | ⟨rfl, hφ, _⟩
  · obtain ⟨e1, e2, e3⟩ := hφ
    cases e1
    have ho4 := out_any hM
    have hst := steps_any hM
    rw [hp, e2] at hst
    have hct := count_any w4 b c r m' hM.sys.has.at_
    rw [e3] at hct
    have e4 : (M.new 1).count + 1 = 1 := rfl
    rw [e4] at hct
    have HB := Lib.hid hM.sys.has.below
    clear he ho hs hM hb hr e2 e3 e4 hp hnn
    go_wp2_with fail
    refine ho4.mono ?_
    rintro e w5 ⟨rfl, rfl⟩
    go_wp2_with fail
    refine hst.mono ?_
    rintro e w5 ⟨rfl, rfl⟩
    go_wp2_with fail
    refine hct.mono ?_
    rintro e w5 ⟨rfl, rfl⟩
    go_wp2
    go_ret
    exact ⟨rfl, HB.out⟩
  · cases hφ.1
end Go.Proofs.YthdcilbbllldiaaDoor
