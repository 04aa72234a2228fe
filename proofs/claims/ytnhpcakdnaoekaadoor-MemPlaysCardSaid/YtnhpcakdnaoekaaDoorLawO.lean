/- MemPlays's law: at any number and any acts it answers true. Conditions: the acts can be read; the library's table stands. -/
import Derived.Test.YtnhpcakdnaoekaaDoorPlayF
namespace Go.Proofs.YtnhpcakdnaoekaaDoor
open Go.RowKit Go.Op
set_option maxRecDepth 100000

theorem at_22 (b o n c k : Nat) (h : k < n) (w : World) : (Instr.indexAt 22 (.slice (some ⟨b, o, none⟩) n c) (.int .i64 (k : Int))).run Tryd.prog w = .ok (.pointer (some ⟨b, o + k * 5, none⟩)) w := by
  have h1 : (k : Int) < (n : Int) := by omega
  go_simp
theorem enter_12 (xs : Array Value) (w : World) : (callFunc 12 xs).run Tryd.prog w = .ok (.enter 12 xs) w := by kernel_rfl
theorem enter_13 (xs : Array Value) (w : World) : (callFunc 13 xs).run Tryd.prog w = .ok (.enter 13 xs) w := by kernel_rfl
theorem enter_14 (xs : Array Value) (w : World) : (callFunc 14 xs).run Tryd.prog w = .ok (.enter 14 xs) w := by kernel_rfl
theorem enter_15 (xs : Array Value) (w : World) : (callFunc 15 xs).run Tryd.prog w = .ok (.enter 15 xs) w := by kernel_rfl
theorem cmp_neq3 {a b : Int} {r : Bool} (xo yo : Operand) (w : World) (h : (a != b) = r) : (eqGuard .neq 3 xo yo (.int .i64 a) (.int .i64 b)).run Tryd.prog w = .ok () w ∧ (binOp .neq 3 (.int .i64 a) (.int .i64 b)).run Tryd.prog w = .ok (.bool r) w :=
  ⟨by simp [eqGuard], by subst h; go_simp⟩
theorem cmp_eql25 {a b : Int} {r : Bool} (xo yo : Operand) (w : World) (h : (a == b) = r) : (eqGuard .eql 25 xo yo (.int .i64 a) (.int .i64 b)).run Tryd.prog w = .ok () w ∧ (binOp .eql 25 (.int .i64 a) (.int .i64 b)).run Tryd.prog w = .ok (.bool r) w :=
  ⟨by simp [eqGuard], by subst h; go_simp⟩
theorem cmp_add3 {a b r : Int} (xo yo : Operand) (w : World) (h : a + b = r ∧ -9223372036854775808 ≤ r ∧ r ≤ 9223372036854775807) : (eqGuard .add 3 xo yo (.int .i64 a) (.int .i64 b)).run Tryd.prog w = .ok () w ∧ (binOp .add 3 (.int .i64 a) (.int .i64 b)).run Tryd.prog w = .ok (.int .i64 r) w := by
  obtain ⟨h, h0, h1⟩ := h
  exact ⟨by simp [eqGuard], by subst h; go_simp; rw [IntKind.wrap_i64]; omega⟩
theorem Var.load {w W : World} {p : Nat} {m : M} {rc cap : Nat} (h : Var w p m rc cap) (hb : Below w.heap.size w W) {i : Nat} {x : Int} (hi : (m.row rc cap)[i]? = some (.int .i64 x)) : (Instr.loadAt 3 (.pointer (some ⟨p, i, none⟩))).run Tryd.prog W = .ok (.int .i64 x) W := by
  have := (h.below hb).at_ i _ hi
  rw [Nat.zero_add] at this
  exact load_3 this
theorem nth_0 (x y z : Value) : nth 0 (.tuple #[x, y, z]) = x := rfl
theorem nth_1 (x y z : Value) : nth 1 (.tuple #[x, y, z]) = y := rfl
theorem nth_2 (x y z : Value) : nth 2 (.tuple #[x, y, z]) = z := rfl
section
variable {w0 w w' : World} {b c r pw B : Nat} {N : Int} {m m2 : M} {rc cap rc2 cap2 : Nat} {told : List Int} {tv : Value}
theorem Pl.later (h : Pl w0 b c r pw B N w m rc cap told tv) (hb : Below w.heap.size w w') : Pl w0 b c r pw B N w' m rc cap told tv :=
  ⟨h.has.later hb, h.rat.below hb h.rat.lt, h.var.below hb, h.t.below hb, h.nb, h.nt, Nat.le_trans h.sz hb.size⟩
theorem after_does (hF : Fix w0 b c r pw B) (hh : Has w0 b c r (N + 1) w m2) (hr : RAt w rc2 m2) (hv : Var w pw m rc cap) (ho : OwnI w B tv told) (hnb : rc2 ≠ b ∧ rc2 ≠ c ∧ rc2 ≠ r ∧ rc2 ≠ pw) (hnt : tv.ownBlock ≠ some rc2) (hsz : B ≤ w.heap.size) :
    Pl w0 b c r pw B (N + 1) (four w pw (.slice (some ⟨rc2, 0, none⟩) m2.cells.length cap2) m2.count m2.live m2.stale) m2 rc2 cap2 told tv := by
  have hF4 := hF.lp
  have hs : (four w pw (.slice (some ⟨rc2, 0, none⟩) m2.cells.length cap2) m2.count m2.live m2.stale).heap.size = w.heap.size := by unfold four; simp [World.setCell]
  have hsame : ∀ k, k ≠ pw → (four w pw (.slice (some ⟨rc2, 0, none⟩) m2.cells.length cap2) m2.count m2.live m2.stale).heap[k]? = w.heap[k]? := fun k hk => by
    unfold four
    rw [Below.heap_setCell _ _ _ _ hk, Below.heap_setCell _ _ _ _ hk, Below.heap_setCell _ _ _ _ hk, Below.heap_setCell _ _ _ _ hk]
  refine ⟨hh.four ⟨hF.hp, hF.pb, hF.pc, hF.pr⟩ _ _ _ _, hr.four hnb.2.2.2.symm _ _ _ _, ⟨World.rangeAt_setCells_same w pw 0 (m2.row rc2 cap2) hv.there, fun i => ?_, by rw [hs]; exact hv.lt⟩, ho.block fun k hk => hsame k ?_, hnb, hnt, by rw [hs]; exact hsz⟩
  · unfold four
    rw [World.frozen?_setCell, World.frozen?_setCell, World.frozen?_setCell, World.frozen?_setCell]
    exact hv.fz i
  · have := (ho.lt k hk).1
    omega
theorem Pl.grown {w1 : World} (h : Pl w0 b c r pw B N w m rc cap told tv) (hF : Fix w0 b c r pw B) (to : Int) {v' : Value} {o : Obj} (hown : OwnI w1 B v' (told ++ [to])) (hg : (w.alloc o).grownBy w1 tv.ownBlock) (hblk : v'.ownBlock = tv.ownBlock ∨ v'.ownBlock = some (w.alloc o).heap.size) : Pl w0 b c r pw B N w1 m rc cap (told ++ [to]) v' := by
  have hA := (Below.refl w.heap.size w).alloc (Nat.le_refl _) o
  have hsA : (w.alloc o).heap.size = w.heap.size + 1 := by simp
  have hZ : B ≤ (w.alloc o).heap.size := by have := h.sz; omega
  have h1 := h.later hA
  have hB := grown_below h1.t hg hZ
  have hp := hF.hp
  have hlp := hF.lp
  refine ⟨h1.has.keep hB ⟨hF.lb, hF.lc, hF.lr⟩ (by omega), ?_, h1.var.of hg.size (hB.block pw hlp), hown, h.nb, ?_, Nat.le_trans hZ hg.size⟩
  · have hbl : w1.heap[rc]? = (w.alloc o).heap[rc]? := hg.block rc h1.rat.lt (fun e => h.nt (by first | exact e | exact e.symm))
    refine ⟨Nat.lt_of_lt_of_le h1.rat.lt hg.size, fun k x hx => ?_⟩
    have k1 : ∀ i, w1.cell? ⟨rc, i, none⟩ = (w.alloc o).cell? ⟨rc, i, none⟩ := fun i => World.cell?_of_block hbl
    unfold RC
    rw [k1, k1, k1, k1, k1]
    exact h1.rat.cl k x hx
  · rcases hblk with e | e
    · rw [e]; exact h.nt
    · rw [e]
      have := h.rat.lt
      intro e2
      cases e2
      omega
theorem plays_start {n : Nat} {w2 w3 : World} {rc : Nat} (hH : Has w0 b c r 0 w2 (M.new n)) (hr : RAt w3 rc (M.new n)) (hb : Below w2.heap.size w2 w3) (hrc : w2.heap.size ≤ rc) (cp : Nat) :
    Fix w0 b c r w3.heap.size (w3.heap.size + 1) ∧ Pl w0 b c r w3.heap.size (w3.heap.size + 1) 0 (w3.alloc (.cells #[.slice (some ⟨rc, 0, none⟩) (M.new n).cells.length cp, .int .i64 (M.new n).count, .int .i64 (M.new n).live, .int .i64 (M.new n).stale] 31)) (M.new n) rc cp [] (.slice none 0 0) := by
  have h1 := hH.at_.own.lb
  have h2 := hH.at_.own.lc
  have h3 := hH.at_.own.lr
  have h4 := hb.size
  have h5 := hr.lt
  have h6 := hH.hb
  have hA := (Below.refl w3.heap.size w3).alloc (Nat.le_refl _) (.cells #[.slice (some ⟨rc, 0, none⟩) (M.new n).cells.length cp, .int .i64 (M.new n).count, .int .i64 (M.new n).live, .int .i64 (M.new n).stale] 31)
  refine ⟨⟨by omega, by omega, by omega, by omega, by omega, by omega, by omega, by omega⟩, ⟨(hH.later hb).later hA, hr.below hA hr.lt, ⟨fun j v hj => ?_, fun i => World.frozen?_alloc_at _ 31 _ i rfl, by simp⟩, OwnI.nil _ _, ⟨by omega, by omega, by omega, by omega⟩, (fun e => by cases e), by simp⟩⟩
  rw [Nat.zero_add]
  exact alloc_cell _ _ _ j v (by simpa [M.row] using hj)
end
end Go.Proofs.YtnhpcakdnaoekaaDoor
