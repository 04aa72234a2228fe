/- What Alloc, AllocWord, Load, Word, Store, Swap, Free, Retire answer and make of memory. Conditions: counts and live cells are below 2 to the 61; generations are between 0 and 16384; the library's table stands. -/
import Derived.Test.YteiikkkcjpfapaaDoorWalkD
namespace Go.Proofs.YteiikkkcjpfapaaDoor
open Go.RowKit Go.Op
set_option maxRecDepth 100000

def M.ask (m : M) : M := { m with count := m.count + 1 }
def M.miss (m : M) : M := { m with count := m.count + 1, stale := m.stale + 1 }
def M.put (m : M) (p : Nat) (y : Cl) : M := { m with cells := m.cells.set p y }
def M.at (m : M) (h : Int) : Option (Nat × Cl) := (m.seek h).bind fun p => (m.cells[p]?).map fun x => (p, x)
def M.take (m : M) (t : Held) : M × Int × Int := match m.cells[m.least]? with
  | some x => ({ m with cells := m.cells.set m.least { x with held := t }, live := m.live + 1 }, hand m.least x.gen, 0)
  | none => (m, 0, 3)
def M.alloc (m : M) (t : Held) : M × Int × Int := m.ask.take t
def M.load (m : M) (h : Int) : M × Held × Int := match m.at h with
  | none => (m.miss, .no, 5)
  | some (_, x) => match x.held with
    | .desc n => (m.ask, .desc n, 0)
    | .text n => (m.ask, .text n, 0)
    | _ => (m.ask, .no, 6)
def M.word (m : M) (h : Int) : M × Int × Int := match m.at h with
  | none => (m.miss, 0, 5)
  | some (_, x) => match x.held with
    | .word n => (m.ask, n, 0)
    | _ => (m.ask, 0, 6)
def M.store (m : M) (h n : Int) : M × Int := match m.at h with
  | none => (m.miss, 5)
  | some (p, x) => match x.held with
    | .word _ => (m.ask.put p { x with held := .word n }, 0)
    | _ => (m.ask, 6)
def M.swap (m : M) (h old n : Int) : M × Bool × Int := match m.at h with
  | none => (m.miss, false, 5)
  | some (p, x) => match x.held with
    | .word k => if k = old then (m.ask.put p { x with held := .word n }, true, 0) else (m.ask, false, 0)
    | _ => (m.ask, false, 6)
def M.drop (m : M) (p : Nat) (x : Cl) : M := { m with cells := m.cells.set p x.freed, live := m.live - 1 }
def M.free (m : M) (h : Int) : M × Int := match m.at h with
  | none => (m.miss, 5)
  | some (p, x) => (m.ask.drop p x, 0)
def Cl.retired (x : Cl) (s : Int) : Cl := { x with ret := true, stamp := if x.ret = true ∧ s ≤ x.stamp then x.stamp else s }
def M.retire (m : M) (h s : Int) : M × Int := match m.at h with
  | none => (m.miss, 5)
  | some (p, x) => (m.ask.put p (x.retired s), 0)
def M.reap (m : M) (p below : Int) : M × Bool × Int :=
  if p < 0 ∨ (m.cells.length : Int) ≤ p then (m.ask, false, 10)
  else match m.cells[p.toNat]? with
    | some x => if x.ret = true ∧ x.stamp < below then (m.ask.drop p.toNat x, true, 0) else (m.ask, false, 0)
    | none => (m.ask, false, 0)

theorem at_none {m : M} {h : Int} (hs : m.seek h = none) : m.at h = none := by simp [M.at, hs]
theorem at_some {m : M} {h : Int} {p : Nat} {x : Cl} (hs : m.seek h = some p) (hx : m.cells[p]? = some x) : m.at h = some (p, x) := by simp [M.at, hs, hx]
theorem M.Ok.mono {N N' : Int} {m : M} (h : m.Ok N) (hN : N ≤ N') : m.Ok N' :=
  ⟨h.len, h.gen, ⟨h.cnt.1, Int.le_trans h.cnt.2 hN⟩, ⟨by have := h.liv; omega, by have := h.liv; omega⟩, ⟨h.stl.1, Int.le_trans h.stl.2 hN⟩⟩
theorem M.Ok.ask {N : Int} {m : M} (h : m.Ok N) : m.ask.Ok (N + 1) :=
  ⟨h.len, h.gen, by have := h.cnt; simp only [M.ask]; omega, by have := h.liv; simp only [M.ask]; omega, by have := h.stl; simp only [M.ask]; omega⟩
theorem M.Ok.miss {N : Int} {m : M} (h : m.Ok N) : m.miss.Ok (N + 1) :=
  ⟨h.len, h.gen, by have := h.cnt; simp only [M.miss]; omega, by have := h.liv; simp only [M.miss]; omega, by have := h.stl; simp only [M.miss]; omega⟩

theorem mk90 (x : Value) (w : World) : (Instr.makeInterface 113 x).run Tryd.prog w = .ok (.iface 113 x) w := run_makeInterface w 113 x (by kernel_rfl)

/-- A cell that holds something holds something else: which cells may be taken stays so. -/
theorem At.put0 {w : World} {b c r : Nat} {m : M} (h : At w b c r m) {p : Nat} {x : Cl} (hx : m.cells[p]? = some x) (hb : x.held.busy = true) {t : Held} (ht : t.busy = true) : At (w.setCell ⟨c, p * 4, none⟩ t.v) b c r (m.put p { x with held := t }) := by
  have h1 := AtF.put h (i := p) (by omega) ((h.cl p x hx).put0 t)
  have hf : m.flags.set p false = m.flags := set_val (by have := flags_at hx; rwa [can_busy hb] at this)
  unfold At M.put
  rw [flags_set, can_busy (x := { x with held := t }) ht, hf]
  exact h1

theorem allocword_any (w : World) (b c r : Nat) (m : M) (n : Int) (hA : At w b c r m) (hO : m.Ok 2305843009213693952) (hT : TabAt w) (b0 : b ≠ 0) (r0 : r ≠ 0) :
    Calls Tryd.prog 70 #[.pointer (some ⟨b, 0, none⟩), .int .i64 n] w fun e w' => e = .returned (.tuple #[.int .i64 (m.alloc (.word n)).2.1, .int .i64 (m.alloc (.word n)).2.2]) ∧ At w' b c r (m.alloc (.word n)).1 ∧ Kept b c r w w' := by
  have h2 := hA.head.h2
  have fb := hA.own.fb
  have hc := hO.cnt
  have hA1 : At _ b c r m.ask := AtF.count hA (m.count + 1)
  have hK1 := (Kept.refl b c r w).set (a := ⟨b, 2, none⟩) (.inl rfl) (.int .i64 (m.count + 1))
  have hT1 : TabAt (w.setCell ⟨b, 2, none⟩ (.int .i64 (m.count + 1))) := fun i hi => set_other (hT i hi) (.inl b0)
  have mk := mk90
  have hO1 : m.ask.Ok 4611686018427387904 := hO.ask.mono (by decide)
  generalize hw1 : w.setCell ⟨b, 2, none⟩ (.int .i64 (m.count + 1)) = w1 at hA1 hK1 hT1
  have HW := Lib.hid hw1
  have HT : Hid (Calls Tryd.prog 77 #[.pointer (some ⟨b, 0, none⟩), .iface 113 (.int .i64 n)] w1 fun e w' => e = .returned (.tuple #[.int .i64 (m.alloc (.word n)).2.1, .int .i64 (m.alloc (.word n)).2.2]) ∧ At w' b c r (m.alloc (.word n)).1 ∧ Kept b c r w1 w') := by
    unfold M.alloc M.take
    cases hx : m.ask.cells[m.ask.least]? with
    | some x => exact take_yes w1 b c r m.ask (.word n) x hA1 hO1 hT1 r0 hx rfl
    | none =>
      have hle : m.ask.least ≤ m.ask.flags.length := List.findIdx_le_length
      have hge := List.getElem?_eq_none_iff.1 hx
      have hfl : m.ask.flags.length = m.ask.cells.length := by simp [M.flags]
      refine (take_no w1 b c r m.ask _ hA1 hO1 (by omega)).mono ?_
      rintro e w2 ⟨rfl, rfl⟩
      exact ⟨rfl, hA1, Kept.refl b c r w1⟩
  clear hA hO hT hA1 hO1 hT1 hw1
  go_enter Tryd.func70, Tryd.ntmps70
  go_wp2_with fail
  rw [HW.out]
  refine HT.out.mono ?_
  rintro e w2 ⟨rfl, h1, h2⟩
  have HE := Lib.hid (⟨h1, hK1.trans h2⟩ : _ ∧ _)
  clear h1 h2
  go_wp2
  go_ret2
  exact ⟨rfl, HE.out⟩
theorem allocdesc_any (w : World) (b c r : Nat) (m : M) (n : Ds) (hA : At w b c r m) (hO : m.Ok 2305843009213693952) (hT : TabAt w) (b0 : b ≠ 0) (r0 : r ≠ 0) :
    Calls Tryd.prog 67 #[.pointer (some ⟨b, 0, none⟩), .iface 52 n.v] w fun e w' => e = .returned (.tuple #[.int .i64 (m.alloc (.desc n)).2.1, .int .i64 (m.alloc (.desc n)).2.2]) ∧ At w' b c r (m.alloc (.desc n)).1 ∧ Kept b c r w w' := by
  have h2 := hA.head.h2
  have fb := hA.own.fb
  have hc := hO.cnt
  have hA1 : At _ b c r m.ask := AtF.count hA (m.count + 1)
  have hK1 := (Kept.refl b c r w).set (a := ⟨b, 2, none⟩) (.inl rfl) (.int .i64 (m.count + 1))
  have hT1 : TabAt (w.setCell ⟨b, 2, none⟩ (.int .i64 (m.count + 1))) := fun i hi => set_other (hT i hi) (.inl b0)
  have hO1 : m.ask.Ok 4611686018427387904 := hO.ask.mono (by decide)
  generalize hw1 : w.setCell ⟨b, 2, none⟩ (.int .i64 (m.count + 1)) = w1 at hA1 hK1 hT1
  have HW := Lib.hid hw1
  have HT : Hid (Calls Tryd.prog 77 #[.pointer (some ⟨b, 0, none⟩), .iface 52 n.v] w1 fun e w' => e = .returned (.tuple #[.int .i64 (m.alloc (.desc n)).2.1, .int .i64 (m.alloc (.desc n)).2.2]) ∧ At w' b c r (m.alloc (.desc n)).1 ∧ Kept b c r w1 w') := by
    unfold M.alloc M.take
    cases hx : m.ask.cells[m.ask.least]? with
    | some x => exact take_yes w1 b c r m.ask (.desc n) x hA1 hO1 hT1 r0 hx rfl
    | none =>
      have hle : m.ask.least ≤ m.ask.flags.length := List.findIdx_le_length
      have hge := List.getElem?_eq_none_iff.1 hx
      have hfl : m.ask.flags.length = m.ask.cells.length := by simp [M.flags]
      refine (take_no w1 b c r m.ask _ hA1 hO1 (by omega)).mono ?_
      rintro e w2 ⟨rfl, rfl⟩
      exact ⟨rfl, hA1, Kept.refl b c r w1⟩
  clear hA hO hT hA1 hO1 hT1 hw1
  go_enter Tryd.func67, Tryd.ntmps67
  go_wp2_with fail
  rw [HW.out]
  refine HT.out.mono ?_
  rintro e w2 ⟨rfl, h1, h2⟩
  have HE := Lib.hid (⟨h1, hK1.trans h2⟩ : _ ∧ _)
  clear h1 h2
  go_wp2
  go_ret2
  exact ⟨rfl, HE.out⟩
theorem alloctext_any (w : World) (b c r : Nat) (m : M) (n : Value) (hA : At w b c r m) (hO : m.Ok 2305843009213693952) (hT : TabAt w) (b0 : b ≠ 0) (r0 : r ≠ 0) :
    Calls Tryd.prog 67 #[.pointer (some ⟨b, 0, none⟩), .iface 9 n] w fun e w' => e = .returned (.tuple #[.int .i64 (m.alloc (.text n)).2.1, .int .i64 (m.alloc (.text n)).2.2]) ∧ At w' b c r (m.alloc (.text n)).1 ∧ Kept b c r w w' := by
  have h2 := hA.head.h2
  have fb := hA.own.fb
  have hc := hO.cnt
  have hA1 : At _ b c r m.ask := AtF.count hA (m.count + 1)
  have hK1 := (Kept.refl b c r w).set (a := ⟨b, 2, none⟩) (.inl rfl) (.int .i64 (m.count + 1))
  have hT1 : TabAt (w.setCell ⟨b, 2, none⟩ (.int .i64 (m.count + 1))) := fun i hi => set_other (hT i hi) (.inl b0)
  have hO1 : m.ask.Ok 4611686018427387904 := hO.ask.mono (by decide)
  generalize hw1 : w.setCell ⟨b, 2, none⟩ (.int .i64 (m.count + 1)) = w1 at hA1 hK1 hT1
  have HW := Lib.hid hw1
  have HT : Hid (Calls Tryd.prog 77 #[.pointer (some ⟨b, 0, none⟩), .iface 9 n] w1 fun e w' => e = .returned (.tuple #[.int .i64 (m.alloc (.text n)).2.1, .int .i64 (m.alloc (.text n)).2.2]) ∧ At w' b c r (m.alloc (.text n)).1 ∧ Kept b c r w1 w') := by
    unfold M.alloc M.take
    cases hx : m.ask.cells[m.ask.least]? with
    | some x => exact take_yes w1 b c r m.ask (.text n) x hA1 hO1 hT1 r0 hx rfl
    | none =>
      have hle : m.ask.least ≤ m.ask.flags.length := List.findIdx_le_length
      have hge := List.getElem?_eq_none_iff.1 hx
      have hfl : m.ask.flags.length = m.ask.cells.length := by simp [M.flags]
      refine (take_no w1 b c r m.ask _ hA1 hO1 (by omega)).mono ?_
      rintro e w2 ⟨rfl, rfl⟩
      exact ⟨rfl, hA1, Kept.refl b c r w1⟩
  clear hA hO hT hA1 hO1 hT1 hw1
  go_enter Tryd.func67, Tryd.ntmps67
  go_wp2_with fail
  rw [HW.out]
  refine HT.out.mono ?_
  rintro e w2 ⟨rfl, h1, h2⟩
  have HE := Lib.hid (⟨h1, hK1.trans h2⟩ : _ ∧ _)
  clear h1 h2
  go_wp2
  go_ret2
  exact ⟨rfl, HE.out⟩
theorem load_any (w : World) (b c r : Nat) (m : M) (h : Int) (hA : At w b c r m) (hO : m.Ok 4611686018427387904) :
    Calls Tryd.prog 80 #[.pointer (some ⟨b, 0, none⟩), .int .i64 h] w fun e w' => e = .returned (.tuple #[(m.load h).2.1.v, .int .i64 (m.load h).2.2]) ∧ At w' b c r (m.load h).1 ∧ Kept b c r w w' := by
  have t1 := as69_word
  have t2 := as69_desc
  have t3 := as69_text
  cases hs : m.seek h with
  | none =>
    have hf := find_no w b c r m h hA hO hs
    have e1 : m.load h = (m.miss, .no, 5) := by simp only [M.load, at_none hs]
    rw [e1]
    clear hA hO hs e1
    go_enter Tryd.func80, Tryd.ntmps80
    go_wp2_with fail
    refine hf.mono ?_
    rintro e w1 ⟨rfl, h1, h2⟩
    have HE := Lib.hid (⟨h1, h2⟩ : _ ∧ _)
    clear h1 h2
    go_wp2
    go_ret2
    exact ⟨rfl, HE.out⟩
  | some p =>
    obtain ⟨_, _, x, hx, hb, _⟩ := M.seek_some hs
    have hf := find_yes w b c r m h p hA hO hs
    cases hh : x.held with
    | no => rw [hh] at hb; cases hb
    | word n =>
      have e1 : m.load h = (m.ask, .no, 6) := by simp only [M.load, at_some hs hx, hh]
      rw [e1]
      clear hA hO hs e1 hb
      go_enter Tryd.func80, Tryd.ntmps80
      go_wp2_with fail
      refine hf.mono ?_
      rintro e w1 ⟨rfl, h1, h2⟩
      have k0 := (h1.cl p x hx).1
      rw [hh] at k0
      simp only [Held.v] at k0
      have HE := Lib.hid (⟨h1, h2⟩ : _ ∧ _)
      clear h1 h2 hx hh
      go_wp2
      go_ret2
      exact ⟨rfl, HE.out⟩
    | desc n =>
      have e1 : m.load h = (m.ask, .desc n, 0) := by simp only [M.load, at_some hs hx, hh]
      rw [e1]
      clear hA hO hs e1 hb
      go_enter Tryd.func80, Tryd.ntmps80
      go_wp2_with fail
      refine hf.mono ?_
      rintro e w1 ⟨rfl, h1, h2⟩
      have k0 := (h1.cl p x hx).1
      rw [hh] at k0
      simp only [Held.v] at k0
      have HE := Lib.hid (⟨h1, h2⟩ : _ ∧ _)
      clear h1 h2 hx hh
      go_wp2
      go_ret2
      exact ⟨rfl, HE.out⟩
    | text n =>
      have e1 : m.load h = (m.ask, .text n, 0) := by simp only [M.load, at_some hs hx, hh]
      rw [e1]
      clear hA hO hs e1 hb
      go_enter Tryd.func80, Tryd.ntmps80
      go_wp2_with fail
      refine hf.mono ?_
      rintro e w1 ⟨rfl, h1, h2⟩
      have k0 := (h1.cl p x hx).1
      rw [hh] at k0
      simp only [Held.v] at k0
      have HE := Lib.hid (⟨h1, h2⟩ : _ ∧ _)
      clear h1 h2 hx hh
      go_wp2
      go_ret2
      exact ⟨rfl, HE.out⟩
end Go.Proofs.YteiikkkcjpfapaaDoor
