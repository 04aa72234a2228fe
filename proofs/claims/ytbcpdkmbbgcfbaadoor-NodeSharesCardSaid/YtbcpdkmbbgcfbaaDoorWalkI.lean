/- What Alloc, AllocWord, Load, Word, Store, Swap, Free, Retire answer and make of memory. Conditions: counts and live cells are below 2 to the 61; generations are between 0 and 16384; the library's table stands. -/
import Derived.Test.YtbcpdkmbbgcfbaaDoorWalkD
import Derived.Laws.MakeOwn
namespace Go.Proofs.YtbcpdkmbbgcfbaaDoor
open Go.RowKit Go.Op
set_option maxRecDepth 100000

def M.ask (m : M) : M := { m with count := m.count + 1 }
def M.miss (m : M) : M := { m with count := m.count + 1, stale := m.stale + 1 }
def M.put (m : M) (p : Nat) (y : Cl) : M := { m with cells := m.cells.set p y }
def M.at (m : M) (h : Int) : Option (Nat × Cl) := (m.seek h).bind fun p => (m.cells[p]?).map fun x => (p, x)
def M.take (m : M) (t : Held) : M × Int × Int := match m.cells[m.least]? with
  | some x => ({ m with cells := m.cells.set m.least { x with held := t }, live := m.live + 1 }, hand m.least x.gen, 0)
  | none => (m, 0, 3)
def M.alloc (m : M) (t : Held) : M × Int × Int := m.ask.take t
def M.load (m : M) (h : Int) : M × Held × Int := match m.at h with
  | none => (m.miss, .no, 5)
  | some (_, x) => match x.held with
    | .blk d p => (m.ask, .blk d p, 0)
    | _ => (m.ask, .no, 6)
def M.word (m : M) (h : Int) : M × Int × Int := match m.at h with
  | none => (m.miss, 0, 5)
  | some (_, x) => match x.held with
    | .word n => (m.ask, n, 0)
    | _ => (m.ask, 0, 6)
def M.store (m : M) (h n : Int) : M × Int := match m.at h with
  | none => (m.miss, 5)
  | some (p, x) => match x.held with
    | .word _ => (m.ask.put p { x with held := .word n }, 0)
    | _ => (m.ask, 6)
def M.swap (m : M) (h old n : Int) : M × Bool × Int := match m.at h with
  | none => (m.miss, false, 5)
  | some (p, x) => match x.held with
    | .word k => if k = old then (m.ask.put p { x with held := .word n }, true, 0) else (m.ask, false, 0)
    | _ => (m.ask, false, 6)
def M.drop (m : M) (p : Nat) (x : Cl) : M := { m with cells := m.cells.set p x.freed, live := m.live - 1 }
def M.free (m : M) (h : Int) : M × Int := match m.at h with
  | none => (m.miss, 5)
  | some (p, x) => (m.ask.drop p x, 0)
def Cl.retired (x : Cl) (s : Int) : Cl := { x with ret := true, stamp := if x.ret = true ∧ s ≤ x.stamp then x.stamp else s }
def M.retire (m : M) (h s : Int) : M × Int := match m.at h with
  | none => (m.miss, 5)
  | some (p, x) => (m.ask.put p (x.retired s), 0)
def M.reap (m : M) (p below : Int) : M × Bool × Int :=
  if p < 0 ∨ (m.cells.length : Int) ≤ p then (m.ask, false, 10)
  else match m.cells[p.toNat]? with
    | some x => if x.ret = true ∧ x.stamp < below then (m.ask.drop p.toNat x, true, 0) else (m.ask, false, 0)
    | none => (m.ask, false, 0)

theorem at_none {m : M} {h : Int} (hs : m.seek h = none) : m.at h = none := by simp [M.at, hs]
theorem at_some {m : M} {h : Int} {p : Nat} {x : Cl} (hs : m.seek h = some p) (hx : m.cells[p]? = some x) : m.at h = some (p, x) := by simp [M.at, hs, hx]
theorem M.Ok.mono {N N' : Int} {m : M} (h : m.Ok N) (hN : N ≤ N') : m.Ok N' :=
  ⟨h.len, h.gen, ⟨h.cnt.1, Int.le_trans h.cnt.2 hN⟩, ⟨by have := h.liv; omega, by have := h.liv; omega⟩, ⟨h.stl.1, Int.le_trans h.stl.2 hN⟩⟩
theorem M.Ok.ask {N : Int} {m : M} (h : m.Ok N) : m.ask.Ok (N + 1) :=
  ⟨h.len, h.gen, by have := h.cnt; simp only [M.ask]; omega, by have := h.liv; simp only [M.ask]; omega, by have := h.stl; simp only [M.ask]; omega⟩
theorem M.Ok.miss {N : Int} {m : M} (h : m.Ok N) : m.miss.Ok (N + 1) :=
  ⟨h.len, h.gen, by have := h.cnt; simp only [M.miss]; omega, by have := h.liv; simp only [M.miss]; omega, by have := h.stl; simp only [M.miss]; omega⟩

theorem mk90 (x : Value) (w : World) : (Instr.makeInterface 125 x).run Tryd.prog w = .ok (.iface 125 x) w := run_makeInterface w 125 x (by kernel_rfl)

/-- A cell that holds something holds something else: which cells may be taken stays so. -/
theorem At.put0 {w : World} {b c r : Nat} {m : M} (h : At w b c r m) {p : Nat} {x : Cl} (hx : m.cells[p]? = some x) (hb : x.held.busy = true) {t : Held} (ht : t.busy = true) : At (w.setCell ⟨c, p * 4, none⟩ t.v) b c r (m.put p { x with held := t }) := by
  have h1 := AtF.put h (i := p) (by omega) ((h.cl p x hx).put0 t)
  have hf : m.flags.set p false = m.flags := set_val (by have := flags_at hx; rwa [can_busy hb] at this)
  unfold At M.put
  rw [flags_set, can_busy (x := { x with held := t }) ht, hf]
  exact h1

theorem allocword_any (w : World) (b c r : Nat) (m : M) (n : Int) (hA : At w b c r m) (hO : m.Ok 2305843009213693952) (hT : TabAt w) (b0 : b ≠ 0) (r0 : r ≠ 0) :
    Calls Tryd.prog 78 #[.pointer (some ⟨b, 0, none⟩), .int .i64 n] w fun e w' => e = .returned (.tuple #[.int .i64 (m.alloc (.word n)).2.1, .int .i64 (m.alloc (.word n)).2.2]) ∧ At w' b c r (m.alloc (.word n)).1 ∧ Kept b c r w w' := by
  have h2 := hA.head.h2
  have fb := hA.own.fb
  have hc := hO.cnt
  have hA1 : At _ b c r m.ask := AtF.count hA (m.count + 1)
  have hK1 := (Kept.refl b c r w).set (a := ⟨b, 2, none⟩) (.inl rfl) (.int .i64 (m.count + 1))
  have hT1 : TabAt (w.setCell ⟨b, 2, none⟩ (.int .i64 (m.count + 1))) := fun i hi => set_other (hT i hi) (.inl b0)
  have mk := mk90
  have hO1 : m.ask.Ok 4611686018427387904 := hO.ask.mono (by decide)
  generalize hw1 : w.setCell ⟨b, 2, none⟩ (.int .i64 (m.count + 1)) = w1 at hA1 hK1 hT1
  have HW := Lib.hid hw1
  have HT : Hid (Calls Tryd.prog 82 #[.pointer (some ⟨b, 0, none⟩), .iface 125 (.int .i64 n)] w1 fun e w' => e = .returned (.tuple #[.int .i64 (m.alloc (.word n)).2.1, .int .i64 (m.alloc (.word n)).2.2]) ∧ At w' b c r (m.alloc (.word n)).1 ∧ Kept b c r w1 w') := by
    unfold M.alloc M.take
    cases hx : m.ask.cells[m.ask.least]? with
    | some x => exact take_yes w1 b c r m.ask (.word n) x hA1 hO1 hT1 r0 hx rfl
    | none =>
      have hle : m.ask.least ≤ m.ask.flags.length := List.findIdx_le_length
      have hge := List.getElem?_eq_none_iff.1 hx
      have hfl : m.ask.flags.length = m.ask.cells.length := by simp [M.flags]
      refine (take_no w1 b c r m.ask _ hA1 hO1 (by omega)).mono ?_
      rintro e w2 ⟨rfl, rfl⟩
      exact ⟨rfl, hA1, Kept.refl b c r w1⟩
  clear hA hO hT hA1 hO1 hT1 hw1
  go_enter Tryd.func78, Tryd.ntmps78
  go_wp2_with fail
  rw [HW.out]
  refine HT.out.mono ?_
  rintro e w2 ⟨rfl, h1, h2⟩
  have HE := Lib.hid (⟨h1, hK1.trans h2⟩ : _ ∧ _)
  clear h1 h2
  go_wp2
  go_ret2
  exact ⟨rfl, HE.out⟩
theorem allocblk_any (w : World) (b c r : Nat) (m : M) (d : Dat) (pl : Pl) (hA : At w b c r m) (hO : m.Ok 2305843009213693952) (hT : TabAt w) (b0 : b ≠ 0) (r0 : r ≠ 0) :
    Calls Tryd.prog 79 #[.pointer (some ⟨b, 0, none⟩), .iface d.ty (d.v pl)] w fun e w' => e = .returned (.tuple #[.int .i64 (m.alloc (.blk d pl)).2.1, .int .i64 (m.alloc (.blk d pl)).2.2]) ∧ At w' b c r (m.alloc (.blk d pl)).1 ∧ Kept b c r w w' := by
  have h2 := hA.head.h2
  have fb := hA.own.fb
  have hc := hO.cnt
  have hA1 : At _ b c r m.ask := AtF.count hA (m.count + 1)
  have hK1 := (Kept.refl b c r w).set (a := ⟨b, 2, none⟩) (.inl rfl) (.int .i64 (m.count + 1))
  have hT1 : TabAt (w.setCell ⟨b, 2, none⟩ (.int .i64 (m.count + 1))) := fun i hi => set_other (hT i hi) (.inl b0)
  have hO1 : m.ask.Ok 4611686018427387904 := hO.ask.mono (by decide)
  generalize hw1 : w.setCell ⟨b, 2, none⟩ (.int .i64 (m.count + 1)) = w1 at hA1 hK1 hT1
  have HW := Lib.hid hw1
  have HT : Hid (Calls Tryd.prog 82 #[.pointer (some ⟨b, 0, none⟩), .iface d.ty (d.v pl)] w1 fun e w' => e = .returned (.tuple #[.int .i64 (m.alloc (.blk d pl)).2.1, .int .i64 (m.alloc (.blk d pl)).2.2]) ∧ At w' b c r (m.alloc (.blk d pl)).1 ∧ Kept b c r w1 w') := by
    unfold M.alloc M.take
    cases hx : m.ask.cells[m.ask.least]? with
    | some x => exact take_yes w1 b c r m.ask (.blk d pl) x hA1 hO1 hT1 r0 hx rfl
    | none =>
      have hle : m.ask.least ≤ m.ask.flags.length := List.findIdx_le_length
      have hge := List.getElem?_eq_none_iff.1 hx
      have hfl : m.ask.flags.length = m.ask.cells.length := by simp [M.flags]
      refine (take_no w1 b c r m.ask _ hA1 hO1 (by omega)).mono ?_
      rintro e w2 ⟨rfl, rfl⟩
      exact ⟨rfl, hA1, Kept.refl b c r w1⟩
  clear hA hO hT hA1 hO1 hT1 hw1
  go_enter Tryd.func79, Tryd.ntmps79
  go_wp2_with fail
  rw [HW.out]
  refine HT.out.mono ?_
  rintro e w2 ⟨rfl, h1, h2⟩
  have HE := Lib.hid (⟨h1, hK1.trans h2⟩ : _ ∧ _)
  clear h1 h2
  go_wp2
  go_ret2
  exact ⟨rfl, HE.out⟩
theorem load_any (w : World) (b c r : Nat) (m : M) (h : Int) (hA : At w b c r m) (hO : m.Ok 4611686018427387904) :
    Calls Tryd.prog 76 #[.pointer (some ⟨b, 0, none⟩), .int .i64 h] w fun e w' => e = .returned (.tuple #[(m.load h).2.1.v, .int .i64 (m.load h).2.2]) ∧ At w' b c r (m.load h).1 ∧ Kept b c r w w' := by
  have t1 := as69_word
  have t2 := as69_blk
  cases hs : m.seek h with
  | none =>
    have hf := find_no w b c r m h hA hO hs
    have e1 : m.load h = (m.miss, .no, 5) := by simp only [M.load, at_none hs]
    rw [e1]
    clear hA hO hs e1
    go_enter Tryd.func76, Tryd.ntmps76
    go_wp2_with fail
    refine hf.mono ?_
    rintro e w1 ⟨rfl, h1, h2⟩
    have HE := Lib.hid (⟨h1, h2⟩ : _ ∧ _)
    clear h1 h2
    go_wp2
    go_ret2
    exact ⟨rfl, HE.out⟩
  | some p =>
    obtain ⟨_, _, x, hx, hb, _⟩ := M.seek_some hs
    have hf := find_yes w b c r m h p hA hO hs
    cases hh : x.held with
    | no => rw [hh] at hb; cases hb
    | word n =>
      have e1 : m.load h = (m.ask, .no, 6) := by simp only [M.load, at_some hs hx, hh]
      rw [e1]
      clear hA hO hs e1 hb
      go_enter Tryd.func76, Tryd.ntmps76
      go_wp2_with fail
      refine hf.mono ?_
      rintro e w1 ⟨rfl, h1, h2⟩
      have k0 := (h1.cl p x hx).1
      rw [hh] at k0
      simp only [Held.v] at k0
      have HE := Lib.hid (⟨h1, h2⟩ : _ ∧ _)
      clear h1 h2 hx hh
      go_wp2
      go_ret2
      exact ⟨rfl, HE.out⟩
    | blk d pl =>
      have e1 : m.load h = (m.ask, .blk d pl, 0) := by simp only [M.load, at_some hs hx, hh]
      rw [e1]
      clear hA hO hs e1 hb
      go_enter Tryd.func76, Tryd.ntmps76
      go_wp2_with fail
      refine hf.mono ?_
      rintro e w1 ⟨rfl, h1, h2⟩
      have k0 := (h1.cl p x hx).1
      rw [hh] at k0
      simp only [Held.v] at k0
      have HE := Lib.hid (⟨h1, h2⟩ : _ ∧ _)
      clear h1 h2 hx hh
      go_wp2
      go_ret2
      exact ⟨rfl, HE.out⟩
end Go.Proofs.YtbcpdkmbbgcfbaaDoor
/- What Word, Store, Swap, Free, Retire, Reap answer and make of memory. Conditions: counts and live cells are below 2 to the 62; generations are between 0 and 16384; only what holds something is retired. -/
namespace Go.Proofs.YtbcpdkmbbgcfbaaDoor
open Go.RowKit Go.Op
set_option maxRecDepth 100000

theorem word_any (w : World) (b c r : Nat) (m : M) (h : Int) (hA : At w b c r m) (hO : m.Ok 2305843009213693952) :
    Calls Tryd.prog 63 #[.pointer (some ⟨b, 0, none⟩), .int .i64 h] w fun e w' => e = .returned (.tuple #[.int .i64 (m.word h).2.1, .int .i64 (m.word h).2.2]) ∧ At w' b c r (m.word h).1 ∧ Kept b c r w w' := by
  have hO2 : m.Ok 4611686018427387904 := hO.mono (by decide)
  cases hs : m.seek h with
  | none =>
    have hf := fword_no w b c r m h hA hO2 hs
    have e1 : m.word h = (m.miss, 0, 5) := by simp only [M.word, at_none hs]
    rw [e1]
    clear hA hO hO2 hs e1
    go_enter Tryd.func63, Tryd.ntmps63
    go_wp2_with fail
    refine hf.mono ?_
    rintro e w1 ⟨rfl, h1, h2⟩
    have HE := Lib.hid (⟨h1, h2⟩ : _ ∧ _)
    clear h1 h2
    go_wp2
    go_ret2
    exact ⟨rfl, HE.out⟩
  | some p =>
    obtain ⟨_, _, x, hx, hb, _⟩ := M.seek_some hs
    cases hh : x.held with
    | no => rw [hh] at hb; cases hb
    | word n =>
      have hf := fword_word w b c r m h p x n hA hO2 hs hx hh
      have e1 : m.word h = (m.ask, n, 0) := by simp only [M.word, at_some hs hx, hh]
      rw [e1]
      clear hA hO hO2 hs e1 hb hh hx
      go_enter Tryd.func63, Tryd.ntmps63
      go_wp2_with fail
      refine hf.mono ?_
      rintro e w1 ⟨rfl, h1, h2⟩
      have HE := Lib.hid (⟨h1, h2⟩ : _ ∧ _)
      clear h1 h2
      go_wp2
      go_ret2
      exact ⟨rfl, HE.out⟩
    | blk d pl =>
      have hf := fword_blk w b c r m h p x d pl hA hO2 hs hx hh
      have e1 : m.word h = (m.ask, 0, 6) := by simp only [M.word, at_some hs hx, hh]
      rw [e1]
      clear hA hO hO2 hs e1 hb hh hx
      go_enter Tryd.func63, Tryd.ntmps63
      go_wp2_with fail
      refine hf.mono ?_
      rintro e w1 ⟨rfl, h1, h2⟩
      have HE := Lib.hid (⟨h1, h2⟩ : _ ∧ _)
      clear h1 h2
      go_wp2
      go_ret2
      exact ⟨rfl, HE.out⟩

theorem swap_any (w : World) (b c r : Nat) (m : M) (h : Int) (old n : Int) (hA : At w b c r m) (hO : m.Ok 2305843009213693952) :
    Calls Tryd.prog 77 #[.pointer (some ⟨b, 0, none⟩), .int .i64 h, .int .i64 old, .int .i64 n] w fun e w' => e = .returned (.tuple #[.bool (m.swap h old n).2.1, .int .i64 (m.swap h old n).2.2]) ∧ At w' b c r (m.swap h old n).1 ∧ Kept b c r w w' := by
  have hO2 : m.Ok 4611686018427387904 := hO.mono (by decide)
  have mk := mk90
  cases hs : m.seek h with
  | none =>
    have hf := fword_no w b c r m h hA hO2 hs
    have e1 : m.swap h old n = (m.miss, false, 5) := by simp only [M.swap, at_none hs]
    rw [e1]
    clear hA hO hO2 hs e1
    go_enter Tryd.func77, Tryd.ntmps77
    go_wp2_with fail
    refine hf.mono ?_
    rintro e w1 ⟨rfl, h1, h2⟩
    have HE := Lib.hid (⟨h1, h2⟩ : _ ∧ _)
    clear h1 h2
    go_wp2
    go_ret2
    exact ⟨rfl, HE.out⟩
  | some p =>
    obtain ⟨_, _, x, hx, hb, _⟩ := M.seek_some hs
    cases hh : x.held with
    | no => rw [hh] at hb; cases hb
    | word k =>
      have hf := fword_word w b c r m h p x k hA hO2 hs hx hh
      by_cases hk : k = old
      · have e1 : m.swap h old n = (m.ask.put p { x with held := .word n }, true, 0) := by simp only [M.swap, at_some hs hx, hh, if_pos hk]
        rw [e1]
        subst hk
        clear hA hO hO2 hs e1 hb
        go_enter Tryd.func77, Tryd.ntmps77
        go_wp2_with fail
        refine hf.mono ?_
        rintro e w1 ⟨rfl, h1, h2⟩
        have hp := At.put0 h1 hx (by rw [hh]; rfl) (t := .word n) rfl
        have k0 := (h1.cl p x hx).1
        rw [hh] at k0
        simp only [Held.v] at k0 hp
        have fc := h1.own.fc
        have HE := Lib.hid (⟨hp, h2.set (a := ⟨c, p * 4, none⟩) (.inr (.inl rfl)) (.iface 125 (.int .i64 n))⟩ : _ ∧ _)
        clear h1 h2 hx hh hp
        go_wp2
        go_ret2
        exact ⟨rfl, HE.out⟩
      · have e1 : m.swap h old n = (m.ask, false, 0) := by simp only [M.swap, at_some hs hx, hh, if_neg hk]
        rw [e1]
        have hk2 : (k == old) = false := by simpa using hk
        clear hA hO hO2 hs e1 hb hh hx hk
        go_enter Tryd.func77, Tryd.ntmps77
        go_wp2_with fail
        refine hf.mono ?_
        rintro e w1 ⟨rfl, h1, h2⟩
        have HE := Lib.hid (⟨h1, h2⟩ : _ ∧ _)
        clear h1 h2
        go_wp2
        go_ret2
        exact ⟨rfl, HE.out⟩
    | blk d pl =>
      have hf := fword_blk w b c r m h p x d pl hA hO2 hs hx hh
      have e1 : m.swap h old n = (m.ask, false, 6) := by simp only [M.swap, at_some hs hx, hh]
      rw [e1]
      clear hA hO hO2 hs e1 hb hh hx
      go_enter Tryd.func77, Tryd.ntmps77
      go_wp2_with fail
      refine hf.mono ?_
      rintro e w1 ⟨rfl, h1, h2⟩
      have HE := Lib.hid (⟨h1, h2⟩ : _ ∧ _)
      clear h1 h2
      go_wp2
      go_ret2
      exact ⟨rfl, HE.out⟩

theorem free_any (w : World) (b c r : Nat) (m : M) (h : Int) (hA : At w b c r m) (hO : m.Ok 2305843009213693952) :
    Calls Tryd.prog 81 #[.pointer (some ⟨b, 0, none⟩), .int .i64 h] w fun e w' => e = .returned (.int .i64 (m.free h).2) ∧ At w' b c r (m.free h).1 ∧ Kept b c r w w' := by
  have hO2 : m.Ok 4611686018427387904 := hO.mono (by decide)
  cases hs : m.seek h with
  | none =>
    have hf := find_no w b c r m h hA hO2 hs
    have e1 : m.free h = (m.miss, 5) := by simp only [M.free, at_none hs]
    rw [e1]
    clear hA hO hO2 hs e1
    go_enter Tryd.func81, Tryd.ntmps81
    go_wp2_with fail
    refine hf.mono ?_
    rintro e w1 ⟨rfl, h1, h2⟩
    have HE := Lib.hid (⟨h1, h2⟩ : _ ∧ _)
    clear h1 h2
    go_wp2
    go_ret
    exact ⟨rfl, HE.out⟩
  | some p =>
    obtain ⟨hi, hp, x, hx, hb, _⟩ := M.seek_some hs
    have hf := find_yes w b c r m h p hA hO2 hs
    have e1 : m.free h = (m.ask.drop p x, 0) := by simp only [M.free, at_some hs hx]
    have hd := fun w1 (h1 : At w1 b c r m.ask) => drop_any w1 b c r m.ask p x h1 (hO.ask.mono (by decide)) hx hb
    have hpl := fun w => place_any h w
    have e2 : placeOf h = p := by simp only [placeOf, hi, if_true]; exact hp.symm
    rw [e2] at hpl
    rw [e1]
    have HD := Lib.hid hd
    clear hA hO hO2 hs e1 hb hx hp hd
    go_enter Tryd.func81, Tryd.ntmps81
    go_wp2_with fail
    refine hf.mono ?_
    rintro e w1 ⟨rfl, h1, h2⟩
    have hd1 := HD.out w1 h1
    clear h1
    go_wp2_with fail
    refine (hpl _).mono ?_
    rintro e w2 ⟨rfl, rfl⟩
    go_wp2_with fail
    refine hd1.mono ?_
    rintro e w3 ⟨rfl, h3, h4⟩
    have HE := Lib.hid (⟨h3, h2.trans h4⟩ : _ ∧ _)
    clear h2 h3 h4
    go_wp2
    go_ret
    exact ⟨rfl, HE.out⟩

end Go.Proofs.YtbcpdkmbbgcfbaaDoor
/- What Reap and New answer and make of memory. Conditions: counts and live cells are below 2 to the 61; generations are between 0 and 16384; only what holds something is retired; New's number is at most 65535, or any other. -/
namespace Go.Proofs.YtbcpdkmbbgcfbaaDoor
open Go.RowKit Go.Op
set_option maxRecDepth 100000

/-- Memory, all of whose cells are free. -/
def M.new (n : Nat) : M := ⟨List.replicate n ⟨.no, 0, false, 0⟩, 0, 0, 0⟩
theorem new_bad (n : Int) (hn : n < 1 ∨ 65535 < n) (w : World) : Calls Tryd.prog 30 #[.int .i64 n] w fun e w' => e = .returned (.tuple #[.pointer none, .int .i64 10]) ∧ w = w' := by
  rcases hn with hn | hn
  · go_enter Tryd.func30, Tryd.ntmps30
    go_wp2
    go_ret2
    exact ⟨rfl, rfl⟩
  · have h1 : ¬ n < 1 := by omega
    go_enter Tryd.func30, Tryd.ntmps30
    go_wp2
    go_ret2
    exact ⟨rfl, rfl⟩
theorem info76 : (Tryd.prog.info? 132).map (fun i => (i.zero, i.size, i.bytes)) = some (some (.agg #[.nilIface, .int .i64 0, .bool false, .int .i64 0]), 4, 40) := by kernel_rfl
theorem info77 : (Tryd.prog.info? 120).map (fun i => (i.zero, i.size, i.bytes)) = some (some (.int .u64 0), 1, 8) := by kernel_rfl
/-- The cells and the rows of a new memory. -/
def cellsObj (n : Nat) : Obj := .cells (madeCells (Value.agg #[.nilIface, .int .i64 0, .bool false, .int .i64 0]).cells (n * 4)) 132
def rowsObj (n : Nat) : Obj := .cells (madeCells (Value.int .u64 0).cells ((n + 63) / 64 * 1)) 120
theorem make_cells (w : World) (n : Nat) (hn : n ≤ 65535) : (Instr.makeSlice 97 (.int .i64 (n : Int)) (.int .i64 (n : Int))).run Tryd.prog w = .ok (.slice (some ⟨w.heap.size, 0, none⟩) n n) (w.alloc (cellsObj n)) := by
  obtain ⟨i0, hi, hz0, hz1, hz2⟩ := info_parts info76
  have hr := run_make (P := Tryd.prog) w 97 132 i0 _ Tryd.underlying97 hi hz0 .i64 .i64 (n : Int) (n : Int) (by omega) (by omega) (by rw [hz2]; omega) (by omega)
  simp only [Int.toNat_natCast, hz1] at hr
  exact hr
theorem make_rows (w : World) (n : Nat) (hn : n ≤ 65535) : (Instr.makeSlice 98 (.int .i64 (((n + 63) / 64 : Nat) : Int)) (.int .i64 (((n + 63) / 64 : Nat) : Int))).run Tryd.prog w = .ok (.slice (some ⟨w.heap.size, 0, none⟩) ((n + 63) / 64) ((n + 63) / 64)) (w.alloc (rowsObj n)) := by
  obtain ⟨i0, hi, hz0, hz1, hz2⟩ := info_parts info77
  have hr := run_make (P := Tryd.prog) w 98 120 i0 _ Tryd.underlying98 hi hz0 .i64 .i64 (((n + 63) / 64 : Nat) : Int) (((n + 63) / 64 : Nat) : Int) (by omega) (by omega) (by rw [hz2]; omega) (by omega)
  simp only [Int.toNat_natCast, hz1] at hr
  exact hr
/-- Which cells may be taken once the first i are opened. -/
def opened (n i : Nat) : List Bool := (List.range n).map fun k => decide (k < i)
theorem opened_set (n i : Nat) : (opened n i).set i true = opened n (i + 1) := by
  apply List.ext_getElem?
  intro k
  simp only [opened, List.getElem?_set, List.getElem?_map, List.length_map, List.length_range]
  by_cases hk : k < n
  · rw [List.getElem?_range hk]
    by_cases e : i = k
    · subst e
      rw [if_pos rfl, if_pos hk]; simp
    · rw [if_neg e]
      simp only [Option.map_some, Option.some.injEq, decide_eq_decide]
      omega
  · rw [List.getElem?_eq_none (by simpa using hk)]
    by_cases e : i = k
    · subst e
      rw [if_pos rfl, if_neg hk]; rfl
    · rw [if_neg e]; rfl
theorem opened_all (n : Nat) : opened n n = (M.new n).flags := by
  apply List.ext_getElem?
  intro k
  simp only [opened, M.flags, M.new, List.getElem?_map, List.getElem?_replicate]
  by_cases hk : k < n
  · rw [List.getElem?_range hk, if_pos hk]
    simp [hk, Cl.can, Held.busy]
  · rw [List.getElem?_eq_none (by simpa using hk), if_neg hk]; rfl
theorem opened_row (n j : Nat) : rowAt (opened n 0) j = 0 := by
  have h : ∀ l : List Bool, (∀ x ∈ l, x = false) → bitsOf l = 0 := by
    intro l
    induction l with
    | nil => intro _; rfl
    | cons x t ih => intro hx; rw [bitsOf, ih (fun y hy => hx y (List.mem_cons_of_mem _ hy)), hx x (List.mem_cons_self ..)]; rfl
  refine h _ fun x hx => ?_
  have := List.mem_of_mem_drop (List.mem_of_mem_take hx)
  simp [opened] at this
  exact this.2
theorem cells_new (w : World) (n : Nat) : Cells (w.alloc (cellsObj n)) w.heap.size (M.new n).cells ∧ ∀ i, (w.alloc (cellsObj n)).frozen? ⟨w.heap.size, i, none⟩ = false := by
  refine ⟨fun i x hx => ?_, fun i => World.frozen?_alloc_at _ 132 _ i rfl⟩
  have hi : i < n := by simpa [M.new] using (List.getElem?_eq_some_iff.1 hx).1
  have hx2 : x = ⟨.no, 0, false, 0⟩ := by
    simp only [M.new, List.getElem?_replicate, if_pos hi, Option.some.injEq] at hx
    exact hx.symm
  subst hx2
  have hc : ∀ k, k < 4 → (w.alloc (cellsObj n)).cell? ⟨w.heap.size, i * 4 + k, none⟩ = some ((Value.agg #[.nilIface, .int .i64 0, .bool false, .int .i64 0]).cells[k]!) := by
    intro k hk
    unfold cellsObj
    rw [World.cell?_alloc_new]
    have e : (Value.agg #[.nilIface, .int .i64 0, .bool false, .int .i64 0]).cells.size = 4 := rfl
    simp only [madeCells, Array.getElem?_map, Array.getElem?_range, show i * 4 + k < n * 4 by omega, if_true, Option.map_some, e, show (i * 4 + k) % 4 = k by omega]
  exact ⟨hc 0 (by omega), hc 1 (by omega), hc 2 (by omega), hc 3 (by omega)⟩
theorem rows_new (w : World) (n : Nat) : Rows (w.alloc (rowsObj n)) w.heap.size n (opened n 0) ∧ ∀ i, (w.alloc (rowsObj n)).frozen? ⟨w.heap.size, i, none⟩ = false := by
  refine ⟨fun j hj => ?_, fun i => World.frozen?_alloc_at _ 120 _ i rfl⟩
  rw [opened_row]
  unfold rowsObj
  rw [World.cell?_alloc_new]
  have e : (Value.int .u64 0).cells = #[Value.int .u64 0] := rfl
  simp only [madeCells, Array.getElem?_map, Array.getElem?_range, show j < (n + 63) / 64 * 1 by omega, if_true, Option.map_some, e]
  simp [Nat.mod_one]
/-- The three blocks of a new memory, once they are there. -/
theorem new_start (w W : World) (b c r n : Nat) (h1 : b < W.heap.size) (h2 : c < W.heap.size) (h3 : r < W.heap.size) (h4 : b ≠ c) (h5 : b ≠ r) (h6 : c ≠ r)
    (hb : ∃ u : World, u.heap.size = b ∧ Below (b + 1) (u.alloc (.cells #[.slice (some ⟨c, 0, none⟩) n n, .slice (some ⟨r, 0, none⟩) ((n + 63) / 64) ((n + 63) / 64), .int .i64 0, .int .i64 0, .int .i64 0] 100)) W)
    (hc : ∃ u : World, u.heap.size = c ∧ Below (c + 1) (u.alloc (cellsObj n)) W) (hr : ∃ u : World, u.heap.size = r ∧ Below (r + 1) (u.alloc (rowsObj n)) W) (hB : Below w.heap.size w W) :
    Hid (AtF W b c r (M.new n) (opened n 0) ∧ Below w.heap.size w W) := by
  obtain ⟨u1, rfl, k1⟩ := hb
  obtain ⟨u2, rfl, k2⟩ := hc
  obtain ⟨u3, rfl, k3⟩ := hr
  obtain ⟨c1, c2⟩ := cells_new u2 n
  obtain ⟨r1, r2⟩ := rows_new u3 n
  have hl : (M.new n).cells.length = n := by simp [M.new]
  have hd : ∀ i v, (#[Value.slice (some ⟨u2.heap.size, 0, none⟩) n n, .slice (some ⟨u3.heap.size, 0, none⟩) ((n + 63) / 64) ((n + 63) / 64), .int .i64 0, .int .i64 0, .int .i64 0] : Array Value)[i]? = some v → W.cell? ⟨u1.heap.size, i, none⟩ = some v := fun i v hv => by
    rw [k1.cell (p := ⟨u1.heap.size, i, none⟩) (Nat.lt_succ_self _), World.cell?_alloc_new]
    exact hv
  refine ⟨⟨⟨h1, h2, h3, h4, h5, h6, fun i => ?_, fun i => ?_, fun i => ?_⟩, ?_, fun i x hx => ?_, fun j hj => ?_⟩, hB⟩
  · rw [k1.frozen (p := ⟨u1.heap.size, i, none⟩) (Nat.lt_succ_self _)]; exact World.frozen?_alloc_at _ 100 _ i rfl
  · rw [k2.frozen (p := ⟨u2.heap.size, i, none⟩) (Nat.lt_succ_self _)]; exact c2 i
  · rw [k3.frozen (p := ⟨u3.heap.size, i, none⟩) (Nat.lt_succ_self _)]; exact r2 i
  · rw [hl]
    exact ⟨hd 0 _ rfl, hd 1 _ rfl, hd 2 _ rfl, hd 3 _ rfl, hd 4 _ rfl⟩
  · have := c1 i x hx
    unfold CAt at this ⊢
    rw [k2.cell (p := ⟨u2.heap.size, i * 4, none⟩) (Nat.lt_succ_self _), k2.cell (p := ⟨u2.heap.size, i * 4 + 1, none⟩) (Nat.lt_succ_self _), k2.cell (p := ⟨u2.heap.size, i * 4 + 2, none⟩) (Nat.lt_succ_self _), k2.cell (p := ⟨u2.heap.size, i * 4 + 3, none⟩) (Nat.lt_succ_self _)]
    exact this
  · rw [k3.cell (p := ⟨u3.heap.size, j, none⟩) (Nat.lt_succ_self _)]
    rw [hl] at hj
    exact r1 j hj

/-- What New leaves. -/
def Made (w : World) (n : Nat) (e : Ending) (w' : World) : Prop := ∃ b c r, e = .returned (.tuple #[.pointer (some ⟨b, 0, none⟩), .int .i64 0]) ∧ At w' b c r (M.new n) ∧ Below w.heap.size w w' ∧ w.heap.size ≤ b ∧ w.heap.size ≤ c ∧ w.heap.size ≤ r
set_option maxHeartbeats 1000000 in
theorem new_any (n : Nat) (h1 : 1 ≤ n) (hn : n ≤ 65535) (w : World) : Calls Tryd.prog 30 #[.int .i64 (n : Int)] w fun e w' => Made w n e w' := by
  have g1 := fun w => make_cells w n hn
  have g2 := fun w => make_rows w n hn
  have n1 : ¬ (n : Int) < 1 := by omega
  have n2 : ¬ 65535 < (n : Int) := by omega
  have n3 : (((n + 63) / 64 : Nat) : Int) = ((n : Int) + 63) / 64 := by omega
  rw [n3] at g2
  clear n3
  go_enter Tryd.func30, Tryd.ntmps30
  go_wp2_with fail
  go_region
  · clear g1 g2
    have B0 := Below.refl w.heap.size w
    have B1 := B0.alloc (Nat.le_refl _) (cellsObj n)
    obtain ⟨W, b, c, r, eW, eb, ec, er, hS, hb0, hc0, hr0⟩ : ∃ W b c r, W = (((w.alloc (cellsObj n)).alloc (rowsObj n)).alloc (Obj.cells #[Value.slice (some { block := w.heap.size, off := 0 }) n n, Value.slice (some { block := w.heap.size + 1, off := 0 }) ((n + 63) / 64) ((n + 63) / 64), Value.int IntKind.i64 0, Value.int IntKind.i64 0, Value.int IntKind.i64 0] 100)).drew ∧ b = w.heap.size + 1 + 1 ∧ c = w.heap.size ∧ r = w.heap.size + 1 ∧ Hid (AtF W b c r (M.new n) (opened n 0) ∧ Below w.heap.size w W) ∧ w.heap.size ≤ b ∧ w.heap.size ≤ c ∧ w.heap.size ≤ r :=
      ⟨_, _, _, _, rfl, rfl, rfl, rfl, new_start w _ _ _ _ n (by simp) (by simp; omega) (by simp) (by omega) (by omega) (by omega)
        ⟨(w.alloc (cellsObj n)).alloc (rowsObj n), by simp, (Below.refl _ _).drew⟩
        ⟨w, rfl, (((Below.refl _ _).alloc (by simp) _).alloc (by simp) _).drew⟩
        ⟨w.alloc (cellsObj n), by simp, ((Below.refl _ _).alloc (by simp) _).drew⟩
        (((B1.alloc (by simp) _).alloc (by simp; omega) _).drew), by omega, by omega, by omega⟩
    rw [← eW, ← eb, ← er, ← ec]
    clear eW eb er ec
    have HB0 := Lib.hid (⟨hb0, hc0, hr0⟩ : _ ∧ _ ∧ _)
    clear hb0 hc0 hr0
    go_wp2_with fail
    go_loopw [21] (fun iv wr => ∃ i : Nat, i ≤ n ∧ iv = .int .i64 (i : Int) ∧ Hid (AtF wr b c r (M.new n) (opened n i) ∧ Below w.heap.size w wr)) (fun iv _ => n - (intOf iv).toNat)
    case atStart => exact ⟨0, by omega, rfl, hS⟩
    case round =>
      obtain ⟨i, hi, rfl, hR⟩ := hrel
      clear hS
      by_cases hlt : i < n
      · have i1 : (i : Int) < (n : Int) := by omega
        have ho := open_any wr b c r (M.new n) (opened n i) i hR.out.1 (by simp [opened, M.new]) (by simpa [M.new] using hlt) (by simpa [M.new] using hn)
        rw [opened_set] at ho
        go_wp2_with fail
        refine ho.mono ?_
        rintro e w2 ⟨rfl, h3, h4⟩
        have HR2 : Hid (AtF w2 b c r (M.new n) (opened n (i + 1)) ∧ Below w.heap.size w w2) := ⟨h3, hR.out.2.trans (h4.below hR.out.2.size HB0.out.1 HB0.out.2.1 HB0.out.2.2)⟩
        clear h3 h4 hR
        go_wp2_with fail
        go_roundw
        case rel => exact ⟨i + 1, by omega, by go_num, HR2⟩
        case measure => simp [intOf]; omega
      · have i1 : ¬ (i : Int) < (n : Int) := by omega
        obtain rfl : i = n := by omega
        have HE : Hid (At wr b c r (M.new i) ∧ Below w.heap.size w wr) := by
          refine ⟨?_, hR.out.2⟩
          unfold At
          rw [← opened_all]
          exact hR.out.1
        clear hR
        go_wp2
        go_ret2
        exact ⟨b, c, r, rfl, HE.out.1, HE.out.2, HB0.out.1, HB0.out.2.1, HB0.out.2.2⟩
  · clear g1 g2
    have B0 := Below.refl w.heap.size w
    have B1 := B0.alloc (Nat.le_refl _) (rowsObj n)
    obtain ⟨W, b, c, r, eW, eb, ec, er, hS, hb0, hc0, hr0⟩ : ∃ W b c r, W = (((w.alloc (rowsObj n)).alloc (cellsObj n)).alloc (Obj.cells #[Value.slice (some { block := w.heap.size + 1, off := 0 }) n n, Value.slice (some { block := w.heap.size, off := 0 }) ((n + 63) / 64) ((n + 63) / 64), Value.int IntKind.i64 0, Value.int IntKind.i64 0, Value.int IntKind.i64 0] 100)).drew ∧ b = w.heap.size + 1 + 1 ∧ c = w.heap.size + 1 ∧ r = w.heap.size ∧ Hid (AtF W b c r (M.new n) (opened n 0) ∧ Below w.heap.size w W) ∧ w.heap.size ≤ b ∧ w.heap.size ≤ c ∧ w.heap.size ≤ r :=
      ⟨_, _, _, _, rfl, rfl, rfl, rfl, new_start w _ _ _ _ n (by simp) (by simp) (by simp; omega) (by omega) (by omega) (by omega)
        ⟨(w.alloc (rowsObj n)).alloc (cellsObj n), by simp, (Below.refl _ _).drew⟩
        ⟨w.alloc (rowsObj n), by simp, ((Below.refl _ _).alloc (by simp) _).drew⟩
        ⟨w, rfl, (((Below.refl _ _).alloc (by simp) _).alloc (by simp) _).drew⟩
        (((B1.alloc (by simp) _).alloc (by simp; omega) _).drew), by omega, by omega, by omega⟩
    rw [← eW, ← eb, ← ec, ← er]
    clear eW eb er ec
    have HB0 := Lib.hid (⟨hb0, hc0, hr0⟩ : _ ∧ _ ∧ _)
    clear hb0 hc0 hr0
    go_wp2_with fail
    go_loopw [21] (fun iv wr => ∃ i : Nat, i ≤ n ∧ iv = .int .i64 (i : Int) ∧ Hid (AtF wr b c r (M.new n) (opened n i) ∧ Below w.heap.size w wr)) (fun iv _ => n - (intOf iv).toNat)
    case atStart => exact ⟨0, by omega, rfl, hS⟩
    case round =>
      obtain ⟨i, hi, rfl, hR⟩ := hrel
      clear hS
      by_cases hlt : i < n
      · have i1 : (i : Int) < (n : Int) := by omega
        have ho := open_any wr b c r (M.new n) (opened n i) i hR.out.1 (by simp [opened, M.new]) (by simpa [M.new] using hlt) (by simpa [M.new] using hn)
        rw [opened_set] at ho
        go_wp2_with fail
        refine ho.mono ?_
        rintro e w2 ⟨rfl, h3, h4⟩
        have HR2 : Hid (AtF w2 b c r (M.new n) (opened n (i + 1)) ∧ Below w.heap.size w w2) := ⟨h3, hR.out.2.trans (h4.below hR.out.2.size HB0.out.1 HB0.out.2.1 HB0.out.2.2)⟩
        clear h3 h4 hR
        go_wp2_with fail
        go_roundw
        case rel => exact ⟨i + 1, by omega, by go_num, HR2⟩
        case measure => simp [intOf]; omega
      · have i1 : ¬ (i : Int) < (n : Int) := by omega
        obtain rfl : i = n := by omega
        have HE : Hid (At wr b c r (M.new i) ∧ Below w.heap.size w wr) := by
          refine ⟨?_, hR.out.2⟩
          unfold At
          rw [← opened_all]
          exact hR.out.1
        clear hR
        go_wp2
        go_ret2
        exact ⟨b, c, r, rfl, HE.out.1, HE.out.2, HB0.out.1, HB0.out.2.1, HB0.out.2.2⟩
end Go.Proofs.YtbcpdkmbbgcfbaaDoor
/- Whatever is asked of it, memory keeps its generations in their bounds; each call counts one; that the law is awake. Condition: the library's table stands. -/
namespace Go.Proofs.YtbcpdkmbbgcfbaaDoor
open Go.RowKit Go.Op
set_option maxRecDepth 100000

def Cl.fine (x : Cl) : Prop := 0 ≤ x.gen ∧ x.gen ≤ 16384 ∧ (x.ret = true → x.held.busy = true) ∧ (x.held.busy = true → x.gen ≤ 16383)
theorem fine_set {L : List Cl} (h : ∀ (i : Nat) (x : Cl), L[i]? = some x → x.fine) {p : Nat} {y : Cl} (hy : y.fine) : ∀ (i : Nat) (x : Cl), (L.set p y)[i]? = some x → x.fine := by
  intro i x hx
  rw [List.getElem?_set] at hx
  split at hx
  · split at hx
    · cases hx; exact hy
    · cases hx
  · exact h i x hx
theorem least_can {m : M} {x : Cl} (hx : m.cells[m.least]? = some x) : x.can = true := by
  have h1 := flags_at hx
  have h2 : m.flags.findIdx id < m.flags.length := by
    have := (List.getElem?_eq_some_iff.1 h1).1
    exact this
  have h3 := List.findIdx_getElem (p := id) (xs := m.flags) (w := h2)
  have h4 : m.flags[m.flags.findIdx id] = x.can := (List.getElem?_eq_some_iff.1 h1).2
  rw [h4] at h3
  exact h3
theorem can_is {x : Cl} (h : x.can = true) : x.held.busy = false ∧ x.gen ≤ 16383 := by
  unfold Cl.can at h
  rw [Bool.and_eq_true, Bool.not_eq_true', decide_eq_true_eq] at h
  exact h
theorem M.Ok.put {N : Int} {m : M} (h : m.Ok N) {p : Nat} {y : Cl} (hy : y.fine) : (m.put p y).Ok N :=
  ⟨by show (m.cells.set p y).length ≤ _; rw [List.length_set]; exact h.len, fine_set h.gen hy, h.cnt, h.liv, h.stl⟩
theorem M.Ok.drop {N : Int} {m : M} (h : m.ask.Ok N) {p : Nat} {x : Cl} (hx : m.cells[p]? = some x) (hb : x.held.busy = true) (hl : -N ≤ m.live - 1) : (m.ask.drop p x).Ok N := by
  obtain ⟨h1, _, _, h4⟩ := h.gen p x hx
  have := h4 hb
  have hv := h.liv
  simp only [M.ask] at hv
  exact ⟨by show (m.cells.set p x.freed).length ≤ _; rw [List.length_set]; exact h.len, fine_set h.gen ⟨by simp only [Cl.freed]; omega, by simp only [Cl.freed]; omega, fun e => (by cases e), fun e => (by cases e)⟩, h.cnt, ⟨hl, by simp only [M.drop, M.ask]; omega⟩, h.stl⟩
theorem M.Ok.alloc {N : Int} {m : M} (h : m.Ok N) {t : Held} : (m.alloc t).1.Ok (N + 1) := by
  unfold M.alloc M.take
  have ha := h.ask
  split
  · rename_i x hx
    obtain ⟨_, hg⟩ := can_is (least_can hx)
    obtain ⟨g1, g2, _, _⟩ := ha.gen _ x hx
    have hv := h.liv
    have hr : x.ret = false := by
      cases hr : x.ret
      · rfl
      · have := (ha.gen _ x hx).2.2.1 hr
        rw [(can_is (least_can hx)).1] at this
        cases this
    exact ⟨by show (m.ask.cells.set _ _).length ≤ _; rw [List.length_set]; exact ha.len, fine_set ha.gen ⟨g1, g2, fun e => (by rw [hr] at e; cases e), fun _ => hg⟩, ha.cnt, by simp only [M.ask]; omega, ha.stl⟩
  · exact ha
theorem at_is {m : M} {h : Int} {p : Nat} {x : Cl} (ha : m.at h = some (p, x)) : m.seek h = some p ∧ m.cells[p]? = some x ∧ x.held.busy = true := by
  unfold M.at at ha
  cases hs : m.seek h with
  | none => rw [hs] at ha; cases ha
  | some q =>
    obtain ⟨_, _, y, hy, hb, _⟩ := M.seek_some hs
    rw [hs] at ha
    simp only [Option.bind_some, hy, Option.map_some, Option.some.injEq, Prod.mk.injEq] at ha
    obtain ⟨rfl, rfl⟩ := ha
    exact ⟨rfl, hy, hb⟩
theorem M.Ok.load {N : Int} {m : M} (h : m.Ok N) (a : Int) : (m.load a).1.Ok (N + 1) := by
  unfold M.load
  split
  · exact h.miss
  · split
    all_goals exact h.ask
theorem M.Ok.word {N : Int} {m : M} (h : m.Ok N) (a : Int) : (m.word a).1.Ok (N + 1) := by
  unfold M.word
  split
  · exact h.miss
  · split
    · exact h.ask
    · exact h.ask
theorem M.Ok.store {N : Int} {m : M} (h : m.Ok N) (a n : Int) : (m.store a n).1.Ok (N + 1) := by
  unfold M.store
  split
  · exact h.miss
  · rename_i p x ha
    obtain ⟨_, hx, hb⟩ := at_is ha
    obtain ⟨g1, g2, _, g4⟩ := h.gen p x hx
    split
    · exact h.ask.put ⟨g1, g2, fun _ => rfl, fun _ => g4 hb⟩
    · exact h.ask
theorem M.Ok.swap {N : Int} {m : M} (h : m.Ok N) (a o n : Int) : (m.swap a o n).1.Ok (N + 1) := by
  unfold M.swap
  split
  · exact h.miss
  · rename_i p x ha
    obtain ⟨_, hx, hb⟩ := at_is ha
    obtain ⟨g1, g2, _, g4⟩ := h.gen p x hx
    split
    · split
      · exact h.ask.put ⟨g1, g2, fun _ => rfl, fun _ => g4 hb⟩
      · exact h.ask
    · exact h.ask
theorem M.Ok.free {N : Int} {m : M} (h : m.Ok N) (a : Int) : (m.free a).1.Ok (N + 1) := by
  unfold M.free
  split
  · exact h.miss
  · rename_i p x ha
    obtain ⟨_, hx, hb⟩ := at_is ha
    exact h.ask.drop hx hb (by have := h.liv; omega)
theorem M.Ok.retire {N : Int} {m : M} (h : m.Ok N) (a s : Int) : (m.retire a s).1.Ok (N + 1) := by
  unfold M.retire
  split
  · exact h.miss
  · rename_i p x ha
    obtain ⟨_, hx, hb⟩ := at_is ha
    obtain ⟨g1, g2, _, g4⟩ := h.gen p x hx
    exact h.ask.put ⟨g1, g2, fun _ => hb, fun _ => g4 hb⟩
theorem M.Ok.reap {N : Int} {m : M} (h : m.Ok N) (p s : Int) : (m.reap p s).1.Ok (N + 1) := by
  unfold M.reap
  split
  · exact h.ask
  · split
    · rename_i x hx
      split
      · rename_i hr
        exact h.ask.drop hx ((h.gen _ x hx).2.2.1 hr.1) (by have := h.liv; omega)
      · exact h.ask
    · exact h.ask
theorem new_ok (n : Nat) (hn : n ≤ 65535) : (M.new n).Ok 0 := by
  refine ⟨by simpa [M.new] using hn, fun i x hx => ?_, by simp [M.new], by simp [M.new], by simp [M.new]⟩
  simp only [M.new, List.getElem?_replicate] at hx
  split at hx
  · cases hx
    exact ⟨by decide, by decide, fun e => (by cases e), fun e => (by cases e)⟩
  · cases hx

theorem TabAt.lt {w : World} (h : TabAt w) : 0 < w.heap.size := by
  have h0 := h 0 (by decide)
  apply Nat.pos_of_ne_zero
  intro e
  have he : w.heap[0]? = none := by rw [Array.getElem?_eq_none_iff]; omega
  simp [World.cell?, he] at h0
theorem TabAt.below {w w' : World} (h : TabAt w) (hb : Below w.heap.size w w') : TabAt w' := fun j hj => by
  rw [hb.cell (p := ⟨0, j, none⟩) h.lt]; exact h j hj
theorem TabAt.kept {w w' : World} {b c r : Nat} (h : TabAt w) (hk : Kept b c r w w') (hb : b ≠ 0) (hc : c ≠ 0) (hr : r ≠ 0) : TabAt w' := fun j hj => by
  rw [hk.cell (p := ⟨0, j, none⟩) h.lt hb.symm hc.symm hr.symm]; exact h j hj

/-- A memory of the call's own (H: the heap's size when the call began): it stands, at blocks of the call's own; below H all is as it was. -/
structure Has (w0 : World) (b c r : Nat) (N : Int) (w : World) (m : M) : Prop where
  at_ : At w b c r m
  ok : m.Ok N
  below : Below w0.heap.size w0 w
  hb : w0.heap.size ≤ b
  hc : w0.heap.size ≤ c
  hr : w0.heap.size ≤ r
theorem Has.tab {w0 w : World} {b c r : Nat} {N : Int} {m : M} (h : Has w0 b c r N w m) (hT : TabAt w0) : TabAt w ∧ b ≠ 0 ∧ c ≠ 0 ∧ r ≠ 0 := by
  have := hT.lt
  have h1 := h.hb
  have h2 := h.hc
  have h3 := h.hr
  exact ⟨hT.below h.below, by omega, by omega, by omega⟩
theorem Has.step {w0 w w' : World} {b c r : Nat} {N N' : Int} {m m' : M} (h : Has w0 b c r N w m) (ha : At w' b c r m') (hk : Kept b c r w w') (ho : m'.Ok N') : Has w0 b c r N' w' m' :=
  ⟨ha, ho, h.below.trans (hk.below h.below.size h.hb h.hc h.hr), h.hb, h.hc, h.hr⟩
theorem Has.less {w0 w : World} {b c r : Nat} {N N' : Int} {m : M} (h : Has w0 b c r N w m) (hN : N ≤ N') : Has w0 b c r N' w m := ⟨h.at_, h.ok.mono hN, h.below, h.hb, h.hc, h.hr⟩

end Go.Proofs.YtbcpdkmbbgcfbaaDoor
/- Memory's calls on a memory of the call's own. Conditions: at most 1000000000 asks so far; the library's table stands. -/
namespace Go.Proofs.YtbcpdkmbbgcfbaaDoor
open Go.RowKit Go.Op
set_option maxRecDepth 100000

theorem Has.later {w0 w w' : World} {b c r : Nat} {N : Int} {m : M} (h : Has w0 b c r N w m) (hb : Below w.heap.size w w') : Has w0 b c r N w' m :=
  ⟨AtF.below h.at_ hb, h.ok, h.below.trans (hb.mono h.below.size), h.hb, h.hc, h.hr⟩
section
variable {w0 w : World} {b c r : Nat} {N : Int} {m : M}
/-- The calls, on a memory of the call's own. -/
theorem Has.allocword (h : Has w0 b c r N w m) (hT : TabAt w0) (hN : N ≤ 1000000000) (n : Int) : Calls Tryd.prog 78 #[.pointer (some ⟨b, 0, none⟩), .int .i64 n] w fun e w' => e = .returned (.tuple #[.int .i64 (m.alloc (.word n)).2.1, .int .i64 (m.alloc (.word n)).2.2]) ∧ Has w0 b c r (N + 1) w' (m.alloc (.word n)).1 ∧ Kept b c r w w' := by
  obtain ⟨t1, t2, t3, t4⟩ := h.tab hT
  refine (allocword_any w b c r m n h.at_ (h.ok.mono (by omega)) t1 t2 t4).mono ?_
  rintro e w1 ⟨rfl, a, k⟩
  exact ⟨rfl, h.step a k h.ok.alloc, k⟩
theorem Has.allocblk (h : Has w0 b c r N w m) (hT : TabAt w0) (hN : N ≤ 1000000000) (d : Dat) (pl : Pl) : Calls Tryd.prog 79 #[.pointer (some ⟨b, 0, none⟩), .iface d.ty (d.v pl)] w fun e w' => e = .returned (.tuple #[.int .i64 (m.alloc (.blk d pl)).2.1, .int .i64 (m.alloc (.blk d pl)).2.2]) ∧ Has w0 b c r (N + 1) w' (m.alloc (.blk d pl)).1 ∧ Kept b c r w w' := by
  obtain ⟨t1, t2, t3, t4⟩ := h.tab hT
  refine (allocblk_any w b c r m d pl h.at_ (h.ok.mono (by omega)) t1 t2 t4).mono ?_
  rintro e w1 ⟨rfl, a, k⟩
  exact ⟨rfl, h.step a k h.ok.alloc, k⟩
theorem Has.load (h : Has w0 b c r N w m) (hN : N ≤ 1000000000) (n : Int) : Calls Tryd.prog 76 #[.pointer (some ⟨b, 0, none⟩), .int .i64 n] w fun e w' => e = .returned (.tuple #[(m.load n).2.1.v, .int .i64 (m.load n).2.2]) ∧ Has w0 b c r (N + 1) w' (m.load n).1 ∧ Kept b c r w w' := by
  refine (load_any w b c r m n h.at_ (h.ok.mono (by omega))).mono ?_
  rintro e w1 ⟨rfl, a, k⟩
  exact ⟨rfl, h.step a k (h.ok.load n), k⟩
theorem Has.word (h : Has w0 b c r N w m) (hN : N ≤ 1000000000) (n : Int) : Calls Tryd.prog 63 #[.pointer (some ⟨b, 0, none⟩), .int .i64 n] w fun e w' => e = .returned (.tuple #[.int .i64 (m.word n).2.1, .int .i64 (m.word n).2.2]) ∧ Has w0 b c r (N + 1) w' (m.word n).1 ∧ Kept b c r w w' := by
  refine (word_any w b c r m n h.at_ (h.ok.mono (by omega))).mono ?_
  rintro e w1 ⟨rfl, a, k⟩
  exact ⟨rfl, h.step a k (h.ok.word n), k⟩
theorem Has.swap (h : Has w0 b c r N w m) (hN : N ≤ 1000000000) (a o n : Int) : Calls Tryd.prog 77 #[.pointer (some ⟨b, 0, none⟩), .int .i64 a, .int .i64 o, .int .i64 n] w fun e w' => e = .returned (.tuple #[.bool (m.swap a o n).2.1, .int .i64 (m.swap a o n).2.2]) ∧ Has w0 b c r (N + 1) w' (m.swap a o n).1 ∧ Kept b c r w w' := by
  refine (swap_any w b c r m a o n h.at_ (h.ok.mono (by omega))).mono ?_
  rintro e w1 ⟨rfl, ha, k⟩
  exact ⟨rfl, h.step ha k (h.ok.swap a o n), k⟩
theorem Has.free (h : Has w0 b c r N w m) (hN : N ≤ 1000000000) (n : Int) : Calls Tryd.prog 81 #[.pointer (some ⟨b, 0, none⟩), .int .i64 n] w fun e w' => e = .returned (.int .i64 (m.free n).2) ∧ Has w0 b c r (N + 1) w' (m.free n).1 ∧ Kept b c r w w' := by
  refine (free_any w b c r m n h.at_ (h.ok.mono (by omega))).mono ?_
  rintro e w1 ⟨rfl, a, k⟩
  exact ⟨rfl, h.step a k (h.ok.free n), k⟩
end
/-- A new memory of the call's own. -/
def News (w0 : World) (n : Nat) (e : Ending) (w' : World) : Prop := ∃ b c r, e = .returned (.tuple #[.pointer (some ⟨b, 0, none⟩), .int .i64 0]) ∧ Has w0 b c r 0 w' (M.new n)
theorem has_new {w0 w : World} (n : Nat) (h1 : 1 ≤ n) (hn : n ≤ 65535) (hb : Below w0.heap.size w0 w) : Calls Tryd.prog 30 #[.int .i64 (n : Int)] w fun e w' => News w0 n e w' := by
  refine (new_any n h1 hn w).mono ?_
  rintro e w1 ⟨b, c, r, rfl, a, b1, h1, h2, h3⟩
  have := hb.size
  exact ⟨b, c, r, rfl, a, new_ok n hn, hb.trans (b1.mono hb.size), by omega, by omega, by omega⟩

end Go.Proofs.YtbcpdkmbbgcfbaaDoor
