/- What findWord, drop and take answer and make of memory. Conditions: counts and live cells are below 2 to the 62; generations are between 0 and 16384; what is taken isn't nothing; the library's table stands. -/
import Derived.Test.YtbcpdkmbbgcfbaaDoorWalkC
namespace Go.Proofs.YtbcpdkmbbgcfbaaDoor
open Go.RowKit Go.Op
set_option maxRecDepth 100000

theorem as69_word (v : Value) (w : World) : (Instr.typeAssert (.iface 125 v) 20 125 true).run Tryd.prog w = .ok (.tuple #[v, .bool true]) w := by kernel_rfl
theorem as69_blk (d : Dat) (p : Pl) (w : World) : (Instr.typeAssert (.iface d.ty (d.v p)) 20 125 true).run Tryd.prog w = .ok (.tuple #[.int .i64 0, .bool false]) w := by cases d <;> kernel_rfl

theorem fword_no (w : World) (b c r : Nat) (m : M) (h : Int) (hA : At w b c r m) (hO : m.Ok 4611686018427387904) (hs : m.seek h = none) :
    Calls Tryd.prog 74 #[.pointer (some ⟨b, 0, none⟩), .int .i64 h] w fun e w' => e = .returned (.tuple #[.pointer none, .int .i64 0, .int .i64 5]) ∧ At w' b c r { m with count := m.count + 1, stale := m.stale + 1 } ∧ Kept b c r w w' := by
  have hf := find_no w b c r m h hA hO hs
  clear hA hO hs
  go_enter Tryd.func74, Tryd.ntmps74
  go_wp2_with fail
  refine hf.mono ?_
  rintro e w1 ⟨rfl, h1, h2⟩
  have HA := Lib.hid (⟨h1, h2⟩ : _ ∧ _)
  clear h1 h2
  go_wp2
  exact bodyPost_ret (by simp [results, Tryd.results74, go_sem]) rfl ⟨rfl, HA.out⟩
theorem fword_word (w : World) (b c r : Nat) (m : M) (h : Int) (p : Nat) (x : Cl) (n : Int) (hA : At w b c r m) (hO : m.Ok 4611686018427387904) (hs : m.seek h = some p) (hx : m.cells[p]? = some x) (hn : x.held = .word n) :
    Calls Tryd.prog 74 #[.pointer (some ⟨b, 0, none⟩), .int .i64 h] w fun e w' => e = .returned (.tuple #[.pointer (some ⟨c, p * 4, none⟩), .int .i64 n, .int .i64 0]) ∧ At w' b c r { m with count := m.count + 1 } ∧ Kept b c r w w' := by
  have hf := find_yes w b c r m h p hA hO hs
  have t1 := as69_word
  clear hA hO hs
  go_enter Tryd.func74, Tryd.ntmps74
  go_wp2_with fail
  refine hf.mono ?_
  rintro e w1 ⟨rfl, h1, h2⟩
  have hc := (h1.cl p x hx).1
  rw [hn] at hc
  simp only [Held.v] at hc
  have HA := Lib.hid (⟨h1, h2⟩ : _ ∧ _)
  clear h1 h2 hx hn
  go_wp2
  exact bodyPost_ret (by simp [results, Tryd.results74, go_sem]) rfl ⟨rfl, HA.out⟩
theorem fword_blk (w : World) (b c r : Nat) (m : M) (h : Int) (p : Nat) (x : Cl) (d : Dat) (pl : Pl) (hA : At w b c r m) (hO : m.Ok 4611686018427387904) (hs : m.seek h = some p) (hx : m.cells[p]? = some x) (hn : x.held = .blk d pl) :
    Calls Tryd.prog 74 #[.pointer (some ⟨b, 0, none⟩), .int .i64 h] w fun e w' => e = .returned (.tuple #[.pointer none, .int .i64 0, .int .i64 6]) ∧ At w' b c r { m with count := m.count + 1 } ∧ Kept b c r w w' := by
  have hf := find_yes w b c r m h p hA hO hs
  have t1 := as69_blk
  clear hA hO hs
  go_enter Tryd.func74, Tryd.ntmps74
  go_wp2_with fail
  refine hf.mono ?_
  rintro e w1 ⟨rfl, h1, h2⟩
  have hc := (h1.cl p x hx).1
  rw [hn] at hc
  simp only [Held.v] at hc
  have HA := Lib.hid (⟨h1, h2⟩ : _ ∧ _)
  clear h1 h2 hx hn
  go_wp2
  exact bodyPost_ret (by simp [results, Tryd.results74, go_sem]) rfl ⟨rfl, HA.out⟩

/-- The cell at a place, freed. -/
def Cl.freed (x : Cl) : Cl := ⟨.no, x.gen + 1, false, 0⟩
theorem set_val {α : Type} {l : List α} {p : Nat} {v : α} (h : l[p]? = some v) : l.set p v = l := by
  apply List.ext_getElem?
  intro i
  rw [List.getElem?_set]
  split
  · rename_i e
    subst e
    rw [h, if_pos (List.getElem?_eq_some_iff.1 h).1]
  · rfl
theorem flags_set (m : M) (p : Nat) (y : Cl) (a b c : Int) : M.flags ⟨m.cells.set p y, a, b, c⟩ = m.flags.set p y.can := by simp [M.flags, List.map_set]
theorem flags_at {m : M} {p : Nat} {x : Cl} (hx : m.cells[p]? = some x) : m.flags[p]? = some x.can := by simp [M.flags, hx]
theorem can_busy {x : Cl} (h : x.held.busy = true) : x.can = false := by simp [Cl.can, h]
theorem drop_any (w : World) (b c r : Nat) (m : M) (p : Nat) (x : Cl) (hA : At w b c r m) (hO : m.Ok 4611686018427387904) (hx : m.cells[p]? = some x) (hb : x.held.busy = true) :
    Calls Tryd.prog 85 #[.pointer (some ⟨b, 0, none⟩), .int .i64 (p : Int)] w fun e w' => e = .returned (.tuple #[]) ∧ At w' b c r { m with cells := m.cells.set p x.freed, live := m.live - 1 } ∧ Kept b c r w w' := by
  have hl : p < m.cells.length := (List.getElem?_eq_some_iff.1 hx).1
  have hl2 : (p : Int) < (m.cells.length : Int) := by omega
  have hln := hO.len
  have hlv := hO.liv
  obtain ⟨hg0, hg1, _, _⟩ := hO.gen p x hx
  have h0 := hA.head.h0
  have h3 := hA.head.h3
  obtain ⟨k0, k1, k2, k3⟩ := hA.cl p x hx
  have fb := hA.own.fb
  have fc := hA.own.fc
  have bc := hA.own.bc
  have q0 := (hA.cl p x hx).put0 .no
  have q1 := q0.put1 (x.gen + 1)
  have q2 := q1.put2 false
  have q3 := q2.put3 0
  have HA := Lib.hid ((((((hA.put (by omega) q0).put (i := p) (by simp) q1).put (i := p) (by simp) q2).put (i := p) (by simp) q3).live (m.live - 1)))
  have HK := Lib.hid (((((Kept.refl b c r w).set (a := ⟨c, p * 4, none⟩) (.inr (.inl rfl)) .nilIface).set (a := ⟨c, p * 4 + 1, none⟩) (.inr (.inl rfl)) (.int .i64 (x.gen + 1))).set (a := ⟨c, p * 4 + 2, none⟩) (.inr (.inl rfl)) (.bool false)).set (a := ⟨c, p * 4 + 3, none⟩) (.inr (.inl rfl)) (.int .i64 0) |>.set (a := ⟨b, 3, none⟩) (.inl rfl) (.int .i64 (m.live - 1)))
  simp only [Held.v, List.set_set] at HA
  have HF : Hid (m.flags[p]? = some false) := by
    have := flags_at hx
    rwa [can_busy hb] at this
  have HG := Lib.hid (show x.freed.can = decide (x.gen + 1 ≤ 16383) from rfl)
  have HO := Lib.hid (fun w2 h => open_any w2 b c r { m with cells := m.cells.set p x.freed, live := m.live - 1 } m.flags p h (by simp [M.flags]) (by simpa using hl) (by simpa using hln))
  clear hA hO hx hb q0 q1 q2 q3 hl
  by_cases hg : x.gen + 1 ≤ 16383
  · go_enter Tryd.func85, Tryd.ntmps85
    go_wp2_with fail
    refine (HO.out _ HA.out).mono ?_
    rintro e w1 ⟨rfl, h1, h2⟩
    have HE : Hid (At w1 b c r { m with cells := m.cells.set p x.freed, live := m.live - 1 } ∧ Kept b c r w w1) := by
      refine ⟨?_, HK.out.trans h2⟩
      unfold At
      rw [flags_set, HG.out, decide_eq_true hg]
      exact h1
    clear h1 h2
    go_wp2
    exact bodyPost_end (results_none rfl _ _ _) rfl ⟨rfl, HE.out⟩
  · go_enter Tryd.func85, Tryd.ntmps85
    go_wp2
    refine bodyPost_end (results_none rfl _ _ _) rfl ⟨rfl, ?_, HK.out⟩
    unfold At
    rw [flags_set, HG.out, decide_eq_false (by omega), set_val HF.out]
    exact HA.out

theorem zero_rows (F : List Bool) : ∀ j, 64 * j ≤ F.length → (∀ i, i < j → rowAt F i = 0) → 64 * j ≤ F.findIdx id
  | 0, _, _ => by omega
  | j + 1, h, hz => by
    have ih := zero_rows F j (by omega) (fun i hi => hz i (by omega))
    rcases find_row F j ih (by omega) with ⟨_, _, h3 | h3⟩ | ⟨h1, _⟩
    · exact h3
    · omega
    · exact absurd (hz j (by omega)) h1
theorem all_rows (F : List Bool) (hz : ∀ i, i < (F.length + 63) / 64 → rowAt F i = 0) : F.findIdx id = F.length := by
  have hle : F.findIdx id ≤ F.length := List.findIdx_le_length
  by_cases h0 : F.length = 0
  · omega
  · have h1 := zero_rows F ((F.length - 1) / 64) (by omega) (fun i hi => hz i (by omega))
    rcases find_row F _ h1 (by omega) with ⟨_, _, h3 | h3⟩ | ⟨h2, _⟩
    · omega
    · exact h3
    · exact absurd (hz _ (by omega)) h2
/-- The least place whose cell may be taken; as many as there are cells: none. -/
def M.least (m : M) : Nat := m.flags.findIdx id
theorem least_row {m : M} {j : Nat} (hj : j < (m.cells.length + 63) / 64) (hz : ∀ i, i < j → rowAt m.flags i = 0) :
    (rowAt m.flags j = 0) ∨ (rowAt m.flags j ≠ 0 ∧ Lib.ctz 64 (rowAt m.flags j) < 64 ∧ m.least = 64 * j + Lib.ctz 64 (rowAt m.flags j) ∧ m.least < m.cells.length ∧ rowAt m.flags j &&& (rowAt m.flags j - 1) = rowAt (m.flags.set m.least false) j) := by
  have hl : m.flags.length = m.cells.length := by simp [M.flags]
  have h1 := zero_rows m.flags j (by omega) hz
  rcases find_row m.flags j h1 (by omega) with ⟨h2, _⟩ | ⟨h2, h3, h4⟩
  · exact .inl h2
  · have h5 := row_ctz _ _ h3 h2
    have h6 := row_clear _ _ h3
    have h7 := row_len m.flags j
    rw [← h4] at h6
    refine .inr ⟨h2, by omega, ?_, ?_, h6⟩
    · rw [h5]; exact h4
    · show m.flags.findIdx id < _
      omega
theorem less_u64 {x : Nat} (h : x < 18446744073709551616) (h0 : x ≠ 0) : bits .and .u64 (x : Int) (IntKind.u64.wrap ((x : Int) - 1)) = ((x &&& (x - 1) : Nat) : Int) := by
  have hw : ∀ n : Int, IntKind.u64.wrap n = n % 18446744073709551616 := fun n => by simp [IntKind.wrap, IntKind.signed, IntKind.bits]
  rw [hw, show ((x : Int) - 1) % 18446744073709551616 = ((x - 1 : Nat) : Int) by omega, u64_and_nat _ _ h (by omega)]

theorem take_no (w : World) (b c r : Nat) (m : M) (t : Value) (hA : At w b c r m) (hO : m.Ok 4611686018427387904) (hl : m.least = m.cells.length) :
    Calls Tryd.prog 82 #[.pointer (some ⟨b, 0, none⟩), t] w fun e w' => e = .returned (.tuple #[.int .i64 0, .int .i64 3]) ∧ w = w' := by
  have hln := hO.len
  have h1 := hA.head.h1
  have HR := Lib.hid hA.rw
  have HL := Lib.hid (fun j hj hz => least_row (m := m) (j := j) hj hz)
  clear hA hO
  go_enter Tryd.func82, Tryd.ntmps82
  go_wp2_with fail
  go_loop [14] (fun iv => ∃ j : Nat, j ≤ (m.cells.length + 63) / 64 ∧ iv = .int .i64 (j : Int) ∧ Hid (∀ i, i < j → rowAt m.flags i = 0)) (fun iv => (m.cells.length + 63) / 64 - (intOf iv).toNat)
  case atStart => exact ⟨0, by omega, rfl, fun i hi => absurd hi (by omega)⟩
  case round =>
    obtain ⟨j, hj, rfl, hz⟩ := hrel
    by_cases hlt : j < (m.cells.length + 63) / 64
    · have j1 : (j : Int) < (((m.cells.length + 63) / 64 : Nat) : Int) := by omega
      have hrow := HR.out j hlt
      have hj0 : rowAt m.flags j = 0 := by
        rcases HL.out j hlt hz with h | ⟨_, _, _, h, _⟩
        · exact h
        · omega
      rw [hj0] at hrow
      have HZ : Hid (∀ i, i < j + 1 → rowAt m.flags i = 0) := fun i hi => by
        by_cases e : i = j
        · rw [e]; exact hj0
        · exact hz i (by omega)
      clear hz hj0
      go_wp2
      go_round
      case rel => exact ⟨j + 1, by omega, by go_num, HZ⟩
      case measure => simp [intOf]; omega
    · have j1 : ¬ (j : Int) < (((m.cells.length + 63) / 64 : Nat) : Int) := by omega
      clear hz
      go_wp2
      go_ret2
      exact ⟨rfl, rfl⟩

set_option maxHeartbeats 1000000 in
theorem take_yes (w : World) (b c r : Nat) (m : M) (t : Held) (x : Cl) (hA : At w b c r m) (hO : m.Ok 4611686018427387904) (hT : TabAt w) (r0 : r ≠ 0) (hx : m.cells[m.least]? = some x) (hb : t.busy = true) :
    Calls Tryd.prog 82 #[.pointer (some ⟨b, 0, none⟩), t.v] w fun e w' => e = .returned (.tuple #[.int .i64 (hand m.least x.gen), .int .i64 0]) ∧ At w' b c r { m with cells := m.cells.set m.least { x with held := t }, live := m.live + 1 } ∧ Kept b c r w w' := by
  have hln := hO.len
  have hlv := hO.liv
  have h0 := hA.head.h0
  have h1 := hA.head.h1
  have h3 := hA.head.h3
  have fb := hA.own.fb
  have fc := hA.own.fc
  have fr := hA.own.fr
  have bc := hA.own.bc
  have br := hA.own.br
  have cr := hA.own.cr
  have hl : m.least < m.cells.length := (List.getElem?_eq_some_iff.1 hx).1
  have HR := Lib.hid hA.rw
  have HL := Lib.hid (fun j hj hz => least_row (m := m) (j := j) hj hz)
  have HQ : Hid (∀ j, m.least / 64 = j → ∀ u, u = Value.int .u64 (rowAt (m.flags.set m.least false) j : Nat) → At ((((w.setCell ⟨r, j, none⟩ u).setCell ⟨c, m.least * 4, none⟩ t.v)).setCell ⟨b, 3, none⟩ (.int .i64 (m.live + 1))) b c r { m with cells := m.cells.set m.least { x with held := t }, live := m.live + 1 } ∧ Kept b c r w ((((w.setCell ⟨r, j, none⟩ u).setCell ⟨c, m.least * 4, none⟩ t.v)).setCell ⟨b, 3, none⟩ (.int .i64 (m.live + 1)))) := by
    rintro j rfl u rfl
    have a1 := AtF.row hA (q := m.least) false
    have a2 := a1.put (i := m.least) (by omega) ((a1.cl m.least x hx).put0 t)
    have a3 := a2.live (m.live + 1)
    refine ⟨?_, (((Kept.refl b c r w).set (.inr (.inr rfl)) _).set (.inr (.inl rfl)) _).set (.inl rfl) _⟩
    unfold At
    rw [flags_set, can_busy (x := { x with held := t }) hb]
    exact a3
  have hk := hA.cl m.least x hx
  obtain ⟨k0, k1, _, _⟩ := hk
  have HT := Lib.hid (fun i => (hT i))
  obtain ⟨ty, v, ev⟩ := Held.iface hb
  rw [ev] at HQ ⊢
  generalize hp : m.least = p at *
  clear hA hO hx hT hb ev
  go_enter Tryd.func82, Tryd.ntmps82
  go_wp2_with fail
  go_loop [14] (fun iv => ∃ j : Nat, j ≤ (m.cells.length + 63) / 64 ∧ iv = .int .i64 (j : Int) ∧ Hid (∀ i, i < j → rowAt m.flags i = 0)) (fun iv => (m.cells.length + 63) / 64 - (intOf iv).toNat)
  case atStart => exact ⟨0, by omega, rfl, fun i hi => absurd hi (by omega)⟩
  case round =>
    obtain ⟨j, hj, rfl, hz⟩ := hrel
    by_cases hlt : j < (m.cells.length + 63) / 64
    · have j1 : (j : Int) < (((m.cells.length + 63) / 64 : Nat) : Int) := by omega
      have hrow := HR.out j hlt
      rcases HL.out j hlt hz with hj0 | ⟨hn0, hz64, hle, _, hcl⟩
      · rw [hj0] at hrow
        have HZ : Hid (∀ i, i < j + 1 → rowAt m.flags i = 0) := fun i hi => by
          by_cases e : i = j
          · rw [e]; exact hj0
          · exact hz i (by omega)
        clear hz hj0
        go_wp2
        go_round
        case rel => exact ⟨j + 1, by omega, by go_num, HZ⟩
        case measure => simp [intOf]; omega
      · have hRlt := rowAt_lt m.flags j
        have HB := Lib.hid (less_u64 hRlt hn0)
        rw [hcl] at HB
        have HU := Lib.hid (HQ.out j (by omega) _ rfl)
        generalize rowAt m.flags j = R at hrow hn0 hz64 hle hRlt HB
        have hn1 : ((R : Int) == 0) = false := by simp; omega
        have htz := fun w hT => tz_any R hRlt hn0 w hT
        have hpe : (j : Int) * 64 + (Lib.ctz 64 R : Nat) = (p : Int) := by omega
        have hl2 : (p : Int) < (m.cells.length : Int) := by omega
        generalize Lib.ctz 64 R = z at htz hpe hz64
        have HP := Lib.hid hpe
        have hfr := fr j
        clear hz hcl hle hn0 hpe
        go_wp2_with fail
        rw [HB.out]
        refine (htz _ ?_).mono ?_
        · intro i hi
          exact set_other (HT.out i hi) (.inl r0)
        rintro e w1 ⟨rfl, rfl⟩
        clear htz
        go_wp2_with (first | rw [HP.out] | fail)
        refine (handle_any _ _ _).mono ?_
        rintro e w1 ⟨rfl, rfl⟩
        clear k0 k1 hrow h0 h1 h3
        go_wp2
        go_ret2
        exact ⟨rfl, HU.out⟩
    · exfalso
      have hL2 := all_rows m.flags (by rw [show m.flags.length = m.cells.length by simp [M.flags]]; exact fun i hi => hz i (by omega))
      have hL3 : m.least = m.flags.findIdx id := rfl
      rw [hp, hL2, show m.flags.length = m.cells.length by simp [M.flags]] at hL3
      omega
end Go.Proofs.YtbcpdkmbbgcfbaaDoor
