/- What open, find, findWord, drop answer and make of memory. Conditions: counts and live cells are below 2 to the 62. -/
import Derived.Test.YtbcpdkmbbgcfbaaDoorWalkB
import Derived.Test.YtbcpdkmbbgcfbaaDoorUGen
namespace Go.Proofs.YtbcpdkmbbgcfbaaDoor
open Go.RowKit Go.Op
set_option maxRecDepth 100000

theorem Kept.drew {b c r : Nat} {w w' : World} (h : Kept b c r w w') : Kept b c r w w'.drew := h.trans (Kept.of ((Below.refl _ _).drew))
theorem AtF.drew {w : World} {b c r : Nat} {m : M} {F : List Bool} (h : AtF w b c r m F) : AtF w.drew b c r m F := h.below ((Below.refl _ _).drew)
theorem pow_u64 {n : Nat} (h : n < 64) : IntKind.u64.wrap ((2 : Int) ^ n) = ((2 ^ n : Nat) : Int) := by
  have h1 : 2 ^ n < 18446744073709551616 := Nat.pow_lt_pow_right (a := 2) (by decide) h
  have hw : ∀ n : Int, IntKind.u64.wrap n = n % 18446744073709551616 := fun n => by simp [IntKind.wrap, IntKind.signed, IntKind.bits]
  have e : ((2 : Int) ^ n) = ((2 ^ n : Nat) : Int) := by simp
  rw [e, hw]
  have h2 : ((2 ^ n : Nat) : Int) < 18446744073709551616 := Int.ofNat_lt.2 h1
  exact Int.emod_eq_of_lt (Int.natCast_nonneg _) h2
theorem or_row (F : List Bool) (q : Nat) (hq : q < F.length) :
    bits .or .u64 (rowAt F (q / 64) : Nat) (IntKind.u64.wrap ((2 : Int) ^ (q % 64))) = (rowAt (F.set q true) (q / 64) : Nat) := by
  have h1 : 2 ^ (q % 64) < 18446744073709551616 := Nat.pow_lt_pow_right (a := 2) (by decide) (show q % 64 < 64 by omega)
  rw [pow_u64 (by omega), u64_or_nat _ _ (rowAt_lt _ _) h1, rowAt_or F q hq]
theorem open_any (w : World) (b c r : Nat) (m : M) (F : List Bool) (p : Nat) (h : AtF w b c r m F) (hF : F.length = m.cells.length) (hp : p < m.cells.length) (hl : m.cells.length ≤ 65535) :
    Calls Tryd.prog 56 #[.pointer (some ⟨b, 0, none⟩), .int .i64 (p : Int)] w fun e w' => e = .returned (.tuple #[]) ∧ AtF w' b c r m (F.set p true) ∧ Kept b c r w w' := by
  have h1 := h.head.h1
  have h2 := h.rw (p / 64) (by omega)
  have h3 := h.own.fr (p / 64)
  have ho := Lib.hid (or_row F p (by omega))
  have hs := Lib.hid (h.row (q := p) true)
  clear h
  go_enter Tryd.func56, Tryd.ntmps56
  go_region
  all_goals
    rw [ho.out]
    exact bodyPost_end (results_none rfl _ _ _) rfl ⟨rfl, hs.out.drew, ((Kept.refl b c r w).set (.inr (.inr rfl)) _).drew⟩

/-- The place of the cell that a handle names, if it isn't stale. -/
def M.seek (m : M) (h : Int) : Option Nat :=
  if isH h = true then
    match m.cells[(h % 65536 - 1).toNat]? with
    | some x => if x.held.busy = true ∧ x.gen = h / 65536 then some (h % 65536 - 1).toNat else none
    | none => none
  else none
def M.find (m : M) (h : Int) : M := match m.seek h with
  | some _ => { m with count := m.count + 1 }
  | none => { m with count := m.count + 1, stale := m.stale + 1 }
/-- What is true of whatever memory the calls make: N bounds its counts. -/
structure M.Ok (N : Int) (m : M) : Prop where
  len : m.cells.length ≤ 65535
  gen : ∀ (i : Nat) (x : Cl), m.cells[i]? = some x → 0 ≤ x.gen ∧ x.gen ≤ 16384 ∧ (x.ret = true → x.held.busy = true) ∧ (x.held.busy = true → x.gen ≤ 16383)
  cnt : 0 ≤ m.count ∧ m.count ≤ N
  liv : -N ≤ m.live ∧ m.live ≤ N
  stl : 0 ≤ m.stale ∧ m.stale ≤ N
theorem M.seek_some {m : M} {h : Int} {p : Nat} (hs : m.seek h = some p) : isH h = true ∧ (p : Int) = h % 65536 - 1 ∧ ∃ x, m.cells[p]? = some x ∧ x.held.busy = true ∧ x.gen = h / 65536 := by
  unfold M.seek at hs
  split at hs
  · rename_i hi
    split at hs
    · rename_i x hx
      split at hs
      · rename_i hb
        cases hs
        have := of_decide_eq_true hi
        exact ⟨hi, by omega, x, hx, hb.1, hb.2⟩
      · cases hs
    · cases hs
  · cases hs

theorem load_20 {w : World} {p : Addr} {v : Value} (h : w.cell? p = some v) : (Instr.loadAt 20 (.pointer (some p))).run Tryd.prog w = .ok v w := by
  go_simp
theorem load_3 {w : World} {p : Addr} {n : Int} (h : w.cell? p = some (.int .i64 n)) : (Instr.loadAt 3 (.pointer (some p))).run Tryd.prog w = .ok (.int .i64 n) w := by
  go_simp
theorem neq20_yes {t : TypeId} {v : Value} (xo yo : Operand) (w : World) : (eqGuard .neq 20 xo yo (.iface t v) .nilIface).run Tryd.prog w = .ok () w ∧ (binOp .neq 20 (.iface t v) .nilIface).run Tryd.prog w = .ok (.bool true) w :=
  ⟨by go_simp, by go_simp⟩
theorem neq20_no (xo : Operand) (w : World) : (eqGuard .neq 20 xo (.const .nilIface) .nilIface .nilIface).run Tryd.prog w = .ok () w ∧ (binOp .neq 20 .nilIface .nilIface).run Tryd.prog w = .ok (.bool false) w :=
  ⟨by simp [eqGuard], by go_simp⟩
theorem cmp_eql3 {a b : Int} {r : Bool} (xo yo : Operand) (w : World) (h : (a == b) = r) : (eqGuard .eql 3 xo yo (.int .i64 a) (.int .i64 b)).run Tryd.prog w = .ok () w ∧ (binOp .eql 3 (.int .i64 a) (.int .i64 b)).run Tryd.prog w = .ok (.bool r) w :=
  ⟨by simp [eqGuard], by subst h; go_simp⟩
theorem enter_43 (xs : Array Value) (w : World) : (callFunc 84 xs).run Tryd.prog w = .ok (.enter 84 xs) w := by kernel_rfl
theorem Held.iface {x : Held} (h : x.busy = true) : ∃ t v, x.v = .iface t v := by
  cases x
  · cases h
  all_goals exact ⟨_, _, rfl⟩
theorem Held.not {x : Held} (h : ¬ x.busy = true) : x = .no := by
  cases x
  · rfl
  all_goals exact absurd rfl h

set_option maxHeartbeats 1000000 in
theorem find_no (w : World) (b c r : Nat) (m : M) (h : Int) (hA : At w b c r m) (hO : m.Ok 4611686018427387904) (hs : m.seek h = none) :
    Calls Tryd.prog 80 #[.pointer (some ⟨b, 0, none⟩), .int .i64 h] w fun e w' => e = .returned (.pointer none) ∧ At w' b c r { m with count := m.count + 1, stale := m.stale + 1 } ∧ Kept b c r w w' := by
  have mixed : Tryd.prog.follows .mixedOrders = true := by kernel_rfl
  have h2 := hA.head.h2
  have fb := hA.own.fb
  have hc := hO.cnt
  have hsl := hO.stl
  have hln := hO.len
  have hA1 := hA.count (m.count + 1)
  have hK1 := (Kept.refl b c r w).set (a := ⟨b, 2, none⟩) (.inl rfl) (.int .i64 (m.count + 1))
  obtain ⟨w1, hw1⟩ : ∃ w1, w1 = w.setCell ⟨b, 2, none⟩ (.int .i64 (m.count + 1)) := ⟨_, rfl⟩
  rw [← hw1] at hA1 hK1
  have HW := Lib.hid hw1
  clear hA hw1
  have h0 := hA1.head.h0
  have hcl := hA1.cl
  have hcs := hA1.own.lc
  have HA1 := Lib.hid hA1
  have HK1 := Lib.hid hK1
  simp only at h0 hcl
  clear hA1 hK1
  go_enter Tryd.func80, Tryd.ntmps80
  go_wp2_with fail
  rw [← HW.out]
  clear h2 fb
  refine (place_any h _).mono ?_
  rintro e w2 ⟨rfl, rfl⟩
  cases hi : isH h
  · have e1 : placeOf h = -1 := by simp [placeOf, hi]
    rw [e1]
    clear e1 hcl
    have h4 := HA1.out.head.h4
    have fb1 := HA1.out.own.fb
    have HA := Lib.hid (HA1.out.stale (m.stale + 1))
    have HK := Lib.hid (HK1.out.set (a := ⟨b, 4, none⟩) (.inl rfl) (.int .i64 (m.stale + 1)))
    simp only at h4
    go_wp2
    go_ret
    exact ⟨rfl, HA.out, HK.out⟩
  · have hi2 := of_decide_eq_true hi
    have e1 : placeOf h = h % 65536 - 1 := by simp [placeOf, hi]
    obtain ⟨p, hp⟩ : ∃ p : Nat, (p : Int) = h % 65536 - 1 := ⟨(h % 65536 - 1).toNat, by omega⟩
    have hp2 : (h % 65536 - 1).toNat = p := by omega
    have eg : genOf h = h / 65536 := by simp [genOf, hi]
    have hgen := fun w => gen_any h w
    rw [eg] at hgen
    rw [e1, ← hp]
    clear e1 eg
    by_cases hl : p < m.cells.length
    · have hl2 : (p : Int) < (m.cells.length : Int) := by omega
      obtain ⟨x, hx⟩ : ∃ x, m.cells[p]? = some x := ⟨_, List.getElem?_eq_getElem hl⟩
      obtain ⟨k0, k1, _, _⟩ := hcl p x hx
      have HB : Hid (¬ (x.held.busy = true ∧ x.gen = h / 65536)) := by
        intro hb
        simp [M.seek, hi, hp2, hx, hb.1, hb.2] at hs
      clear hp hp2 hi2 hcl hx hs hi
      by_cases hbz : x.held.busy = true
      · have hg : ¬ x.gen = h / 65536 := fun e => HB.out ⟨hbz, e⟩
        have hg2 : (x.gen == h / 65536) = false := by simpa using hg
        obtain ⟨ty, v, ev⟩ := Held.iface hbz
        rw [ev] at k0
        clear hbz hg ev HB
        go_wp2_with fail
        refine FreeU.region_puts (S := fun _ _ W => Below w1.heap.size w1 W) (effs := [])
          (tab := [⟨1, fun _ => [.pointer (some ⟨c, p * 4, none⟩)], fun _ => .pointer (some ⟨c, p * 4, none⟩), .pure⟩,
            ⟨3, fun _ => [.pointer (some ⟨c, p * 4, none⟩)], fun _ => .iface ty v, .read⟩,
            ⟨4, fun _ => [.iface ty v, .nilIface], fun _ => .bool true, .pure⟩,
            ⟨7, fun _ => [.pointer (some ⟨c, p * 4, none⟩)], fun _ => .pointer (some ⟨c, p * 4, none⟩), .pure⟩,
            ⟨9, fun _ => [.pointer (some ⟨c, p * 4 + 1, none⟩)], fun _ => .int .i64 x.gen, .read⟩,
            ⟨11, fun _ => [.func (.func 84) #[] #[], .int .i64 h], fun _ => .int .i64 (h / 65536), .ask⟩,
            ⟨12, fun _ => [.int .i64 x.gen, .int .i64 (h / 65536)], fun _ => .bool false, .pure⟩])
          (vs := [([], fun _ => .pointer (some ⟨c, p * 4, none⟩)), ([], fun _ => .pointer (some ⟨c, p * 4, none⟩)), ([], fun _ => .pointer (some ⟨c, p * 4, none⟩)), ([], fun _ => .iface ty v), ([], fun _ => .bool true), ([], fun _ => .bool true), ([], fun _ => .pointer (some ⟨c, p * 4, none⟩)), ([], fun _ => .pointer (some ⟨c, p * 4, none⟩)), ([], fun _ => .pointer (some ⟨c, p * 4 + 1, none⟩)), ([], fun _ => .int .i64 x.gen), ([], fun _ => .int .i64 h), ([], fun _ => .int .i64 (h / 65536)), ([], fun _ => .bool false), ([], fun _ => .bool false)])
          (by kernel_rfl) ⟨by kernel_rfl, ⟨FreeU.d_nil _ rfl rfl,
            FreeU.d_load _ rfl rfl (fun β bs w h hd => load_20 ((h.cell (p := ⟨c, p * 4, none⟩) hcs).trans k0)),
            FreeU.d_bin _ rfl rfl (fun _ xo yo w => neq20_yes xo yo w),
            FreeU.d_nil _ rfl rfl,
            FreeU.d_load _ rfl rfl (fun β bs w h hd => load_3 ((h.cell (p := ⟨c, p * 4 + 1, none⟩) hcs).trans k1)),
            FreeU.d_ask1 _ rfl rfl enter_43 (fun β bs w h hd => (hgen w).mono (fun e w2 ⟨e1, e2⟩ => ⟨e1, e2 ▸ h⟩)),
            FreeU.d_bin _ rfl rfl (fun _ xo yo w => cmp_eql3 xo yo w hg2),
            trivial⟩,
            fun β => by kernel_rfl, fun β => by kernel_rfl, by kernel_rfl, fun β => by kernel_rfl, by kernel_rfl⟩ (Below.refl _ _).drew (fun β => Free.from_ 33 [.pointer (some ⟨c, p * 4, none⟩), .pointer (some ⟨c, p * 4, none⟩), .pointer (some ⟨c, p * 4, none⟩), .iface ty v, .bool true, .bool true, .pointer (some ⟨c, p * 4, none⟩), .pointer (some ⟨c, p * 4, none⟩), .pointer (some ⟨c, p * 4 + 1, none⟩), .int .i64 x.gen, .int .i64 h, .int .i64 (h / 65536), .bool false, .bool false]) (fun β => by kernel_rfl) ?_
        intro β w4 h4
        rw [Free.puts_from _ _ _ (Nat.le_of_ble_eq_true rfl)]
        simp only [List.take_succ_cons, List.take_zero, List.drop_succ_cons, List.drop_zero, List.cons_append, List.nil_append, List.length_cons, List.length_nil, Nat.reduceAdd]
        have HA4 := Lib.hid (HA1.out.below h4)
        have HK4 := Lib.hid (HK1.out.trans (Kept.of h4))
        clear h4
        have h4 := HA4.out.head.h4
        have fb1 := HA4.out.own.fb
        have HA := Lib.hid (HA4.out.stale (m.stale + 1))
        have HK := Lib.hid (HK4.out.set (a := ⟨b, 4, none⟩) (.inl rfl) (.int .i64 (m.stale + 1)))
        simp only at h4
        go_wp2
        go_ret
        exact ⟨rfl, HA.out, HK.out⟩
      · rw [Held.not hbz] at k0
        simp only [Held.v] at k0
        clear hbz HB
        go_wp2_with fail
        refine FreeU.region_puts (S := fun _ _ W => Below w1.heap.size w1 W) (effs := [])
          (tab := [⟨1, fun _ => [.pointer (some ⟨c, p * 4, none⟩)], fun _ => .pointer (some ⟨c, p * 4, none⟩), .pure⟩,
            ⟨3, fun _ => [.pointer (some ⟨c, p * 4, none⟩)], fun _ => .nilIface, .read⟩,
            ⟨4, fun _ => [.nilIface, .nilIface], fun _ => .bool false, .pure⟩])
          (vs := [([], fun _ => .pointer (some ⟨c, p * 4, none⟩)), ([], fun _ => .pointer (some ⟨c, p * 4, none⟩)), ([], fun _ => .pointer (some ⟨c, p * 4, none⟩)), ([], fun _ => .nilIface), ([], fun _ => .bool false), ([], fun _ => .bool false), ([], fun _ => undef), ([], fun _ => undef), ([], fun _ => undef), ([], fun _ => undef), ([], fun _ => undef), ([], fun _ => undef), ([], fun _ => undef), ([], fun _ => .bool false)])
          (by kernel_rfl) ⟨by kernel_rfl, ⟨FreeU.d_nil _ rfl rfl,
            FreeU.d_load _ rfl rfl (fun β bs w h hd => load_20 ((h.cell (p := ⟨c, p * 4, none⟩) hcs).trans k0)),
            FreeU.d_binc _ rfl rfl (fun _ xo w => neq20_no xo w),
            trivial⟩,
            fun β => by kernel_rfl, fun β => by kernel_rfl, by kernel_rfl, fun β => by kernel_rfl, by kernel_rfl⟩ (Below.refl _ _).drew (fun β => Free.from_ 33 [.pointer (some ⟨c, p * 4, none⟩), .pointer (some ⟨c, p * 4, none⟩), .pointer (some ⟨c, p * 4, none⟩), .nilIface, .bool false, .bool false, undef, undef, undef, undef, undef, undef, undef, .bool false]) (fun β => by kernel_rfl) ?_
        intro β w4 h4
        rw [Free.puts_from _ _ _ (Nat.le_of_ble_eq_true rfl)]
        simp only [List.take_succ_cons, List.take_zero, List.drop_succ_cons, List.drop_zero, List.cons_append, List.nil_append, List.length_cons, List.length_nil, Nat.reduceAdd]
        have HA4 := Lib.hid (HA1.out.below h4)
        have HK4 := Lib.hid (HK1.out.trans (Kept.of h4))
        clear h4
        have h4 := HA4.out.head.h4
        have fb1 := HA4.out.own.fb
        have HA := Lib.hid (HA4.out.stale (m.stale + 1))
        have HK := Lib.hid (HK4.out.set (a := ⟨b, 4, none⟩) (.inl rfl) (.int .i64 (m.stale + 1)))
        simp only at h4
        go_wp2
        go_ret
        exact ⟨rfl, HA.out, HK.out⟩
    · clear hp2 hp hi2 hcl hs
      have hl2 : ¬ (p : Int) < (m.cells.length : Int) := by omega
      have h4 := HA1.out.head.h4
      have fb1 := HA1.out.own.fb
      have HA := Lib.hid (HA1.out.stale (m.stale + 1))
      have HK := Lib.hid (HK1.out.set (a := ⟨b, 4, none⟩) (.inl rfl) (.int .i64 (m.stale + 1)))
      simp only at h4
      go_wp2
      go_ret
      exact ⟨rfl, HA.out, HK.out⟩

set_option maxHeartbeats 1000000 in
theorem find_yes (w : World) (b c r : Nat) (m : M) (h : Int) (p : Nat) (hA : At w b c r m) (hO : m.Ok 4611686018427387904) (hs : m.seek h = some p) :
    Calls Tryd.prog 80 #[.pointer (some ⟨b, 0, none⟩), .int .i64 h] w fun e w' => e = .returned (.pointer (some ⟨c, p * 4, none⟩)) ∧ At w' b c r { m with count := m.count + 1 } ∧ Kept b c r w w' := by
  obtain ⟨hi, hp, x, hx, hbz, hg⟩ := M.seek_some hs
  have mixed : Tryd.prog.follows .mixedOrders = true := by kernel_rfl
  have h2 := hA.head.h2
  have fb := hA.own.fb
  have hc := hO.cnt
  have hsl := hO.stl
  have hln := hO.len
  have hA1 := hA.count (m.count + 1)
  have hK1 := (Kept.refl b c r w).set (a := ⟨b, 2, none⟩) (.inl rfl) (.int .i64 (m.count + 1))
  obtain ⟨w1, hw1⟩ : ∃ w1, w1 = w.setCell ⟨b, 2, none⟩ (.int .i64 (m.count + 1)) := ⟨_, rfl⟩
  rw [← hw1] at hA1 hK1
  have HW := Lib.hid hw1
  clear hA hw1
  have h0 := hA1.head.h0
  have hcl := hA1.cl
  have hcs := hA1.own.lc
  have HA1 := Lib.hid hA1
  have HK1 := Lib.hid hK1
  simp only at h0 hcl
  clear hA1 hK1
  go_enter Tryd.func80, Tryd.ntmps80
  go_wp2_with fail
  rw [← HW.out]
  clear h2 fb
  refine (place_any h _).mono ?_
  rintro e w2 ⟨rfl, rfl⟩
  have hi2 := of_decide_eq_true hi
  have e1 : placeOf h = h % 65536 - 1 := by simp [placeOf, hi]
  have eg : genOf h = h / 65536 := by simp [genOf, hi]
  have hgen := fun w => gen_any h w
  rw [eg] at hgen
  rw [e1, ← hp]
  clear e1 eg
  have hl : p < m.cells.length := (List.getElem?_eq_some_iff.1 hx).1
  have hl2 : (p : Int) < (m.cells.length : Int) := by omega
  obtain ⟨k0, k1, _, _⟩ := hcl p x hx
  have hg2 : (x.gen == h / 65536) = true := by simpa using hg
  obtain ⟨ty, v, ev⟩ := Held.iface hbz
  rw [ev] at k0
  clear hbz hg ev hp hi2 hcl hx hs hi
  go_wp2_with fail
  refine FreeU.region_puts (S := fun _ _ W => Below w1.heap.size w1 W) (effs := [])
    (tab := [⟨1, fun _ => [.pointer (some ⟨c, p * 4, none⟩)], fun _ => .pointer (some ⟨c, p * 4, none⟩), .pure⟩,
      ⟨3, fun _ => [.pointer (some ⟨c, p * 4, none⟩)], fun _ => .iface ty v, .read⟩,
      ⟨4, fun _ => [.iface ty v, .nilIface], fun _ => .bool true, .pure⟩,
      ⟨7, fun _ => [.pointer (some ⟨c, p * 4, none⟩)], fun _ => .pointer (some ⟨c, p * 4, none⟩), .pure⟩,
      ⟨9, fun _ => [.pointer (some ⟨c, p * 4 + 1, none⟩)], fun _ => .int .i64 x.gen, .read⟩,
      ⟨11, fun _ => [.func (.func 84) #[] #[], .int .i64 h], fun _ => .int .i64 (h / 65536), .ask⟩,
      ⟨12, fun _ => [.int .i64 x.gen, .int .i64 (h / 65536)], fun _ => .bool true, .pure⟩])
    (vs := [([], fun _ => .pointer (some ⟨c, p * 4, none⟩)), ([], fun _ => .pointer (some ⟨c, p * 4, none⟩)), ([], fun _ => .pointer (some ⟨c, p * 4, none⟩)), ([], fun _ => .iface ty v), ([], fun _ => .bool true), ([], fun _ => .bool true), ([], fun _ => .pointer (some ⟨c, p * 4, none⟩)), ([], fun _ => .pointer (some ⟨c, p * 4, none⟩)), ([], fun _ => .pointer (some ⟨c, p * 4 + 1, none⟩)), ([], fun _ => .int .i64 x.gen), ([], fun _ => .int .i64 h), ([], fun _ => .int .i64 (h / 65536)), ([], fun _ => .bool true), ([], fun _ => .bool true)])
    (by kernel_rfl) ⟨by kernel_rfl, ⟨FreeU.d_nil _ rfl rfl,
      FreeU.d_load _ rfl rfl (fun β bs w h hd => load_20 ((h.cell (p := ⟨c, p * 4, none⟩) hcs).trans k0)),
      FreeU.d_bin _ rfl rfl (fun _ xo yo w => neq20_yes xo yo w),
      FreeU.d_nil _ rfl rfl,
      FreeU.d_load _ rfl rfl (fun β bs w h hd => load_3 ((h.cell (p := ⟨c, p * 4 + 1, none⟩) hcs).trans k1)),
      FreeU.d_ask1 _ rfl rfl enter_43 (fun β bs w h hd => (hgen w).mono (fun e w2 ⟨e1, e2⟩ => ⟨e1, e2 ▸ h⟩)),
      FreeU.d_bin _ rfl rfl (fun _ xo yo w => cmp_eql3 xo yo w hg2),
      trivial⟩,
      fun β => by kernel_rfl, fun β => by kernel_rfl, by kernel_rfl, fun β => by kernel_rfl, by kernel_rfl⟩ (Below.refl _ _).drew (fun β => Free.from_ 33 [.pointer (some ⟨c, p * 4, none⟩), .pointer (some ⟨c, p * 4, none⟩), .pointer (some ⟨c, p * 4, none⟩), .iface ty v, .bool true, .bool true, .pointer (some ⟨c, p * 4, none⟩), .pointer (some ⟨c, p * 4, none⟩), .pointer (some ⟨c, p * 4 + 1, none⟩), .int .i64 x.gen, .int .i64 h, .int .i64 (h / 65536), .bool true, .bool true]) (fun β => by kernel_rfl) ?_
  intro β w4 h4
  rw [Free.puts_from _ _ _ (Nat.le_of_ble_eq_true rfl)]
  simp only [List.take_succ_cons, List.take_zero, List.drop_succ_cons, List.drop_zero, List.cons_append, List.nil_append, List.length_cons, List.length_nil, Nat.reduceAdd]
  have HA4 := Lib.hid (HA1.out.below h4)
  have HK4 := Lib.hid (HK1.out.trans (Kept.of h4))
  clear h4
  go_wp2
  go_ret
  exact ⟨rfl, HA4.out, HK4.out⟩
end Go.Proofs.YtbcpdkmbbgcfbaaDoor
