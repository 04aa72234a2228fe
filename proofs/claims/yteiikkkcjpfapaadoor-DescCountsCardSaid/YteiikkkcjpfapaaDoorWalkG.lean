/- What Reap and New answer and make of memory. Conditions: counts and live cells are below 2 to the 61; generations are between 0 and 16384; only what holds something is retired; New's number is at most 65535, or any other. -/
import Derived.Test.YteiikkkcjpfapaaDoorWalkF
import Derived.Laws.MakeOwn
namespace Go.Proofs.YteiikkkcjpfapaaDoor
open Go.RowKit Go.Op
set_option maxRecDepth 100000

theorem reap_any (w : World) (b c r : Nat) (m : M) (p below : Int) (hA : At w b c r m) (hO : m.Ok 2305843009213693952) :
    Calls Tryd.prog 64 #[.pointer (some ⟨b, 0, none⟩), .int .i64 p, .int .i64 below] w fun e w' => e = .returned (.tuple #[.bool (m.reap p below).2.1, .int .i64 (m.reap p below).2.2]) ∧ At w' b c r (m.reap p below).1 ∧ Kept b c r w w' := by
  have h0 := hA.head.h0
  have h2 := hA.head.h2
  have fb := hA.own.fb
  have hc := hO.cnt
  have hln := hO.len
  have hA1 : At _ b c r m.ask := AtF.count hA (m.count + 1)
  have hK1 := (Kept.refl b c r w).set (a := ⟨b, 2, none⟩) (.inl rfl) (.int .i64 (m.count + 1))
  by_cases hp : p < 0 ∨ (m.cells.length : Int) ≤ p
  · have e1 : m.reap p below = (m.ask, false, 10) := by unfold M.reap; rw [if_pos hp]
    rw [e1]
    have HE := Lib.hid (⟨hA1, hK1⟩ : _ ∧ _)
    clear hA hO hA1 hK1 e1
    rcases hp with hp | hp
    · go_enter Tryd.func64, Tryd.ntmps64
      go_wp2
      go_ret2
      exact ⟨rfl, HE.out⟩
    · have hp2 : ¬ p < 0 := by omega
      go_enter Tryd.func64, Tryd.ntmps64
      go_wp2
      go_ret2
      exact ⟨rfl, HE.out⟩
  · obtain ⟨q, rfl⟩ : ∃ q : Nat, p = (q : Int) := ⟨p.toNat, by omega⟩
    have hq : q < m.cells.length := by omega
    have hq2 : (q : Int) < (m.cells.length : Int) := by omega
    obtain ⟨x, hx⟩ : ∃ x, m.cells[q]? = some x := ⟨_, List.getElem?_eq_getElem hq⟩
    have bc := hA.own.bc
    obtain ⟨k0, k1, k2, k3⟩ := hA.cl q x hx
    have lc := hA.own.lc
    have lb := hA.own.lb
    have HE : Hid (∀ o, At ((w.setCell ⟨b, 2, none⟩ (.int .i64 (m.count + 1))).alloc o) b c r m.ask ∧ Kept b c r w ((w.setCell ⟨b, 2, none⟩ (.int .i64 (m.count + 1))).alloc o)) :=
      fun o => ⟨AtF.below hA1 ((Below.refl _ _).alloc (Nat.le_refl _) _), hK1.trans (Kept.of ((Below.refl _ _).alloc (Nat.le_refl _) _))⟩
    have HB : Hid (x.ret = true → x.held.busy = true) := (hO.gen q x hx).2.2.1
    have HD := Lib.hid (fun w1 (h1 : At w1 b c r m.ask) hb => drop_any w1 b c r m.ask q x h1 (hO.ask.mono (by decide)) hx hb)
    have HV : Hid (x.held.v = .nilIface ∨ ∃ ty tv, x.held.v = .iface ty tv) := by
      cases x.held
      · exact .inl rfl
      all_goals exact .inr ⟨_, _, rfl⟩
    have hqn : (q : Int).toNat = q := by simp
    by_cases hr : x.ret = true ∧ x.stamp < below
    · have e1 : m.reap (q : Int) below = (m.ask.drop q x, true, 0) := by
        unfold M.reap
        rw [if_neg hp, hqn, hx]
        simp only [if_pos hr]
      have hb := HB.out hr.1
      obtain ⟨ty, tv, ev⟩ := Held.iface hb
      rw [e1]
      obtain ⟨r1, r2⟩ := hr
      rw [r1] at k2
      rw [ev] at k0
      have g1 : decide (below ≤ x.stamp) = false := decide_eq_false (by omega)
      have HD2 := Lib.hid (fun w1 h1 => HD.out w1 h1 hb)
      clear hA hO hA1 hK1 e1 hx hp hqn HB HV hb ev r1 HD
      go_enter Tryd.func64, Tryd.ntmps64
      go_wp2_with fail
      refine (HD2.out _ (HE.out _).1).mono ?_
      rintro e w3 ⟨rfl, h3, h4⟩
      have HF := Lib.hid (⟨h3, (HE.out _).2.trans h4⟩ : _ ∧ _)
      clear h3 h4
      go_wp2
      go_ret2
      exact ⟨rfl, HF.out⟩
    · have e1 : m.reap (q : Int) below = (m.ask, false, 0) := by
        unfold M.reap
        rw [if_neg hp, hqn, hx]
        simp only [if_neg hr]
      rw [e1]
      have hV := HV.out
      generalize x.held.v = v at k0 hV
      clear hA hO hA1 hK1 e1 hx hp hqn HB HD HV
      cases hr2 : x.ret with
      | false =>
        rw [hr2] at k2
        clear hr
        rcases hV with rfl | ⟨ty, tv, rfl⟩
        all_goals
          go_enter Tryd.func64, Tryd.ntmps64
          go_wp2
          go_ret2
          exact ⟨rfl, HE.out _⟩
      | true =>
        rw [hr2] at k2
        have g1 : decide (below ≤ x.stamp) = true := decide_eq_true (by
          have : ¬ x.stamp < below := fun e => hr ⟨hr2, e⟩
          omega)
        clear hr
        rcases hV with rfl | ⟨ty, tv, rfl⟩
        all_goals
          go_enter Tryd.func64, Tryd.ntmps64
          go_wp2
          go_ret2
          exact ⟨rfl, HE.out _⟩

/-- Memory, all of whose cells are free. -/
def M.new (n : Nat) : M := ⟨List.replicate n ⟨.no, 0, false, 0⟩, 0, 0, 0⟩
theorem new_bad (n : Int) (hn : n < 1 ∨ 65535 < n) (w : World) : Calls Tryd.prog 43 #[.int .i64 n] w fun e w' => e = .returned (.tuple #[.pointer none, .int .i64 10]) ∧ w = w' := by
  rcases hn with hn | hn
  · go_enter Tryd.func43, Tryd.ntmps43
    go_wp2
    go_ret2
    exact ⟨rfl, rfl⟩
  · have h1 : ¬ n < 1 := by omega
    go_enter Tryd.func43, Tryd.ntmps43
    go_wp2
    go_ret2
    exact ⟨rfl, rfl⟩
theorem info76 : (Tryd.prog.info? 120).map (fun i => (i.zero, i.size, i.bytes)) = some (some (.agg #[.nilIface, .int .i64 0, .bool false, .int .i64 0]), 4, 40) := by kernel_rfl
theorem info77 : (Tryd.prog.info? 126).map (fun i => (i.zero, i.size, i.bytes)) = some (some (.int .u64 0), 1, 8) := by kernel_rfl
/-- The cells and the rows of a new memory. -/
def cellsObj (n : Nat) : Obj := .cells (madeCells (Value.agg #[.nilIface, .int .i64 0, .bool false, .int .i64 0]).cells (n * 4)) 120
def rowsObj (n : Nat) : Obj := .cells (madeCells (Value.int .u64 0).cells ((n + 63) / 64 * 1)) 126
theorem make_cells (w : World) (n : Nat) (hn : n ≤ 65535) : (Instr.makeSlice 98 (.int .i64 (n : Int)) (.int .i64 (n : Int))).run Tryd.prog w = .ok (.slice (some ⟨w.heap.size, 0, none⟩) n n) (w.alloc (cellsObj n)) := by
  obtain ⟨i0, hi, hz0, hz1, hz2⟩ := info_parts info76
  have hr := run_make (P := Tryd.prog) w 98 120 i0 _ Tryd.underlying98 hi hz0 .i64 .i64 (n : Int) (n : Int) (by omega) (by omega) (by rw [hz2]; omega) (by omega)
  simp only [Int.toNat_natCast, hz1] at hr
  exact hr
theorem make_rows (w : World) (n : Nat) (hn : n ≤ 65535) : (Instr.makeSlice 99 (.int .i64 (((n + 63) / 64 : Nat) : Int)) (.int .i64 (((n + 63) / 64 : Nat) : Int))).run Tryd.prog w = .ok (.slice (some ⟨w.heap.size, 0, none⟩) ((n + 63) / 64) ((n + 63) / 64)) (w.alloc (rowsObj n)) := by
  obtain ⟨i0, hi, hz0, hz1, hz2⟩ := info_parts info77
  have hr := run_make (P := Tryd.prog) w 99 126 i0 _ Tryd.underlying99 hi hz0 .i64 .i64 (((n + 63) / 64 : Nat) : Int) (((n + 63) / 64 : Nat) : Int) (by omega) (by omega) (by rw [hz2]; omega) (by omega)
  simp only [Int.toNat_natCast, hz1] at hr
  exact hr
/-- Which cells may be taken once the first i are opened. -/
def opened (n i : Nat) : List Bool := (List.range n).map fun k => decide (k < i)
theorem opened_set (n i : Nat) : (opened n i).set i true = opened n (i + 1) := by
  apply List.ext_getElem?
  intro k
  simp only [opened, List.getElem?_set, List.getElem?_map, List.length_map, List.length_range]
  by_cases hk : k < n
  · rw [List.getElem?_range hk]
    by_cases e : i = k
    · subst e
      rw [if_pos rfl, if_pos hk]; simp
    · rw [if_neg e]
      simp only [Option.map_some, Option.some.injEq, decide_eq_decide]
      omega
  · rw [List.getElem?_eq_none (by simpa using hk)]
    by_cases e : i = k
    · subst e
      rw [if_pos rfl, if_neg hk]; rfl
    · rw [if_neg e]; rfl
theorem opened_all (n : Nat) : opened n n = (M.new n).flags := by
  apply List.ext_getElem?
  intro k
  simp only [opened, M.flags, M.new, List.getElem?_map, List.getElem?_replicate]
  by_cases hk : k < n
  · rw [List.getElem?_range hk, if_pos hk]
    simp [hk, Cl.can, Held.busy]
  · rw [List.getElem?_eq_none (by simpa using hk), if_neg hk]; rfl
theorem opened_row (n j : Nat) : rowAt (opened n 0) j = 0 := by
  have h : ∀ l : List Bool, (∀ x ∈ l, x = false) → bitsOf l = 0 := by
    intro l
    induction l with
    | nil => intro _; rfl
    | cons x t ih => intro hx; rw [bitsOf, ih (fun y hy => hx y (List.mem_cons_of_mem _ hy)), hx x (List.mem_cons_self ..)]; rfl
  refine h _ fun x hx => ?_
  have := List.mem_of_mem_drop (List.mem_of_mem_take hx)
  simp [opened] at this
  exact this.2
theorem cells_new (w : World) (n : Nat) : Cells (w.alloc (cellsObj n)) w.heap.size (M.new n).cells ∧ ∀ i, (w.alloc (cellsObj n)).frozen? ⟨w.heap.size, i, none⟩ = false := by
  refine ⟨fun i x hx => ?_, fun i => World.frozen?_alloc_at _ 120 _ i rfl⟩
  have hi : i < n := by simpa [M.new] using (List.getElem?_eq_some_iff.1 hx).1
  have hx2 : x = ⟨.no, 0, false, 0⟩ := by
    simp only [M.new, List.getElem?_replicate, if_pos hi, Option.some.injEq] at hx
    exact hx.symm
  subst hx2
  have hc : ∀ k, k < 4 → (w.alloc (cellsObj n)).cell? ⟨w.heap.size, i * 4 + k, none⟩ = some ((Value.agg #[.nilIface, .int .i64 0, .bool false, .int .i64 0]).cells[k]!) := by
    intro k hk
    unfold cellsObj
    rw [World.cell?_alloc_new]
    have e : (Value.agg #[.nilIface, .int .i64 0, .bool false, .int .i64 0]).cells.size = 4 := rfl
    simp only [madeCells, Array.getElem?_map, Array.getElem?_range, show i * 4 + k < n * 4 by omega, if_true, Option.map_some, e, show (i * 4 + k) % 4 = k by omega]
  exact ⟨hc 0 (by omega), hc 1 (by omega), hc 2 (by omega), hc 3 (by omega)⟩
theorem rows_new (w : World) (n : Nat) : Rows (w.alloc (rowsObj n)) w.heap.size n (opened n 0) ∧ ∀ i, (w.alloc (rowsObj n)).frozen? ⟨w.heap.size, i, none⟩ = false := by
  refine ⟨fun j hj => ?_, fun i => World.frozen?_alloc_at _ 126 _ i rfl⟩
  rw [opened_row]
  unfold rowsObj
  rw [World.cell?_alloc_new]
  have e : (Value.int .u64 0).cells = #[Value.int .u64 0] := rfl
  simp only [madeCells, Array.getElem?_map, Array.getElem?_range, show j < (n + 63) / 64 * 1 by omega, if_true, Option.map_some, e]
  simp [Nat.mod_one]
/-- The three blocks of a new memory, once they are there. -/
theorem new_start (w W : World) (b c r n : Nat) (h1 : b < W.heap.size) (h2 : c < W.heap.size) (h3 : r < W.heap.size) (h4 : b ≠ c) (h5 : b ≠ r) (h6 : c ≠ r)
    (hb : ∃ u : World, u.heap.size = b ∧ Below (b + 1) (u.alloc (.cells #[.slice (some ⟨c, 0, none⟩) n n, .slice (some ⟨r, 0, none⟩) ((n + 63) / 64) ((n + 63) / 64), .int .i64 0, .int .i64 0, .int .i64 0] 101)) W)
    (hc : ∃ u : World, u.heap.size = c ∧ Below (c + 1) (u.alloc (cellsObj n)) W) (hr : ∃ u : World, u.heap.size = r ∧ Below (r + 1) (u.alloc (rowsObj n)) W) (hB : Below w.heap.size w W) :
    Hid (AtF W b c r (M.new n) (opened n 0) ∧ Below w.heap.size w W) := by
  obtain ⟨u1, rfl, k1⟩ := hb
  obtain ⟨u2, rfl, k2⟩ := hc
  obtain ⟨u3, rfl, k3⟩ := hr
  obtain ⟨c1, c2⟩ := cells_new u2 n
  obtain ⟨r1, r2⟩ := rows_new u3 n
  have hl : (M.new n).cells.length = n := by simp [M.new]
  have hd : ∀ i v, (#[Value.slice (some ⟨u2.heap.size, 0, none⟩) n n, .slice (some ⟨u3.heap.size, 0, none⟩) ((n + 63) / 64) ((n + 63) / 64), .int .i64 0, .int .i64 0, .int .i64 0] : Array Value)[i]? = some v → W.cell? ⟨u1.heap.size, i, none⟩ = some v := fun i v hv => by
    rw [k1.cell (p := ⟨u1.heap.size, i, none⟩) (Nat.lt_succ_self _), World.cell?_alloc_new]
    exact hv
  refine ⟨⟨⟨h1, h2, h3, h4, h5, h6, fun i => ?_, fun i => ?_, fun i => ?_⟩, ?_, fun i x hx => ?_, fun j hj => ?_⟩, hB⟩
  · rw [k1.frozen (p := ⟨u1.heap.size, i, none⟩) (Nat.lt_succ_self _)]; exact World.frozen?_alloc_at _ 101 _ i rfl
  · rw [k2.frozen (p := ⟨u2.heap.size, i, none⟩) (Nat.lt_succ_self _)]; exact c2 i
  · rw [k3.frozen (p := ⟨u3.heap.size, i, none⟩) (Nat.lt_succ_self _)]; exact r2 i
  · rw [hl]
    exact ⟨hd 0 _ rfl, hd 1 _ rfl, hd 2 _ rfl, hd 3 _ rfl, hd 4 _ rfl⟩
  · have := c1 i x hx
    unfold CAt at this ⊢
    rw [k2.cell (p := ⟨u2.heap.size, i * 4, none⟩) (Nat.lt_succ_self _), k2.cell (p := ⟨u2.heap.size, i * 4 + 1, none⟩) (Nat.lt_succ_self _), k2.cell (p := ⟨u2.heap.size, i * 4 + 2, none⟩) (Nat.lt_succ_self _), k2.cell (p := ⟨u2.heap.size, i * 4 + 3, none⟩) (Nat.lt_succ_self _)]
    exact this
  · rw [k3.cell (p := ⟨u3.heap.size, j, none⟩) (Nat.lt_succ_self _)]
    rw [hl] at hj
    exact r1 j hj

/-- What New leaves. -/
def Made (w : World) (n : Nat) (e : Ending) (w' : World) : Prop := ∃ b c r, e = .returned (.tuple #[.pointer (some ⟨b, 0, none⟩), .int .i64 0]) ∧ At w' b c r (M.new n) ∧ Below w.heap.size w w' ∧ w.heap.size ≤ b ∧ w.heap.size ≤ c ∧ w.heap.size ≤ r
set_option maxHeartbeats 1000000 in
theorem new_any (n : Nat) (h1 : 1 ≤ n) (hn : n ≤ 65535) (w : World) : Calls Tryd.prog 43 #[.int .i64 (n : Int)] w fun e w' => Made w n e w' := by
  have g1 := fun w => make_cells w n hn
  have g2 := fun w => make_rows w n hn
  have n1 : ¬ (n : Int) < 1 := by omega
  have n2 : ¬ 65535 < (n : Int) := by omega
  have n3 : (((n + 63) / 64 : Nat) : Int) = ((n : Int) + 63) / 64 := by omega
  rw [n3] at g2
  clear n3
  go_enter Tryd.func43, Tryd.ntmps43
  go_wp2_with fail
  go_region
  · clear g1 g2
    have B0 := Below.refl w.heap.size w
    have B1 := B0.alloc (Nat.le_refl _) (cellsObj n)
    obtain ⟨W, b, c, r, eW, eb, ec, er, hS, hb0, hc0, hr0⟩ : ∃ W b c r, W = (((w.alloc (cellsObj n)).alloc (rowsObj n)).alloc (Obj.cells #[Value.slice (some { block := w.heap.size, off := 0 }) n n, Value.slice (some { block := w.heap.size + 1, off := 0 }) ((n + 63) / 64) ((n + 63) / 64), Value.int IntKind.i64 0, Value.int IntKind.i64 0, Value.int IntKind.i64 0] 101)).drew ∧ b = w.heap.size + 1 + 1 ∧ c = w.heap.size ∧ r = w.heap.size + 1 ∧ Hid (AtF W b c r (M.new n) (opened n 0) ∧ Below w.heap.size w W) ∧ w.heap.size ≤ b ∧ w.heap.size ≤ c ∧ w.heap.size ≤ r :=
      ⟨_, _, _, _, rfl, rfl, rfl, rfl, new_start w _ _ _ _ n (by simp) (by simp; omega) (by simp) (by omega) (by omega) (by omega)
        ⟨(w.alloc (cellsObj n)).alloc (rowsObj n), by simp, (Below.refl _ _).drew⟩
        ⟨w, rfl, (((Below.refl _ _).alloc (by simp) _).alloc (by simp) _).drew⟩
        ⟨w.alloc (cellsObj n), by simp, ((Below.refl _ _).alloc (by simp) _).drew⟩
        (((B1.alloc (by simp) _).alloc (by simp; omega) _).drew), by omega, by omega, by omega⟩
    rw [← eW, ← eb, ← er, ← ec]
    clear eW eb er ec
    have HB0 := Lib.hid (⟨hb0, hc0, hr0⟩ : _ ∧ _ ∧ _)
    clear hb0 hc0 hr0
    go_wp2_with fail
    go_loopw [21] (fun iv wr => ∃ i : Nat, i ≤ n ∧ iv = .int .i64 (i : Int) ∧ Hid (AtF wr b c r (M.new n) (opened n i) ∧ Below w.heap.size w wr)) (fun iv _ => n - (intOf iv).toNat)
    case atStart => exact ⟨0, by omega, rfl, hS⟩
    case round =>
      obtain ⟨i, hi, rfl, hR⟩ := hrel
      clear hS
      by_cases hlt : i < n
      · have i1 : (i : Int) < (n : Int) := by omega
        have ho := open_any wr b c r (M.new n) (opened n i) i hR.out.1 (by simp [opened, M.new]) (by simpa [M.new] using hlt) (by simpa [M.new] using hn)
        rw [opened_set] at ho
        go_wp2_with fail
        refine ho.mono ?_
        rintro e w2 ⟨rfl, h3, h4⟩
        have HR2 : Hid (AtF w2 b c r (M.new n) (opened n (i + 1)) ∧ Below w.heap.size w w2) := ⟨h3, hR.out.2.trans (h4.below hR.out.2.size HB0.out.1 HB0.out.2.1 HB0.out.2.2)⟩
        clear h3 h4 hR
        go_wp2_with fail
        go_roundw
        case rel => exact ⟨i + 1, by omega, by go_num, HR2⟩
        case measure => simp [intOf]; omega
      · have i1 : ¬ (i : Int) < (n : Int) := by omega
        obtain rfl : i = n := by omega
        have HE : Hid (At wr b c r (M.new i) ∧ Below w.heap.size w wr) := by
          refine ⟨?_, hR.out.2⟩
          unfold At
          rw [← opened_all]
          exact hR.out.1
        clear hR
        go_wp2
        go_ret2
        exact ⟨b, c, r, rfl, HE.out.1, HE.out.2, HB0.out.1, HB0.out.2.1, HB0.out.2.2⟩
  · clear g1 g2
    have B0 := Below.refl w.heap.size w
    have B1 := B0.alloc (Nat.le_refl _) (rowsObj n)
    obtain ⟨W, b, c, r, eW, eb, ec, er, hS, hb0, hc0, hr0⟩ : ∃ W b c r, W = (((w.alloc (rowsObj n)).alloc (cellsObj n)).alloc (Obj.cells #[Value.slice (some { block := w.heap.size + 1, off := 0 }) n n, Value.slice (some { block := w.heap.size, off := 0 }) ((n + 63) / 64) ((n + 63) / 64), Value.int IntKind.i64 0, Value.int IntKind.i64 0, Value.int IntKind.i64 0] 101)).drew ∧ b = w.heap.size + 1 + 1 ∧ c = w.heap.size + 1 ∧ r = w.heap.size ∧ Hid (AtF W b c r (M.new n) (opened n 0) ∧ Below w.heap.size w W) ∧ w.heap.size ≤ b ∧ w.heap.size ≤ c ∧ w.heap.size ≤ r :=
      ⟨_, _, _, _, rfl, rfl, rfl, rfl, new_start w _ _ _ _ n (by simp) (by simp) (by simp; omega) (by omega) (by omega) (by omega)
        ⟨(w.alloc (rowsObj n)).alloc (cellsObj n), by simp, (Below.refl _ _).drew⟩
        ⟨w.alloc (rowsObj n), by simp, ((Below.refl _ _).alloc (by simp) _).drew⟩
        ⟨w, rfl, (((Below.refl _ _).alloc (by simp) _).alloc (by simp) _).drew⟩
        (((B1.alloc (by simp) _).alloc (by simp; omega) _).drew), by omega, by omega, by omega⟩
    rw [← eW, ← eb, ← ec, ← er]
    clear eW eb er ec
    have HB0 := Lib.hid (⟨hb0, hc0, hr0⟩ : _ ∧ _ ∧ _)
    clear hb0 hc0 hr0
    go_wp2_with fail
    go_loopw [21] (fun iv wr => ∃ i : Nat, i ≤ n ∧ iv = .int .i64 (i : Int) ∧ Hid (AtF wr b c r (M.new n) (opened n i) ∧ Below w.heap.size w wr)) (fun iv _ => n - (intOf iv).toNat)
    case atStart => exact ⟨0, by omega, rfl, hS⟩
    case round =>
      obtain ⟨i, hi, rfl, hR⟩ := hrel
      clear hS
      by_cases hlt : i < n
      · have i1 : (i : Int) < (n : Int) := by omega
        have ho := open_any wr b c r (M.new n) (opened n i) i hR.out.1 (by simp [opened, M.new]) (by simpa [M.new] using hlt) (by simpa [M.new] using hn)
        rw [opened_set] at ho
        go_wp2_with fail
        refine ho.mono ?_
        rintro e w2 ⟨rfl, h3, h4⟩
        have HR2 : Hid (AtF w2 b c r (M.new n) (opened n (i + 1)) ∧ Below w.heap.size w w2) := ⟨h3, hR.out.2.trans (h4.below hR.out.2.size HB0.out.1 HB0.out.2.1 HB0.out.2.2)⟩
        clear h3 h4 hR
        go_wp2_with fail
        go_roundw
        case rel => exact ⟨i + 1, by omega, by go_num, HR2⟩
        case measure => simp [intOf]; omega
      · have i1 : ¬ (i : Int) < (n : Int) := by omega
        obtain rfl : i = n := by omega
        have HE : Hid (At wr b c r (M.new i) ∧ Below w.heap.size w wr) := by
          refine ⟨?_, hR.out.2⟩
          unfold At
          rw [← opened_all]
          exact hR.out.1
        clear hR
        go_wp2
        go_ret2
        exact ⟨b, c, r, rfl, HE.out.1, HE.out.2, HB0.out.1, HB0.out.2.1, HB0.out.2.2⟩
end Go.Proofs.YteiikkkcjpfapaaDoor
