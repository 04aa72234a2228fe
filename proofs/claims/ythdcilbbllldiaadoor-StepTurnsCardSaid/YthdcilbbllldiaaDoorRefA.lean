/- The document's memory (the reference's) as a value and in memory; its place and Look. Conditions: counts and live cells are below 2 to the 61; generations are between 0 and 16384. -/
import Derived.Test.YthdcilbbllldiaaDoorOpen
namespace Go.Proofs.YthdcilbbllldiaaDoor
open Go.RowKit Go.Op
set_option maxRecDepth 100000

theorem alloc_cell (w : World) (vs : Array Value) (t : TypeId) (i : Nat) (v : Value) (h : vs[i]? = some v) : (w.alloc (.cells vs t)).cell? ⟨w.heap.size, i, none⟩ = some v := by
  rw [World.cell?_alloc_new]; exact h
def Held.kd : Held → Int
  | .no => 0
  | .word _ => 1
  | .note _ => 2
def Held.num : Held → Int
  | .no => 0
  | .word n => n
  | .note n => n
theorem kd_busy (x : Held) : (x.kd == 0) = !x.busy := by cases x <;> rfl
/-- A cell's five parts. -/
def Cl.row (x : Cl) : List Value := [.int .i64 x.held.kd, .int .i64 x.held.num, .int .i64 x.gen, .int .i64 x.stamp, .bool x.ret]
def RC (w : World) (c o : Nat) (x : Cl) : Prop := w.cell? ⟨c, o, none⟩ = some (.int .i64 x.held.kd) ∧ w.cell? ⟨c, o + 1, none⟩ = some (.int .i64 x.held.num) ∧ w.cell? ⟨c, o + 2, none⟩ = some (.int .i64 x.gen) ∧ w.cell? ⟨c, o + 3, none⟩ = some (.int .i64 x.stamp) ∧ w.cell? ⟨c, o + 4, none⟩ = some (.bool x.ret)
def RCells (w : World) (c : Nat) (L : List Cl) : Prop := ∀ i x, L[i]? = some x → RC w c (i * 5) x
structure RAt (w : World) (c : Nat) (m : M) : Prop where
  lt : c < w.heap.size
  cl : RCells w c m.cells
theorem RAt.below {w w' : World} {c : Nat} {m : M} (h : RAt w c m) {B : Nat} (hb : Below B w w') (hB : c < B) : RAt w' c m := by
  have k1 : ∀ i, w'.cell? ⟨c, i, none⟩ = w.cell? ⟨c, i, none⟩ := fun i => hb.cell (p := ⟨c, i, none⟩) hB
  refine ⟨Nat.lt_of_lt_of_le h.lt hb.size, fun i x hx => ?_⟩
  unfold RC
  rw [k1, k1, k1, k1, k1]
  exact h.cl i x hx
theorem RAt.same {w : World} {c : Nat} {m m' : M} (h : RAt w c m) (e : m'.cells = m.cells) : RAt w c m' := ⟨h.lt, by rw [e]; exact h.cl⟩
/-- The document's memory as a value. -/
def M.rv (m : M) (c cap : Nat) : Value := .agg #[.slice (some ⟨c, 0, none⟩) m.cells.length cap, .int .i64 m.count, .int .i64 m.live, .int .i64 m.stale]
/-- A memory is handed back, with other answers: its cells lie where they lay, or in a new block. -/
def RRet (w : World) (c0 : Nat) (m : M) (xs : List Value) (e : Ending) (w' : World) : Prop := ∃ c cap, e = .returned (.tuple (m.rv c cap :: xs).toArray) ∧ RAt w' c m ∧ Below w.heap.size w w' ∧ (c = c0 ∨ w.heap.size ≤ c)

theorem results_cell1 {fn : Func} {ts : Array Value} {w : World} {a : Tmp} {t : TypeId} {p : Addr} {v : Value} (h : fn.results = #[.cell a t]) (ha : ts.getD a undef = .pointer (some p)) (hl : (loadVar t p).run Tryd.prog w = .ok v w) : (results fn ts).run Tryd.prog w = .ok v w := by
  unfold results
  rw [h]
  simp [asAddr, ha, hl, -Array.getD_eq_getD_getElem?]
theorem results_cell2 {fn : Func} {ts : Array Value} {w : World} {a b : Tmp} {t : TypeId} {p : Addr} {v x : Value} (h : fn.results = #[.cell a t, .tmp b]) (ha : ts.getD a undef = .pointer (some p)) (hb : ts.getD b undef = x) (hl : (loadVar t p).run Tryd.prog w = .ok v w) : (results fn ts).run Tryd.prog w = .ok (.tuple #[v, x]) w := by
  unfold results
  rw [h]
  simp [asAddr, ha, hb, hl, -Array.getD_eq_getD_getElem?]
theorem results_cell3 {fn : Func} {ts : Array Value} {w : World} {a b c : Tmp} {t : TypeId} {p : Addr} {v x y : Value} (h : fn.results = #[.cell a t, .tmp b, .tmp c]) (ha : ts.getD a undef = .pointer (some p)) (hb : ts.getD b undef = x) (hc : ts.getD c undef = y) (hl : (loadVar t p).run Tryd.prog w = .ok v w) : (results fn ts).run Tryd.prog w = .ok (.tuple #[v, x, y]) w := by
  unfold results
  rw [h]
  simp [asAddr, ha, hb, hc, hl, -Array.getD_eq_getD_getElem?]

theorem place_no (w : World) (c cap : Nat) (m : M) (h : Int) (hA : RAt w c m) (hO : m.Ok 4611686018427387904) (hs : m.seek h = none) :
    Calls Tryd.prog 55 #[m.rv c cap, .int .i64 h] w fun e w' => e = .returned (.int .i64 (-1)) ∧ Below w.heap.size w w' := by
  unfold M.rv
  have hln := hO.len
  have hr := fun w => refright_any h w
  have lc := hA.lt
  cases hi : isH h
  · rw [hi] at hr
    clear hA hs
    go_enter Tryd.func55, Tryd.ntmps55
    go_wp2_with fail
    refine (hr _).mono ?_
    rintro e w1 ⟨rfl, rfl⟩
    go_wp2
    go_ret
    exact ⟨rfl, (Below.refl _ _).alloc (Nat.le_refl _) _⟩
  · have hi2 := of_decide_eq_true hi
    rw [hi] at hr
    obtain ⟨p, hp⟩ : ∃ p : Nat, (p : Int) = h % 65536 - 1 := ⟨(h % 65536 - 1).toNat, by omega⟩
    have hp2 : (h % 65536 - 1).toNat = p := by omega
    have HM := Lib.hid (show h.tmod 65536 - 1 = (p : Int) by rw [Int.tmod_eq_emod_of_nonneg (by omega)]; omega)
    have HP := Lib.hid hp.symm
    have hpos : 0 ≤ h := by omega
    have hup : h < 1073741824 := by omega
    by_cases hl : p < m.cells.length
    · have hl2 : (p : Int) < (m.cells.length : Int) := by omega
      obtain ⟨x, hx⟩ : ∃ x, m.cells[p]? = some x := ⟨_, List.getElem?_eq_getElem hl⟩
      obtain ⟨k0, _, k2, _, _⟩ := hA.cl p x hx
      have HB : Hid (¬ (x.held.busy = true ∧ x.gen = h / 65536)) := by
        intro hb
        simp [M.seek, hi, hp2, hx, hb.1, hb.2] at hs
      have hkd := kd_busy x.held
      clear hA hs hi hi2 hp hx
      cases hb : x.held.busy
      · rw [hb] at hkd
        have hk2 : (x.held.kd == 0) = true := hkd
        clear hkd HB
        go_enter Tryd.func55, Tryd.ntmps55
        go_wp2_with fail
        refine (hr _).mono ?_
        rintro e w1 ⟨rfl, rfl⟩
        go_wp2_with (first | rw [HM.out] | rw [HP.out] | fail)
        go_ret
        exact ⟨rfl, (Below.refl _ _).alloc (Nat.le_refl _) _⟩
      · rw [hb] at hkd
        have hk2 : (x.held.kd == 0) = false := hkd
        have hg : (x.gen != h / 65536) = true := by
          have : ¬ x.gen = h / 65536 := fun e => HB.out ⟨hb, e⟩
          simpa using this
        clear hkd HB
        go_enter Tryd.func55, Tryd.ntmps55
        go_wp2_with fail
        refine (hr _).mono ?_
        rintro e w1 ⟨rfl, rfl⟩
        go_wp2_with (first | rw [HM.out] | rw [HP.out] | fail)
        go_ret
        exact ⟨rfl, (Below.refl _ _).alloc (Nat.le_refl _) _⟩
    · have hl2 : ¬ (p : Int) < (m.cells.length : Int) := by omega
      clear hA hs hi hi2 hp
      go_enter Tryd.func55, Tryd.ntmps55
      go_wp2_with fail
      refine (hr _).mono ?_
      rintro e w1 ⟨rfl, rfl⟩
      go_wp2_with (first | rw [HM.out] | rw [HP.out] | fail)
      go_ret
      exact ⟨rfl, (Below.refl _ _).alloc (Nat.le_refl _) _⟩
theorem place_yes (w : World) (c cap : Nat) (m : M) (h : Int) (p : Nat) (hA : RAt w c m) (hO : m.Ok 4611686018427387904) (hs : m.seek h = some p) :
    Calls Tryd.prog 55 #[m.rv c cap, .int .i64 h] w fun e w' => e = .returned (.int .i64 (p : Int)) ∧ Below w.heap.size w w' := by
  unfold M.rv
  have hln := hO.len
  have hr := fun w => refright_any h w
  have lc := hA.lt
  obtain ⟨hi, hp, x, hx, hb, hg⟩ := M.seek_some hs
  have hi2 := of_decide_eq_true hi
  rw [hi] at hr
  have HM := Lib.hid (show h.tmod 65536 - 1 = (p : Int) by rw [Int.tmod_eq_emod_of_nonneg (by omega)]; omega)
  have HP := Lib.hid hp.symm
  have hpos : 0 ≤ h := by omega
  have hup : h < 1073741824 := by omega
  have hl : p < m.cells.length := (List.getElem?_eq_some_iff.1 hx).1
  have hl2 : (p : Int) < (m.cells.length : Int) := by omega
  obtain ⟨k0, _, k2, _, _⟩ := hA.cl p x hx
  have hk2 : (x.held.kd == 0) = false := by rw [kd_busy, hb]; rfl
  have hg2 : (x.gen != h / 65536) = false := by simpa using hg
  clear hA hs hi hi2 hp hx hb hg
  go_enter Tryd.func55, Tryd.ntmps55
  go_wp2_with fail
  refine (hr _).mono ?_
  rintro e w1 ⟨rfl, rfl⟩
  go_wp2_with (first | rw [HM.out] | rw [HP.out] | fail)
  go_ret
  exact ⟨rfl, (Below.refl _ _).alloc (Nat.le_refl _) _⟩
end Go.Proofs.YthdcilbbllldiaaDoor
