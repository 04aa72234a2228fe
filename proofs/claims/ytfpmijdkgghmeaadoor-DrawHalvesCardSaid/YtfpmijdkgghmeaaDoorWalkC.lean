/- What draw.Row answers of any word, any number and any levels; DrawPlays answers true. Condition: the library's table of 32 numbers stands in its variable. -/
import Derived.Test.YtfpmijdkgghmeaaDoorWalkA
import Derived.Laws.MakeOwn
import Derived.Deep.QuietTactic
import Derived.BigQuiet
namespace Go.Proofs.YtfpmijdkgghmeaaDoor
open Go.RowKit Go.Op
set_option maxRecDepth 100000

/-- Numbers in a block of the call's own. -/
structure Tab (w : World) (g : Nat) (T : List Int) : Prop where
  lt : g < w.heap.size
  cell : ∀ i (h : i < T.length), w.cell? ⟨g, i, none⟩ = some (.int .i64 (T[i]'h))
  free : ∀ i, w.frozen? ⟨g, i, none⟩ = false
theorem Tab.below {w w' : World} {g : Nat} {T : List Int} (h : Tab w g T) (hb : Below w.heap.size w w') : Tab w' g T :=
  ⟨Nat.lt_of_lt_of_le h.lt hb.size, fun i hi => by rw [hb.cell (p := ⟨g, i, none⟩) h.lt]; exact h.cell i hi, fun i => by rw [hb.frozen (p := ⟨g, i, none⟩) h.lt]; exact h.free i⟩
theorem Tab.set {w : World} {g : Nat} {T : List Int} (h : Tab w g T) {p : Nat} (hp : p < T.length) (v : Int) : Tab (w.setCell ⟨g, p, none⟩ (.int .i64 v)) g (T.set p v) := by
  refine ⟨?_, fun i hi => ?_, fun i => ?_⟩
  · rw [show (w.setCell ⟨g, p, none⟩ (.int .i64 v)).heap.size = w.heap.size by simp [World.setCell]]; exact h.lt
  · have hi2 := hi
    rw [List.length_set] at hi2
    by_cases e : i = p
    · subst e
      rw [World.cell?_setCell_same w ⟨g, i, none⟩ _ (h.cell i hi2), List.getElem_set_self]
    · rw [World.cell?_setCell_other w ⟨g, p, none⟩ ⟨g, i, none⟩ _ (by simp only [ne_eq, Addr.mk.injEq, true_and, and_true]; omega), h.cell i hi2, List.getElem_set_ne (by omega)]
  · rw [World.frozen?_setCell]
    exact h.free i
theorem info3 : (Tryd.prog.info? 3).map (fun i => (i.zero, i.size, i.bytes)) = some (some (.int .i64 0), 1, 8) := by kernel_rfl
theorem made_tab (w : World) (m : Nat) (hm : m ≤ 1000000) : ∃ W, (Instr.makeSlice 26 (.int .i64 (m : Int)) (.int .i64 (m : Int))).run Tryd.prog w = .ok (.slice (some ⟨w.heap.size, 0, none⟩) m m) W ∧ Tab W w.heap.size (List.replicate m 0) ∧ Below w.heap.size w W := by
  obtain ⟨i0, hi, hz0, hz1, hz2⟩ := info_parts info3
  have hr := run_make (P := Tryd.prog) w 26 3 i0 (.int .i64 0) Tryd.underlying26 hi hz0 .i64 .i64 (m : Int) (m : Int) (by omega) (by omega) (by rw [hz2]; omega) (by omega)
  simp only [Int.toNat_natCast, hz1, Nat.mul_one] at hr
  refine ⟨_, hr, ⟨by simp, fun i hi => ?_, fun i => ?_⟩, (Below.refl _ _).alloc (Nat.le_refl _) _⟩
  · rw [List.length_replicate] at hi
    rw [World.cell?_alloc_new]
    simp only [madeCells, Array.getElem?_map, Array.getElem?_range, hi, if_true, Option.map_some, List.getElem_replicate]
    have e : (Value.int .i64 0).cells = #[Value.int .i64 0] := rfl
    rw [e]
    simp [Nat.mod_one]
  · exact World.frozen?_alloc_at _ 3 _ i rfl
theorem drewN_keeps {B : Nat} {a w : World} (h : Below B a w) (n : Nat) : Below B a (w.drewN n) := h.trans ⟨rfl, rfl, rfl, Nat.le_refl _, fun _ _ => rfl⟩
theorem TabAt.below {w w' : World} (h : TabAt w) (hb : Below w.heap.size w w') : TabAt w' := fun j hj => by
  rw [hb.cell (p := ⟨0, j, none⟩) (block_lt_of_cell (h j hj))]
  exact h j hj

/-- The word i steps behind a word. -/
def it : Nat → Nat → Nat
  | 0, w => w
  | i + 1, w => nx (it i w)
theorem it_lt {n : Nat} (h : n < 4294967296) : ∀ i, it i n < 4294967296
  | 0 => h
  | i + 1 => nx_lt (it_lt h i)
/-- The first i places of a row are the heights of the words behind a word. -/
def Filled (T : List Int) (i n : Nat) (l : Int) : Prop := ∀ k (h : k < T.length), k < i → T[k]'h = ht (it (k + 1) n) l
theorem filled_set {T : List Int} {i n : Nat} {l : Int} (h : Filled T i n l) : Filled (T.set i (ht (it (i + 1) n) l : Nat)) (i + 1) n l := by
  intro k hk h1
  rw [List.length_set] at hk
  by_cases e : k = i
  · subst e; rw [List.getElem_set_self]
  · rw [List.getElem_set_ne (by omega)]; exact h k hk (by omega)

set_option maxHeartbeats 1000000 in
theorem row_any (n : Nat) (hn : n < 4294967296) (m : Nat) (hm : m ≤ 1000) (l : Int) (w : World) (hT : TabAt w) :
    Calls Tryd.prog 12 #[.int .u32 (n : Int), .int .i64 (m : Int), .int .i64 l] w fun e w' => ∃ T : List Int, e = .returned (.slice (some ⟨w.heap.size, 0, none⟩) m m) ∧ T.length = m ∧ Filled T m n l ∧ Tab w' w.heap.size T ∧ Below w.heap.size w w' := by
  obtain ⟨W, hmk, ht0, hb⟩ := made_tab w m (by omega)
  go_enter Tryd.func12, Tryd.ntmps12
  go_wp2
  go_loopw [0, 18] (fun xv iv wr => ∃ (i : Nat) (T : List Int), i ≤ m ∧ iv = .int .i64 (i : Int) ∧ xv = .int .u32 (it i n : Nat) ∧ T.length = m ∧ Filled T i n l ∧ Tab wr w.heap.size T ∧ Below w.heap.size w wr) (fun _ iv _ => m - (intOf iv).toNat)
  case atStart => exact ⟨0, _, by omega, rfl, rfl, by rw [List.length_replicate], fun k _ h => by omega, ht0, hb⟩
  case round =>
    obtain ⟨i, T, hi, rfl, rfl, hl, hF, ht, hbr⟩ := hrel
    have HF := Lib.hid hF
    have HT := Lib.hid ht
    clear hF ht
    by_cases h1 : i < m
    · have i1 : (i : Int) < (m : Int) := by omega
      have hx := it_lt hn i
      have hx1 := it_lt hn (i + 1)
      obtain ⟨y, ey⟩ : ∃ y, y = it (i + 1) n := ⟨_, rfl⟩
      have ey2 : nx (it i n) = y := ey.symm
      have hnx := fun w => next_any (it i n) hx w
      have HH := Lib.hid (fun w hT => height_any (it (i + 1) n) hx1 l w hT)
      rw [ey2] at hnx
      obtain ⟨v, hv⟩ : ∃ v, v = T[i]'(by omega) := ⟨_, rfl⟩
      have hcell : wr.cell? ⟨w.heap.size, i, none⟩ = some (.int .i64 v) := by rw [hv]; exact HT.out.cell i (by omega)
      have hfree := HT.out.free i
      have hset := HT.out.set (p := i) (by omega) (ht (it (i + 1) n) l : Nat)
      have hfil := filled_set HF.out
      have HHT := Lib.hid (hT.below hbr)
      rw [← ey] at hx1 HH hset hfil
      have HSet := Lib.hid hset
      have HFil := Lib.hid hfil
      have HY := Lib.hid ey
      clear hset hfil hv ey ey2
      generalize it i n = x at hx hnx
      have hh := fun w hT => HH.out w hT
      generalize ht y l = z at hh HSet HFil
      go_wp2_with fail
      refine (hnx _).mono ?_
      rintro e w1 ⟨rfl, rfl⟩
      go_wp2_with fail
      refine (hh _ HHT.out).mono ?_
      rintro e w1 ⟨rfl, rfl⟩
      go_wp2
      go_roundw
      case rel => exact ⟨i + 1, _, by omega, by go_num, by rw [HY.out], by rw [List.length_set]; exact hl, HFil.out, HSet.out, hbr.setCell (Nat.le_refl _) _⟩
      case measure => simp [intOf]; omega
    · obtain rfl : i = m := by omega
      clear hmk
      go_wp2
      go_ret
      exact ⟨T, rfl, hl, HF.out, HT.out, hbr⟩
theorem row_no (n : Nat) (m : Int) (hm : m < 0 ∨ 1000 < m) (l : Int) (w : World) :
    Calls Tryd.prog 12 #[.int .u32 (n : Int), .int .i64 m, .int .i64 l] w fun e w' => e = .returned (.slice none 0 0) ∧ w = w' := by
  by_cases h1 : m < 0
  · go_enter Tryd.func12, Tryd.ntmps12
    go_wp2
    go_ret
    exact ⟨rfl, rfl⟩
  · have h2 : 1000 < m := by omega
    go_enter Tryd.func12, Tryd.ntmps12
    go_wp2
    go_ret
    exact ⟨rfl, rfl⟩

set_option maxHeartbeats 2000000 in
theorem plays_any (n : Nat) (hn : n < 4294967296) (l m : Int) (w : World) (hT : TabAt w) :
    Calls Tryd.prog 3 #[.int .u32 (n : Int), .int .i64 l, .int .i64 m] w fun e w' => e = .returned (.bool true) ∧ Below w.heap.size w w' := by
  have h1 := fun w hT => height_any n hn l w hT
  have h2 := fun w => refheight_any n hn l w
  have h3 := fun w => next_any n hn w
  have h4 := fun w => refnext_any n hn w
  by_cases h0 : m < 0 ∨ 1000 < m
  · have h5 := fun w => row_no n m h0 l w
    have g0 : (decide (m < 0) || decide (1000 < m)) = true := by simpa using h0
    by_cases c1 : m < 0
    · go_enter Tryd.func3, Tryd.ntmps3
      go_wp2_with fail
      refine (awake_any _ hT).mono ?_
      rintro e w1 ⟨rfl, rfl⟩
      go_wp2_with fail
      refine (h1 _ hT).mono ?_
      rintro e w1 ⟨rfl, rfl⟩
      go_wp2_with fail
      refine (h2 _).mono ?_
      rintro e w1 ⟨rfl, rfl⟩
      go_wp2_with fail
      refine (h3 _).mono ?_
      rintro e w1 ⟨rfl, rfl⟩
      go_wp2_with fail
      refine (h4 _).mono ?_
      rintro e w1 ⟨rfl, rfl⟩
      go_wp2_with fail
      refine (h5 _).mono ?_
      rintro e w1 ⟨rfl, rfl⟩
      go_wp2
      go_ret
      exact ⟨rfl, Below.refl _ _⟩
    · have c2 : 1000 < m := by omega
      go_enter Tryd.func3, Tryd.ntmps3
      go_wp2_with fail
      refine (awake_any _ hT).mono ?_
      rintro e w1 ⟨rfl, rfl⟩
      go_wp2_with fail
      refine (h1 _ hT).mono ?_
      rintro e w1 ⟨rfl, rfl⟩
      go_wp2_with fail
      refine (h2 _).mono ?_
      rintro e w1 ⟨rfl, rfl⟩
      go_wp2_with fail
      refine (h3 _).mono ?_
      rintro e w1 ⟨rfl, rfl⟩
      go_wp2_with fail
      refine (h4 _).mono ?_
      rintro e w1 ⟨rfl, rfl⟩
      go_wp2_with fail
      refine (h5 _).mono ?_
      rintro e w1 ⟨rfl, rfl⟩
      go_wp2
      go_ret
      exact ⟨rfl, Below.refl _ _⟩
  · obtain ⟨M, rfl⟩ : ∃ M : Nat, m = (M : Int) := ⟨m.toNat, by omega⟩
    have hM : M ≤ 1000 := by omega
    have c1 : ¬ (M : Int) < 0 := by omega
    have c2 : ¬ 1000 < (M : Int) := by omega
    have h5 := fun w hT => row_any n hn M hM l w hT
    clear h0
    go_enter Tryd.func3, Tryd.ntmps3
    go_wp2_with fail
    refine (awake_any _ hT).mono ?_
    rintro e w1 ⟨rfl, rfl⟩
    go_wp2_with fail
    refine (h1 _ hT).mono ?_
    rintro e w1 ⟨rfl, rfl⟩
    go_wp2_with fail
    refine (h2 _).mono ?_
    rintro e w1 ⟨rfl, rfl⟩
    go_wp2_with fail
    refine (h3 _).mono ?_
    rintro e w1 ⟨rfl, rfl⟩
    go_wp2_with fail
    refine (h4 _).mono ?_
    rintro e w1 ⟨rfl, rfl⟩
    go_wp2_with fail
    refine (h5 _ hT).mono ?_
    rintro e w1 ⟨T, rfl, hl, hF, ht, hb⟩
    have HF := Lib.hid hF
    have HT := Lib.hid ht
    clear hF ht h1 h2 h3 h4 h5
    go_wp2
    go_loopw [8, 9] (fun xv iv wr => ∃ i : Nat, i ≤ M ∧ iv = .int .i64 (i : Int) ∧ xv = .int .u32 (it i n : Nat) ∧ Tab wr w.heap.size T ∧ Below w.heap.size w wr) (fun _ iv _ => M - (intOf iv).toNat)
    case atStart => exact ⟨0, by omega, rfl, rfl, HT.out, hb⟩
    case round =>
      obtain ⟨i, hi, rfl, rfl, ht, hbr⟩ := hrel
      have HTR := Lib.hid ht
      clear ht
      by_cases h1 : i < M
      · have i1 : (i : Int) < (M : Int) := by omega
        have hx := it_lt hn i
        have hx1 := it_lt hn (i + 1)
        obtain ⟨y, ey⟩ : ∃ y, y = it (i + 1) n := ⟨_, rfl⟩
        have ey2 : nx (it i n) = y := ey.symm
        have hnx := fun w => refnext_any (it i n) hx w
        rw [ey2] at hnx
        rw [← ey] at hx1
        have hh := fun w => refheight_any y hx1 l w
        have hcell : wr.cell? ⟨w.heap.size, i, none⟩ = some (.int .i64 (ht y l : Nat)) := by
          rw [HTR.out.cell i (by omega), HF.out i (by omega) h1, ey]
        have HY := Lib.hid ey
        clear ey ey2
        generalize it i n = x at hx hnx
        generalize ht y l = z at hh hcell
        go_wp2_with fail
        refine (hnx _).mono ?_
        rintro e w2 ⟨rfl, rfl⟩
        go_wp2_with fail
        go_quiet ((go_at_call 9; exact Calls.quiet_of_same ((hh _).mono fun _ _ ⟨p, q⟩ => ⟨p, q.symm⟩)))
        go_wp2
        go_roundw
        case rel => exact ⟨i + 1, by omega, by go_num, by rw [HY.out], HTR.out.below (drewN_keeps (Below.refl _ _) _), drewN_keeps hbr _⟩
        case measure => simp [intOf]; omega
      · have i1 : ¬ (i : Int) < (M : Int) := by omega
        go_wp2
        go_ret
        exact ⟨rfl, hbr⟩
end Go.Proofs.YtfpmijdkgghmeaaDoor
