/- What Short answers of any spans; three spans in memory; rows of lists. Condition: at most 1000 spans. -/
import Derived.Test.YthglldnhffkefaaBWalkI
import Derived.Test.YthglldnhffkefaaUGen
namespace Go.Proofs.Ythglldnhffkefaa
open Go.RowKit Go.Op
set_option maxRecDepth 100000

def ShP (r : List Sp) : Prop := ∀ s ∈ r, s.lo.size ≤ 1100 ∧ s.hi.size ≤ 1100
open Classical in
noncomputable def shN (r : List Sp) : Int := if ShP r then 1 else 0
theorem sh_yes {r : List Sp} (h : ShP r) : shN r = 1 := if_pos h
theorem sh_no {r : List Sp} (h : ¬ ShP r) : shN r = 0 := if_neg h
theorem short_any (sa : Option Addr) (r : List Sp) (sc : Nat) (w : World) (hr : r.length ≤ 1000) (hS : Sps w sa r) :
    Calls Try.prog 15 #[.slice sa r.length sc] w fun e w' => e = .returned (.int .i64 (shN r)) ∧ w = w' := by
  have HE := Lib.hid hS
  have HY := Lib.hid (fun h : ShP r => sh_yes h)
  have HN := Lib.hid (fun h : ¬ ShP r => sh_no h)
  clear hS
  go_enter Try.func15, Try.ntmps15
  go_wp2
  go_loop [3] (fun iv => ∃ i : Nat, iv = .int .i64 (i : Int) ∧ i ≤ r.length ∧ Hid (∀ j (hj : j < r.length), j < i → r[j].lo.size ≤ 1100 ∧ r[j].hi.size ≤ 1100)) (fun iv => r.length - (intOf iv).toNat)
  case atStart => exact ⟨0, rfl, by omega, Lib.hid (fun j _ h => by omega)⟩
  case round =>
    obtain ⟨i, rfl, hil, H1⟩ := hrel
    by_cases h1 : i < r.length
    · have i1 : (i : Int) < (r.length : Int) := by omega
      obtain ⟨eb, eo, rfl, heb, hc⟩ := HE.out.at h1
      have HF : Hid (¬ (r[i].lo.size ≤ 1100 ∧ r[i].hi.size ≤ 1100) → shN r = 0) := Lib.hid (fun h => HN.out (fun hf => h (hf _ (List.getElem_mem h1))))
      have HG : Hid ((r[i].lo.size ≤ 1100 ∧ r[i].hi.size ≤ 1100) → ∀ j (hj : j < r.length), j < i + 1 → r[j].lo.size ≤ 1100 ∧ r[j].hi.size ≤ 1100) := Lib.hid (fun h j hj hj2 => by
        by_cases e : j = i
        · subst e; exact h
        · exact H1.out j hj (by omega))
      generalize r[i] = x at hc HF HG
      obtain ⟨k, v, gn⟩ := x
      obtain ⟨c1, c2, c3⟩ := hc
      simp only at c1 c2 c3
      by_cases g1 : k.size ≤ 1100
      · have d1 : decide ((1100 : Int) < (k.size : Int)) = false := decide_eq_false (by omega)
        by_cases g2 : v.size ≤ 1100
        · have d2 : decide ((1100 : Int) < (v.size : Int)) = false := decide_eq_false (by omega)
          have HGo := Lib.hid (HG.out ⟨g1, g2⟩)
          clear g1 g2
          go_wp2
          go_round
          case rel => exact ⟨i + 1, by go_num, by omega, HGo⟩
          case measure => simp [intOf]; omega
        · have d2 : decide ((1100 : Int) < (v.size : Int)) = true := decide_eq_true (by omega)
          have HX := Lib.hid (HF.out (fun h => g2 h.2))
          clear g1 g2
          go_wp2
          go_ret
          exact ⟨ret_i64 HX.out.symm, rfl⟩
      · have d1 : decide ((1100 : Int) < (k.size : Int)) = true := decide_eq_true (by omega)
        have HX := Lib.hid (HF.out (fun h => g1 h.1))
        clear g1
        go_wp2
        go_ret
        exact ⟨ret_i64 HX.out.symm, rfl⟩
    · have i1 : ¬ (i : Int) < (r.length : Int) := by omega
      have HX := Lib.hid (HY.out (fun e he => by
        obtain ⟨j, hj, rfl⟩ := List.mem_iff_getElem.1 he
        exact H1.out j hj (by omega)))
      go_wp2
      go_ret
      exact ⟨ret_i64 HX.out.symm, rfl⟩

/-- Three spans, each in a variable of its own. -/
def Three (b : Nat) (W : World) (x y z : Sp) : Prop := At b 0 x W ∧ At (b + 1) 0 y W ∧ At (b + 1 + 1) 0 z W ∧ b + 1 + 1 < W.heap.size
theorem Three.on {b : Nat} {W W' : World} {x y z : Sp} (h : Three b W x y z) (hb : Below W.heap.size W W') : Three b W' x y z :=
  ⟨h.1.keep hb (by have := h.2.2.2; omega), h.2.1.keep hb (by have := h.2.2.2; omega), h.2.2.1.keep hb h.2.2.2, Nat.lt_of_lt_of_le h.2.2.2 hb.size⟩
theorem three_new (w : World) (x y z : Sp) (t : TypeId) : Three w.heap.size (((w.alloc (.cells #[.string x.lo, .string x.hi, .bool x.all] t)).alloc (.cells #[.string y.lo, .string y.hi, .bool y.all] t)).alloc (.cells #[.string z.lo, .string z.hi, .bool z.all] t)) x y z := by
  have B1 := (Below.refl (w.heap.size + 1) (w.alloc (.cells #[.string x.lo, .string x.hi, .bool x.all] t))).alloc (by simp) (.cells #[.string y.lo, .string y.hi, .bool y.all] t)
  have B2 := B1.alloc (by simp) (.cells #[.string z.lo, .string z.hi, .bool z.all] t)
  have C2 := (Below.refl (w.heap.size + 2) ((w.alloc (.cells #[.string x.lo, .string x.hi, .bool x.all] t)).alloc (.cells #[.string y.lo, .string y.hi, .bool y.all] t))).alloc (by simp) (.cells #[.string z.lo, .string z.hi, .bool z.all] t)
  refine ⟨At.keep (w1 := w.alloc (.cells #[.string x.lo, .string x.hi, .bool x.all] t)) ⟨by simp, by simp, by simp⟩ B2 (by omega), At.keep (w1 := (w.alloc (.cells #[.string x.lo, .string x.hi, .bool x.all] t)).alloc (.cells #[.string y.lo, .string y.hi, .bool y.all] t)) ⟨?_, ?_, ?_⟩ C2 (by omega), ⟨?_, ?_, ?_⟩, by simp⟩
  · simp
  · simp
  · simp
  · have := World.cell?_alloc_new ((w.alloc (.cells #[.string x.lo, .string x.hi, .bool x.all] t)).alloc (.cells #[.string y.lo, .string y.hi, .bool y.all] t)) #[.string z.lo, .string z.hi, .bool z.all] t 0
    simpa using this
  · have := World.cell?_alloc_new ((w.alloc (.cells #[.string x.lo, .string x.hi, .bool x.all] t)).alloc (.cells #[.string y.lo, .string y.hi, .bool y.all] t)) #[.string z.lo, .string z.hi, .bool z.all] t 1
    simpa using this
  · have := World.cell?_alloc_new ((w.alloc (.cells #[.string x.lo, .string x.hi, .bool x.all] t)).alloc (.cells #[.string y.lo, .string y.hi, .bool y.all] t)) #[.string z.lo, .string z.hi, .bool z.all] t 2
    simpa using this
theorem sps_three (w : World) (x y z : Sp) (t : TypeId) : Sps (w.alloc (.cells #[.string x.lo, .string x.hi, .bool x.all, .string y.lo, .string y.hi, .bool y.all, .string z.lo, .string z.hi, .bool z.all] t)) (some ⟨w.heap.size, 0, none⟩) [x, y, z] := by
  refine .inr ⟨w.heap.size, 0, rfl, by simp, fun k hk => ?_⟩
  match k, hk with
  | 0, _ => exact ⟨by simp, by simp, by simp⟩
  | 1, _ => exact ⟨by simp, by simp, by simp⟩
  | 2, _ => exact ⟨by simp, by simp, by simp⟩
theorem Three.cells {b : Nat} {W : World} {x y z : Sp} (h : Three b W x y z) : W.cell? ⟨b, 0, none⟩ = some (.string x.lo) ∧ W.cell? ⟨b, 1, none⟩ = some (.string x.hi) ∧ W.cell? ⟨b, 2, none⟩ = some (.bool x.all) ∧
    W.cell? ⟨b + 1, 0, none⟩ = some (.string y.lo) ∧ W.cell? ⟨b + 1, 1, none⟩ = some (.string y.hi) ∧ W.cell? ⟨b + 1, 2, none⟩ = some (.bool y.all) ∧
    W.cell? ⟨b + 1 + 1, 0, none⟩ = some (.string z.lo) ∧ W.cell? ⟨b + 1 + 1, 1, none⟩ = some (.string z.hi) ∧ W.cell? ⟨b + 1 + 1, 2, none⟩ = some (.bool z.all) :=
  ⟨h.1.1, h.1.2.1, h.1.2.2, h.2.1.1, h.2.1.2.1, h.2.1.2.2, h.2.2.1.1, h.2.2.1.2.1, h.2.2.1.2.2⟩
theorem parts_short : ∀ (r : List Sp) (L M : List En), M ∈ partsL L r → M.length ≤ L.length
  | [], _, _, h => by cases h
  | s :: r, L, M, h => by
    have h1 : (fromL L s.lo).length ≤ L.length := by unfold fromL; rw [List.length_drop]; omega
    rcases List.mem_cons.1 h with rfl | h
    · have h2 := within_length (fromL L s.lo) s
      have h3 := wN_le (fromL L s.lo) s
      omega
    · have := parts_short r _ M h
      rw [List.length_drop] at this
      omega
theorem PRow.lower {b b' : Nat} {W : World} {gp n : Nat} {D : List (List En)} (h : PRow b W gp n D) (hb : b' ≤ b) : PRow b' W gp n D := by
  obtain ⟨vs, g1, g2⟩ := h
  obtain ⟨e1, e2⟩ := g1
  refine ⟨vs, ⟨e1, ?_⟩, g2⟩
  rcases e2 with e2 | ⟨g, cap, cur, e, b, cc⟩
  · exact .inl e2
  · exact .inr ⟨g, cap, cur, e, Nat.le_trans hb b, cc⟩
/-- A row of lists, for reading. -/
def Rd (W : World) (g : Nat) (D : List (List En)) : Prop := g < W.heap.size ∧ ∀ k (hk : k < D.length), ∃ a c, W.cell? ⟨g, k, none⟩ = some (.slice a (D[k]'hk).length c) ∧ Ents W a (D[k]'hk)
theorem Rd.on {W W' : World} {g : Nat} {D : List (List En)} (h : Rd W g D) (hb : Below W.heap.size W W') : Rd W' g D :=
  ⟨Nat.lt_of_lt_of_le h.1 hb.size, fun k hk => by
    obtain ⟨a, c, h1, h2⟩ := h.2 k hk
    exact ⟨a, c, by rw [hb.cell (p := ⟨g, k, none⟩) h.1]; exact h1, h2.below hb⟩⟩
theorem PRow.rd {b : Nat} {W : World} {gp n : Nat} {D : List (List En)} (h : PRow b W gp n D) (hn : D.length = n) : Rd W gp D :=
  ⟨by obtain ⟨_, _, h2, _⟩ := h; exact h2, fun k hk => by
    obtain ⟨a, c, h1, h2⟩ := h.at hk (by omega)
    exact ⟨a, c, h1, h2.e⟩⟩
theorem QR.rd {w2 W : World} {v : Value} {D : List (List En)} (h : QR w2 W v D) (hb : Below w2.heap.size w2 W) (h0 : D ≠ []) : ∃ g c, v = .slice (some ⟨g, 0, none⟩) D.length c ∧ Rd W g D := by
  obtain ⟨vs, h1, h2⟩ := h
  have h1' := h1
  obtain ⟨e1, e2⟩ := h1'
  rcases e2 with ⟨e2, e3⟩ | ⟨g, cap, cur, rfl, b, c, _⟩
  · exfalso
    exact h0 (List.length_eq_zero_iff.1 (by simp_all))
  · refine ⟨g, cap, rfl, heap_lt c, fun k hk => ?_⟩
    obtain ⟨a, c', g1, g2⟩ := h2 k hk
    exact ⟨a, c', by rw [World.ownsRow.cellAt h1 k (by omega)]; exact g1, g2.e.below hb⟩
theorem len_42 (a : Option Addr) (n c : Nat) (ty : TypeId) (w : World) : (Builtin.len_ #[42] ty #[.slice a n c]).run Try.prog w = .ok (.int .i64 (n : Int)) w := by
  go_simp
theorem len_46 (a : Option Addr) (n c : Nat) (ty : TypeId) (w : World) : (Builtin.len_ #[46] ty #[.slice a n c]).run Try.prog w = .ok (.int .i64 (n : Int)) w := by
  go_simp
theorem at_42 (b n c k : Nat) (h : k < n) (w : World) : (Instr.indexAt 42 (.slice (some ⟨b, 0, none⟩) n c) (.int .i64 (k : Int))).run Try.prog w = .ok (.pointer (some ⟨b, k, none⟩)) w := by
  have h1 : (k : Int) < (n : Int) := by omega
  go_simp
theorem at_46 (b n c k : Nat) (h : k < n) (w : World) : (Instr.indexAt 46 (.slice (some ⟨b, 0, none⟩) n c) (.int .i64 (k : Int))).run Try.prog w = .ok (.pointer (some ⟨b, k, none⟩)) w := by
  have h1 : (k : Int) < (n : Int) := by omega
  go_simp
theorem load_25 {w : World} {p : Addr} {a : Option Addr} {n c : Nat} (h : w.cell? p = some (.slice a n c)) : (Instr.loadAt 25 (.pointer (some p))).run Try.prog w = .ok (.slice a n c) w := by
  go_simp
theorem load_22 {w : World} {p : Addr} {a : Option Addr} {n c : Nat} (h : w.cell? p = some (.slice a n c)) : (Instr.loadAt 22 (.pointer (some p))).run Try.prog w = .ok (.slice a n c) w := by
  go_simp
theorem enter_17 (xs : Array Value) (w : World) : (callFunc 17 xs).run Try.prog w = .ok (.enter 17 xs) w := by kernel_rfl
theorem enter_16 (xs : Array Value) (w : World) : (callFunc 16 xs).run Try.prog w = .ok (.enter 16 xs) w := by kernel_rfl
theorem enter_19 (xs : Array Value) (w : World) : (callFunc 19 xs).run Try.prog w = .ok (.enter 19 xs) w := by kernel_rfl
theorem enter_12 (xs : Array Value) (w : World) : (callFunc 12 xs).run Try.prog w = .ok (.enter 12 xs) w := by kernel_rfl
theorem build_spans (x y z : Sp) (w : World) : (Instr.buildSlice 62 3 #[(0, x.v), (1, y.v), (2, z.v)]).run Try.prog w = .ok (.slice (some ⟨w.heap.size, 0, none⟩) 3 3) (w.alloc (.cells #[.string x.lo, .string x.hi, .bool x.all, .string y.lo, .string y.hi, .bool y.all, .string z.lo, .string z.hi, .bool z.all] 44)) := by
  unfold Sp.v
  go_simp
end Go.Proofs.Ythglldnhffkefaa
