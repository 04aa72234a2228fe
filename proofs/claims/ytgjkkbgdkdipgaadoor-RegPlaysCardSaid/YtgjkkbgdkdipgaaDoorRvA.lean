/- The reference's register in memory; its Oldest, Least, Find. Conditions: at most 64 clients and places. -/
import Derived.Test.YtgjkkbgdkdipgaaDoorRgO
namespace Go.Proofs.YtgjkkbgdkdipgaaDoor
open Go.RowKit Go.Op
set_option maxRecDepth 100000

/-- Where the reference's rows stand. -/
structure Rs where
  sa : Option Addr
  sc : Nat
  pa : Option Addr
  pc : Nat
def Rs.v (x : Rs) (V : Int) (n k : Nat) : Value := .agg #[.int .i64 V, .slice x.sa n x.sc, .slice x.pa k x.pc]
def Rs.obj (x : Rs) (V : Int) (n k : Nat) : Obj := .cells #[.int .i64 V, .slice x.sa n x.sc, .slice x.pa k x.pc] 44
/-- A row of numbers in a block of which Q is true. -/
def RowI (Q : Nat → Prop) (w : World) (a : Option Addr) (l : List Int) : Prop := l = [] ∨ ∃ g, a = some ⟨g, 0, none⟩ ∧ Q g ∧ g < w.heap.size ∧ ∀ (i : Nat) (x : Int), l[i]? = some x → w.cell? ⟨g, i, none⟩ = some (.int .i64 x)
/-- A row of pairs. -/
def RowS (Q : Nat → Prop) (w : World) (a : Option Addr) (l : List (Int × Int)) : Prop := l = [] ∨ ∃ g, a = some ⟨g, 0, none⟩ ∧ Q g ∧ g < w.heap.size ∧ ∀ (i : Nat) (x : Int × Int), l[i]? = some x → w.cell? ⟨g, i * 2, none⟩ = some (.int .i64 x.1) ∧ w.cell? ⟨g, i * 2 + 1, none⟩ = some (.int .i64 x.2)
structure RIs (Q : Nat → Prop) (w : World) (x : Rs) (A : List Int) (B : List (Int × Int)) : Prop where
  a : RowI Q w x.sa A
  b : RowS Q w x.pa B
section
variable {Q Q' : Nat → Prop} {w w' : World} {x : Rs} {A l : List Int} {B : List (Int × Int)} {ad : Option Addr}
theorem RowI.keep (h : RowI Q w ad l) (hq : ∀ g, Q g → g < w.heap.size → Q' g) (hs : w.heap.size ≤ w'.heap.size) (hk : ∀ g, Q g → g < w.heap.size → w'.heap[g]? = w.heap[g]?) : RowI Q' w' ad l :=
  h.imp id fun ⟨g, e, h1, h2, h3⟩ => ⟨g, e, hq g h1 h2, Nat.lt_of_lt_of_le h2 hs, fun i x hx => by rw [World.cell?_of_block (w := w) (a := ⟨g, i, none⟩) (hk g h1 h2)]; exact h3 i x hx⟩
theorem RowS.keep (h : RowS Q w ad B) (hq : ∀ g, Q g → g < w.heap.size → Q' g) (hs : w.heap.size ≤ w'.heap.size) (hk : ∀ g, Q g → g < w.heap.size → w'.heap[g]? = w.heap[g]?) : RowS Q' w' ad B :=
  h.imp id fun ⟨g, e, h1, h2, h3⟩ => ⟨g, e, hq g h1 h2, Nat.lt_of_lt_of_le h2 hs, fun i x hx => by rw [World.cell?_of_block (w := w) (a := ⟨g, i * 2, none⟩) (hk g h1 h2), World.cell?_of_block (w := w) (a := ⟨g, i * 2 + 1, none⟩) (hk g h1 h2)]; exact h3 i x hx⟩
theorem RIs.keep (h : RIs Q w x A B) (hq : ∀ g, Q g → g < w.heap.size → Q' g) (hs : w.heap.size ≤ w'.heap.size) (hk : ∀ g, Q g → g < w.heap.size → w'.heap[g]? = w.heap[g]?) : RIs Q' w' x A B := ⟨h.a.keep hq hs hk, h.b.keep hq hs hk⟩
theorem RIs.later (h : RIs Q w x A B) (hb : Below w.heap.size w w') : RIs Q w' x A B := h.keep (fun _ h _ => h) hb.size fun g _ h2 => hb.block g h2
theorem RowI.see (h : RowI Q w ad l) {i : Nat} {x : Int} (hx : l[i]? = some x) : ∃ g, ad = some ⟨g, 0, none⟩ ∧ w.cell? ⟨g, i, none⟩ = some (.int .i64 x) := by
  rcases h with e | ⟨g, e, -, -, h3⟩
  · rw [e] at hx; simp at hx
  · exact ⟨g, e, h3 i x hx⟩
theorem RowS.see (h : RowS Q w ad B) {i : Nat} {x : Int × Int} (hx : B[i]? = some x) : ∃ g, ad = some ⟨g, 0, none⟩ ∧ w.cell? ⟨g, i * 2, none⟩ = some (.int .i64 x.1) ∧ w.cell? ⟨g, i * 2 + 1, none⟩ = some (.int .i64 x.2) := by
  rcases h with e | ⟨g, e, -, -, h3⟩
  · rw [e] at hx; simp at hx
  · exact ⟨g, e, h3 i x hx⟩
end
theorem at_42 (g n cp k : Nat) (h : k < n) (w : World) : (Instr.indexAt 42 (.slice (some ⟨g, 0, none⟩) n cp) (.int .i64 (k : Int))).run Tryd.prog w = .ok (.pointer (some ⟨g, k * 2, none⟩)) w := by
  have hk : (k : Int) < (n : Int) := by omega
  go_simp
theorem rsbox (w : World) (x : Rs) (V : Int) (n k : Nat) : (w.alloc (x.obj V n k)).cell? ⟨w.heap.size, 0, none⟩ = some (.int .i64 V) ∧ (w.alloc (x.obj V n k)).cell? ⟨w.heap.size, 1, none⟩ = some (.slice x.sa n x.sc) ∧ (w.alloc (x.obj V n k)).cell? ⟨w.heap.size, 2, none⟩ = some (.slice x.pa k x.pc) := by
  unfold Rs.obj
  exact ⟨by simp [go_sem], by simp [go_sem], by simp [go_sem]⟩
theorem slotsF_cons (k : Int) (i : Nat) (lv a : Int) (l : List Int) : slotsF k i lv (a :: l) = slotsF k (i + 1) (if (i : Int) = k then lv else if a < 0 then lv else min lv a) l := rfl
theorem snapsF_cons (lv : Int) (b : Int × Int) (l : List (Int × Int)) : snapsF lv (b :: l) = snapsF (if b.2 < 0 then lv else min lv b.2) l := rfl
set_option maxHeartbeats 1000000 in
theorem refoldest_any (w : World) {Q : Nat → Prop} (x : Rs) (V : Int) (A : List Int) (B : List (Int × Int)) (hx : RIs Q w x A B) (hA : A.length ≤ 64) (k : Int) :
    Calls Tryd.prog 57 #[x.v V A.length B.length, .int .i64 k] w fun e w' => e = .returned (.int .i64 (oldF k A)) ∧ Below w.heap.size w w' := by
  obtain ⟨w1, hw1⟩ : ∃ W, W = w.alloc (x.obj V A.length B.length) := ⟨_, rfl⟩
  have hb1 : Below w.heap.size w w1 := by rw [hw1]; exact (Below.refl _ _).alloc (Nat.le_refl _) _
  have hx1 := hx.later hb1
  obtain ⟨c0, c1, c2⟩ := rsbox w x V A.length B.length
  rw [← hw1] at c0 c1 c2
  unfold Rs.v
  unfold Rs.obj at hw1
  have HW := Lib.hid hw1.symm
  have HX := Lib.hid hx1.a
  have HB := Lib.hid hb1
  have HH : Hid (slotsF k 0 1073741825 (A.drop 0) = oldF k A) := rfl
  have hA2 : (A.length : Int) ≤ 64 := by omega
  have HA : Hid (∃ n, n = A.length) := ⟨_, rfl⟩
  clear hx hb1 hx1 hw1 hA
  generalize hn : A.length = n at *
  have HN := Lib.hid hn
  clear hn HA
  go_enter Tryd.func57, Tryd.ntmps57
  go_wp2_with (first | rw [HW.out] | fail)
  go_loopw [5, 6] (fun nv iv wr => ∃ (i : Nat) (n2 : Int), iv = .int .i64 (i : Int) ∧ i ≤ n ∧ nv = .int .i64 n2 ∧ wr = w1 ∧ Hid (slotsF k i n2 (A.drop i) = oldF k A)) (fun nv iv _ => n - (intOf iv).toNat)
  case atStart => exact ⟨0, 1073741825, rfl, Nat.zero_le _, rfl, rfl, HH⟩
  case round =>
    obtain ⟨i, n2, rfl, hi, rfl, rfl, hR⟩ := hrel
    clear HH
    by_cases hlt : i < n
    · have i1 : (i : Int) < (n : Int) := by omega
      obtain ⟨a, ha, hd⟩ := drop_at (l := A) (i := i) (by rw [HN.out]; exact hlt)
      obtain ⟨g, eg, k0⟩ := HX.out.see ha
      have hr := hR.out
      rw [hd, slotsF_cons] at hr
      clear ha hd hR
      rw [eg] at c1
      by_cases hk : (i : Int) = k
      · rw [if_pos hk] at hr
        have HR := Lib.hid hr
        clear hr
        subst hk
        go_wp2_with fail
        go_roundw
        case rel => first | exact ⟨i + 1, n2, by simp, by omega, rfl, rfl, HR⟩ | exact ⟨i + 1, n2, by simp, by omega, rfl, trivial, HR⟩ | exact ⟨i + 1, by simp, by omega, HR⟩
        case measure => simp [intOf]; omega
      · rw [if_neg hk] at hr
        replace hk : ((i : Int) != k) = true := by simpa using hk
        by_cases h0 : a < 0
        · rw [if_pos h0] at hr
          have HR := Lib.hid hr
          clear hr
          go_wp2_with fail
          go_roundw
          case rel => first | exact ⟨i + 1, n2, by simp, by omega, rfl, rfl, HR⟩ | exact ⟨i + 1, n2, by simp, by omega, rfl, trivial, HR⟩ | exact ⟨i + 1, by simp, by omega, HR⟩
          case measure => simp [intOf]; omega
        · rw [if_neg h0] at hr
          have h1 : 0 ≤ a := by omega
          by_cases h2 : a < n2
          · rw [show min n2 a = a by omega] at hr
            have HR := Lib.hid hr
            clear hr h0
            go_wp2_with fail
            go_roundw
            case rel => first | exact ⟨i + 1, a, by simp, by omega, rfl, rfl, HR⟩ | exact ⟨i + 1, a, by simp, by omega, rfl, trivial, HR⟩ | exact ⟨i + 1, by simp, by omega, HR⟩
            case measure => simp [intOf]; omega
          · rw [show min n2 a = n2 by omega] at hr
            have HR := Lib.hid hr
            clear hr h0
            go_wp2_with fail
            go_roundw
            case rel => first | exact ⟨i + 1, n2, by simp, by omega, rfl, rfl, HR⟩ | exact ⟨i + 1, n2, by simp, by omega, rfl, trivial, HR⟩ | exact ⟨i + 1, by simp, by omega, HR⟩
            case measure => simp [intOf]; omega
    · obtain rfl : i = n := by omega
      have hr := hR.out
      rw [List.drop_eq_nil_of_le (by rw [HN.out]; exact Nat.le_refl _)] at hr
      replace hr : n2 = oldF k A := hr
      subst hr
      clear hR
      go_wp2
      go_ret
      exact ⟨rfl, HB.out⟩
set_option maxHeartbeats 1000000 in
theorem refleast_any (w : World) {Q : Nat → Prop} (x : Rs) (V : Int) (A : List Int) (B : List (Int × Int)) (hx : RIs Q w x A B) (hA : A.length ≤ 64) (hB : B.length ≤ 64) (k : Int) :
    Calls Tryd.prog 56 #[x.v V A.length B.length, .int .i64 k] w fun e w' => e = .returned (.int .i64 (leastF k V A B)) ∧ Below w.heap.size w w' := by
  obtain ⟨w1, hw1⟩ : ∃ W, W = w.alloc (x.obj V A.length B.length) := ⟨_, rfl⟩
  have hb1 : Below w.heap.size w w1 := by rw [hw1]; exact (Below.refl _ _).alloc (Nat.le_refl _) _
  have hs1 : w1.heap.size = w.heap.size + 1 := by rw [hw1]; simp
  have hx1 := hx.later hb1
  obtain ⟨c0, c1, c2⟩ := rsbox w x V A.length B.length
  rw [← hw1] at c0 c1 c2
  have hold := refoldest_any w1 x V A B hx1 hA k
  unfold Rs.v at hold ⊢
  unfold Rs.obj at hw1
  have HW := Lib.hid hw1.symm
  have HX := Lib.hid hx1.b
  have HB := Lib.hid hb1
  have HS := Lib.hid hs1
  have hB2 : (B.length : Int) ≤ 64 := by omega
  have HO : Hid (leastF k V A B = snapsF (min (oldF k A) V) B) := rfl
  clear hx hb1 hx1 hw1 hA hB hs1
  generalize oldF k A = o at *
  generalize leastF k V A B = L at *
  generalize hn : B.length = n at *
  have HN := Lib.hid hn
  clear hn
  go_enter Tryd.func56, Tryd.ntmps56
  go_wp2_with (first | rw [HW.out] | fail)
  refine hold.mono ?_
  rintro e w2 ⟨rfl, hb2⟩
  have kk : ∀ j, w2.cell? ⟨w.heap.size, j, none⟩ = w1.cell? ⟨w.heap.size, j, none⟩ := fun j => hb2.cell (p := ⟨w.heap.size, j, none⟩) (by have := HS.out; simp only; omega)
  have d0 := (kk 0).trans c0
  have d2 := (kk 2).trans c2
  have HX2 : Hid (RowS Q w2 x.pa B) := HX.out.keep (fun _ h _ => h) hb2.size fun g _ h2 => hb2.block g h2
  have HB2 : Hid (Below w.heap.size w w2) := HB.out.trans (hb2.mono (by have := HS.out; omega))
  clear hold hb2 kk c0 c1 c2 HX HB HW HS
  have main : ∀ o2 : Int, o2 = min o V → Hid (snapsF o2 (B.drop 0) = L) := fun o2 e => by rw [e]; exact HO.out.symm
  by_cases hVo : V < o
  · have HH := main V (by omega)
    clear main HO
    go_wp2_with fail
    go_loopw [5, 6] (fun nv iv wr => ∃ (i : Nat) (n2 : Int), iv = .int .i64 (i : Int) ∧ i ≤ n ∧ nv = .int .i64 n2 ∧ wr = w2 ∧ Hid (snapsF n2 (B.drop i) = L)) (fun nv iv _ => n - (intOf iv).toNat)
    case atStart => exact ⟨0, _, rfl, Nat.zero_le _, rfl, rfl, HH⟩
    case round =>
      obtain ⟨i, n2, rfl, hi, rfl, rfl, hR⟩ := hrel
      clear HH
      by_cases hlt : i < n
      · have i1 : (i : Int) < (n : Int) := by omega
        obtain ⟨a, ha, hd⟩ := drop_atB (l := B) (i := i) (by rw [HN.out]; exact hlt)
        obtain ⟨g, eg, k0, k1⟩ := HX2.out.see ha
        have hr := hR.out
        rw [hd, snapsF_cons] at hr
        have hat := at_42 g n x.pc i hlt
        obtain ⟨a1, a⟩ := a
        simp only at hr k0 k1
        clear ha hd hR
        rw [eg] at d2
        by_cases h0 : a < 0
        · rw [if_pos h0] at hr
          have HR := Lib.hid hr
          clear hr
          go_wp2_with fail
          go_roundw
          case rel => first | exact ⟨i + 1, n2, by simp, by omega, rfl, rfl, HR⟩ | exact ⟨i + 1, n2, by simp, by omega, rfl, trivial, HR⟩ | exact ⟨i + 1, by simp, by omega, HR⟩
          case measure => simp [intOf]; omega
        · rw [if_neg h0] at hr
          have h1 : 0 ≤ a := by omega
          by_cases h2 : a < n2
          · rw [show min n2 a = a by omega] at hr
            have HR := Lib.hid hr
            clear hr h0
            go_wp2_with fail
            go_roundw
            case rel => first | exact ⟨i + 1, a, by simp, by omega, rfl, rfl, HR⟩ | exact ⟨i + 1, a, by simp, by omega, rfl, trivial, HR⟩ | exact ⟨i + 1, by simp, by omega, HR⟩
            case measure => simp [intOf]; omega
          · rw [show min n2 a = n2 by omega] at hr
            have HR := Lib.hid hr
            clear hr h0
            go_wp2_with fail
            go_roundw
            case rel => first | exact ⟨i + 1, n2, by simp, by omega, rfl, rfl, HR⟩ | exact ⟨i + 1, n2, by simp, by omega, rfl, trivial, HR⟩ | exact ⟨i + 1, by simp, by omega, HR⟩
            case measure => simp [intOf]; omega
      · obtain rfl : i = n := by omega
        have hr := hR.out
        rw [List.drop_eq_nil_of_le (by rw [HN.out]; exact Nat.le_refl _)] at hr
        replace hr : n2 = L := hr
        subst hr
        clear hR
        go_wp2
        go_ret
        exact ⟨rfl, HB2.out⟩
  · have HH := main o (by omega)
    clear main HO
    go_wp2_with fail
    go_loopw [5, 6] (fun nv iv wr => ∃ (i : Nat) (n2 : Int), iv = .int .i64 (i : Int) ∧ i ≤ n ∧ nv = .int .i64 n2 ∧ wr = w2 ∧ Hid (snapsF n2 (B.drop i) = L)) (fun nv iv _ => n - (intOf iv).toNat)
    case atStart => exact ⟨0, _, rfl, Nat.zero_le _, rfl, rfl, HH⟩
    case round =>
      obtain ⟨i, n2, rfl, hi, rfl, rfl, hR⟩ := hrel
      clear HH
      by_cases hlt : i < n
      · have i1 : (i : Int) < (n : Int) := by omega
        obtain ⟨a, ha, hd⟩ := drop_atB (l := B) (i := i) (by rw [HN.out]; exact hlt)
        obtain ⟨g, eg, k0, k1⟩ := HX2.out.see ha
        have hr := hR.out
        rw [hd, snapsF_cons] at hr
        have hat := at_42 g n x.pc i hlt
        obtain ⟨a1, a⟩ := a
        simp only at hr k0 k1
        clear ha hd hR
        rw [eg] at d2
        by_cases h0 : a < 0
        · rw [if_pos h0] at hr
          have HR := Lib.hid hr
          clear hr
          go_wp2_with fail
          go_roundw
          case rel => first | exact ⟨i + 1, n2, by simp, by omega, rfl, rfl, HR⟩ | exact ⟨i + 1, n2, by simp, by omega, rfl, trivial, HR⟩ | exact ⟨i + 1, by simp, by omega, HR⟩
          case measure => simp [intOf]; omega
        · rw [if_neg h0] at hr
          have h1 : 0 ≤ a := by omega
          by_cases h2 : a < n2
          · rw [show min n2 a = a by omega] at hr
            have HR := Lib.hid hr
            clear hr h0
            go_wp2_with fail
            go_roundw
            case rel => first | exact ⟨i + 1, a, by simp, by omega, rfl, rfl, HR⟩ | exact ⟨i + 1, a, by simp, by omega, rfl, trivial, HR⟩ | exact ⟨i + 1, by simp, by omega, HR⟩
            case measure => simp [intOf]; omega
          · rw [show min n2 a = n2 by omega] at hr
            have HR := Lib.hid hr
            clear hr h0
            go_wp2_with fail
            go_roundw
            case rel => first | exact ⟨i + 1, n2, by simp, by omega, rfl, rfl, HR⟩ | exact ⟨i + 1, n2, by simp, by omega, rfl, trivial, HR⟩ | exact ⟨i + 1, by simp, by omega, HR⟩
            case measure => simp [intOf]; omega
      · obtain rfl : i = n := by omega
        have hr := hR.out
        rw [List.drop_eq_nil_of_le (by rw [HN.out]; exact Nat.le_refl _)] at hr
        replace hr : n2 = L := hr
        subst hr
        clear hR
        go_wp2
        go_ret
        exact ⟨rfl, HB2.out⟩
/-- Find's answer. -/
def findN (B : List (Int × Int)) (id : Int) : Int := match findI B id with
  | some (k, _) => (k : Int)
  | none => -1
set_option maxHeartbeats 1000000 in
theorem reffind_any (w : World) {Q : Nat → Prop} (x : Rs) (V : Int) (A : List Int) (B : List (Int × Int)) (hx : RIs Q w x A B) (hB : B.length ≤ 64) (id : Int) (hid : id < 9223372036854775808) :
    Calls Tryd.prog 54 #[x.v V A.length B.length, .int .i64 id] w fun e w' => e = .returned (.int .i64 (findN B id)) ∧ Below w.heap.size w w' := by
  obtain ⟨w1, hw1⟩ : ∃ W, W = w.alloc (x.obj V A.length B.length) := ⟨_, rfl⟩
  have hb1 : Below w.heap.size w w1 := by rw [hw1]; exact (Below.refl _ _).alloc (Nat.le_refl _) _
  have hx1 := hx.later hb1
  obtain ⟨c0, c1, c2⟩ := rsbox w x V A.length B.length
  rw [← hw1] at c0 c1 c2
  unfold Rs.v
  unfold Rs.obj at hw1
  have HW := Lib.hid hw1.symm
  have HB := Lib.hid hb1
  have hB2 : (B.length : Int) ≤ 64 := by omega
  have HX := Lib.hid hx1.b
  generalize hq : findN B id = q
  have HQ := Lib.hid hq
  clear hx hb1 hx1 hw1 hB hq
  generalize hn : B.length = n at *
  have HN := Lib.hid hn
  clear hn
  by_cases h0 : id < 0
  · have e : q = -1 := by
      rw [← HQ.out]
      unfold findN findI
      rw [if_neg (by omega)]
    subst e
    go_enter Tryd.func54, Tryd.ntmps54
    go_wp2_with (first | rw [HW.out] | fail)
    go_ret
    exact ⟨rfl, HB.out⟩
  · have i0 : 0 ≤ id := by omega
    by_cases h1 : id % 64 < (n : Int)
    · have hlt : (id % 64).toNat < B.length := by rw [HN.out]; omega
      obtain ⟨⟨gn, ve⟩, hb, hd⟩ := drop_atB (l := B) (i := (id % 64).toNat) hlt
      obtain ⟨g, eg, k0, k1⟩ := HX.out.see hb
      simp only at k0 k1
      have hat := at_42 g n x.pc (id % 64).toNat (by omega)
      rw [show (((id % 64).toNat : Nat) : Int) = id % 64 by omega] at hat
      have HF : Hid (findN B id = if 0 ≤ ve ∧ gn = id / 64 then id % 64 else -1) := by
        unfold Hid findN findI
        rw [if_pos ⟨i0, by rw [HN.out]; exact h1⟩, hb]
        simp only
        by_cases hh : 0 ≤ ve ∧ gn = id / 64
        · rw [if_pos hh, if_pos hh]; simp only; omega
        · rw [if_neg hh, if_neg hh]
      rw [eg] at c2
      clear hlt hb hd eg h0
      by_cases h2 : ve < 0
      · have e : q = -1 := by rw [← HQ.out, HF.out, if_neg (by omega)]
        subst e
        clear HF
        go_enter Tryd.func54, Tryd.ntmps54
        go_wp2_with (first | rw [HW.out] | fail)
        go_ret
        exact ⟨rfl, HB.out⟩
      · have h3 : 0 ≤ ve := by omega
        by_cases h4 : gn = id / 64
        · have e : q = id % 64 := by rw [← HQ.out, HF.out, if_pos ⟨h3, h4⟩]
          subst e
          have h5 : (gn != id / 64) = false := by simp [h4]
          clear h2 HF HQ h4
          go_enter Tryd.func54, Tryd.ntmps54
          go_wp2_with (first | rw [HW.out] | fail)
          go_ret
          exact ⟨rfl, HB.out⟩
        · have e : q = -1 := by rw [← HQ.out, HF.out, if_neg (by omega)]
          subst e
          have h5 : (gn != id / 64) = true := by simpa using h4
          clear h2 HF HQ h4
          go_enter Tryd.func54, Tryd.ntmps54
          go_wp2_with (first | rw [HW.out] | fail)
          go_ret
          exact ⟨rfl, HB.out⟩
    · have e : q = -1 := by
        rw [← HQ.out]
        unfold findN findI
        rw [if_neg (by rw [HN.out]; omega)]
      subst e
      clear h0
      go_enter Tryd.func54, Tryd.ntmps54
      go_wp2_with (first | rw [HW.out] | fail)
      go_ret
      exact ⟨rfl, HB.out⟩
end Go.Proofs.YtgjkkbgdkdipgaaDoor
