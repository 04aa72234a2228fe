/- MemReaps's law: at any stamps and any number it answers true. Conditions: the stamps stand in memory; the library's table stands. -/
import Derived.Test.YtnhpcakdnaoekaaDoorRowI
namespace Go.Proofs.YtnhpcakdnaoekaaDoor
open Go.RowKit Go.Op
set_option maxRecDepth 100000

/-- Cells by their places. -/
def cellsOf (f : Nat → Cl) (n : Nat) : List Cl := (List.range n).map f
theorem cellsOf_get {f : Nat → Cl} {n k : Nat} (h : k < n) : (cellsOf f n)[k]? = some (f k) := by simp [cellsOf, h]
theorem cellsOf_set (f : Nat → Cl) (n i : Nat) (y : Cl) : (cellsOf f n).set i y = cellsOf (fun k => if k = i then y else f k) n := by
  apply List.ext_getElem?
  intro k
  rw [List.getElem?_set]
  by_cases hk : k < n
  · rw [cellsOf_get hk]
    by_cases e : i = k
    · subst e
      simp [cellsOf, hk]
    · rw [if_neg e, cellsOf_get hk, if_neg (fun h : k = i => e h.symm)]
  · have h1 : (cellsOf f n)[k]? = none := List.getElem?_eq_none (by simp [cellsOf]; omega)
    have h2 : ∀ g, (cellsOf g n)[k]? = none := fun g => List.getElem?_eq_none (by simp [cellsOf]; omega)
    rw [h1, h2]
    by_cases e : i = k
    · rw [if_pos e, if_neg (by simp [cellsOf]; omega)]
    · rw [if_neg e]
theorem cellsOf_ext {f g : Nat → Cl} {n : Nat} (h : ∀ k, k < n → f k = g k) : cellsOf f n = cellsOf g n := by
  unfold cellsOf
  exact List.map_congr_left fun k hk => h k (by simpa using hk)
theorem least_is {m : M} {i : Nat} (hb : ∀ k x, k < i → m.cells[k]? = some x → x.can = false) {x : Cl} (hx : m.cells[i]? = some x) (hc : x.can = true) : m.least = i := by
  have hl : i < m.flags.length := by simpa [M.flags] using (List.getElem?_eq_some_iff.1 hx).1
  unfold M.least
  rw [List.findIdx_eq hl]
  refine ⟨?_, fun j hj => ?_⟩
  · have := (List.getElem?_eq_some_iff.1 (flags_at hx)).2
    rw [this]; exact hc
  · have hj2 : j < m.cells.length := by have : m.flags.length = m.cells.length := by simp [M.flags]
                                        omega
    have e1 := hb j m.cells[j] hj (List.getElem?_eq_getElem hj2)
    have := (List.getElem?_eq_some_iff.1 (flags_at (List.getElem?_eq_getElem hj2))).2
    rw [this]; exact e1
/-- What an unfreed cell's handle finds. -/
theorem at_word {m : M} {i : Nat} {x : Cl} (hx : m.cells[i]? = some x) (hb : x.held.busy = true) (hg : x.gen = 0) (hi : i < 65535) : m.at ((i : Int) + 1) = some (i, x) := by
  have hs : m.seek ((i : Int) + 1) = some i := by
    have hh : isH ((i : Int) + 1) = true := decide_eq_true (by omega)
    unfold M.seek
    rw [if_pos hh, show (((i : Int) + 1) % 65536 - 1).toNat = i by omega, hx]
    simp only
    rw [if_pos ⟨hb, by rw [hg]; omega⟩]
  exact at_some hs hx
theorem at_freed {m : M} {i : Nat} {x : Cl} (hx : m.cells[i]? = some x) (hb : x.held.busy = false) (hi : i < 65535) : m.at ((i : Int) + 1) = none := by
  have hs : m.seek ((i : Int) + 1) = none := by
    have hh : isH ((i : Int) + 1) = true := decide_eq_true (by omega)
    unfold M.seek
    rw [if_pos hh, show (((i : Int) + 1) % 65536 - 1).toNat = i by omega, hx]
    simp only
    rw [if_neg (fun h => by rw [hb] at h; exact absurd h.1 (by decide))]
  exact at_none hs

def held (T : List Int) (k : Nat) : Cl := ⟨.word k, 0, true, T.getD k 0⟩
/-- While i stamps are given, one cell each. -/
def F1 (T : List Int) (i k : Nat) : Cl := if k < i then held T k else ⟨.no, 0, false, 0⟩
/-- While the first i cells have been reaped, or not. -/
def F2 (T : List Int) (below : Int) (i k : Nat) : Cl := if k < i ∧ T.getD k 0 < below then ⟨.no, 1, false, 0⟩ else F1 T T.length k
def St1 (T : List Int) (i : Nat) (m : M) : Prop := m.cells = cellsOf (F1 T i) 41
def St2 (T : List Int) (below : Int) (i : Nat) (m : M) : Prop := m.cells = cellsOf (F2 T below i) 41
theorem new_cells (n : Nat) : (M.new n).cells = cellsOf (fun _ => ⟨.no, 0, false, 0⟩) n := by
  apply List.ext_getElem?
  intro k
  simp only [M.new, cellsOf, List.getElem?_replicate, List.getElem?_map]
  by_cases hk : k < n
  · rw [if_pos hk, List.getElem?_range hk]; rfl
  · rw [if_neg hk, List.getElem?_eq_none (by simpa using hk)]; rfl
theorem st1_start (T : List Int) : St1 T 0 (M.new 41) := by
  rw [St1, new_cells]
  exact cellsOf_ext fun k _ => by simp [F1]
theorem st1_end {T : List Int} {m : M} (h : St1 T T.length m) (below : Int) : St2 T below 0 m := by
  rw [St2, h]
  exact cellsOf_ext fun k _ => by simp [F2]
theorem st1_step {T : List Int} {i : Nat} {m : M} (h : St1 T i m) (hi : i < T.length) (hT : T.length ≤ 40) :
    (m.alloc (.word i)).2 = ((i : Int) + 1, 0) ∧ ((m.alloc (.word i)).1.retire ((i : Int) + 1) (T.getD i 0)).2 = 0 ∧ St1 T (i + 1) ((m.alloc (.word i)).1.retire ((i : Int) + 1) (T.getD i 0)).1 := by
  have hx : m.ask.cells[i]? = some ⟨.no, 0, false, 0⟩ := by
    rw [show m.ask.cells = cellsOf (F1 T i) 41 from h, cellsOf_get (by omega)]
    simp [F1]
  have hl : m.ask.least = i := by
    refine least_is (fun k x hk hkx => ?_) hx rfl
    rw [show m.ask.cells = cellsOf (F1 T i) 41 from h, cellsOf_get (by omega)] at hkx
    cases hkx
    simp [F1, hk, held, Cl.can, Held.busy]
  have e1 : m.alloc (.word i) = (⟨m.cells.set i ⟨.word i, 0, false, 0⟩, m.count + 1, m.live + 1, m.stale⟩, (i : Int) + 1, 0) := by
    unfold M.alloc M.take
    rw [hl, hx]
    have : hand (i : Int) 0 = (i : Int) + 1 := by unfold hand; rw [if_pos (by omega)]; omega
    simp only [this, M.ask]
  rw [e1]
  have hx2 : (⟨m.cells.set i ⟨.word i, 0, false, 0⟩, m.count + 1, m.live + 1, m.stale⟩ : M).cells[i]? = some ⟨.word i, 0, false, 0⟩ := by
    show (m.cells.set i _)[i]? = _
    rw [List.getElem?_set_self (by rw [show m.cells = _ from h]; simp [cellsOf]; omega)]
  refine ⟨rfl, ?_⟩
  unfold M.retire
  rw [at_word hx2 rfl rfl (by omega)]
  refine ⟨rfl, ?_⟩
  show (m.cells.set i _).set i _ = _
  rw [List.set_set, show m.cells = _ from h, cellsOf_set]
  refine cellsOf_ext fun k hk => ?_
  by_cases e : k = i
  · subst e
    simp [F1, held, Cl.retired]
  · rw [if_neg e]
    unfold F1
    by_cases e2 : k < i
    · rw [if_pos e2, if_pos (by omega)]
    · rw [if_neg e2, if_neg (by omega)]
theorem st2_word {T : List Int} {below : Int} {i : Nat} {m : M} (h : St2 T below i m) (hi : i < T.length) (hT : T.length ≤ 40) : (m.word ((i : Int) + 1)).2 = ((i : Int), 0) ∧ St2 T below i (m.word ((i : Int) + 1)).1 := by
  have hx : m.cells[i]? = some (held T i) := by
    rw [show m.cells = _ from h, cellsOf_get (by omega)]
    simp [F2, F1, hi]
  unfold M.word
  rw [at_word hx rfl rfl (by omega)]
  exact ⟨rfl, h⟩
theorem st2_reap {T : List Int} {below : Int} {i : Nat} {m : M} (h : St2 T below i m) (hi : i < T.length) (hT : T.length ≤ 40) :
    (m.reap i below).2 = (decide (T.getD i 0 < below), 0) ∧ St2 T below (i + 1) (m.reap i below).1 := by
  have hx : m.cells[i]? = some (held T i) := by
    rw [show m.cells = _ from h, cellsOf_get (by omega)]
    simp [F2, F1, hi]
  have hl : m.cells.length = 41 := by rw [show m.cells = _ from h]; simp [cellsOf]
  unfold M.reap
  rw [if_neg (by omega), show (i : Int).toNat = i by simp, hx]
  simp only
  by_cases hr : T.getD i 0 < below
  · rw [if_pos ⟨rfl, hr⟩, decide_eq_true hr]
    refine ⟨rfl, ?_⟩
    show m.cells.set i _ = _
    rw [show m.cells = _ from h, cellsOf_set]
    refine cellsOf_ext fun k hk => ?_
    by_cases e : k = i
    · subst e
      rw [if_pos rfl]
      unfold F2
      rw [if_pos ⟨by omega, hr⟩]; rfl
    · rw [if_neg e]
      unfold F2
      by_cases e2 : k < i ∧ T.getD k 0 < below
      · rw [if_pos e2, if_pos ⟨by omega, e2.2⟩]
      · rw [if_neg e2, if_neg (fun h => e2 ⟨by omega, h.2⟩)]
  · rw [if_neg (fun h => hr h.2), decide_eq_false hr]
    refine ⟨rfl, ?_⟩
    show m.cells = _
    rw [show m.cells = _ from h]
    refine cellsOf_ext fun k hk => ?_
    unfold F2
    by_cases e2 : k < i ∧ T.getD k 0 < below
    · rw [if_pos e2, if_pos ⟨by omega, e2.2⟩]
    · rw [if_neg e2, if_neg (fun h => e2 ⟨by
        have : k ≠ i := fun e => hr (by rw [← e]; exact h.2)
        omega, h.2⟩)]
theorem st2_after {T : List Int} {below : Int} {i : Nat} {m : M} (h : St2 T below (i + 1) m) (hi : i < T.length) (hT : T.length ≤ 40) :
    (m.word ((i : Int) + 1)).2.2 = (if T.getD i 0 < below then 5 else 0) ∧ St2 T below (i + 1) (m.word ((i : Int) + 1)).1 := by
  by_cases hr : T.getD i 0 < below
  · have hx : m.cells[i]? = some ⟨.no, 1, false, 0⟩ := by
      rw [show m.cells = _ from h, cellsOf_get (by omega)]
      unfold F2
      rw [if_pos ⟨by omega, hr⟩]
    unfold M.word
    rw [at_freed hx rfl (by omega), if_pos hr]
    exact ⟨rfl, h⟩
  · have hx : m.cells[i]? = some (held T i) := by
      rw [show m.cells = _ from h, cellsOf_get (by omega)]
      unfold F2
      rw [if_neg (fun h => hr h.2)]
      simp [F1, hi]
    unfold M.word
    rw [at_word hx rfl rfl (by omega), if_neg hr]
    exact ⟨rfl, h⟩
theorem st2_last {T : List Int} {below : Int} {i : Nat} {m : M} (h : St2 T below i m) (hT : T.length ≤ 40) : (m.reap 40 below).2 = (false, 0) := by
  have hx : m.cells[40]? = some (F2 T below i 40) := by rw [show m.cells = _ from h, cellsOf_get (by omega)]
  have hl : m.cells.length = 41 := by rw [show m.cells = _ from h]; simp [cellsOf]
  have hr : (F2 T below i 40).ret = false := by
    unfold F2
    split
    · rfl
    · simp [F1, show ¬ 40 < T.length by omega]
  unfold M.reap
  rw [if_neg (by omega), show (40 : Int).toNat = 40 by decide, hx]
  simp only [hr]
  rfl
/-- The handles that are told. -/
def hs (i : Nat) : List Int := (List.range i).map fun k : Nat => (k : Int) + 1
theorem hs_succ (i : Nat) : hs (i + 1) = hs i ++ [(i : Int) + 1] := by simp [hs, List.range_succ]
theorem hs_len (i : Nat) : (hs i).length = i := by simp [hs]
theorem hs_get {i k : Nat} (h : k < i) : (hs i)[k]? = some ((k : Int) + 1) := by simp [hs, h]
theorem Nums.at {w0 w : World} {a : Option Addr} {l : List Int} (h : Nums w0 a l) (hb : Below w0.heap.size w0 w) {k : Nat} (hk : k < l.length) : ∃ b off, a = some ⟨b, off, none⟩ ∧ w.cell? ⟨b, off + k, none⟩ = some (.int .i64 (l.getD k 0)) := by
  rcases h.below hb with rfl | ⟨b, off, rfl, _, hc⟩
  · simp at hk
  · exact ⟨b, off, rfl, by rw [hc k hk]; simp [hk]⟩

set_option maxHeartbeats 4000000 in
theorem reaps_law (a : Option Addr) (T : List Int) (cap : Nat) (below : Int) (w : World) (hT : TabAt w) (hL : Nums w a T) :
    Calls Tryd.prog 6 #[.slice a T.length cap, .int .i64 below] w fun e w' => e = .returned (.bool true) ∧ Below w.heap.size w w' := by
  have haw := fun w2 h2 => awake_any w2 (hT.below (w' := w2) h2)
  have HT := Lib.hid hT
  have HL := Lib.hid hL
  clear hL hT
  by_cases hlen : T.length ≤ 40
  · have h1 : (T.length : Int) ≤ 40 := by omega
    go_enter Tryd.func6, Tryd.ntmps6
    go_wp2_with fail
    refine (haw _ (Below.refl _ _)).mono ?_
    rintro e w1 ⟨rfl, b1⟩
    have hn := has_new 41 (by decide) (by decide) b1
    clear haw
    go_wp2_with fail
    refine hn.mono ?_
    rintro e w2 ⟨b, c, r, rfl, hH⟩
    obtain ⟨B, hB, hw2, hsz⟩ : ∃ B, (b < B ∧ c < B ∧ r < B) ∧ w.heap.size ≤ B ∧ B = w2.heap.size := ⟨_, ⟨hH.at_.own.lb, hH.at_.own.lc, hH.at_.own.lr⟩, hH.below.size, rfl⟩
    have HH : Hid (Has w b c r 0 w2 (M.new 41) ∧ St1 T 0 (M.new 41) ∧ OwnI w2 B (.slice none 0 0) (hs 0) ∧ B ≤ w2.heap.size) := ⟨hH, st1_start T, OwnI.nil _ _, by omega⟩
    have HBB := Lib.hid hB
    clear hH hn b1 hsz
    go_wp2_with fail
    go_loopw [7, 8] (fun lv iv wr => ∃ (i : Nat) (m : M) (la : Option Addr) (lc : Nat), i ≤ T.length ∧ lv = .slice la i lc ∧ iv = .int .i64 (i : Int) ∧ Hid (Has w b c r (2 * i) wr m ∧ St1 T i m ∧ OwnI wr B (.slice la i lc) (hs i) ∧ B ≤ wr.heap.size)) (fun _ iv _ => T.length - (intOf iv).toNat)
    case atStart => exact ⟨0, _, none, 0, by omega, rfl, rfl, HH.out⟩
    case round =>
      obtain ⟨i, m, la, lc, hi, rfl, rfl, hR⟩ := hrel
      clear HH
      obtain ⟨wo, hwo⟩ : ∃ wo, wo = wr := ⟨_, rfl⟩
      subst hwo
      by_cases hlt : i < T.length
      · have i1 : (i : Int) < (T.length : Int) := by omega
        obtain ⟨pb, off, ea, k0⟩ := HL.out.at hR.out.1.below hlt
        have hpb : Hid (∀ W, Below w.heap.size w W → W.cell? ⟨pb, off + i, none⟩ = some (.int .i64 (T.getD i 0))) := fun W hW => by
          obtain ⟨pb', off', ea', k0'⟩ := HL.out.at hW hlt
          rw [ea] at ea'
          cases ea'
          exact k0'
        subst ea
        obtain ⟨e1, e2, e3⟩ := st1_step hR.out.2.1 hlt hlen
        generalize T.getD i 0 = s at *
        have hc1 := hR.out.1.allocword HT.out (by omega) i
        rw [e1] at hc1
        simp only at hc1
        clear k0
        go_wp2_with fail
        refine hc1.mono ?_
        rintro e w5 ⟨rfl, h5, hk5⟩
        have hc2 := h5.retire (by omega) ((i : Int) + 1) s
        rw [e2] at hc2
        have k1 := hpb.out _ h5.below
        have HK5 := Lib.hid hk5
        have E3 := Lib.hid e3
        clear hc1 e1 e2 e3 h5 hk5
        go_wp2_with fail
        refine hc2.mono ?_
        rintro e w6 ⟨rfl, h6, hk6⟩
        have HO6 := Lib.hid ((hR.out.2.2.1.kept HK5.out HBB.out).kept hk6 HBB.out)
        have HS6 : Hid (B ≤ w6.heap.size) := Nat.le_trans hR.out.2.2.2 (Nat.le_trans HK5.out.size hk6.size)
        have H6 := Lib.hid h6
        clear hc2 k1 h6 hk6 hR
        go_wp2_with (at_builtin; refine append1 rfl (.tmp 62) (.tmp 64) rfl B (.slice la i lc) (hs i) ((i : Int) + 1) rfl (HO6.out.below ((Below.refl _ _).alloc (Nat.le_refl _) _)) w6.heap.size 1 rfl (alloc_cell _ _ _ 0 _ rfl) (by rw [hs_len]; omega) (by have := HS6.out; simp; omega) ?_; intro v' w7 hown hgrow _; have H7 := Lib.hid (⟨hown, hgrow⟩ : _ ∧ _); clear hown hgrow)
        have hA := (Below.refl w6.heap.size w6).alloc (Nat.le_refl _) (Obj.cells #[Value.int IntKind.i64 ((i : Int) + 1)] 3)
        have hB7 := (hA.mono HS6.out).trans (grown_below (HO6.out.below hA) H7.out.2 (by have := HS6.out; simp; omega))
        obtain ⟨la', lc', ev, _⟩ := H7.out.1.see
        rw [List.length_append, hs_len] at ev
        have HR7 : Hid (Has w b c r (2 * ((i + 1 : Nat) : Int)) w7 ((m.alloc (Held.word i)).1.retire ((i : Int) + 1) s).1 ∧ St1 T (i + 1) ((m.alloc (Held.word i)).1.retire ((i : Int) + 1) s).1 ∧ OwnI w7 B v' (hs (i + 1)) ∧ B ≤ w7.heap.size) :=
          ⟨(H6.out.keep hB7 HBB.out hw2).less (by omega), E3.out, by rw [hs_succ]; exact H7.out.1, Nat.le_trans HS6.out hB7.size⟩
        rw [ev] at HR7
        have EV := Lib.hid ev
        clear hA hB7 ev H6 E3 H7
        go_wp2_with fail
        rw [EV.out]
        go_roundw
        case rel => exact ⟨i + 1, _, la', lc', by omega, rfl, by go_num, HR7.out⟩
        case measure => simp [intOf]; omega
      · have i1 : ¬ (i : Int) < (T.length : Int) := by omega
        obtain rfl : i = T.length := by omega
        have HR : Hid (Has w b c r (2 * T.length) wo m ∧ St2 T below 0 m ∧ OwnI wo B (.slice la T.length lc) (hs T.length)) := ⟨hR.out.1, st1_end hR.out.2.1 below, hR.out.2.2.1⟩
        clear hR
        go_wp2_with fail
        go_loopw [11] (fun iv wr => ∃ (i : Nat) (m : M), i ≤ T.length ∧ iv = .int .i64 (i : Int) ∧ Hid (Has w b c r (2 * T.length + 3 * i) wr m ∧ St2 T below i m ∧ OwnI wr B (.slice la T.length lc) (hs T.length))) (fun iv _ => T.length - (intOf iv).toNat)
        case atStart => exact ⟨0, m, by omega, rfl, HR.out.1.less (by omega), HR.out.2⟩
        case round =>
          obtain ⟨i, m, hi, rfl, hR⟩ := hrel
          clear HR
          obtain ⟨wp, hwp⟩ : ∃ wp, wp = wr := ⟨_, rfl⟩
          subst hwp
          by_cases hlt : i < T.length
          · have i1 : (i : Int) < (T.length : Int) := by omega
            obtain ⟨pb, off, ea, k0⟩ := HL.out.at hR.out.1.below hlt
            have hpb : Hid (∀ W, Below w.heap.size w W → W.cell? ⟨pb, off + i, none⟩ = some (.int .i64 (T.getD i 0))) := fun W hW => by
              obtain ⟨pb', off', ea', k0'⟩ := HL.out.at hW hlt
              rw [ea] at ea'
              cases ea'
              exact k0'
            subst ea
            obtain ⟨la2, lc2, ev, hsee⟩ := hR.out.2.2.see
            rw [hs_len] at ev
            cases ev
            obtain ⟨g, eg, q0⟩ := hsee i (by rw [hs_len]; exact hlt)
            have e0 : (hs T.length)[i]'(by rw [hs_len]; exact hlt) = (i : Int) + 1 := (List.getElem?_eq_some_iff.1 (hs_get hlt)).2
            rw [e0] at q0
            have hq : Hid (∀ W, OwnI W B (.slice la T.length lc) (hs T.length) → W.cell? ⟨g, i, none⟩ = some (.int .i64 ((i : Int) + 1))) := fun W hW => by
              obtain ⟨la3, lc3, ev3, hsee3⟩ := hW.see
              rw [hs_len] at ev3
              cases ev3
              obtain ⟨g', eg', q'⟩ := hsee3 i (by rw [hs_len]; exact hlt)
              rw [eg] at eg'
              cases eg'
              rw [e0] at q'
              exact q'
            subst eg
            clear hsee e0 k0
            obtain ⟨e1, e2⟩ := st2_word hR.out.2.1 hlt hlen
            have hc1 := hR.out.1.word (by omega) ((i : Int) + 1)
            rw [e1] at hc1
            simp only at hc1
            have E2 := Lib.hid e2
            clear e1 e2
            go_wp2_with fail
            refine hc1.mono ?_
            rintro e w5 ⟨rfl, h5, hk5⟩
            have HO5 := Lib.hid (hR.out.2.2.kept hk5 HBB.out)
            obtain ⟨e3, e4⟩ := st2_reap E2.out hlt hlen
            obtain ⟨e5, e6⟩ := st2_after e4 hlt hlen
            have hc2 := h5.reap (by omega) (i : Int) below
            rw [e3] at hc2
            simp only at hc2
            have E6 := Lib.hid e6
            generalize T.getD i 0 = s at *
            clear hc1 hR hk5 e3 e4 h5 q0 E2
            by_cases hsb : s < below
            · rw [decide_eq_true hsb] at hc2
              rw [if_pos hsb] at e5
              have hd : decide (s < below) = true := decide_eq_true hsb
              clear hsb
              go_wp2_with fail
              refine hc2.mono ?_
              rintro e w6 ⟨rfl, h6, hk6⟩
              have HO6 := Lib.hid (HO5.out.kept hk6 HBB.out)
              have q6 := hq.out _ HO6.out
              have hc3 := h6.word (by omega) ((i : Int) + 1)
              rw [e5] at hc3
              clear hc2 HO5 h6 hk6 e5 e6
              go_wp2_with fail
              refine hc3.mono ?_
              rintro e w7 ⟨rfl, h7, hk7⟩
              have HO7 := Lib.hid (HO6.out.kept hk7 HBB.out)
              have k7 := hpb.out _ h7.below
              have H7 := Lib.hid h7
              clear hc3 HO6 q6 h7 hk7
              go_wp2_with fail
              go_roundw
              case rel => exact ⟨i + 1, _, by omega, by go_num, H7.out.less (by omega), E6.out, HO7.out⟩
              case measure => simp [intOf]; omega
            · rw [decide_eq_false hsb] at hc2
              rw [if_neg hsb] at e5
              have hd : decide (s < below) = false := decide_eq_false hsb
              clear hsb
              go_wp2_with fail
              refine hc2.mono ?_
              rintro e w6 ⟨rfl, h6, hk6⟩
              have HO6 := Lib.hid (HO5.out.kept hk6 HBB.out)
              have q6 := hq.out _ HO6.out
              have hc3 := h6.word (by omega) ((i : Int) + 1)
              rw [e5] at hc3
              clear hc2 HO5 h6 hk6 e5 e6
              go_wp2_with fail
              refine hc3.mono ?_
              rintro e w7 ⟨rfl, h7, hk7⟩
              have HO7 := Lib.hid (HO6.out.kept hk7 HBB.out)
              have k7 := hpb.out _ h7.below
              have H7 := Lib.hid h7
              clear hc3 HO6 q6 h7 hk7
              go_wp2_with fail
              go_roundw
              case rel => exact ⟨i + 1, _, by omega, by go_num, H7.out.less (by omega), E6.out, HO7.out⟩
              case measure => simp [intOf]; omega
          · have i1 : ¬ (i : Int) < (T.length : Int) := by omega
            have e1 := st2_last hR.out.2.1 hlen
            have hc1 := hR.out.1.reap (by omega) 40 below
            rw [e1] at hc1
            simp only at hc1
            clear hR e1
            go_wp2_with fail
            refine hc1.mono ?_
            rintro e w5 ⟨rfl, h5, _⟩
            have HB := Lib.hid h5.below
            clear h5 hc1
            go_wp2
            go_ret
            exact ⟨rfl, HB.out⟩
  · have h1 : ¬ (T.length : Int) ≤ 40 := by omega
    go_enter Tryd.func6, Tryd.ntmps6
    go_wp2_with fail
    refine (haw _ (Below.refl _ _)).mono ?_
    rintro e w1 ⟨rfl, b1⟩
    have haw2 := haw _ b1
    have hsz := b1.size
    have HB := Lib.hid b1
    clear b1 haw
    go_wp2_with fail
    refine haw2.mono ?_
    rintro e w2 ⟨rfl, b2⟩
    have HE := Lib.hid (HB.out.trans (b2.mono hsz))
    clear b2
    go_wp2
    go_ret
    exact ⟨rfl, HE.out⟩
theorem reapsLaw (ad : Option Addr) (l : List Int) (cap : Nat) {w : World} (hL : Nums w ad l) (b : Int) (_hb : (Lit.int .i64 b).wf = true) (_W : World) (hT : TabAt w) : Calls Tryd.prog 6 #[.slice ad l.length cap, .int .i64 b] w fun e w' => e = .returned (.bool true) ∧ Below w.heap.size w w' :=
  reaps_law ad l cap b w hT hL
end Go.Proofs.YtnhpcakdnaoekaaDoor
