/- What tower.spans, leads and Right answer of any row of views in memory. Condition: at most 200000 views. -/
import Derived.Test.YtibimnibmengpaaDoorTh
namespace Go.Proofs.YtibimnibmengpaaDoor
open Go.RowKit Go.Op
set_option maxRecDepth 100000

def spansB (v : Vw) (last : Bool) : Bool := !v.rv.dead && (!(⟨v.rv.lo, v.rv.hi, v.rv.all⟩ : Kp).empty && (v.rv.lo.toList == v.nd.low.toList && v.rv.all == last))
set_option maxHeartbeats 2000000 in
theorem spans_any (v : Vw) (q : Vs) (last : Bool) (w : World) : Calls Tryd.prog 45 #[v.v q, .bool last] w fun e w' => e = .returned (.bool (spansB v last)) ∧ Below w.heap.size w w' := by
  obtain ⟨wa, hwa⟩ : ∃ W, W = w.alloc (.cells (v.row q).toArray 54) := ⟨_, rfl⟩
  have sv : SVar wa w.heap.size (v.row q) := by rw [hwa]; exact snew _ _ _
  have hba : Below w.heap.size w wa := by rw [hwa]; exact (Below.refl _ _).alloc (Nat.le_refl _) _
  have hsz : wa.heap.size = w.heap.size + 1 := by rw [hwa]; simp
  have hbb : Below wa.heap.size wa (wa.alloc (.cells #[.string v.rv.lo, .string v.rv.hi, .bool v.rv.all] 49)) := (Below.refl _ _).alloc (Nat.le_refl _) _
  have sb := sv.later hbb
  have hem := empty_any ⟨v.rv.lo, v.rv.hi, v.rv.all⟩ (wa.alloc (.cells #[.string v.rv.lo, .string v.rv.hi, .bool v.rv.all] 49))
  have HB := Lib.hid (⟨hba, hbb, hsz⟩ : _ ∧ _ ∧ _)
  have HW := Lib.hid hwa.symm
  have s1 : SVar (wa.alloc (.cells #[.string v.rv.lo, .string v.rv.hi, .bool v.rv.all] 49)) wa.heap.size [.string v.rv.lo, .string v.rv.hi, .bool v.rv.all] := snew _ _ _
  have c11 := sb.cell (i := 11) rfl
  have c8 := sv.cell (i := 8) rfl
  have c9 := sv.cell (i := 9) rfl
  have c10 := sv.cell (i := 10) rfl
  have c1 := sb.cell (i := 1) rfl
  have HS := Lib.hid (⟨sb, s1⟩ : _ ∧ _)
  unfold Vw.v
  simp only [Vw.row] at HW c11 c8 c9 c10 c1
  clear hwa sv hba hsz hbb sb s1
  have hfin : ∀ W, Below (wa.alloc (.cells #[.string v.rv.lo, .string v.rv.hi, .bool v.rv.all] 49)).heap.size (wa.alloc (.cells #[.string v.rv.lo, .string v.rv.hi, .bool v.rv.all] 49)) W → Below w.heap.size w W := fun W hW => by
    obtain ⟨h1, h2, h3⟩ := HB.out
    exact (h1.trans (h2.mono (by omega))).trans (hW.mono (by have := h2.size; omega))
  have HF := Lib.hid hfin
  clear hfin
  cases hd : v.rv.dead with
  | true =>
    have e : spansB v last = false := by simp [spansB, hd]
    rw [e]
    rw [hd] at c11
    clear e hem
    simp only [hd] at HW
    go_enter Tryd.func45, Tryd.ntmps45
    go_wp2_with (first | rw [HW.out] | fail)
    go_ret
    exact ⟨rfl, HF.out _ (Below.refl _ _)⟩
  | false =>
    rw [hd] at c11
    cases he : (⟨v.rv.lo, v.rv.hi, v.rv.all⟩ : Kp).empty with
    | true =>
      have e : spansB v last = false := by simp [spansB, he]
      rw [he] at hem
      rw [e]
      clear e c1
      simp only [hd] at HW
      go_enter Tryd.func45, Tryd.ntmps45
      go_wp2_with (first | rw [HW.out] | fail)
      refine hem.mono ?_
      rintro e w2 ⟨rfl, hb⟩
      have HB2 := Lib.hid (HF.out _ hb)
      clear hb hem HF
      go_wp2
      go_ret
      exact ⟨rfl, HB2.out⟩
    | false =>
      have e : spansB v last = (v.rv.lo.toList == v.nd.low.toList && v.rv.all == last) := by simp [spansB, hd, he]
      rw [he] at hem
      rw [e]
      have HS2 := Lib.hid (fun W (hW : Below (wa.alloc (.cells #[.string v.rv.lo, .string v.rv.hi, .bool v.rv.all] 49)).heap.size (wa.alloc (.cells #[.string v.rv.lo, .string v.rv.hi, .bool v.rv.all] 49)) W) => (⟨HS.out.1.later hW, HS.out.2.later hW⟩ : _ ∧ _))
      clear e HS c1
      simp only [hd] at HW
      go_enter Tryd.func45, Tryd.ntmps45
      go_wp2_with (first | rw [HW.out] | fail)
      refine hem.mono ?_
      rintro e w2 ⟨rfl, hb⟩
      have HB2 := Lib.hid (HF.out _ hb)
      have d0 := (HS2.out _ hb).2.cell (i := 0) rfl
      have d2 := (HS2.out _ hb).2.cell (i := 2) rfl
      have d1 := (HS2.out _ hb).1.cell (i := 1) rfl
      clear hb hem HF HS2 c8 c9 c10 c11
      cases hq : (v.rv.lo.toList == v.nd.low.toList) with
      | false =>
        go_wp2
        go_ret
        exact ⟨by rw [hq]; rfl, HB2.out⟩
      | true =>
        cases last
        all_goals
          go_wp2
          go_ret
          exact ⟨by rw [hq]; cases v.rv.all <;> rfl, HB2.out⟩
/-- A call that answers whether something holds. -/
def IsB (e : Ending) (P : Prop) : Prop := ∃ r : Bool, e = .returned (.bool r) ∧ (r = true ↔ P)
theorem isB {P : Prop} {v : Value} (r : Bool) (hv : v = .bool r) (h : r = true ↔ P) : IsB (.returned v) P := ⟨r, by rw [hv], h⟩
def leadsP (l : List (Vw × Vs)) (i : Nat) : Prop := ∃ x0 x, l[0]? = some x0 ∧ l[i]? = some x ∧ x.1.links ≠ [] ∧ x.1.links.length ≤ x0.1.links.length ∧ ∀ (k : Nat) (y : Int), x.1.links[k]? = some y → tto y = toV l (i : Int) (k : Int)
set_option maxHeartbeats 2000000 in
theorem leads_any (w : World) (a : Option Addr) (cap : Nat) (l : List (Vw × Vs)) (h : VRow w a l) (hcap : l.length ≤ cap) (i : Nat) (hi : i < l.length) :
    Calls Tryd.prog 46 #[.slice a l.length cap, .int .i64 (i : Int)] w fun e w' => IsB e (leadsP l i) ∧ Below w.heap.size w w' := by
  obtain ⟨x, hx⟩ : ∃ x, l[i]? = some x := ⟨_, List.getElem?_eq_getElem hi⟩
  obtain ⟨x0, hx0⟩ : ∃ x0, l[0]? = some x0 := ⟨_, List.getElem?_eq_getElem (by omega)⟩
  obtain ⟨g, o, ea, hg, hr⟩ := h.at_ hx
  obtain ⟨g', o', ea', -, hr0⟩ := h.at_ hx0
  rw [ea] at ea'
  cases ea'
  subst ea
  have hlk := h.lk x (List.mem_of_getElem? hx)
  have hlk0 := h.lk x0 (List.mem_of_getElem? hx0)
  obtain ⟨L, hL⟩ : ∃ L, L = x.1.links := ⟨_, rfl⟩
  have hp : leadsP l i ↔ L ≠ [] ∧ L.length ≤ x0.1.links.length ∧ ∀ (k : Nat) (y : Int), L[k]? = some y → tto y = toV l (i : Int) (k : Int) := by
    constructor
    · rintro ⟨x0', x', e1, e2, h1, h2, h3⟩
      rw [hx0] at e1; rw [hx] at e2; cases e1; cases e2
      rw [hL]; exact ⟨h1, h2, h3⟩
    · rintro ⟨h1, h2, h3⟩
      rw [hL] at h1 h2 h3
      exact ⟨x0, x, hx0, hx, h1, h2, h3⟩
  have cL := hr 4 _ rfl
  have c0 := hr0 4 _ rfl
  rw [hlk.1] at cL
  rw [hlk0.1] at c0
  have few := h.few
  obtain ⟨n, hn⟩ : ∃ n, n = l.length := ⟨_, rfl⟩
  have hin : (i : Int) < (n : Int) := by omega
  have hn0 : (0 : Int) < (n : Int) := by omega
  have hsl := hlk.2.1
  have hLf := hlk.2.2
  have hL0f := hlk0.2.2
  rw [← hL] at cL hsl hLf
  obtain ⟨k0, hk0⟩ : ∃ k0, k0 = x0.1.links.length := ⟨_, rfl⟩
  obtain ⟨k, hk⟩ : ∃ k, k = L.length := ⟨_, rfl⟩
  have HV := Lib.hid h
  have HP := Lib.hid hp
  have HN := Lib.hid (⟨hn, hk, hcap, hk0⟩ : _ ∧ _ ∧ _ ∧ _)
  have HSl := Lib.hid hsl
  rw [Nat.zero_mul, Nat.add_zero] at c0
  rw [← hk] at cL hLf
  rw [← hk0] at c0 hL0f
  rw [← hn] at few ⊢
  clear h hcap hi hx hx0 hr hr0 hlk hlk0 hL hp hn hsl hk hk0
  go_enter Tryd.func46, Tryd.ntmps46
  by_cases hz : k = 0
  · subst hz
    have HE : Hid (¬ leadsP l i) := fun e => (HP.out.1 e).1 (List.length_eq_zero_iff.1 HN.out.2.1.symm)
    go_wp2
    go_ret
    exact ⟨isB false rfl ⟨fun e => (by cases e), fun e => absurd e HE.out⟩, Below.refl _ _⟩
  have hz1 : ((k : Int) == 0) = false := by rw [beq_eq_false_iff_ne]; omega
  by_cases hgt : k0 < k
  · have HE : Hid (¬ leadsP l i) := fun e => by
      have h1 := (HP.out.1 e).2.1
      have h2 := HN.out
      omega
    have hgt2 : (k0 : Int) < (k : Int) := by omega
    clear hz
    go_wp2
    go_ret
    exact ⟨isB false rfl ⟨fun e => (by cases e), fun e => absurd e HE.out⟩, Below.refl _ _⟩
  have hgt2 : ¬ (k0 : Int) < (k : Int) := by omega
  have hgt3 : decide (k0 < k) = false := decide_eq_false hgt
  obtain ⟨g2, o2, ea2, hg2, hr2⟩ : ∃ g2 o2, x.2.pl.a = some ⟨g2, o2, none⟩ ∧ g2 < w.heap.size ∧ w.rangeAt g2 o2 (ints L) := by
    rcases HSl.out with e | h
    · exact absurd (by rw [HN.out.2.1, e]; rfl) hz
    · exact h
  rw [ea2] at cL
  have HR2 := Lib.hid (⟨hg2, hr2⟩ : _ ∧ _)
  have HK : Hid (k ≤ k0 ∧ k ≠ 0) := ⟨by omega, hz⟩
  clear hg2 hr2 hz
  go_wp2
  clear hz1 hgt2 hgt3 hgt cL c0 hn0
  go_loopw [28] (fun iv wr => ∃ j : Nat, iv = .int .i64 (j : Int) ∧ j ≤ k ∧ Hid (Below w.heap.size w wr ∧ ∀ (j' : Nat) (y : Int), j' < j → L[j']? = some y → tto y = toV l (i : Int) (j' : Int))) (fun iv _ => k - (intOf iv).toNat)
  case atStart => exact ⟨0, rfl, Nat.zero_le _, Below.refl _ _, fun j' y hj => absurd hj (Nat.not_lt_zero _)⟩
  case round =>
    obtain ⟨j, rfl, hj, HX⟩ := hrel
    by_cases hlt : j < k
    · have hlt2 : (j : Int) < (k : Int) := by omega
      obtain ⟨y, hy⟩ : ∃ y, L[j]? = some y := ⟨_, List.getElem?_eq_getElem (by rw [← HN.out.2.1]; exact hlt)⟩
      have cy : wr.cell? ⟨g2, o2 + j, none⟩ = some (.int .i64 y) := by
        rw [HX.out.1.cell (p := ⟨g2, o2 + j, none⟩) HR2.out.1]
        exact HR2.out.2 j _ (ints_get hy)
      have htt := fun w => tto_any y w
      have htv := toV_any wr (some ⟨g, o, none⟩) cap l (HV.out.later HX.out.1) HN.out.2.2.1 (i : Int) (j : Int)
      rw [← HN.out.1] at htv
      have HB2 := Lib.hid HX.out.1
      have HY := Lib.hid hy
      clear hy
      go_wp2_with fail
      refine (htt _).mono ?_
      rintro e w2 ⟨rfl, rfl⟩
      go_wp2_with fail
      refine htv.mono ?_
      rintro e w3 ⟨rfl, hb⟩
      have HB3 := Lib.hid (HB2.out.trans (hb.mono HB2.out.size))
      by_cases he : tto y = toV l (i : Int) (j : Int)
      · have HX2 : Hid (∀ (j' : Nat) (y : Int), j' < j + 1 → L[j']? = some y → tto y = toV l (i : Int) (j' : Int)) := fun j' z hj' hz => by
          by_cases e : j' = j
          · subst e
            rw [HY.out] at hz
            cases hz
            exact he
          · exact HX.out.2 j' z (by omega) hz
        rw [he]
        clear htt htv hb he HX cy
        generalize toV l (i : Int) (j : Int) = tv
        go_wp2_with fail
        go_roundw
        case rel => exact ⟨j + 1, by simp, by omega, HB3.out, HX2.out⟩
        case measure => simp [intOf]; omega
      · have HE : Hid (¬ leadsP l i) := fun e => he ((HP.out.1 e).2.2 j y HY.out)
        clear htt htv hb HX cy
        generalize toV l (i : Int) (j : Int) = tv at he ⊢
        generalize tto y = ty at he ⊢
        go_wp2_with fail
        go_ret
        exact ⟨isB false rfl ⟨fun e => (by cases e), fun e => absurd e HE.out⟩, HB3.out⟩
    · have hlt2 : ¬ (j : Int) < (k : Int) := by omega
      have HE : Hid (leadsP l i) := HP.out.2 ⟨fun e => by
        have h1 := HN.out.2.1
        rw [e] at h1
        exact HK.out.2 h1, by have h1 := HN.out.2.1; have h2 := HN.out.2.2.2; have h3 := HK.out.1; rw [← h1, ← h2]; exact h3, fun j' y hy => HX.out.2 j' y (by
          have h1 := (List.getElem?_eq_some_iff.1 hy).1
          have h2 := HN.out.2.1
          omega) hy⟩
      have HB2 := Lib.hid HX.out.1
      clear HX
      go_wp2_with fail
      go_ret
      exact ⟨isB true rfl ⟨fun _ => HE.out, fun _ => rfl⟩, HB2.out⟩
/-- Where the node at a place of a row has to begin. -/
def lowAt (l : List (Vw × Vs)) : Nat → ByteArray
  | 0 => ⟨#[]⟩
  | i + 1 => match l[i]? with
    | some x => x.1.rv.hi
    | none => ⟨#[]⟩
def okAt (l : List (Vw × Vs)) (i : Nat) (x : Vw × Vs) : Prop := (x.1.nd.low.toList == (lowAt l i).toList) = true ∧ spansB x.1 (decide (i + 1 = l.length)) = true ∧ leadsP l i
def RightP (l : List (Vw × Vs)) : Prop := l ≠ [] ∧ ∀ (i : Nat) (x : Vw × Vs), l[i]? = some x → okAt l i x
set_option maxHeartbeats 2000000 in
theorem rightV_any (w : World) (a : Option Addr) (cap : Nat) (l : List (Vw × Vs)) (h : VRow w a l) (hcap : l.length ≤ cap) :
    Calls Tryd.prog 20 #[.slice a l.length cap] w fun e w' => IsB e (RightP l) ∧ Below w.heap.size w w' := by
  have few := h.few
  obtain ⟨n, hn⟩ : ∃ n, n = l.length := ⟨_, rfl⟩
  have HV := Lib.hid h
  have HN := Lib.hid (⟨hn, hcap⟩ : _ ∧ _)
  rw [← hn] at few ⊢
  clear h hcap hn
  go_enter Tryd.func20, Tryd.ntmps20
  go_wp2_with fail
  go_loopw [3, 8] (fun lv iv wr => ∃ j : Nat, iv = .int .i64 (j : Int) ∧ lv = .string (lowAt l j) ∧ j ≤ n ∧ Hid (Below w.heap.size w wr ∧ ∀ (i : Nat) (x : Vw × Vs), i < j → l[i]? = some x → okAt l i x)) (fun _ iv _ => n - (intOf iv).toNat)
  case atStart => exact ⟨0, rfl, rfl, Nat.zero_le _, Below.refl _ _, fun i x hi => absurd hi (Nat.not_lt_zero _)⟩
  case round =>
    obtain ⟨j, rfl, rfl, hj, HX⟩ := hrel
    by_cases hlt : j < n
    · have hlt2 : (j : Int) < (n : Int) := by omega
      obtain ⟨x, hx⟩ : ∃ x, l[j]? = some x := ⟨_, List.getElem?_eq_getElem (by rw [← HN.out.1]; exact hlt)⟩
      obtain ⟨g, o, ea, hg, hr⟩ := (HV.out.later HX.out.1).at_ hx
      have hld := load_mid hr sh54
      obtain ⟨w2, hw2⟩ : ∃ W, W = wr.alloc (.cells (x.1.row x.2).toArray 54) := ⟨_, rfl⟩
      have hb2 : Below wr.heap.size wr w2 := by rw [hw2]; exact (Below.refl _ _).alloc (Nat.le_refl _) _
      have sx : SVar w2 wr.heap.size (x.1.row x.2) := by rw [hw2]; exact snew _ _ _
      have c1 := sx.cell (i := 1) rfl
      obtain ⟨last, hlast⟩ : ∃ last, last = decide (j + 1 = n) := ⟨_, rfl⟩
      have hsp := spans_any x.1 x.2 last w2
      have HBw : Hid (Below w.heap.size w w2) := HX.out.1.trans (hb2.mono HX.out.1.size)
      have hat : ∀ W, (Instr.indexAt 44 (.slice a n cap) (.int .i64 (j : Int))).run Tryd.prog W = .ok (.pointer (some ⟨g, o + j * 16, none⟩)) W := fun W => by rw [ea]; exact at_44 g o n cap j hlt W
      have HW := Lib.hid hw2.symm
      have hlq : ((j : Int) == (n : Int) - 1) = last := by
        rw [hlast]
        by_cases e : j + 1 = n
        · rw [decide_eq_true e, beq_iff_eq]; omega
        · rw [decide_eq_false e, beq_eq_false_iff_ne]; omega
      have HS := Lib.hid sx
      have HL := Lib.hid hlast
      have HXx := Lib.hid hx
      unfold Vw.v at hsp
      simp only [Vw.row] at hld HW
      clear ea hg hr hw2 hb2 sx hlast hx
      cases hlo : (x.1.nd.low.toList == (lowAt l j).toList) with
      | false =>
        have HE : Hid (¬ RightP l) := fun e => by
          have := (e.2 j x HXx.out).1
          rw [hlo] at this
          cases this
        clear hsp hlq HX HS
        go_wp2_with (first | rw [HW.out] | ((with_reducible refine load_run ?_ (.tmp 11) 54 ?_ ?_ hld ?_); exact rfl; exact rfl; exact rfl) | fail)
        go_ret
        exact ⟨isB false rfl ⟨fun e => (by cases e), fun e => absurd e HE.out⟩, HBw.out⟩
      | true =>
        have e0 := HS.out.cell (i := 0) rfl
        have e2 := HS.out.cell (i := 2) rfl
        have e3 := HS.out.cell (i := 3) rfl
        have e4 := HS.out.cell (i := 4) rfl
        have e5 := HS.out.cell (i := 5) rfl
        have e6 := HS.out.cell (i := 6) rfl
        have e7 := HS.out.cell (i := 7) rfl
        have e8 := HS.out.cell (i := 8) rfl
        have e9 := HS.out.cell (i := 9) rfl
        have e10 := HS.out.cell (i := 10) rfl
        have e11 := HS.out.cell (i := 11) rfl
        have e12 := HS.out.cell (i := 12) rfl
        have e13 := HS.out.cell (i := 13) rfl
        have e14 := HS.out.cell (i := 14) rfl
        have e15 := HS.out.cell (i := 15) rfl
        go_wp2_with (first | rw [HW.out] | ((with_reducible refine load_run ?_ (.tmp 11) 54 ?_ ?_ hld ?_); exact rfl; exact rfl; exact rfl) | fail)
        clear e0 e2 e3 e4 e5 e6 e7 e8 e9 e10 e11 e12 e13 e14 e15
        refine hsp.mono ?_
        rintro e w3 ⟨rfl, hb3⟩
        have HB3 : Hid (Below w.heap.size w w3) := HBw.out.trans (hb3.mono HBw.out.size)
        cases hsb : spansB x.1 last with
        | false =>
          have HE : Hid (¬ RightP l) := fun e => by
            have := (e.2 j x HXx.out).2.1
            rw [← HN.out.1, ← HL.out, hsb] at this
            cases this
          clear hsp hld hlq HX HS hb3 hat
          go_wp2
          go_ret
          exact ⟨isB false rfl ⟨fun e => (by cases e), fun e => absurd e HE.out⟩, HB3.out⟩
        | true =>
          have hle := leads_any w3 a cap l (HV.out.later HB3.out) HN.out.2 j (by rw [← HN.out.1]; exact hlt)
          rw [← HN.out.1] at hle
          clear hsp hld hlq hat c1
          go_wp2_with fail
          refine hle.mono ?_
          rintro e w4 ⟨⟨rr, rfl, hrr⟩, hb4⟩
          have HB4 : Hid (Below w.heap.size w w4) := HB3.out.trans (hb4.mono HB3.out.size)
          cases rr with
          | false =>
            have HE : Hid (¬ RightP l) := fun e => by
              have := hrr.2 (e.2 j x HXx.out).2.2
              cases this
            clear hle HX HS hb3 hb4 hrr
            go_wp2
            go_ret
            exact ⟨isB false rfl ⟨fun e => (by cases e), fun e => absurd e HE.out⟩, HB4.out⟩
          | true =>
            have HX2 : Hid (∀ (i : Nat) (x : Vw × Vs), i < j + 1 → l[i]? = some x → okAt l i x) := fun i z hi hz => by
              by_cases e : i = j
              · subst e
                rw [HXx.out] at hz
                cases hz
                exact ⟨hlo, by rw [← HN.out.1, ← HL.out]; exact hsb, hrr.1 rfl⟩
              · exact HX.out.2 i z (by omega) hz
            have c9 := ((HS.out.later hb3).later hb4).cell (i := 9) rfl
            have hnx : lowAt l (j + 1) = x.1.rv.hi := by show (match l[j]? with | some x => x.1.rv.hi | none => _) = _; rw [HXx.out]
            have HNx := Lib.hid hnx
            clear hle HX HS hb3 hb4 hrr hnx
            go_wp2_with fail
            exact ⟨⟨j + 1, by simp, by rw [HNx.out], by omega, HB4.out, HX2.out⟩, by simp only [intOf]; omega⟩
    · have hlt2 : ¬ (j : Int) < (n : Int) := by omega
      have hjn : j = n := by omega
      have HB2 := Lib.hid HX.out.1
      have HE : Hid ((decide (0 < n)) = true ↔ RightP l) := by
        show _ ↔ _
        rw [decide_eq_true_eq]
        constructor
        · intro h0
          exact ⟨fun e => by have := HN.out.1; rw [e] at this; simp at this; omega, fun i x hx => HX.out.2 i x (by
            have h1 := (List.getElem?_eq_some_iff.1 hx).1
            have h2 := HN.out.1
            omega) hx⟩
        · intro h0
          have h1 : l.length ≠ 0 := fun e => h0.1 (List.length_eq_zero_iff.1 e)
          have h2 := HN.out.1
          omega
      clear HX
      go_wp2_with fail
      go_ret
      exact ⟨isB (decide (0 < n)) rfl HE.out, HB2.out⟩
end Go.Proofs.YtibimnibmengpaaDoor
