/- What tower.To, spans, leads and Right answer of any row of views in memory. Condition: at most 200000 views. -/
import Derived.Test.YtibimnibmengpaaDoorTg
namespace Go.Proofs.YtibimnibmengpaaDoor
open Go.RowKit Go.Op
set_option maxRecDepth 100000

theorem vrows_get {l : List (Vw × Vs)} {i : Nat} {x : Vw × Vs} (h : l[i]? = some x) : ∀ j u, (x.1.row x.2)[j]? = some u → (vrows l)[i * 16 + j]? = some u := by
  induction l generalizing i with
  | nil => simp at h
  | cons y l ih =>
    intro j u hu
    have hj : j < 16 := (List.getElem?_eq_some_iff.1 hu).1
    have hy : (y.1.row y.2).length = 16 := rfl
    cases i with
    | zero =>
      simp only [List.getElem?_cons_zero, Option.some.injEq] at h
      subst h
      rw [vrows, List.flatMap_cons, List.getElem?_append_left (by rw [hy]; omega), Nat.zero_mul, Nat.zero_add]
      exact hu
    | succ i =>
      have h2 : l[i]? = some x := by simpa using h
      rw [vrows, List.flatMap_cons, List.getElem?_append_right (by rw [hy]; omega), hy, show (i + 1) * 16 + j - 16 = i * 16 + j by omega]
      exact ih h2 j u hu
/-- A row of views in memory. -/
structure VRow (w : World) (a : Option Addr) (l : List (Vw × Vs)) : Prop where
  row : l = [] ∨ ∃ g o, a = some ⟨g, o, none⟩ ∧ g < w.heap.size ∧ w.rangeAt g o (vrows l)
  lk : ∀ x, x ∈ l → x.2.pl.n = x.1.links.length ∧ SlAt w x.2.pl.a x.1.links ∧ x.1.links.length ≤ 1000000
  few : l.length ≤ 200000
theorem SlAt.later {w w1 : World} {a : Option Addr} {l : List Int} (h : SlAt w a l) (hb : Below w.heap.size w w1) : SlAt w1 a l :=
  h.imp id fun ⟨g, o, e, hg, hr⟩ => ⟨g, o, e, Nat.lt_of_lt_of_le hg hb.size, rangeAt_same hr (hb.block g hg)⟩
theorem VRow.later {w w1 : World} {a : Option Addr} {l : List (Vw × Vs)} (h : VRow w a l) (hb : Below w.heap.size w w1) : VRow w1 a l :=
  ⟨h.row.imp id fun ⟨g, o, e, hg, hr⟩ => ⟨g, o, e, Nat.lt_of_lt_of_le hg hb.size, rangeAt_same hr (hb.block g hg)⟩, fun x hx => ⟨(h.lk x hx).1, (h.lk x hx).2.1.later hb, (h.lk x hx).2.2⟩, h.few⟩
theorem VRow.at_ {w : World} {a : Option Addr} {l : List (Vw × Vs)} (h : VRow w a l) {i : Nat} {x : Vw × Vs} (hx : l[i]? = some x) : ∃ g o, a = some ⟨g, o, none⟩ ∧ g < w.heap.size ∧ w.rangeAt g (o + i * 16) (x.1.row x.2) := by
  rcases h.row with e | ⟨g, o, e, hg, hr⟩
  · rw [e] at hx; simp at hx
  · exact ⟨g, o, e, hg, fun j u hj => by rw [Nat.add_assoc]; exact hr _ u (vrows_get hx j u hj)⟩
/-- Whom a row has to lead to. -/
def toF (lv : Int) : List (Vw × Vs) → Int
  | [] => 0
  | x :: l => if lv < (x.1.links.length : Int) then x.1.h else toF lv l
def toV (l : List (Vw × Vs)) (i lv : Int) : Int := if i < 0 ∨ (l.length : Int) ≤ i ∨ lv < 0 then 0 else toF lv (l.drop (i.toNat + 1))
theorem toF_at (lv : Int) : ∀ (l : List (Vw × Vs)) (j : Nat), (∀ k x, k < j → l[k]? = some x → ¬ lv < (x.1.links.length : Int)) → (∀ x, l[j]? = some x → lv < (x.1.links.length : Int) → toF lv l = x.1.h) ∧ (l.length ≤ j → toF lv l = 0)
  | [], j, _ => ⟨fun x hx => by simp at hx, fun _ => rfl⟩
  | y :: l, 0, _ => ⟨fun x hx hv => by
      simp at hx
      subst hx
      rw [toF, if_pos hv], fun h => by simp at h⟩
  | y :: l, j + 1, h => by
    have h0 := h 0 y (by omega) rfl
    obtain ⟨h1, h2⟩ := toF_at lv l j fun k x hk hx => h (k + 1) x (by omega) (by simpa using hx)
    exact ⟨fun x hx hv => by rw [toF, if_neg h0]; exact h1 x (by simpa using hx) hv, fun hl => by rw [toF, if_neg h0]; exact h2 (by simpa using hl)⟩
set_option maxHeartbeats 2000000 in
theorem toV_any (w : World) (a : Option Addr) (cap : Nat) (l : List (Vw × Vs)) (h : VRow w a l) (hcap : l.length ≤ cap) (i lv : Int) :
    Calls Tryd.prog 26 #[.slice a l.length cap, .int .i64 i, .int .i64 lv] w fun e w' => e = .returned (.int .i64 (toV l i lv)) ∧ Below w.heap.size w w' := by
  have few := h.few
  by_cases h1 : i < 0
  · have e : toV l i lv = 0 := if_pos (.inl h1)
    rw [e]
    clear h
    go_enter Tryd.func26, Tryd.ntmps26
    go_wp2
    go_ret
    exact ⟨rfl, Below.refl _ _⟩
  by_cases h2 : (l.length : Int) ≤ i
  · have e : toV l i lv = 0 := if_pos (.inr (.inl h2))
    rw [e]
    clear h
    go_enter Tryd.func26, Tryd.ntmps26
    go_wp2
    go_ret
    exact ⟨rfl, Below.refl _ _⟩
  by_cases h3 : lv < 0
  · have e : toV l i lv = 0 := if_pos (.inr (.inr h3))
    rw [e]
    clear h
    go_enter Tryd.func26, Tryd.ntmps26
    go_wp2
    go_ret
    exact ⟨rfl, Below.refl _ _⟩
  have e : toV l i lv = toF lv (l.drop (i.toNat + 1)) := if_neg (by omega)
  rw [e]
  clear e
  obtain ⟨n, hn⟩ : ∃ n, n = l.length := ⟨_, rfl⟩
  obtain ⟨i', rfl⟩ : ∃ i' : Nat, i = (i' : Int) := ⟨i.toNat, by omega⟩
  rw [← hn] at few hcap h2 ⊢
  rw [Int.toNat_natCast]
  obtain ⟨g, o, ea, hg, hr⟩ : ∃ g o, a = some ⟨g, o, none⟩ ∧ g < w.heap.size ∧ w.rangeAt g o (vrows l) := by
    rcases h.row with e | h
    · rw [e] at hn; simp at hn; omega
    · exact h
  subst ea
  have HV := Lib.hid h
  have HN := Lib.hid hn
  obtain ⟨D, hD⟩ : ∃ D, D = l.drop (i' + 1) := ⟨_, rfl⟩
  rw [← hD]
  have hdl : D.length = n - (i' + 1) := by rw [hD, List.length_drop, hn]
  have HD := Lib.hid (⟨hD, hdl⟩ : _ ∧ _)
  clear h hn hr hD hdl
  go_enter Tryd.func26, Tryd.ntmps26
  go_wp2_with fail
  · obtain ⟨d, hd⟩ : ∃ d, d = n - (i' + 1) := ⟨_, rfl⟩
    have hd0 : d = 0 := by omega
    have HE : Hid (toF lv D = 0) := by
      have : D = [] := List.length_eq_zero_iff.1 (by rw [HD.out.2]; omega)
      rw [this]; rfl
    rw [← hd, hd0]
    clear hd hd0
    go_loopw [26] (fun iv wr => iv = .int .i64 0 ∧ wr = w) (fun _ _ => 0)
    case atStart => exact ⟨rfl, rfl⟩
    case round =>
      obtain ⟨rfl, rfl⟩ := hrel
      go_wp2
      go_ret
      exact ⟨by rw [HE.out]; rfl, Below.refl _ _⟩
  · obtain ⟨d, hd⟩ : ∃ d, d = n - (i' + 1) := ⟨_, rfl⟩
    have HDd : Hid (D.length = d) := by rw [hd]; exact HD.out.2
    have hdn : d ≤ 200000 := by omega
    rw [← hd]
    obtain ⟨o2, ho2⟩ : ∃ o2, o2 = o + (i' + 1) * 16 := ⟨_, rfl⟩
    have HO := Lib.hid ho2
    rw [← ho2]
    clear hd ho2
    go_loopw [26] (fun iv wr => ∃ j : Nat, iv = .int .i64 (j : Int) ∧ j ≤ d ∧ Hid (Below w.heap.size w wr ∧ ∀ k x, k < j → D[k]? = some x → ¬ lv < (x.1.links.length : Int))) (fun iv _ => d - (intOf iv).toNat)
    case atStart => exact ⟨0, rfl, Nat.zero_le _, Below.refl _ _, fun k x hk => absurd hk (Nat.not_lt_zero _)⟩
    case round =>
      obtain ⟨j, rfl, hj, HX⟩ := hrel
      have hp := toF_at lv D j HX.out.2
      by_cases hlt : j < d
      · have hlt2 : (j : Int) < (d : Int) := by omega
        obtain ⟨x, hx⟩ : ∃ x, D[j]? = some x := ⟨_, List.getElem?_eq_getElem (by rw [HDd.out]; exact hlt)⟩
        have hlx : l[i' + 1 + j]? = some x := by rw [← hx, HD.out.1, List.getElem?_drop]
        obtain ⟨g', o', e', hg', hr'⟩ := (HV.out.later HX.out.1).at_ hlx
        cases e'
        rw [show o + (i' + 1 + j) * 16 = o2 + j * 16 by rw [HO.out]; omega] at hr'
        have hld := load_mid hr' sh54
        have hlk := ((HV.out.lk x (List.mem_of_getElem? hlx)))
        have hln := hlk.1
        have hlf : (x.1.links.length : Int) ≤ 1000000 := Int.ofNat_le.mpr hlk.2.2
        simp only [Vw.row] at hld
        rw [hln] at hld
        have HB2 := Lib.hid HX.out.1
        by_cases hv : lv < (x.1.links.length : Int)
        · have HE := Lib.hid (hp.1 x hx hv)
          clear hp HX hlx hg' hr' hlk hln hx
          go_wp2_with (first | ((with_reducible refine load_run ?_ (.tmp 28) 54 ?_ ?_ hld ?_); exact rfl; exact rfl; exact rfl) | fail)
          go_ret
          exact ⟨by rw [HE.out]; rfl, HB2.out.trans ((Below.refl _ _).alloc HB2.out.size _)⟩
        · have HX2 : Hid (∀ k x, k < j + 1 → D[k]? = some x → ¬ lv < (x.1.links.length : Int)) := fun k y hk hy => by
            by_cases e : k = j
            · subst e
              rw [hx] at hy
              cases hy
              exact hv
            · exact HX.out.2 k y (by omega) hy
          clear hp HX hlx hg' hr' hlk hln hx
          go_wp2_with (first | ((with_reducible refine load_run ?_ (.tmp 28) 54 ?_ ?_ hld ?_); exact rfl; exact rfl; exact rfl) | fail)
          exact ⟨⟨j + 1, rfl, by omega, HB2.out.trans ((Below.refl _ _).alloc HB2.out.size _), HX2.out⟩, by simp only [intOf]; omega⟩
      · have hlt2 : ¬ (j : Int) < (d : Int) := by omega
        have HE := Lib.hid (hp.2 (by rw [HDd.out]; omega))
        have HB2 := Lib.hid HX.out.1
        clear hp HX
        go_wp2_with fail
        go_ret
        exact ⟨by rw [HE.out]; rfl, HB2.out⟩
end Go.Proofs.YtibimnibmengpaaDoor
