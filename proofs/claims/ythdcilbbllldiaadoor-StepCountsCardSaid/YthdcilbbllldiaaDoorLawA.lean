/- What StepCounts's function does by its port: it asks for the word and swaps it, till the swap succeeds. Conditions: memory's one cell holds a word; at most 1000000 asks. -/
import Derived.Test.YthdcilbbllldiaaDoorStH
namespace Go.Proofs.YthdcilbbllldiaaDoor
open Go.RowKit Go.Op
set_option maxRecDepth 100000

/-- Memory's one cell holds a word. -/
def Is1 (m : M) (v : Int) : Prop := m.cells = [⟨.word v, 0, false, 0⟩]
theorem is1_at {m : M} {v : Int} (h : Is1 m v) : m.at 1 = some (0, ⟨.word v, 0, false, 0⟩) := by
  unfold Is1 at h
  have hs : m.seek 1 = some 0 := by
    unfold M.seek
    rw [if_pos (by decide), h]
    rfl
  exact at_some hs (by rw [h]; rfl)
theorem is1_word {m : M} {v : Int} (h : Is1 m v) : m.word 1 = (m.ask, v, 0) := by
  unfold M.word; rw [is1_at h]
theorem is1_ask {m : M} {v : Int} (h : Is1 m v) : Is1 m.ask v := h
theorem is1_swap_no {m : M} {v o n : Int} (h : Is1 m v) (hv : ¬ v = o) : m.swap 1 o n = (m.ask, false, 0) := by
  unfold M.swap; rw [is1_at h]; simp only; rw [if_neg hv]
theorem is1_swap_yes {m : M} {v n : Int} (h : Is1 m v) : (m.swap 1 v n).2 = (true, 0) ∧ Is1 (m.swap 1 v n).1 n := by
  unfold M.swap; rw [is1_at h]; simp only [if_true]
  refine ⟨trivial, ?_⟩
  unfold Is1 at *
  simp [M.put, M.ask, h]
def wordAn (k : Int) : An := ⟨.no, k, false, 0⟩
def missAn : An := ⟨.no, 0, false, 0⟩
/-- What it was told so far: a word, a swap that failed, a word .. -/
def Alt (T : List An) (V : Int) : Prop := ∀ j a, T[j]? = some a → (j % 2 = 0 → ∃ k, a = wordAn k ∧ 0 ≤ k ∧ k ≤ V) ∧ (j % 2 = 1 → a = missAn)
theorem Alt.mono {T : List An} {V V' : Int} (h : Alt T V) (hV : V ≤ V') : Alt T V' := fun j a ha => ⟨fun hj => by
  obtain ⟨k, e, h0, h1⟩ := (h j a ha).1 hj
  exact ⟨k, e, h0, Int.le_trans h1 hV⟩, (h j a ha).2⟩
theorem Alt.word {T : List An} {V : Int} (h : Alt T V) (hT : T.length % 2 = 0) (hV : 0 ≤ V) : Alt (T ++ [wordAn V]) V := by
  intro j a ha
  rw [List.getElem?_append] at ha
  split at ha
  · exact h j a ha
  · rename_i hj
    have hj0 : j - T.length = 0 := by
      have := (List.getElem?_eq_some_iff.1 ha).1
      simp at this
      omega
    rw [hj0] at ha
    cases ha
    exact ⟨fun _ => ⟨V, rfl, hV, Int.le_refl _⟩, fun hh => by omega⟩
theorem Alt.miss {T : List An} {V : Int} (h : Alt T V) (hT : T.length % 2 = 1) : Alt (T ++ [missAn]) V := by
  intro j a ha
  rw [List.getElem?_append] at ha
  split at ha
  · exact h j a ha
  · rename_i hj
    have hj0 : j - T.length = 0 := by
      have := (List.getElem?_eq_some_iff.1 ha).1
      simp at this
      omega
    rw [hj0] at ha
    cases ha
    exact ⟨fun hh => by omega, fun _ => rfl⟩
/-- What a step of it comes to. -/
def Phi (T : List An) (v : Int) (o : Option Value) (m : M) (s : Pt) : Prop :=
  (o = some (.iface 3 (.int .i64 v)) ∧ Is1 m (v + 1)) ∨ (o = none ∧ Is1 m v ∧ s.keeps = true ∧ Alt s.told v ∧ s.told.length = T.length + 1)
def placeAt (w : World) (pb po : Nat) : Nat := match w.cell? ⟨pb, po + 3, none⟩ with
  | some v => (intOf v).toNat
  | none => 0
theorem placeAt_is {w0 : World} {b c r : Nat} {N : Int} {pb po : Nat} {t : Value} {w : World} {m : M} {s : Pt} (h : Sys w0 b c r N pb po t w m s) : placeAt w pb po = s.place := by
  unfold placeAt
  rw [h.pt.cells.c3]
  simp [intOf]
/-- At the loop's head: it was told the first i answers again, or it asked and was told that the swap failed. -/
def Head1 (w0 : World) (b c r : Nat) (N : Int) (pb po : Nat) (t : Value) (w : World) (m : M) (s : Pt) (wr : World) : Prop :=
  ∃ t' m' s', Sys w0 b c r (N + 1) pb po t' wr m' s' ∧ But5 b c r pb t w wr ∧ Row2 w t t' ∧ s'.ext = s.ext ∧ s'.keeps = true ∧ s'.halted = false ∧ s'.place ≤ s'.told.length ∧ s'.told.length ≤ 1000000 ∧ s'.place % 2 = 0 ∧
    ((s'.told = s.told ∧ s'.spent = false ∧ m' = m) ∨ (s'.told = s.told ++ [missAn] ∧ s'.spent = true ∧ s'.place = s.told.length + 1 ∧ m' = m.ask))
theorem enter_24 (xs : Array Value) (w : World) : (callFunc 24 xs).run Tryd.prog w = .ok (.enter 24 xs) w := by kernel_rfl
set_option maxHeartbeats 1000000 in
theorem counts_fn {w0 : World} {b c r : Nat} {N : Int} {pb po : Nat} {t : Value} {w : World} {m : M} {s : Pt} {v : Int} {q : Nat} (h : Sys w0 b c r N pb po t w m s) (hN : N ≤ 999990)
    (h0 : s.place = 0) (h1 : s.spent = false) (h2 : s.halted = false) (h3 : s.keeps = true) (hA : Alt s.told v) (hl : s.told.length ≤ 900000) (hm : Is1 m v) (hv : 0 ≤ v ∧ v ≤ 1000000)
    (hq : w.cell? ⟨q, 0, none⟩ = some (.int .i64 1)) (hqn : q ≠ b ∧ q ≠ c ∧ q ≠ r ∧ q ≠ pb ∧ some q ≠ t.ownBlock) :
    Calls Tryd.prog 24 (#[.pointer (some ⟨pb, po, none⟩)] ++ #[.pointer (some ⟨q, 0, none⟩)]) w fun e w' => Ran pb po (Outc s w0 b c r (N + 1) pb po t w (Phi s.told v)) e w' ∧ But5 b c r pb t w w' := by
  have hql := World.block_lt_of_cell? w _ hq
  have HK : Hid (∀ W, But5 b c r pb t w W → W.cell? ⟨q, 0, none⟩ = some (.int .i64 1)) := fun W hb => by
    rw [World.cell?_of_block (w := w) (a := ⟨q, 0, none⟩) (hb.block q hql hqn.1 hqn.2.1 hqn.2.2.1 hqn.2.2.2.1 hqn.2.2.2.2)]
    exact hq
  have HH : Hid (Head1 w0 b c r N pb po t w m s w) := ⟨t, m, s, h.less (by omega), But5.refl _ _ _ _ _ _, Row2.refl _ _, rfl, h3, h2, by omega, by omega, by omega, .inl ⟨rfl, h1, rfl⟩⟩
  have HI := Lib.hid (⟨hA, hm, hl, h.has.ok⟩ : Alt s.told v ∧ Is1 m v ∧ s.told.length ≤ 900000 ∧ m.Ok N)
  clear h h0 h1 h2 h3 hA hl hm hq hqn hql
  show Calls Tryd.prog 24 #[.pointer (some ⟨pb, po, none⟩), .pointer (some ⟨q, 0, none⟩)] w _
  go_enter Tryd.func24, Tryd.ntmps24
  go_wp2_with fail
  go_loopw [] (fun wr => Hid (Head1 w0 b c r N pb po t w m s wr)) (fun wr => s.told.length + 2 - placeAt wr pb po)
  case atStart => exact HH
  case round =>
    obtain ⟨t1, m1, s1, hS, hb, hr, x1, x2, x3, x4, x5, x6, hc⟩ := hrel.out
    have hq1 := HK.out wr hb
    have hok : s1.Ok := ⟨x4, x5⟩
    have hw := pword_any hS (by omega) hok 1
    have HB := Lib.hid hb
    have HR := Lib.hid hr
    have HX := Lib.hid x1
    have HC := Lib.hid hc
    have HO := Lib.hid hok
    have HS := Lib.hid hS
    clear hrel hS hb hr x1 hc hok HH
    cases hx : s1.told[s1.place]? with
    | some a =>
      have hp := (List.getElem?_eq_some_iff.1 hx).1
      obtain ⟨y1, y2, y3⟩ : s1.told = s.told ∧ s1.spent = false ∧ m1 = m := by
        rcases HC.out with hc | ⟨e1, _, e3, _⟩
        · exact hc
        · rw [e1, e3, List.length_append] at hp
          simp at hp
      obtain ⟨k, rfl, k0, k1⟩ := (HI.out.1 _ _ (y1 ▸ hx)).1 x6
      have hkk : k ≤ 1000000 := by omega
      have HX1 := Lib.hid hx
      clear hx HC
      go_wp2_with fail
      refine hw.mono ?_
      rintro e w2 ⟨t2, he, hS2, hb2, hr2⟩
      rw [Pt.ask_told HX1.out] at he hS2
      simp only [Ends, Qn.ret, wordAn] at he
      subst he
      simp only at hS2
      have hB2 := HB.out.next HR.out hb2
      have hR2 := HR.out.next HB.out.size hr2
      have hq2 := HK.out w2 hB2
      have hok2 : Pt.Ok { s1 with place := s1.place + 1 } := ⟨hp, HO.out.len⟩
      have hw2 := pswap_any (hS2.okof (N' := N + 2) (by rw [y3]; exact HI.out.2.2.2.mono (by omega))) (by omega) hok2 1 k (k + 1)
      have HB2 := Lib.hid hB2
      have HR2 := Lib.hid hR2
      have HS2 := Lib.hid hS2
      have HP := Lib.hid (⟨hp, y1, y2, y3⟩ : _ ∧ _ ∧ _ ∧ _)
      clear hw hb2 hr2 hB2 hR2 hS2 hok2 hp y1 y2 y3 hq1
      cases hx2 : s1.told[s1.place + 1]? with
      | some a2 =>
        have e2 : a2 = missAn := (HI.out.1 _ _ (HP.out.2.1 ▸ hx2)).2 (by omega)
        subst e2
        have HX2 := Lib.hid hx2
        clear hx2
        go_wp2_with fail
        refine hw2.mono ?_
        rintro e w3 ⟨t3, he, hS3, hb3, hr3⟩
        rw [Pt.ask_told (s := { s1 with place := s1.place + 1 }) HX2.out] at he hS3
        simp only [Ends, Qn.ret, missAn] at he
        subst he
        simp only at hS3
        have HH : Hid (Head1 w0 b c r N pb po t w m s w3) := by
          obtain ⟨_, y1, y2, y3⟩ := HP.out
          refine ⟨t3, m1, _, hS3.okof (by rw [y3]; exact HI.out.2.2.2.mono (by omega)), HB2.out.next HR2.out hb3, HR2.out.next HB2.out.size hr3, HX.out, x2, x3, (List.getElem?_eq_some_iff.1 HX2.out).1, x5, ?_, .inl ⟨y1, y2, y3⟩⟩
          simp only; omega
        have hpl := placeAt_is hS3
        simp only at hpl
        have hpw := placeAt_is HS.out
        have HM : Hid (s.told.length + 2 - placeAt w3 pb po < s.told.length + 2 - placeAt wr pb po) := by
          have h1 := (List.getElem?_eq_some_iff.1 HX2.out).1
          rw [HP.out.2.1] at h1
          unfold Hid
          omega
        clear hw2 hS3 hb3 hr3 hpl hpw
        go_wp2_with fail
        go_roundw
        case rel => exact HH
        case measure => exact HM.out
      | none =>
        have hL : s1.place + 1 = s1.told.length := by
          have h1 := List.getElem?_eq_none_iff.1 hx2
          have h2 := HP.out.1
          omega
        have HX2 := Lib.hid hx2
        have hmv : Is1 m1 v := by rw [HP.out.2.2.2]; exact HI.out.2.1
        clear hx2
        by_cases hvk : v = k
        · subst hvk
          obtain ⟨z1, z2⟩ := is1_swap_yes (n := v + 1) hmv
          go_wp2_with fail
          refine hw2.mono ?_
          rintro e w3 ⟨t3, he, hS3, hb3, hr3⟩
          rw [Pt.ask_keep (s := { s1 with place := s1.place + 1 }) HX2.out HP.out.2.2.1 x2] at he hS3
          simp only [Ends, Qn.ret, Qn.on, z1] at he hS3
          subst he
          have HE : Hid (Ran pb po (Outc s w0 b c r (N + 1) pb po t w (Phi s.told v)) (.returned (.iface 3 (.int .i64 v))) w3 ∧ But5 b c r pb t w w3) := by
            refine ⟨.inl ⟨3, _, rfl, ⟨t3, _, _, hS3.okof (HI.out.2.2.2.swap 1 v (v + 1) |> fun h => by rw [HP.out.2.2.2]; exact h), HR2.out.next HB2.out.size hr3, ⟨?_, ?_⟩, HX.out, .inl ⟨rfl, z2⟩⟩, ?_⟩, HB2.out.next HR2.out hb3⟩
            · simp only [List.length_append, List.length_singleton]; omega
            · have h1 := HI.out.2.2.1
              have h2 := HP.out.2.1
              simp only [List.length_append, List.length_singleton, h2]; omega
            · exact hS3.pt.cells.c6.trans (by simp only; rw [x3])
          clear hw2 hS3 hb3 hr3 z1 z2
          go_wp2_with fail
          go_ret
          exact HE.out
        · have z1 := is1_swap_no (n := k + 1) hmv hvk
          go_wp2_with fail
          refine hw2.mono ?_
          rintro e w3 ⟨t3, he, hS3, hb3, hr3⟩
          rw [Pt.ask_keep (s := { s1 with place := s1.place + 1 }) HX2.out HP.out.2.2.1 x2] at he hS3
          simp only [Ends, Qn.ret, Qn.on, z1] at he hS3
          subst he
          have hlen : s1.told.length = s.told.length := by rw [HP.out.2.1]
          have HH : Hid (Head1 w0 b c r N pb po t w m s w3) := by
            obtain ⟨_, y1, y2, y3⟩ := HP.out
            have h1 := HI.out.2.2.1
            refine ⟨t3, _, _, hS3.okof (by rw [y3]; exact HI.out.2.2.2.ask), HB2.out.next HR2.out hb3, HR2.out.next HB2.out.size hr3, HX.out, x2, x3, ?_, ?_, ?_, .inr ⟨by simp only [y1]; rfl, rfl, ?_, by rw [y3]⟩⟩
            · simp only [List.length_append, List.length_singleton]; omega
            · simp only [List.length_append, List.length_singleton]; omega
            · simp only; omega
            · simp only; omega
          have hpl := placeAt_is hS3
          simp only at hpl
          have hpw := placeAt_is HS.out
          have HM : Hid (s.told.length + 2 - placeAt w3 pb po < s.told.length + 2 - placeAt wr pb po) := by
            unfold Hid
            omega
          clear hw2 hS3 hb3 hr3 hpl hpw z1
          go_wp2_with fail
          go_roundw
          case rel => exact HH
          case measure => exact HM.out
    | none =>
      have hL := HO.out.none hx
      have HX1 := Lib.hid hx
      clear hx
      cases hsp : s1.spent with
      | true =>
        obtain ⟨y1, y2, y3, y4⟩ : s1.told = s.told ++ [missAn] ∧ s1.spent = true ∧ s1.place = s.told.length + 1 ∧ m1 = m.ask := by
          rcases HC.out with ⟨_, e, _⟩ | hc
          · rw [e] at hsp; cases hsp
          · exact hc
        go_wp2_with fail
        refine hw.mono ?_
        rintro e w2 ⟨t2, he, hS2, hb2, hr2⟩
        rw [Pt.ask_halt HX1.out hsp] at he hS2
        simp only [Ends] at he
        subst he
        have HE : Hid (Ran pb po (Outc s w0 b c r (N + 1) pb po t w (Phi s.told v)) (Halt pb po) w2 ∧ But5 b c r pb t w w2) := by
          refine ⟨.inr ⟨rfl, t2, _, _, hS2.okof (by simp only [y4]; exact HI.out.2.2.2.ask), HR.out.next HB.out.size hr2, ⟨HO.out.le, HO.out.len⟩, HX.out, .inr ⟨rfl, by simp only [y4]; exact is1_ask HI.out.2.1, x2, ?_, ?_⟩⟩, HB.out.next HR.out hb2⟩
          · simp only [y1]
            exact HI.out.1.miss (by omega)
          · simp only [y1, List.length_append, List.length_singleton]
        clear hw hS2 hb2 hr2 hsp
        unfold Halt at HE ⊢
        go_wp2
        exact ⟨rfl, HE.out⟩
      | false =>
        obtain ⟨y1, y3⟩ : s1.told = s.told ∧ m1 = m := by
          rcases HC.out with ⟨e, _, e2⟩ | ⟨_, e, _⟩
          · exact ⟨e, e2⟩
          · rw [e] at hsp; cases hsp
        have hmv : Is1 m1 v := by rw [y3]; exact HI.out.2.1
        have z1 := is1_word hmv
        go_wp2_with fail
        refine hw.mono ?_
        rintro e w2 ⟨t2, he, hS2, hb2, hr2⟩
        rw [Pt.ask_keep HX1.out hsp x2] at he hS2
        simp only [Ends, Qn.ret, Qn.on, z1] at he hS2
        subst he
        have hB2 := HB.out.next HR.out hb2
        have hR2 := HR.out.next HB.out.size hr2
        have hq2 := HK.out w2 hB2
        have hlen : s1.told.length = s.told.length := by rw [y1]
        have hl9 := HI.out.2.2.1
        have hok2 : Pt.Ok { s1 with told := s1.told ++ [wordAn v], place := s1.place + 1, spent := true } := ⟨by simp only [List.length_append, List.length_singleton]; omega, by simp only [List.length_append, List.length_singleton]; omega⟩
        have hx2 : ({ s1 with told := s1.told ++ [wordAn v], place := s1.place + 1, spent := true } : Pt).told[({ s1 with told := s1.told ++ [wordAn v], place := s1.place + 1, spent := true } : Pt).place]? = none := by
          rw [List.getElem?_eq_none_iff]
          simp only [List.length_append, List.length_singleton]; omega
        have hw2 := pswap_any (s := { s1 with told := s1.told ++ [wordAn v], place := s1.place + 1, spent := true }) hS2 (by omega) hok2 1 v (v + 1)
        have HB2 := Lib.hid hB2
        have HR2 := Lib.hid hR2
        have HX2 := Lib.hid hx2
        have HY := Lib.hid (⟨y1, y3⟩ : _ ∧ _)
        clear hw hS2 hb2 hr2 hB2 hR2 hok2 hx2 z1 hsp hq1 y1 y3
        go_wp2_with fail
        refine hw2.mono ?_
        rintro e w3 ⟨t3, he, hS3, hb3, hr3⟩
        rw [Pt.ask_halt HX2.out rfl] at he hS3
        simp only [Ends] at he
        subst he
        have HE : Hid (Ran pb po (Outc s w0 b c r (N + 1) pb po t w (Phi s.told v)) (Halt pb po) w3 ∧ But5 b c r pb t w w3) := by
          obtain ⟨y1, y3⟩ := HY.out
          refine ⟨.inr ⟨rfl, t3, _, _, hS3.okof (by simp only [y3]; exact HI.out.2.2.2.ask), HR2.out.next HB2.out.size hr3, ⟨?_, ?_⟩, HX.out, .inr ⟨rfl, by simp only [y3]; exact is1_ask HI.out.2.1, x2, ?_, ?_⟩⟩, HB2.out.next HR2.out hb3⟩
          · simp only [List.length_append, List.length_singleton]; omega
          · simp only [List.length_append, List.length_singleton]; omega
          · simp only [y1]
            exact HI.out.1.word (by omega) hv.1
          · simp only [y1, List.length_append, List.length_singleton]
        clear hw2 hS3 hb3 hr3
        unfold Halt at HE ⊢
        go_wp2
        exact ⟨rfl, HE.out⟩
end Go.Proofs.YthdcilbbllldiaaDoor
