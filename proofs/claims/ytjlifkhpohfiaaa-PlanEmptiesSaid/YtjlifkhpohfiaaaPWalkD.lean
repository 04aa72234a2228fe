/- What leads answers of any number, any keys and any key. Conditions: numbers of 64 bits; at most 1000000 keys, which stand in memory. -/
import Derived.Test.YtjlifkhpohfiaaaPWalkC
namespace Go.Proofs.Ytjlifkhpohfiaaa
open Go.RowKit Go.Op
set_option maxRecDepth 100000

/-- Keys that stand in memory. -/
def Keys (w : World) (a : Option Addr) (ks : List ByteArray) : Prop :=
  ks = [] ∨ ∃ b off, a = some ⟨b, off, none⟩ ∧ b < w.heap.size ∧ ∀ k (hk : k < ks.length), w.cell? ⟨b, off + k, none⟩ = some (.string (ks[k]'hk))
/-- Numbers that stand in memory. -/
def Nums (w : World) (a : Option Addr) (T : List Int) : Prop :=
  T = [] ∨ ∃ b off, a = some ⟨b, off, none⟩ ∧ b < w.heap.size ∧ ∀ k (hk : k < T.length), w.cell? ⟨b, off + k, none⟩ = some (.int .i64 (T[k]'hk))
theorem Keys.below {w w' : World} {a : Option Addr} {ks : List ByteArray} (h : Keys w a ks) (hb : Below w.heap.size w w') : Keys w' a ks := by
  rcases h with rfl | ⟨b, off, rfl, hlt, hc⟩
  · exact .inl rfl
  · exact .inr ⟨b, off, rfl, Nat.lt_of_lt_of_le hlt hb.size, fun k hk => by rw [hb.cell (p := ⟨b, off + k, none⟩) hlt]; exact hc k hk⟩
theorem Nums.below {w w' : World} {a : Option Addr} {T : List Int} (h : Nums w a T) (hb : Below w.heap.size w w') : Nums w' a T := by
  rcases h with rfl | ⟨b, off, rfl, hlt, hc⟩
  · exact .inl rfl
  · exact .inr ⟨b, off, rfl, Nat.lt_of_lt_of_le hlt hb.size, fun k hk => by rw [hb.cell (p := ⟨b, off + k, none⟩) hlt]; exact hc k hk⟩
def In64 (v : Int) : Prop := -9223372036854775808 ≤ v ∧ v ≤ 9223372036854775807

theorem leads_no {ks : List ByteArray} {k : ByteArray} {v : Int} (h : ¬ (0 < v ∧ v ≤ (ks.length : Int))) : leadsB ks k v = false := by
  rw [Bool.eq_false_iff]
  intro e
  obtain ⟨h1, h2⟩ := leads_iff.1 e
  have := (List.getElem?_eq_some_iff.1 h2).1
  omega
theorem leads_at {ks : List ByteArray} {k : ByteArray} {q : Nat} (h : q < ks.length) : leadsB ks k ((q : Int) + 1) = decide (ks[q] = k) := by
  rw [Bool.eq_iff_iff, leads_iff, decide_eq_true_eq, show ((q : Int) + 1 - 1).toNat = q by omega, List.getElem?_eq_getElem h]
  simp only [Option.some.injEq]
  exact ⟨fun h => h.2, fun h => ⟨by omega, h⟩⟩
theorem ret_b {a b : Bool} (h : a = b) : Ending.returned (.bool a) = .returned (.bool b) := by rw [h]
theorem same_text (x k : ByteArray) : (x.toList == k.toList) = decide (x = k) := by
  rw [Bool.eq_iff_iff, decide_eq_true_eq, beq_iff_eq, ByteArray.toList_eq, ByteArray.toList_eq]
  constructor
  · intro h
    cases x
    cases k
    simpa using h
  · rintro rfl
    rfl
set_option maxHeartbeats 1000000 in
theorem lead_any (v : Int) (hv : In64 v) (a : Option Addr) (ks : List ByteArray) (c : Nat) (k : ByteArray) (w : World) (hk : Keys w a ks) :
    Calls Try.prog 56 #[.int .i64 v, .slice a ks.length c, .string k] w fun e w' => e = .returned (.bool (leadsB ks k v)) ∧ w = w' := by
  obtain ⟨v0, v1⟩ := hv
  by_cases h1 : 0 < v
  · by_cases h2 : v ≤ (ks.length : Int)
    · obtain ⟨q, rfl⟩ : ∃ q : Nat, v = (q : Int) + 1 := ⟨(v - 1).toNat, by omega⟩
      have hq : q < ks.length := by omega
      have HL := Lib.hid (leads_at (k := k) hq)
      rcases hk with h0 | ⟨b, off, rfl, hlt, hc⟩
      · rw [h0] at hq; simp at hq
      · have hcell := hc q hq
        clear hc
        generalize ks[q] = x at hcell HL
        have d1 : decide ((0 : Int) < (q : Int) + 1) = true := decide_eq_true h1
        have d2 : decide ((q : Int) + 1 ≤ (ks.length : Int)) = true := decide_eq_true h2
        go_enter Try.func56, Try.ntmps56
        go_wp2
        go_ret
        exact ⟨ret_b (by rw [HL.out]; exact same_text x k), rfl⟩
    · have HL := Lib.hid (leads_no (ks := ks) (k := k) (v := v) (by omega))
      have d1 : decide ((0 : Int) < v) = true := decide_eq_true h1
      have d2 : decide (v ≤ (ks.length : Int)) = false := decide_eq_false h2
      go_enter Try.func56, Try.ntmps56
      go_wp2
      go_ret
      exact ⟨ret_b (by rw [HL.out]), rfl⟩
  · have HL := Lib.hid (leads_no (ks := ks) (k := k) (v := v) (by omega))
    have d1 : decide ((0 : Int) < v) = false := decide_eq_false h1
    go_enter Try.func56, Try.ntmps56
    go_wp2
    go_ret
    exact ⟨ret_b (by rw [HL.out]), rfl⟩

/-- One round of a search. -/
theorem round_stop {T : List Int} {ks : List ByteArray} {k : ByteArray} {j : Nat} (h : j ≤ stop T ks k) (hj : j < T.length) :
    ∃ v, T[(first T k + j) % T.length]? = some v ∧ ((v = 0 ∧ stop T ks k = j) ∨ (v ≠ 0 ∧ leadsB ks k v = true ∧ stop T ks k = j) ∨ (v ≠ 0 ∧ leadsB ks k v = false ∧ j + 1 ≤ stop T ks k)) := by
  have h0 : 0 < T.length := by omega
  refine ⟨_, List.getElem?_eq_getElem (Nat.mod_lt _ h0), ?_⟩
  have hr := rot_at (first_lt h0 (k := k)) hj
  rcases find_step (l := rot T (first T k)) (p := stopB ks k) h (by rw [rot_length]; exact hj) with ⟨h1, h2⟩ | ⟨h1, h2⟩
  · rw [hr] at h1
    generalize T[(first T k + j) % T.length]'(Nat.mod_lt _ h0) = v at h1 ⊢
    by_cases hv : v = 0
    · exact .inl ⟨hv, h2⟩
    · refine .inr (.inl ⟨hv, ?_, h2⟩)
      unfold stopB at h1
      rw [Bool.or_eq_true] at h1
      rcases h1 with h1 | h1
      · exact absurd (by simpa using h1) hv
      · exact h1
  · rw [hr] at h1
    generalize T[(first T k + j) % T.length]'(Nat.mod_lt _ h0) = v at h1 ⊢
    unfold stopB at h1
    rw [Bool.or_eq_false_iff] at h1
    exact .inr (.inr ⟨by simpa using h1.1, h1.2, h2⟩)
theorem stop_le (T : List Int) (ks : List ByteArray) (k : ByteArray) : stop T ks k ≤ T.length := by
  have := List.findIdx_le_length (xs := rot T (first T k)) (p := stopB ks k)
  rw [rot_length] at this
  exact this
theorem answer_at {T : List Int} {ks : List ByteArray} {k : ByteArray} {j : Nat} {v : Int} (hm : T.length = sz ks.length) (hj : stop T ks k = j) (hlt : j < T.length) (hv : T[(first T k + j) % T.length]? = some v) :
    place T ks k = (if v = 0 then -1 else v - 1) ∧ looked T ks k = j + 1 := by
  have h0 : 0 < T.length := by omega
  unfold place looked
  rw [if_pos hm, if_pos hm, hj, if_pos hlt, rot_get (first_lt h0) hlt, hv]
  exact ⟨rfl, rfl⟩
theorem answer_end {T : List Int} {ks : List ByteArray} {k : ByteArray} (hm : T.length = sz ks.length) (hj : T.length ≤ stop T ks k) :
    place T ks k = -1 ∧ looked T ks k = T.length := by
  unfold place looked
  rw [if_pos hm, if_pos hm, if_neg (by omega), List.getElem?_eq_none (by rw [rot_length]; exact hj)]
  exact ⟨rfl, rfl⟩
theorem answer_no {T : List Int} {ks : List ByteArray} {k : ByteArray} (hm : ¬ T.length = sz ks.length) : place T ks k = -1 ∧ looked T ks k = 0 := by
  unfold place looked
  rw [if_neg hm, if_neg hm]
  exact ⟨rfl, rfl⟩
theorem ret_two {a b c d : Int} (h : a = c) (h2 : b = d) : Ending.returned (.tuple #[.int .i64 a, .int .i64 b]) = .returned (.tuple #[.int .i64 c, .int .i64 d]) := by rw [h, h2]

set_option maxHeartbeats 4000000 in
theorem find_any (a : Option Addr) (T : List Int) (c : Nat) (b : Option Addr) (ks : List ByteArray) (d : Nat) (k : ByteArray) (w : World) (hT : Nums w a T) (hK : Keys w b ks) (h64 : ∀ x ∈ T, In64 x) (hl : ks.length ≤ 1000000) (hm : T.length ≤ 1000000) (hk : k.size ≤ 1000000) :
    Calls Try.prog 44 #[.slice a T.length c, .slice b ks.length d, .string k] w fun e w' => e = .returned (.tuple #[.int .i64 (place T ks k), .int .i64 (looked T ks k : Nat)]) ∧ w = w' := by
  have hz := fun w => size_any (ks.length : Int) (by omega) w
  simp only [Int.toNat_natCast] at hz
  by_cases e0 : T.length = sz ks.length
  · have h2 := sz_two ks.length
    have hf := fun w => first_any k T.length hk (by omega) (by omega) w
    change ∀ w, Calls Try.prog 55 _ w fun e w' => e = .returned (.int .i64 (first T k : Nat)) ∧ w = w' at hf
    have hfl : first T k < T.length := first_lt (by omega)
    have hst := stop_le T ks k
    have HE := Lib.hid (answer_end (k := k) e0)
    have HR := Lib.hid (fun j (h : j ≤ stop T ks k) (hj : j < T.length) => round_stop h hj)
    have HA := Lib.hid (fun j v (hj : stop T ks k = j) (hlt : j < T.length) (hv : T[(first T k + j) % T.length]? = some v) => answer_at (v := v) e0 hj hlt hv)
    have HT := Lib.hid hT
    have HK := Lib.hid hK
    have H64 := Lib.hid h64
    have e1 : ((T.length : Int) != ((sz ks.length : Nat) : Int)) = false := by rw [e0]; simp
    have e2 : (T.length : Int) = ((sz ks.length : Nat) : Int) := by rw [e0]
    rw [← e0] at hz
    clear e0 hT hK h64 e1 e2
    go_enter Try.func44, Try.ntmps44
    go_wp2_with fail
    refine (hz _).mono ?_
    rintro e w1 ⟨rfl, rfl⟩
    go_wp2_with fail
    refine (hf _).mono ?_
    rintro e w1 ⟨rfl, rfl⟩
    go_wp2
    go_loop [8, 9] (fun av lv => ∃ j : Nat, j ≤ stop T ks k ∧ j ≤ T.length ∧ av = .int .i64 ((first T k + j) % T.length : Nat) ∧ lv = .int .i64 ((j : Int) + 1)) (fun _ lv => T.length + 1 - (intOf lv).toNat)
    case atStart => exact ⟨0, by omega, by omega, by rw [Nat.add_zero, Nat.mod_eq_of_lt hfl], rfl⟩
    case round =>
      obtain ⟨j, hj, hjm, rfl, rfl⟩ := hrel
      by_cases h1 : j < T.length
      · have i1 : (j : Int) + 1 ≤ (T.length : Int) := by omega
        obtain ⟨v, hv, hcase⟩ := HR.out j hj h1
        have HV := Lib.hid hv
        have hpl : (first T k + j) % T.length < T.length := Nat.mod_lt _ (by omega)
        have hnx := fun w => next_any ((first T k + j) % T.length) T.length hpl (by omega) w
        rw [slot_next] at hnx
        have hv64 : In64 v := H64.out v (List.mem_of_getElem? hv)
        have hld := fun w hk => lead_any v hv64 b ks d k w hk
        have hcl : ∃ g off, a = some ⟨g, off, none⟩ ∧ w.cell? ⟨g, off + (first T k + j) % T.length, none⟩ = some (.int .i64 v) := by
          rcases HT.out with h0 | ⟨g, off, rfl, _, hc⟩
          · rw [h0] at h1; simp at h1
          · refine ⟨g, off, rfl, ?_⟩
            rw [hc _ hpl]
            rw [List.getElem?_eq_getElem hpl] at hv
            rw [Option.some.inj hv]
        obtain ⟨g, off, rfl, hcell⟩ := hcl
        have HA2 := Lib.hid (fun (hs : stop T ks k = j) => HA.out j v hs h1 hv)
        have HN : ((first T k + (j + 1)) % T.length : Nat) < T.length := Nat.mod_lt _ (by omega)
        clear hv
        generalize (first T k + j) % T.length = p at hpl hnx hcell HV
        obtain ⟨v0, v1⟩ := hv64
        rcases hcase with ⟨h2, h3⟩ | ⟨h2, h3, h4⟩ | ⟨h2, h3, h4⟩
        · have HX := Lib.hid (HA2.out h3)
          subst h2
          have e1 : ((0 : Int) == 0) = true := rfl
          clear h3
          go_wp2
          go_ret2
          exact ⟨ret_two (by rw [HX.out.1]; rfl) (by rw [HX.out.2]; rfl), rfl⟩
        · have HX := Lib.hid (HA2.out h4)
          have HV2 := Lib.hid h2
          have e1 : (v == 0) = false := by simpa using h2
          obtain ⟨h5, h6⟩ := leads_iff.1 h3
          have h7 := (List.getElem?_eq_some_iff.1 h6).1
          clear h4 h6
          rw [h3] at hld
          clear h3
          go_wp2_with fail
          refine (hld _ HK.out).mono ?_
          rintro e w1 ⟨rfl, rfl⟩
          go_wp2
          go_ret2
          exact ⟨ret_two (by rw [HX.out.1, if_neg HV2.out]) (by rw [HX.out.2]; rfl), rfl⟩
        · have e1 : (v == 0) = false := by simpa using h2
          rw [h3] at hld
          clear h3
          go_wp2_with fail
          refine (hld _ HK.out).mono ?_
          rintro e w1 ⟨rfl, rfl⟩
          go_wp2_with fail
          refine (hnx _).mono ?_
          rintro e w1 ⟨rfl, rfl⟩
          go_wp2
          go_round
          case rel => exact ⟨j + 1, by omega, by omega, rfl, by go_num⟩
          case measure => simp [intOf]; omega
      · have i1 : ¬ (j : Int) + 1 ≤ (T.length : Int) := by omega
        have HX := Lib.hid (HE.out (by omega))
        go_wp2
        go_ret2
        exact ⟨ret_two (by rw [HX.out.1]) (by rw [HX.out.2]), rfl⟩
  · have HX := Lib.hid (answer_no (k := k) e0)
    have e1 : ((T.length : Int) != ((sz ks.length : Nat) : Int)) = true := by simp; omega
    have e2 : ¬ (T.length : Int) = ((sz ks.length : Nat) : Int) := by omega
    clear hT hK h64
    go_enter Try.func44, Try.ntmps44
    go_wp2_with fail
    refine (hz _).mono ?_
    rintro e w1 ⟨rfl, rfl⟩
    go_wp2
    go_ret2
    exact ⟨ret_two (by rw [HX.out.1]) (by rw [HX.out.2]; rfl), rfl⟩
end Go.Proofs.Ytjlifkhpohfiaaa
