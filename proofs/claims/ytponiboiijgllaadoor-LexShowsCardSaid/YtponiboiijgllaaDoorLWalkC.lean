/- What lex.Number and lex.Name answer of any text. Condition: the text has at most 1000000 bytes. -/
import Derived.Test.YtponiboiijgllaaDoorLWalkB
import Derived.Test.YtponiboiijgllaaDoorRWalkR
namespace Go.Proofs.YtponiboiijgllaaDoor
open Go.RowKit
set_option maxRecDepth 100000

theorem cut_minus (l : List UInt8) : Lib.trimPrefix l [45] = digL l ∧ Lib.hasPrefix l [45] = (l.head? == some 45) := by
  have hp : Lib.hasPrefix l [45] = (l.head? == some 45) := by
    rcases l with _ | ⟨c, t⟩
    · rfl
    · show (45 == c && List.isPrefixOf [] t) = (some c == some 45)
      by_cases h : c = 45
      · subst h; simp
      · have h' : ¬ (45 : UInt8) = c := fun k => h k.symm
        rw [show (45 == c) = false by simpa using h', show (some c == some (45 : UInt8)) = false by simpa using h]
        rfl
  refine ⟨?_, hp⟩
  unfold Lib.trimPrefix digL
  rw [hp]
  by_cases h : l.head? = some 45
  · simp [h]
  · simp [h]
theorem cut_any (s : ByteArray) (w : World) : Calls Tryd.prog 25 #[.string s, .string ⟨#[45]⟩] w fun e w' => e = .returned (.tuple #[.string ⟨(digL s.data.toList).toArray⟩, .bool (s.data.toList.head? == some 45)]) ∧ w = w' := by
  refine (Tryd.strings_CutPrefix s _ w).mono ?_
  rintro e w' ⟨rfl, rfl⟩
  have := cut_minus s.data.toList
  show Ending.returned (.tuple #[.string ⟨(Lib.trimPrefix s.data.toList [45]).toArray⟩, .bool (Lib.hasPrefix s.data.toList [45])]) = _ ∧ _
  rw [this.1, this.2]
  exact ⟨rfl, rfl⟩

def numV (o : Option Int) : Value := match o with | some n => .tuple #[.int .i64 n, .bool true] | none => .tuple #[.int .i64 0, .bool false]
/-- What strings.CutPrefix answers of a number's text. -/
abbrev Cuts (s d : ByteArray) (b : Bool) : Prop := ∀ W, Calls Tryd.prog 25 #[.string s, .string ⟨#[45]⟩] W fun e w' => e = .returned (.tuple #[.string d, .bool b]) ∧ W = w'
theorem bytes_eq (s : ByteArray) (l : List UInt8) (h : s.data.toList = l) : (s.toList == l) = true := by rw [Lib.toList_data, h]; simp
theorem bytes_ne (s : ByteArray) (l : List UInt8) (h : s.data.toList ≠ l) : (s.toList == l) = false := by rw [Lib.toList_data]; simpa using h

set_option maxHeartbeats 1000000 in
theorem number_zero (s d : ByteArray) (b : Bool) (w : World) (hc : Cuts s d b) (h : d.data.toList = [48]) :
    Calls Tryd.prog 11 #[.string s] w fun e w' => e = .returned (.tuple #[.int .i64 0, .bool !b]) ∧ w = w' := by
  have t0 := bytes_eq d _ h
  clear h
  go_enter Tryd.func11, Tryd.ntmps11
  go_wp2_with (go_at_call 25; refine (hc _).mono ?_; rintro e w' ⟨rfl, rfl⟩)
  go_ret2
  exact ⟨rfl, rfl⟩
set_option maxHeartbeats 1000000 in
theorem number_empty (s d : ByteArray) (b : Bool) (w : World) (hc : Cuts s d b) (h : d.data.toList = []) :
    Calls Tryd.prog 11 #[.string s] w fun e w' => e = .returned (numV none) ∧ w = w' := by
  have t0 := bytes_ne d [48] (by rw [h]; simp)
  have t1 : d.toList = [] := by rw [Lib.toList_data, h]
  have t2 : d.toList.isEmpty = true := by rw [t1]; rfl
  clear h
  go_enter Tryd.func11, Tryd.ntmps11
  go_wp2_with (go_at_call 25; refine (hc _).mono ?_; rintro e w' ⟨rfl, rfl⟩)
  go_ret2
  exact ⟨rfl, rfl⟩
set_option maxHeartbeats 1000000 in
theorem number_lead (s d : ByteArray) (b : Bool) (w : World) (hc : Cuts s d b) (h0 : 0 < d.size) (h48 : (d[0]'h0).toNat = 48) (h : d.data.toList ≠ [48]) :
    Calls Tryd.prog 11 #[.string s] w fun e w' => e = .returned (numV none) ∧ w = w' := by
  have t0 := bytes_ne d [48] h
  have t2 := not_empty h0
  have t3 : (((d[0]'h0).toNat : Int) == 48) = true := by simp; omega
  clear h h48
  go_enter Tryd.func11, Tryd.ntmps11
  go_wp2_with (go_at_call 25; refine (hc _).mono ?_; rintro e w' ⟨rfl, rfl⟩)
  go_ret2
  exact ⟨rfl, rfl⟩
set_option maxHeartbeats 1000000 in
theorem number_long (s d : ByteArray) (b : Bool) (w : World) (hc : Cuts s d b) (hd : d.size ≤ 1000000) (h15 : 15 < d.size) (h48 : (d[0]'(by omega)).toNat ≠ 48) :
    Calls Tryd.prog 11 #[.string s] w fun e w' => e = .returned (numV none) ∧ w = w' := by
  have h0 : 0 < d.size := by omega
  have t0 := bytes_ne d [48] (fun k => by
    have : d.size = 1 := by rw [← len_data, k]; rfl
    omega)
  have t2 := not_empty h0
  have t3 : (((d[0]'h0).toNat : Int) == 48) = false := by simp; omega
  have t4 : (15 : Int) < (d.size : Int) := by omega
  clear h48
  go_enter Tryd.func11, Tryd.ntmps11
  go_wp2_with (go_at_call 25; refine (hc _).mono ?_; rintro e w' ⟨rfl, rfl⟩)
  go_ret2
  exact ⟨rfl, rfl⟩

theorem dig_low {d : ByteArray} {pos : Nat} (hp : pos < d.size) (h : isDig (d[pos]'hp) = true) : Utf8.decode d pos = ((d[pos]'hp).toNat, 1) ∧ 48 ≤ (d[pos]'hp).toNat ∧ (d[pos]'hp).toNat ≤ 57 := by
  simp [isDig] at h
  exact ⟨decode_low hp (by omega), h⟩
theorem dig_class {d : ByteArray} {pos : Nat} (hp : pos < d.size) : (classZ ((Utf8.decode d pos).1 : Nat) = 2) ↔ isDig (d[pos]'hp) = true := by
  have hz : ∀ r : Nat, classZ (r : Nat) = 2 ↔ 48 ≤ r ∧ r ≤ 57 := by
    intro r
    unfold classZ
    repeat' split
    all_goals omega
  rw [hz]
  simp only [isDig, decide_eq_true_iff]
  by_cases hc : (d[pos]'hp).toNat < 128
  · rw [decode_low hp hc]
  · have := (decode_high hp (by omega)).1
    omega
theorem take_next {d : ByteArray} {pos : Nat} (hp : pos < d.size) : d.data.toList.take (pos + 1) = d.data.toList.take pos ++ [d[pos]'hp] := by
  rw [List.take_succ_eq_append_getElem (by simpa using hp)]
  rfl

/-- The number of digits; none, where something else stands among them. -/
def digsV (l : List UInt8) (b : Bool) : Option Int := if l.all isDig then some (if b then -(valL l : Int) else valL l) else none
theorem digsV_yes {l : List UInt8} (h : l.all isDig = true) (b : Bool) : digsV l b = some (if b then -(valL l : Int) else valL l) := by unfold digsV; rw [h]; rfl
theorem digsV_no {l : List UInt8} (h : l.all isDig = false) (b : Bool) : digsV l b = none := by unfold digsV; rw [h]; rfl
set_option maxHeartbeats 2000000 in
theorem number_loop (s d : ByteArray) (b : Bool) (w : World) (hc : Cuts s d b) (h1 : 1 ≤ d.size) (h15 : d.size ≤ 15) (h48 : (d[0]'(by omega)).toNat ≠ 48) :
    Calls Tryd.prog 11 #[.string s] w fun e w' => e = .returned (numV (digsV d.data.toList b)) ∧ Below w.heap.size w w' := by
  have h0 : 0 < d.size := by omega
  have t0 := bytes_ne d [48] (fun k => h48 (by
    have e := drop_at h0
    rw [List.drop_zero, k] at e
    simp only [List.cons.injEq] at e
    rw [← e.1]; rfl))
  have t2 := not_empty h0
  have t3 : (((d[0]'h0).toNat : Int) == 48) = false := by simp; omega
  have t4 : (d.size : Int) ≤ 15 := by omega
  clear h48
  go_enter Tryd.func11, Tryd.ntmps11
  go_wp2_with (go_at_call 25; refine (hc _).mono ?_; rintro e w' ⟨rfl, rfl⟩)
  go_loopw [6] (fun nv wr => ∃ pos : Nat, wr = w.iter d pos ∧ nv = .int .i64 (valL (d.data.toList.take pos)) ∧ pos ≤ d.size ∧ Hid (∀ c ∈ d.data.toList.take pos, isDig c = true)) (fun _ wr => d.size - wr.iterPos w.heap.size)
  case atStart => exact ⟨0, rfl, rfl, by omega, Lib.hid (by simp)⟩
  case round =>
    obtain ⟨pos, rfl, rfl, hps, HD⟩ := hrel
    have hv : valL (d.data.toList.take pos) < 1000000000000000 := valL_bd (by rw [List.length_take, len_data]; omega) HD.out
    by_cases hp : pos < d.size
    · have hnx : ∀ ty, (Instr.next (.pointer (some ⟨w.heap.size, 0, none⟩)) true ty).run Tryd.prog (w.iter d pos) = _ := fun ty => run_next_any w d pos ty hp
      by_cases hd : isDig (d[pos]'hp) = true
      · obtain ⟨e1, e2, e3⟩ := dig_low hp hd
        have hcl := (dig_class hp).2 hd
        rw [e1] at hcl hnx
        have tc : (classZ (((d[pos]'hp).toNat : Nat) : Int) != 2) = false := by rw [hcl]; rfl
        have HD2 : Hid (∀ c ∈ d.data.toList.take (pos + 1), isDig c = true) := Lib.hid (by
          rw [take_next hp]
          intro c hc
          rw [List.mem_append] at hc
          rcases hc with hc | hc
          · exact HD.out c hc
          · simp at hc; rw [hc]; exact hd)
        have HV : Hid (valL (d.data.toList.take (pos + 1)) = 10 * valL (d.data.toList.take pos) + ((d[pos]'hp).toNat - 48)) := Lib.hid (by rw [take_next hp, valL_snoc])
        clear hcl hd e1
        go_wp2_with (go_at_call 26; refine (class_any _ _).mono ?_; rintro e w' ⟨rfl, rfl⟩)
        go_roundw
        case rel =>
          refine ⟨_, rfl, ?_, by omega, HD2⟩
          have := HV.out
          go_num
        case measure => simp; omega
      · have hcl : classZ ((Utf8.decode d pos).1 : Nat) ≠ 2 := fun k => hd ((dig_class hp).1 k)
        have tc : (classZ ((Utf8.decode d pos).1 : Nat) != 2) = true := by simpa using hcl
        have HA : Hid (d.data.toList.all isDig = false) := Lib.hid (by
          rw [Bool.eq_false_iff]
          intro k
          rw [List.all_eq_true] at k
          exact hd (k _ (by
            have := drop_at hp
            exact List.mem_of_mem_drop (i := pos) (by rw [this]; simp))))
        clear hcl hd
        go_wp2_with (go_at_call 26; refine (class_any _ _).mono ?_; rintro e w' ⟨rfl, rfl⟩)
        go_ret2
        rw [digsV_no HA.out]
        exact ⟨rfl, below_iter0 _ _ _⟩
    · have hnx : ∀ ty, (Instr.next (.pointer (some ⟨w.heap.size, 0, none⟩)) true ty).run Tryd.prog (w.iter d pos) = _ := fun ty => run_next_end w d pos ty hp
      have HT : Hid (d.data.toList.take pos = d.data.toList) := Lib.hid (List.take_of_length_le (by rw [len_data]; omega))
      have HA : Hid (d.data.toList.all isDig = true) := Lib.hid (by rw [List.all_eq_true]; rw [HT.out] at HD; exact HD.out)
      cases b
      all_goals
        go_wp2
        go_ret2
        rw [digsV_yes HA.out, HT.out]
        exact ⟨rfl, below_iter0 _ _ _⟩

theorem digL_len (l : List UInt8) : (digL l).length ≤ l.length ∧ ((l.head? == some 45) = true ↔ (digL l).length < l.length) := by
  rcases l with _ | ⟨c, t⟩
  · simp [digL]
  · by_cases h : c = 45
    · subst h; simp [digL]
    · simp [digL, h]
theorem lexNumber_any (s : ByteArray) (w : World) (hs : s.size ≤ 1000000) :
    Calls Tryd.prog 11 #[.string s] w fun e w' => e = .returned (numV (numL s.data.toList)) ∧ Below w.heap.size w w' := by
  obtain ⟨d, hd⟩ : ∃ d : ByteArray, d = ⟨(digL s.data.toList).toArray⟩ := ⟨_, rfl⟩
  obtain ⟨b, hb⟩ : ∃ b : Bool, b = (s.data.toList.head? == some 45) := ⟨_, rfl⟩
  have hc : Cuts s d b := fun W => by rw [hd, hb]; exact cut_any s W
  have hdl : d.data.toList = digL s.data.toList := by rw [hd]
  obtain ⟨hle, hlt⟩ := digL_len s.data.toList
  rw [← hb, ← hdl, len_data, len_data] at hlt
  rw [← hdl, len_data, len_data] at hle
  have hN : numL s.data.toList = if d.size < 1 ∨ 15 < d.size ∨ (d.data.toList.head? = some 48 ∧ 1 < s.size) then none
      else if d.data.toList.all isDig then some (if d.size < s.size then -(valL d.data.toList : Int) else valL d.data.toList) else none := by
    unfold numL
    rw [← hdl, len_data, len_data]
  by_cases e0 : d.data.toList = []
  · have hz : d.size < 1 := by
      have : d.size = 0 := by rw [← len_data, e0]; rfl
      omega
    rw [hN, if_pos (.inl hz)]
    refine (number_empty s d b w hc e0).mono ?_
    rintro e w' ⟨rfl, rfl⟩
    exact ⟨rfl, Below.refl _ _⟩
  have h0 : 0 < d.size := by
    have := List.length_pos_iff.2 e0
    rw [len_data] at this
    exact this
  have hhd : d.data.toList.head? = some (d[0]'h0) := by
    have := drop_at h0
    rw [List.drop_zero] at this
    rw [this]; rfl
  by_cases e1 : d.data.toList = [48]
  · have hz : d.size = 1 := by rw [← len_data, e1]; rfl
    refine (number_zero s d b w hc e1).mono ?_
    rintro e w' ⟨rfl, rfl⟩
    refine ⟨?_, Below.refl _ _⟩
    rw [hN]
    cases b
    · have : ¬ d.size < s.size := fun k => by have := hlt.2 k; cases this
      rw [if_neg (by rw [hz]; intro k; rcases k with k | k | k <;> omega), e1, if_neg this]
      rfl
    · have := hlt.1 rfl
      rw [if_pos (.inr (.inr ⟨by rw [e1]; rfl, by omega⟩))]
      rfl
  by_cases e2 : (d[0]'h0).toNat = 48
  · have hz : 1 < d.size := by
      rcases Nat.lt_or_ge 1 d.size with k | k
      · exact k
      · exfalso
        apply e1
        have h1 := drop_at h0
        rw [List.drop_zero, List.drop_eq_nil_of_le (by rw [len_data]; omega), (u8_eq (d[0]'h0) 48 (by omega)).2 e2] at h1
        exact h1
    rw [hN, if_pos (.inr (.inr ⟨by rw [hhd, (u8_eq (d[0]'h0) 48 (by omega)).2 e2]; rfl, by omega⟩))]
    refine (number_lead s d b w hc h0 e2 e1).mono ?_
    rintro e w' ⟨rfl, rfl⟩
    exact ⟨rfl, Below.refl _ _⟩
  by_cases e3 : 15 < d.size
  · rw [hN, if_pos (.inr (.inl e3))]
    refine (number_long s d b w hc (by omega) e3 e2).mono ?_
    rintro e w' ⟨rfl, rfl⟩
    exact ⟨rfl, Below.refl _ _⟩
  · rw [hN, if_neg (by
      rintro (k | k | k)
      · omega
      · omega
      · rw [hhd] at k
        simp only [Option.some.injEq] at k
        exact e2 (by rw [k.1]; rfl))]
    have hb2 : (if d.size < s.size then -(valL d.data.toList : Int) else valL d.data.toList) = if b then -(valL d.data.toList : Int) else valL d.data.toList := by
      by_cases k : b = true
      · rw [if_pos k, if_pos (hlt.1 k)]
      · rw [if_neg k, if_neg (fun h => k (hlt.2 h))]
    rw [hb2]
    show Calls Tryd.prog 11 #[.string s] w fun e w' => e = .returned (numV (digsV d.data.toList b)) ∧ Below w.heap.size w w'
    exact number_loop s d b w hc h0 (by omega) e2
end Go.Proofs.YtponiboiijgllaaDoor
