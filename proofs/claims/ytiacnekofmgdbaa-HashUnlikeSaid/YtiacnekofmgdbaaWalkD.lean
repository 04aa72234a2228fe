/- HashOne answers true of any text, any place and any byte. No condition. -/
import Derived.Test.YtiacnekofmgdbaaWalkC
import Derived.Laws.IdiomStrings
import Derived.Laws.MakeOwn
namespace Go.Proofs.Ytiacnekofmgdbaa
open Go.RowKit Go.Op
set_option maxRecDepth 100000

theorem ret_bool {a b : Bool} (h : a = b) : Ending.returned (.bool a) = .returned (.bool b) := by rw [h]
theorem made_below (s : ByteArray) (w : World) : Below w.heap.size w (w.drew.alloc (.cells (bytesRow s (grownCap w s.size 0 5)) 5 ((bytesRow s (grownCap w s.size 0 5)).size, (bytesRow s (grownCap w s.size 0 5)).size + 1))) :=
  Below.alloc (B := w.heap.size) (a := w) (w := w.drew) ⟨rfl, rfl, rfl, Nat.le_refl _, fun _ _ => rfl⟩ (Nat.le_refl _) _
theorem made_cell (s : ByteArray) (w : World) (C : Nat) (fr : Nat × Nat) (j : Nat) (hj : j < s.size) : (w.drew.alloc (.cells (bytesRow s C) 5 fr)).cell? ⟨w.heap.size, j, none⟩ = some (.int .u8 ((s[j]'hj).toNat : Nat)) := by
  have := World.cell?_alloc_mark w.drew (bytesRow s C) 5 fr j
  rw [show w.drew.heap.size = w.heap.size from rfl] at this
  rw [this, bytesRow_at s C j hj]
  rfl
theorem row_size (s : ByteArray) (C : Nat) : s.size ≤ (bytesRow s C).size := by
  unfold bytesRow
  simp only [Array.size_append, Array.size_map]
  exact Nat.le_add_right _ _
theorem made_frozen (s : ByteArray) (w : World) (C : Nat) (j : Nat) (hj : j < s.size) : (w.drew.alloc (.cells (bytesRow s C) 5 ((bytesRow s C).size, (bytesRow s C).size + 1))).frozen? ⟨w.heap.size, j, none⟩ = false := by
  have := World.frozen?_alloc_mark w.drew (bytesRow s C) 5 (bytesRow s C).size ((bytesRow s C).size + 1) j
  rw [show w.drew.heap.size = w.heap.size from rfl] at this
  have h := row_size s C
  rw [this, decide_eq_false (by omega)]
  rfl
theorem made (s : ByteArray) (w : World) : ∃ W C, (convert 9 31 (.string s)).run Try.prog w = .ok (.slice (some ⟨w.heap.size, 0, none⟩) s.size C) W ∧ Below w.heap.size w W ∧ (∀ j (hj : j < s.size), W.cell? ⟨w.heap.size, j, none⟩ = some (.int .u8 ((s[j]'hj).toNat : Nat))) ∧ (∀ j, j < s.size → W.frozen? ⟨w.heap.size, j, none⟩ = false) :=
  ⟨_, _, run_bytes_of_string (P := Try.prog) w 9 31 5 s Try.underlying9 Try.underlying31 Try.underlying5, made_below s w, fun j hj => made_cell s w _ _ j hj, fun j hj => made_frozen s w _ j hj⟩
def other (s : ByteArray) (r c : Nat) (hr : r < s.size) : List UInt8 := s.data.toList.set r (UInt8.ofNat ((s[r]'hr).toNat ^^^ c))
theorem other_byte (a : UInt8) (c : Nat) (hc : c < 256) : (UInt8.ofNat (a.toNat ^^^ c)).toNat = a.toNat ^^^ c := by
  exact UInt8.toNat_ofNat_of_lt' (Nat.xor_lt_two_pow (n := 8) a.toNat_lt hc)
theorem other_back (s : ByteArray) (r c : Nat) (hr : r < s.size) (hc : c < 256) (C : Nat) (b : Nat) (W : World) (hcell : ∀ j (hj : j < s.size), W.cell? ⟨b, j, none⟩ = some (.int .u8 ((s[j]'hj).toNat : Nat))) :
    (convert 31 9 (.slice (some ⟨b, 0, none⟩) s.size C)).run Try.prog (W.setCell ⟨b, r, none⟩ (.int .u8 (((s[r]'hr).toNat ^^^ c : Nat) : Int))) = .ok (.string ⟨(other s r c hr).toArray⟩) (W.setCell ⟨b, r, none⟩ (.int .u8 (((s[r]'hr).toNat ^^^ c : Nat) : Int))) := by
  have hl : (other s r c hr).length = s.size := by unfold other; rw [List.length_set]; rfl
  have := run_convert_bytes_back (P := Try.prog) (W.setCell ⟨b, r, none⟩ (.int .u8 (((s[r]'hr).toNat ^^^ c : Nat) : Int))) 31 9 5 ⟨b, 0, none⟩ C (other s r c hr) Try.underlying31 Try.underlying5 Try.underlying9 (fun j hj => by
    have hj' : j < s.size := by omega
    have ea : (⟨b, 0, none⟩ : Addr).add j = ⟨b, j, none⟩ := by unfold Addr.add; split <;> simp_all
    rw [ea]
    by_cases e : j = r
    · subst e
      rw [World.cell?_setCell_same W ⟨b, j, none⟩ _ (hcell j hj')]
      have : (other s j c hr)[j] = UInt8.ofNat ((s[j]'hr).toNat ^^^ c) := by
        simp only [other, List.getElem_set_self]
      rw [this, other_byte _ _ hc]
    · rw [World.cell?_setCell_other W ⟨b, r, none⟩ ⟨b, j, none⟩ _ (by simp only [ne_eq, Addr.mk.injEq, true_and, and_true]; omega), hcell j hj']
      have : (other s r c hr)[j] = s[j] := by
        simp only [other]
        rw [List.getElem_set_ne (by omega)]
        rfl
      rw [this])
  rw [hl] at this
  exact this
theorem other_zero (s : ByteArray) (r : Nat) (hr : r < s.size) : (⟨(other s r 0 hr).toArray⟩ : ByteArray) = s := by
  have : other s r 0 hr = s.data.toList := by
    unfold other
    rw [Nat.xor_zero, UInt8.ofNat_toNat]
    have hl : r < s.data.toList.length := by rw [len_data]; exact hr
    exact List.set_getElem_self hl
  rw [this]
theorem xor_same {a c : Nat} (h : a ^^^ c = a) : c = 0 := by
  have : a ^^^ (a ^^^ c) = a ^^^ a := by rw [h]
  rwa [← Nat.xor_assoc, Nat.xor_self, Nat.zero_xor] at this
theorem other_unlike (s : ByteArray) (r c : Nat) (hr : r < s.size) (hc : c < 256) (h0 : c ≠ 0) : sum ⟨(other s r c hr).toArray⟩ ≠ sum s := by
  intro h
  have h1 := fin_inj (word_lt (by decide) _) (word_lt (by decide) _) h
  have hl : r < s.data.toList.length := by rw [len_data]; exact hr
  have e1 : s.data.toList = s.data.toList.take r ++ (s[r]'hr) :: s.data.toList.drop (r + 1) := by
    rw [show (s[r]'hr) = s.data.toList[r] from rfl, ← List.drop_eq_getElem_cons hl, List.take_append_drop]
  have e2 : other s r c hr = s.data.toList.take r ++ (UInt8.ofNat ((s[r]'hr).toNat ^^^ c)) :: s.data.toList.drop (r + 1) := by
    unfold other
    rw [List.set_eq_take_append_cons_drop, if_pos hl]
  have h2 : word 0 (other s r c hr) = word 0 s.data.toList := h1
  rw [e2] at h2
  have h3 : word 0 s.data.toList = word 0 (s.data.toList.take r ++ (s[r]'hr) :: s.data.toList.drop (r + 1)) := congrArg (word 0) e1
  rw [h3] at h2
  have h4 := congrArg UInt8.toNat (word_byte 0 _ _ _ _ h2)
  rw [other_byte _ _ hc] at h4
  exact h0 (xor_same h4)
set_option maxHeartbeats 1000000 in
theorem one_any (s : ByteArray) (m c : Nat) (hm : m < 65536) (hc : c < 256) (w : World) : Calls Try.prog 6 #[.string s, .int .u16 (m : Int), .int .u8 (c : Int)] w fun e w' => e = .returned (.bool true) ∧ Below w.heap.size w w' := by
  by_cases h0 : s.size ≤ 300
  · have d : decide (300 < (s.size : Int)) = false := decide_eq_false (by omega)
    have g : ¬ 300 < (s.size : Int) := by omega
    by_cases h2 : s.size = 0
    · have d2 : ((s.size : Int) == 0) = true := by rw [beq_iff_eq]; omega
      go_enter Try.func6, Try.ntmps6
      go_wp2_with fail
      refine (awake_any _).mono ?_
      rintro e w1 ⟨rfl, rfl⟩
      go_wp2_with fail
      refine (awake_any _).mono ?_
      rintro e w1 ⟨rfl, rfl⟩
      go_wp2
      go_ret
      exact ⟨rfl, Below.refl _ _⟩
    · have d2 : ((s.size : Int) == 0) = false := by rw [beq_eq_false_iff_ne]; omega
      have d3 : ¬ (s.size : Int) = 0 := by omega
      obtain ⟨r, er⟩ : ∃ r, r = m % s.size := ⟨_, rfl⟩
      have hr : r < s.size := by rw [er]; exact Nat.mod_lt _ (by omega)
      have er2 : (m : Int) % (s.size : Int) = (r : Int) := by rw [er]; omega
      clear er
      have hr2 : (r : Int) < (s.size : Int) := by omega
      obtain ⟨W, C, hcv, hB, hcell, hfr⟩ := made s w
      have hbk := other_back s r c hr hc C w.heap.size W hcell
      rw [← u8_xor_nat _ c (UInt8.toNat_lt _) hc] at hbk
      have hce := hcell r hr
      have hfe := hfr r hr
      have hsz : (⟨(other s r c hr).toArray⟩ : ByteArray).size = s.size := by show (other s r c hr).toArray.size = s.size; simp only [other, List.size_toArray, List.length_set]; rfl
      have ho := fun w => of_any s (by omega) w
      have hp := fun w => of_any ⟨(other s r c hr).toArray⟩ (by omega) w
      have HZ : c = 0 → sum ⟨(other s r c hr).toArray⟩ = sum s := fun e => by subst e; rw [other_zero]
      have HU : c ≠ 0 → sum ⟨(other s r c hr).toArray⟩ ≠ sum s := other_unlike s r c hr hc
      obtain ⟨T, eT⟩ : ∃ T : ByteArray, T = ⟨(other s r c hr).toArray⟩ := ⟨_, rfl⟩
      rw [← eT] at hbk hp HZ HU
      clear eT hsz
      have hq : ((((sum T : Nat) : Int) == ((sum s : Nat) : Int)) == ((c : Int) == 0)) = true := by
        by_cases e : c = 0
        · rw [HZ e, e]; simp
        · have h1 : (((sum T : Nat) : Int) == ((sum s : Nat) : Int)) = false := by rw [beq_eq_false_iff_ne]; intro h; exact HU e (by omega)
          have h2 : ((c : Int) == 0) = false := by rw [beq_eq_false_iff_ne]; omega
          rw [h1, h2]; rfl
      have HQ := Lib.hid hq
      clear HZ HU hq
      go_enter Try.func6, Try.ntmps6
      go_wp2_with fail
      refine (awake_any _).mono ?_
      rintro e w1 ⟨rfl, rfl⟩
      go_wp2_with fail
      rw [er2]
      have hi : 0 ≤ (r : Int) ∧ (r : Int) < (s.size : Int) := ⟨by omega, hr2⟩
      clear er2
      go_wp2_with fail
      refine (hp _).mono ?_
      rintro e w1 ⟨rfl, rfl⟩
      go_wp2_with fail
      refine (ho _).mono ?_
      rintro e w1 ⟨rfl, rfl⟩
      go_wp2
      go_ret
      exact ⟨ret_bool HQ.out, hB.setCell (Nat.le_refl _) _⟩
  · have d : decide (300 < (s.size : Int)) = true := decide_eq_true (by omega)
    have g : 300 < (s.size : Int) := by omega
    go_enter Try.func6, Try.ntmps6
    go_wp2_with fail
    refine (awake_any _).mono ?_
    rintro e w1 ⟨rfl, rfl⟩
    go_wp2_with fail
    refine (awake_any _).mono ?_
    rintro e w1 ⟨rfl, rfl⟩
    go_wp2
    go_ret
    exact ⟨rfl, Below.refl _ _⟩
theorem nat_u32 {a : Int} (h : (Lit.int .u32 a).wf = true) : ∃ n : Nat, a = (n : Int) ∧ n < 4294967296 := by
  simp [Lit.wf, IntKind.min, IntKind.max, IntKind.signed, IntKind.bits] at h
  exact ⟨a.toNat, by omega, by omega⟩
theorem nat_u16 {a : Int} (h : (Lit.int .u16 a).wf = true) : ∃ n : Nat, a = (n : Int) ∧ n < 65536 := by
  simp [Lit.wf, IntKind.min, IntKind.max, IntKind.signed, IntKind.bits] at h
  exact ⟨a.toNat, by omega, by omega⟩
theorem nat_u8 {a : Int} (h : (Lit.int .u8 a).wf = true) : ∃ n : Nat, a = (n : Int) ∧ n < 256 := by
  simp [Lit.wf, IntKind.min, IntKind.max, IntKind.signed, IntKind.bits] at h
  exact ⟨a.toNat, by omega, by omega⟩
theorem same_below {Q : Ending → Prop} {w : World} : ∀ e w', Q e ∧ w = w' → Q e ∧ Below w.heap.size w w' := by
  rintro e w' ⟨h, rfl⟩
  exact ⟨h, Below.refl _ _⟩
theorem playsLaw (a : Int) (s : ByteArray) (ha : (Lit.int .u32 a).wf = true) (w : World) : Calls Try.prog 3 #[.int .u32 a, .string s] w fun e w' => e = .returned (.bool true) ∧ Below w.heap.size w w' := by
  obtain ⟨n, rfl, hn⟩ := nat_u32 ha
  exact (plays_any n hn s w).mono same_below
theorem partsLaw (a : Int) (s t : ByteArray) (ha : (Lit.int .u32 a).wf = true) (w : World) : Calls Try.prog 4 #[.int .u32 a, .string s, .string t] w fun e w' => e = .returned (.bool true) ∧ Below w.heap.size w w' := by
  obtain ⟨n, rfl, hn⟩ := nat_u32 ha
  exact (parts_any n hn s t w).mono same_below
theorem unlikeLaw (a b : Int) (s : ByteArray) (ha : (Lit.int .u32 a).wf = true) (hb : (Lit.int .u32 b).wf = true) (w : World) : Calls Try.prog 5 #[.int .u32 a, .int .u32 b, .string s] w fun e w' => e = .returned (.bool true) ∧ Below w.heap.size w w' := by
  obtain ⟨m, rfl, hm⟩ := nat_u32 ha
  obtain ⟨n, rfl, hn⟩ := nat_u32 hb
  exact (unlike_any m n hm hn s w).mono same_below
theorem oneLaw (s : ByteArray) (a b : Int) (ha : (Lit.int .u16 a).wf = true) (hb : (Lit.int .u8 b).wf = true) (w : World) : Calls Try.prog 6 #[.string s, .int .u16 a, .int .u8 b] w fun e w' => e = .returned (.bool true) ∧ Below w.heap.size w w' := by
  obtain ⟨m, rfl, hm⟩ := nat_u16 ha
  obtain ⟨c, rfl, hc⟩ := nat_u8 hb
  exact one_any s m c hm hc w
end Go.Proofs.Ytiacnekofmgdbaa
