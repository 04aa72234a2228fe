/- BoxOrder answers true, its texts not above 300 bytes. -/
import Derived.Test.YtpbhjbdobpejpaaWalkN
namespace Go.Proofs.Ytpbhjbdobpejpaa
open Go.RowKit Go.Op

section
variable {P : Program} {o : Oper} {t : Act} {w : World} {K : Act → World → Prop} {Q : Exit → Act → World → Prop}
theorem wp_value {v : Value} {w' : World} (h : (execOp t.eval o).run P w = .ok (.value v) w') (hk : K (t.put o.dst v) w') : o.wp P t w K Q := by
  unfold Oper.wp
  rw [h]
  exact hk
theorem wp_skip' {w' : World} (h : (execOp t.eval o).run P w = .ok .skip w') (hk : K (t.put o.dst undef) w') : o.wp P t w K Q := by
  unfold Oper.wp
  rw [h]
  exact hk
theorem wp_call {f : FuncId} {args : Array Value} {R : Ending → World → Prop} (h : (execOp t.eval o).run P w = .ok (.enter f args) w) (hc : Calls P f args w R) (hk : ∀ e w', R e w' → ∃ v, e = .returned v ∧ K (t.put o.dst v) w') : o.wp P t w K Q := by
  unfold Oper.wp
  rw [h]
  simp only [Oper.upon]
  refine hc.mono fun e w' he => ?_
  obtain ⟨v, rfl, h2⟩ := hk e w' he
  exact h2
end
theorem wanted_free {o : Oper} {y : Nat → Option Bool} (h : o.guard = none) : Region.wanted o y = true := by
  unfold Region.wanted
  rw [h]
theorem uncons {α : Type} {n : Nat} {l : List α} (h : l.length = n + 1) : ∃ a r, l = a :: r ∧ r.length = n := by
  cases l with
  | nil => simp at h
  | cons a r => exact ⟨a, r, rfl, by simpa using h⟩
theorem act59 {t : Act} (hd : t.defers = []) (hz : t.tmps.size = 59) : ∃ x0 x1 x2 x3 x4 x5 x6 x7 x8 x9 x10 x11 x12 x13 x14 x15 x16 x17 x18 x19 x20 x21 x22 x23 x24 x25 x26 x27 x28 x29 x30 x31 x32 x33 x34 x35 x36 x37 x38 x39 x40 x41 x42 x43 x44 x45 x46 x47 x48 x49 x50 x51 x52 x53 x54 x55 x56 x57 x58 : Value, t = { tmps := #[x0, x1, x2, x3, x4, x5, x6, x7, x8, x9, x10, x11, x12, x13, x14, x15, x16, x17, x18, x19, x20, x21, x22, x23, x24, x25, x26, x27, x28, x29, x30, x31, x32, x33, x34, x35, x36, x37, x38, x39, x40, x41, x42, x43, x44, x45, x46, x47, x48, x49, x50, x51, x52, x53, x54, x55, x56, x57, x58], defers := [] } := by
  obtain ⟨⟨l⟩, df⟩ := t
  simp only at hd hz
  subst hd
  have h0 : l.length = 59 := hz
  clear hz
  obtain ⟨x0, r0, rfl, h1⟩ := uncons h0
  obtain ⟨x1, r1, rfl, h2⟩ := uncons h1
  obtain ⟨x2, r2, rfl, h3⟩ := uncons h2
  obtain ⟨x3, r3, rfl, h4⟩ := uncons h3
  obtain ⟨x4, r4, rfl, h5⟩ := uncons h4
  obtain ⟨x5, r5, rfl, h6⟩ := uncons h5
  obtain ⟨x6, r6, rfl, h7⟩ := uncons h6
  obtain ⟨x7, r7, rfl, h8⟩ := uncons h7
  obtain ⟨x8, r8, rfl, h9⟩ := uncons h8
  obtain ⟨x9, r9, rfl, h10⟩ := uncons h9
  obtain ⟨x10, r10, rfl, h11⟩ := uncons h10
  obtain ⟨x11, r11, rfl, h12⟩ := uncons h11
  obtain ⟨x12, r12, rfl, h13⟩ := uncons h12
  obtain ⟨x13, r13, rfl, h14⟩ := uncons h13
  obtain ⟨x14, r14, rfl, h15⟩ := uncons h14
  obtain ⟨x15, r15, rfl, h16⟩ := uncons h15
  obtain ⟨x16, r16, rfl, h17⟩ := uncons h16
  obtain ⟨x17, r17, rfl, h18⟩ := uncons h17
  obtain ⟨x18, r18, rfl, h19⟩ := uncons h18
  obtain ⟨x19, r19, rfl, h20⟩ := uncons h19
  obtain ⟨x20, r20, rfl, h21⟩ := uncons h20
  obtain ⟨x21, r21, rfl, h22⟩ := uncons h21
  obtain ⟨x22, r22, rfl, h23⟩ := uncons h22
  obtain ⟨x23, r23, rfl, h24⟩ := uncons h23
  obtain ⟨x24, r24, rfl, h25⟩ := uncons h24
  obtain ⟨x25, r25, rfl, h26⟩ := uncons h25
  obtain ⟨x26, r26, rfl, h27⟩ := uncons h26
  obtain ⟨x27, r27, rfl, h28⟩ := uncons h27
  obtain ⟨x28, r28, rfl, h29⟩ := uncons h28
  obtain ⟨x29, r29, rfl, h30⟩ := uncons h29
  obtain ⟨x30, r30, rfl, h31⟩ := uncons h30
  obtain ⟨x31, r31, rfl, h32⟩ := uncons h31
  obtain ⟨x32, r32, rfl, h33⟩ := uncons h32
  obtain ⟨x33, r33, rfl, h34⟩ := uncons h33
  obtain ⟨x34, r34, rfl, h35⟩ := uncons h34
  obtain ⟨x35, r35, rfl, h36⟩ := uncons h35
  obtain ⟨x36, r36, rfl, h37⟩ := uncons h36
  obtain ⟨x37, r37, rfl, h38⟩ := uncons h37
  obtain ⟨x38, r38, rfl, h39⟩ := uncons h38
  obtain ⟨x39, r39, rfl, h40⟩ := uncons h39
  obtain ⟨x40, r40, rfl, h41⟩ := uncons h40
  obtain ⟨x41, r41, rfl, h42⟩ := uncons h41
  obtain ⟨x42, r42, rfl, h43⟩ := uncons h42
  obtain ⟨x43, r43, rfl, h44⟩ := uncons h43
  obtain ⟨x44, r44, rfl, h45⟩ := uncons h44
  obtain ⟨x45, r45, rfl, h46⟩ := uncons h45
  obtain ⟨x46, r46, rfl, h47⟩ := uncons h46
  obtain ⟨x47, r47, rfl, h48⟩ := uncons h47
  obtain ⟨x48, r48, rfl, h49⟩ := uncons h48
  obtain ⟨x49, r49, rfl, h50⟩ := uncons h49
  obtain ⟨x50, r50, rfl, h51⟩ := uncons h50
  obtain ⟨x51, r51, rfl, h52⟩ := uncons h51
  obtain ⟨x52, r52, rfl, h53⟩ := uncons h52
  obtain ⟨x53, r53, rfl, h54⟩ := uncons h53
  obtain ⟨x54, r54, rfl, h55⟩ := uncons h54
  obtain ⟨x55, r55, rfl, h56⟩ := uncons h55
  obtain ⟨x56, r56, rfl, h57⟩ := uncons h56
  obtain ⟨x57, r57, rfl, h58⟩ := uncons h57
  obtain ⟨x58, r58, rfl, h59⟩ := uncons h58
  obtain rfl := List.eq_nil_of_length_eq_zero h59
  exact ⟨x0, x1, x2, x3, x4, x5, x6, x7, x8, x9, x10, x11, x12, x13, x14, x15, x16, x17, x18, x19, x20, x21, x22, x23, x24, x25, x26, x27, x28, x29, x30, x31, x32, x33, x34, x35, x36, x37, x38, x39, x40, x41, x42, x43, x44, x45, x46, x47, x48, x49, x50, x51, x52, x53, x54, x55, x56, x57, x58, rfl⟩
theorem cmp_self (a : Bx) (w : World) : Calls Try.prog 17 #[.agg #[a.v], .agg #[a.v]] w fun e w' => e = .returned (.int .i64 0) ∧ Below w.heap.size w w' := by
  have := compare_any a a w
  rw [(bcmp_zero a a).2 rfl] at this
  exact this
def tri {α : Type} (a b c : α) (x : Nat) : α := if x = 0 then a else if x = 1 then b else c
theorem of_raw {k n : Int} {s : ByteArray} {b : Bx} (h : ofZ k n s = b) (w : World) : Calls Try.prog 9 #[boxV k n s] w fun e w' => e = .returned (.agg #[b.v]) ∧ Below w.heap.size w w' := by
  subst h
  exact of_any k n s w

set_option maxHeartbeats 4000000 in
theorem order_any (k0 n0 : Int) (s0 : ByteArray) (k1 n1 : Int) (s1 : ByteArray) (k2 n2 : Int) (s2 : ByteArray) (w : World) (a b c : Bx) (ha : ofZ k0 n0 s0 = a) (hb : ofZ k1 n1 s1 = b) (hc : ofZ k2 n2 s2 = c) (hs : ¬ (300 : Int) < (s0.size : Int)) (ht : ¬ (300 : Int) < (s1.size : Int)) (hu : ¬ (300 : Int) < (s2.size : Int)) :
    Calls Try.prog 6 #[.agg #[.int .i64 k0, .int .i64 n0, .string s0], .agg #[.int .i64 k1, .int .i64 n1, .string s1], .agg #[.int .i64 k2, .int .i64 n2, .string s2]] w fun e w' => e = .returned (.bool true) ∧ Below w.heap.size w w' := by
  have HA := Lib.hid ha
  have HB := Lib.hid hb
  have HC := Lib.hid hc
  clear ha hb hc
  have d0 : decide (300 < (s0.size : Int)) = false := by simpa using hs
  have d1 : decide (300 < (s1.size : Int)) = false := by simpa using ht
  have d2 : decide (300 < (s2.size : Int)) = false := by simpa using hu
  clear hs ht hu
  go_enter Try.func6, Try.ntmps6
  go_wp2_with fail
  refine (awake_any _).mono ?_
  rintro e w1 ⟨rfl, b1⟩
  have hz := b1.size
  simp at hz
  have c00 : w1.cell? ⟨w.heap.size, 0, none⟩ = some (.int .i64 k0) := keep b1 (by simp [go_sem]) (by simp; omega)
  have c01 : w1.cell? ⟨w.heap.size, 1, none⟩ = some (.int .i64 n0) := keep b1 (by simp [go_sem]) (by simp; omega)
  have c02 : w1.cell? ⟨w.heap.size, 2, none⟩ = some (.string s0) := keep b1 (by simp [go_sem]) (by simp; omega)
  have c10 : w1.cell? ⟨w.heap.size + 1, 0, none⟩ = some (.int .i64 k1) := keep b1 (by simp [go_sem]) (by simp)
  have c11 : w1.cell? ⟨w.heap.size + 1, 1, none⟩ = some (.int .i64 n1) := keep b1 (by simp [go_sem]) (by simp)
  have c12 : w1.cell? ⟨w.heap.size + 1, 2, none⟩ = some (.string s1) := keep b1 (by simp [go_sem]) (by simp)
  have c20 : w1.cell? ⟨w.heap.size + 2, 0, none⟩ = some (.int .i64 k2) := keep b1 (by simp [go_sem]) (by simp)
  have c21 : w1.cell? ⟨w.heap.size + 2, 1, none⟩ = some (.int .i64 n2) := keep b1 (by simp [go_sem]) (by simp)
  have c22 : w1.cell? ⟨w.heap.size + 2, 2, none⟩ = some (.string s2) := keep b1 (by simp [go_sem]) (by simp)
  have B1 : Below w.heap.size w w1 := ((((Below.refl _ _).alloc (Nat.le_refl _) _).alloc (by simp) _).alloc (by simp; omega) _).trans (b1.mono (by simp; omega))
  clear b1
  go_wp2_with fail
  refine Takes.wp_region_inv (by kernel_rfl) (Inv3 w (tri a b c) (tri k0 k1 k2) (tri n0 n1 n2) (tri s0 s1 s2)) ?_ ?_ ?_ (by kernel_rfl)
  · have T : ∀ x : Nat, x < 3 → x = 0 ∨ x = 1 ∨ x = 2 := fun x h => by omega
    exact {
      d := rfl
      z := rfl
      s := fun x hx => by rcases T x hx with rfl | rfl | rfl <;> rfl
      ld := fun x hx h => by cases h
      cl := fun x hx h => by cases h
      i9 := fun x hx h => by cases h
      al := fun x hx h => by cases h
      ne := fun x y hx hy hn h => by cases h
      ce := fun x hx => by rcases T x hx with rfl | rfl | rfl <;> exact ⟨by assumption, by assumption, by assumption⟩
      hz := hz
      be := drew_below B1 }
  · intro L t w' i o ho hL hd hI
    clear c00 c01 c02 c10 c11 c12 c20 c21 c22 B1
    have hi : i < 12 := (Array.getElem?_eq_some_iff.1 ho).1
    have hi' : i = 0 ∨ i = 1 ∨ i = 2 ∨ i = 3 ∨ i = 4 ∨ i = 5 ∨ i = 6 ∨ i = 7 ∨ i = 8 ∨ i = 9 ∨ i = 10 ∨ i = 11 := by omega
    clear hi
    rcases hi' with rfl | rfl | rfl | rfl | rfl | rfl | rfl | rfl | rfl | rfl | rfl | rfl
    · simp at ho
      subst ho
      rw [if_pos (wanted_free rfl)]
      exact wp_value (v := boxV k0 n0 s0) (run_load23 rfl (hI.s 0 (by decide)) (hI.ce 0 (by decide))) (hI.load (x := 0) (by decide))
    · simp at ho
      subst ho
      rw [if_pos (wanted_free rfl)]
      have h0 := hd ⟨0, .data⟩ (by simp) rfl
      have hv : t.eval (.tmp 31) = boxV k0 n0 s0 := hI.ld 0 (by decide) h0
      refine wp_call (f := 9) (args := #[boxV k0 n0 s0]) (run_call9 rfl hv rfl) (of_raw HA.out _) ?_
      rintro e w2 ⟨rfl, b2⟩
      exact ⟨_, rfl, hI.call (x := 0) (by decide) b2⟩
    · simp at ho
      subst ho
      rw [if_pos (wanted_free rfl)]
      exact wp_value (v := boxV k1 n1 s1) (run_load23 rfl (hI.s 1 (by decide)) (hI.ce 1 (by decide))) (hI.load (x := 1) (by decide))
    · simp at ho
      subst ho
      rw [if_pos (wanted_free rfl)]
      have h0 := hd ⟨2, .data⟩ (by simp) rfl
      have hv : t.eval (.tmp 33) = boxV k1 n1 s1 := hI.ld 1 (by decide) h0
      refine wp_call (f := 9) (args := #[boxV k1 n1 s1]) (run_call9 rfl hv rfl) (of_raw HB.out _) ?_
      rintro e w2 ⟨rfl, b2⟩
      exact ⟨_, rfl, hI.call (x := 1) (by decide) b2⟩
    · simp at ho
      subst ho
      rw [if_pos (wanted_free rfl)]
      exact wp_value (v := boxV k2 n2 s2) (run_load23 rfl (hI.s 2 (by decide)) (hI.ce 2 (by decide))) (hI.load (x := 2) (by decide))
    · simp at ho
      subst ho
      rw [if_pos (wanted_free rfl)]
      have h0 := hd ⟨4, .data⟩ (by simp) rfl
      have hv : t.eval (.tmp 35) = boxV k2 n2 s2 := hI.ld 2 (by decide) h0
      refine wp_call (f := 9) (args := #[boxV k2 n2 s2]) (run_call9 rfl hv rfl) (of_raw HC.out _) ?_
      rintro e w2 ⟨rfl, b2⟩
      exact ⟨_, rfl, hI.call (x := 2) (by decide) b2⟩
    · simp at ho
      subst ho
      rw [if_pos (wanted_free rfl)]
      exact wp_value (v := .pointer (some ⟨w'.heap.size, 0, none⟩)) (run_alloc27 rfl) (hI.alloc (x := 0) (by decide) hL)
    · simp at ho
      subst ho
      rw [if_pos (wanted_free rfl)]
      exact wp_value (v := .pointer (some ⟨w'.heap.size, 0, none⟩)) (run_alloc27 rfl) (hI.alloc (x := 1) (by decide) hL)
    · simp at ho
      subst ho
      rw [if_pos (wanted_free rfl)]
      exact wp_value (v := .pointer (some ⟨w'.heap.size, 0, none⟩)) (run_alloc27 rfl) (hI.alloc (x := 2) (by decide) hL)
    · simp at ho
      subst ho
      rw [if_pos (wanted_free rfl)]
      have h6 := hd ⟨6, .data⟩ (by simp) rfl
      have h1 := hd ⟨1, .data⟩ (by simp) rfl
      obtain ⟨p, q1, q2, q3, q4, q5⟩ := hI.al 0 (by decide) h6
      exact wp_skip' (run_store27 (b := a) rfl q1 (hI.cl 0 (by decide) h1) q4 q5) (hI.store (x := 0) (by decide) h6 q1)
    · simp at ho
      subst ho
      rw [if_pos (wanted_free rfl)]
      have h6 := hd ⟨7, .data⟩ (by simp) rfl
      have h1 := hd ⟨3, .data⟩ (by simp) rfl
      obtain ⟨p, q1, q2, q3, q4, q5⟩ := hI.al 1 (by decide) h6
      exact wp_skip' (run_store27 (b := b) rfl q1 (hI.cl 1 (by decide) h1) q4 q5) (hI.store (x := 1) (by decide) h6 q1)
    · simp at ho
      subst ho
      rw [if_pos (wanted_free rfl)]
      have h6 := hd ⟨8, .data⟩ (by simp) rfl
      have h1 := hd ⟨5, .data⟩ (by simp) rfl
      obtain ⟨p, q1, q2, q3, q4, q5⟩ := hI.al 2 (by decide) h6
      exact wp_skip' (run_store27 (b := c) rfl q1 (hI.cl 2 (by decide) h1) q4 q5) (hI.store (x := 2) (by decide) h6 q1)
  · intro L t w' hL hI
    clear c00 c01 c02 c10 c11 c12 c20 c21 c22 B1
    obtain ⟨p, p1, p2, p3, p4, p5⟩ := hI.al 0 (by decide) (hL 6 (by decide))
    obtain ⟨q, q1, q2, q3, q4, q5⟩ := hI.al 1 (by decide) (hL 7 (by decide))
    obtain ⟨r, r1, r2, r3, r4, r5⟩ := hI.al 2 (by decide) (hL 8 (by decide))
    rw [show L (9 + 0) = true from hL 9 (by decide)] at p4
    rw [show L (9 + 1) = true from hL 10 (by decide)] at q4
    rw [show L (9 + 2) = true from hL 11 (by decide)] at r4
    replace p4 : w'.cell? ⟨p, 0, none⟩ = some a.v := p4
    replace q4 : w'.cell? ⟨q, 0, none⟩ = some b.v := q4
    replace r4 : w'.cell? ⟨r, 0, none⟩ = some c.v := r4
    obtain ⟨x0, x1, x2, x3, x4, x5, x6, x7, x8, x9, x10, x11, x12, x13, x14, x15, x16, x17, x18, x19, x20, x21, x22, x23, x24, x25, x26, x27, x28, x29, x30, x31, x32, x33, x34, x35, x36, x37, x38, x39, x40, x41, x42, x43, x44, x45, x46, x47, x48, x49, x50, x51, x52, x53, x54, x55, x56, x57, x58, rfl⟩ := act59 hI.d hI.z
    replace p1 : x7 = .pointer (some ⟨p, 0, none⟩) := p1
    replace q1 : x8 = .pointer (some ⟨q, 0, none⟩) := q1
    replace r1 : x9 = .pointer (some ⟨r, 0, none⟩) := r1
    subst p1 q1 r1
    have B := hI.be
    clear hI hL p2 q2 r2 p5 q5 r5
    refine (by assumption : ∀ (a : Act) (w : World), Code.wp Try.prog _ _ a w → _) _ _ ?_
    go_wp2_with fail
    refine (cmp_self a _).mono ?_
    rintro e w2 ⟨rfl, b2⟩
    replace p4 := keep b2 p4 p3
    replace q4 := keep b2 q4 q3
    replace r4 := keep b2 r4 r3
    have z2 := b2.size
    go_wp2_with fail
    refine (compare_any a b _).mono ?_
    rintro e w3 ⟨rfl, b3⟩
    replace p4 := keep b3 p4 (by omega)
    replace q4 := keep b3 q4 (by omega)
    replace r4 := keep b3 r4 (by omega)
    have z3 := b3.size
    have B3 := (B.trans (b2.mono B.size)).trans (b3.mono (Nat.le_trans B.size z2))
    clear B b2 b3
    by_cases h1 : (0 : Int) < a.cmp b
    · go_wp2
      go_ret
      exact ⟨rfl, B3⟩
    · have e1 : decide (0 < a.cmp b) = false := by simpa using h1
      go_wp2_with fail
      refine (compare_any b c _).mono ?_
      rintro e w4 ⟨rfl, b4⟩
      replace p4 := keep b4 p4 (by omega)
      replace r4 := keep b4 r4 (by omega)
      have B4 := B3.trans (b4.mono B3.size)
      have z4 := b4.size
      clear B3 b4 q4
      by_cases h2 : (0 : Int) < b.cmp c
      · clear h1
        go_wp2
        go_ret
        exact ⟨rfl, B4⟩
      · have e2 : decide (0 < b.cmp c) = false := by simpa using h2
        have h3 := bcmp_le a b c (by omega) (by omega)
        clear h1 h2
        go_wp2_with fail
        refine (compare_any a c _).mono ?_
        rintro e w5 ⟨rfl, b5⟩
        have B5 := B4.trans (b5.mono B4.size)
        clear B4 b5 p4 r4
        go_wp2
        go_ret
        exact ⟨rfl, B5⟩
end Go.Proofs.Ytpbhjbdobpejpaa
