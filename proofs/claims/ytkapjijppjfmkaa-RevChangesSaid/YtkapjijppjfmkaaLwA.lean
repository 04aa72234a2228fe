/- The law RevPlays where it looks at nothing; what its last line needs. Conditions: entries, spans or a key that are not few and short. -/
import Derived.Test.YtkapjijppjfmkaaEWalkW
import Derived.Test.YtkapjijppjfmkaaEWalkO
import Derived.Test.YtkapjijppjfmkaaEWalkK
namespace Go.Proofs.Ytkapjijppjfmkaa
open Go.RowKit Go.Op
set_option maxRecDepth 100000

theorem enter_14 (xs : Array Value) (w : World) : (callFunc 14 xs).run Try.prog w = .ok (.enter 14 xs) w := by kernel_rfl
theorem enter_17 (xs : Array Value) (w : World) : (callFunc 17 xs).run Try.prog w = .ok (.enter 17 xs) w := by kernel_rfl
theorem enter_18 (xs : Array Value) (w : World) : (callFunc 18 xs).run Try.prog w = .ok (.enter 18 xs) w := by kernel_rfl
theorem enter_11 (xs : Array Value) (w : World) : (callFunc 11 xs).run Try.prog w = .ok (.enter 11 xs) w := by kernel_rfl
theorem enter_20 (xs : Array Value) (w : World) : (callFunc 20 xs).run Try.prog w = .ok (.enter 20 xs) w := by kernel_rfl
theorem enter_21 (xs : Array Value) (w : World) : (callFunc 21 xs).run Try.prog w = .ok (.enter 21 xs) w := by kernel_rfl
theorem enter_19 (xs : Array Value) (w : World) : (callFunc 19 xs).run Try.prog w = .ok (.enter 19 xs) w := by kernel_rfl
theorem At.of {q : Nat} {s : Sp} {w : World} (h : Free.Holds q s.cells w) : At q 0 s w := ⟨(h 0 _ rfl).1, (h 1 _ rfl).1, (h 2 _ rfl).1⟩
theorem genx_lenF {S F : World → Prop} {K : World → World → Prop} {D : Value → World → Prop} {oo : Option Oper} (o0 : Oper) (ho : oo = some o0) {T : TypeId} {x : Operand} (hop : o0.op = .call { callee := .builtin .len, args := #[x], argTypes := #[T] }) {vs v : Value} (h : ∀ ty w, S w → F w → (Builtin.len_ #[T] ty #[vs]).run Try.prog w = .ok v w) :
    (FreeX.Ent.gen [vs] v).Ok Try.prog S F oo K D := by
  rintro o h1 ρ h2 w hS hF
  rw [ho] at h1
  cases h1
  rw [hop] at h2
  have h3 : ρ x = vs := by simpa [Op.operands, Call.operands] using h2
  have h4 := h o0.type w hS hF
  simp [execOp, hop, h3, resolve, invoke, builtin, h4]
/-- A slice of pairs that stand in memory. -/
def IsP (l : List En) (v : Value) (w : World) : Prop := ∃ ad c, v = .slice ad l.length c ∧ Prs w ad l
theorem IsP.below {l : List En} {v : Value} {w w' : World} (h : IsP l v w) (hb : Below w.heap.size w w') : IsP l v w' := by
  obtain ⟨ad, c, rfl, hE⟩ := h
  exact ⟨ad, c, rfl, hE.below hb⟩
theorem IsP.of {T : Nat} {w : World} {N : Nat} {v : Value} {l : List En} (h : OwnP T w N v l) : IsP l v w := h.prs
theorem pairs_len {l : List En} {s : Sp} {n : Nat} (h : l.length ≤ 500) : (pairsL l s n).length ≤ 1000000 := by
  have h1 : (pairsL l s n).length ≤ l.length := by
    unfold pairsL liveL
    exact Nat.le_trans (List.length_take_le' ..) (Nat.le_trans (List.length_filter_le ..) (List.length_filter_le ..))
  omega
/-- Two spans in variables of the call's own, and all else as it was. -/
def Two (w : World) (s t : Sp) (wi : World) : Prop := Below w.heap.size w wi ∧ Free.Holds w.heap.size s.cells wi ∧ Free.Holds (w.heap.size + 1) t.cells wi ∧ w.heap.size + 2 ≤ wi.heap.size
theorem Two.next {w : World} {s t : Sp} {wi wj : World} (h : Two w s t wi) (hb : Below wi.heap.size wi wj) : Two w s t wj :=
  ⟨h.1.trans (hb.mono h.1.size), h.2.1.below hb (by have := h.2.2.2; omega), h.2.2.1.below hb (by have := h.2.2.2; omega), Nat.le_trans h.2.2.2 hb.size⟩
theorem Two.s {w : World} {s t : Sp} {wi : World} (h : Two w s t wi) : wi.cell? ⟨w.heap.size, 0, none⟩ = some (.string s.lo) ∧ wi.cell? ⟨w.heap.size, 1, none⟩ = some (.string s.hi) ∧ wi.cell? ⟨w.heap.size, 2, none⟩ = some (.bool s.all) :=
  ⟨(h.2.1 0 _ rfl).1, (h.2.1 1 _ rfl).1, (h.2.1 2 _ rfl).1⟩
theorem Two.t {w : World} {s t : Sp} {wi : World} (h : Two w s t wi) : wi.cell? ⟨w.heap.size + 1, 0, none⟩ = some (.string t.lo) ∧ wi.cell? ⟨w.heap.size + 1, 1, none⟩ = some (.string t.hi) ∧ wi.cell? ⟨w.heap.size + 1, 2, none⟩ = some (.bool t.all) :=
  ⟨(h.2.2.1 0 _ rfl).1, (h.2.2.1 1 _ rfl).1, (h.2.2.1 2 _ rfl).1⟩
theorem two_start (w : World) (s t : Sp) : Two w s t ((w.alloc (.cells #[.string s.lo, .string s.hi, .bool s.all] 23)).alloc (.cells #[.string t.lo, .string t.hi, .bool t.all] 23)) := by
  refine ⟨((Below.refl _ _).alloc (Nat.le_refl _) _).alloc (by simp) _, ?_, holds_alloc _ _ _ _ _ (by simp) rfl, by simp⟩
  exact Free.Holds.below (holds_alloc w #[.string s.lo, .string s.hi, .bool s.all] 23 w.heap.size s.cells rfl rfl) ((Below.refl _ _).alloc (Nat.le_refl _) _) (by simp)

set_option maxHeartbeats 2000000 in
theorem plays_no (ver rate : Int) (sp : Sp) (a : Option Addr) (l : List En) (c : Nat) (k : ByteArray) (inn : Sp) (lim : Int) (w : World) (hE : Ents w a l) (hno : FewE l → sp.brief = true → inn.brief = true → ¬ k.size ≤ 40) :
    Calls Try.prog 3 #[.int .i64 ver, .int .i64 rate, sp.v, .slice a l.length c, .string k, inn.v, .int .i64 lim] w fun e w' => e = .returned (.bool true) ∧ Below w.heap.size w w' := by
  have HE := Lib.hid hE
  have K1 := Lib.hid (two_start w sp inn)
  clear hE
  simp only [Sp.v]
  by_cases hF : FewE l
  case neg =>
    have e0 := fewE_no hF
    clear hF
    go_enter Try.func3, Try.ntmps3
    go_wp2_with fail
    refine (awake_any _).mono ?_
    rintro e w2 ⟨rfl, b2⟩
    have K2 := Lib.hid (K1.out.next b2)
    clear b2
    go_wp2_with fail
    refine (few_any a l c w2 (HE.out.below K2.out.1)).mono ?_
    rintro e w3 ⟨rfl, rfl⟩
    rw [e0]
    go_wp2_with fail
    refine (awake_any _).mono ?_
    rintro e w4 ⟨rfl, b4⟩
    have K4 := Lib.hid (K2.out.next b4)
    clear b4
    go_wp2_with fail
    go_ret
    exact ⟨rfl, K4.out.1⟩
  have hno2 := hno hF
  have e0 := fewE_yes hF
  clear hF
  cases hsb : sp.brief with
  | false =>
    go_enter Try.func3, Try.ntmps3
    go_wp2_with fail
    refine (awake_any _).mono ?_
    rintro e w2 ⟨rfl, b2⟩
    have K2 := Lib.hid (K1.out.next b2)
    clear b2
    go_wp2_with fail
    refine (few_any a l c w2 (HE.out.below K2.out.1)).mono ?_
    rintro e w3 ⟨rfl, rfl⟩
    rw [e0]
    obtain ⟨c0, c1, c2⟩ := K2.out.s
    go_wp2_with fail
    refine (brief_any sp w2).mono ?_
    rintro e w3 ⟨rfl, b3⟩
    have K3 := Lib.hid (K2.out.next b3)
    rw [hsb]
    clear b3 c0 c1 c2
    go_wp2_with fail
    refine (awake_any _).mono ?_
    rintro e w4 ⟨rfl, b4⟩
    have K4 := Lib.hid (K3.out.next b4)
    clear b4
    go_wp2_with fail
    go_ret
    exact ⟨rfl, K4.out.1⟩
  | true =>
    cases hib : inn.brief with
    | false =>
      go_enter Try.func3, Try.ntmps3
      go_wp2_with fail
      refine (awake_any _).mono ?_
      rintro e w2 ⟨rfl, b2⟩
      have K2 := Lib.hid (K1.out.next b2)
      clear b2
      go_wp2_with fail
      refine (few_any a l c w2 (HE.out.below K2.out.1)).mono ?_
      rintro e w3 ⟨rfl, rfl⟩
      rw [e0]
      obtain ⟨c0, c1, c2⟩ := K2.out.s
      go_wp2_with fail
      refine (brief_any sp w2).mono ?_
      rintro e w3 ⟨rfl, b3⟩
      have K3 := Lib.hid (K2.out.next b3)
      rw [hsb]
      clear b3 c0 c1 c2
      obtain ⟨c0, c1, c2⟩ := K3.out.t
      go_wp2_with fail
      refine (brief_any inn w3).mono ?_
      rintro e w4 ⟨rfl, b4⟩
      have K4 := Lib.hid (K3.out.next b4)
      rw [hib]
      clear b4 c0 c1 c2
      go_wp2_with fail
      refine (awake_any _).mono ?_
      rintro e w5 ⟨rfl, b5⟩
      have K5 := Lib.hid (K4.out.next b5)
      clear b5
      go_wp2_with fail
      go_ret
      exact ⟨rfl, K5.out.1⟩
    | true =>
      have hks := hno2 hsb hib
      clear hno hno2
      · skip
        have d1 : decide ((40 : Int) < (k.size : Int)) = true := decide_eq_true (by omega)
        go_enter Try.func3, Try.ntmps3
        go_wp2_with fail
        refine (awake_any _).mono ?_
        rintro e w2 ⟨rfl, b2⟩
        have K2 := Lib.hid (K1.out.next b2)
        clear b2
        go_wp2_with fail
        refine (few_any a l c w2 (HE.out.below K2.out.1)).mono ?_
        rintro e w3 ⟨rfl, rfl⟩
        rw [e0]
        obtain ⟨c0, c1, c2⟩ := K2.out.s
        go_wp2_with fail
        refine (brief_any sp w2).mono ?_
        rintro e w3 ⟨rfl, b3⟩
        have K3 := Lib.hid (K2.out.next b3)
        rw [hsb]
        clear b3 c0 c1 c2
        obtain ⟨c0, c1, c2⟩ := K3.out.t
        go_wp2_with fail
        refine (brief_any inn w3).mono ?_
        rintro e w4 ⟨rfl, b4⟩
        have K4 := Lib.hid (K3.out.next b4)
        rw [hib]
        clear b4 c0 c1 c2
        go_wp2_with fail
        refine (awake_any _).mono ?_
        rintro e w5 ⟨rfl, b5⟩
        have K5 := Lib.hid (K4.out.next b5)
        clear b5
        go_wp2_with fail
        go_ret
        exact ⟨rfl, K5.out.1⟩
end Go.Proofs.Ytkapjijppjfmkaa
