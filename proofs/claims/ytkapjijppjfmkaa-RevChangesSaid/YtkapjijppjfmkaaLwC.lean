/- What rev.Apply's answer is, laid into a new variable while it is asked; the law RevApplies where it looks at nothing. Conditions: entries or a span that are not few and short. -/
import Derived.Test.YtkapjijppjfmkaaLwA
namespace Go.Proofs.Ytkapjijppjfmkaa
open Go.RowKit Go.Op
set_option maxRecDepth 100000

theorem enter_12 (xs : Array Value) (w : World) : (callFunc 12 xs).run Try.prog w = .ok (.enter 12 xs) w := by kernel_rfl
theorem enter_22 (xs : Array Value) (w : World) : (callFunc 22 xs).run Try.prog w = .ok (.enter 22 xs) w := by kernel_rfl
theorem enter_25 (xs : Array Value) (w : World) : (callFunc 25 xs).run Try.prog w = .ok (.enter 25 xs) w := by kernel_rfl
def tup (k : Nat) : Value → Value
  | .tuple vs => vs.getD k undef
  | _ => undef
/-- A slice's block, or a revision's blocks, unless they are empty. -/
def farV (v : Value) (b : Nat) : Prop := farS v b ∧ farS (fld 6 (tup 0 v)) b ∧ farS (fld 7 (tup 0 v)) b ∧ farS (fld 8 (tup 0 v)) b ∧ farS (fld 9 (tup 0 v)) b
theorem farS_of {a : Option Addr} {n c b : Nat} (h : ∀ x, a = some x → n ≠ 0 → x.block ≠ b) : farS (.slice a n c) b := by
  rintro ad n' c' e hn
  cases e
  exact h ad rfl hn
theorem farS_get {a : Option Addr} {n c b : Nat} (h : farS (.slice a n c) b) : ∀ x, a = some x → n ≠ 0 → x.block ≠ b := by
  rintro x rfl hn
  exact h x n c rfl hn
theorem farS_undef (b : Nat) : farS undef b := by
  rintro ad n c e
  cases e
theorem farV_slice {a : Option Addr} {n c b : Nat} (h : farS (.slice a n c) b) : farV (.slice a n c) b := ⟨h, farS_undef b, farS_undef b, farS_undef b, farS_undef b⟩
theorem farS_tuple (vs : Array Value) (b : Nat) : farS (.tuple vs) b := by
  rintro ad n c e
  cases e
theorem farV_rev (R : Rm) (s : Rs) (er : Value) (b : Nat) (h1 : ∀ x, s.ka = some x → R.l.length ≠ 0 → x.block ≠ b) (h2 : ∀ x, s.va = some x → R.l.length ≠ 0 → x.block ≠ b) (h3 : ∀ x, s.ga = some x → R.l.length ≠ 0 → x.block ≠ b) (h4 : ∀ x, s.ta = some x → R.tab.length ≠ 0 → x.block ≠ b) : farV (.tuple #[R.v s, er]) b :=
  ⟨farS_tuple _ b, farS_of h1, farS_of h2, farS_of h3, farS_of h4⟩
theorem keys_set {w : World} {a : Option Addr} {l : List ByteArray} (h : Keys w a l) {b : Nat} (hb : ∀ x, a = some x → l.length ≠ 0 → x.block ≠ b) (vs : List Value) : Keys (w.setCells b 0 vs) a l := by
  by_cases h0 : l.length = 0
  · exact .inl (List.eq_nil_of_length_eq_zero h0)
  · exact keys_put h (fun x hx => hb x hx h0) vs
theorem bools_set {w : World} {a : Option Addr} {l : List Bool} (h : Bools w a l) {b : Nat} (hb : ∀ x, a = some x → l.length ≠ 0 → x.block ≠ b) (vs : List Value) : Bools (w.setCells b 0 vs) a l := by
  by_cases h0 : l.length = 0
  · exact .inl (List.eq_nil_of_length_eq_zero h0)
  · exact bools_put h (fun x hx => hb x hx h0) vs
theorem nums_set {w : World} {a : Option Addr} {l : List Int} (h : Nums w a l) {b : Nat} (hb : ∀ x, a = some x → l.length ≠ 0 → x.block ≠ b) (vs : List Value) : Nums (w.setCells b 0 vs) a l := by
  by_cases h0 : l.length = 0
  · exact .inl (List.eq_nil_of_length_eq_zero h0)
  · exact nums_put h (fun x hx => hb x hx h0) vs
theorem keys_lt {w : World} {a : Option Addr} {l : List ByteArray} (h : Keys w a l) : ∀ x, a = some x → l.length ≠ 0 → x.block < w.heap.size := by
  rintro x rfl hn
  rcases h with rfl | ⟨g, off, e, hlt, _⟩
  · exact absurd rfl hn
  · cases e; exact hlt
theorem bools_lt {w : World} {a : Option Addr} {l : List Bool} (h : Bools w a l) : ∀ x, a = some x → l.length ≠ 0 → x.block < w.heap.size := by
  rintro x rfl hn
  rcases h with rfl | ⟨g, off, e, hlt, _⟩
  · exact absurd rfl hn
  · cases e; exact hlt
theorem nums_lt {w : World} {a : Option Addr} {l : List Int} (h : Nums w a l) : ∀ x, a = some x → l.length ≠ 0 → x.block < w.heap.size := by
  rintro x rfl hn
  rcases h with rfl | ⟨g, off, e, hlt, _⟩
  · exact absurd rfl hn
  · cases e; exact hlt
/-- A revision and an error, as an answer. -/
def IsT (R : Rm) (er : Int) (v : Value) (w : World) : Prop := ∃ s, v = .tuple #[R.v s, .int .i64 er] ∧ RevAt w R s
theorem IsT.below {R : Rm} {er : Int} {v : Value} {w w' : World} (h : IsT R er v w) (hb : Below w.heap.size w w') : IsT R er v w' := by
  obtain ⟨s, rfl, h1⟩ := h
  exact ⟨s, rfl, h1.below hb⟩
theorem IsT.set {R : Rm} {er : Int} {v : Value} {w : World} (h : IsT R er v w) {b : Nat} (hf : farV v b) (zs : List Value) : IsT R er v (w.setCells b 0 zs) := by
  obtain ⟨s, rfl, h1, h2, h3, h4⟩ := h
  obtain ⟨_, f1, f2, f3, f4⟩ := hf
  exact ⟨s, rfl, keys_set h1 (by rw [List.length_map]; exact farS_get f1) zs, keys_set h2 (by rw [List.length_map]; exact farS_get f2) zs, bools_set h3 (by rw [List.length_map]; exact farS_get f3) zs, nums_set h4 (farS_get f4) zs⟩
theorem IsT.far {R : Rm} {er : Int} {v : Value} {w : World} (h : IsT R er v w) {b : Nat} (hb : w.heap.size ≤ b) : farV v b := by
  obtain ⟨s, rfl, h1, h2, h3, h4⟩ := h
  have k1 := keys_lt h1
  have k2 := keys_lt h2
  have k3 := bools_lt h3
  have k4 := nums_lt h4
  rw [List.length_map] at k1 k2 k3
  exact farV_rev R s _ b (fun x hx hn => by have := k1 x hx hn; omega) (fun x hx hn => by have := k2 x hx hn; omega) (fun x hx hn => by have := k3 x hx hn; omega) (fun x hx hn => by have := k4 x hx hn; omega)
theorem far_fresh (R : Rm) (s : Rs) (er : Value) {N b : Nat} (h : s.from_ N) (hb : b < N) : farV (.tuple #[R.v s, er]) b :=
  farV_rev R s er b (fun x hx _ => by have := h x (.inl hx); omega) (fun x hx _ => by have := h x (.inr (.inl hx)); omega) (fun x hx _ => by have := h x (.inr (.inr (.inl hx))); omega) (fun x hx _ => by have := h x (.inr (.inr (.inr hx))); omega)
theorem IsE.setV {N : Nat} {l : List En} {v : Value} {w : World} (h : IsE N l v w) {b : Nat} (hf : farV v b) (zs : List Value) : IsE N l v (w.setCells b 0 zs) := h.set hf.1 zs
theorem IsE.farV {N : Nat} {l : List En} {v : Value} {w : World} (h : IsE N l v w) {b : Nat} (hb : w.heap.size ≤ b) : farV v b := by
  have := h.far hb
  obtain ⟨ad, c, rfl, _⟩ := h
  exact farV_slice this
theorem far_row {T : Nat} {w : World} {N : Nat} {v : Value} {l : List En} (h : OwnE T w N v l) {b : Nat} (hb : b < N) : farV v b := by
  have hl := h.lt
  obtain ⟨a, c, rfl, _⟩ := h.ents
  refine farV_slice (farS_of fun x hx _ => ?_)
  have := (hl x.block (by rw [hx]; rfl)).1
  omega
theorem genx_ext {S F : World → Prop} {K : World → World → Prop} {D : Value → World → Prop} {oo : Option Oper} (o0 : Oper) (ho : oo = some o0) {x : Operand} {k : Nat} (hop : o0.op = .extract x k) {vs : Value} {R : Rm} {er : Int} (h : ∀ w, S w → F w → IsT R er vs w) (hk : k < 2) :
    (FreeX.Ent.gen [vs] (tup k vs)).Ok Try.prog S F oo K D := by
  rintro o h1 ρ h2 w hS hF
  rw [ho] at h1
  cases h1
  rw [hop] at h2
  have h3 : ρ x = vs := by simpa [Op.operands] using h2
  obtain ⟨s, e, _⟩ := h w hS hF
  match k, hk with
  | 0, _ => simp [execOp, hop, h3, e, tup, Instr.extract]
  | 1, _ => simp [execOp, hop, h3, e, tup, Instr.extract]
theorem put_tup {R : Rm} {er : Int} {x : Value} {w : World} (h : IsT R er x w) (b : Nat) (zs : List Value) (hz : zs.length = 10) (hh : Free.Holds b zs w) : (Instr.storeAt 33 (.pointer (some ⟨b, 0, none⟩)) (tup 0 x)).run Try.prog w = .ok () (w.setCells b 0 (rowOf (tup 0 x))) := by
  obtain ⟨s, rfl, _⟩ := h
  exact (rev_store (row := R.row s) hh hz rfl (R.row_one s)).1
theorem alloc33 (w : World) : (Instr.alloc 33 true (.tuple #[])).run Try.prog w = .ok (.pointer (some ⟨w.heap.size, 0, none⟩)) (w.alloc (.cells Rm.none.zeroRow.toArray 33)) := by
  simp [Rm.zeroRow, go_sem]
/-- A span in a variable of the call's own, and all else as it was. -/
def One (w : World) (s : Sp) (wi : World) : Prop := Below w.heap.size w wi ∧ Free.Holds w.heap.size s.cells wi ∧ w.heap.size + 1 ≤ wi.heap.size
theorem One.next {w : World} {s : Sp} {wi wj : World} (h : One w s wi) (hb : Below wi.heap.size wi wj) : One w s wj :=
  ⟨h.1.trans (hb.mono h.1.size), h.2.1.below hb (by have := h.2.2; omega), Nat.le_trans h.2.2 hb.size⟩
theorem One.s {w : World} {s : Sp} {wi : World} (h : One w s wi) : wi.cell? ⟨w.heap.size, 0, none⟩ = some (.string s.lo) ∧ wi.cell? ⟨w.heap.size, 1, none⟩ = some (.string s.hi) ∧ wi.cell? ⟨w.heap.size, 2, none⟩ = some (.bool s.all) :=
  ⟨(h.2.1 0 _ rfl).1, (h.2.1 1 _ rfl).1, (h.2.1 2 _ rfl).1⟩
theorem one_start (w : World) (s : Sp) : One w s (w.alloc (.cells #[.string s.lo, .string s.hi, .bool s.all] 23)) :=
  ⟨(Below.refl _ _).alloc (Nat.le_refl _) _, holds_alloc w #[.string s.lo, .string s.hi, .bool s.all] 23 w.heap.size s.cells rfl rfl, by simp⟩
/-- What Apply answers of given changes, told ahead. -/
theorem apply_known (ver rate next : Int) (sp : Sp) (l : List En) (tab : List Int) (rs : Rs) (m : List En) (W : World) (hl : l.length ≤ 200) (hm : m.length ≤ 200) (hkl : ∀ e ∈ l, e.key.size ≤ 1000000) (hkm : ∀ e ∈ m, e.key.size ≤ 1000000) (hri : Rise l) (hR : RevAt W ⟨ver, rate, sp, false, l, tab⟩ rs) :
    ∃ R2 er2, (∀ ad cc w', Below W.heap.size W w' → Ents w' ad m → Calls Try.prog 22 #[(Rm.mk ver rate sp false l tab).v rs, .int .i64 next, .slice ad m.length cc] w' fun e w2 => ∃ s', e = .returned (.tuple #[R2.v s', .int .i64 er2]) ∧ RevAt w2 R2 s' ∧ s'.from_ w'.heap.size ∧ Below w'.heap.size w' w2) ∧
      ((rightB sp m = true ∧ R2 = ⟨next, rated rate m.length, sp, false, changedL l m, build ((changedL l m).map En.key)⟩ ∧ er2 = 0) ∨ (rightB sp m = false ∧ R2 = Rm.none ∧ er2 = 1)) := by
  have h := fun ad cc w' (hb : Below W.heap.size W w') (hE : Ents w' ad m) => apply_any ver rate next sp l tab rs ad m cc w' hl hm hkl hkm hri (hR.below hb) hE
  cases hh : rightB sp m with
  | true =>
    refine ⟨⟨next, rated rate m.length, sp, false, changedL l m, build ((changedL l m).map En.key)⟩, 0, fun ad cc w' hb hE => (h ad cc w' hb hE).mono ?_, .inl ⟨rfl, rfl, rfl⟩⟩
    rintro e w2 ⟨R, s', er, rfl, h1, h2, h3, hc⟩
    rcases hc with ⟨_, rfl, rfl⟩ | ⟨h4, _⟩
    · exact ⟨s', rfl, h1, h2, h3⟩
    · rw [hh] at h4; cases h4
  | false =>
    refine ⟨Rm.none, 1, fun ad cc w' hb hE => (h ad cc w' hb hE).mono ?_, .inr ⟨rfl, rfl, rfl⟩⟩
    rintro e w2 ⟨R, s', er, rfl, h1, h2, h3, hc⟩
    rcases hc with ⟨h4, _⟩ | ⟨_, rfl, rfl⟩
    · rw [hh] at h4; cases h4
    · exact ⟨s', rfl, h1, h2, h3⟩

set_option maxHeartbeats 2000000 in
theorem applies_no (ver rate : Int) (sp : Sp) (a : Option Addr) (l : List En) (c : Nat) (b : Option Addr) (m : List En) (d : Nat) (next : Int) (w : World) (hE : Ents w a l) (hM : Ents w b m) (hno : FewE l → FewE m → ¬ sp.brief = true) :
    Calls Try.prog 4 #[.int .i64 ver, .int .i64 rate, sp.v, .slice a l.length c, .slice b m.length d, .int .i64 next] w fun e w' => e = .returned (.bool true) ∧ Below w.heap.size w w' := by
  have HE := Lib.hid hE
  have HM := Lib.hid hM
  have K1 := Lib.hid (one_start w sp)
  clear hE hM
  simp only [Sp.v]
  by_cases hF : FewE l
  case neg =>
    have e0 := fewE_no hF
    clear hF hno
    go_enter Try.func4, Try.ntmps4
    go_wp2_with fail
    refine (awake_any _).mono ?_
    rintro e w2 ⟨rfl, b2⟩
    have K2 := Lib.hid (K1.out.next b2)
    clear b2
    go_wp2_with fail
    refine (few_any a l c w2 (HE.out.below K2.out.1)).mono ?_
    rintro e w3 ⟨rfl, rfl⟩
    rw [e0]
    go_wp2_with fail
    refine (awake_any _).mono ?_
    rintro e w4 ⟨rfl, b4⟩
    have K4 := Lib.hid (K2.out.next b4)
    clear b4
    go_wp2_with fail
    go_ret
    exact ⟨rfl, K4.out.1⟩
  have hno2 := hno hF
  have e0 := fewE_yes hF
  clear hF hno
  by_cases hG : FewE m
  case neg =>
    have e1 := fewE_no hG
    clear hG hno2
    go_enter Try.func4, Try.ntmps4
    go_wp2_with fail
    refine (awake_any _).mono ?_
    rintro e w2 ⟨rfl, b2⟩
    have K2 := Lib.hid (K1.out.next b2)
    clear b2
    go_wp2_with fail
    refine (few_any a l c w2 (HE.out.below K2.out.1)).mono ?_
    rintro e w3 ⟨rfl, rfl⟩
    rw [e0]
    go_wp2_with fail
    refine (few_any b m d w2 (HM.out.below K2.out.1)).mono ?_
    rintro e w3 ⟨rfl, rfl⟩
    rw [e1]
    go_wp2_with fail
    refine (awake_any _).mono ?_
    rintro e w4 ⟨rfl, b4⟩
    have K4 := Lib.hid (K2.out.next b4)
    clear b4
    go_wp2_with fail
    go_ret
    exact ⟨rfl, K4.out.1⟩
  have e1 := fewE_yes hG
  have hsb : sp.brief = false := by simpa using hno2 hG
  clear hG hno2
  go_enter Try.func4, Try.ntmps4
  go_wp2_with fail
  refine (awake_any _).mono ?_
  rintro e w2 ⟨rfl, b2⟩
  have K2 := Lib.hid (K1.out.next b2)
  clear b2
  go_wp2_with fail
  refine (few_any a l c w2 (HE.out.below K2.out.1)).mono ?_
  rintro e w3 ⟨rfl, rfl⟩
  rw [e0]
  go_wp2_with fail
  refine (few_any b m d w2 (HM.out.below K2.out.1)).mono ?_
  rintro e w3 ⟨rfl, rfl⟩
  rw [e1]
  obtain ⟨c0, c1, c2⟩ := K2.out.s
  go_wp2_with fail
  refine (brief_any sp w2).mono ?_
  rintro e w3 ⟨rfl, b3⟩
  have K3 := Lib.hid (K2.out.next b3)
  rw [hsb]
  clear b3 c0 c1 c2
  go_wp2_with fail
  refine (awake_any _).mono ?_
  rintro e w4 ⟨rfl, b4⟩
  have K4 := Lib.hid (K3.out.next b4)
  clear b4
  go_wp2_with fail
  go_ret
  exact ⟨rfl, K4.out.1⟩
end Go.Proofs.Ytkapjijppjfmkaa
