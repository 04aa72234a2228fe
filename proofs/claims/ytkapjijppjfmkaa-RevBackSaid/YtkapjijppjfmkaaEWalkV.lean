/- What rev.Apply makes of a revision of rising entries and of any changes, and of a revision that is dead. Conditions: at most 200 entries and changes, keys of at most 1000000 bytes, which stand in memory. -/
import Derived.Test.YtkapjijppjfmkaaEWalkU
import Derived.Test.YtkapjijppjfmkaaEWalkQ
import Derived.Test.YtkapjijppjfmkaaEWalkM
namespace Go.FreeX
open Go Go.RowKit Go.Free
def isOwn : Ent → Bool
  | .put _ (.own _) _ _ => true
  | _ => false
theorem no_own : ∀ {tab : List (Nat × Ent)}, (tab.any fun x => isOwn x.2) = false → ∀ i t j x vs, look tab i ≠ some (.put t (.own j) x vs)
  | [], _, _, _, _, _, _, h => by cases h
  | (a, e) :: r, h, i, t, j, x, vs, hl => by
    rw [List.any_cons, Bool.or_eq_false_iff] at h
    unfold look at hl
    split at hl
    · cases hl
      cases h.1
    · exact no_own h.2 i t j x vs hl
end Go.FreeX
namespace Go.Proofs.Ytkapjijppjfmkaa
open Go.RowKit Go.Op
set_option maxRecDepth 100000

theorem enter_42 (xs : Array Value) (w : World) : (callFunc 42 xs).run Try.prog w = .ok (.enter 42 xs) w := by kernel_rfl
theorem enter_44 (xs : Array Value) (w : World) : (callFunc 44 xs).run Try.prog w = .ok (.enter 44 xs) w := by kernel_rfl
theorem enter_43 (xs : Array Value) (w : World) : (callFunc 43 xs).run Try.prog w = .ok (.enter 43 xs) w := by kernel_rfl
theorem enter_32 (xs : Array Value) (w : World) : (callFunc 32 xs).run Try.prog w = .ok (.enter 32 xs) w := by kernel_rfl
def fld (k : Nat) : Value → Value
  | .agg cs => cs.getD k undef
  | _ => undef
/-- The cells of a revision's value. -/
def rowOf (v : Value) : List Value := [fld 0 v, fld 1 v, fld 2 v, fld 3 v, fld 4 v, fld 5 v, fld 6 v, fld 7 v, fld 8 v, fld 9 v]
theorem rowOf_v (R : Rm) (s : Rs) : rowOf (R.v s) = R.row s := rfl
/-- A revision's value, whose slices stand from a number on. -/
def IsR (N : Nat) (R : Rm) (v : Value) (w : World) : Prop := ∃ s, v = R.v s ∧ RevAt w R s ∧ s.from_ N
theorem IsR.below {N : Nat} {R : Rm} {v : Value} {w w' : World} (h : IsR N R v w) (hb : Below w.heap.size w w') : IsR N R v w' := by
  obtain ⟨s, rfl, h1, h2⟩ := h
  exact ⟨s, rfl, h1.below hb, h2⟩
theorem IsR.put {N : Nat} {R : Rm} {v : Value} {w : World} (h : IsR N R v w) {b : Nat} (hb : b < N) (vs : List Value) : IsR N R v (w.setCells b 0 vs) := by
  obtain ⟨s, rfl, h1, h2⟩ := h
  exact ⟨s, rfl, h1.put h2 hb vs, h2⟩
theorem IsE.put {N : Nat} {l : List En} {v : Value} {w : World} (h : IsE N l v w) {b : Nat} (hb : b < N) (vs : List Value) : IsE N l v (w.setCells b 0 vs) := by
  obtain ⟨ad, c, rfl, hE, hN⟩ := h
  exact ⟨ad, c, rfl, ents_set hE (fun x hx hn => by have := hN x hx hn; omega) vs 0, hN⟩
theorem IsE.of {T : Nat} {w : World} {N : Nat} {v : Value} {l : List En} (h : OwnE T w N v l) : IsE N l v w := by
  obtain ⟨a, c, rfl, hE, hk⟩ := h.ents
  refine ⟨a, c, rfl, hE, fun x hx hn => ?_⟩
  obtain ⟨g, hg, hge⟩ := hk (by rw [hx]; simp)
  rw [hx] at hg
  cases hg
  exact hge
theorem IsE.mono {N N' : Nat} {l : List En} {v : Value} {w : World} (h : IsE N l v w) (hn : N' ≤ N) : IsE N' l v w := by
  obtain ⟨ad, c, rfl, hE, hN⟩ := h
  exact ⟨ad, c, rfl, hE, fun x hx h0 => Nat.le_trans hn (hN x hx h0)⟩
/-- A row of entries that is full. -/
def IsG (N : Nat) (l : List En) (v : Value) (w : World) : Prop := ∃ g, v = .slice (some ⟨g, 0, none⟩) l.length l.length ∧ Ents w (some ⟨g, 0, none⟩) l ∧ N ≤ g
theorem IsG.below {N : Nat} {l : List En} {v : Value} {w w' : World} (h : IsG N l v w) (hb : Below w.heap.size w w') : IsG N l v w' := by
  obtain ⟨g, rfl, hE, hN⟩ := h
  exact ⟨g, rfl, hE.below hb, hN⟩
theorem IsG.put {N : Nat} {l : List En} {v : Value} {w : World} (h : IsG N l v w) {b : Nat} (hb : b < N) (vs : List Value) : IsG N l v (w.setCells b 0 vs) := by
  obtain ⟨g, rfl, hE, hN⟩ := h
  exact ⟨g, rfl, ents_set hE (fun x hx _ => by cases hx; show g ≠ b; omega) vs 0, hN⟩
theorem put_rev {N : Nat} {R : Rm} {x : Value} {w : World} (h : IsR N R x w) (b : Nat) (zs : List Value) (hz : zs.length = 10) (hh : Free.Holds b zs w) : (Instr.storeAt 33 (.pointer (some ⟨b, 0, none⟩)) x).run Try.prog w = .ok () (w.setCells b 0 (rowOf x)) := by
  obtain ⟨s, rfl, _, _⟩ := h
  rw [rowOf_v]
  exact (rev_store (row := R.row s) hh hz rfl (R.row_one s)).1

set_option maxHeartbeats 1000000 in
theorem apply_any (ver rate next : Int) (sp : Sp) (l : List En) (tab : List Int) (s : Rs) (b : Option Addr) (m : List En) (d : Nat) (w : World) (hl : l.length ≤ 200) (hm : m.length ≤ 200) (hkl : ∀ e ∈ l, e.key.size ≤ 1000000) (hkm : ∀ e ∈ m, e.key.size ≤ 1000000) (hri : Rise l)
    (hR : RevAt w ⟨ver, rate, sp, false, l, tab⟩ s) (hM : Ents w b m) :
    Calls Try.prog 22 #[(Rm.mk ver rate sp false l tab).v s, .int .i64 next, .slice b m.length d] w fun e w' => ∃ R s' er, e = .returned (.tuple #[R.v s', .int .i64 er]) ∧ RevAt w' R s' ∧ s'.from_ w.heap.size ∧ Below w.heap.size w w' ∧
      ((rightB sp m = true ∧ R = ⟨next, rated rate m.length, sp, false, changedL l m, build ((changedL l m).map En.key)⟩ ∧ er = 0) ∨ (rightB sp m = false ∧ R = Rm.none ∧ er = 1)) := by
  have hr := fun w' (hb : Below w.heap.size w w') => right_any sp b m d w' (by omega) (hM.below hb)
  have he := fun w' (hb : Below w.heap.size w w') => entries_any ⟨ver, rate, sp, false, l, tab⟩ s w' (by show l.length ≤ _; omega) (hR.below hb)
  obtain ⟨lo, hi, all⟩ := sp
  obtain ⟨ka, kc, va, vc, ga, gc, ta, tc⟩ := s
  simp only [Rm.v] at he ⊢
  have HR := Lib.hid hr
  have HE := Lib.hid he
  have HM := Lib.hid hM
  clear hr he hR hM
  obtain ⟨row, hrow⟩ : ∃ row : List Value, row = [.int .i64 ver, .int .i64 rate, .string lo, .string hi, .bool all, .bool false, .slice ka l.length kc, .slice va l.length vc, .slice ga l.length gc, .slice ta tab.length tc] := ⟨_, rfl⟩
  obtain ⟨wa, hwa⟩ : ∃ wa, wa = (w.alloc (.cells row.toArray 33)).alloc (.cells Rm.none.zeroRow.toArray 33) := ⟨_, rfl⟩
  have hza : wa.heap.size = w.heap.size + 2 := by subst hwa; simp
  have hba : Below w.heap.size w wa := by subst hwa; exact ((Below.refl _ _).alloc (Nat.le_refl _) _).alloc (by simp) _
  have hS0 : wa.rangeAt w.heap.size 0 row := by
    subst hwa
    exact range_below (holds_range (holds_alloc w row.toArray 33 w.heap.size row rfl rfl)) ((Below.refl _ _).alloc (Nat.le_refl _) _) (by simp)
  have hZ : Free.Holds (w.heap.size + 1) Rm.none.zeroRow wa := by
    subst hwa
    exact holds_alloc _ _ _ _ _ (by simp) rfl
  have HZ := Lib.hid hZ
  have HB := Lib.hid hba
  have HS := Lib.hid hS0
  subst hrow
  have hr0 := HR.out wa HB.out
  have k5 : wa.cell? ⟨w.heap.size, 5, none⟩ = some (.bool false) := hS0 5 _ rfl
  have k2 : wa.cell? ⟨w.heap.size, 2, none⟩ = some (.string lo) := hS0 2 _ rfl
  have k3 : wa.cell? ⟨w.heap.size, 3, none⟩ = some (.string hi) := hS0 3 _ rfl
  have k4 : wa.cell? ⟨w.heap.size, 4, none⟩ = some (.bool all) := hS0 4 _ rfl
  have HW := Lib.hid hwa
  clear hZ hba hS0 HR
  simp only [Sp.v] at hr0
  rw [HW.out] at hr0 k5 k2 k3 k4
  unfold Rm.zeroRow at hr0 k5 k2 k3 k4
  cases hh : rightB ⟨lo, hi, all⟩ m with
  | false =>
    rw [hh] at hr0
    go_enter Try.func22, Try.ntmps22
    go_wp2_with fail
    refine hr0.mono ?_
    rintro e w1 ⟨rfl, b1⟩
    have b1' : Below wa.heap.size wa w1 := by rw [HW.out]; exact b1
    have s1 := b1'.size
    obtain ⟨W, hst, hW, hld, hqq, hsz⟩ := rev_done Rm.none Rs.none (HZ.out.below b1' (by omega)) rfl
    have HB1 : Hid (Below w.heap.size w W) := Lib.hid (by
      rw [hW]
      exact Free.below_setCells (by omega) _ _ _ (HB.out.trans (b1'.mono (by omega))))
    simp only [Rm.v, Rm.none, Rs.none, zero, List.length_nil] at hst hld
    clear hW hqq hsz b1 b1' hr0 HW HZ HB HS
    go_wp2_with (refine wpList_run_store rfl 33 (.tmp 6) (.tmp 17) rfl _ _ rfl rfl W hst ?_)
    exact bodyPost_ret (results_cell2 Try.results22 rfl rfl hld) rfl ⟨Rm.none, Rs.none, 1, rfl, rev_none _, from_none _, HB1.out, .inr ⟨trivial, rfl, rfl⟩⟩
  | true =>
    rw [hh] at hr0
    have hrm : Rise m := rise_of hh
    have hmg := merge_eq m l hri hrm
    have hcl := changed_length m l
    have hck : ∀ e ∈ changedL l m, e.key.size ≤ 1000000 := fun e he => by
      rcases mem_changed _ _ he with h | h
      · exact hkm e h
      · exact hkl e h
    have hch := fun ad c0 w' (hc0 : l.length ≤ c0) (hL : Ents w' (some ad) l) (hM : Ents w' b m) => changed_any ad l c0 b m d w' (by omega) (by omega) hc0 hL hM
    rw [hmg] at hch
    have hly := fun rt ad c w' (hE : Ents w' ad (changedL l m)) => lay_any next rt ⟨lo, hi, all⟩ ad (changedL l m) c w' (by omega) hck hE
    obtain ⟨rt, hrt⟩ : ∃ rt, rt = rated rate m.length := ⟨_, rfl⟩
    have hcr := fun w => refrate_any rate (m.length : Int) w
    have hcr := fun w => rate_any rate (m.length : Int) w
    rw [← hrt] at hcr ⊢
    obtain ⟨L, hL⟩ : ∃ L, L = changedL l m := ⟨_, rfl⟩
    rw [← hL] at hch hly ⊢
    obtain ⟨T, hT⟩ : ∃ T, T = build (L.map En.key) := ⟨_, rfl⟩
    rw [← hT] at hly ⊢
    simp only [Sp.v] at hly
    clear hrt hL hT hmg hcl hck hrm hh hkl hkm hri
    have HCH := Lib.hid hch
    have HLY := Lib.hid hly
    clear hch hly
    go_enter Try.func22, Try.ntmps22
    go_wp2_with fail
    refine hr0.mono ?_
    rintro e w1 ⟨rfl, b1⟩
    have b1' : Below wa.heap.size wa w1 := by rw [HW.out]; exact b1
    have s1 := b1'.size
    have hS1 : w1.drew.rangeAt w.heap.size 0 [.int .i64 ver, .int .i64 rate, .string lo, .string hi, .bool all, .bool false, .slice ka l.length kc, .slice va l.length vc, .slice ga l.length gc, .slice ta tab.length tc] ∧ Below w.heap.size w w1.drew ∧ w.heap.size + 2 ≤ w1.drew.heap.size := ⟨range_stay HS.out (drew_below b1') (by omega), drew_below (HB.out.trans (b1'.mono (by omega))), by rw [drew_size]; omega⟩
    have hZ1 : Free.Holds (w.heap.size + 1) Rm.none.zeroRow w1.drew := (HZ.out.below b1' (by omega)).below (drew_below (Below.refl w1.heap.size w1)) (by omega)
    clear b1 b1' HW HZ HB HS hr0 k2 k3 k4 k5
    go_wp2_with fail
    refine FreeX.region_puts (S := fun w' => w'.rangeAt w.heap.size 0 [.int .i64 ver, .int .i64 rate, .string lo, .string hi, .bool all, .bool false, .slice ka l.length kc, .slice va l.length vc, .slice ga l.length gc, .slice ta tab.length tc] ∧ Below w.heap.size w w' ∧ w.heap.size + 2 ≤ w'.heap.size) (B0 := w.heap.size + 1) (w0 := w1.drew) (om := fun _ => w.heap.size + 1) (olds := [(0, Rm.none.zeroRow)]) (far := fun _ _ => True)
      (tabs := fun β => [(2, .load 3 ⟨w.heap.size, 1, none⟩ (.int .i64 rate)), (4, .gen [.slice b m.length d] (.int .i64 (m.length : Int))), (5, .call 42 [.int .i64 rate, .int .i64 (m.length : Int)] (.int .i64 rt)),
        (7, .load 28 ⟨w.heap.size, 2, none⟩ (.agg #[.string lo, .string hi, .bool all])), (8, .load 33 ⟨w.heap.size, 0, none⟩ (.agg #[.int .i64 ver, .int .i64 rate, .string lo, .string hi, .bool all, .bool false, .slice ka l.length kc, .slice va l.length vc, .slice ga l.length gc, .slice ta tab.length tc])),
        (9, .rel 44 [.agg #[.int .i64 ver, .int .i64 rate, .string lo, .string hi, .bool all, .bool false, .slice ka l.length kc, .slice va l.length vc, .slice ga l.length gc, .slice ta tab.length tc]] (IsG (w.heap.size + 2) l)),
        (11, .rel 43 [(β 9).2, .slice b m.length d] (IsE (w.heap.size + 2) L)),
        (12, .rel 32 [.int .i64 next, .int .i64 rt, .agg #[.string lo, .string hi, .bool all], (β 11).2] (IsR (w.heap.size + 2) ⟨next, rt, ⟨lo, hi, all⟩, false, L, T⟩)),
        (13, .put 33 (.old 0) (β 12).2 (rowOf (β 12).2))])
      (by kernel_rfl) ⟨fun β => ⟨by kernel_rfl, ⟨fun w' h _ => load_3 (h.1 1 _ rfl), genx_len _ rfl rfl (len_38 _ _ _), ⟨enter_42, fun w' _ _ => (hcr w').mono (fun e w2 h => ⟨h.1, by rw [← h.2]; exact Below.refl _ _⟩)⟩,
          fun w' h _ => load_28 (s := Sp.mk lo hi all) ⟨h.1 2 _ rfl, h.1 3 _ rfl, h.1 4 _ rfl⟩, ?ld, ?e44, ?e43, ?e32, fun bb w' zs _ hf hz hh => put_rev (hf 12 _ rfl (by kernel_rfl)) bb zs hz hh, trivial⟩, by kernel_rfl, by kernel_rfl, by kernel_rfl,
          fun w1 w2 h hb => ⟨range_stay h.1 hb (by omega), h.2.1.trans (hb.mono (by omega)), Nat.le_trans h.2.2 hb.size⟩, by rw [drew_size]; omega, fun p zs h => ⟨Nat.le_refl _, by rw [drew_size]; omega⟩, fun p q zs zs' h h' hne => (by simp at h h'; omega), ?rb, ?ro, fun i t j x vs h => absurd h (FreeX.no_own (by kernel_rfl) i t j x vs), fun _ _ _ _ _ _ _ _ => trivial⟩, ?loc, fun _ _ _ => rfl⟩ hS1 rfl (fun p zs h => by simp at h; obtain ⟨rfl, rfl⟩ := h; exact hZ1)
      (fun β => Free.from_ 18 [.int .i64 next, .pointer (some ⟨w.heap.size, 1, none⟩), .int .i64 rate, .slice b m.length d, .int .i64 (m.length : Int), .int .i64 rt, .pointer (some ⟨w.heap.size, 2, none⟩), .agg #[.string lo, .string hi, .bool all], .agg #[.int .i64 ver, .int .i64 rate, .string lo, .string hi, .bool all, .bool false, .slice ka l.length kc, .slice va l.length vc, .slice ga l.length gc, .slice ta tab.length tc], (β 9).2, .slice b m.length d, (β 11).2, (β 12).2] ++ [(7, .int .i64 0)]) (fun β => by kernel_rfl) ?_
    case ld => exact fun w' h _ => run_loadAt_mid w' w.heap.size 0 33 _ _ h.1 Try.underlying33 rfl size33
    case e44 =>
      refine ⟨enter_44, fun w' h _ => (HE.out w' h.2.1).mono ?_⟩
      rintro e w2 ⟨g, rfl, hg, hO, hb⟩
      have := h.2.2
      obtain ⟨a', c', e1, hE', _⟩ := hO.ents
      cases e1
      exact ⟨_, rfl, ⟨g, rfl, hE', by omega⟩, hb, fun _ _ _ => trivial⟩
    case e43 =>
      refine ⟨enter_43, fun w' h hf => ?_⟩
      obtain ⟨g, e9, hE9, _⟩ : IsG (w.heap.size + 2) l (β 9).2 w' := hf 9 _ rfl (by kernel_rfl)
      rw [e9]
      refine (HCH.out ⟨g, 0, none⟩ l.length w' (Nat.le_refl _) hE9 (HM.out.below h.2.1)).mono ?_
      rintro e w2 ⟨v, rfl, hO, hb⟩
      exact ⟨v, rfl, (IsE.of hO).mono h.2.2, hb, fun _ _ _ => trivial⟩
    case e32 =>
      refine ⟨enter_32, fun w' h hf => ?_⟩
      obtain ⟨ad, c, e11, hE11, _⟩ : IsE (w.heap.size + 2) L (β 11).2 w' := hf 11 _ rfl (by kernel_rfl)
      rw [e11]
      refine (HLY.out rt ad c w' hE11).mono ?_
      rintro e w2 ⟨s', rfl, hrev, hfr, hb⟩
      exact ⟨_, rfl, ⟨s', rfl, hrev, Rs.from_mono (s := s') hfr h.2.2⟩, hb, fun _ _ _ => trivial⟩
    case rb => exact FreeX.rel_all (C := fun Φ => ∀ v w w', Φ v w → Below w.heap.size w w' → Φ v w') ⟨fun v w w' h hb => h.below hb, fun v w w' h hb => h.below hb, fun v w w' h hb => h.below hb, trivial⟩
    case ro => exact FreeX.rel_all (C := fun Φ => ∀ v w1 p zs vs, (p, zs) ∈ [(0, Rm.none.zeroRow)] → Φ v w1 → Φ v (w1.setCells (w.heap.size + 1) 0 vs)) ⟨fun v w1 p zs vs _ h => h.put (by omega) vs, fun v w1 p zs vs _ h => h.put (by omega) vs, fun v w1 p zs vs _ h => h.put (by omega) vs, trivial⟩
    case loc =>
      intro β i nn j h
      refine FreeX.look_cons (fun _ => rfl) (FreeX.look_cons (fun _ => rfl) (FreeX.look_cons (fun _ => rfl) (FreeX.look_cons (fun _ => rfl) (FreeX.look_cons (fun _ => rfl) (FreeX.look_cons (fun _ => rfl) (FreeX.look_cons (fun hj => ?_) (FreeX.look_cons (fun hj => ?_) (FreeX.look_cons (fun hj => ?_) rfl))))))))
      · subst hj
        rw [FreeX.upd_ne (k := 9) h (by kernel_rfl)]
      · subst hj
        rw [FreeX.upd_ne (k := 11) h (by kernel_rfl)]
      · subst hj
        rw [FreeX.upd_ne (k := 12) h (by kernel_rfl)]
    intro β w' h1 h2 h3 _ _ h6 h7
    obtain ⟨s', e12, hrev, hfr⟩ : IsR (w.heap.size + 2) ⟨next, rt, ⟨lo, hi, all⟩, false, L, T⟩ (β 12).2 w' := h7 12 _ rfl
    have hC : Free.Holds (w.heap.size + 1) (rowOf (β 12).2) w' := h6 0 _ (List.mem_cons_self ..)
    have hb := h1.2.1
    rw [FreeX.puts_append, Free.puts_from _ _ _ (Nat.le_of_ble_eq_true rfl)]
    simp only [List.take_succ_cons, List.take_zero, List.drop_succ_cons, List.drop_zero, List.cons_append, List.nil_append, List.length_cons, List.length_nil, Nat.reduceAdd]
    rw [e12, rowOf_v] at hC
    rw [e12]
    have hld : (loadVar 33 ⟨w.heap.size + 1, 0, none⟩).run Try.prog w' = .ok ((Rm.mk next rt ⟨lo, hi, all⟩ false L T).v s') w' := run_loadVar_mid w' (w.heap.size + 1) 0 33 _ _ (holds_range hC) Try.underlying33 rfl size33
    have HF := Lib.hid (⟨hrev, hb⟩ : _ ∧ _)
    clear e12 hC h1 h3 h6 h7 hb hrev hcr
    generalize (β 9).2 = x9
    generalize (β 11).2 = x11
    unfold Free.puts
    simp only [List.foldl_cons, List.foldl_nil, Rm.v] at hld ⊢
    go_wp2_with fail
    exact bodyPost_ret (results_cell2 Try.results22 rfl rfl hld) rfl ⟨⟨next, rt, ⟨lo, hi, all⟩, false, L, T⟩, s', 0, rfl, HF.out.1, Rs.from_mono (s := s') hfr (by omega), HF.out.2, .inl ⟨trivial, rfl, rfl⟩⟩
end Go.Proofs.Ytkapjijppjfmkaa
