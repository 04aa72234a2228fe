/- What the reference's Apply makes of any revision and any changes. Conditions: at most 1000 entries and changes, keys of at most 1000000 bytes, which stand in memory. -/
import Derived.Test.YtkapjijppjfmkaaEWalkT
import Derived.Test.YtkapjijppjfmkaaEWalkL
namespace Go.FreeX
open Go Go.RowKit Go.Free
def AllRel (C : (Value → World → Prop) → Prop) : List (Nat × Ent) → Prop
  | [] => True
  | (_, .rel _ _ Φ) :: r => C Φ ∧ AllRel C r
  | (_, .app _ Φ) :: r => C Φ ∧ AllRel C r
  | _ :: r => AllRel C r
theorem rel_all {C : (Value → World → Prop) → Prop} : ∀ {tab : List (Nat × Ent)}, AllRel C tab → ∀ i Φ, relOf (look tab i) = some Φ → C Φ
  | [], _, _, _, h => by cases h
  | (a, e) :: r, h, i, Φ, hr => by
    unfold look at hr
    split at hr
    · cases e <;> first | (cases hr; done) | (cases hr; exact h.1)
    · exact rel_all (tab := r) (by cases e <;> first | exact h.2 | exact h) i Φ hr
theorem puts_append (a : Act) (x y : List (Tmp × Value)) : puts a (x ++ y) = puts (puts a x) y := List.foldl_append
end Go.FreeX
namespace Go.Proofs.Ytkapjijppjfmkaa
open Go.RowKit Go.Op
set_option maxRecDepth 100000

theorem enter_46 (xs : Array Value) (w : World) : (callFunc 46 xs).run Try.prog w = .ok (.enter 46 xs) w := by kernel_rfl
/-- A slice's block, unless the slice is empty. -/
def farS (v : Value) (b : Nat) : Prop := ∀ ad n c, v = .slice (some ad) n c → n ≠ 0 → ad.block ≠ b
theorem ents_set {w : World} {a : Option Addr} {l : List En} (h : Ents w a l) {b : Nat} (hb : ∀ ad, a = some ad → l.length ≠ 0 → ad.block ≠ b) (zs : List Value) (o : Nat) : Ents (w.setCells b o zs) a l := by
  rcases h with rfl | ⟨g, off, rfl, hlt, hc⟩
  · exact .inl rfl
  · by_cases h0 : l = []
    · exact .inl h0
    · have hne : g ≠ b := hb _ rfl (by rw [ne_eq, List.length_eq_zero_iff]; exact h0)
      refine .inr ⟨g, off, rfl, by rw [Free.size_setCells]; exact hlt, fun k hk => ?_⟩
      obtain ⟨c1, c2, c3⟩ := hc k hk
      exact ⟨by rw [World.cell?_setCells_out b zs o w _ (fun e _ => absurd e hne)]; exact c1, by rw [World.cell?_setCells_out b zs o w _ (fun e _ => absurd e hne)]; exact c2, by rw [World.cell?_setCells_out b zs o w _ (fun e _ => absurd e hne)]; exact c3⟩
/-- A slice of entries that stand in memory. -/
def IsE (N : Nat) (l : List En) (v : Value) (w : World) : Prop := ∃ ad c, v = .slice ad l.length c ∧ Ents w ad l ∧ ∀ x, ad = some x → l.length ≠ 0 → N ≤ x.block
theorem IsE.below {N : Nat} {l : List En} {v : Value} {w w' : World} (h : IsE N l v w) (hb : Below w.heap.size w w') : IsE N l v w' := by
  obtain ⟨ad, c, rfl, hE, hN⟩ := h
  exact ⟨ad, c, rfl, hE.below hb, hN⟩
theorem IsE.set {N : Nat} {l : List En} {v : Value} {w : World} (h : IsE N l v w) {b : Nat} (hf : farS v b) (zs : List Value) : IsE N l v (w.setCells b 0 zs) := by
  obtain ⟨ad, c, rfl, hE, hN⟩ := h
  exact ⟨ad, c, rfl, ents_set hE (fun x hx hn => hf x _ _ (by rw [hx]) hn) zs 0, hN⟩
theorem IsE.far {N : Nat} {l : List En} {v : Value} {w : World} (h : IsE N l v w) {b : Nat} (hb : w.heap.size ≤ b) : farS v b := by
  obtain ⟨ad, c, rfl, hE, _⟩ := h
  rintro x n c' e hn
  cases e
  rcases hE with rfl | ⟨g, off, e, hlt, _⟩
  · exact absurd rfl hn
  · cases e
    show g ≠ b
    omega
/-- append to an empty row that has no room. -/
theorem append_none (b : Nat) (a : Option Addr) (l : List En) (c : Nat) (w : World) (hl : l.length ≤ 1000000) (hE : Ents w a l) (N : Nat) (hN : N ≤ w.heap.size) (ty : TypeId) :
    ∃ v w', (Builtin.append_ #[24, 24] ty #[.slice (some ⟨b, 0, none⟩) 0 0, .slice a l.length c]).run Try.prog w = .ok v w' ∧ IsE N l v w' ∧ Below w.heap.size w w' ∧ ∀ x, x < w.heap.size → farS v x := by
  obtain ⟨i0, hi, hz0, hz1, hz2⟩ := info_parts info62
  by_cases h0 : l = []
  · subst h0
    refine ⟨.slice (some ⟨b, 0, none⟩) 0 0, w, ?_, ⟨_, _, rfl, .inl rfl, fun x _ hn => absurd rfl hn⟩, Below.refl _ _, fun x _ ad n c e hn => ?_⟩
    · cases a <;> simp [Builtin.append_, run_underlying Try.underlying24, sizeOf, typeInfo, hi, Builtin.lenOf, Builtin.firstCells, storeCells, loadCells, loadCellsFrom]
    · cases e
      exact absurd rfl hn
  · obtain ⟨g, o, rfl, hn⟩ := news_of hE h0
    have hp : 0 < l.length := List.length_pos_iff.2 h0
    have hr := run_append_grow (P := Try.prog) w 24 ty 62 i0 _ Try.underlying24 hi hz0 ⟨b, 0, none⟩ 0 0 [] (by simp) (by intro j v hj; simp at hj) ⟨g, o, none⟩ l.length c (enRow l) (by rw [enRow_length, hz1]) hn (by omega) (by omega) (growslice_fits (by omega) (by rw [hz2]; omega))
    simp only [Nat.zero_add] at hr
    generalize grownCap w l.length 0 62 = cap at hr
    refine ⟨_, _, hr, ⟨_, _, rfl, .inr ⟨w.heap.size, 0, rfl, by simp, fun k hk => ?_⟩, fun x hx _ => by cases hx; exact hN⟩, drew_below ((Below.refl w.heap.size w).alloc (Nat.le_refl _) _), fun x hx ad n c e hn => ?_⟩
    · obtain ⟨e1, e2, e3⟩ := enRow_get l k hk
      have hc : ∀ j u, (enRow l)[j]? = some u → (w.drew.alloc (.cells ([].toArray ++ (enRow l).toArray ++ Builtin.zeroCells (Value.agg #[.string ⟨#[]⟩, .string ⟨#[]⟩, .bool false]).cells (cap - l.length)) 62)).cell? ⟨w.heap.size, j, none⟩ = some u := fun j u hj => by
        have hlt := (List.getElem?_eq_some_iff.1 hj).1
        rw [show w.heap.size = w.drew.heap.size from rfl, World.cell?_alloc_new]
        rw [Array.getElem?_append_left (by simp; exact hlt)]
        simpa using hj
      rw [Nat.zero_add]
      exact ⟨hc _ _ e1, hc _ _ e2, hc _ _ e3⟩
    · cases e
      show w.heap.size ≠ x
      omega

theorem app_at {S F : World → Prop} {K : World → World → Prop} {D : Value → World → Prop} {oo : Option Oper} (o0 : Oper) (ho : oo = some o0) {T : TypeId} {s x : Operand} (hop : o0.op = .call { callee := .builtin .append, args := #[s, x], argTypes := #[T, T] }) {vs vx : Value} {Φ : Value → World → Prop}
    (h : ∀ ty w, S w → F w → ∃ v w', (Builtin.append_ #[T, T] ty #[vs, vx]).run Try.prog w = .ok v w' ∧ Φ v w' ∧ K w w' ∧ D v w) : (FreeX.Ent.app [vs, vx] Φ).Ok Try.prog S F oo K D := by
  rintro o h1 ρ h2 w hS hF
  rw [ho] at h1
  cases h1
  rw [hop] at h2
  simp [Op.operands, Call.operands] at h2
  obtain ⟨v, w', hr, h3⟩ := h o0.type w hS hF
  refine ⟨v, w', ?_, h3⟩
  simp [execOp, hop, h2.1, h2.2, resolve, invoke, builtin, hr]
set_option maxHeartbeats 1000000 in
theorem refapply_any (ver rate next : Int) (sp : Sp) (a : Option Addr) (l : List En) (c : Nat) (b : Option Addr) (m : List En) (d : Nat) (w : World) (hl : l.length ≤ 1000) (hm : m.length ≤ 1000) (hkl : ∀ e ∈ l, e.key.size ≤ 1000000) (hkm : ∀ e ∈ m, e.key.size ≤ 1000000) (hE : Ents w a l) (hM : Ents w b m) :
    Calls Try.prog 25 #[(Fm.mk ver rate sp false l).v a c, .int .i64 next, .slice b m.length d] w fun e w' => ∃ ad cc, e = .returned ((Fm.mk next (rated rate m.length) sp false (changedL l m)).v ad cc) ∧ Ents w' ad (changedL l m) ∧ Below w.heap.size w w' := by
  obtain ⟨lo, hi, all⟩ := sp
  simp only [Fm.v]
  obtain ⟨wa, hwa⟩ : ∃ wa, wa = (w.alloc (.cells #[.int .i64 ver, .int .i64 rate, .string lo, .string hi, .bool all, .bool false, .slice a l.length c] 41)).alloc (.cells fmZero.toArray 41) := ⟨_, rfl⟩
  have hza : wa.heap.size = w.heap.size + 2 := by subst hwa; simp
  have hba : Below w.heap.size w wa := by subst hwa; exact ((Below.refl _ _).alloc (Nat.le_refl _) _).alloc (by simp) _
  have hS0 : wa.drew.rangeAt w.heap.size 0 [.int .i64 ver, .int .i64 rate, .string lo, .string hi, .bool all, .bool false, .slice a l.length c] ∧ Below w.heap.size w wa.drew ∧ w.heap.size + 2 ≤ wa.drew.heap.size := by
    refine ⟨?_, drew_below hba, by rw [drew_size, hza]; exact Nat.le_refl _⟩
    subst hwa
    exact range_below (holds_range (holds_alloc w #[.int .i64 ver, .int .i64 rate, .string lo, .string hi, .bool all, .bool false, .slice a l.length c] 41 w.heap.size [.int .i64 ver, .int .i64 rate, .string lo, .string hi, .bool all, .bool false, .slice a l.length c] rfl rfl)) (drew_below ((Below.refl _ _).alloc (Nat.le_refl _) _)) (by simp)
  have hZ : Free.Holds (w.heap.size + 1) fmZero wa := by
    subst hwa
    exact holds_alloc _ _ _ _ _ (by simp) rfl
  have HE := Lib.hid hE
  have HM := Lib.hid hM
  have HZ := Lib.hid hZ
  have HB := Lib.hid hba
  have HKL := Lib.hid hkl
  have HKM := Lib.hid hkm
  clear hE hM hZ hba hkl hkm
  obtain ⟨rt, hrt⟩ : ∃ rt, rt = rated rate m.length := ⟨_, rfl⟩
  have hcr := fun w => refrate_any rate (m.length : Int) w
  rw [← hrt] at hcr ⊢
  clear hrt
  have bd : ∀ (x : Value) w', IsE (w.heap.size + 2) l x w' → (Instr.build 41 (Free.zipped [0, 1, 2, 4] [.int .i64 next, .int .i64 rt, .agg #[.string lo, .string hi, .bool all], x])).run Try.prog w' = .ok (.agg #[.int .i64 next, .int .i64 rt, .string lo, .string hi, .bool all, .bool false, x]) w' := by
    rintro x w' ⟨ad, cc, rfl, _, _⟩
    unfold Free.zipped
    go_simp
  have al : ∀ w, (Instr.alloc 41 true (.tuple #[])).run Try.prog w = .ok (.pointer (some ⟨w.heap.size, 0, none⟩)) (w.alloc (.cells fmZero.toArray 41)) := fun w => by
    simp [fmZero, go_sem]
  have st : ∀ (x : Value) w', IsE (w.heap.size + 2) l x w' → ∀ bb zs, zs.length = 7 → Free.Holds bb zs w' → (Instr.storeAt 41 (.pointer (some ⟨bb, 0, none⟩)) (.agg #[.int .i64 next, .int .i64 rt, .string lo, .string hi, .bool all, .bool false, x])).run Try.prog w' = .ok () (w'.setCells bb 0 [.int .i64 next, .int .i64 rt, .string lo, .string hi, .bool all, .bool false, x]) := by
    rintro x w' ⟨ad, cc, rfl, _, _⟩ bb zs hz hh
    exact (fm_store (row := (Fm.mk next rt ⟨lo, hi, all⟩ false l).row ad cc) hh hz rfl (Fm.row_one _ _ _)).1
  go_enter Try.func25, Try.ntmps25
  go_wp2_with fail
  refine FreeX.region_puts (S := fun w' => w'.rangeAt w.heap.size 0 [.int .i64 ver, .int .i64 rate, .string lo, .string hi, .bool all, .bool false, .slice a l.length c] ∧ Below w.heap.size w w' ∧ w.heap.size + 2 ≤ w'.heap.size) (B0 := w.heap.size + 2) (w0 := wa.drew) (om := fun _ => 0) (olds := []) (far := farS)
    (tabs := fun β => [(2, .load 3 ⟨w.heap.size, 1, none⟩ (.int .i64 rate)), (4, .gen [.slice b m.length d] (.int .i64 (m.length : Int))), (5, .call 46 [.int .i64 rate, .int .i64 (m.length : Int)] (.int .i64 rt)),
      (7, .load 23 ⟨w.heap.size, 2, none⟩ (.agg #[.string lo, .string hi, .bool all])), (8, .row 24 62 0 [] [] []), (10, .load 24 ⟨w.heap.size, 6, none⟩ (.slice a l.length c)),
      (11, .app [.slice (some ⟨(β 8).1, 0, none⟩) 0 0, .slice a l.length c] (IsE (w.heap.size + 2) l)),
      (12, .make 41 [0, 1, 2, 4] [.int .i64 next, .int .i64 rt, .agg #[.string lo, .string hi, .bool all], (β 11).2] (.agg #[.int .i64 next, .int .i64 rt, .string lo, .string hi, .bool all, .bool false, (β 11).2])),
      (13, .new 41 fmZero), (14, .put 41 (.own 13) (.agg #[.int .i64 next, .int .i64 rt, .string lo, .string hi, .bool all, .bool false, (β 11).2]) [.int .i64 next, .int .i64 rt, .string lo, .string hi, .bool all, .bool false, (β 11).2])])
    (by kernel_rfl) ⟨fun β => ⟨by kernel_rfl, ⟨fun w' h _ => load_3 (h.1 1 _ rfl), genx_len _ rfl rfl (len_24 _ _ _), ⟨enter_46, fun w' _ _ => (hcr w').mono (fun e w2 h => ⟨h.1, by rw [← h.2]; exact Below.refl _ _⟩)⟩,
        fun w' h _ => load_23 (s := Sp.mk lo hi all) ⟨h.1 2 _ rfl, h.1 3 _ rfl, h.1 4 _ rfl⟩, ?row, fun w' h _ => load_24 (h.1 6 _ rfl),
        app_at _ rfl rfl (fun ty w' h _ => by
          obtain ⟨v, w2, h1, h2, h3, h4⟩ := append_none (β 8).1 a l c w' (by omega) (HE.out.below h.2.1) (w.heap.size + 2) h.2.2 ty
          exact ⟨v, w2, h1, h2, .inl h3, fun x _ hx => h4 x hx⟩),
        fun w' _ hf => bd _ w' (hf 11 _ rfl (by kernel_rfl)), al, fun bb w' zs _ hf hz hh => st _ w' (hf 11 _ rfl (by kernel_rfl)) bb zs hz hh, trivial⟩, by kernel_rfl, by kernel_rfl, by kernel_rfl,
        fun w1 w2 h hb => ⟨range_stay h.1 hb (by omega), h.2.1.trans (hb.mono (by omega)), Nat.le_trans h.2.2 hb.size⟩, by rw [drew_size, hza]; exact Nat.le_refl _, fun _ _ h => (by cases h), fun _ _ _ _ h => (by cases h), ?rb, fun _ _ _ _ _ _ _ _ h => (by cases h), ?rp, ?fa⟩, ?loc, fun _ _ _ => rfl⟩ hS0 (by rw [hwa]; rfl) (fun _ _ h => (by cases h))
    (fun β => Free.from_ 9 [.int .i64 next, .pointer (some ⟨w.heap.size, 1, none⟩), .int .i64 rate, .slice b m.length d, .int .i64 (m.length : Int), .int .i64 rt, .pointer (some ⟨w.heap.size, 2, none⟩), .agg #[.string lo, .string hi, .bool all], .slice (some ⟨(β 8).1, 0, none⟩) 0 0, .pointer (some ⟨w.heap.size, 6, none⟩), .slice a l.length c, (β 11).2, .agg #[.int .i64 next, .int .i64 rt, .string lo, .string hi, .bool all, .bool false, (β 11).2]] ++ [(7, .pointer (some ⟨(β 13).1, 0, none⟩))]) (fun β => by kernel_rfl) ?_
  case row => exact fun w' => by simp [Free.zipped, go_sem]
  case rb => exact FreeX.rel_all (C := fun Φ => ∀ v w w', Φ v w → Below w.heap.size w w' → Φ v w') ⟨fun v w w' h hb => h.below hb, trivial⟩
  case rp => exact fun i t j x vs _ => FreeX.rel_all (C := fun Φ => ∀ v w b zs, Φ v w → farS v b → Φ v (w.setCells b 0 zs)) ⟨fun v w b zs h hb => h.set hb zs, trivial⟩
  case fa => exact FreeX.rel_all (C := fun Φ => ∀ v w b, Φ v w → w.heap.size ≤ b → farS v b) ⟨fun v w b h hb => h.far hb, trivial⟩
  case loc =>
    intro β i nn j h
    refine FreeX.look_cons (fun _ => rfl) (FreeX.look_cons (fun _ => rfl) (FreeX.look_cons (fun _ => rfl) (FreeX.look_cons (fun _ => rfl) (FreeX.look_cons (fun _ => rfl) (FreeX.look_cons (fun _ => rfl) (FreeX.look_cons (fun hj => ?_) (FreeX.look_cons (fun hj => ?_) (FreeX.look_cons (fun _ => rfl) (FreeX.look_cons (fun hj => ?_) rfl)))))))))
    · subst hj
      rw [FreeX.upd_ne (k := 8) h (by kernel_rfl)]
    · subst hj
      rw [FreeX.upd_ne (k := 11) h (by kernel_rfl)]
    · subst hj
      rw [FreeX.upd_ne (k := 11) h (by kernel_rfl)]
  intro β w' h1 h2 h3 h4 h5 _ h7
  rw [drew_size, hza] at h2
  simp only [drew_size, hza] at h4
  have d13 := h4 13 fmZero rfl
  obtain ⟨ad, cc, e11, hE11, hN11⟩ : IsE (w.heap.size + 2) l (β 11).2 w' := h7 11 _ rfl
  have hC : Free.Holds (β 13).1 [.int .i64 next, .int .i64 rt, .string lo, .string hi, .bool all, .bool false, (β 11).2] w' := d13.2.2
  have hp1 := d13.1
  have hp2 := d13.2.1
  rw [FreeX.puts_append, Free.puts_from _ _ _ (Nat.le_of_ble_eq_true rfl)]
  simp only [List.take_succ_cons, List.take_zero, List.drop_succ_cons, List.drop_zero, List.cons_append, List.nil_append, List.length_cons, List.length_nil, Nat.reduceAdd]
  rw [e11] at hC ⊢
  clear e11 d13 h7 h4 h5 bd al st hcr hS0
  generalize (β 13).1 = p at hC hp1 hp2 ⊢
  generalize (β 8).1 = p8
  have HB1 := Lib.hid h1.2.1
  have HZ1 := Lib.hid ((HZ.out.below (drew_below (Below.refl _ _)) (by show _ < wa.heap.size; omega)).below h3 (by omega))
  have HC := Lib.hid hC
  have HE1 := Lib.hid hE11
  have HN1 := Lib.hid hN11
  clear h1 h3 hC hE11 HZ HB hN11
  unfold Free.puts
  simp only [List.foldl_cons, List.foldl_nil]
  go_wp2
  go_loopw [8] (fun iv wr => ∃ (i : Nat) (ad : Option Addr) (cc n : Nat), iv = .int .i64 (i : Int) ∧ i ≤ m.length ∧ p < wr.heap.size ∧ n = (changedL l (m.take i)).length ∧ Hid (Free.Holds p [.int .i64 next, .int .i64 rt, .string lo, .string hi, .bool all, .bool false, .slice ad n cc] wr) ∧ Hid (Ents wr ad (changedL l (m.take i))) ∧ Hid (∀ x, ad = some x → n ≠ 0 → w.heap.size + 2 ≤ x.block) ∧ Hid (Below (w.heap.size + 2) w' wr)) (fun iv _ => m.length - (intOf iv).toNat)
  case atStart => exact ⟨0, ad, cc, l.length, rfl, by omega, hp2, rfl, HC, HE1, HN1, Lib.hid (Below.refl _ _)⟩
  case round =>
    clear HC HE1 HE HN1
    obtain ⟨i, ad, cc, n, rfl, him, hpr, hn, HC, HE, HN, HBr⟩ := hrel
    have sr := HBr.out.size
    by_cases h1 : i < m.length
    · have i1 : (i : Int) < (m.length : Int) := by omega
      obtain ⟨mb, mo, rfl, hmb, hat⟩ := HM.out.at h1
      have hat2 := hat.below (HB1.out.trans (HBr.out.mono (by omega))) hmb
      have hstep : changedL l (m.take (i + 1)) = withL (changedL l (m.take i)) m[i] := by
        rw [List.take_succ_eq_append_getElem h1]
        unfold changedL
        rw [List.foldl_append]
        rfl
      have hlen := changed_length (m.take i) l
      rw [List.length_take] at hlen
      have hkL : ∀ e ∈ changedL l (m.take i), e.key.size ≤ 1000000 := fun e he => by
        rcases mem_changed _ _ he with h | h
        · exact HKM.out e (List.mem_of_mem_take h)
        · exact HKL.out e h
      have hkx : m[i].key.size ≤ 1000000 := HKM.out _ (List.getElem_mem h1)
      have HST := Lib.hid hstep
      clear hat hstep
      generalize changedL l (m.take i) = L at hn hlen hkL HE HST
      have hw := fun w2 (hb : Below wr.heap.size wr w2) => with_any ad L cc m[i] w2 (by omega) (HE.out.below hb) hkL hkx
      subst hn
      generalize m[i] = x at hw hat2 HST
      obtain ⟨k, v, gn⟩ := x
      obtain ⟨c1, c2, c3⟩ := hat2
      simp only [En.v] at c1 c2 c3 hw
      have HW := Lib.hid hw
      obtain ⟨q6, qf⟩ := HC.out 6 _ rfl
      have hmb2 : mb < wr.heap.size := by omega
      clear hw hkL hkx hlen
      go_wp2_with fail
      go_region_with (go_at_call 47; refine (HW.out _ (drew_below (Below.refl _ _))).mono ?_; rintro e w5 ⟨v5, rfl, hO, b5⟩; obtain ⟨a5, c5, rfl, hE5, hbk⟩ := hO.ents; have b6 := Below.trans (drew_below (Below.refl wr.heap.size wr)) b5; have HC5 := HC.out.below b6 hpr; obtain ⟨f6, ff6⟩ := HC5 6 _ rfl; have HX := Lib.hid HC5; have HE5 := Lib.hid hE5; have HK5 := Lib.hid hbk; have HB6 := Lib.hid b6; clear hO hE5 hbk b5 b6 HC5)
      all_goals
        have s6 := HB6.out.size
        have HC7 := Lib.hid (holds_set (v := .slice a5 (withL L ⟨k, v, gn⟩).length c5) HX.out (i := 6) (by simp))
        have HE7 := Lib.hid (ents_set HE5.out (b := p) (fun x hx hn => by
          obtain ⟨g, hg, hge⟩ := HK5.out (by rw [hx]; simp)
          rw [hx] at hg
          cases hg
          rw [drew_size] at hge
          show g ≠ p
          omega) [.slice a5 (withL L ⟨k, v, gn⟩).length c5] 6)
        have HN7 : Hid (∀ x, a5 = some x → (withL L ⟨k, v, gn⟩).length ≠ 0 → w.heap.size + 2 ≤ x.block) := Lib.hid (fun x hx hn => by
          obtain ⟨g, hg, hge⟩ := HK5.out (by rw [hx]; simp)
          rw [hx] at hg
          cases hg
          rw [drew_size] at hge
          show w.heap.size + 2 ≤ g
          omega)
        have HB7 := Lib.hid ((HBr.out.trans (HB6.out.mono (by omega))).setCell (p := ⟨p, 6, none⟩) (by show w.heap.size + 2 ≤ p; omega) (.slice a5 (withL L ⟨k, v, gn⟩).length c5))
        go_wp2
        go_roundw
        case rel => exact ⟨i + 1, a5, c5, _, by go_num, by omega, by simp [World.setCell]; omega, by rw [HST.out], HC7, by rw [HST.out]; exact HE7, HN7, HB7⟩
        case measure => simp [intOf]; omega
    · obtain rfl : i = m.length := by omega
      have i1 : ¬ (m.length : Int) < (m.length : Int) := by omega
      rw [List.take_length] at hn HE
      subst hn
      have hl1 : (Instr.loadAt 41 (.pointer (some ⟨p, 0, none⟩))).run Try.prog wr = .ok ((Fm.mk next rt ⟨lo, hi, all⟩ false (changedL l m)).v ad cc) wr := fm_load HC.out rfl
      obtain ⟨W, hst, hW, hld, _⟩ := fm_done ⟨next, rt, ⟨lo, hi, all⟩, false, changedL l m⟩ ad cc (HZ1.out.below HBr.out (by omega)) rfl
      have HF : Hid (Ents W ad (changedL l m) ∧ Below w.heap.size w W) := Lib.hid (by
        rw [hW]
        refine ⟨?_, Free.below_setCells (by omega) _ _ _ (HB1.out.trans (HBr.out.mono (by omega)))⟩
        exact ents_set HE.out (fun x hx hn => by have := HN.out x hx hn; omega) _ 0)
      simp only [Fm.v] at hl1 hst hld
      clear hW HC HE HBr
      go_wp2_with (first | (refine wpList_run_load rfl 41 (.tmp 7) rfl _ _ rfl hl1 ?_) | (refine wpList_run_store rfl 41 (.tmp 6) (.tmp 36) rfl _ _ rfl rfl W hst ?_))
      exact bodyPost_ret (results_cell Try.results25 rfl hld) rfl ⟨ad, ⟨cc, rfl⟩, HF.out.1, HF.out.2⟩
end Go.Proofs.Ytkapjijppjfmkaa
