/- rev.Split of a revision. Conditions: at most 200 entries, keys of at most 1000000 bytes, which stand in memory. -/
import Derived.Test.YtkapjijppjfmkaaEWalkW
import Derived.Test.YtkapjijppjfmkaaEWalkE
import Derived.Test.YtkapjijppjfmkaaFreeY
namespace Go.Proofs.Ytkapjijppjfmkaa
open Go.RowKit Go.Op
set_option maxRecDepth 100000

theorem enter_48 (xs : Array Value) (w : World) : (callFunc 48 xs).run Try.prog w = .ok (.enter 48 xs) w := by kernel_rfl
theorem alloc28 (w : World) : (Instr.alloc 28 true (.tuple #[])).run Try.prog w = .ok (.pointer (some ⟨w.heap.size, 0, none⟩)) (w.alloc (.cells zero.cells.toArray 28)) := by
  simp [zero, Sp.cells, go_sem]
theorem genx_ext2 {S F : World → Prop} {K : World → World → Prop} {D : Value → World → Prop} {oo : Option Oper} (o0 : Oper) (ho : oo = some o0) {x : Operand} {k : Nat} (hop : o0.op = .extract x k) {vs : Array Value} {v : Value} (h : vs[k]? = some v) :
    (FreeX.Ent.gen [.tuple vs] v).Ok Try.prog S F oo K D := by
  rintro o h1 ρ h2 w hS hF
  rw [ho] at h1
  cases h1
  rw [hop] at h2
  have h3 : ρ x = .tuple vs := by simpa [Op.operands] using h2
  simp [execOp, hop, h3, Instr.extract, h]
theorem slice_hi (g n len cap : Nat) (h : n ≤ cap) (hc : 0 < cap) (w : World) : (Instr.sliceAt 38 (.slice (some ⟨g, 0, none⟩) len cap) none (some (.int .i64 (n : Int))) none).run Try.prog w = .ok (.slice (some ⟨g, 0, none⟩) n cap) w := by
  have h1 : ¬ cap = 0 := by omega
  have h2 : (n : Int) ≤ (cap : Int) := by omega
  go_simp
theorem slice_lo (g n len cap : Nat) (h : n < len) (hc : len ≤ cap) (w : World) : (Instr.sliceAt 38 (.slice (some ⟨g, 0, none⟩) len cap) (some (.int .i64 (n : Int))) none none).run Try.prog w = .ok (.slice (some ⟨g, n * 3, none⟩) (len - n) (cap - n)) w := by
  have h1 : ¬ cap = n := by omega
  have h2 : (n : Int) ≤ (len : Int) := by omega
  go_simp
theorem genx_slice_hi {S F : World → Prop} {K : World → World → Prop} {D : Value → World → Prop} {oo : Option Oper} (o0 : Oper) (ho : oo = some o0) {x y : Operand} (hop : o0.op = .slice 38 x none (some y) none) {g n len cap : Nat} (h : n ≤ cap) (hc : 0 < cap) :
    (FreeX.Ent.gen [.slice (some ⟨g, 0, none⟩) len cap, .int .i64 (n : Int)] (.slice (some ⟨g, 0, none⟩) n cap)).Ok Try.prog S F oo K D := by
  rintro o h1 ρ h2 w _ _
  rw [ho] at h1
  cases h1
  rw [hop] at h2
  simp [Op.operands] at h2
  have h3 := slice_hi g n len cap h hc w
  simp [execOp, hop, h2.1, h2.2, h3]
theorem genx_slice_lo {S F : World → Prop} {K : World → World → Prop} {D : Value → World → Prop} {oo : Option Oper} (o0 : Oper) (ho : oo = some o0) {x y : Operand} (hop : o0.op = .slice 38 x (some y) none none) {g n len cap : Nat} (h : n < len) (hc : len ≤ cap) :
    (FreeX.Ent.gen [.slice (some ⟨g, 0, none⟩) len cap, .int .i64 (n : Int)] (.slice (some ⟨g, n * 3, none⟩) (len - n) (cap - n))).Ok Try.prog S F oo K D := by
  rintro o h1 ρ h2 w _ _
  rw [ho] at h1
  cases h1
  rw [hop] at h2
  simp [Op.operands] at h2
  have h3 := slice_lo g n len cap h hc w
  simp [execOp, hop, h2.1, h2.2, h3]
theorem At.of {q : Nat} {s : Sp} {w : World} (h : Free.Holds q s.cells w) : At q 0 s w := ⟨(h 0 _ rfl).1, (h 1 _ rfl).1, (h 2 _ rfl).1⟩
def halfN (l : List En) : Nat := ((liveL l).length + 1) / 2
def midK (l : List En) : ByteArray := (((liveL l)[halfN l]?).map En.key).getD no
def halfA (ver rate : Int) (sp : Sp) (l : List En) : Rm := ⟨ver, rate, sp.meet ⟨no, midK l, false⟩, false, (liveL l).take (halfN l), build (((liveL l).take (halfN l)).map En.key)⟩
def halfB (ver rate : Int) (sp : Sp) (l : List En) : Rm := ⟨ver, rate, sp.meet ⟨midK l, no, true⟩, false, (liveL l).drop (halfN l), build (((liveL l).drop (halfN l)).map En.key)⟩
theorem ents_part {w : World} {g : Nat} {l : List En} (h : Ents w (some ⟨g, 0, none⟩) l) (n : Nat) : Ents w (some ⟨g, 0, none⟩) (l.take n) ∧ Ents w (some ⟨g, n * 3, none⟩) (l.drop n) := by
  rcases h with rfl | ⟨b, off, e, hlt, hc⟩
  · exact ⟨.inl (by simp), .inl (by simp)⟩
  · cases e
    refine ⟨.inr ⟨g, 0, rfl, hlt, fun k hk => ?_⟩, .inr ⟨g, n * 3, rfl, hlt, fun k hk => ?_⟩⟩
    · rw [List.length_take] at hk
      rw [List.getElem_take]
      exact hc k (by omega)
    · rw [List.length_drop] at hk
      rw [List.getElem_drop]
      have := hc (n + k) (by omega)
      rwa [show n * 3 + k * 3 = 0 + (n + k) * 3 by omega]
theorem live_len (l : List En) : (liveL l).length ≤ l.length := List.length_filter_le ..
theorem range_put {w : World} {b o q : Nat} {zs : List Value} (h : w.rangeAt b o zs) (hq : b ≠ q) (vs : List Value) : (w.setCells q 0 vs).rangeAt b o zs := fun j v hj => by
  rw [World.cell?_setCells_out q vs 0 w _ (fun e _ => absurd e hq)]
  exact h j v hj
theorem ents_put {w : World} {g : Nat} {l : List En} (h : Ents w (some ⟨g, 0, none⟩) l) {q : Nat} (hq : g ≠ q) (vs : List Value) : Ents (w.setCells q 0 vs) (some ⟨g, 0, none⟩) l := by
  rcases h with rfl | ⟨b, off, e, hlt, hc⟩
  · exact .inl rfl
  · cases e
    refine .inr ⟨g, 0, rfl, by rw [Free.size_setCells]; exact hlt, fun k hk => ?_⟩
    obtain ⟨h1, h2, h3⟩ := hc k hk
    exact ⟨by rw [World.cell?_setCells_out q vs 0 w _ (fun e _ => absurd e hq)]; exact h1, by rw [World.cell?_setCells_out q vs 0 w _ (fun e _ => absurd e hq)]; exact h2, by rw [World.cell?_setCells_out q vs 0 w _ (fun e _ => absurd e hq)]; exact h3⟩
theorem ents_stay {w w' : World} {g B : Nat} {l : List En} (h : Ents w (some ⟨g, 0, none⟩) l) (hb : Below B w w') (hg : g < B) (hs : w.heap.size ≤ w'.heap.size) : Ents w' (some ⟨g, 0, none⟩) l := by
  rcases h with rfl | ⟨b, off, e, hlt, hc⟩
  · exact .inl rfl
  · cases e
    exact .inr ⟨g, 0, rfl, Nat.lt_of_lt_of_le hlt hs, fun k hk => (hc k hk).below hb hg⟩
theorem old_lt {p B : Nat} {zs : List Value} (h : (p, zs) ∈ [(0, Rm.none.zeroRow), (1, Rm.none.zeroRow)]) : B + 1 + p < B + 3 := by
  simp only [List.mem_cons, List.not_mem_nil, or_false, Prod.mk.injEq] at h
  omega

set_option maxHeartbeats 1000000 in
theorem split_any (ver rate : Int) (sp : Sp) (l : List En) (tab : List Int) (s : Rs) (w : World) (hl : l.length ≤ 200) (hk : ∀ e ∈ l, e.key.size ≤ 1000000) (hR : RevAt w ⟨ver, rate, sp, false, l, tab⟩ s) (h2 : 2 ≤ (liveL l).length) :
    Calls Try.prog 27 #[(Rm.mk ver rate sp false l tab).v s] w fun e w' => ∃ s1 s2, e = .returned (.tuple #[(halfA ver rate sp l).v s1, (halfB ver rate sp l).v s2, .bool true]) ∧ RevAt w' (halfA ver rate sp l) s1 ∧ RevAt w' (halfB ver rate sp l) s2 ∧ Below w.heap.size w w' := by
  obtain ⟨wa, hwa⟩ : ∃ wa, wa = ((w.alloc (.cells ((Rm.mk ver rate sp false l tab).row s).toArray 33)).alloc (.cells Rm.none.zeroRow.toArray 33)).alloc (.cells Rm.none.zeroRow.toArray 33) := ⟨_, rfl⟩
  have hza : wa.heap.size = w.heap.size + 3 := by subst hwa; simp
  have hba : Below w.heap.size w wa := by subst hwa; exact (((Below.refl _ _).alloc (Nat.le_refl _) _).alloc (by simp) _).alloc (by simp; omega) _
  have hS0 : Free.Holds w.heap.size ((Rm.mk ver rate sp false l tab).row s) wa := by
    subst hwa
    exact Free.Holds.below (holds_alloc w ((Rm.mk ver rate sp false l tab).row s).toArray 33 w.heap.size _ rfl rfl) (((Below.refl _ _).alloc (Nat.le_refl _) _).alloc (by simp) _) (by simp)
  have hZ1 : Free.Holds (w.heap.size + 1) Rm.none.zeroRow wa := by
    subst hwa
    refine Free.Holds.below (holds_alloc (w.alloc (.cells ((Rm.mk ver rate sp false l tab).row s).toArray 33)) Rm.none.zeroRow.toArray 33 (w.heap.size + 1) _ (by simp) rfl) ((Below.refl _ _).alloc (Nat.le_refl _) _) (by simp)
  have hZ2 : Free.Holds (w.heap.size + 2) Rm.none.zeroRow wa := by
    subst hwa
    exact holds_alloc _ _ _ _ _ (by simp) rfl
  have hl0 := rev_get hS0
  have hlv := live_any ⟨ver, rate, sp, false, l, tab⟩ s wa (by show l.length ≤ _; omega) (hR.below hba)
  have HW := Lib.hid hwa
  have HS0 := Lib.hid hS0
  have HZ1 := Lib.hid hZ1
  have HZ2 := Lib.hid hZ2
  have HB := Lib.hid hba
  rw [HW.out] at hl0 hlv
  clear hwa hS0 hZ1 hZ2 hR hba
  obtain ⟨row, hrow⟩ : ∃ row, row = (Rm.mk ver rate sp false l tab).row s := ⟨_, rfl⟩
  have hr0 : row[0]? = some (.int .i64 ver) := by rw [hrow]; rfl
  have hr1 : row[1]? = some (.int .i64 rate) := by rw [hrow]; rfl
  have hr2 : row[2]? = some (.string sp.lo) := by rw [hrow]; rfl
  have hr3 : row[3]? = some (.string sp.hi) := by rw [hrow]; rfl
  have hr4 : row[4]? = some (.bool sp.all) := by rw [hrow]; rfl
  rw [← hrow] at HS0
  obtain ⟨LL, hLL⟩ : ∃ LL, LL = liveL l := ⟨_, rfl⟩
  obtain ⟨len, hlen⟩ : ∃ len, len = LL.length := ⟨_, rfl⟩
  obtain ⟨n, hn⟩ : ∃ n, n = (len + 1) / 2 := ⟨_, rfl⟩
  have hlc := live_len l
  have hnn : n = halfN l := by unfold halfN; rw [hn, hlen, hLL]
  rw [← hLL] at h2 hlc
  rw [← hlen] at h2 hlc
  simp only [← hLL] at hlv
  rw [← hlen] at hlv
  obtain ⟨k, hkk⟩ : ∃ k, k = midK l := ⟨_, rfl⟩
  have hLn : n < LL.length := by omega
  have hkn : (LL[n]'hLn).key = k := by
    rw [hkk]
    unfold midK
    rw [← hnn, ← hLL, List.getElem?_eq_getElem hLn]
    rfl
  have hkL : ∀ e ∈ LL, e.key.size ≤ 1000000 := fun e he => hk e (by rw [hLL] at he; exact (List.mem_filter.1 he).1)
  obtain ⟨bl, hbl⟩ : ∃ bl, bl = sp.meet ⟨no, k, false⟩ := ⟨_, rfl⟩
  obtain ⟨ab, hab⟩ : ∃ ab, ab = sp.meet ⟨k, no, true⟩ := ⟨_, rfl⟩
  have hct := fun w => cut_any sp k w
  rw [← hbl, ← hab] at hct
  obtain ⟨TA, hTA⟩ : ∃ T, T = build ((LL.take n).map En.key) := ⟨_, rfl⟩
  obtain ⟨TB, hTB⟩ : ∃ T, T = build ((LL.drop n).map En.key) := ⟨_, rfl⟩
  obtain ⟨RA, hRA⟩ : ∃ RA : Rm, RA = ⟨ver, rate, bl, false, LL.take n, TA⟩ := ⟨_, rfl⟩
  obtain ⟨RB, hRB⟩ : ∃ RB : Rm, RB = ⟨ver, rate, ab, false, LL.drop n, TB⟩ := ⟨_, rfl⟩
  have hea : halfA ver rate sp l = RA := by
    rw [hRA, hTA, hbl, hkk, hnn, hLL]
    rfl
  have heb : halfB ver rate sp l = RB := by
    rw [hRB, hTB, hab, hkk, hnn, hLL]
    rfl
  rw [hea, heb]
  generalize hcap : l.length = cap at hlv hlc hl
  have HLA : Hid (∀ g w', (w.heap.size + 3 ≤ w'.heap.size ∧ Ents w' (some ⟨g, 0, none⟩) LL) → Calls Try.prog 32 #[.int .i64 ver, .int .i64 rate, bl.v, .slice (some ⟨g, 0, none⟩) n cap] w' fun e w3 => ∃ s', e = .returned (RA.v s') ∧ RevAt w3 RA s' ∧ s'.from_ w'.heap.size ∧ Below w'.heap.size w' w3) := Lib.hid (fun g w' h => by
    have h3 := lay_any ver rate bl (some ⟨g, 0, none⟩) (LL.take n) cap w' (by rw [List.length_take]; omega) (fun e he => hkL e (List.mem_of_mem_take he)) (ents_part h.2 n).1
    rw [← hTA, ← hRA, List.length_take, Nat.min_eq_left (by omega)] at h3
    exact h3)
  have HLB : Hid (∀ g w', (w.heap.size + 3 ≤ w'.heap.size ∧ Ents w' (some ⟨g, 0, none⟩) LL) → Calls Try.prog 32 #[.int .i64 ver, .int .i64 rate, ab.v, .slice (some ⟨g, n * 3, none⟩) (len - n) (cap - n)] w' fun e w3 => ∃ s', e = .returned (RB.v s') ∧ RevAt w3 RB s' ∧ s'.from_ w'.heap.size ∧ Below w'.heap.size w' w3) := Lib.hid (fun g w' h => by
    have h3 := lay_any ver rate ab (some ⟨g, n * 3, none⟩) (LL.drop n) (cap - n) w' (by rw [List.length_drop]; omega) (fun e he => hkL e (List.mem_of_mem_drop he)) (ents_part h.2 n).2
    rw [← hTB, ← hRB, List.length_drop, ← hlen] at h3
    exact h3)
  have hq : Int.tdiv ((len : Int) + 1) 2 = (n : Int) := by
    rw [Int.tdiv_eq_ediv_of_nonneg (by omega)]
    omega
  have i1 : ¬ (len : Int) < 2 := by omega
  have hn1 : n ≤ cap := by omega
  have hn2 : 0 < cap := by omega
  have hn3 : n < len := by omega
  have HKN := Lib.hid hkn
  have HLL := Lib.hid hlen
  have hn4 : len ≤ cap := hlc
  clear hLL hnn hkk hTA hTB hRA hRB hea heb hbl hab hkn hrow hkL hk hlen hn hcap
  unfold Rm.zeroRow Rm.row at hl0 hlv
  simp only [Rm.v] at hl0 hlv ⊢
  go_enter Try.func27, Try.ntmps27
  go_wp2_with (refine wpList_run_load rfl 33 (.tmp 1) rfl _ _ rfl hl0 ?_)
  refine hlv.mono ?_
  rintro e w2 ⟨g, rfl, hg, hO, b2⟩
  replace hg : wa.heap.size < g := by rw [HW.out]; exact hg
  replace b2 : Below wa.heap.size wa w2 := by rw [HW.out]; exact b2
  rw [hza] at hg b2
  have b02 := HB.out.trans (b2.mono (by omega))
  have hz2 : w.heap.size + 3 ≤ w2.heap.size := by have := b2.size; omega
  have hS2 : w2.rangeAt w.heap.size 0 row := range_stay (holds_range HS0.out) b2 (by omega)
  have hY1 : Free.Holds (w.heap.size + 1) Rm.none.zeroRow w2 := HZ1.out.below b2 (by omega)
  have hY2 : Free.Holds (w.heap.size + 2) Rm.none.zeroRow w2 := HZ2.out.below b2 (by omega)
  have hgl : g < w2.heap.size := (hO.lt g rfl).2
  have hEg : Ents w2 (some ⟨g, 0, none⟩) LL := by
    obtain ⟨a', c', e1, hE', _⟩ := hO.ents
    cases e1
    exact hE'
  have hck : w2.cell? ⟨g, n * 3, none⟩ = some (.string k) := by
    obtain ⟨b', o', e1, _, h3, _⟩ := hEg.at hLn
    cases e1
    rw [HKN.out, Nat.zero_add] at h3
    exact h3
  have hix : ∀ w, (Instr.indexAt 38 (.slice (some ⟨g, 0, none⟩) len cap) (.int .i64 (n : Int))).run Try.prog w = .ok (.pointer (some ⟨g, n * 3, none⟩)) w := fun w => by
    have := at_38 g 0 len cap n hn3 w
    rwa [Nat.zero_add] at this
  have hat : ∀ w' : World, w'.rangeAt w.heap.size 0 row → At w.heap.size 2 sp w' := fun w' h => ⟨by have := h 2 _ hr2; rwa [Nat.zero_add] at this, by have := h 3 _ hr3; rwa [Nat.zero_add] at this, by have := h 4 _ hr4; rwa [Nat.zero_add] at this⟩
  have hS5 : w2.drew.rangeAt w.heap.size 0 row ∧ w2.drew.cell? ⟨g, n * 3, none⟩ = some (.string k) := ⟨range_stay hS2 (drew_below (Below.refl w2.heap.size w2)) (by omega), cell_keep (drew_below (Below.refl w2.heap.size w2)) hgl hck⟩
  have HS2 := Lib.hid hS2
  have HY1 := Lib.hid hY1
  have HY2 := Lib.hid hY2
  have HEg := Lib.hid hEg
  have HB2 := Lib.hid b02
  have HAT := Lib.hid hat
  have HIX := Lib.hid hix
  have HS5 := Lib.hid hS5
  clear hS2 hY1 hY2 hEg hck hat hix hS5 b02 b2 hO hl0 hlv HW HB HS0 HZ1 HZ2 HKN
  go_wp2_with fail
  refine FreeX.region_puts (S := fun w' => w'.rangeAt w.heap.size 0 row ∧ w'.cell? ⟨g, n * 3, none⟩ = some (.string k)) (B0 := w2.heap.size) (w0 := w2.drew) (om := fun _ => 0) (olds := []) (far := fun _ _ => True)
    (tabs := fun β => [(1, .load 28 ⟨w.heap.size, 2, none⟩ (sp.v)),
      (4, .gen [.slice (some ⟨g, 0, none⟩) len cap, .int .i64 (n : Int)] (.pointer (some ⟨g, n * 3, none⟩))),
      (6, .load 9 ⟨g, n * 3, none⟩ (.string k)),
      (7, .call 48 [sp.v, .string k] (.tuple #[bl.v, ab.v])),
      (9, .gen [.tuple #[bl.v, ab.v]] (bl.v)),
      (10, .gen [.tuple #[bl.v, ab.v]] (ab.v)),
      (11, .new 28 zero.cells),
      (12, .new 28 zero.cells),
      (13, .put 28 (.own 11) (bl.v) bl.cells),
      (14, .put 28 (.own 12) (ab.v) ab.cells)])
    (by kernel_rfl) ⟨fun β => ⟨by kernel_rfl, ⟨fun w' h _ => load_28 (HAT.out _ h.1), genx_at _ rfl rfl HIX.out, fun w' h _ => load_9 h.2, ⟨enter_48, fun w' _ _ => hct w'⟩, genx_ext2 _ rfl rfl rfl, genx_ext2 _ rfl rfl rfl, alloc28, alloc28, fun bb w' zs _ _ hz hh => put_ks bl bb w' zs hz hh, fun bb w' zs _ _ hz hh => put_ks ab bb w' zs hz hh, trivial⟩,
      by kernel_rfl, by kernel_rfl, by kernel_rfl, fun w1 w3 h hb => ⟨range_stay h.1 hb (by omega), cell_keep hb (by show g < _; omega) h.2⟩, Nat.le_refl _, fun _ _ h => (by cases h), fun _ _ _ _ h => (by cases h), fun i Φ h => (by rw [FreeX.no_rel (by kernel_rfl) i] at h; cases h), fun _ _ _ _ _ _ _ _ h => (by cases h), fun i t j x vs _ k Φ h => (by rw [FreeX.no_rel (by kernel_rfl) k] at h; cases h), fun _ _ _ _ _ _ _ _ => trivial⟩, ?loc, fun _ _ _ => rfl⟩
    HS5.out rfl (fun _ _ h => (by cases h)) (fun β => Free.from_ 21 [.pointer (some ⟨w.heap.size, 2, none⟩), sp.v, .slice (some ⟨g, 0, none⟩) len cap, .int .i64 (n : Int), .pointer (some ⟨g, n * 3, none⟩), .pointer (some ⟨g, n * 3, none⟩), .string k, .tuple #[bl.v, ab.v]] ++ [(20, .tuple #[bl.v, ab.v]), (29, bl.v), (30, ab.v), (7, .pointer (some ⟨(β 11).1, 0, none⟩)), (8, .pointer (some ⟨(β 12).1, 0, none⟩))]) (fun β => by kernel_rfl) ?_
  case loc => exact fun _ _ _ _ _ => rfl
  intro β w3 hs5 hz5 hb5 hnew hne _ _
  have d7 := hnew 11 zero.cells rfl
  have d8 := hnew 12 zero.cells rfl
  have hne2 := hne 11 12 zero.cells zero.cells rfl rfl (by decide)
  have hC7 : Free.Holds (β 11).1 bl.cells w3 := d7.2.2
  have hC8 : Free.Holds (β 12).1 ab.cells w3 := d8.2.2
  have hp7 := d7.1
  have hp8 := d8.1
  have hq7 := d7.2.1
  have hq8 := d8.2.1
  rw [FreeX.puts_append, Free.puts_from _ _ _ (Nat.le_of_ble_eq_true rfl)]
  simp only [List.take_succ_cons, List.take_zero, List.drop_succ_cons, List.drop_zero, List.cons_append, List.nil_append, List.length_cons, List.length_nil, Nat.reduceAdd]
  unfold Free.puts
  simp only [List.foldl_cons, List.foldl_nil]
  simp only [Act.put, List.setIfInBounds_toArray, List.set_cons_succ, List.set_cons_zero]
  generalize (β 11).1 = p7 at hC7 hp7 hq7 hne2 ⊢
  generalize (β 12).1 = p8 at hC8 hp8 hq8 hne2 ⊢
  rw [drew_size] at hp7 hp8 hz5
  have hz3 : w.heap.size + 3 ≤ w3.heap.size := by omega
  have hb3 := drew_below hb5
  have H3B : Hid (Below w2.heap.size w2 w3) := Lib.hid ((drew_below (Below.refl w2.heap.size w2)).trans hb5)
  have HC7 := Lib.hid hC7
  have HC8 := Lib.hid hC8
  have HS6 := Lib.hid (show w3.drew.rangeAt w.heap.size 0 row ∧ Free.Holds p7 bl.cells w3.drew ∧ Free.Holds p8 ab.cells w3.drew ∧ w.heap.size + 3 ≤ w3.drew.heap.size ∧ Ents w3.drew (some ⟨g, 0, none⟩) LL from
    ⟨range_stay (range_stay HS2.out H3B.out (by omega)) (drew_below (Below.refl w3.heap.size w3)) (by omega), HC7.out.below (drew_below (Below.refl w3.heap.size w3)) hq7, HC8.out.below (drew_below (Below.refl w3.heap.size w3)) hq8, by rw [drew_size]; exact hz3, (HEg.out.below H3B.out).below (drew_below (Below.refl w3.heap.size w3))⟩)
  clear hnew hne d7 d8 hC7 hC8 hs5 hb5 hb3 HS5
  go_wp2_with fail
  refine FreeX.region_putsY (S := fun w' => w'.rangeAt w.heap.size 0 row ∧ Free.Holds p7 bl.cells w' ∧ Free.Holds p8 ab.cells w' ∧ w.heap.size + 3 ≤ w'.heap.size ∧ Ents w' (some ⟨g, 0, none⟩) LL) (B0 := w.heap.size + 1) (w0 := w3.drew) (om := fun i => w.heap.size + 1 + i) (olds := [(0, Rm.none.zeroRow), (1, Rm.none.zeroRow)]) (far := fun _ _ => True)
    (tabs := fun β => [(1, .load 3 ⟨w.heap.size, 0, none⟩ (.int .i64 ver)),
      (3, .load 3 ⟨w.heap.size, 1, none⟩ (.int .i64 rate)),
      (4, .load 28 ⟨p7, 0, none⟩ (bl.v)),
      (7, .gen [.slice (some ⟨g, 0, none⟩) len cap, .int .i64 (n : Int)] (.slice (some ⟨g, 0, none⟩) n cap)),
      (8, .rel 32 [.int .i64 ver, .int .i64 rate, bl.v, .slice (some ⟨g, 0, none⟩) n cap] (IsR (w.heap.size + 3) RA)),
      (10, .load 3 ⟨w.heap.size, 0, none⟩ (.int .i64 ver)),
      (12, .load 3 ⟨w.heap.size, 1, none⟩ (.int .i64 rate)),
      (13, .load 28 ⟨p8, 0, none⟩ (ab.v)),
      (16, .gen [.slice (some ⟨g, 0, none⟩) len cap, .int .i64 (n : Int)] (.slice (some ⟨g, n * 3, none⟩) (len - n) (cap - n))),
      (17, .rel 32 [.int .i64 ver, .int .i64 rate, ab.v, .slice (some ⟨g, n * 3, none⟩) (len - n) (cap - n)] (IsR (w.heap.size + 3) RB)),
      (18, .put 33 (.old 0) ((β 8).2) (rowOf (β 8).2)),
      (19, .put 33 (.old 1) ((β 17).2) (rowOf (β 17).2))])
    (by kernel_rfl) ⟨fun β => ⟨by kernel_rfl, ⟨fun w' h _ => load_3 (h.1 0 _ hr0), fun w' h _ => load_3 (h.1 1 _ hr1), fun w' h _ => load_28 (At.of (w := w') h.2.1), genx_slice_hi _ rfl rfl hn1 hn2, ⟨enter_32, fun w' h _ => (HLA.out g w' h.2.2.2).mono (fun e w3 ⟨s', he, hr, hf, hb⟩ => ⟨_, he, ⟨s', rfl, hr, Rs.from_mono (s := s') hf h.2.2.2.1⟩, hb, fun _ _ _ => trivial⟩)⟩, fun w' h _ => load_3 (h.1 0 _ hr0), fun w' h _ => load_3 (h.1 1 _ hr1), fun w' h _ => load_28 (At.of (w := w') h.2.2.1), genx_slice_lo _ rfl rfl hn3 hn4, ⟨enter_32, fun w' h _ => (HLB.out g w' h.2.2.2).mono (fun e w3 ⟨s', he, hr, hf, hb⟩ => ⟨_, he, ⟨s', rfl, hr, Rs.from_mono (s := s') hf h.2.2.2.1⟩, hb, fun _ _ _ => trivial⟩)⟩, fun bb w' zs _ hf hz hh => put_rev (hf 8 _ rfl (by kernel_rfl)) bb zs hz hh, fun bb w' zs _ hf hz hh => put_rev (hf 17 _ rfl (by kernel_rfl)) bb zs hz hh, trivial⟩,
      by kernel_rfl, by kernel_rfl, by kernel_rfl, ?so, ?ss, by rw [drew_size]; omega, ?ol, ?od, FreeX.rel_all (C := fun Φ => ∀ v w w', Φ v w → Below w.heap.size w w' → Φ v w') ⟨fun v w w' h hb => h.below hb, fun v w w' h hb => h.below hb, trivial⟩, ?ro, fun i t j x vs h => absurd h (FreeX.no_own (by kernel_rfl) i t j x vs), fun _ _ _ _ _ _ _ _ => trivial⟩, ?loc, fun _ _ _ => rfl⟩
    HS6.out rfl ?hol (fun β => Free.from_ 31 [.pointer (some ⟨w.heap.size, 0, none⟩), .int .i64 ver, .pointer (some ⟨w.heap.size, 1, none⟩), .int .i64 rate, bl.v, .slice (some ⟨g, 0, none⟩) len cap, .int .i64 (n : Int), .slice (some ⟨g, 0, none⟩) n cap, (β 8).2, .pointer (some ⟨w.heap.size, 0, none⟩), .int .i64 ver, .pointer (some ⟨w.heap.size, 1, none⟩), .int .i64 rate, ab.v, .slice (some ⟨g, 0, none⟩) len cap, .int .i64 (n : Int), .slice (some ⟨g, n * 3, none⟩) (len - n) (cap - n), (β 17).2] ++ [(4, .bool true)]) (fun β => by kernel_rfl) ?_
  case loc =>
    intro β i nn j h
    refine FreeX.look_cons (fun _ => rfl) (FreeX.look_cons (fun _ => rfl) (FreeX.look_cons (fun _ => rfl) (FreeX.look_cons (fun _ => rfl) (FreeX.look_cons (fun _ => rfl) (FreeX.look_cons (fun _ => rfl) (FreeX.look_cons (fun _ => rfl) (FreeX.look_cons (fun _ => rfl) (FreeX.look_cons (fun _ => rfl) (FreeX.look_cons (fun _ => rfl) (FreeX.look_cons (fun hj => ?_) (FreeX.look_cons (fun hj => ?_) (rfl))))))))))))
    · subst hj
      rw [FreeX.upd_ne (k := 8) h (by kernel_rfl)]
    · subst hj
      rw [FreeX.upd_ne (k := 17) h (by kernel_rfl)]
  case so =>
    intro w' p zs vs hp h
    have hp2 : p < 2 := by
      simp only [List.mem_cons, List.not_mem_nil, or_false, Prod.mk.injEq] at hp
      omega
    obtain ⟨h1, h2, h3, h4, h5⟩ := h
    exact ⟨range_put h1 (by omega) vs, h2.other (by omega), h3.other (by omega), by rw [Free.size_setCells]; exact h4, ents_put h5 (by omega) vs⟩
  case ss =>
    intro w1 w4 h hb
    rw [drew_size] at hb
    exact ⟨range_stay h.1 hb (by omega), h.2.1.below hb hq7, h.2.2.1.below hb hq8, Nat.le_trans h.2.2.2.1 hb.size, ents_stay h.2.2.2.2 hb (by omega) hb.size⟩
  case ol =>
    intro p zs hp
    have hp2 : p < 2 := by
      simp only [List.mem_cons, List.not_mem_nil, or_false, Prod.mk.injEq] at hp
      omega
    rw [drew_size]
    show w.heap.size + 1 ≤ w.heap.size + 1 + p ∧ w.heap.size + 1 + p < _
    omega
  case od =>
    intro p q zs zs' hp hq hne
    show w.heap.size + 1 + p ≠ w.heap.size + 1 + q
    omega
  case ro => exact FreeX.rel_all (C := fun Φ => ∀ v w1 p zs vs, (p, zs) ∈ [(0, Rm.none.zeroRow), (1, Rm.none.zeroRow)] → Φ v w1 → Φ v (w1.setCells (w.heap.size + 1 + p) 0 vs)) ⟨fun v w1 p zs vs hp h => h.put (old_lt hp) vs, fun v w1 p zs vs hp h => h.put (old_lt hp) vs, trivial⟩
  case hol =>
    intro p zs hp
    simp only [List.mem_cons, List.not_mem_nil, or_false, Prod.mk.injEq] at hp
    rcases hp with ⟨rfl, rfl⟩ | ⟨rfl, rfl⟩
    · exact (HY1.out.below (drew_below H3B.out) (by omega))
    · exact (HY2.out.below (drew_below H3B.out) (by omega))
  intro β w4 hs6 hz6 hb6 _ _ hold hrel
  obtain ⟨s1, e8, hrev1, hfr1⟩ : IsR (w.heap.size + 3) RA (β 8).2 w4 := hrel 8 _ rfl
  obtain ⟨s2, e17, hrev2, hfr2⟩ : IsR (w.heap.size + 3) RB (β 17).2 w4 := hrel 17 _ rfl
  have hC1 : Free.Holds (w.heap.size + 1) (rowOf (β 8).2) w4 := hold 0 _ (List.mem_cons_self ..)
  have hC2 : Free.Holds (w.heap.size + 1 + 1) (rowOf (β 17).2) w4 := hold 1 _ (List.mem_cons_of_mem _ (List.mem_cons_self ..))
  have hbw : Below w.heap.size w w4 := (HB2.out.trans (H3B.out.mono (by omega))).trans ((drew_below (Below.refl w.heap.size w3)).trans (hb6.mono (by omega)))
  rw [FreeX.puts_append, Free.puts_from _ _ _ (Nat.le_of_ble_eq_true rfl)]
  simp only [List.take_succ_cons, List.take_zero, List.drop_succ_cons, List.drop_zero, List.cons_append, List.nil_append, List.length_cons, List.length_nil, Nat.reduceAdd]
  unfold Free.puts
  simp only [List.foldl_cons, List.foldl_nil]
  rw [e8, rowOf_v] at hC1
  rw [e17, rowOf_v] at hC2
  rw [e8, e17]
  have hld1 : (loadVar 33 ⟨w.heap.size + 1, 0, none⟩).run Try.prog w4 = .ok (RA.v s1) w4 := run_loadVar_mid w4 (w.heap.size + 1) 0 33 _ _ (holds_range hC1) Try.underlying33 rfl size33
  have hld2 : (loadVar 33 ⟨w.heap.size + 1 + 1, 0, none⟩).run Try.prog w4 = .ok (RB.v s2) w4 := run_loadVar_mid w4 (w.heap.size + 1 + 1) 0 33 _ _ (holds_range hC2) Try.underlying33 rfl size33
  have HF := Lib.hid (⟨hrev1, hrev2, hbw⟩ : _ ∧ _ ∧ _)
  clear hs6 hz6 hb6 hold hrel e8 e17 hC1 hC2 hrev1 hrev2 hbw hfr1 hfr2 hct
  go_wp2_with fail
  exact bodyPost_ret (results_cell3 Try.results27 rfl rfl rfl hld1 hld2) rfl ⟨s1, s2, rfl, HF.out.1, HF.out.2.1, HF.out.2.2⟩
end Go.Proofs.Ytkapjijppjfmkaa
