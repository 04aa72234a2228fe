/- What rev.lay answers of any entries: the revision, in blocks of the call's own. Conditions: at most 500 entries, each key of at most 1000000 bytes, which stand in memory. -/
import Derived.Test.YtjlifkhpohfiaaaEWalkG
import Derived.Test.YtjlifkhpohfiaaaEGenX
namespace Go.Proofs.Ytjlifkhpohfiaaa
open Go.RowKit Go.Op
set_option maxRecDepth 100000

set_option maxHeartbeats 16000000 in
theorem lay_any (ver rate : Int) (sp : Sp) (a : Option Addr) (l : List En) (c : Nat) (w : World) (hl : l.length ≤ 500) (hs : ∀ e ∈ l, e.key.size ≤ 1000000) (hE : Ents w a l) :
    Calls Try.prog 46 #[.int .i64 ver, .int .i64 rate, sp.v, .slice a l.length c] w fun e w' => ∃ s, e = .returned ((Rm.mk ver rate sp false l (build (l.map En.key))).v s) ∧ RevAt w' ⟨ver, rate, sp, false, l, build (l.map En.key)⟩ s ∧ s.from_ w.heap.size ∧ Below w.heap.size w w' := by
  obtain ⟨lo, hi, all⟩ := sp
  simp only [Sp.v]
  have m1 := fun w => made_col w l.length (by omega) 47 9 _ (.inl ⟨rfl, rfl, rfl⟩)
  have m2 := fun w => made_col w l.length (by omega) 48 4 _ (.inr ⟨rfl, rfl, rfl⟩)
  have HE := Lib.hid hE
  have HS := Lib.hid hs
  clear hE hs
  go_enter Try.func46, Try.ntmps46
  go_wp2_with fail
  refine cut_region3 (LayR w ver rate lo hi all a l.length c) ?_ ?_
  · clear HE HS m1 m2
    have n0 : w.heap.size < (w.alloc (.cells #[.string lo, .string hi, .bool all] 46)).heap.size := by simp
    have n1 : ((w.alloc (.cells #[.string lo, .string hi, .bool all] 46)).alloc (.cells Rm.none.zeroRow.toArray 50)).heap.size = w.heap.size + 2 := by simp
    have hr0 : (((w.alloc (.cells #[.string lo, .string hi, .bool all] 46)).alloc (.cells Rm.none.zeroRow.toArray 50)).drew).rangeAt w.heap.size 0 [.string lo, .string hi, .bool all] := fun j v hj => by
      rw [Nat.zero_add]
      show ((w.alloc (.cells #[.string lo, .string hi, .bool all] 46)).alloc (.cells Rm.none.zeroRow.toArray 50)).cell? ⟨w.heap.size, j, none⟩ = some v
      rw [World.cell?_alloc_old _ _ _ (by simp), World.cell?_alloc_new]
      simpa using hj
    obtain ⟨L, hL⟩ : ∃ L : List Value, L = List.replicate l.length (.string ⟨#[]⟩) := ⟨_, rfl⟩
    obtain ⟨L', hL'⟩ : ∃ L : List Value, L = List.replicate l.length (.bool false) := ⟨_, rfl⟩
    have k1 : ∀ w, (Instr.makeSlice 47 (.int .i64 (l.length : Int)) (.int .i64 (l.length : Int))).run Try.prog w = .ok (.slice (some ⟨w.heap.size, 0, none⟩) l.length l.length) (w.alloc (.cells L.toArray 9)) := by
      subst hL
      exact made_list l.length (by omega) 47 9 _ (.inl ⟨rfl, rfl, rfl⟩)
    have k2 : ∀ w, (Instr.makeSlice 48 (.int .i64 (l.length : Int)) (.int .i64 (l.length : Int))).run Try.prog w = .ok (.slice (some ⟨w.heap.size, 0, none⟩) l.length l.length) (w.alloc (.cells L'.toArray 4)) := by
      subst hL'
      exact made_list l.length (by omega) 48 4 _ (.inr ⟨rfl, rfl, rfl⟩)
    have hLR : ∀ g1 g2 g3 p w', Apart (w.heap.size + 2) g1 g2 g3 p → Cols (w.heap.size + 2) ((w.alloc (.cells #[.string lo, .string hi, .bool all] 46)).alloc (.cells Rm.none.zeroRow.toArray 50)) w' g1 g2 g3 p (layRow ver rate lo hi all l.length g1 g2 g3) L L L' → LayR w ver rate lo hi all a l.length c (layAct w.heap.size ver rate lo hi all a l.length c g1 g2 g3 p) w' := by
      subst hL hL'
      exact fun g1 g2 g3 p w' h1 h2 => ⟨g1, g2, g3, p, rfl, h1, h2⟩
    clear hL hL'
    generalize l.length = n at *
    have bd : ∀ b1 b2 b3, ∀ w, (Instr.build 50 (Free.zipped [0, 1, 2, 4, 5, 6] [.int .i64 ver, .int .i64 rate, .agg #[.string lo, .string hi, .bool all], .slice (some ⟨b1, 0, none⟩) n n, .slice (some ⟨b2, 0, none⟩) n n, .slice (some ⟨b3, 0, none⟩) n n])).run Try.prog w = .ok (.agg (layRow ver rate lo hi all n b1 b2 b3).toArray) w := fun b1 b2 b3 w => by
      simp [Free.zipped, layRow, go_sem]
    have al : ∀ w, (Instr.alloc 50 true (.tuple #[])).run Try.prog w = .ok (.pointer (some ⟨w.heap.size, 0, none⟩)) (w.alloc (.cells Rm.none.zeroRow.toArray 50)) := fun w => by
      simp [Rm.zeroRow, go_sem]
    have st : ∀ b1 b2 b3 b w zs, zs.length = 10 → Free.Holds b zs w → (Instr.storeAt 50 (.pointer (some ⟨b, 0, none⟩)) (.agg (layRow ver rate lo hi all n b1 b2 b3).toArray)).run Try.prog w = .ok () (w.setCells b 0 (layRow ver rate lo hi all n b1 b2 b3)) := fun b1 b2 b3 b w zs hz hh => (rev_store hh hz rfl (by intro v hv; simp only [layRow, List.mem_cons, List.not_mem_nil, or_false] at hv; rcases hv with rfl | rfl | rfl | rfl | rfl | rfl | rfl | rfl | rfl | rfl <;> rfl)).1
    generalize hw0 : ((w.alloc (.cells #[.string lo, .string hi, .bool all] 46)).alloc (.cells Rm.none.zeroRow.toArray 50)) = wa at *
    have hcl := Lib.hid hLR
    clear hLR
    refine FreeX.region_puts (S := fun w' => w'.rangeAt w.heap.size 0 [.string lo, .string hi, .bool all]) (B0 := w.heap.size + 2) (w0 := wa.drew) (om := fun _ => 0) (olds := []) (far := fun _ _ => True)
      (tabs := fun β => [(2, .load 46 ⟨w.heap.size, 0, none⟩ (.agg #[.string lo, .string hi, .bool all])), (4, .gen [.slice a n c] (.int .i64 (n : Int))), (5, .mk 47 9 (.int .i64 (n : Int)) (.int .i64 (n : Int)) n n L),
        (7, .gen [.slice a n c] (.int .i64 (n : Int))), (8, .mk 47 9 (.int .i64 (n : Int)) (.int .i64 (n : Int)) n n L), (10, .gen [.slice a n c] (.int .i64 (n : Int))), (11, .mk 48 4 (.int .i64 (n : Int)) (.int .i64 (n : Int)) n n L'),
        (12, .make 50 [0, 1, 2, 4, 5, 6] [.int .i64 ver, .int .i64 rate, .agg #[.string lo, .string hi, .bool all], .slice (some ⟨(β 5).1, 0, none⟩) n n, .slice (some ⟨(β 8).1, 0, none⟩) n n, .slice (some ⟨(β 11).1, 0, none⟩) n n] (.agg (layRow ver rate lo hi all n (β 5).1 (β 8).1 (β 11).1).toArray)),
        (13, .new 50 Rm.none.zeroRow), (14, .put 50 (.own 13) (.agg (layRow ver rate lo hi all n (β 5).1 (β 8).1 (β 11).1).toArray) (layRow ver rate lo hi all n (β 5).1 (β 8).1 (β 11).1))])
      (by kernel_rfl) ⟨fun β => ⟨by kernel_rfl, ⟨fun w' h _ => run_loadAt_mid w' w.heap.size 0 46 _ _ h Try.underlying46 rfl size28, genx_len _ rfl rfl (len_38 _ _ _), k1, genx_len _ rfl rfl (len_38 _ _ _), k1, genx_len _ rfl rfl (len_38 _ _ _), k2, fun w _ _ => bd _ _ _ w, al, fun b w zs _ _ hz hh => st _ _ _ b w zs hz hh, trivial⟩, by kernel_rfl, by kernel_rfl, by kernel_rfl,
        fun w1 w2 h hb => range_stay h hb (by omega), by rw [drew_size, n1]; exact Nat.le_refl _, fun _ _ h => (by cases h), fun _ _ _ _ h => (by cases h), ?r1, ?r2, ?r3, fun _ _ _ _ _ _ _ _ => trivial⟩, ?loc, fun _ _ _ => rfl⟩ hr0 (by rw [← hw0]; rfl) (fun _ _ h => (by cases h))
      (fun β => [(12, .int .i64 ver), (13, .int .i64 rate), (14, .agg #[.string lo, .string hi, .bool all]), (15, .slice a n c), (16, .int .i64 (n : Int)), (17, .slice (some ⟨(β 5).1, 0, none⟩) n n), (18, .slice a n c), (19, .int .i64 (n : Int)), (20, .slice (some ⟨(β 8).1, 0, none⟩) n n), (21, .slice a n c), (22, .int .i64 (n : Int)), (23, .slice (some ⟨(β 11).1, 0, none⟩) n n), (24, .agg (layRow ver rate lo hi all n (β 5).1 (β 8).1 (β 11).1).toArray), (9, .pointer (some ⟨(β 13).1, 0, none⟩))]) (fun β => by kernel_rfl) ?_
    case r1 => exact fun i Φ h => by rw [FreeX.no_rel (by kernel_rfl) i] at h; cases h
    case r2 => exact fun i Φ h => by rw [FreeX.no_rel (by kernel_rfl) i] at h; cases h
    case r3 => exact fun i t j x vs _ k Φ h => by rw [FreeX.no_rel (by kernel_rfl) k] at h; cases h
    case loc =>
      intro β i nn j h
      refine FreeX.look_cons (fun _ => rfl) (FreeX.look_cons (fun _ => rfl) (FreeX.look_cons (fun _ => rfl) (FreeX.look_cons (fun _ => rfl) (FreeX.look_cons (fun _ => rfl) (FreeX.look_cons (fun _ => rfl) (FreeX.look_cons (fun _ => rfl) (FreeX.look_cons (fun hj => ?_) (FreeX.look_cons (fun _ => rfl) (FreeX.look_cons (fun hj => ?_) rfl)))))))))
      · subst hj
        rw [FreeX.upd_ne (k := 5) h (by kernel_rfl), FreeX.upd_ne (k := 8) h (by kernel_rfl), FreeX.upd_ne (k := 11) h (by kernel_rfl)]
      · subst hj
        rw [FreeX.upd_ne (k := 5) h (by kernel_rfl), FreeX.upd_ne (k := 8) h (by kernel_rfl), FreeX.upd_ne (k := 11) h (by kernel_rfl)]
    intro β w' h1 h2 h3 h4 h5 _ _
    rw [drew_size, n1] at h2
    simp only [drew_size, n1] at h4
    have d5 := h4 5 L rfl
    have d8 := h4 8 L rfl
    have d11 := h4 11 L' rfl
    have d13 := h4 13 Rm.none.zeroRow rfl
    have fin := hcl.out (β 5).1 (β 8).1 (β 11).1 (β 13).1 w' ⟨h5 5 8 _ _ rfl rfl (by decide), h5 5 11 _ _ rfl rfl (by decide), h5 8 11 _ _ rfl rfl (by decide), h5 13 5 _ _ rfl rfl (by decide), h5 13 8 _ _ rfl rfl (by decide), h5 13 11 _ _ rfl rfl (by decide), d5.1, d8.1, d11.1, d13.1⟩
      ⟨col_holds d5.2.2 d5.2.1, col_holds d8.2.2 d8.2.1, col_holds d11.2.2 d11.2.1, d13.2.2, d13.2.1, Below.trans (drew_below (Below.refl _ wa)) h3⟩
    generalize (β 5).1 = b5 at fin ⊢
    generalize (β 8).1 = b8 at fin ⊢
    generalize (β 11).1 = b11 at fin ⊢
    generalize (β 13).1 = b13 at fin ⊢
    refine ⟨rfl, ?_⟩
    refine (congrArg (fun x => LayR w ver rate lo hi all a n c x w') (?_ : _ = layAct w.heap.size ver rate lo hi all a n c b5 b8 b11 b13)).mpr fin
    clear hcl fin d5 d8 d11 d13 h4 h5 h1 h2 h3 k1 k2 bd al st hr0
    generalize w.heap.size = B
    kernel_rfl
  · clear m1 m2
    rintro a' w1 ⟨g1, g2, g3, p, rfl, hA, hC⟩
    have HA := Lib.hid hA
    have HC0 := Lib.hid hC
    obtain ⟨n12, n13, n23, p1, p2, p3, l1, l2, l3, lp⟩ := hA
    have s1 := hC.b.size
    simp at s1
    have hr : Hid (Free.Holds (w.heap.size + 1) Rm.none.zeroRow w1) := Lib.hid (by
      refine Free.Holds.below (holds_cells (t := 50) ?_) hC.b (by omega)
      rw [show w.heap.size + 1 = (w.alloc (.cells #[.string lo, .string hi, .bool all] 46)).heap.size by simp]
      exact heap_alloc_new _ _)
    have HBw : Hid (Below w.heap.size w w1) := Lib.hid ((((Below.refl _ _).alloc (Nat.le_refl _) _).alloc (by simp) _).trans (hC.b.mono (by omega)))
    clear hC
    unfold layAct
    go_wp2
    go_loopw [27] (fun iv wr => ∃ (i : Nat) (K V G : List Value), iv = .int .i64 (i : Int) ∧ i ≤ l.length ∧ K.length = l.length ∧ V.length = l.length ∧ G.length = l.length ∧ Hid (K.take i = (l.map kf).take i) ∧ Hid (V.take i = (l.map vf).take i) ∧ Hid (G.take i = (l.map gf).take i) ∧ Hid (Cols (w.heap.size + 2) w1 wr g1 g2 g3 p (layRow ver rate lo hi all l.length g1 g2 g3) K V G)) (fun iv _ => l.length - (intOf iv).toNat)
    case atStart => exact ⟨0, _, _, _, rfl, by omega, List.length_replicate, List.length_replicate, List.length_replicate, Lib.hid rfl, Lib.hid rfl, Lib.hid rfl, Lib.hid ⟨HC0.out.c1, HC0.out.c2, HC0.out.c3, HC0.out.cp, HC0.out.pl, Below.refl _ _⟩⟩
    case round =>
      obtain ⟨i, K, V, G, rfl, hil, hK, hV, hG, H1, H2, H3, HC⟩ := hrel
      have sr := HC.out.b.size
      have pl := HC.out.pl
      have gl1 := HC.out.c1.lt
      have gl2 := HC.out.c2.lt
      have gl3 := HC.out.c3.lt
      by_cases h1 : i < l.length
      · have i1 : (i : Int) < (l.length : Int) := by omega
        obtain ⟨eb, eo, rfl, heb, hat⟩ := HE.out.at h1
        have hat2 := hat.below (HBw.out.trans (HC.out.b.mono (by omega))) heb
        have N1 := Lib.hid (col_next kf h1 hK H1.out)
        have N2 := Lib.hid (col_next vf h1 hV H2.out)
        have N3 := Lib.hid (col_next gf h1 hG H3.out)
        have y1 := HC.out.c1.cell i (by omega)
        have y2 := HC.out.c2.cell i (by omega)
        have y3 := HC.out.c3.cell i (by omega)
        have f1 := HC.out.c1.free i (by omega)
        have f2 := HC.out.c2.free i (by omega)
        have f3 := HC.out.c3.free i (by omega)
        obtain ⟨q1, _⟩ := HC.out.cp 6 _ rfl
        obtain ⟨q2, _⟩ := HC.out.cp 7 _ rfl
        obtain ⟨q3, _⟩ := HC.out.cp 8 _ rfl
        have HN : Hid (∀ W, Below wr.heap.size wr W → Cols (w.heap.size + 2) w1 W g1 g2 g3 p (layRow ver rate lo hi all l.length g1 g2 g3) K V G) := Lib.hid (fun W hb => HC.out.below hb (by omega))
        clear hat
        generalize l[i] = x at hat2 N1 N2 N3
        obtain ⟨k, v, gn⟩ := x
        obtain ⟨c1, c2, c3⟩ := hat2
        simp only at c1 c2 c3
        generalize K[i]'(by omega) = z1 at y1
        generalize V[i]'(by omega) = z2 at y2
        generalize G[i]'(by omega) = z3 at y3
        go_wp2_with fail
        go_region
        have HF : Hid (Cols (w.heap.size + 2) w1 ((((wr.setCell ⟨g1, i, none⟩ (.string k)).setCell ⟨g2, i, none⟩ (.string v)).setCell ⟨g3, i, none⟩ (.bool gn)).alloc (.cells #[.string k, .string v, .bool gn] 77)).drew g1 g2 g3 p (layRow ver rate lo hi all l.length g1 g2 g3) (K.set i (kf ⟨k, v, gn⟩)) (V.set i (vf ⟨k, v, gn⟩)) (G.set i (gf ⟨k, v, gn⟩))) := Lib.hid (by
          have h3 := ((HC.out.set1 HA.out (i := i) (by omega) (.string k)).set2 HA.out (i := i) (by omega) (.string v)).set3 HA.out (i := i) (by omega) (.bool gn)
          exact (h3.below ((Below.refl _ _).alloc (Nat.le_refl _) _) (by simp [World.setCell]; omega)).drew)
        go_wp2
        go_roundw
        case rel => exact ⟨i + 1, K.set i (kf ⟨k, v, gn⟩), V.set i (vf ⟨k, v, gn⟩), G.set i (gf ⟨k, v, gn⟩), by go_num, by omega, by rw [List.length_set]; exact hK, by rw [List.length_set]; exact hV, by rw [List.length_set]; exact hG, N1, N2, N3, HF⟩
        case measure => simp [intOf]; omega
      · obtain rfl : i = l.length := by omega
        have i1 : ¬ (l.length : Int) < (l.length : Int) := by omega
        have eK := col_end kf hK H1.out
        have eV := col_end vf hV H2.out
        have eG := col_end gf hG H3.out
        subst eK eV eG
        have hb := fun w' (h : Below wr.heap.size wr w') => build_any (some ⟨g1, 0, none⟩) (l.map En.key) l.length w' (col_keys (HC.out.c1.below h)) (by rw [List.length_map]; omega) (fun x hx => by obtain ⟨e, he, rfl⟩ := List.mem_map.1 hx; exact HS.out e he)
        have hb0 := hb wr (Below.refl _ _)
        rw [List.length_map] at hb0
        have q := fun k v (h : (layRow ver rate lo hi all l.length g1 g2 g3)[k]? = some v) => HC.out.cp k v h
        obtain ⟨q1, _⟩ := q 6 _ rfl
        clear hb
        go_wp2_with fail
        refine hb0.mono ?_
        rintro e w2 ⟨g4, rfl, hg4, ht4, b4⟩
        have HC2 := Lib.hid (HC.out.below b4 (by omega))
        have HT4 := Lib.hid ht4
        have s4 := b4.size
        have hrr := hr.out.below HC2.out.b (by omega)
        have pr : p ≠ w.heap.size + 1 := by omega
        have hp2 := holds_set (i := 9) (v := .slice (some ⟨g4, 0, none⟩) (build (l.map En.key)).length (build (l.map En.key)).length) HC2.out.cp (by simp [layRow])
        have hr2 : Free.Holds (w.heap.size + 1) Rm.none.zeroRow (w2.setCell ⟨p, 9, none⟩ (.slice (some ⟨g4, 0, none⟩) (build (l.map En.key)).length (build (l.map En.key)).length)) := holds_other hrr (Ne.symm pr)
        obtain ⟨p9, pf9⟩ := HC2.out.cp 9 _ rfl
        obtain ⟨W, hst, hW, hld, hqq, hsz⟩ := rev_done (Rm.mk ver rate ⟨lo, hi, all⟩ false l (build (l.map En.key))) ⟨some ⟨g1, 0, none⟩, l.length, some ⟨g2, 0, none⟩, l.length, some ⟨g3, 0, none⟩, l.length, some ⟨g4, 0, none⟩, (build (l.map En.key)).length⟩ hr2 rfl
        have hl1 : (Instr.loadAt 50 (.pointer (some ⟨p, 0, none⟩))).run Try.prog (w2.setCell ⟨p, 9, none⟩ (.slice (some ⟨g4, 0, none⟩) (build (l.map En.key)).length (build (l.map En.key)).length)) = .ok ((Rm.mk ver rate ⟨lo, hi, all⟩ false l (build (l.map En.key))).v ⟨some ⟨g1, 0, none⟩, l.length, some ⟨g2, 0, none⟩, l.length, some ⟨g3, 0, none⟩, l.length, some ⟨g4, 0, none⟩, (build (l.map En.key)).length⟩) _ := rev_load hp2 rfl
        have HF : Hid (RevAt W ⟨ver, rate, ⟨lo, hi, all⟩, false, l, build (l.map En.key)⟩ ⟨some ⟨g1, 0, none⟩, l.length, some ⟨g2, 0, none⟩, l.length, some ⟨g3, 0, none⟩, l.length, some ⟨g4, 0, none⟩, (build (l.map En.key)).length⟩ ∧ Below w.heap.size w W) := Lib.hid (by
          rw [hW]
          refine ⟨⟨col_keys (Col.put (Col.other HC2.out.c1 (Ne.symm p1) _) (by omega) _), col_vals (Col.put (Col.other HC2.out.c2 (Ne.symm p2) _) (by omega) _), col_gone (Col.put (Col.other HC2.out.c3 (Ne.symm p3) _) (by omega) _), col_nums (Col.put (Col.other (tab_col HT4.out) (by omega) _) (by omega) _)⟩, ?_⟩
          exact Free.below_setCells (by omega) _ _ _ (((HBw.out.trans (HC2.out.b.mono (by omega)))).setCell (p := ⟨p, 9, none⟩) (by show w.heap.size ≤ p; omega) _))
        have HFr : Hid (Rs.from_ ⟨some ⟨g1, 0, none⟩, l.length, some ⟨g2, 0, none⟩, l.length, some ⟨g3, 0, none⟩, l.length, some ⟨g4, 0, none⟩, (build (l.map En.key)).length⟩ w.heap.size) := Lib.hid (by
          rintro x (h | h | h | h) <;> cases h <;> simp only <;> omega)
        simp only [Rm.v] at hst hld hl1
        clear hW hqq hsz hp2 hr2 hrr ht4 b4 hb0
        go_wp2_with (first | (refine wpList_run_load rfl 50 (.tmp 9) rfl _ _ rfl hl1 ?_) | (refine wpList_run_store rfl 50 (.tmp 8) (.tmp 55) rfl _ _ rfl rfl W hst ?_))
        exact bodyPost_ret (results_cell Try.results46 rfl hld) rfl ⟨_, rfl, HF.out.1, HFr.out, HF.out.2⟩
end Go.Proofs.Ytjlifkhpohfiaaa
