/- The statement that ranges over a chain: what it comes to, by what its body makes of its own. Conditions: at most 800000 asks; so many ages at most as are told. -/
import Derived.Test.YtbcpdkmbbgcfbaaDoorNi
import Derived.RangeFuncIn
import Derived.RangeFuncRecord
import Derived.RangeFuncOwn
namespace Go.Proofs.YtbcpdkmbbgcfbaaDoor
open Go.RowKit Go.Op
set_option maxRecDepth 100000

section
variable {σ : Type} {w0 : World} {b c r pb po : Nat} {t t1 : Value} {G G1 : List (Nat × List Value)} {w w1 : World} {m1 : M} {s1 : Pt}
theorem But.putObj (W : World) (z : Nat) (o : Obj) : But z W (W.putObj z o) := ⟨rfl, rfl, rfl, by simp, fun k _ hk => World.putObj_heap_other hk⟩
/-- How a body may be left. -/
structure BKeep (w0 : World) (b c r pb po : Nat) (t : Value) (G : List (Nat × List Value)) (w : World) (B : Nat) (t2 : Value) (G2 : List (Nat × List Value)) (m2 : M) (s2 : Pt) (Wa W W' : World) : Prop where
  aft : Aft w0 b c r pb po t G w t2 G2 W' m2 s2
  size : W.heap.size ≤ W'.heap.size
  same : ∀ z, (Wa.heap.size ≤ z ∨ z = B ∨ z = B + 1) → z < W.heap.size → W'.heap[z]? = W.heap[z]?
def BPost (w0 : World) (b c r pb po : Nat) (t : Value) (G : List (Nat × List Value)) (w : World) (f : Bool × σ) (I Ix : σ → Value → List (Nat × List Value) → World → Prop) (B : Nat) (t2 : Value) (G2 : List (Nat × List Value)) (m2 : M) (s2 : Pt) (Wa W : World) : Exit → Act → World → Prop
  | .normal, _, W' => f.1 = true ∧ I f.2 t2 G2 W' ∧ BKeep w0 b c r pb po t G w B t2 G2 m2 s2 Wa W W'
  | .ret, _, W' => f.1 = false ∧ Ix f.2 t2 G2 W' ∧ BKeep w0 b c r pb po t G w B t2 G2 m2 s2 Wa W W'
  | _, _, _ => False
set_option maxHeartbeats 1000000 in
theorem wp_chain {g : Operand} {ps : Array Tmp} {assign body : Code} {Q : Exit → Act → World → Prop} {a : Act} {hb pbx nb : Nat} (next : Int → Pr (Int × Int)) (f : σ → Sp → Int → Option (Bool × σ)) (fid : FuncId) (fst cap : Array Value)
    (hg : a.eval g = .func (.func 69) #[] #[.pointer (some ⟨hb, 0, none⟩), .pointer (some ⟨pbx, 0, none⟩), .pointer (some ⟨nb, 0, none⟩)]) (hps : ps.size = 2)
    (hA : Aft w0 b c r pb po t G w t1 G1 w1 m1 s1) (I Ix : σ → Value → List (Nat × List Value) → World → Prop)
    (hIa : ∀ x t2 G2 W t3 G3 m3 s3 W', I x t2 G2 W → Aft w0 b c r pb po t2 G2 W t3 G3 W' m3 s3 → I x t3 G3 W')
    (hIz : ∀ x t2 G2 W W' z, I x t2 G2 W → But z W W' → (z = w1.heap.size ∨ z = w1.heap.size + 1) → I x t2 G2 W')
    (hXz : ∀ x t2 G2 W W' z, Ix x t2 G2 W → But z W W' → (z = w1.heap.size ∨ z = w1.heap.size + 1) → Ix x t2 G2 W')
    (hIc : ∀ x t2 G2 W, I x t2 G2 W → W.cell? ⟨pbx, 0, none⟩ = some (.pointer (some ⟨pb, po, none⟩)) ∧ W.cell? ⟨nb, 0, none⟩ = some (.func (.func fid) fst cap))
    (a₁ : Nat → Sp → Pl → Int → Act)
    (hassign : ∀ l sp p err W (K : Act → World → Prop), K (a₁ W.heap.size sp p err) (W.alloc (.cells (sp.row p).toArray 84)) → assign.wpIn (Fence.wide.inRound l) 0 Tryd.prog (Exit.then K (fun _ _ _ => False)) { tmps := (ps.zip #[sp.v p, .int .i64 err]).foldl (fun t (p, v) => t.setIfInBounds p v) a.tmps, defers := [] } W)
    (hbody : ∀ l x sp p err y t2 G2 m2 s2 Wa W z, f x sp err = some y → Aft w0 b c r pb po t G w t2 G2 W m2 s2 → I x t2 G2 Wa → I x t2 G2 W → (∀ k, k < Wa.heap.size → k ≠ w1.heap.size + 1 → W.heap[k]? = Wa.heap[k]?) → Wa.heap.size ≤ z → w1.heap.size + 2 ≤ Wa.heap.size → Wa.heap.size ≤ W.heap.size → SVar W z (sp.row p) → sp.a.d.In G2 p → body.wpIn (Fence.wide.inRound l) 0 Tryd.prog (BPost w0 b c r pb po t G w y I Ix w1.heap.size t2 G2 m2 s2 Wa W) (a₁ z sp p err) W)
    (he : ∀ zs w, (callFunc fid zs).run Tryd.prog w = .ok (.enter fid zs) w)
    (hnext : ∀ k x t2 G2 m2 s2 W, SysE w0 b c r pb po t2 G2 W m2 s2 → I x t2 G2 W → m2.count ≤ 800000 → Calls Tryd.prog fid (fst.push (.int .i64 k) ++ cap) W fun e w' => Ev w0 b c r pb po t2 G2 W RInt2 ((next k).run s2 m2) e w')
    (hnc : ∀ k s m, ((next k).run s m).2.2.count ≤ m.count + 2)
    (n : Nat) (h1 : Int) (x0 : σ) (h0 : I x0 t1 G1 w1) (hh : w1.cell? ⟨hb, 0, none⟩ = some (.int .i64 h1)) (hc : m1.count + 3 * (n : Int) ≤ 800000)
    (hne : ((chainP next f n h1 x0).run s1 m1).1 ≠ some none)
    (hdone : ∀ x t2 G2 m2 s2 W, (chainP next f n h1 x0).run s1 m1 = (some (some (false, x)), s2, m2) → Aft w0 b c r pb po t G w t2 G2 W m2 s2 → I x t2 G2 W → W.heap[w1.heap.size]? = some (.deferred (some [])) → Loc w0 b c r pb t2 G2 W w1.heap.size → Q .normal { a with defers := { target := .collected w1.heap.size, args := #[] } :: a.defers } W)
    (hstop : ∀ x t2 G2 m2 s2 W, (chainP next f n h1 x0).run s1 m1 = (some (some (true, x)), s2, m2) → Aft w0 b c r pb po t G w t2 G2 W m2 s2 → Ix x t2 G2 W → W.heap[w1.heap.size]? = some (.deferred (some [])) → Loc w0 b c r pb t2 G2 W w1.heap.size → Code.ret.wpIn Fence.wide 0 Tryd.prog Q { a with defers := { target := .collected w1.heap.size, args := #[] } :: a.defers } W)
    (hhalt : ∀ t2 G2 m2 s2 W, (chainP next f n h1 x0).run s1 m1 = (none, s2, m2) → Aft w0 b c r pb po t G w t2 G2 W m2 s2 → W.heap[w1.heap.size]? = some (.deferred (some [])) → Loc w0 b c r pb t2 G2 W w1.heap.size → Q (.panic [{ v := .iface 118 (.agg #[.pointer (some ⟨pb, po, none⟩)]), recovered := false }]) { a with defers := { target := .collected w1.heap.size, args := #[] } :: a.defers } W) :
    (Code.rangeFunc g ps assign body).wpIn Fence.wide 0 Tryd.prog Q a w1 := by
  refine wpIn_rangeFunc ?_
  intro fn hfn
  rw [show Fence.wide.round = none from rfl]
  obtain ⟨rec, hrec⟩ : ∃ rec : LoopState → Option Code → Loop, rec = fun st pe => { state := st, pending := pe, fn, tmps := a.tmps, params := ps, assign, body, defers := w1.heap.size } := ⟨_, rfl⟩
  obtain ⟨W1, hW1⟩ : ∃ W1, (w1.alloc (.deferred (some []))).alloc (.loop (rec .ready none)) = W1 := ⟨_, rfl⟩
  have hz1 : W1.heap.size = w1.heap.size + 2 := by rw [← hW1]; simp
  have hB1 : Below w1.heap.size w1 W1 := by rw [← hW1]; exact ((Below.refl _ w1).alloc (Nat.le_refl _) _).alloc (by simp) _
  have hL1 : W1.heap[w1.heap.size + 1]? = some (.loop (rec .ready none)) := by
    rw [← hW1]; have := World.alloc_heap_new (w1.alloc (.deferred (some []))) (.loop (rec .ready none)); rwa [World.size_alloc] at this
  have hK1 : W1.heap[w1.heap.size]? = some (.deferred (some [])) := by
    rw [← hW1]; exact (Below.heap_alloc _ _ _ (by simp)).trans (World.alloc_heap_new w1 _)
  have hlD : Loc w0 b c r pb t1 G1 W1 w1.heap.size := (hA.sys.fresh (.deferred (some []))).same (by rw [hz1]; simp)
  have hlL : Loc w0 b c r pb t1 G1 W1 (w1.heap.size + 1) := by
    have h2 := (hA.sys.later ((Below.refl _ w1).alloc (Nat.le_refl _) (.deferred (some [])))).fresh (.loop (rec .ready none))
    rw [World.size_alloc, hW1] at h2
    exact h2
  have hAL := hA.later hB1
  have hI1 : I x0 t1 G1 W1 := hIa _ _ _ _ _ _ _ _ _ h0 ((Aft.refl hA.sys).later hB1)
  have hh1 : W1.cell? ⟨hb, 0, none⟩ = some (.int .i64 h1) := by
    rw [hB1.cell (p := ⟨hb, 0, none⟩) (World.block_lt_of_cell? w1 _ hh)]; exact hh
  refine ⟨w1.heap.size + 1, [{ target := .collected w1.heap.size, args := #[] }], W1, { target := .fn (.func 69) #[.pointer (some ⟨hb, 0, none⟩), .pointer (some ⟨pbx, 0, none⟩), .pointer (some ⟨nb, 0, none⟩)], args := #[.func (.yield (w1.heap.size + 1)) #[] #[]] }, W1, 69,
    #[.func (.yield (w1.heap.size + 1)) #[] #[], .pointer (some ⟨hb, 0, none⟩), .pointer (some ⟨pbx, 0, none⟩), .pointer (some ⟨nb, 0, none⟩)], W1, ?_, ?_, ?_, ?_, fun h => (by cases h), ?_⟩
  · rw [← hW1, hrec]; exact run_enterLoop_outer _ _ _ _ _
  · simp only [resolve, hg]
    simp [go_sem]
  · intro f' hf'; trivial
  · have eg : ∀ args w, (callFunc 69 args).run Tryd.prog w = .ok (.enter 69 args) w := fun args w => by kernel_rfl
    simp [invoke, go_sem, eg]
  · refine (chain1_E (w0 := w0) (b := b) (c := c) (r := r) (pb := pb) (po := po) next f (w1.heap.size + 1) hb pbx nb fid fst cap
      (fun x t2 G2 m2 s2 W => Aft w0 b c r pb po t G w t2 G2 W m2 s2 ∧ I x t2 G2 W ∧ w1.heap.size + 2 ≤ W.heap.size ∧ W.heap[w1.heap.size + 1]? = some (.loop (rec .ready none)) ∧ W.heap[w1.heap.size]? = some (.deferred (some [])) ∧ Loc w0 b c r pb t2 G2 W (w1.heap.size + 1) ∧ Loc w0 b c r pb t2 G2 W w1.heap.size)
      (fun x t2 G2 m2 s2 W => Aft w0 b c r pb po t G w t2 G2 W m2 s2 ∧ Ix x t2 G2 W ∧ W.heap[w1.heap.size + 1]? = some (.loop (rec .done (some .ret))) ∧ W.heap[w1.heap.size]? = some (.deferred (some [])) ∧ Loc w0 b c r pb t2 G2 W (w1.heap.size + 1) ∧ Loc w0 b c r pb t2 G2 W w1.heap.size)
      (fun x t2 G2 m2 s2 W hj => ⟨hj.1.sys, hIc _ _ _ _ hj.2.1⟩)
      (fun x t2 G2 m2 s2 W t3 G3 m3 s3 W' ⟨j1, j2, j3, j4, j5, j6, j7⟩ ha => ⟨j1.trans ha, hIa _ _ _ _ _ _ _ _ _ j2 ha, Nat.le_trans j3 ha.but.size, (j6.aft ha).2.trans j4, (j7.aft ha).2.trans j5, (j6.aft ha).1, (j7.aft ha).1⟩)
      ?_ he (fun k x t2 G2 m2 s2 W hj hc => hnext k x _ _ _ _ _ hj.1.sys hj.2.1 hc) hnc n h1 x0 t1 G1 m1 s1 W1 ⟨hAL, hI1, by omega, hL1, hK1, hlL, hlD⟩ hh1 hc hne).mono ?_
    · -- one round
      rintro x sp p err y t2 G2 m2 s2 Wa W hfx ⟨j1, j2, j3, j4, j5, j6, j7⟩ hbW hin
      have k1 := j1.later hbW
      have k2 := hIa _ _ _ _ _ _ _ _ _ j2 ((Aft.refl j1.sys).later hbW)
      have k4 : W.heap[w1.heap.size + 1]? = some (.loop (rec .ready none)) := (hbW.block _ (by omega)).trans j4
      have k5 : W.heap[w1.heap.size]? = some (.deferred (some [])) := (hbW.block _ (by omega)).trans j5
      have k6 := j6.same hbW.size
      have k7 := j7.same hbW.size
      have hWa := hbW.size
      have hy := run_yield (P := Tryd.prog) (args := #[sp.v p, .int .i64 err]) k4 (by rw [hrec]; simp [hps])
      rw [hrec] at hy
      refine ⟨fn, _, assign, body, hy, roundIn_of_wpIn hfn (hassign _ sp p err W _ ?_)⟩
      have hb2 := (Below.refl W.heap.size W).alloc (Nat.le_refl _) (.cells (sp.row p).toArray 84)
      obtain ⟨W2, hW2⟩ : ∃ W2, W2 = W.alloc (.cells (sp.row p).toArray 84) := ⟨_, rfl⟩
      have hv := snew W (sp.row p) 84
      have hz2 : W2.heap.size = W.heap.size + 1 := by rw [hW2]; simp
      rw [← hW2] at hb2 hv ⊢
      have l4 : W2.heap[w1.heap.size + 1]? = some (.loop (rec .ready none)) := (hb2.block _ (by omega)).trans k4
      have l5 : W2.heap[w1.heap.size]? = some (.deferred (some [])) := (hb2.block _ (by omega)).trans k5
      refine ⟨_, run_beginRound l4 (by rw [hrec]), ?_⟩
      obtain ⟨W3, hW3⟩ : ∃ W3, W3 = W2.putObj (w1.heap.size + 1) (.loop { rec .ready none with state := .busy }) := ⟨_, rfl⟩
      have hbut : But (w1.heap.size + 1) W2 W3 := by rw [hW3]; exact But.putObj _ _ _
      have hz3 : W3.heap.size = W2.heap.size := by rw [hW3]; simp
      rw [← hW3]
      have m4 : W3.heap[w1.heap.size + 1]? = some (.loop { rec .ready none with state := .busy }) := by rw [hW3]; exact World.putObj_heap_same (by omega)
      have m5 : W3.heap[w1.heap.size]? = some (.deferred (some [])) := (hbut.block _ (by omega) (by omega)).trans l5
      have n1 := (k1.later hb2).aside hbut (k6.same hb2.size) (by have := hA.but.size; omega)
      have n2 := hIz _ _ _ _ _ _ (hIa _ _ _ _ _ _ _ _ _ k2 ((Aft.refl k1.sys).later hb2)) hbut (.inr rfl)
      have n3 := hv.same hbut.size (hbut.block _ hv.lt (by omega))
      refine wpIn_mono (hbody _ x sp p err y t2 G2 m2 s2 Wa W3 W.heap.size hfx n1 j2 n2 (fun k h1 h2 => (hbut.block k (by omega) h2).trans ((hb2.block k (by omega)).trans (hbW.block k h1))) hWa (by omega) (by omega) n3 hin) ?_
      have fin : ∀ (jump : Option Code) (W4 : World), BKeep w0 b c r pb po t G w w1.heap.size t2 G2 m2 s2 Wa W3 W4 →
          (Instr.endRound (w1.heap.size + 1) jump).run Tryd.prog W4 = .ok (.bool jump.isNone) (W4.putObj (w1.heap.size + 1) (.loop (rec (if jump.isNone then .ready else .done) jump))) ∧
          (W4.putObj (w1.heap.size + 1) (.loop (rec (if jump.isNone then .ready else .done) jump))).heap[w1.heap.size + 1]? = some (.loop (rec (if jump.isNone then .ready else .done) jump)) ∧
          (W4.putObj (w1.heap.size + 1) (.loop (rec (if jump.isNone then .ready else .done) jump))).heap[w1.heap.size]? = some (.deferred (some [])) ∧
          (W.heap.size ≤ (W4.putObj (w1.heap.size + 1) (.loop (rec (if jump.isNone then .ready else .done) jump))).heap.size ∧ ∀ z, Wa.heap.size ≤ z → z < W.heap.size → (W4.putObj (w1.heap.size + 1) (.loop (rec (if jump.isNone then .ready else .done) jump))).heap[z]? = W.heap[z]?) ∧
          Aft w0 b c r pb po t G w t2 G2 (W4.putObj (w1.heap.size + 1) (.loop (rec (if jump.isNone then .ready else .done) jump))) m2 s2 ∧
          Loc w0 b c r pb t2 G2 (W4.putObj (w1.heap.size + 1) (.loop (rec (if jump.isNone then .ready else .done) jump))) (w1.heap.size + 1) ∧ Loc w0 b c r pb t2 G2 (W4.putObj (w1.heap.size + 1) (.loop (rec (if jump.isNone then .ready else .done) jump))) w1.heap.size := fun jump W4 hk => by
        have q4 := (hk.same (w1.heap.size + 1) (.inr (.inr rfl)) (by omega)).trans m4
        have q5 := (hk.same w1.heap.size (.inr (.inl rfl)) (by omega)).trans m5
        have hrun := run_endRound (P := Tryd.prog) jump q4
        have hsz := hk.size
        have hlt : w1.heap.size + 1 < W4.heap.size := by omega
        have p6 : Loc w0 b c r pb t2 G2 W4 (w1.heap.size + 1) := k6.same (by omega)
        have p7 : Loc w0 b c r pb t2 G2 W4 w1.heap.size := k7.same (by omega)
        refine ⟨by rw [hrec] at hrun ⊢; exact hrun, World.putObj_heap_same hlt, (World.putObj_heap_other (by omega)).trans q5, ⟨by rw [World.putObj_size]; omega, fun z h1 h2 => ?_⟩, hk.aft.aside (But.putObj _ _ _) p6 (by have := hA.but.size; omega), p6.same (by simp), p7.same (by simp)⟩
        rw [World.putObj_heap_other (by omega), hk.same z (.inl h1) (by omega), hbut.block z (by omega) (by omega), hb2.block z h2]
      rintro e a3 W4 hp
      cases e with
      | normal =>
        obtain ⟨hf, hi3, hk⟩ := hp
        obtain ⟨f1, f2, f3, f4, f5, f6, f7⟩ := fin none W4 hk
        exact ⟨_, _, f1, f4, .inl ⟨rfl, hf, f5, hIz _ _ _ _ _ _ hi3 (But.putObj _ _ _) (.inr rfl), by rw [World.putObj_size]; have := hk.size; omega, f2, f3, f6, f7⟩⟩
      | ret =>
        obtain ⟨hf, hi3, hk⟩ := hp
        obtain ⟨f1, f2, f3, f4, f5, f6, f7⟩ := fin (some .ret) W4 hk
        exact ⟨_, _, f1, f4, .inr ⟨rfl, hf, f5, hXz _ _ _ _ _ _ hi3 (But.putObj _ _ _) (.inr rfl), f2, f3, f6, f7⟩⟩
      | exit id => exact hp.elim
      | goto l => exact hp.elim
      | panic ch => exact hp.elim
      | outgrown => exact hp.elim
    · -- behind the iterator
      intro e W2 hp
      rcases ho : (chainP next f n h1 x0).run s1 m1 with ⟨_ | _ | ⟨_ | _, x⟩, s2, m2⟩
      · rw [ho] at hp
        obtain ⟨rfl, x, t2, G2, j1, j2, j3, j4, j5, j6, j7⟩ := hp
        exact hhalt t2 G2 m2 s2 W2 ho j1 j5 j7
      · rw [ho] at hp
        exact hp.elim
      · rw [ho] at hp
        obtain ⟨⟨v, rfl⟩, t2, G2, j1, j2, j3, j4, j5, j6, j7⟩ := hp
        have hl := run_endLoop (P := Tryd.prog) j4 (by rw [hrec]; simp)
        rw [hrec] at hl
        exact ⟨none, _, hl, hdone x t2 G2 m2 s2 _ ho (j1.aside (But.putObj _ _ _) j6 (by have := hA.but.size; omega)) (hIz _ _ _ _ _ _ j2 (But.putObj _ _ _) (.inr rfl)) ((World.putObj_heap_other (by omega)).trans j5) (j7.same (by simp))⟩
      · rw [ho] at hp
        obtain ⟨⟨v, rfl⟩, t2, G2, j1, j2, j4, j5, j6, j7⟩ := hp
        have hl := run_endLoop (P := Tryd.prog) j4 (by rw [hrec]; simp)
        rw [hrec] at hl
        exact ⟨some .ret, _, hl, hstop x t2 G2 m2 s2 _ ho (j1.aside (But.putObj _ _ _) j6 (by have := hA.but.size; omega)) (hXz _ _ _ _ _ _ j2 (But.putObj _ _ _) (.inr rfl)) ((World.putObj_heap_other (by omega)).trans j5) (j7.same (by simp))⟩
end
end Go.Proofs.YtbcpdkmbbgcfbaaDoor
