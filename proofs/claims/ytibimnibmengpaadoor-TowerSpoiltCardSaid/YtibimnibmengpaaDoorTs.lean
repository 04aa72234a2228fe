/- Up to the law's lay: the sort of its keys, and what holds ahead of and behind its loops. Condition: at most 1000 lows. -/
import Derived.Test.YtibimnibmengpaaDoorTr
import Derived.BigQuiet
namespace Go.Proofs.YtibimnibmengpaaDoor
open Go.RowKit Go.Op Go.Sort
set_option maxRecDepth 100000

/-- What lay leaves. -/
structure LaidY (w : World) (lows : List ByteArray) (hts : List Int) (w' : World) (b c r : Nat) (G : List (Nat × List Value)) (m : M) (y : Yr) (l : List Nod) : Prop where
  has : HasE w b c r G w' m
  suf : Suf m lows hts 0 l
  yb : y.b = b
  la : y.la.In G (strs lows)
  ta : y.ta.In G (ints hts)
  ha : y.ha.In G (ints (l.map Nod.h))
theorem new_e (n : Nat) : (M.new n).e = M.new n := by
  unfold M.new M.e
  simp [List.map_replicate, Cl.e, Held.e]
theorem ptr_eq26 (a : Addr) (w : World) : (binOp .eql 26 (.pointer (some a)) (.pointer none)).run Tryd.prog w = .ok (.bool false) w := by kernel_rfl
theorem own_svar {w : World} {base g n cap : Nat} {e : TypeId} {xs : List Value} (h : w.ownsRow base e 1 (.slice (some ⟨g, 0, none⟩) n cap) n xs) : SVar w g xs := by
  rcases id h.2 with ⟨e1, -⟩ | ⟨g', cap', cur, e1, -, hg, -⟩
  · cases e1
  · cases e1
    refine ⟨(World.ownsRow.lt h g rfl).2, fun i => by simp [World.frozen?, hg], fun j u hu => ?_⟩
    have := World.ownsRow.cells h (g := g) rfl j u hu
    rwa [add_off] at this
theorem made_ints (n : Nat) : madeCells (Value.int .i64 0).cells (n * 1) = (ints (List.replicate n 0)).toArray := by
  apply Array.ext'
  simp only [madeCells, ints, Value.cells]
  refine List.ext_getElem (by simp) fun i h1 h2 => ?_
  simp [Nat.mod_one]
theorem made27 (n : Nat) (hn : n ≤ 1000) (w : World) : (Instr.makeSlice 27 (.int .i64 (n : Int)) (.int .i64 (n : Int))).run Tryd.prog w = .ok (.slice (some ⟨w.heap.size, 0, none⟩) n n) (w.alloc (.cells (ints (List.replicate n 0)).toArray 3)) := by
  obtain ⟨i0, hi, hz0, hz1, hz2⟩ := info_parts info3
  have hr := run_make (P := Tryd.prog) w 27 3 i0 _ Tryd.underlying27 hi hz0 .i64 .i64 (n : Int) (n : Int) (by omega) (by omega) (by rw [hz2]; omega) (by omega)
  rw [hz1, Int.toNat_natCast, made_ints] at hr
  exact hr
/-- Behind the sort. -/
def Sorted (w5 : World) (gs n cap : Nat) (base : Nat) (ss : List ByteArray) (e : Ending) (w6 : World) : Prop := e = .returned (.tuple #[]) ∧ w5.grownBy w6 (some gs) ∧ w6.ownsRow base 9 1 (.slice (some ⟨gs, 0, none⟩) n cap) n (strs ss)
theorem sort_any (ks : List ByteArray) (w5 : World) (base gs cap : Nat) (h : w5.ownsRow base 9 1 (.slice (some ⟨gs, 0, none⟩) ks.length cap) ks.length (strs ks)) (hk : ks.length ≤ 1000000) :
    Calls Tryd.prog 39 #[.slice (some ⟨gs, 0, none⟩) ks.length cap] w5 fun e w' => Sorted w5 gs ks.length cap base (ssOf ks) e w' := by
  rcases id h.2 with ⟨e1, -⟩ | ⟨g', cap', cur, e1, q0, q1, q2, q3, q4, q5⟩
  · cases e1
  · cases e1
    have hl : (ks.map (·.data.toList)).length = ks.length := by simp
    have hH : Holds encStr w5 gs 0 (ks.map (·.data.toList)).toArray := Go.holds_of_block q1 (by rw [hl, show (ks.map (·.data.toList)).map encStr = strs ks by simp [strs, encStr]]; simpa using q5)
    have hs := Tryd.slices_Sort_string gs 0 cap (ks.map (·.data.toList)) w5 hH (Array.getElem?_eq_some_iff.1 q1).1 (by rw [hl]; omega)
    rw [hl] at hs
    refine hs.mono ?_
    rintro e w6 ⟨rfl, N, os, rfl⟩
    refine ⟨rfl, Go.grownBy_sorted _, ?_⟩
    have := Go.ownsRow_sorted (w := w5) (n := N) (os := os) (ss := ks.map (·.data.toList)) (ts := (ks.map (·.data.toList)).mergeSort fun x y => decide (x ≤ y)) (List.length_mergeSort _) q0 q1 (by rw [hl]; exact q2) q3 q4
    rw [hl, ssOf_enc] at this
    exact this
/-- Ahead of the first loop. -/
theorem ld_start {w1 w5 w6 : World} {b gs n cap : Nat} {ss : List ByteArray} {e : Ending}
    (h5 : Below (w1.heap.size + 2) ((w1.alloc (.cells #[.string ⟨#[]⟩] 9)).alloc (.cells #[.pointer (some ⟨b, 0, none⟩), .slice (some ⟨w1.heap.size, 0, none⟩) 1 1, .slice none 0 0, .slice none 0 0] 29)) w5) (h6 : Sorted w5 gs n cap (w1.heap.size + 2) ss e w6) :
    LD w1 b (w1.heap.size + 1) gs ss [⟨#[]⟩] (some ⟨w1.heap.size, 0, none⟩) 1 [] none 0 w6 := by
  obtain ⟨-, hg, ho⟩ := h6
  obtain ⟨wx, hwx⟩ : ∃ W, W = w1.alloc (.cells #[.string ⟨#[]⟩] 9) := ⟨_, rfl⟩
  rw [← hwx] at h5
  have hbx : Below w1.heap.size w1 wx := by rw [hwx]; exact (Below.refl _ _).alloc (Nat.le_refl _) _
  have hsx : wx.heap.size = w1.heap.size + 1 := by rw [hwx]; simp
  obtain ⟨wA, hwA⟩ : ∃ W, W = wx.alloc (.cells #[.pointer (some ⟨b, 0, none⟩), .slice (some ⟨w1.heap.size, 0, none⟩) 1 1, .slice none 0 0, .slice none 0 0] 29) := ⟨_, rfl⟩
  rw [← hwA] at h5
  have hbA : Below wx.heap.size wx wA := by rw [hwA]; exact (Below.refl _ _).alloc (Nat.le_refl _) _
  have hsA : wA.heap.size = w1.heap.size + 2 := by rw [hwA]; simp [hsx]
  have r0 : wx.ownsRow w1.heap.size 9 1 (.slice (some ⟨w1.heap.size, 0, none⟩) 1 1) 1 (strs [⟨#[]⟩]) := by
    rw [hwx]
    exact World.ownsRow_lit w1 #[.string ⟨#[]⟩] 1 (Nat.le_refl _) (by decide) rfl
  have v0 : SVar wA (w1.heap.size + 1) [.pointer (some ⟨b, 0, none⟩), .slice (some ⟨w1.heap.size, 0, none⟩) 1 1, .slice none 0 0, .slice none 0 0] := by
    have := snew wx [.pointer (some ⟨b, 0, none⟩), .slice (some ⟨w1.heap.size, 0, none⟩) 1 1, .slice none 0 0, .slice none 0 0] 29
    rw [hsx] at this
    rw [hwA]; exact this
  have h5' : Below wA.heap.size wA w5 := by rw [hsA]; exact h5
  have hgs := World.ownsRow.lt ho gs rfl
  have r5 := own_later (own_later r0 hbA) h5'
  have v5 := v0.later h5'
  have hs5 := h5.size
  have hb15 : Below w1.heap.size w1 w5 := (hbx.trans (hbA.mono (by omega))).trans (h5.mono (by omega))
  refine ⟨hb15.trans ⟨hg.os, hg.tape, hg.output, hg.size, fun k hk => hg.block k (by omega) fun e => by cases e; omega⟩, v5.same hg.size (hg.block _ v5.lt fun e => by cases e; omega), own_same r5 fun g e => hg.block g (World.ownsRow.lt r5 g e).2 fun e2 => by
    have e3 : w1.heap.size = g := Option.some.inj e
    have e4 : g = gs := Option.some.inj e2
    omega, World.ownsRow_nil _ _ _ _, fun g e => by
    have e3 : w1.heap.size = g := Option.some.inj e
    omega, fun g e => (by cases e), fun g _ e => (by cases e), fun j u hu => ?_, by omega, hgs.2, by omega⟩
  have := World.ownsRow.cells ho (g := gs) rfl j u hu
  rwa [add_off] at this
/-- Behind the append of a low. -/
def P7 (w1 : World) (b gs : Nat) (ss L : List ByteArray) (v : Value) (W : World) : Prop := ∃ a cap, v = .slice a L.length cap ∧ (∃ u, W.cell? ⟨w1.heap.size + 1, 1, none⟩ = some u) ∧ W.frozen? ⟨w1.heap.size + 1, 1, none⟩ = false ∧ LD w1 b (w1.heap.size + 1) gs ss L a cap [] none 0 (W.setCell ⟨w1.heap.size + 1, 1, none⟩ (.slice a L.length cap))
theorem LocM.more {w0 w : World} {b c r g z : Nat} {G : List (Nat × List Value)} {x : List Value} (h : LocM w0 b c r G w z) (hne : g ≠ z) : LocM w0 b c r ((g, x) :: G) w z :=
  ⟨h.lt, h.ge, h.ne, fun y hy e => by
    rcases List.mem_cons.1 hy with e2 | e2
    · subst e2; exact hne e
    · exact h.ng y e2 e⟩
/-- Behind the second loop, up to the call of Do. -/
structure LX (w w1 : World) (b c r zy gl cap gt cap2 N : Nat) (m : M) (L : List ByteArray) (hs : List Int) (wr W1 W2 W3 W4 : World) : Prop where
  c2 : wr.cell? ⟨zy, 2, none⟩ = some (.slice (some ⟨gt, 0, none⟩) N cap2)
  ct : ∃ u, wr.cell? ⟨gt, 0, none⟩ = some u
  ft : wr.frozen? ⟨gt, 0, none⟩ = false
  c1 : W1.cell? ⟨zy, 1, none⟩ = some (.slice (some ⟨gl, 0, none⟩) N cap)
  c3 : W2.cell? ⟨zy, 3, none⟩ = some (.slice none 0 0)
  f3 : W2.frozen? ⟨zy, 3, none⟩ = false
  sz : W3.heap.size = W1.heap.size + 1
  bel : Below w1.heap.size w1 W4
  has : HasE w b c r [(gt, ints hs), (gl, strs L)] W4 m
  la : (⟨some ⟨gl, 0, none⟩, N, cap⟩ : Sl).In [(gt, ints hs), (gl, strs L)] (strs L)
  ta : (⟨some ⟨gt, 0, none⟩, N, cap2⟩ : Sl).In [(gt, ints hs), (gl, strs L)] (ints hs)
  sy : SVar W4 zy (yrow b gl 0 cap gt 0 cap2 W1.heap.size N)
  so : SVar W4 (W1.heap.size + 1) [.bool true]
  sh : SVar W4 W1.heap.size (ints (List.replicate N 0))
  ly : LocM w b c r [(gt, ints hs), (gl, strs L)] W4 zy
  lo : LocM w b c r [(gt, ints hs), (gl, strs L)] W4 (W1.heap.size + 1)
  lh : LocM w b c r [(gt, ints hs), (gl, strs L)] W4 W1.heap.size
  lt : zy < W1.heap.size ∧ w1.heap.size ≤ zy
  ge : w1.heap.size ≤ gl ∧ w1.heap.size ≤ gt
theorem ld_done {w w1 wr : World} {b c r zy gs : Nat} {ss L : List ByteArray} {a : Option Addr} {cap : Nat} {hts : List Int} {a2 : Option Addr} {cap2 N : Nat} {m : M} (h : LD w1 b zy gs ss L a cap hts a2 cap2 wr) (hE : HasE w b c r [] w1 m) (hL : L.length = N) (hH : hts.length = N) (hN : 1 ≤ N) (hN2 : N ≤ 1000) (x : Int) :
    ∃ gl gt, a = some ⟨gl, 0, none⟩ ∧ a2 = some ⟨gt, 0, none⟩ ∧ ∃ W1 W2 W3 W4, W1 = wr.setCell ⟨gt, 0, none⟩ (.int .i64 x) ∧ W2 = W1.alloc (.cells (ints (List.replicate N 0)).toArray 3) ∧ W3 = W2.setCell ⟨zy, 3, none⟩ (.slice (some ⟨W1.heap.size, 0, none⟩) N N) ∧ W4 = W3.alloc (.cells #[.bool true] 4) ∧
      LX w w1 b c r zy gl cap gt cap2 N m L (hts.set 0 x) wr W1 W2 W3 W4 := by
  have hr1 := h.r1
  have hr2 := h.r2
  have hvar := h.var
  rw [hL] at hr1 hvar
  rw [hH] at hr2 hvar
  obtain ⟨gl, hcl, rfl⟩ : ∃ gl, N ≤ cap ∧ a = some ⟨gl, 0, none⟩ := by
    rcases own_val hr1 with ⟨e1, e2⟩ | ⟨g, cap', e1, q, -⟩
    · omega
    · cases e1; exact ⟨g, q, rfl⟩
  obtain ⟨gt, hct, rfl⟩ : ∃ gt, N ≤ cap2 ∧ a2 = some ⟨gt, 0, none⟩ := by
    rcases own_val hr2 with ⟨e1, e2⟩ | ⟨g, cap', e1, q, -⟩
    · omega
    · cases e1; exact ⟨g, q, rfl⟩
  have n1 := (h.n1 gl rfl).1
  have n2 := (h.n2 gt rfl).1
  have n12 : gl ≠ gt := fun e => h.n12 gl rfl (by rw [e]; rfl)
  have sl := own_svar hr1
  have st := own_svar hr2
  have l1 := World.ownsRow.lt hr1 gl rfl
  have l2 := World.ownsRow.lt hr2 gt rfl
  have hzy := h.ngs.2.2
  obtain ⟨W1, e1⟩ : ∃ W, W = wr.setCell ⟨gt, 0, none⟩ (.int .i64 x) := ⟨_, rfl⟩
  obtain ⟨W2, e2⟩ : ∃ W, W = W1.alloc (.cells (ints (List.replicate N 0)).toArray 3) := ⟨_, rfl⟩
  obtain ⟨W3, e3⟩ : ∃ W, W = W2.setCell ⟨zy, 3, none⟩ (.slice (some ⟨W1.heap.size, 0, none⟩) N N) := ⟨_, rfl⟩
  obtain ⟨W4, e4⟩ : ∃ W, W = W3.alloc (.cells #[.bool true] 4) := ⟨_, rfl⟩
  have b1 : But gt wr W1 := by rw [e1]; exact (But.refl _ _).set _ _
  have b2 : Below W1.heap.size W1 W2 := by rw [e2]; exact (Below.refl _ _).alloc (Nat.le_refl _) _
  have b3 : But zy W2 W3 := by rw [e3]; exact (But.refl _ _).set _ _
  have b4 : Below W3.heap.size W3 W4 := by rw [e4]; exact (Below.refl _ _).alloc (Nat.le_refl _) _
  have z1 : W1.heap.size = wr.heap.size := by rw [e1]; simp [World.setCell]
  have z2 : W2.heap.size = W1.heap.size + 1 := by rw [e2]; simp
  have z3 : W3.heap.size = W2.heap.size := by rw [e3]; simp [World.setCell]
  have z4 : W4.heap.size = W3.heap.size + 1 := by rw [e4]; simp
  have st1 : SVar W1 gt (ints (hts.set 0 x)) := by
    have := st.set (i := 0) (by rw [ints_length, hH]; omega) (.int .i64 x)
    rw [show (ints hts).set 0 (.int .i64 x) = ints (hts.set 0 x) by simp [ints, List.map_set]] at this
    rw [e1]; exact this
  have sl1 := sl.same b1.size (b1.block gl sl.lt n12)
  have sv1 := hvar.same b1.size (b1.block zy hvar.lt (Ne.symm n2))
  have st2 := st1.later b2
  have sl2 := sl1.later b2
  have sv2 := sv1.later b2
  have sh2 : SVar W2 W1.heap.size (ints (List.replicate N 0)) := by rw [e2]; exact snew _ _ _
  have st3 := st2.same b3.size (b3.block gt st2.lt n2)
  have sl3 := sl2.same b3.size (b3.block gl sl2.lt n1)
  have sv3 : SVar W3 zy (yrow b gl 0 cap gt 0 cap2 W1.heap.size N) := by rw [e3]; exact sv2.set (i := 3) (by simp) _
  have hlz : zy < W1.heap.size := sv1.lt
  have sh3 := sh2.same b3.size (b3.block _ sh2.lt (by omega))
  have so4 : SVar W4 (W1.heap.size + 1) [.bool true] := by
    have := snew W3 [.bool true] 4
    rw [z3, z2] at this
    rw [e4]; exact this
  have hbel : Below w1.heap.size w1 W4 := (((h.bel.trans (b1.belowAt l2.1 h.bel.size)).trans (b2.mono (by have := h.bel.size; omega))).trans (b3.belowAt hzy (by have := h.bel.size; omega))).trans (b4.mono (by have := h.bel.size; omega))
  have st4 := st3.later b4
  have sl4 := sl3.later b4
  have hE1 := hE.later hbel
  have lc : ∀ g, w1.heap.size ≤ g → g < W4.heap.size → LocM w b c r [] W4 g := fun g q1 q2 => hE.beyond q1 q2
  have hE2 := hE1.freeze (lc gl l1.1 sl4.lt) ⟨sl4.lt, fun j u hu => by have := sl4.at_ j u hu; rwa [Nat.zero_add] at this⟩
  have hE3 := hE2.freeze ((lc gt l2.1 st4.lt).more n12) ⟨st4.lt, fun j u hu => by have := st4.at_ j u hu; rwa [Nat.zero_add] at this⟩
  have hw1 := h.bel.size
  have lcG : ∀ g, w1.heap.size ≤ g → g < W4.heap.size → gl ≠ g → gt ≠ g → LocM w b c r [(gt, ints (hts.set 0 x)), (gl, strs L)] W4 g := fun g q1 q2 q3 q4 => ((lc g q1 q2).more q3).more q4
  refine ⟨gl, gt, rfl, rfl, W1, W2, W3, W4, e1, e2, e3, e4, ⟨hvar.cell (i := 2) rfl, ⟨_, st.cell (i := 0) (List.getElem?_eq_getElem (by rw [ints_length, hH]; omega))⟩, st.fz 0, sv1.cell (i := 1) rfl, sv2.cell (i := 3) rfl, sv2.fz 3, by omega, hbel, hE3, ⟨by rw [strs, List.length_map, hL], hcl, by rw [strs, List.length_map, hL]; omega, .inr ⟨gl, 0, strs L, rfl, by simp, fun i y hy => by rw [Nat.zero_add]; exact hy⟩⟩, ⟨by rw [ints_length, List.length_set, hH], hct, by rw [ints_length, List.length_set, hH]; omega, .inr ⟨gt, 0, ints (hts.set 0 x), rfl, List.mem_cons_self, fun i y hy => by rw [Nat.zero_add]; exact hy⟩⟩, sv3.later b4, so4, sh3.later b4, lcG zy hzy (by omega) n1 n2, lcG _ (by omega) (by omega) (by have := sl1.lt; omega) (by have := st1.lt; omega), lcG _ (by omega) (by omega) (by have := sl1.lt; omega) (by have := st1.lt; omega), ⟨hlz, hzy⟩, ⟨l1.1, l2.1⟩⟩⟩
theorem load_4 {w : World} {p : Addr} {x : Bool} (h : w.cell? p = some (.bool x)) : (Instr.loadAt 4 (.pointer (some p))).run Tryd.prog w = .ok (.bool x) w := by go_simp
/-- How lay ends. -/
def FinL (w : World) (ks : List ByteArray) (us : List Nat) (N : Nat) (v : Value) (W : World) : Prop :=
  (∃ b c r G m y l, v = Yr.v y ∧ LaidY w (lowsOf ks) (htsOf us N) W b c r G m y l) ∧ Below w.heap.size w W ∧ (Go.loadVar 29 ⟨w.heap.size, 0, none⟩).run Tryd.prog W = .ok v W
theorem FinL.fin {w W : World} {ks : List ByteArray} {us : List Nat} {N : Nat} {v : Value} (h : FinL w ks us N v W) (hN : N = (lowsOf ks).length) :
    (∃ b c r G m y l, Ending.returned (.tuple #[v, .bool true]) = .returned (.tuple #[Yr.v y, .bool true]) ∧ LaidY w (lowsOf ks) (htsOf us (lowsOf ks).length) W b c r G m y l) ∧ Below w.heap.size w W := by
  subst hN
  obtain ⟨⟨b, c, r, G, m, y, l, e, h1⟩, h2, -⟩ := h
  exact ⟨⟨b, c, r, G, m, y, l, by rw [e], h1⟩, h2⟩
/-- Within a region that stores once, and reads what the store doesn't touch. -/
structure LSR (w2 : World) (R P : World → Prop) (bs : List Bool) (_ : Nat → Value) (W : World) : Prop where
  one : bs[0]? = some false → Below w2.heap.size w2 W
  two : bs[0]? = some true → P W
  rd : R W
theorem lr_start {w2 : World} {R P : World → Prop} {β : Nat → Value} (h : R w2.drew) : LSR w2 R P [false] β w2.drew := ⟨fun _ => (Below.refl _ _).drew, fun e => (by cases e), h⟩
end Go.Proofs.YtibimnibmengpaaDoor
