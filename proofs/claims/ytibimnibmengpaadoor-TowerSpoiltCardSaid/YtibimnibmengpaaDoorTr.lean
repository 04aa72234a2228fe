/- The yard as the law's lay fills it: rows that grow beside each other. Condition: at most 1000 lows, or heights. -/
import Derived.Test.YtibimnibmengpaaDoorTq
namespace Go.Proofs.YtibimnibmengpaaDoor
open Go.RowKit Go.Op
set_option maxRecDepth 100000

theorem own_same {w w1 : World} {base size n : Nat} {e : TypeId} {v : Value} {xs : List Value} (h : w.ownsRow base e size v n xs) (hb : ∀ g, v.ownBlock = some g → w1.heap[g]? = w.heap[g]?) : w1.ownsRow base e size v n xs := by
  refine ⟨h.1, ?_⟩
  rcases h.2 with q | ⟨g, cap, cur, e1, e2, e3, e4⟩
  · exact .inl q
  · exact .inr ⟨g, cap, cur, e1, e2, by rw [hb g (by rw [e1]; rfl)]; exact e3, e4⟩
/-- The yard while lows and heights are gathered. -/
structure LD (w1 : World) (b zy gs : Nat) (ss L : List ByteArray) (a : Option Addr) (cap : Nat) (hts : List Int) (a2 : Option Addr) (cap2 : Nat) (W : World) : Prop where
  bel : Below w1.heap.size w1 W
  var : SVar W zy [.pointer (some ⟨b, 0, none⟩), .slice a L.length cap, .slice a2 hts.length cap2, .slice none 0 0]
  r1 : W.ownsRow w1.heap.size 9 1 (.slice a L.length cap) L.length (strs L)
  r2 : W.ownsRow w1.heap.size 3 1 (.slice a2 hts.length cap2) hts.length (ints hts)
  n1 : ∀ g, (Value.slice a L.length cap).ownBlock = some g → g ≠ zy ∧ g ≠ gs
  n2 : ∀ g, (Value.slice a2 hts.length cap2).ownBlock = some g → g ≠ zy ∧ g ≠ gs
  n12 : ∀ g, (Value.slice a L.length cap).ownBlock = some g → (Value.slice a2 hts.length cap2).ownBlock ≠ some g
  srt : W.rangeAt gs 0 (strs ss)
  ngs : gs ≠ zy ∧ gs < W.heap.size ∧ w1.heap.size ≤ zy
section
variable {w1 : World} {b zy gs : Nat} {ss L : List ByteArray} {a : Option Addr} {cap : Nat} {hts : List Int} {a2 : Option Addr} {cap2 : Nat} {W W1 : World}
theorem LD.later (h : LD w1 b zy gs ss L a cap hts a2 cap2 W) (hb : Below W.heap.size W W1) : LD w1 b zy gs ss L a cap hts a2 cap2 W1 :=
  ⟨h.bel.trans (hb.mono h.bel.size), h.var.later hb, own_later h.r1 hb, own_later h.r2 hb, h.n1, h.n2, h.n12, rangeAt_same h.srt (hb.block gs h.ngs.2.1), h.ngs.1, Nat.lt_of_lt_of_le h.ngs.2.1 hb.size, h.ngs.2.2⟩
/-- One more low. -/
theorem LD.low (h : LD w1 b zy gs ss L a cap hts a2 cap2 W) (hb : Below W.heap.size W W1) {g : Nat} {x : ByteArray} (hc : W1.cell? ⟨g, 0, none⟩ = some (.string x)) (hL : L.length ≤ 1000) (ty : TypeId) :
    ∃ v' W2, (Builtin.append_ #[22, 22] ty #[.slice a L.length cap, .slice (some ⟨g, 0, none⟩) 1 1]).run Tryd.prog W1 = .ok v' W2 ∧ ∃ a' cap', v' = .slice a' (L ++ [x]).length cap' ∧ W2.cell? ⟨zy, 1, none⟩ = some (.slice a L.length cap) ∧ W2.frozen? ⟨zy, 1, none⟩ = false ∧
      LD w1 b zy gs ss (L ++ [x]) a' cap' hts a2 cap2 (W2.setCell ⟨zy, 1, none⟩ (.slice a' (L ++ [x]).length cap')) := by
  have h1 := h.later hb
  obtain ⟨i0, hi, hz0, hz1, hz2⟩ := info_parts info9
  obtain ⟨a', cap', w2, q1, q2, q3, q4, -⟩ := own_app2 22 16 i0 _ Tryd.underlying22 hi hz0 hz1 hz2 rfl (by decide) h1.r1 h1.bel.size ⟨g, 0, none⟩ 1 1 [.string x] rfl (fun j u hj => by
    match j, hj with
    | 0, hj => simp at hj; subst hj; exact hc
    | j + 1, hj => simp at hj) (by intro u hu; simp at hu; subst hu; rfl) (by omega) (by decide) ty
  have hlen : (L ++ [x]).length = L.length + 1 := by simp
  have hz : w2.heap[zy]? = W1.heap[zy]? := q3.block zy h1.var.lt fun e => (h1.n1 zy e.symm).1 rfl
  have hgz : w2.heap[gs]? = W1.heap[gs]? := q3.block gs h1.ngs.2.1 fun e => (h1.n1 gs e.symm).2 rfl
  have v2 := h1.var.same q3.size hz
  have hlt := World.ownsRow.lt h1.r1
  have hlt2 := World.ownsRow.lt h1.r2
  have bt : But zy w2 (w2.setCell ⟨zy, 1, none⟩ (.slice a' (L ++ [x]).length cap')) := (But.refl _ _).set _ _
  have hnz : ∀ g', (Value.slice a' (L.length + 1) cap').ownBlock = some g' → g' ≠ zy ∧ g' ≠ gs ∧ (Value.slice a2 hts.length cap2).ownBlock ≠ some g' := fun g' e => by
    rcases q4 with e2 | e2
    · rw [e2] at e
      exact ⟨(h1.n1 g' e).1, (h1.n1 g' e).2, h1.n12 g' e⟩
    · rw [e2] at e
      cases e
      have := h1.var.lt
      have := h1.ngs.2.1
      exact ⟨by omega, by omega, fun e3 => by have := (hlt2 _ e3).2; omega⟩
  have hbel : Below w1.heap.size w1 w2 := h1.bel.trans ⟨q3.os, q3.tape, q3.output, q3.size, fun k hk => q3.block k (by have := h1.bel.size; omega) fun e => by have := (hlt k e.symm).1; omega⟩
  refine ⟨_, w2, q1, a', cap', by rw [hlen], v2.cell (i := 1) rfl, v2.fz 1, ?_⟩
  rw [hlen] at bt ⊢
  refine ⟨?_, ?_, ?_, ?_, fun g' e => ?_, h.n2, fun g' e => ?_, ?_, h.ngs.1, ?_, h.ngs.2.2⟩
  · exact hbel.trans (bt.belowAt h.ngs.2.2 hbel.size)
  · rw [hlen]
    exact v2.set (i := 1) (by simp) _
  · rw [hlen]
    refine own_same (by rw [show strs (L ++ [x]) = strs L ++ [.string x] by simp [strs]]; exact q2) fun g' e => ?_
    exact bt.block g' (World.ownsRow.lt q2 g' e).2 (hnz g' e).1
  · refine own_same h1.r2 fun g' e => ?_
    rw [bt.block g' (Nat.lt_of_lt_of_le (hlt2 g' e).2 q3.size) (h1.n2 g' e).1]
    exact q3.block g' (hlt2 g' e).2 fun e2 => h1.n12 g' e2.symm e
  · rw [hlen] at e
    exact ⟨(hnz g' e).1, (hnz g' e).2.1⟩
  · rw [hlen] at e
    exact (hnz g' e).2.2
  · exact rangeAt_same (rangeAt_same h1.srt hgz) (bt.block gs (Nat.lt_of_lt_of_le h1.ngs.2.1 q3.size) h1.ngs.1)
  · exact Nat.lt_of_lt_of_le (Nat.lt_of_lt_of_le h1.ngs.2.1 q3.size) bt.size
/-- One more height. -/
theorem LD.high (h : LD w1 b zy gs ss L a cap hts a2 cap2 W) (hb : Below W.heap.size W W1) {g : Nat} {x : Int} (hc : W1.cell? ⟨g, 0, none⟩ = some (.int .i64 x)) (hL : hts.length ≤ 1000) (ty : TypeId) :
    ∃ v' W2, (Builtin.append_ #[27, 27] ty #[.slice a2 hts.length cap2, .slice (some ⟨g, 0, none⟩) 1 1]).run Tryd.prog W1 = .ok v' W2 ∧ ∃ a' cap', v' = .slice a' (hts ++ [x]).length cap' ∧ W2.cell? ⟨zy, 2, none⟩ = some (.slice a2 hts.length cap2) ∧ W2.frozen? ⟨zy, 2, none⟩ = false ∧
      LD w1 b zy gs ss L a cap (hts ++ [x]) a' cap' (W2.setCell ⟨zy, 2, none⟩ (.slice a' (hts ++ [x]).length cap')) := by
  have h1 := h.later hb
  obtain ⟨i0, hi, hz0, hz1, hz2⟩ := info_parts info3
  obtain ⟨a', cap', w2, q1, q2, q3, q4, -⟩ := own_app2 27 8 i0 _ Tryd.underlying27 hi hz0 hz1 hz2 rfl (by decide) h1.r2 h1.bel.size ⟨g, 0, none⟩ 1 1 [.int .i64 x] rfl (fun j u hj => by
    match j, hj with
    | 0, hj => simp at hj; subst hj; exact hc
    | j + 1, hj => simp at hj) (by intro u hu; simp at hu; subst hu; rfl) (by omega) (by decide) ty
  have hlen : (hts ++ [x]).length = hts.length + 1 := by simp
  have hz : w2.heap[zy]? = W1.heap[zy]? := q3.block zy h1.var.lt fun e => (h1.n2 zy e.symm).1 rfl
  have hgz : w2.heap[gs]? = W1.heap[gs]? := q3.block gs h1.ngs.2.1 fun e => (h1.n2 gs e.symm).2 rfl
  have v2 := h1.var.same q3.size hz
  have hlt := World.ownsRow.lt h1.r2
  have hlt2 := World.ownsRow.lt h1.r1
  have bt : But zy w2 (w2.setCell ⟨zy, 2, none⟩ (.slice a' (hts ++ [x]).length cap')) := (But.refl _ _).set _ _
  have hnz : ∀ g', (Value.slice a' (hts.length + 1) cap').ownBlock = some g' → g' ≠ zy ∧ g' ≠ gs ∧ (Value.slice a L.length cap).ownBlock ≠ some g' := fun g' e => by
    rcases q4 with e2 | e2
    · rw [e2] at e
      exact ⟨(h1.n2 g' e).1, (h1.n2 g' e).2, fun e3 => h1.n12 g' e3 e⟩
    · rw [e2] at e
      cases e
      have := h1.var.lt
      have := h1.ngs.2.1
      exact ⟨by omega, by omega, fun e3 => by have := (hlt2 _ e3).2; omega⟩
  have hbel : Below w1.heap.size w1 w2 := h1.bel.trans ⟨q3.os, q3.tape, q3.output, q3.size, fun k hk => q3.block k (by have := h1.bel.size; omega) fun e => by have := (hlt k e.symm).1; omega⟩
  refine ⟨_, w2, q1, a', cap', by rw [hlen], v2.cell (i := 2) rfl, v2.fz 2, ?_⟩
  rw [hlen] at bt ⊢
  refine ⟨?_, ?_, ?_, ?_, h.n1, fun g' e => ?_, fun g' e e2 => ?_, ?_, h.ngs.1, ?_, h.ngs.2.2⟩
  · exact hbel.trans (bt.belowAt h.ngs.2.2 hbel.size)
  · rw [hlen]
    exact v2.set (i := 2) (by simp) _
  · refine own_same h1.r1 fun g' e => ?_
    rw [bt.block g' (Nat.lt_of_lt_of_le (hlt2 g' e).2 q3.size) (h1.n1 g' e).1]
    exact q3.block g' (hlt2 g' e).2 fun e2 => h1.n12 g' e e2.symm
  · rw [hlen]
    refine own_same (by rw [show ints (hts ++ [x]) = ints hts ++ [.int .i64 x] by simp [ints]]; exact q2) fun g' e => ?_
    exact bt.block g' (World.ownsRow.lt q2 g' e).2 (hnz g' e).1
  · rw [hlen] at e
    exact ⟨(hnz g' e).1, (hnz g' e).2.1⟩
  · rw [hlen] at e2
    exact (hnz g' e2).2.2 e
  · exact rangeAt_same (rangeAt_same h1.srt hgz) (bt.block gs (Nat.lt_of_lt_of_le h1.ngs.2.1 q3.size) h1.ngs.1)
  · exact Nat.lt_of_lt_of_le (Nat.lt_of_lt_of_le h1.ngs.2.1 q3.size) bt.size
end
/-- Within a region that makes a row of one, appends it and stores what came of it. -/
structure LA (w2 : World) (x : Value) (P7 : Value → World → Prop) (P9 : World → Prop) (bs : List Bool) (β : Nat → Value) (W : World) : Prop where
  z1 : bs[0]? = some false → bs[1]? = some false
  z2 : bs[1]? = some false → bs[2]? = some false
  bel : bs[1]? = some false → Below w2.heap.size w2 W
  two : bs[0]? = some true → bs[1]? = some false → ∃ g, β 6 = .slice (some ⟨g, 0, none⟩) 1 1 ∧ W.cell? ⟨g, 0, none⟩ = some x
  three : bs[1]? = some true → bs[2]? = some false → P7 (β 7) W
  four : bs[2]? = some true → P9 W
section
variable {w2 : World} {x : Value} {P7 : Value → World → Prop} {P9 : World → Prop} {bs : List Bool} {β : Nat → Value} {W : World}
theorem la_start : LA w2 x P7 P9 [false, false, false] β w2.drew := ⟨fun _ => rfl, fun _ => rfl, fun _ => (Below.refl _ _).drew, fun e => (by cases e), fun e => (by cases e), fun e => (by cases e)⟩
theorem la_row (h : LA w2 x P7 P9 bs β W) (b0 : bs[0]? = some false) (T e : TypeId) (hrun : (Instr.buildSlice T 1 #[(0, x)]).run Tryd.prog W = .ok (.slice (some ⟨W.heap.size, 0, none⟩) 1 1) (W.alloc (.cells #[x] e))) :
    ∃ u w', (Instr.buildSlice T 1 #[(0, x)]).run Tryd.prog W = .ok u w' ∧ LA w2 x P7 P9 (bs.set 0 true) (FreeV.upd β 6 u) w' := by
  have b1 := h.z1 b0
  have b2 := h.z2 b1
  have hb := h.bel b1
  refine ⟨_, _, hrun, fun e => (by rw [set_at b0] at e; cases e), fun _ => by rw [List.getElem?_set_ne (by decide)]; exact b2, fun _ => hb.alloc hb.size _, fun _ _ => ⟨W.heap.size, by simp [FreeV.upd], (snew W [x] e).cell (i := 0) rfl⟩, fun e => ?_, fun e => ?_⟩
  · rw [List.getElem?_set_ne (by decide), b1] at e; cases e
  · rw [List.getElem?_set_ne (by decide), b2] at e; cases e
theorem la_app (h : LA w2 x P7 P9 bs β W) (b0 : bs[0]? = some true) (b1 : bs[1]? = some false) {T ty : TypeId} {v : Value}
    (hap : ∀ W, Below w2.heap.size w2 W → ∀ g, W.cell? ⟨g, 0, none⟩ = some x → ∀ ty, ∃ v' w', (Builtin.append_ #[T, T] ty #[v, .slice (some ⟨g, 0, none⟩) 1 1]).run Tryd.prog W = .ok v' w' ∧ P7 v' w') :
    ∃ u w', (Builtin.append_ #[T, T] ty #[v, β 6]).run Tryd.prog W = .ok u w' ∧ LA w2 x P7 P9 (bs.set 1 true) (FreeV.upd β 7 u) w' := by
  obtain ⟨g, e6, hc⟩ := h.two b0 b1
  obtain ⟨v', w', hr, hp⟩ := hap W (h.bel b1) g hc ty
  rw [e6]
  have b2 := h.z2 b1
  refine ⟨v', w', hr, fun e => ?_, fun e => (by rw [set_at b1] at e; cases e), fun e => (by rw [set_at b1] at e; cases e), fun _ e => (by rw [set_at b1] at e; cases e), fun _ _ => by simpa [FreeV.upd] using hp, fun e => ?_⟩
  · rw [List.getElem?_set_ne (by decide), b0] at e; cases e
  · rw [List.getElem?_set_ne (by decide), b2] at e; cases e
theorem la_store (h : LA w2 x P7 P9 bs β W) (b1 : bs[1]? = some true) (b2 : bs[2]? = some false) {T : TypeId} {p : Value}
    (hst : ∀ v' W, P7 v' W → ∃ w', (Instr.storeAt T p v').run Tryd.prog W = .ok () w' ∧ P9 w') :
    ∃ w', (Instr.storeAt T p (β 7)).run Tryd.prog W = .ok () w' ∧ LA w2 x P7 P9 (bs.set 2 true) β w' := by
  obtain ⟨w', hr, hp⟩ := hst _ _ (h.three b1 b2)
  refine ⟨w', hr, fun e => ?_, fun e => ?_, fun e => ?_, fun _ e => ?_, fun _ e => (by rw [set_at b2] at e; cases e), fun _ => hp⟩
  · rw [List.getElem?_set_ne (by decide)] at e ⊢
    have := h.z1 e
    rw [b1] at this
    cases this
  · rw [List.getElem?_set_ne (by decide), b1] at e; cases e
  · rw [List.getElem?_set_ne (by decide), b1] at e; cases e
  · rw [List.getElem?_set_ne (by decide), b1] at e; cases e
end
theorem row22 (w : World) (x : ByteArray) : (Instr.buildSlice 22 1 #[(0, .string x)]).run Tryd.prog w = .ok (.slice (some ⟨w.heap.size, 0, none⟩) 1 1) (w.alloc (.cells #[.string x] 9)) := by go_simp
theorem st_22 {w : World} {p : Addr} {u : Value} (a : Option Addr) (n cap : Nat) (h : w.cell? p = some u) (hf : w.frozen? p = false) : (Instr.storeAt 22 (.pointer (some p)) (.slice a n cap)).run Tryd.prog w = .ok () (w.setCell p (.slice a n cap)) := by go_simp
end Go.Proofs.YtibimnibmengpaaDoor
