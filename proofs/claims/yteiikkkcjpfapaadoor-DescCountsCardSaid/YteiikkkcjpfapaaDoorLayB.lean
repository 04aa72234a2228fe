/- What the law's Lay comes to. Conditions: each cell that is asked for can be had; the library's table stands. -/
import Derived.Test.YteiikkkcjpfapaaDoorLayA
namespace Go.Proofs.YteiikkkcjpfapaaDoor
open Go.RowKit Go.Op
set_option maxRecDepth 100000

/-- A row of numbers that a law holds beside memory. -/
def Nums (w0 : World) (b c r : Nat) (G : List (Nat × List Sw)) (w : World) (v : Value) (l : List Int) : Prop :=
  ∃ a cap, v = .slice a l.length cap ∧ (l = [] ∨ ∃ g, a = some ⟨g, 0, none⟩ ∧ LocM w0 b c r G w g ∧ ∀ (i : Nat) (x : Int), l[i]? = some x → w.cell? ⟨g, i, none⟩ = some (.int .i64 x))
theorem Nums.of {w0 : World} {b c r B : Nat} {G : List (Nat × List Sw)} {w : World} {v : Value} {l : List Int} (h : OwnI w B v l) (hl : ∀ g, v.ownBlock = some g → LocM w0 b c r G w g) : Nums w0 b c r G w v l := by
  rcases id h.2 with ⟨rfl, h2⟩ | ⟨g, cap, cur, rfl, hb, hc, hd⟩
  · have : l = [] := List.eq_nil_of_length_eq_zero h2
    subst this
    exact ⟨none, 0, rfl, .inl rfl⟩
  · refine ⟨some ⟨g, 0, none⟩, cap, rfl, .inr ⟨g, rfl, hl g rfl, fun i x hx => ?_⟩⟩
    have := World.ownsRow.cells h (g := g) rfl i (.int .i64 x) (by simp [numRow, hx])
    rw [show (⟨g, 0, none⟩ : Addr).add i = ⟨g, i, none⟩ by simp [Addr.add]; rintro rfl; rfl] at this
    exact this
theorem Nums.keep {w0 : World} {b c r : Nat} {G G1 : List (Nat × List Sw)} {w w1 : World} {v : Value} {l : List Int} (h : Nums w0 b c r G w v l) (hs : w.heap.size ≤ w1.heap.size) (hg : Grow w G G1) (hk : ∀ k, k < w.heap.size → k ≠ b → k ≠ c → k ≠ r → w1.heap[k]? = w.heap[k]?) : Nums w0 b c r G1 w1 v l := by
  obtain ⟨a, cap, e, h2⟩ := h
  refine ⟨a, cap, e, h2.imp id ?_⟩
  rintro ⟨g, e, hl, hc⟩
  refine ⟨g, e, hl.later hs hg, fun i x hx => ?_⟩
  rw [World.cell?_of_block (w := w) (a := ⟨g, i, none⟩) (hk g hl.lt hl.ne.1 hl.ne.2.1 hl.ne.2.2)]
  exact hc i x hx
theorem info27 : (Tryd.prog.info? 27).map (·.size) = some 3 := by kernel_rfl
/-- Behind Lay. -/
def Laid (w : World) (n k : Nat) (e : Ending) (w' : World) : Prop :=
  ∃ b c r G v, e = .returned (.tuple #[.agg #[.pointer (some ⟨b, 0, none⟩), .int .i64 (initP.go (M.new n)).1.1, v], .bool true]) ∧ HasE w b c r G w' (layS (initP.go (M.new n)).2 k).1 ∧ Nums w b c r G w' v (layS (initP.go (M.new n)).2 k).2
theorem ptr_eq24 (a : Addr) (w : World) : (binOp .eql 24 (.pointer (some a)) (.pointer none)).run Tryd.prog w = .ok (.bool false) w := by kernel_rfl
theorem yagg {w : World} {z b : Nat} {top : Int} {a : Option Addr} {n cap : Nat} (h : YVar w z b top (.slice a n cap)) : (Instr.loadAt 27 (.pointer (some ⟨z, 0, none⟩))).run Tryd.prog w = .ok (.agg #[.pointer (some ⟨b, 0, none⟩), .int .i64 top, .slice a n cap]) w :=
  run_loadAt_mid w z 0 27 [.pointer (some ⟨b, 0, none⟩), .int .i64 top, .slice a n cap] _ (fun j v hj => by
    match j, hj with
    | 0, hj => simp at hj; subst hj; exact h.c0
    | 1, hj => simp at hj; subst hj; exact h.c1
    | 2, hj => simp at hj; subst hj; exact h.c2) Tryd.underlying27 rfl info27
theorem enter_44 (xs : Array Value) (w : World) : (callFunc 44 xs).run Tryd.prog w = .ok (.enter 44 xs) w := by kernel_rfl
theorem new_e (n : Nat) : (M.new n).e = M.new n := by
  unfold M.new M.e
  simp only [List.map_replicate]
  rfl
set_option maxHeartbeats 1000000 in
theorem lay_any (w : World) (hT : TabAt w) (n k : Nat) (h1 : 1 ≤ n) (hn : n ≤ 65535) (hk : k ≤ 8) (e0 : (initP.go (M.new n)).1.2 = 0) (hc1 : (initP.go (M.new n)).2.count ≤ 1000) (hok : ∀ i : Nat, i < k → ((layS (initP.go (M.new n)).2 i).1.alloc (.word i)).2.2 = 0) :
    Calls Tryd.prog 9 #[.int .i64 (n : Int), .int .i64 (k : Int)] w fun e w' => Laid w n k e w' ∧ Below w.heap.size w w' := by
  obtain ⟨wa, hwa⟩ : ∃ W, W = (w.alloc (.cells #[.int .i64 (k : Int)] 3)).alloc (.cells #[.pointer none, .int .i64 0, .slice none 0 0] 27) := ⟨_, rfl⟩
  have hza : wa.heap.size = w.heap.size + 2 := by rw [hwa]; simp
  have hba : Below w.heap.size w wa := by rw [hwa]; exact ((Below.refl _ _).alloc (Nat.le_refl _) _).alloc (by simp) _
  have ca : wa.cell? ⟨w.heap.size, 0, none⟩ = some (.int .i64 (k : Int)) := by rw [hwa]; simp [go_sem]
  have hnew := new_any n h1 hn wa
  have HW := Lib.hid hwa.symm
  have HA := Lib.hid (⟨hza, hba, ca⟩ : _ ∧ _ ∧ _)
  have pe := ptr_eq24
  have hm := hmf1
  clear hza hba ca hwa
  go_enter Tryd.func9, Tryd.ntmps9
  go_wp2_with (first | rw [HW.out] | fail)
  refine hnew.mono ?_
  rintro e w1 ⟨b, c, r, rfl, hAt, hb1, q1, q2, q3⟩
  obtain ⟨hza, hba, ca⟩ := HA.out
  have hs1 := hb1.size
  obtain ⟨wb, hwb⟩ : ∃ W, W = (w1.alloc (.cells #[.pointer (some ⟨b, 0, none⟩), .int .i64 0, .slice none 0 0] 27)).alloc (.cells #[.bool true] 4) := ⟨_, rfl⟩
  have b1 := (Below.refl w1.heap.size w1).alloc (Nat.le_refl _) (.cells #[.pointer (some ⟨b, 0, none⟩), .int .i64 0, .slice none 0 0] 27)
  have b2 := (Below.refl (w1.alloc (.cells #[.pointer (some ⟨b, 0, none⟩), .int .i64 0, .slice none 0 0] 27)).heap.size (w1.alloc (.cells #[.pointer (some ⟨b, 0, none⟩), .int .i64 0, .slice none 0 0] 27))).alloc (Nat.le_refl _) (.cells #[.bool true] 4)
  have hzb : wb.heap.size = w1.heap.size + 2 := by rw [hwb]; simp
  have hb2 : Below w1.heap.size w1 wb := by rw [hwb]; exact b1.alloc (by simp) _
  have hE0 : HasE w b c r [] w1 (M.new n) :=
    ⟨M.new n, ⟨hAt, new_ok n hn, hba.trans (hb1.mono (by omega)), by omega, by omega, by omega⟩, (fun i x hx => by
      simp only [M.new, List.getElem?_replicate] at hx
      split at hx
      · cases hx; exact no_in
      · cases hx), Int.le_refl _, new_e n, fun g l hg => (by cases hg)⟩
  have hE1 := hE0.later hb2
  have ly : LocM w b c r [] wb w1.heap.size := by
    have := hE0.fresh (.cells #[.pointer (some ⟨b, 0, none⟩), .int .i64 0, .slice none 0 0] 27)
    rw [hwb]; exact this.later b2.size (Grow.refl _ _)
  have lo : LocM w b c r [] wb (w1.heap.size + 1) := by
    have := (hE0.later b1).fresh (.cells #[.bool true] 4)
    rw [hwb]
    rw [show (w1.alloc (.cells #[.pointer (some ⟨b, 0, none⟩), .int .i64 0, .slice none 0 0] 27)).heap.size = w1.heap.size + 1 by simp] at this
    exact this
  have lw : LocM w b c r [] wb w.heap.size := ⟨by omega, Nat.le_refl _, ⟨by omega, by omega, by omega⟩, fun x hx => (by cases hx)⟩
  have kw : ∀ z, z < wa.heap.size → wb.heap[z]? = wa.heap[z]? := fun z hz => (hb2.block z (by omega)).trans (hb1.block z hz)
  have cw : wb.cell? ⟨w.heap.size, 0, none⟩ = some (.int .i64 (k : Int)) := (World.cell?_of_block (w := wa) (a := ⟨w.heap.size, 0, none⟩) (kw w.heap.size (by omega))).trans ca
  have hy : YVar wb w1.heap.size b 0 (.slice none 0 0) := by
    rw [hwb]
    exact ⟨by simp [go_sem], by simp [go_sem], by simp [go_sem], fun i => by rw [b2.frozen (p := ⟨w1.heap.size, i, none⟩) (by simp)]; exact World.frozen?_alloc_at _ 27 _ i rfl⟩
  have ho : wb.cell? ⟨w1.heap.size + 1, 0, none⟩ = some (.bool true) := by rw [hwb]; simp [go_sem]
  have hfo : wb.frozen? ⟨w1.heap.size + 1, 0, none⟩ = false := by
    rw [hwb]
    rw [show w1.heap.size + 1 = (w1.alloc (.cells #[.pointer (some ⟨b, 0, none⟩), .int .i64 0, .slice none 0 0] 27)).heap.size by simp]
    exact World.frozen?_alloc_at _ 4 _ 0 rfl
  have hdo := do_any wb b 44 #[.pointer (some ⟨w1.heap.size, 0, none⟩), .pointer (some ⟨w1.heap.size + 1, 0, none⟩), .pointer (some ⟨w.heap.size, 0, none⟩)] (fun _ w' => ∃ v, LMid w b c r [] w1.heap.size (w1.heap.size + 1) wb (initP.go (M.new n)).2 (initP.go (M.new n)).1.1 k v w') enter_44
    (lay1_any hE1 hT k hk hy ho hfo cw ly lo lw ⟨by omega, by omega, by omega⟩ e0 (by simp [M.new]) hc1 hok)
  have HW2 := Lib.hid hwb.symm
  have HZ := Lib.hid (⟨hzb, kw, ly, lo, lw⟩ : _ ∧ _ ∧ _ ∧ _ ∧ _)
  have HH := Lib.hid (⟨q1, q2, q3, hs1⟩ : _ ∧ _ ∧ _ ∧ _)
  have HB1 := Lib.hid (⟨hb1, hb2⟩ : _ ∧ _)
  have cr : ∀ i v, (#[.pointer none, .int .i64 0, .slice none 0 0] : Array Value)[i]? = some v → wa.cell? ⟨w.heap.size + 1, i, none⟩ = some v := fun i v hv => by
    rw [← HW.out]
    rw [show w.heap.size + 1 = (w.alloc (.cells #[.int .i64 (k : Int)] 3)).heap.size by simp, World.cell?_alloc_new]
    exact hv
  have fr : ∀ i, wa.frozen? ⟨w.heap.size + 1, i, none⟩ = false := fun i => by
    rw [← HW.out]
    rw [show w.heap.size + 1 = (w.alloc (.cells #[.int .i64 (k : Int)] 3)).heap.size by simp]
    exact World.frozen?_alloc_at _ 27 _ i rfl
  have HR := Lib.hid (⟨cr, fr⟩ : _ ∧ _)
  clear hnew hAt hb1 q1 q2 q3 b1 b2 hzb hb2 hE0 hE1 ly lo lw kw cw hy ho hfo hwb hs1 hza hba ca cr fr
  go_wp2_with (first | rw [HW2.out] | fail)
  refine hdo.mono ?_
  rintro e w2 ⟨u, rfl, v, hM⟩
  obtain ⟨va, vc, ev, -⟩ := hM.own.see
  rw [layS_len] at ev
  subst ev
  obtain ⟨t2, G2, D2, hlv⟩ := hM.dgo
  obtain ⟨hza, hba, ca⟩ := HA.out
  obtain ⟨hzb, kw, ly, lo, lw⟩ := HZ.out
  obtain ⟨q1, q2, q3, hs1⟩ := HH.out
  have kr : w2.heap[w.heap.size + 1]? = wa.heap[w.heap.size + 1]? := (D2.but.block _ (by omega) (by simp; omega)).trans (kw _ (by omega))
  have k2 : ∀ i, w2.cell? ⟨w.heap.size + 1, i, none⟩ = wa.cell? ⟨w.heap.size + 1, i, none⟩ := fun i => World.cell?_of_block (w := wa) kr
  have r0 := (k2 0).trans (HR.out.1 0 _ rfl)
  have r1 := (k2 1).trans (HR.out.1 1 _ rfl)
  have r2 := (k2 2).trans (HR.out.1 2 _ rfl)
  have rf : ∀ i, w2.frozen? ⟨w.heap.size + 1, i, none⟩ = false := fun i => by rw [World.frozen?_of_block (w := wa) (a := ⟨w.heap.size + 1, i, none⟩) kr]; exact HR.out.2 i
  obtain ⟨y0, y1, y2, yf⟩ := hM.y
  have o1 := hM.o
  have hHE := D2.sys.mem
  have lr : LocM w b c r G2 w2 (w.heap.size + 1) := ⟨by have := D2.but.size; omega, by omega, ⟨by omega, by omega, by omega⟩, fun x hx e => (D2.gro.2 x hx).elim (fun e2 => (by cases e2)) fun e2 => by omega⟩
  generalize htop : (initP.go (M.new n)).1.1 = top at *
  obtain ⟨wf, hwf⟩ : ∃ W, W = (((w2.setCell ⟨w.heap.size + 1, 0, none⟩ (.pointer (some ⟨b, 0, none⟩))).setCell ⟨w.heap.size + 1, 1, none⟩ (.int .i64 top)).setCell ⟨w.heap.size + 1, 2, none⟩ (.slice va k vc)).drew := ⟨_, rfl⟩
  have hbf : But (w.heap.size + 1) w2 wf := by rw [hwf]; exact ((((But.refl _ _).set _ _).set _ _).set _ _).drew
  have hyf : YVar wf (w.heap.size + 1) b top (.slice va k vc) := by
    rw [hwf]
    exact ⟨set_other (set_other (set_same r0) (by omega)) (by omega), set_other (set_same (set_other r1 (by omega))) (by omega), set_same (set_other (set_other r2 (by omega)) (by omega)), fun i => by
      show ((((w2.setCell _ _).setCell _ _).setCell _ _)).frozen? _ = _
      rw [World.frozen?_setCell, World.frozen?_setCell, World.frozen?_setCell]; exact rf i⟩
  have HE : Hid (Laid w n k (.returned (.tuple #[.agg #[.pointer (some ⟨b, 0, none⟩), .int .i64 top, .slice va k vc], .bool true])) wf ∧ Below w.heap.size w wf) := by
    refine ⟨⟨b, c, r, G2, .slice va k vc, by rw [htop], hHE.aside hbf ⟨by omega, by omega, by omega, by omega, lr.ng⟩, ?_⟩, ?_⟩
    · have hn1 : Nums w b c r G2 w2 (.slice va k vc) (layS (initP.go (M.new n)).2 k).2 := Nums.of hM.own fun g e => by
        have hl := hlv g e
        exact ⟨hl.lt, hl.ge, ⟨hl.ne.1, hl.ne.2.1, hl.ne.2.2.1⟩, hl.ng⟩
      obtain ⟨a, cap, e, h2⟩ := hn1
      refine ⟨a, cap, e, h2.imp id ?_⟩
      rintro ⟨g, e2, hl, hc⟩
      have hgz : wb.heap.size + 1 ≤ g := (hM.own.lt g (by rw [e, e2]; rfl)).1
      refine ⟨g, e2, hl.later hbf.size (Grow.refl _ _), fun i x hx => ?_⟩
      rw [World.cell?_of_block (w := w2) (a := ⟨g, i, none⟩) (hbf.block g hl.lt (by omega))]
      exact hc i x hx
    · refine ⟨hbf.os.trans (D2.but.os.trans (HB1.out.2.os.trans (HB1.out.1.os.trans hba.os))), hbf.tape.trans (D2.but.tape.trans (HB1.out.2.tape.trans (HB1.out.1.tape.trans hba.tape))), hbf.output.trans (D2.but.output.trans (HB1.out.2.output.trans (HB1.out.1.output.trans hba.output))), by have := D2.but.size; have := hbf.size; omega, fun z hz => ?_⟩
      rw [hbf.block z (by have := D2.but.size; omega) (by omega), D2.but.block z (by omega) (by simp; omega), kw z (by omega)]
      exact hba.block z hz
  have HL := Lib.hid (yagg hyf)
  have HLV : Hid ((loadVar 27 ⟨w.heap.size + 1, 0, none⟩).run Tryd.prog wf = .ok (.agg #[.pointer (some ⟨b, 0, none⟩), .int .i64 top, .slice va k vc]) wf) :=
    run_loadVar_mid wf (w.heap.size + 1) 0 27 [.pointer (some ⟨b, 0, none⟩), .int .i64 top, .slice va k vc] _ (fun j v hj => by
    match j, hj with
    | 0, hj => simp at hj; subst hj; exact hyf.c0
    | 1, hj => simp at hj; subst hj; exact hyf.c1
    | 2, hj => simp at hj; subst hj; exact hyf.c2) Tryd.underlying27 rfl info27
  have HW3 := Lib.hid hwf.symm
  have sz : w.heap.size + 1 < w2.heap.size := lr.lt
  have sz2 : w.heap.size + 1 < w1.heap.size := by omega
  clear hdo hM D2 hlv hza hba ca hzb kw ly lo lw q1 q2 q3 hs1 kr k2 hHE lr hwf hbf hyf HL
  go_wp2_with fail
  go_region
  go_wp2_with fail
  rw [HW3.out]
  exact bodyPost_ret (results_cell2 (.bool true) Tryd.results9 rfl rfl HLV.out) rfl HE.out
end Go.Proofs.YteiikkkcjpfapaaDoor
