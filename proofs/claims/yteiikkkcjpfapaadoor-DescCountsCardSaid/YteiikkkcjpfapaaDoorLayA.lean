/- The law's yard: what the closure that lays it comes to. Conditions: each cell that is asked for can be had; the library's table stands. -/
import Derived.Test.YteiikkkcjpfapaaDoorLay
namespace Go.Proofs.YteiikkkcjpfapaaDoor
open Go.RowKit Go.Op
set_option maxRecDepth 100000

theorem SysE.newloc {w0 : World} {b c r pb po : Nat} {t : Value} {G : List (Nat × List Sw)} {w w1 : World} {m : M} {s : Pt} (h : SysE w0 b c r pb po t G w m s) {z : Nat} (hz : w.heap.size ≤ z) (hw : z < w1.heap.size) : Loc w0 b c r pb t G w1 z := by
  obtain ⟨m0, s0, h1, -⟩ := h
  have o := h1.has.at_.own
  have h2 := h1.pt.lt
  have h3 := o.lb
  have h4 := o.lc
  have h5 := o.lr
  have h6 := h1.has.below.size
  exact ⟨hw, by omega, ⟨by omega, by omega, by omega, by omega⟩, fun e => by
    have := (World.ownsRow.lt h1.pt.own _ e).2
    omega, fun x hx e => by
    have := (h1.rows x.1 x.2 hx).1.lt
    omega⟩
theorem Dgo.grown {w0 : World} {b c r pb : Nat} {Z : List Nat} {t1 : Value} {G0 G1 : List (Nat × List Sw)} {w w1 w2 : World} {m1 : M} {s1 : Pt} (h : Dgo w0 b c r pb Z w t1 G0 G1 w1 m1 s1) {ro : Option Nat} (hg : w1.grownBy w2 ro) (hl : ∀ g, ro = some g → Loc w0 b c r pb t1 G1 w1 g ∧ w.heap.size ≤ g) : Dgo w0 b c r pb Z w t1 G0 G1 w2 m1 s1 := by
  cases ro with
  | none => exact h.later ⟨hg.os, hg.tape, hg.output, hg.size, fun k hk => hg.block k hk (fun e => (by cases e))⟩
  | some g => exact h.aside (z := g) ⟨hg.os, hg.tape, hg.output, hg.size, fun k hk hne => hg.block k hk (fun e => by cases e; exact hne rfl)⟩ (hl g rfl).1 (.inr (hl g rfl).2)
set_option maxHeartbeats 1000000 in
theorem lay1_any {w0 w : World} {b c r : Nat} {G : List (Nat × List Sw)} {m : M} {zy zo zw : Nat} (h : HasE w0 b c r G w m) (hT : TabAt w0) (k : Nat) (hk : k ≤ 8) (hy : YVar w zy b 0 (.slice none 0 0))
    (ho : w.cell? ⟨zo, 0, none⟩ = some (.bool true)) (hfo : w.frozen? ⟨zo, 0, none⟩ = false) (hw : w.cell? ⟨zw, 0, none⟩ = some (.int .i64 (k : Int))) (ly : LocM w0 b c r G w zy) (lo : LocM w0 b c r G w zo) (lw : LocM w0 b c r G w zw) (hne : zy ≠ zo ∧ zy ≠ zw ∧ zo ≠ zw)
    (e0 : (initP.go m).1.2 = 0) (hc0 : m.count ≤ 1000) (hc1 : (initP.go m).2.count ≤ 1000) (hok : ∀ i : Nat, i < k → ((layS (initP.go m).2 i).1.alloc (.word i)).2.2 = 0) :
    Calls Tryd.prog 44 (#[.pointer (some ⟨w.heap.size, 0, none⟩)] ++ #[.pointer (some ⟨zy, 0, none⟩), .pointer (some ⟨zo, 0, none⟩), .pointer (some ⟨zw, 0, none⟩)]) (w.alloc (portObj b)) fun e w' => ∃ u, e = .returned u ∧ ∃ v, LMid w0 b c r G zy zo w (initP.go m).2 (initP.go m).1.1 k v w' := by
  have hD := Dgo.start h (Z := [b, c, r, zy, zo]) ⟨by simp, by simp, by simp⟩
  have hi := init_E hD.sys hT (by omega)
  have HD := Lib.hid hD
  have hb0 := (Below.refl w.heap.size w).alloc (Nat.le_refl _) (portObj b)
  have HY := Lib.hid (hy.same (hb0.block zy ly.lt))
  have HO := Lib.hid (⟨(World.cell?_of_block (w := w) (a := ⟨zo, 0, none⟩) (hb0.block zo lo.lt)).trans ho, (World.frozen?_of_block (w := w) (a := ⟨zo, 0, none⟩) (hb0.block zo lo.lt)).trans hfo⟩ : _ ∧ _)
  have HL := Lib.hid (⟨ly, lo, lw⟩ : _ ∧ _ ∧ _)
  have HC := Lib.hid (⟨hc1, hok, hT, hw⟩ : _ ∧ _ ∧ _ ∧ _)
  obtain ⟨n1, n2, n3⟩ := hne
  have n4 : zw ∉ [b, c, r, zy, zo] := by
    have := lw.ne
    simp
    omega
  have sy := ly.lt
  have so := lo.lt
  have hk2 : (k : Int) ≤ 8 := by omega
  show Calls Tryd.prog 44 #[.pointer (some ⟨w.heap.size, 0, none⟩), .pointer (some ⟨zy, 0, none⟩), .pointer (some ⟨zo, 0, none⟩), .pointer (some ⟨zw, 0, none⟩)] (w.alloc (portObj b)) _
  clear h hT hD hb0 hy ho hfo hw ly lo lw hc1 hok
  generalize hwp : w.alloc (portObj b) = wp at *
  go_enter Tryd.func44, Tryd.ntmps44
  go_wp2_with fail
  refine hi.mono ?_
  rintro e w1 hE
  obtain ⟨t1, G1, v, rfl, hv, ha⟩ := hE.done (ptDo_quiet w b)
  replace hv : v = .tuple #[.int .i64 (initP.go m).1.1, .int .i64 (initP.go m).1.2] := hv
  subst hv
  have D1 := HD.out.aft ha
  have ly := HL.out.1.loc HD.out
  have lo := HL.out.2.1.loc HD.out
  have y1 := HY.out.same (ly.aft ha).2
  have o1 := (World.cell?_of_block (w := wp) (a := ⟨zo, 0, none⟩) (lo.aft ha).2).trans HO.out.1
  have f1 := (World.frozen?_of_block (w := wp) (a := ⟨zo, 0, none⟩) (lo.aft ha).2).trans HO.out.2
  have ly1 := (ly.aft ha).1
  have lo1 := (lo.aft ha).1
  rw [e0]
  generalize htop : (initP.go m).1.1 = top at *
  have HH : Hid (LMid w0 b c r G zy zo w (initP.go m).2 top 0 (.slice none 0 0) ((w1.setCell ⟨zy, 1, none⟩ (.int .i64 top)).setCell ⟨zo, 0, none⟩ (.bool true))) := by
    have b1 : But zy w1 (w1.setCell ⟨zy, 1, none⟩ (.int .i64 top)) := (But.refl _ _).set _ _
    have b2 : But zo (w1.setCell ⟨zy, 1, none⟩ (.int .i64 top)) ((w1.setCell ⟨zy, 1, none⟩ (.int .i64 top)).setCell ⟨zo, 0, none⟩ (.bool true)) := (But.refl _ _).set _ _
    refine ⟨⟨t1, G1, (D1.aside b1 ly1 (.inl (by simp))).aside b2 (lo1.same b1.size) (.inl (by simp)), fun g e => (by cases e)⟩, ⟨?_, ?_, ?_, fun i => ?_⟩, set_same (set_other o1 (.inl n1)), by rw [World.frozen?_setCell, World.frozen?_setCell]; exact f1, OwnI.nil _ _⟩
    · exact set_other (set_other y1.c0 (by omega)) (.inl n1.symm)
    · exact set_other (set_same y1.c1) (.inl n1.symm)
    · exact set_other (set_other y1.c2 (by omega)) (.inl n1.symm)
    · rw [World.frozen?_setCell, World.frozen?_setCell]; exact y1.fz i
  have yc := y1.c1
  have yf := y1.fz
  clear hi hE ha D1 ly lo y1 ly1 lo1
  go_wp2_with fail
  go_loopw [8] (fun iv wr => ∃ (i : Nat) (v : Value), iv = .int .i64 (i : Int) ∧ i ≤ k ∧ Hid (LMid w0 b c r G zy zo w (initP.go m).2 top i v wr)) (fun iv _ => k - (intOf iv).toNat)
  case atStart => exact ⟨0, _, rfl, Nat.zero_le _, HH⟩
  case round =>
    obtain ⟨i, v, rfl, hi, hR⟩ := hrel
    clear HH o1 f1 yc yf
    obtain ⟨t2, G2, D2, lv⟩ := hR.out.dgo
    have cw : wr.cell? ⟨zw, 0, none⟩ = some (.int .i64 (k : Int)) := (World.cell?_of_block (w := w) (a := ⟨zw, 0, none⟩) (D2.but.block zw HL.out.2.2.lt n4)).trans HC.out.2.2.2
    by_cases hlt : i < k
    · have i1 : (i : Int) < (k : Int) := by omega
      have hal := eallocword D2.sys HC.out.2.2.1 (by have := layS_count (initP.go m).2 i; have := HC.out.1; omega) i
      have HD2 := Lib.hid D2
      have HLV := Lib.hid lv
      clear D2 lv
      go_wp2_with fail
      refine hal.mono ?_
      rintro e w3 hE
      obtain ⟨t3, G3, v3, rfl, hv, ha⟩ := hE.done1 (ptDo_quiet w b)
      replace hv : v3 = .tuple #[.int .i64 ((layS (initP.go m).2 i).1.alloc (.word i)).2.1, .int .i64 ((layS (initP.go m).2 i).1.alloc (.word i)).2.2] := hv
      rw [HC.out.2.1 i hlt] at hv
      subst hv
      have D3 := HD2.out.aft ha
      have ly := (HL.out.1.loc HD2.out).aft ha
      have lo := (HL.out.2.1.loc HD2.out).aft ha
      have y3 := hR.out.y.same ly.2
      have o3 := (World.cell?_of_block (w := wr) (a := ⟨zo, 0, none⟩) lo.2).trans hR.out.o
      have f3 := (World.frozen?_of_block (w := wr) (a := ⟨zo, 0, none⟩) lo.2).trans hR.out.fo
      have lv3 : ∀ g, v.ownBlock = some g → Loc w0 b c r w.heap.size t3 G3 w3 g ∧ w3.heap[g]? = wr.heap[g]? := fun g e => (HLV.out g e).aft ha
      have own3 : OwnI w3 (w.heap.size + 1) v (layS (initP.go m).2 i).2 := by
        obtain ⟨q1, q2⟩ := hR.out.own
        refine ⟨q1, q2.imp id ?_⟩
        rintro ⟨g, cap, cur, e, q3, q4, q5⟩
        exact ⟨g, cap, cur, e, q3, by rw [(lv3 g (by rw [e]; rfl)).2]; exact q4, q5⟩
      obtain ⟨va, vc, ev, -⟩ := own3.see
      rw [layS_len] at ev
      subst ev
      generalize hn : ((layS (initP.go m).2 i).1.alloc (.word i)).2.1 = n at *
      have hb3 := (Below.refl w3.heap.size w3).alloc (Nat.le_refl _) (.cells #[.int .i64 n] 3)
      have HOW := Lib.hid (own3.below hb3)
      have HD3 := Lib.hid (D3.later hb3)
      have HLV3 := Lib.hid (fun g e => (lv3 g e).1.same hb3.size)
      have HY3 := Lib.hid (y3.same (hb3.block zy ly.1.lt))
      have HO3 := Lib.hid (⟨(World.cell?_of_block (w := w3) (a := ⟨zo, 0, none⟩) (hb3.block zo lo.1.lt)).trans o3, (World.frozen?_of_block (w := w3) (a := ⟨zo, 0, none⟩) (hb3.block zo lo.1.lt)).trans f3⟩ : _ ∧ _)
      have HLY := Lib.hid (⟨ly.1.same hb3.size, lo.1.same hb3.size⟩ : _ ∧ _)
      have HSZ : Hid (w.heap.size + 1 ≤ w3.heap.size) := by
        have h1 := HD2.out.but.size
        have h2 : w.heap.size < wr.heap.size := by
          obtain ⟨m0, s0, q, -⟩ := HD2.out.sys
          exact q.pt.lt
        have h3 := ha.but.size
        unfold Hid; omega
      have HST : Hid (∀ v' w6, OwnI w6 (w.heap.size + 1) v' ((layS (initP.go m).2 i).2 ++ [n]) → (w3.alloc (.cells #[.int .i64 n] 3)).grownBy w6 (Value.slice va i vc).ownBlock → (v'.ownBlock = (Value.slice va i vc).ownBlock ∨ v'.ownBlock = some (w3.alloc (.cells #[.int .i64 n] 3)).heap.size) →
          ∃ va' vc', v' = .slice va' (i + 1) vc' ∧ w6.cell? ⟨zy, 2, none⟩ = some (.slice va i vc) ∧ (∀ j, w6.frozen? ⟨zy, j, none⟩ = false) ∧ w6.cell? ⟨zo, 0, none⟩ = some (.bool true) ∧ w6.frozen? ⟨zo, 0, none⟩ = false ∧
            Hid (LMid w0 b c r G zy zo w (initP.go m).2 top (i + 1) (.slice va' (i + 1) vc') ((w6.setCell ⟨zy, 2, none⟩ (.slice va' (i + 1) vc')).setCell ⟨zo, 0, none⟩ (.bool true)))) := by
        intro v' w6 g1 g2 g3
        obtain ⟨va', vc', ev, -⟩ := g1.see
        rw [List.length_append, layS_len, List.length_singleton] at ev
        subst ev
        have hz := HSZ.out
        have hne : ∀ z, z < w.heap.size → (Value.slice va i vc).ownBlock ≠ some z := fun z hz e => by have := (HOW.out.lt z e).1; omega
        have h6 : ∀ z, z < w.heap.size → w6.heap[z]? = (w3.alloc (.cells #[.int .i64 n] 3)).heap[z]? := fun z hz => g2.block z (by simp; omega) (fun e => hne z hz e.symm)
        have y6 := HY3.out.same (h6 zy sy)
        have o6 := (World.cell?_of_block (w := w3.alloc (.cells #[.int .i64 n] 3)) (a := ⟨zo, 0, none⟩) (h6 zo so)).trans HO3.out.1
        have f6 := (World.frozen?_of_block (w := w3.alloc (.cells #[.int .i64 n] 3)) (a := ⟨zo, 0, none⟩) (h6 zo so)).trans HO3.out.2
        have D6 := HD3.out.grown g2 (fun g e => ⟨HLV3.out g e, by have := (HOW.out.lt g e).1; omega⟩)
        have hs6 := g2.size
        have b1 : But zy w6 (w6.setCell ⟨zy, 2, none⟩ (.slice va' (i + 1) vc')) := (But.refl _ _).set _ _
        have b2 : But zo (w6.setCell ⟨zy, 2, none⟩ (.slice va' (i + 1) vc')) ((w6.setCell ⟨zy, 2, none⟩ (.slice va' (i + 1) vc')).setCell ⟨zo, 0, none⟩ (.bool true)) := (But.refl _ _).set _ _
        refine ⟨va', vc', rfl, y6.c2, y6.fz, o6, f6, ⟨⟨t3, G3, (D6.aside b1 (HLY.out.1.same hs6) (.inl (by simp))).aside b2 ((HLY.out.2.same hs6).same b1.size) (.inl (by simp)), fun g e => ?_⟩, ⟨?_, ?_, ?_, fun j => ?_⟩, set_same (set_other o6 (.inl n1)), by rw [World.frozen?_setCell, World.frozen?_setCell]; exact f6, ?_⟩⟩
        · have hl := g1.lt g e
          have hs2 : w6.heap.size ≤ ((w6.setCell ⟨zy, 2, none⟩ (.slice va' (i + 1) vc')).setCell ⟨zo, 0, none⟩ (.bool true)).heap.size := Nat.le_trans b1.size b2.size
          rcases g3 with e2 | e2
          · exact (HLV3.out g (e2 ▸ e)).same (Nat.le_trans hs6 hs2)
          · rw [e2] at e
            cases e
            exact HD3.out.sys.newloc (Nat.le_refl _) (Nat.lt_of_lt_of_le hl.2 hs2)
        · exact set_other (set_other y6.c0 (by omega)) (.inl n1.symm)
        · exact set_other (set_other y6.c1 (by omega)) (.inl n1.symm)
        · exact set_other (set_same y6.c2) (.inl n1.symm)
        · rw [World.frozen?_setCell, World.frozen?_setCell]; exact y6.fz j
        · rw [show (layS (initP.go m).2 (i + 1)).2 = (layS (initP.go m).2 i).2 ++ [n] by rw [← hn]; rfl]
          exact g1.of fun z h1 h2 => by
            rw [b2.block z (Nat.lt_of_lt_of_le h2 b1.size) (by omega), b1.block z h2 (by omega)]
      have yc := y3.c2
      clear hal hE ha D3 ly lo y3 lv3 own3 hb3 HD3 HLV3 HY3 HO3 HLY hn
      go_wp2_with (at_builtin; refine append1 rfl (.tmp 32) (.tmp 34) rfl (w.heap.size + 1) (.slice va i vc) (layS (initP.go m).2 i).2 n rfl HOW.out w3.heap.size 1 rfl (by simp [go_sem]) (by rw [layS_len]; omega) (by have := HSZ.out; simp; omega) ?_; intro v' w6 g1 g2 g3; obtain ⟨va', vc', rfl, d1, d2, d3, d4, HH⟩ := HST.out v' w6 g1 g2 g3; clear g1 g2 g3)
      clear HST HOW
      go_roundw
      case rel => exact ⟨i + 1, _, by simp, by omega, HH⟩
      case measure => simp [intOf]; omega
    · obtain rfl : i = k := by omega
      have HE := Lib.hid hR.out
      clear hR D2 lv
      go_wp2
      go_ret
      exact ⟨_, rfl, v, by rw [htop]; exact HE.out⟩
end Go.Proofs.YteiikkkcjpfapaaDoor
