/- What lay comes to: cells of words, and of a block that names them; all of them, or none. Conditions: at most 500000 asks; at most 100000 words; the library's table stands. -/
import Derived.Test.YtbcpdkmbbgcfbaaDoorNb
namespace Go.Proofs.YtbcpdkmbbgcfbaaDoor
open Go.RowKit Go.Op
set_option maxRecDepth 100000

def layW (mk : List Int → Dat) : List Int → List Int → Pr (Int × Int)
  | done, [] => .ask (.alloc (.blk (mk done) .nil)) fun a => if a.err = 0 then .ret (a.n, 0) else (freeP done).bind fun _ => .ret (a.n, a.err)
  | done, w :: ws => .ask (.alloc (.word w)) fun a => if a.err = 0 then layW mk (done ++ [a.n]) ws else (freeP done).bind fun _ => .ret (0, a.err)
theorem layW_nil (mk : List Int → Dat) (done : List Int) : layW mk done [] = .ask (.alloc (.blk (mk done) .nil)) fun a => if a.err = 0 then .ret (a.n, 0) else (freeP done).bind fun _ => .ret (a.n, a.err) := rfl
theorem layW_cons (mk : List Int → Dat) (done : List Int) (w : Int) (ws : List Int) : layW mk done (w :: ws) = .ask (.alloc (.word w)) fun a => if a.err = 0 then layW mk (done ++ [a.n]) ws else (freeP done).bind fun _ => .ret (0, a.err) := rfl
/-- What the closure that makes the block of its cells comes to. -/
def Mk (w0 : World) (b c r pb po : Nat) (t : Value) (G : List (Nat × List Value)) (w : World) (z : Nat) (brow : List Value) (mk : List Int → Dat) (fk : FuncId) (N : Nat) : Prop :=
  ∀ (t1 : Value) (G1 : List (Nat × List Value)) (w1 : World) (m1 : M) (s1 : Pt) (a : Option Addr) (cap : Nat) (done : List Int), Aft w0 b c r pb po t G w t1 G1 w1 m1 s1 → ORow w0 b c r pb t1 G1 w1 (.slice a done.length cap) done → (∀ g o, a = some ⟨g, o, none⟩ → w.heap.size ≤ g) → done.length = N → done.length ≤ 100000 →
    SVar w1 z brow → z < w.heap.size → (∀ x, x ∈ G → x ∈ G1) →
    Calls Tryd.prog fk (#[.slice a done.length cap] ++ #[.pointer (some ⟨z, 0, none⟩)]) w1 fun e w' => ∃ pl G2, e = .returned (.iface (mk done).ty ((mk done).v pl)) ∧ (mk done).In G2 pl ∧ Aft w0 b c r pb po t G w t1 G2 w' m1 s1 ∧ IRow w0 b c r pb t1 G2 w' a done
section
variable {w0 : World} {b c r pb po : Nat} {t t1 : Value} {G G1 : List (Nat × List Value)} {w w1 w2 : World} {m m1 : M} {s s1 : Pt}
/-- Within lay's loop. -/
structure LayX (w0 : World) (b c r pb : Nat) (w : World) (a : Option Addr) (l : List Int) (z : Nat) (brow : List Value) (v : Value) (done : List Int) (t1 : Value) (G1 : List (Nat × List Value)) (w1 : World) : Prop where
  row : IRow w0 b c r pb t1 G1 w1 a l
  own : ORow w0 b c r pb t1 G1 w1 v done
  new : ∀ y, v.ownBlock = some y → w.heap.size ≤ y
  loc : Loc w0 b c r pb t1 G1 w1 z
  var : SVar w1 z brow
theorem LayX.aft {a : Option Addr} {l : List Int} {z : Nat} {brow : List Value} {v : Value} {done : List Int} (h : LayX w0 b c r pb w a l z brow v done t G w1) (ha : Aft w0 b c r pb po t G w1 t1 G1 w2 m1 s1) : LayX w0 b c r pb w a l z brow v done t1 G1 w2 :=
  ⟨h.row.aft ha, h.own.aft ha, h.new, (h.loc.aft ha).1, h.var.same ha.but.size (h.loc.aft ha).2⟩
theorem LayX.later {a : Option Addr} {l : List Int} {z : Nat} {brow : List Value} {v : Value} {done : List Int} (h : LayX w0 b c r pb w a l z brow v done t G w1) (hb : Below w1.heap.size w1 w2) : LayX w0 b c r pb w a l z brow v done t G w2 :=
  ⟨h.row.later hb, h.own.later hb, h.new, h.loc.same hb.size, h.var.later hb⟩
set_option maxHeartbeats 2000000 in
theorem lay_E (h : SysE w0 b c r pb po t G w m s) (hT : TabAt w0) (hc : m.count ≤ 500000) (a : Option Addr) (cap : Nat) (l : List Int) (hl : l.length ≤ 100000) (hr : IRow w0 b c r pb t G w a l) (z : Nat) (brow : List Value) (hz : Loc w0 b c r pb t G w z) (hv : SVar w z brow)
    (mk : List Int → Dat) (fk : FuncId) (he : ∀ zs w, (callFunc fk zs).run Tryd.prog w = .ok (.enter fk zs) w) (hM : Mk w0 b c r pb po t G w z brow mk fk l.length) :
    Calls Tryd.prog 57 #[.pointer (some ⟨pb, po, none⟩), .slice a l.length cap, .func (.func fk) #[] #[.pointer (some ⟨z, 0, none⟩)]] w fun e w' => Ev w0 b c r pb po t G w RInt2 ((layW mk [] l).run s m) e w' := by
  have HH : Hid (LHead w0 b c r pb po t G w m ((layW mk [] l).run s m) (layW mk [] (l.drop 0)) ((0 : Nat) : Int) (LayX w0 b c r pb w a l z brow (.slice none 0 0) []) w) := ⟨t, G, m, s, Aft.refl h, rfl, by omega, hr, ORow.nil w, fun y e => (by cases e), hz, hv⟩
  have hl2 : (l.length : Int) ≤ 100000 := by omega
  have HZ := Lib.hid hz.lt
  have HG : Hid (l ≠ [] → ∀ g o, a = some ⟨g, o, none⟩ → g < w.heap.size) := fun h0 g o e => by
    rcases hr with e2 | ⟨g', o', e2, h3⟩
    · exact absurd e2 h0
    · rw [e] at e2
      cases e2
      rcases h3 with ⟨h4, -⟩ | ⟨x, h4, -⟩
      · exact h4.lt
      · obtain ⟨m0, s0, h1, -⟩ := h
        exact (h1.rows g x h4).1.lt
  have HN : Hid (∃ n, n = l.length) := ⟨_, rfl⟩
  obtain ⟨n, hn⟩ := HN.out
  have HE := Lib.hid hn
  rw [← hn] at hl2 hl hM ⊢
  clear h hr HN hn hz hv
  go_enter Tryd.func57, Tryd.ntmps57
  go_wp2_with fail
  go_loopw [8, 17] (fun cv iv wr => ∃ (i : Nat) (done : List Int), iv = .int .i64 (i : Int) ∧ i ≤ n ∧ done.length = i ∧ Hid (LHead w0 b c r pb po t G w m ((layW mk [] l).run s m) (layW mk done (l.drop i)) (i : Int) (LayX w0 b c r pb w a l z brow cv done) wr)) (fun _ iv _ => n - (intOf iv).toNat)
  case atStart => exact ⟨0, [], rfl, Nat.zero_le _, rfl, HH⟩
  case round =>
    obtain ⟨i, done, rfl, hi, hdl, hR⟩ := hrel
    clear HH
    obtain ⟨t1, G1, m1, s1, ha, hrun, hct, hX⟩ := hR.out
    have HA := Lib.hid ha
    have HRun := Lib.hid hrun
    have HC := Lib.hid hct
    have HX := Lib.hid hX
    have HD := Lib.hid hdl
    have hc1 : m1.count ≤ 600000 := by omega
    obtain ⟨va, vcap, hve, hvc, hvi, hv0⟩ := hX.own.val
    by_cases hlt : i < n
    · have i1 : (i : Int) < (n : Int) := by omega
      obtain ⟨x, hx⟩ : ∃ x, l[i]? = some x := ⟨_, List.getElem?_eq_getElem (by rw [← HE.out]; exact hlt)⟩
      have hdrop : l.drop i = x :: l.drop (i + 1) := by
        rw [List.drop_eq_getElem_cons (by rw [← HE.out]; exact hlt)]
        rw [List.getElem?_eq_getElem (by rw [← HE.out]; exact hlt)] at hx
        cases hx; rfl
      obtain ⟨g, o, eg, hcell⟩ := hX.row.cell ha.sys hx
      have hf := eallocword ha.sys hT (by omega) x
      have HDr := Lib.hid hdrop
      have HL0 : Hid (l ≠ []) := fun e => by rw [e] at hx; simp at hx
      clear hR ha hrun hct hdrop hx hX hvi hv0 hdl
      subst eg
      go_wp2_with fail
      refine hf.mono ?_
      rintro e w2 hE
      have hac := ask_count s1 (.alloc (.word x)) m1
      rcases hE.cases with ⟨t2, G2, s2, m2, ho, rfl, ha⟩ | ⟨t2, G2, s2, m2, y, v, ho, rfl, rfl, ha⟩
      · have HY : Hid (Ev w0 b c r pb po t G w RInt2 ((layW mk [] l).run s m) (Halt pb po) w2) := Ev.die (by rw [HRun.out, HDr.out, layW_cons, Pr.run_ask, ho]) (HA.out.trans ha)
        clear hf hE ho ha hac
        unfold Halt
        go_wp2
        exact ⟨rfl, HY.out⟩
      rw [ho] at hac
      have ha2 := HA.out.trans ha
      have hX2 := HX.out.aft ha
      by_cases herr : y.err = 0
      · have hrun2 : (layW mk [] l).run s m = (layW mk (done ++ [y.n]) (l.drop (i + 1))).run s2 m2 := by
          rw [HRun.out, HDr.out, layW_cons, Pr.run_ask, ho]
          simp only
          rw [if_pos herr]
        have hb3 := (Below.refl w2.heap.size w2).alloc (Nat.le_refl _) (.cells #[.int .i64 y.n] 3)
        have hX3 := hX2.later hb3
        have ha3 := ha2.later hb3
        have hAp : Hid (∀ ty, ∃ v' w3, (Builtin.append_ #[25, 25] ty #[u8, .slice (some ⟨w2.heap.size, 0, none⟩) 1 1]).run Tryd.prog (w2.alloc (.cells #[.int .i64 y.n] 3)) = .ok v' w3 ∧ Hid (LHead w0 b c r pb po t G w m ((layW mk [] l).run s m) (layW mk (done ++ [y.n]) (l.drop (i + 1))) ((i + 1 : Nat) : Int) (LayX w0 b c r pb w (some ⟨g, o, none⟩) l z brow v' (done ++ [y.n])) w3)) := by
          intro ty
          obtain ⟨v', w3, h1, h2, h3, h4, h5, h6⟩ := hX3.own.app ha3 hX3.new ⟨w2.heap.size, 0, none⟩ 1 [y.n] (fun j u hj => by
            rw [add_off, World.cell?_alloc_new, Nat.zero_add]
            simpa [ints] using hj) (by have := HD.out; simp only [List.length_cons, List.length_nil]; omega) ty
          have hz2 : w3.heap[z]? = (w2.alloc (.cells #[.int .i64 y.n] 3)).heap[z]? := h6 z hX3.loc.lt (fun e => by have := hX3.new z e; have := HZ.out; omega)
          refine ⟨v', w3, h1, t2, G2, m2, s2, h2, hrun2, ?_, ?_, h3, h4, hX3.loc.same h5, hX3.var.same h5 hz2⟩
          · have h7 := hac.2.1
            simp only at h7
            have := HC.out
            push_cast
            omega
          · refine hX3.row.imp id fun ⟨g', o', e, h8⟩ => ⟨g', o', e, h8.imp (fun ⟨h9, h10⟩ => ⟨h9.same h5, ?_⟩) id⟩
            by_cases hne : u8.ownBlock = some g'
            · exact absurd rfl (fun _ : g' = g' => by
                have k1 := hX3.new g' hne
                have k2 := HG.out HL0.out g' o' e
                omega)
            · exact rangeAt_same h10 (h6 g' h9.lt hne)
        rw [herr]
        clear hf hE ho ha hac ha2 hX2 herr hcell hb3 hX3 ha3 hrun2 hve hvc
        go_wp2_with (at_builtin; refine append_run2 rfl (.tmp 33) (.tmp 35) 25 rfl rfl rfl hAp.out ?_; intro v' w3 HH; clear hAp)
        go_roundw
        case rel => exact ⟨i + 1, done ++ [y.n], by simp, by omega, by have := HD.out; simp [this], HH⟩
        case measure => simp [intOf]; omega
      · have hvi2 := hX2.own.val
        obtain ⟨va2, vcap2, hve2, hvc2, hvi2, -⟩ := hvi2
        have hfr := free_E ha.sys (by simp only at hac; omega) va2 vcap2 done (by have := HD.out; omega) hvi2
        have hrun2 : (layW mk [] l).run s m = ((freeP done).bind fun _ => .ret (0, y.err)).run s2 m2 := by
          rw [HRun.out, HDr.out, layW_cons, Pr.run_ask, ho]
          simp only
          rw [if_neg herr]
        have HR2 := Lib.hid hrun2
        have HA2 := Lib.hid ha2
        rw [hve2]
        clear hf hE ho ha hac ha2 hX2 hcell hrun2 hve hvc hvi2 hvc2
        go_wp2_with fail
        refine hfr.mono ?_
        rintro e w3 hE
        rcases hE.cases with ⟨t3, G3, s3, m3, ho, rfl, ha⟩ | ⟨t3, G3, s3, m3, z3, v, ho, rfl, rfl, ha⟩
        · have HY : Hid (Ev w0 b c r pb po t G w RInt2 ((layW mk [] l).run s m) (Halt pb po) w3) := Ev.die (by rw [HR2.out]; exact Pr.bind_none ho) (HA2.out.trans ha)
          clear hfr hE ho ha
          unfold Halt
          go_wp2
          exact ⟨rfl, HY.out⟩
        · have HY : Hid (Ev w0 b c r pb po t G w RInt2 ((layW mk [] l).run s m) (.returned (.tuple #[.int .i64 0, .int .i64 y.err])) w3) := Ev.ret (a := (0, y.err)) (by rw [HR2.out, Pr.bind_some ho]; simp only [Pr.run]) rfl (HA2.out.trans ha)
          clear hfr hE ho ha
          go_wp2
          go_ret2
          exact HY.out
    · obtain rfl : i = n := by omega
      have hrun2 : (layW mk [] l).run s m = (layW mk done []).run s1 m1 := by
        rw [HRun.out, show l.drop i = [] by rw [HE.out]; exact List.drop_length]
      subst hve
      have hmk := hM t1 G1 wr m1 s1 va vcap done ha hX.own (fun g o e => hX.new g (by rw [e]; rfl)) hdl (by omega) hX.var HZ.out ha.gro.1
      have HR2 := Lib.hid hrun2
      clear hR ha hrun hct hX hrun2 hvi hdl
      go_wp2_with fail
      refine hmk.mono ?_
      rintro e w2 ⟨pl, G2, rfl, hin, ha, hrow⟩
      have hf := eallocblk ha.sys hT (by omega) (mk done) pl hin
      have HA := Lib.hid ha
      have HRow := Lib.hid hrow
      clear hmk ha hrow hin
      go_wp2_with fail
      refine hf.mono ?_
      rintro e w3 hE
      have hac := ask_count s1 (.alloc (.blk (mk done) .nil)) m1
      rcases hE.cases with ⟨t3, G3, s3, m3, ho, rfl, ha⟩ | ⟨t3, G3, s3, m3, y, v, ho, rfl, rfl, ha⟩
      · have HY : Hid (Ev w0 b c r pb po t G w RInt2 ((layW mk [] l).run s m) (Halt pb po) w3) := Ev.die (by rw [HR2.out, layW_nil, Pr.run_ask, ho]) (HA.out.trans ha)
        clear hf hE ho ha hac
        unfold Halt
        go_wp2
        exact ⟨rfl, HY.out⟩
      rw [ho] at hac
      have ha2 := HA.out.trans ha
      by_cases herr : y.err = 0
      · have HY : Hid (Ev w0 b c r pb po t G w RInt2 ((layW mk [] l).run s m) (.returned (.tuple #[.int .i64 y.n, .int .i64 0])) w3) := Ev.ret (a := (y.n, 0)) (by rw [HR2.out, layW_nil, Pr.run_ask, ho]; simp only; rw [if_pos herr]; simp only [Pr.run]) rfl ha2
        rw [herr]
        clear hf hE ho ha hac ha2 herr
        go_wp2
        go_ret2
        exact HY.out
      · have hfr := free_E ha.sys (by simp only at hac; omega) va vcap done (by have := HD.out; omega) (HRow.out.aft ha)
        have hrun3 : (layW mk [] l).run s m = ((freeP done).bind fun _ => .ret (y.n, y.err)).run s3 m3 := by
          rw [HR2.out, layW_nil, Pr.run_ask, ho]
          simp only
          rw [if_neg herr]
        have HR3 := Lib.hid hrun3
        have HA2 := Lib.hid ha2
        clear hf hE ho ha hac ha2 hrun3
        go_wp2_with fail
        refine hfr.mono ?_
        rintro e w4 hE
        rcases hE.cases with ⟨t4, G4, s4, m4, ho, rfl, ha⟩ | ⟨t4, G4, s4, m4, z4, v, ho, rfl, rfl, ha⟩
        · have HY : Hid (Ev w0 b c r pb po t G w RInt2 ((layW mk [] l).run s m) (Halt pb po) w4) := Ev.die (by rw [HR3.out]; exact Pr.bind_none ho) (HA2.out.trans ha)
          clear hfr hE ho ha
          unfold Halt
          go_wp2
          exact ⟨rfl, HY.out⟩
        · have HY : Hid (Ev w0 b c r pb po t G w RInt2 ((layW mk [] l).run s m) (.returned (.tuple #[.int .i64 y.n, .int .i64 y.err])) w4) := Ev.ret (a := (y.n, y.err)) (by rw [HR3.out, Pr.bind_some ho]; simp only [Pr.run]) rfl (HA2.out.trans ha)
          clear hfr hE ho ha
          go_wp2
          go_ret2
          exact HY.out
end
end Go.Proofs.YtbcpdkmbbgcfbaaDoor
