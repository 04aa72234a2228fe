/- What the law's version comes to. Conditions: at most 700000 asks. -/
import Derived.Test.YteiikkkcjpfapaaDoorLk
namespace Go.Proofs.YteiikkkcjpfapaaDoor
open Go.RowKit Go.Op
set_option maxRecDepth 100000

theorem enter_51 (xs : Array Value) (w : World) : (callFunc 51 xs).run Tryd.prog w = .ok (.enter 51 xs) w := by kernel_rfl
theorem mkb3 (x : Value) (w : World) : (Instr.makeInterface 3 x).run Tryd.prog w = .ok (.iface 3 x) w := run_makeInterface w 3 x (by kernel_rfl)
theorem vers1_any {w0 w : World} {b c r : Nat} {G : List (Nat × List Sw)} {m : M} {zy ze : Nat} {top : Int} {v : Value} (h : HasE w0 b c r G w m) (hc : m.count ≤ 700000) (hy : YVar w zy b top v) (ly : LocM w0 b c r G w zy)
    (he : w.cell? ⟨ze, 0, none⟩ = some (.int .i64 0)) (hf : w.frozen? ⟨ze, 0, none⟩ = false) (le : LocM w0 b c r G w ze) :
    Calls Tryd.prog 51 (#[.pointer (some ⟨w.heap.size, 0, none⟩)] ++ #[.pointer (some ⟨zy, 0, none⟩), .pointer (some ⟨ze, 0, none⟩)]) (w.alloc (portObj b)) fun e w' => ∃ u, e = .returned u ∧ u = .iface 3 (.int .i64 ((versionP top).go m).1.1) ∧ ∃ t1 G1, Dgo w0 b c r w.heap.size [b, c, r, ze] w t1 G G1 w' ((versionP top).go m).2 (ptDo w b) ∧ w'.cell? ⟨ze, 0, none⟩ = some (.int .i64 ((versionP top).go m).1.2) := by
  have hC := Clo.start h (Z := [b, c, r, ze]) ⟨by simp, by simp, by simp⟩ hy ly
  have hb0 := (Below.refl w.heap.size w).alloc (Nat.le_refl _) (portObj b)
  have h1 := version_E hC.sys (by omega) top
  have HC := Lib.hid hC
  have c1 := hC.y.c1
  have mk := mkb3
  have HL := Lib.hid (⟨le, (World.cell?_of_block (w := w) (a := ⟨ze, 0, none⟩) (hb0.block ze le.lt)).trans he, (World.frozen?_of_block (w := w) (a := ⟨ze, 0, none⟩) (hb0.block ze le.lt)).trans hf⟩ : _ ∧ _ ∧ _)
  show Calls Tryd.prog 51 #[.pointer (some ⟨w.heap.size, 0, none⟩), .pointer (some ⟨zy, 0, none⟩), .pointer (some ⟨ze, 0, none⟩)] (w.alloc (portObj b)) _
  clear h hy hC he hf le ly hb0
  generalize hwp : w.alloc (portObj b) = wp at *
  go_enter Tryd.func51, Tryd.ntmps51
  go_wp2_with fail
  refine h1.mono ?_
  rintro e w1 hE
  obtain ⟨t1, G1, u, rfl, hv, hC1, ha⟩ := HC.out.step hE
  replace hv : u = .tuple #[.int .i64 ((versionP top).go m).1.1, .int .i64 ((versionP top).go m).1.2] := hv
  have hl := (HL.out.1.loc HC.out.dgo).aft ha
  have c0 := (World.cell?_of_block (w := wp) (a := ⟨ze, 0, none⟩) hl.2).trans HL.out.2.1
  have f0 := (World.frozen?_of_block (w := wp) (a := ⟨ze, 0, none⟩) hl.2).trans HL.out.2.2
  generalize e1 : ((versionP top).go m).1.1 = a1 at *
  generalize e2 : ((versionP top).go m).1.2 = a2 at *
  generalize em : ((versionP top).go m).2 = m2 at *
  have EE := Lib.hid (⟨e1, e2, em⟩ : _ ∧ _ ∧ _)
  clear e1 e2 em
  subst hv
  have HE : Hid (∃ t1 G1, Dgo w0 b c r w.heap.size [b, c, r, ze] w t1 G G1 (w1.setCell ⟨ze, 0, none⟩ (.int .i64 a2)) m2 (ptDo w b) ∧ (w1.setCell ⟨ze, 0, none⟩ (.int .i64 a2)).cell? ⟨ze, 0, none⟩ = some (.int .i64 a2)) :=
    ⟨t1, G1, hC1.dgo.aside ((But.refl _ _).set _ _) hl.1 (.inl (by simp)), set_same c0⟩
  clear h1 hE HC c1 hC1 ha hl
  go_wp2
  go_ret
  exact ⟨_, rfl, by rw [EE.out.1]; rfl, by rw [EE.out.2.1, EE.out.2.2]; exact HE.out⟩
/-- Memory behind a call of a law's own: nothing of the law's is changed. -/
structure Nxt (w0 : World) (b c r : Nat) (G : List (Nat × List Sw)) (w : World) (w' : World) (m' : M) (G' : List (Nat × List Sw)) : Prop where
  has : HasE w0 b c r G' w' m'
  but : ButN [b, c, r] w.heap.size w w'
  gro : Grow w G G'
theorem vers_any {w0 w : World} {b c r : Nat} {G : List (Nat × List Sw)} {m : M} (h : HasE w0 b c r G w m) (hc : m.count ≤ 700000) (top : Int) (a : Option Addr) (n cap : Nat) :
    Calls Tryd.prog 16 #[.agg #[.pointer (some ⟨b, 0, none⟩), .int .i64 top, .slice a n cap]] w fun e w' => e = .returned (.tuple #[.int .i64 ((versionP top).go m).1.1, .int .i64 ((versionP top).go m).1.2]) ∧ ∃ G', Nxt w0 b c r G w w' ((versionP top).go m).2 G' := by
  obtain ⟨wa, hwa⟩ : ∃ W, W = (w.alloc (yobj b top a n cap)).alloc (.cells #[.int .i64 0] 44) := ⟨_, rfl⟩
  have hsz : (w.alloc (yobj b top a n cap)).heap.size = w.heap.size + 1 := by simp
  have b1 := (Below.refl w.heap.size w).alloc (Nat.le_refl _) (yobj b top a n cap)
  have b2 := (Below.refl (w.alloc (yobj b top a n cap)).heap.size (w.alloc (yobj b top a n cap))).alloc (Nat.le_refl _) (.cells #[.int .i64 0] 44)
  have ba : Below w.heap.size w wa := by rw [hwa]; exact b1.alloc (by simp) _
  have y1 : YVar wa w.heap.size b top (.slice a n cap) := by rw [hwa]; exact (ynew w b top a n cap).same (b2.block _ (by omega))
  have ly : LocM w0 b c r G wa w.heap.size := by rw [hwa]; exact (h.fresh _).later b2.size (Grow.refl _ _)
  have le : LocM w0 b c r G wa (w.heap.size + 1) := by
    have := (h.later b1).fresh (.cells #[.int .i64 0] 44)
    rw [hsz] at this
    rw [hwa]; exact this
  have ce : wa.cell? ⟨w.heap.size + 1, 0, none⟩ = some (.int .i64 0) := by rw [hwa, ← hsz]; simp [go_sem]
  have fe : wa.frozen? ⟨w.heap.size + 1, 0, none⟩ = false := by rw [hwa, ← hsz]; exact World.frozen?_alloc_at _ 44 _ 0 rfl
  have hdo := do_any wa b 51 #[.pointer (some ⟨w.heap.size, 0, none⟩), .pointer (some ⟨w.heap.size + 1, 0, none⟩)] _ enter_51 (vers1_any (h.later ba) hc y1 ly ce fe le)
  have hzb : w.heap.size + 2 = wa.heap.size := by rw [hwa]; simp
  have HB : Hid (∀ w2 t1 G1, Dgo w0 b c r wa.heap.size [b, c, r, w.heap.size + 1] wa t1 G G1 w2 ((versionP top).go m).2 (ptDo wa b) → ∀ k, ∃ G', Nxt w0 b c r G w (w2.drewN k) ((versionP top).go m).2 G') := fun w2 t1 G1 hd k => by
    have hl := below_drewN (B := w2.heap.size) w2 k
    refine ⟨G1, (hd.later hl).sys.mem, ⟨?_, ?_, ?_, ?_, fun z hz hn => ?_⟩, hd.gro.from ba.size⟩
    · exact hl.os.trans (hd.but.os.trans ba.os)
    · exact hl.tape.trans (hd.but.tape.trans ba.tape)
    · exact hl.output.trans (hd.but.output.trans ba.output)
    · exact Nat.le_trans ba.size (Nat.le_trans hd.but.size hl.size)
    · rw [hl.block z (by have := hd.but.size; omega), hd.but.block z (by omega) (by simp at hn ⊢; omega), ba.block z hz]
  have a3 := as3_yes
  have hm := hmf1
  have HW := Lib.hid hwa.symm
  have c0 := y1.c0
  unfold yobj at HW
  clear h hwa hsz b1 b2 ba y1 ly le ce fe hzb
  generalize e1 : ((versionP top).go m).1.1 = a1 at *
  generalize e2 : ((versionP top).go m).1.2 = a2 at *
  generalize em : ((versionP top).go m).2 = m2 at *
  have EE := Lib.hid (⟨e1, e2, em⟩ : _ ∧ _ ∧ _)
  clear e1 e2 em
  go_enter Tryd.func16, Tryd.ntmps16
  go_wp2_with (first | rw [HW.out] | fail)
  refine hdo.mono ?_
  rintro e w2 ⟨u, rfl, rfl, t1, G1, hd, ce⟩
  have HE := Lib.hid (HB.out w2 t1 G1 hd)
  clear hdo hd HB
  go_wp2_with fail
  go_quiet (fail)
  go_wp2
  go_ret2
  exact ⟨rfl, HE.out _⟩
end Go.Proofs.YteiikkkcjpfapaaDoor
/- What the law's Words and same come to. Conditions: each of at most 8 cells holds a word. -/
namespace Go.Proofs.YteiikkkcjpfapaaDoor
open Go.RowKit Go.Op
set_option maxRecDepth 100000

def M.more (m : M) (k : Nat) : M := { m with count := m.count + k }
theorem more_zero (m : M) : m.more 0 = m := by simp [M.more]
theorem more_ask (m : M) (k : Nat) : (m.more k).ask = m.more (k + 1) := by
  simp only [M.more, M.ask]
  congr 1
  push_cast; omega
theorem more_look (m : M) (k : Nat) (h : Int) : (m.more k).look h = m.look h := look_cells rfl h
theorem load_25 {w : World} {p : Addr} {a : Option Addr} {n cp : Nat} (h : w.cell? p = some (.slice a n cp)) : (Instr.loadAt 25 (.pointer (some p))).run Tryd.prog w = .ok (.slice a n cp) w := by go_simp
theorem at_25 (g n cp k : Nat) (h : k < n) (w : World) : (Instr.indexAt 25 (.slice (some ⟨g, 0, none⟩) n cp) (.int .i64 (k : Int))).run Tryd.prog w = .ok (.pointer (some ⟨g, k, none⟩)) w := by
  have hk : (k : Int) < (n : Int) := by omega
  go_simp
theorem enter_50 (xs : Array Value) (w : World) : (callFunc 50 xs).run Tryd.prog w = .ok (.enter 50 xs) w := by kernel_rfl
section
variable {w0 : World} {b c r : Nat} {G : List (Nat × List Sw)} {w w1 : World} {m : M}
theorem mword_E (h : HasE w0 b c r G w m) (hc : m.count ≤ 900000) (k : Int) : Calls Tryd.prog 50 #[.pointer (some ⟨b, 0, none⟩), .int .i64 k] w fun e w' => e = .returned (.tuple #[.int .i64 (m.word k).2.1, .int .i64 (m.word k).2.2]) ∧ HasE w0 b c r G w' (m.word k).1 ∧ Kept b c r w w' := by
  obtain ⟨m0, h1, h2, h3, rfl, h5⟩ := h
  have hc : m0.count ≤ 900000 := hc
  refine (h1.word (by omega) k).mono ?_
  rintro e w1 ⟨rfl, ha, hk⟩
  rw [M.e_word]
  have hcount : (m0.word k).1.count = m0.count + 1 := on_count (.word k) m0
  refine ⟨rfl, ⟨(m0.word k).1, ?_, (h2.on (q := .word k) trivial).1, by omega, rfl, fun g l hg => ?_⟩, hk⟩
  · rw [hcount]; exact ha
  · obtain ⟨q1, q2, q3, q4, q5⟩ := h5 g l hg
    exact ⟨q1.same hk.size (hk.block g q1.lt q3 q4 q5), q2, q3, q4, q5⟩
theorem HasE.grown (h : HasE w0 b c r G w m) {ro : Option Nat} (hg : w.grownBy w1 ro) (hl : ∀ g, ro = some g → LocM w0 b c r G w g) : HasE w0 b c r G w1 m := by
  cases ro with
  | none => exact h.later ⟨hg.os, hg.tape, hg.output, hg.size, fun k hk => hg.block k hk (fun e => (by cases e))⟩
  | some g =>
    have l := hl g rfl
    exact h.aside (z := g) ⟨hg.os, hg.tape, hg.output, hg.size, fun k hk hne => hg.block k hk (fun e => by cases e; exact hne rfl)⟩ ⟨l.ne.1, l.ne.2.1, l.ne.2.2, l.ge, l.ng⟩
theorem HasE.newloc (h : HasE w0 b c r G w m) {z : Nat} (hz : w.heap.size ≤ z) (hw : z < w1.heap.size) : LocM w0 b c r G w1 z := by
  obtain ⟨m0, h1, h2, h3, h4, h5⟩ := h
  have o := h1.at_.own
  have q3 := o.lb
  have q4 := o.lc
  have q6 := o.lr
  have q7 := h1.below.size
  exact ⟨hw, by omega, ⟨by omega, by omega, by omega⟩, fun x hx e => by have := (h5 x.1 x.2 hx).1.lt; omega⟩
theorem ButN.kept {B : Nat} (h : ButN [b, c, r] B w w1) {w2 : World} (hk : Kept b c r w1 w2) (hB : B ≤ w1.heap.size) : ButN [b, c, r] B w w2 :=
  h.trans ⟨hk.os, hk.tape, hk.output, hk.size, fun k hk2 hn => hk.block k (by omega) (by simp at hn; omega) (by simp at hn; omega) (by simp at hn; omega)⟩
end
def WPost (w0 : World) (b c r : Nat) (G : List (Nat × List Sw)) (wr : World) (m : M) (n : Int) (u : Value) (W : World) : Prop := u = .tuple #[.int .i64 n, .int .i64 0] ∧ HasE w0 b c r G W m ∧ ∃ W0, Below wr.heap.size wr W0 ∧ Kept b c r W0 W
theorem wpost_nth {w0 : World} {b c r : Nat} {G : List (Nat × List Sw)} {wr : World} {m : M} {n : Int} {u : Value} {W : World} (h : WPost w0 b c r G wr m n u W) {k : Nat} (hk : k < 2) : (Instr.extract u k).run Tryd.prog W = .ok (nth k u) W := by
  rw [h.1]
  match k, hk with
  | 0, _ => rfl
  | 1, _ => rfl
/-- In the midst of Words. -/
structure WMid (w0 : World) (b c r : Nat) (G : List (Nat × List Sw)) (w : World) (m : M) (top : Int) (cv : Value) (ns : List Int) (i : Nat) (v : Value) (wr : World) : Prop where
  has : HasE w0 b c r G wr (m.more i)
  but : ButN [b, c, r] w.heap.size w wr
  y : YVar wr w.heap.size b top cv
  own : OwnI wr (w.heap.size + 1) v (ns.take i)
  lv : ∀ g, v.ownBlock = some g → LocM w0 b c r G wr g
  sz : w.heap.size + 1 ≤ wr.heap.size
set_option maxHeartbeats 1000000 in
theorem words_any {w0 w : World} {b c r : Nat} {G : List (Nat × List Sw)} {m : M} (h : HasE w0 b c r G w m) (hc : m.count ≤ 700000) (top : Int) (a : Option Addr) (cap : Nat) (hs ns : List Int) (hN : Nums w0 b c r G w (.slice a hs.length cap) hs)
    (hl : hs.length = ns.length) (h8 : hs.length ≤ 8) (hw : ∀ (i : Nat) (k n : Int), hs[i]? = some k → ns[i]? = some n → m.look k = some (.word n)) :
    Calls Tryd.prog 15 #[.agg #[.pointer (some ⟨b, 0, none⟩), .int .i64 top, .slice a hs.length cap]] w fun e w' => ∃ v, e = .returned (.tuple #[v, .bool true]) ∧ Nums w0 b c r G w' v ns ∧ Nxt w0 b c r G w w' (m.more hs.length) G := by
  have b1 := (Below.refl w.heap.size w).alloc (Nat.le_refl _) (yobj b top a hs.length cap)
  have ly := h.fresh (yobj b top a hs.length cap)
  have HH : Hid (WMid w0 b c r G w m top (.slice a hs.length cap) ns 0 (.slice none 0 0) (w.alloc (yobj b top a hs.length cap))) :=
    ⟨by rw [more_zero]; exact h.later b1, ButN.of b1 (Nat.le_refl _), ynew w b top a hs.length cap, OwnI.nil _ _, fun g e => (by cases e), by simp⟩
  have HN := Lib.hid (⟨hN, hl, hw, hc, h8⟩ : _ ∧ _ ∧ _ ∧ _ ∧ _)
  have HLY := Lib.hid ly
  have h82 : (hs.length : Int) ≤ 8 := by omega
  unfold yobj at HH
  clear h hN hw b1 ly hc hl
  go_enter Tryd.func15, Tryd.ntmps15
  go_wp2_with fail
  go_loopw [4, 5] (fun lv iv wr => ∃ (i : Nat) (v : Value), lv = v ∧ iv = .int .i64 (i : Int) ∧ i ≤ hs.length ∧ Hid (WMid w0 b c r G w m top (.slice a hs.length cap) ns i v wr)) (fun _ iv _ => hs.length - (intOf iv).toNat)
  case atStart => exact ⟨0, _, rfl, rfl, Nat.zero_le _, HH⟩
  case round =>
    obtain ⟨i, v, rfl, rfl, hi, hR⟩ := hrel
    clear HH
    obtain ⟨va, vc, ev, -⟩ := hR.out.own.see
    have hti : (ns.take i).length = i := by
      rw [List.length_take, ← HN.out.2.1]; omega
    rw [hti] at ev
    subst ev
    have c2 := hR.out.y.c2
    by_cases hlt : i < hs.length
    · have i1 : (i : Int) < (hs.length : Int) := by omega
      obtain ⟨k, hk⟩ : ∃ k, hs[i]? = some k := ⟨_, List.getElem?_eq_getElem hlt⟩
      obtain ⟨n, hn⟩ : ∃ n, ns[i]? = some n := ⟨_, List.getElem?_eq_getElem (by rw [← HN.out.2.1]; exact hlt)⟩
      have hlk := HN.out.2.2.1 i k n hk hn
      obtain ⟨a', cap', ea, hrow⟩ := HN.out.1
      cases ea
      obtain ⟨gc, rfl, lg, hg⟩ : ∃ gc, a = some ⟨gc, 0, none⟩ ∧ LocM w0 b c r G w gc ∧ ∀ (i : Nat) (x : Int), hs[i]? = some x → w.cell? ⟨gc, i, none⟩ = some (.int .i64 x) := by
        rcases hrow with e | e
        · rw [e] at hlt; simp at hlt
        · exact e
      have HA : Hid (∀ W, Below wr.heap.size wr W → YVar W w.heap.size b top (.slice (some ⟨gc, 0, none⟩) hs.length cap)) := fun W hb => hR.out.y.same (hb.block _ (by have := hR.out.sz; omega))
      have HK : Hid (∀ W, Below wr.heap.size wr W → W.cell? ⟨gc, i, none⟩ = some (.int .i64 k)) := fun W hb => by
        rw [hb.cell (p := ⟨gc, i, none⟩) (by have := hR.out.sz; have := lg.lt; simp only; omega), World.cell?_of_block (w := w) (a := ⟨gc, i, none⟩) (hR.out.but.block gc lg.lt (by have := lg.ne; simp; omega))]
        exact hg i k hk
      have HU : Hid (∀ W, Below wr.heap.size wr W → Calls Tryd.prog 50 #[.pointer (some ⟨b, 0, none⟩), .int .i64 k] W fun e w' => ∃ u, e = .returned u ∧ WPost w0 b c r G wr (m.more (i + 1)) n u w') := fun W hb => by
        refine (mword_E (hR.out.has.later hb) (by have := HN.out.2.2.2.1; have := HN.out.2.2.2.2; simp only [M.more]; omega) k).mono ?_
        rintro e w' ⟨rfl, h1, h2⟩
        have ew := look_word (m := m.more i) (h := k) (n := n) (by rw [more_look]; exact hlk)
        rw [ew] at h1 ⊢
        rw [more_ask] at h1
        exact ⟨_, rfl, rfl, h1, W, hb, h2⟩
      have HT : Hid (ns.take (i + 1) = ns.take i ++ [n] ∧ (ns.take i).length = i) := by
        have hin : i < ns.length := by rw [← HN.out.2.1]; exact hlt
        refine ⟨?_, by rw [List.length_take]; omega⟩
        rw [List.take_add_one, hn]; rfl
      have HRR := Lib.hid hR
      clear hR hk hn hlk hrow hg lg hti
      go_wp2_with fail
      refine FreeV.region_puts (S := UMid wr 7 (WPost w0 b c r G wr (m.more (i + 1)) n)) (effs := [7])
        (tab := [⟨1, fun _ => [.pointer (some ⟨w.heap.size, 0, none⟩)], fun _ => .pointer (some ⟨b, 0, none⟩), .read⟩,
          ⟨3, fun _ => [.pointer (some ⟨w.heap.size, 2, none⟩)], fun _ => (.slice (some ⟨gc, 0, none⟩) hs.length cap), .read⟩,
          ⟨5, fun _ => [(.slice (some ⟨gc, 0, none⟩) hs.length cap), .int .i64 (i : Int)], fun _ => .pointer (some ⟨gc, i, none⟩), .pure⟩,
          ⟨6, fun _ => [.pointer (some ⟨gc, i, none⟩)], fun _ => .int .i64 k, .read⟩,
          ⟨7, fun _ => [.func (.func 50) #[] #[], .pointer (some ⟨b, 0, none⟩), .int .i64 k], fun β => (β 7), .get⟩,
          ⟨9, fun β => [(β 7)], fun β => (nth 0 (β 7)), .read⟩,
          ⟨10, fun β => [(β 7)], fun β => (nth 1 (β 7)), .read⟩])
        (vs := [([], fun _ => .pointer (some ⟨w.heap.size, 0, none⟩)), ([], fun _ => .pointer (some ⟨b, 0, none⟩)), ([], fun _ => .pointer (some ⟨w.heap.size, 2, none⟩)), ([], fun _ => (.slice (some ⟨gc, 0, none⟩) hs.length cap)), ([], fun _ => .int .i64 (i : Int)), ([], fun _ => .pointer (some ⟨gc, i, none⟩)), ([], fun _ => .int .i64 k), ([7], fun l => l.headD undef), ([7], fun l => l.headD undef), ([7], fun l => nth 0 (l.headD undef)), ([7], fun l => nth 1 (l.headD undef)), ([7], fun l => nth 0 (l.headD undef)), ([7], fun l => nth 1 (l.headD undef))])
        (by kernel_rfl) ⟨by kernel_rfl, ⟨FreeV.d_load _ rfl rfl (fun β bs w h hd => load_24 ((HA.out _ (h.1 ((hd 0 7 rfl).2 (.inl (by kernel_rfl))))).c0)),
          FreeV.d_load _ rfl rfl (fun β bs w h hd => load_25 ((HA.out _ (h.1 ((hd 0 7 rfl).2 (.inl (by kernel_rfl))))).c2)),
          FreeV.d_at _ rfl rfl (fun _ w => at_25 gc hs.length cap i hlt w),
          FreeV.d_load _ rfl rfl (fun β bs w h hd => load_3 ((HK.out _ (h.1 ((hd 0 7 rfl).2 (.inl (by kernel_rfl))))))),
          FreeV.d_get2 _ rfl rfl enter_50 0 rfl (fun β bs w h hd => umid_call h ((hd 0 7 rfl).2 (.inr rfl)) HU.out),
          FreeV.d_extract _ rfl rfl (fun β bs w h hd => wpost_nth (k := 0) (h.2 ((hd 0 7 rfl).1 (by kernel_rfl))) (by decide)),
          FreeV.d_extract _ rfl rfl (fun β bs w h hd => wpost_nth (k := 1) (h.2 ((hd 0 7 rfl).1 (by kernel_rfl))) (by decide)),
          trivial⟩,
          fun β => by kernel_rfl, fun β => by kernel_rfl, by kernel_rfl, fun β => by kernel_rfl, by kernel_rfl⟩ umid_start (fun β => Free.from_ 16 [.pointer (some ⟨w.heap.size, 0, none⟩), .pointer (some ⟨b, 0, none⟩), .pointer (some ⟨w.heap.size, 2, none⟩), (.slice (some ⟨gc, 0, none⟩) hs.length cap), .int .i64 (i : Int), .pointer (some ⟨gc, i, none⟩), .int .i64 k, (β 7)] ++ [(15, (β 7)), (24, (nth 0 (β 7))), (25, (nth 1 (β 7))), (6, (nth 0 (β 7))), (7, (nth 1 (β 7)))]) (fun β => by kernel_rfl) ?_
      intro β w2 h2
      obtain ⟨e7, hP⟩ := h2.2 rfl
      simp only [e7, nth_0, nth_1]
      clear h2 e7
      rw [FreeX.puts_append, Free.puts_from _ _ _ (Nat.le_of_ble_eq_true rfl)]
      simp only [List.take_succ_cons, List.take_zero, List.drop_succ_cons, List.drop_zero, List.cons_append, List.nil_append, List.length_cons, List.length_nil, Nat.reduceAdd]
      unfold Free.puts
      simp only [List.foldl_cons, List.foldl_nil]
      obtain ⟨hE2, W0, hb0, hk0⟩ := hP
      have hsz := HRR.out.out.sz
      have hso := HRR.out.out.own
      have hkb : ∀ z, z < wr.heap.size → z ≠ b → z ≠ c → z ≠ r → w2.heap[z]? = wr.heap[z]? := fun z h1 h2 h3 h4 => (hk0.block z (by have := hb0.size; omega) h2 h3 h4).trans (hb0.block z h1)
      have hs2 : wr.heap.size ≤ w2.heap.size := Nat.le_trans hb0.size hk0.size
      have lv2 : ∀ g, (Value.slice va i vc).ownBlock = some g → LocM w0 b c r G w2 g ∧ w2.heap[g]? = wr.heap[g]? := fun g e => by
        have l := HRR.out.out.lv g e
        exact ⟨l.later hs2 (Grow.refl _ _), hkb g l.lt l.ne.1 l.ne.2.1 l.ne.2.2⟩
      have own2 : OwnI w2 (w.heap.size + 1) (.slice va i vc) (ns.take i) := by
        obtain ⟨q1, q2⟩ := hso
        refine ⟨q1, q2.imp id ?_⟩
        rintro ⟨g, cp, cur, e, q3, q4, q5⟩
        exact ⟨g, cp, cur, e, q3, by rw [(lv2 g (by rw [e]; rfl)).2]; exact q4, q5⟩
      have yl : w.heap.size ≠ b ∧ w.heap.size ≠ c ∧ w.heap.size ≠ r := HLY.out.ne
      have y2 := HRR.out.out.y.same (hkb w.heap.size (by omega) yl.1 yl.2.1 yl.2.2)
      have but2 : ButN [b, c, r] w.heap.size w w2 := ((HRR.out.out.but).trans (ButN.of hb0 (by omega))).kept hk0 (by have := hb0.size; omega)
      have hb3 := (Below.refl w2.heap.size w2).alloc (Nat.le_refl _) (.cells #[.int .i64 n] 3)
      have HOW := Lib.hid (own2.below hb3)
      have HST : Hid (∀ v' w6, OwnI w6 (w.heap.size + 1) v' (ns.take i ++ [n]) → (w2.alloc (.cells #[.int .i64 n] 3)).grownBy w6 (Value.slice va i vc).ownBlock → (v'.ownBlock = (Value.slice va i vc).ownBlock ∨ v'.ownBlock = some (w2.alloc (.cells #[.int .i64 n] 3)).heap.size) → Hid (WMid w0 b c r G w m top (.slice (some ⟨gc, 0, none⟩) hs.length cap) ns (i + 1) v' w6)) := by
        intro v' w6 g1 g2 g3
        have hs3 := hb3.size
        refine ⟨(hE2.later hb3).grown g2 (fun g e => (lv2 g e).1.later hs3 (Grow.refl _ _)), (but2.trans (ButN.of hb3 (by omega))).trans ⟨g2.os, g2.tape, g2.output, g2.size, fun z hz _ => g2.block z (by omega) (fun e => by have := (HOW.out.lt z e.symm).1; omega)⟩, (y2.same (hb3.block _ (by omega))).same (g2.block _ (by omega) (fun e => by have := (HOW.out.lt _ e.symm).1; omega)), by rw [HT.out.1]; exact g1, fun g e => ?_, by have := g2.size; omega⟩
        rcases g3 with e2 | e2
        · exact ((lv2 g (e2 ▸ e)).1.later hs3 (Grow.refl _ _)).later g2.size (Grow.refl _ _)
        · rw [e2] at e
          cases e
          exact (hE2.later hb3).newloc (Nat.le_refl _) (g1.lt _ e2).2
      have HSZ : Hid (w.heap.size + 1 ≤ w2.heap.size) := by unfold Hid; omega
      clear hE2 hb0 hk0 hkb lv2 own2 y2 but2 hb3 hso hsz hs2 yl HA HK HU HRR c2
      go_wp2_with (at_builtin; refine append1 rfl (.tmp 28) (.tmp 30) rfl (w.heap.size + 1) (.slice va i vc) (ns.take i) n rfl HOW.out w2.heap.size 1 rfl (by simp [go_sem]) (by have := HT.out.2; omega) (by have := HSZ.out; simp; omega) ?_; intro v' w6 g1 g2 g3; have HH := HST.out v' w6 g1 g2 g3; clear g1 g2 g3)
      clear HST HOW
      go_roundw
      case rel => exact ⟨i + 1, _, rfl, by simp, by omega, HH⟩
      case measure => simp [intOf]; omega
    · obtain rfl : i = hs.length := by omega
      have hM := hR.out
      have e1 : ns.take hs.length = ns := by rw [HN.out.2.1]; exact List.take_length
      have ho := Nums.of hM.own hM.lv
      rw [e1] at ho
      have HE : Hid (Nums w0 b c r G wr (.slice va hs.length vc) ns ∧ Nxt w0 b c r G w wr (m.more hs.length) G) := ⟨ho, hM.has, hM.but, Grow.refl _ _⟩
      clear hR hM ho e1 hti
      go_wp2
      go_ret2
      exact ⟨_, rfl, HE.out⟩
end Go.Proofs.YteiikkkcjpfapaaDoor
