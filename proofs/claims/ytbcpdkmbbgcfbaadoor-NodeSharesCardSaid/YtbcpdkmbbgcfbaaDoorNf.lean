/- What Take, slices.Clone, Load, Own, Lift, Undo come to. Conditions: at most 400000 asks; at most 90000 links. -/
import Derived.Test.YtbcpdkmbbgcfbaaDoorNe
import Derived.Deep.Upon
namespace Go.Proofs.YtbcpdkmbbgcfbaaDoor
open Go.RowKit Go.Op
set_option maxRecDepth 100000

theorem eq25_no (a : Addr) (n c : Nat) (w : World) : (binOp .eql 25 (.slice (some a) n c) (.slice none 0 0)).run Tryd.prog w = .ok (.bool false) w := by kernel_rfl
theorem eq25_nil (n c : Nat) (w : World) : (binOp .eql 25 (.slice none n c) (.slice none 0 0)).run Tryd.prog w = .ok (.bool true) w := by kernel_rfl
/-- What a slice of numbers holds. -/
def SlAt (w : World) (a : Option Addr) (l : List Int) : Prop := l = [] ∨ ∃ g o, a = some ⟨g, o, none⟩ ∧ g < w.heap.size ∧ w.rangeAt g o (ints l)
def SlNew (B : Nat) (w : World) (a : Option Addr) (l : List Int) : Prop := l = [] ∨ ∃ g, a = some ⟨g, 0, none⟩ ∧ B ≤ g ∧ Rw w g (ints l)
theorem clone_app (w : World) (q : Nat) (a : Addr) (cap : Nat) (l : List Int) (hl : l.length ≤ 1000000) (h : SlAt w (some a) l) :
    ∃ ad' cap' w', (∀ ty, (Builtin.append_ #[25, 25] ty #[.slice (some ⟨q, 0, none⟩) 0 0, .slice (some a) l.length cap]).run Tryd.prog w = .ok (.slice ad' l.length cap') w') ∧ l.length ≤ cap' ∧ Below w.heap.size w w' ∧ SlNew w.heap.size w' ad' l := by
  obtain ⟨i0, hi, hz0, hz1, hz2⟩ := info_parts info3
  by_cases h0 : l = []
  · subst h0
    exact ⟨_, _, _, fun ty => run_append_nothing w 25 25 ty 3 i0 Tryd.underlying25 hi (some ⟨q, 0, none⟩) 0 0 (Nat.le_refl _) _ (Src.ofSlice w Tryd.underlying25 a 0 cap [] (by simp) (fun j u hu => (by simp at hu)) (fun u hu => (by simp at hu))), Nat.le_refl _, Below.refl _ _, .inl rfl⟩
  · rcases h with e | ⟨g, o, e, hlt, hr⟩
    · exact absurd e h0
    · cases e
      have hp : 0 < l.length := List.length_pos_iff.2 h0
      have hrun := fun ty => run_append_grow (P := Tryd.prog) w 25 ty 3 i0 _ Tryd.underlying25 hi hz0 ⟨q, 0, none⟩ 0 0 [] (by simp) (fun j u hu => (by simp at hu)) ⟨g, o, none⟩ l.length cap (ints l) (by rw [ints_length, hz1]; omega) (fun j u hu => by rw [add_off]; exact hr j u hu) (by omega) (by omega) (growslice_fits (by omega) (by rw [hz2]; omega))
      have hge := grownCap_ge w (0 + l.length) 0 3
      simp only [Nat.zero_add] at hrun hge
      refine ⟨_, _, _, hrun, hge, (Below.refl w.heap.size w).drew.alloc (Nat.le_refl _) _, .inr ⟨w.heap.size, rfl, Nat.le_refl _, ⟨by simp, fun j u hj => ?_⟩⟩⟩
      have hlt := (List.getElem?_eq_some_iff.1 hj).1
      rw [show w.heap.size = w.drew.heap.size from rfl, World.cell?_alloc_new]
      rw [Array.getElem?_append_left (by simp; exact hlt)]
      rw [← hj]
      simp
def IsSl (B : Nat) (l : List Int) (e : Ending) (w' : World) : Prop := ∃ ad cap, e = .returned (.slice ad l.length cap) ∧ l.length ≤ cap ∧ SlNew B w' ad l
theorem clone_any (w : World) (ad : Option Addr) (cap : Nat) (l : List Int) (hl : l.length ≤ 1000000) (h : SlAt w ad l) :
    Calls Tryd.prog 61 #[.slice ad l.length cap] w fun e w' => IsSl w.heap.size l e w' ∧ Below w.heap.size w w' := by
  cases ad with
  | none =>
    have h0 : l = [] := by
      rcases h with e | ⟨g, o, e, _⟩
      · exact e
      · cases e
    subst h0
    clear h
    have h1 := eq25_nil
    go_enter Tryd.func61, Tryd.ntmps61
    go_wp2
    go_ret
    exact ⟨⟨none, 0, rfl, Nat.le_refl _, .inl rfl⟩, Below.refl _ _⟩
  | some a =>
    have hb := (Below.refl w.heap.size w).alloc (Nat.le_refl _) (.cells #[] 3)
    have HA := Lib.hid (clone_app (w.alloc (.cells #[] 3)) w.heap.size a cap l hl (h.imp id fun ⟨g, o, e, hlt, hr⟩ => ⟨g, o, e, Nat.lt_of_lt_of_le hlt hb.size, rangeAt_same hr (hb.block g hlt)⟩))
    have HB := Lib.hid hb
    have h1 := eq25_no a
    clear h hb hl
    obtain ⟨ad', cap', w2, hrun, h2, h3, h4⟩ := HA.out
    have HE : Hid (IsSl w.heap.size l (.returned (.slice ad' l.length cap')) w2 ∧ Below w.heap.size w w2) :=
      ⟨⟨ad', cap', rfl, h2, h4.imp id fun ⟨g, e, k, r⟩ => ⟨g, e, Nat.le_trans HB.out.size k, r⟩⟩, HB.out.trans (h3.mono HB.out.size)⟩
    clear h2 h3 h4 HA HB
    generalize l.length = n at *
    have HR := Lib.hid hrun
    clear hrun
    go_enter Tryd.func61, Tryd.ntmps61
    go_wp2_with (at_builtin; refine append_run rfl (.tmp 5) (.tmp 6) 25 rfl rfl rfl HR.out ?_)
    go_ret
    exact HE.out
section
variable {w0 : World} {b c r pb po : Nat} {t t1 : Value} {G G1 : List (Nat × List Value)} {w w1 w2 : World} {m m1 : M} {s s1 : Pt}
theorem Aft.grow (h : Aft w0 b c r pb po t G w t1 G1 w1 m1 s1) (hb : Below w1.heap.size w1 w2) {g : Nat} {l : List Value} (hg : w1.heap.size ≤ g) (hr : Rw w2 g l) : Aft w0 b c r pb po t G w t1 ((g, l) :: G1) w2 m1 s1 := by
  have h1 := h.later hb
  obtain ⟨m0, s0, q1, -⟩ := id h.sys
  have o := q1.has.at_.own
  have h2 := q1.pt.lt
  have h3 := o.lb
  have h4 := o.lc
  have h5 := o.lr
  have h6 := q1.has.below.size
  refine h1.freeze ⟨hr.lt, by omega, ⟨by omega, by omega, by omega, by omega⟩, fun e => by
    have := (World.ownsRow.lt q1.pt.own _ e).2
    omega, fun x hx e => by
    have := (q1.rows x.1 x.2 hx).1.lt
    omega⟩ (Nat.le_trans h.but.size hg) hr
/-- Behind Clone. -/
def Cloned (w0 : World) (b c r pb po : Nat) (t : Value) (G : List (Nat × List Value)) (w : World) (t1 : Value) (G1 : List (Nat × List Value)) (w1 : World) (m1 : M) (s1 : Pt) (l : List Int) (e : Ending) (w' : World) : Prop :=
  ∃ (sl : Sl) (G2 : List (Nat × List Value)), e = .returned (.slice sl.a sl.n sl.cap) ∧ sl.In G2 (ints l) ∧ Aft w0 b c r pb po t G w t1 G2 w' m1 s1 ∧ Grow w1 G1 G2
theorem slat_in {sl : Sl} {l : List Int} (hs : SysE w0 b c r pb po t G w m s) (h : sl.In G (ints l)) : SlAt w sl.a l := by
  rcases h.row with e | ⟨g, o, x, e, hm, hx⟩
  · left; simpa [ints] using e
  · obtain ⟨m0, s0, h1, -⟩ := hs
    have hrw := (h1.rows g x hm).1
    exact .inr ⟨g, o, e, hrw.lt, fun j u hj => hrw.at_ _ _ (hx j u hj)⟩
theorem eclone (h : Aft w0 b c r pb po t G w t1 G1 w1 m1 s1) (sl : Sl) (l : List Int) (hd : sl.In G1 (ints l)) :
    Calls Tryd.prog 61 #[.slice sl.a sl.n sl.cap] w1 fun e w' => Cloned w0 b c r pb po t G w t1 G1 w1 m1 s1 l e w' ∧ Below w1.heap.size w1 w' := by
  have hn := hd.n
  have hf := hd.few
  rw [ints_length] at hn hf
  rw [hn]
  refine (clone_any w1 sl.a sl.cap l hf (slat_in h.sys hd)).mono ?_
  rintro e w2 ⟨⟨ad, cap, rfl, h2, h3⟩, hb⟩
  refine ⟨?_, hb⟩
  rcases h3 with h3 | ⟨g, rfl, hg, hr⟩
  · exact ⟨⟨ad, l.length, cap⟩, G1, rfl, ⟨(ints_length l).symm, h2, hd.few, .inl (by rw [h3]; rfl)⟩, h.later hb, Grow.refl _ _⟩
  · refine ⟨⟨_, l.length, cap⟩, (g, ints l) :: G1, rfl, ⟨(ints_length l).symm, h2, hd.few, .inr ⟨g, 0, ints l, rfl, List.mem_cons_self, fun i x hx => by rw [Nat.zero_add]; exact hx⟩⟩, h.grow hb hg hr, ⟨fun x hx => List.mem_cons_of_mem _ hx, fun x hx => ?_⟩⟩
    rcases List.mem_cons.1 hx with e | e
    · cases e; exact .inr hg
    · exact .inl e
theorem Loc.grow {z : Nat} (h : Loc w0 b c r pb t G w z) (hs : w.heap.size ≤ w1.heap.size) (hg : Grow w G G1) : Loc w0 b c r pb t G1 w1 z :=
  ⟨Nat.lt_of_lt_of_le h.lt hs, h.ge, h.ne, h.nt, fun x hx e => (hg.2 x hx).elim (fun e2 => h.ng x e2 e) fun e2 => by have := h.lt; omega⟩
set_option maxHeartbeats 1000000 in
theorem Take_E (h : SysE w0 b c r pb po t G w m s) (hc : m.count ≤ 900000) (k : Int) :
    Calls Tryd.prog 21 #[.pointer (some ⟨pb, po, none⟩), .int .i64 k] w fun e w' => Ev w0 b c r pb po t G w RAge ((takeP k).run s m) e w' := by
  have hb0 := (Below.refl w.heap.size w).alloc (Nat.le_refl _) aobj
  have hl := heldA_E (h.later hb0) hc k
  have HL := Lib.hid (h.fresh aobj)
  have HV := Lib.hid (show SVar (w.alloc aobj) w.heap.size (ag0.row .nil) from snew w (ag0.row .nil) 42)
  have HB := Lib.hid hb0
  clear h hb0
  unfold aobj at hl
  go_enter Tryd.func21, Tryd.ntmps21
  go_wp2_with fail
  refine hl.mono ?_
  rintro e w1 hE
  rcases hE.cases with ⟨t1, G1, s1, m1, ho, rfl, ha⟩ | ⟨t1, G1, s1, m1, x, v, ho, rfl, ⟨p, hi, rfl⟩, ha⟩
  · have HE : Hid (Ev w0 b c r pb po t G w RAge ((takeP k).run s m) (Halt pb po) w1) := Ev.die ho (ha.back HB.out)
    clear hl hE ho ha
    unfold Halt
    go_wp2
    exact ⟨rfl, HE.out⟩
  · obtain ⟨v1, l1⟩ := ha.svar HL.out HV.out
    have HF : Hid (Ev w0 b c r pb po t G w RAge ((takeP k).run s m) (.returned (.tuple #[x.1.v p, .int .i64 x.2])) (sput w1 w.heap.size (x.1.row p)) ∧ (loadVar 42 ⟨w.heap.size, 0, none⟩).run Tryd.prog (sput w1 w.heap.size (x.1.row p)) = .ok (x.1.v p) (sput w1 w.heap.size (x.1.row p))) :=
      ⟨Ev.ret ho ⟨p, hi, rfl⟩ ((ha.back HB.out).aside (But.sput _ _ _) l1 (Nat.le_refl _)), (v1.put (row' := x.1.row p) rfl).loadVar sh42⟩
    have hst := v1.store (row' := x.1.row p) rfl sh42 (x.1.row_one p)
    generalize sput w1 w.heap.size (x.1.row p) = W at hst HF
    unfold Ag.v
    unfold Ag.v at HF
    simp only [Ag.row] at hst
    clear hl hE ho ha v1 l1 hi
    go_wp2_with (first | ((with_reducible refine store_run ?_ (.tmp 4) (.tmp 9) 42 ?_ ?_ ?_ hst ?_); exact rfl; exact rfl; exact rfl; exact rfl))
    exact bodyPost_ret (res_ct (.int .i64 x.2) Tryd.results21 rfl rfl HF.out.2) rfl HF.out.1
end
end Go.Proofs.YtbcpdkmbbgcfbaaDoor
