/- A chain that is gone through by a range over a function: what the iterator comes to, whatever the loop's body makes of its own. Conditions: at most 800000 asks; so many ages at most as are told. -/
import Derived.Test.YtibimnibmengpaaDoorNh
import Derived.RangeFuncNested
import Derived.RangeFuncBound
import Derived.RangeFuncCalls
import Derived.RangeFuncLeaves
import Derived.Shelf.Abstract
import Derived.Shelf.RegionOpen
import Derived.OwnWalkIn
import Derived.TacticsInMore
import Derived.LoopNIn
import Derived.LoopIn
import Derived.RangeFuncIn
import Derived.RangeFuncRecord
import Derived.RangeFuncOwn
namespace Go.Proofs.YtibimnibmengpaaDoor
open Go.RowKit Go.Op
set_option maxRecDepth 100000
attribute [local go_sem] Oper.semAt_some

/-- The least number that has a property. -/
theorem least_ex {P : Nat → Prop} (h : ∃ n, P n) : ∃ n, P n ∧ ∀ k, k < n → ¬ P k := by
  obtain ⟨n, hn⟩ := h
  induction n using Nat.strongRecOn with
  | _ n ih =>
    by_cases hk : ∃ k, k < n ∧ P k
    · obtain ⟨k, h1, h2⟩ := hk
      exact ih k h1 h2
    · exact ⟨n, hn, fun k h1 h2 => hk ⟨k, h1, h2⟩⟩
open Classical in
noncomputable def least (P : Nat → Prop) : Nat := if h : ∃ n, P n then Classical.choose (least_ex h) else 0
theorem least_is {P : Nat → Prop} (h : ∃ n, P n) : P (least P) ∧ ∀ k, P k → least P ≤ k := by
  unfold least
  rw [dif_pos h]
  have hs := Classical.choose_spec (least_ex h)
  exact ⟨hs.1, fun k hk => by
    apply Classical.byContradiction
    intro hn
    exact hs.2 k (by omega) hk⟩
/-- A chain that is gone through, and what a loop's body makes of each age: does it go on? None: more ages than so many, or what isn't looked at; true: the body has left. -/
def chainP {σ : Type} (next : Int → Pr (Int × Int)) (f : σ → Sp → Int → Option (Bool × σ)) : Nat → Int → σ → Pr (Option (Bool × σ))
  | 0, _, _ => .ret none
  | n + 1, h, x => (takeP h).bind fun a => match f x ⟨h, a.1⟩ a.2 with
    | none => .ret none
    | some y => if y.1 = false then .ret (some (true, y.2)) else
      if a.2 = 0 then (next a.1.pv).bind fun b => if b.2 = 0 then (if b.1 = 0 then .ret (some (false, y.2)) else chainP next f n b.1 y.2)
        else (match f y.2 sp0 b.2 with
          | none => .ret none
          | some y2 => .ret (some (!y2.1, y2.2)))
      else .ret (some (false, y.2))
section
variable {σ : Type} {w0 : World} {b c r pb po : Nat}
/-- What the iterator comes to. -/
def CPost (pb po : Nat) (J Jx : σ → Value → List (Nat × List Value) → M → Pt → World → Prop) (o : Option (Option (Bool × σ)) × Pt × M) (e : Ending) (w' : World) : Prop :=
  match o.1 with
  | none => e = Halt pb po ∧ ∃ x t' G', J x t' G' o.2.2 o.2.1 w'
  | some none => False
  | some (some (true, x)) => (∃ v, e = .returned v) ∧ ∃ t' G', Jx x t' G' o.2.2 o.2.1 w'
  | some (some (false, x)) => (∃ v, e = .returned v) ∧ ∃ t' G', J x t' G' o.2.2 o.2.1 w'
/-- At the iterator's loop. -/
def LR (next : Int → Pr (Int × Int)) (f : σ → Sp → Int → Option (Bool × σ)) (J : σ → Value → List (Nat × List Value) → M → Pt → World → Prop) (whole : Option (Option (Bool × σ)) × Pt × M) (n : Nat) (atv : Value) (wr : World) : Prop :=
  ∃ h1 x t1 G1 m1 s1, atv = .int .i64 h1 ∧ J x t1 G1 m1 s1 wr ∧ whole = (chainP next f n h1 x).run s1 m1 ∧ m1.count + 3 * (n : Int) ≤ 800000
set_option maxHeartbeats 2000000 in
theorem chain1_E (next : Int → Pr (Int × Int)) (f : σ → Sp → Int → Option (Bool × σ)) (l hb pbx nb : Nat) (fid : FuncId) (fst cap : Array Value) (J Jx : σ → Value → List (Nat × List Value) → M → Pt → World → Prop)
    (hJs : ∀ x t1 G1 m1 s1 W, J x t1 G1 m1 s1 W → SysE w0 b c r pb po t1 G1 W m1 s1 ∧ W.cell? ⟨pbx, 0, none⟩ = some (.pointer (some ⟨pb, po, none⟩)) ∧ W.cell? ⟨nb, 0, none⟩ = some (.func (.func fid) fst cap))
    (hJa : ∀ x t1 G1 m1 s1 W t2 G2 m2 s2 W2, J x t1 G1 m1 s1 W → Aft w0 b c r pb po t1 G1 W t2 G2 W2 m2 s2 → J x t2 G2 m2 s2 W2)
    (hY : ∀ x sp p err y t1 G1 m1 s1 Wa W, f x sp err = some y → J x t1 G1 m1 s1 Wa → Below Wa.heap.size Wa W → sp.a.d.In G1 p → YieldAt Fence.wide (0 - 1) Tryd.prog l #[sp.v p, .int .i64 err] W fun e W' => (W.heap.size ≤ W'.heap.size ∧ ∀ z, Wa.heap.size ≤ z → z < W.heap.size → W'.heap[z]? = W.heap[z]?) ∧ ((e = .returned (.bool true) ∧ y.1 = true ∧ J y.2 t1 G1 m1 s1 W') ∨ (e = .returned (.bool false) ∧ y.1 = false ∧ Jx y.2 t1 G1 m1 s1 W')))
    (he : ∀ zs w, (callFunc fid zs).run Tryd.prog w = .ok (.enter fid zs) w)
    (hnext : ∀ k x t1 G1 m1 s1 W, J x t1 G1 m1 s1 W → m1.count ≤ 800000 → Calls Tryd.prog fid (fst.push (.int .i64 k) ++ cap) W fun e w' => Ev w0 b c r pb po t1 G1 W RInt2 ((next k).run s1 m1) e w')
    (hnc : ∀ k s m, ((next k).run s m).2.2.count ≤ m.count + 2)
    (n : Nat) (h1 : Int) (x0 : σ) (t : Value) (G : List (Nat × List Value)) (m : M) (s : Pt) (W : World) (h0 : J x0 t G m s W) (hh : W.cell? ⟨hb, 0, none⟩ = some (.int .i64 h1)) (hc : m.count + 3 * (n : Int) ≤ 800000)
    (hne : ((chainP next f n h1 x0).run s m).1 ≠ some none) :
    CallsIn Fence.wide 0 Tryd.prog 84 #[.func (.yield l) #[] #[], .pointer (some ⟨hb, 0, none⟩), .pointer (some ⟨pbx, 0, none⟩), .pointer (some ⟨nb, 0, none⟩)] W (CPost pb po J Jx ((chainP next f n h1 x0).run s m)) := by
  have HL : Hid (LR next f J ((chainP next f n h1 x0).run s m) n (.int .i64 h1) W) := ⟨h1, x0, t, G, m, s, rfl, h0, rfl, hc⟩
  clear h0
  generalize (chainP next f n h1 x0).run s m = whole at *
  refine callsIn_of_wp Tryd.func84 rfl trivial ?_ rfl
  simp only [Tryd.ntmps84, List.size_toArray, List.length_cons, List.length_nil, Nat.reduceAdd, Nat.reduceSub, Array.replicate_succ, Array.replicate_zero, List.push_toArray, List.append_toArray, List.nil_append, List.cons_append]
  gi_wp2_with fail
  gi_loopw [5] (fun atv wr => ∃ n, Hid (LR next f J whole n atv wr)) (fun atv wr => least fun n => Hid (LR next f J whole n atv wr))
  case atStart => exact ⟨n, HL⟩
  case round =>
    obtain ⟨HR, hmin⟩ := least_is hrel
    have HM := Lib.hid hmin
    clear hrel hmin HL hh hc
    obtain ⟨k, hk⟩ : ∃ k, k = least fun n => Hid (LR next f J whole n u5 wr) := ⟨_, rfl⟩
    rw [← hk] at HR
    have HK := Lib.hid hk
    clear hk
    obtain ⟨h1, x, t1, G1, m1, s1, rfl, hj, hw, hc⟩ := HR.out
    cases k with
    | zero => exact absurd (by rw [hw]; rfl) hne
    | succ k =>
      obtain ⟨hs, hp, hn⟩ := hJs _ _ _ _ _ _ hj
      have hl := Take_E hs (by omega) h1
      have hct := take_count h1 s1 m1
      have HJ := Lib.hid hj
      have HW := Lib.hid hw
      gi_wp2_with fail
      refine ⟨trivial, rfl, (callsIn_wide.2 hl).mono ?_⟩
      rintro e w2 hE
      rcases hE.cases with ⟨t2, G2, s2, m2, ho, rfl, ha⟩ | ⟨t2, G2, s2, m2, a, v, ho, rfl, ⟨p, hi, rfl⟩, ha⟩
      · have HX : Hid (CPost pb po J Jx whole (Halt pb po) w2) := by
          have : whole = (none, s2, m2) := by rw [hw, chainP, Pr.bind_none ho]
          rw [this]
          exact ⟨rfl, x, t2, G2, hJa _ _ _ _ _ _ _ _ _ _ _ hj ha⟩
        clear hl hE ho ha hj hw hs hp hn HR HK
        unfold Halt
        gi_wp2
        exact ⟨rfl, HX.out⟩
      rw [ho] at hct
      simp only at hct
      have hb2 := (Below.refl w2.heap.size w2).alloc (Nat.le_refl _) (.cells (a.1.row p).toArray 57)
      have hv := snew w2 (a.1.row p) 57
      have hj2 := hJa _ _ _ _ _ _ _ _ _ _ _ hj ha
      have hld := hv.load sh42
      have hbind := Pr.bind_some (f := fun a : Ag × Int => match f x ⟨h1, a.1⟩ a.2 with
        | none => .ret none
        | some y => if y.1 = false then .ret (some (true, y.2)) else
          if a.2 = 0 then (next a.1.pv).bind fun b => if b.2 = 0 then (if b.1 = 0 then .ret (some (false, y.2)) else chainP next f k b.1 y.2)
            else (match f y.2 sp0 b.2 with
              | none => .ret none
              | some y2 => .ret (some (!y2.1, y2.2)))
          else .ret (some (false, y.2))) ho
      have hrun0 := hw.trans hbind
      cases hfx : f x ⟨h1, a.1⟩ a.2 with
      | none => exact absurd (by rw [hrun0]; simp only [hfx, Pr.run]) hne
      | some y =>
      simp only [hfx] at hrun0
      obtain ⟨fn, tmps, assign, body, hy, hRo⟩ := hY x ⟨h1, a.1⟩ p a.2 y t2 G2 m2 s2 _ _ hfx hj2 hb2 hi
      have hrun1 : whole = (if y.1 = false then .ret (some (true, y.2)) else
          if a.2 = 0 then (next a.1.pv).bind fun b => if b.2 = 0 then (if b.1 = 0 then .ret (some (false, y.2)) else chainP next f k b.1 y.2)
            else (match f y.2 sp0 b.2 with
              | none => .ret none
              | some y2 => .ret (some (!y2.1, y2.2)))
          else .ret (some (false, y.2)) : Pr (Option (Bool × σ))).run s2 m2 := hrun0
      have HRun := Lib.hid hrun1
      have HV := Lib.hid hv
      have HCt := Lib.hid hct
      have HC := Lib.hid hc
      have HHo := Lib.hid hRo
      unfold Sp.v at hy
      unfold Ag.v
      simp only [Ag.row] at hld hy
      clear hl hE ho ha hw hs hp hn HR hj hb2 hrun1 hv hj2 hRo hbind hrun0 hfx
      gi_wp2_with fail
      refine ⟨rfl, HHo.out.mono ?_⟩
      rintro e w3 ⟨ha3, (⟨rfl, hf1, hj3⟩ | ⟨rfl, hf1, hjx⟩)⟩
      rotate_left
      · have HX : Hid (CPost pb po J Jx whole (.returned (.tuple #[])) w3) := by
          rw [HRun.out, if_pos hf1]
          exact ⟨⟨_, rfl⟩, t2, G2, hjx⟩
        clear hjx ha3 HHo HRun HJ HW hy hf1
        gi_wp2
        exact bodyPost_ret (results_none rfl _ _ _) rfl HX.out
      by_cases herr : a.2 = 0
      · obtain ⟨hs3, hp3, hn3⟩ := hJs _ _ _ _ _ _ hj3
        have v3 := HV.out.same ha3.1 (ha3.2 _ (Nat.le_refl _) HV.out.lt)
        have c10 := v3.cell (i := 10) rfl
        have hnx := hnext a.1.pv _ _ _ _ _ _ hj3 (by have := HCt.out; have := HC.out; push_cast at this; omega)
        have hrun2 : whole = ((next a.1.pv).bind fun b => if b.2 = 0 then (if b.1 = 0 then .ret (some (false, y.2)) else chainP next f k b.1 y.2)
            else (match f y.2 sp0 b.2 with
              | none => .ret none
              | some y2 => .ret (some (!y2.1, y2.2)))).run s2 m2 := by
          rw [HRun.out, if_neg (by rw [hf1]; decide), if_pos herr]
        have HR2 := Lib.hid hrun2
        have HJ3 := Lib.hid hj3
        rw [herr]
        clear hj3 hs3 hp3 v3 ha3 HHo HRun HJ HW hy hf1 herr hrun2
        gi_wp2_with fail
        refine ⟨trivial, rfl, (callsIn_wide.2 hnx).mono ?_⟩
        rintro e w4 hE
        have hnc2 := hnc a.1.pv s2 m2
        rcases hE.cases with ⟨t4, G4, s4, m4, ho, rfl, ha⟩ | ⟨t4, G4, s4, m4, b1, v, ho, rfl, rfl, ha⟩
        · have HX : Hid (CPost pb po J Jx whole (Halt pb po) w4) := by
            have : whole = (none, s4, m4) := by rw [HR2.out, Pr.bind_none ho]
            rw [this]
            exact ⟨rfl, _, t4, G4, hJa _ _ _ _ _ _ _ _ _ _ _ HJ3.out ha⟩
          clear hnx hE ho ha hnc2 hn3 c10
          unfold Halt
          gi_wp2
          exact ⟨rfl, HX.out⟩
        rw [ho] at hnc2
        simp only at hnc2
        have hj4 := hJa _ _ _ _ _ _ _ _ _ _ _ HJ3.out ha
        have hrun3 : whole = (if b1.2 = 0 then (if b1.1 = 0 then .ret (some (false, y.2)) else chainP next f k b1.1 y.2)
            else (match f y.2 sp0 b1.2 with
              | none => .ret none
              | some y2 => .ret (some (!y2.1, y2.2))) : Pr (Option (Bool × σ))).run s4 m4 := HR2.out.trans (Pr.bind_some (f := fun b : Int × Int => if b.2 = 0 then (if b.1 = 0 then .ret (some (false, y.2)) else chainP next f k b.1 y.2)
            else (match f y.2 sp0 b.2 with
              | none => .ret none
              | some y2 => .ret (some (!y2.1, y2.2)))) ho)
        have HCn := Lib.hid hnc2
        have HR3 := Lib.hid hrun3
        have HJ4 := Lib.hid hj4
        clear hnx hE ho ha hnc2 hn3 c10 hj4 hrun3 HR2 HJ3
        by_cases herr : b1.2 = 0
        · by_cases h0 : b1.1 = 0
          · have HX : Hid (CPost pb po J Jx whole (.returned (.tuple #[])) w4) := by
              rw [HR3.out, if_pos herr, if_pos h0]
              exact ⟨⟨_, rfl⟩, t4, G4, HJ4.out⟩
            rw [herr, h0]
            clear herr h0
            gi_wp2
            exact bodyPost_ret (results_none rfl _ _ _) rfl HX.out
          · have HN : Hid (LR next f J whole k (.int .i64 b1.1) w4) := by
              refine ⟨b1.1, _, t4, G4, m4, s4, rfl, HJ4.out, ?_, ?_⟩
              · rw [HR3.out, if_pos herr, if_neg h0]
              · have h2 := HCt.out
                have h3 := HC.out
                have h4 := HCn.out
                push_cast at h3
                omega
            have hb10 : (b1.1 == 0) = false := by simpa using h0
            have hlt : (least fun n => Hid (LR next f J whole n (.int .i64 b1.1) w4)) < least fun n => Hid (LR next f J whole n (.int .i64 h1) wr) := by
              have h2 := (least_is (P := fun n => Hid (LR next f J whole n (.int .i64 b1.1) w4)) ⟨k, HN⟩).2 k HN
              rw [← HK.out]
              omega
            have HLt := Lib.hid hlt
            rw [herr]
            clear herr h0 hlt
            gi_wp2_with fail
            go_roundw
            case rel => exact ⟨k, HN⟩
            case measure => exact HLt.out
        · have hrun4 := HR3.out
          rw [if_neg herr] at hrun4
          cases hfy : f y.2 sp0 b1.2 with
          | none => exact absurd (by rw [hrun4]; simp only [hfy, Pr.run]) hne
          | some y2 =>
          simp only [hfy, Pr.run] at hrun4
          obtain ⟨fn2, tmps2, assign2, body2, hy2, hRo2⟩ := hY y.2 sp0 .nil b1.2 y2 t4 G4 m4 s4 w4 w4 hfy HJ4.out (Below.refl _ _) rv0_in
          have HR4 := Lib.hid hrun4
          clear hrun4 hfy
          have HHo2 := Lib.hid hRo2
          simp only [Sp.v, sp0, ag0, rv0, Pl.nil, Sl.nil] at hy2
          clear hRo2
          gi_wp2_with fail
          refine ⟨rfl, HHo2.out.mono ?_⟩
          rintro e w5 ⟨ha5, (⟨rfl, hf2, hj5⟩ | ⟨rfl, hf2, hjx⟩)⟩
          · have HX : Hid (CPost pb po J Jx whole (.returned (.tuple #[])) w5) := by
              rw [HR4.out]
              simp only [CPost, hf2, Bool.not_true]
              exact ⟨⟨_, rfl⟩, t4, G4, hj5⟩
            clear hj5 ha5 HHo2 HR3 HR4 hy2 hf2
            gi_wp2
            exact bodyPost_ret (results_none rfl _ _ _) rfl HX.out
          · have HX : Hid (CPost pb po J Jx whole (.returned (.tuple #[])) w5) := by
              rw [HR4.out]
              simp only [CPost, hf2, Bool.not_false]
              exact ⟨⟨_, rfl⟩, t4, G4, hjx⟩
            clear hjx ha5 HHo2 HR3 HR4 hy2 hf2
            gi_wp2
            exact bodyPost_ret (results_none rfl _ _ _) rfl HX.out
      · have HX : Hid (CPost pb po J Jx whole (.returned (.tuple #[])) w3) := by
          rw [HRun.out, if_neg (by rw [hf1]; decide), if_neg herr]
          exact ⟨⟨_, rfl⟩, t2, G2, hj3⟩
        clear hj3 ha3 HHo HRun HJ HW hy hf1
        gi_wp2
        exact bodyPost_ret (results_none rfl _ _ _) rfl HX.out
end
end Go.Proofs.YtibimnibmengpaaDoor
/- The statement that ranges over a chain: what it comes to, by what its body makes of its own. Conditions: at most 800000 asks; so many ages at most as are told. -/
namespace Go.Proofs.YtibimnibmengpaaDoor
open Go.RowKit Go.Op
set_option maxRecDepth 100000

section
variable {σ : Type} {w0 : World} {b c r pb po : Nat} {t t1 : Value} {G G1 : List (Nat × List Value)} {w w1 : World} {m1 : M} {s1 : Pt}
theorem But.putObj (W : World) (z : Nat) (o : Obj) : But z W (W.putObj z o) := ⟨rfl, rfl, rfl, by simp, fun k _ hk => World.putObj_heap_other hk⟩
/-- How a body may be left. -/
structure BKeep (w0 : World) (b c r pb po : Nat) (t : Value) (G : List (Nat × List Value)) (w : World) (B : Nat) (t2 : Value) (G2 : List (Nat × List Value)) (m2 : M) (s2 : Pt) (Wa W W' : World) : Prop where
  aft : Aft w0 b c r pb po t G w t2 G2 W' m2 s2
  size : W.heap.size ≤ W'.heap.size
  same : ∀ z, (Wa.heap.size ≤ z ∨ z = B ∨ z = B + 1) → z < W.heap.size → W'.heap[z]? = W.heap[z]?
def BPost (w0 : World) (b c r pb po : Nat) (t : Value) (G : List (Nat × List Value)) (w : World) (f : Bool × σ) (I Ix : σ → Value → List (Nat × List Value) → World → Prop) (B : Nat) (t2 : Value) (G2 : List (Nat × List Value)) (m2 : M) (s2 : Pt) (Wa W : World) : Exit → Act → World → Prop
  | .normal, _, W' => f.1 = true ∧ I f.2 t2 G2 W' ∧ BKeep w0 b c r pb po t G w B t2 G2 m2 s2 Wa W W'
  | .ret, _, W' => f.1 = false ∧ Ix f.2 t2 G2 W' ∧ BKeep w0 b c r pb po t G w B t2 G2 m2 s2 Wa W W'
  | _, _, _ => False
set_option maxHeartbeats 1000000 in
theorem wp_chain {g : Operand} {ps : Array Tmp} {assign body : Code} {Q : Exit → Act → World → Prop} {a : Act} {hb pbx nb : Nat} (next : Int → Pr (Int × Int)) (f : σ → Sp → Int → Option (Bool × σ)) (fid : FuncId) (fst cap : Array Value)
    (hg : a.eval g = .func (.func 84) #[] #[.pointer (some ⟨hb, 0, none⟩), .pointer (some ⟨pbx, 0, none⟩), .pointer (some ⟨nb, 0, none⟩)]) (hps : ps.size = 2)
    (hA : Aft w0 b c r pb po t G w t1 G1 w1 m1 s1) (I Ix : σ → Value → List (Nat × List Value) → World → Prop)
    (hIa : ∀ x t2 G2 W t3 G3 m3 s3 W', I x t2 G2 W → Aft w0 b c r pb po t2 G2 W t3 G3 W' m3 s3 → I x t3 G3 W')
    (hIz : ∀ x t2 G2 W W' z, I x t2 G2 W → But z W W' → (z = w1.heap.size ∨ z = w1.heap.size + 1) → I x t2 G2 W')
    (hXz : ∀ x t2 G2 W W' z, Ix x t2 G2 W → But z W W' → (z = w1.heap.size ∨ z = w1.heap.size + 1) → Ix x t2 G2 W')
    (hIc : ∀ x t2 G2 W, I x t2 G2 W → W.cell? ⟨pbx, 0, none⟩ = some (.pointer (some ⟨pb, po, none⟩)) ∧ W.cell? ⟨nb, 0, none⟩ = some (.func (.func fid) fst cap))
    (a₁ : Nat → Sp → Pl → Int → Act)
    (hassign : ∀ l sp p err W (K : Act → World → Prop), K (a₁ W.heap.size sp p err) (W.alloc (.cells (sp.row p).toArray 99)) → assign.wpIn (Fence.wide.inRound l) 0 Tryd.prog (Exit.then K (fun _ _ _ => False)) { tmps := (ps.zip #[sp.v p, .int .i64 err]).foldl (fun t (p, v) => t.setIfInBounds p v) a.tmps, defers := [] } W)
    (hbody : ∀ l x sp p err y t2 G2 m2 s2 Wa W z, f x sp err = some y → Aft w0 b c r pb po t G w t2 G2 W m2 s2 → I x t2 G2 Wa → I x t2 G2 W → (∀ k, k < Wa.heap.size → k ≠ w1.heap.size + 1 → W.heap[k]? = Wa.heap[k]?) → Wa.heap.size ≤ z → w1.heap.size + 2 ≤ Wa.heap.size → Wa.heap.size ≤ W.heap.size → SVar W z (sp.row p) → sp.a.d.In G2 p → body.wpIn (Fence.wide.inRound l) 0 Tryd.prog (BPost w0 b c r pb po t G w y I Ix w1.heap.size t2 G2 m2 s2 Wa W) (a₁ z sp p err) W)
    (he : ∀ zs w, (callFunc fid zs).run Tryd.prog w = .ok (.enter fid zs) w)
    (hnext : ∀ k x t2 G2 m2 s2 W, SysE w0 b c r pb po t2 G2 W m2 s2 → I x t2 G2 W → m2.count ≤ 800000 → Calls Tryd.prog fid (fst.push (.int .i64 k) ++ cap) W fun e w' => Ev w0 b c r pb po t2 G2 W RInt2 ((next k).run s2 m2) e w')
    (hnc : ∀ k s m, ((next k).run s m).2.2.count ≤ m.count + 2)
    (n : Nat) (h1 : Int) (x0 : σ) (h0 : I x0 t1 G1 w1) (hh : w1.cell? ⟨hb, 0, none⟩ = some (.int .i64 h1)) (hc : m1.count + 3 * (n : Int) ≤ 800000)
    (hne : ((chainP next f n h1 x0).run s1 m1).1 ≠ some none)
    (hdone : ∀ x t2 G2 m2 s2 W, (chainP next f n h1 x0).run s1 m1 = (some (some (false, x)), s2, m2) → Aft w0 b c r pb po t G w t2 G2 W m2 s2 → I x t2 G2 W → W.heap[w1.heap.size]? = some (.deferred (some [])) → Loc w0 b c r pb t2 G2 W w1.heap.size → Q .normal { a with defers := { target := .collected w1.heap.size, args := #[] } :: a.defers } W)
    (hstop : ∀ x t2 G2 m2 s2 W, (chainP next f n h1 x0).run s1 m1 = (some (some (true, x)), s2, m2) → Aft w0 b c r pb po t G w t2 G2 W m2 s2 → Ix x t2 G2 W → W.heap[w1.heap.size]? = some (.deferred (some [])) → Loc w0 b c r pb t2 G2 W w1.heap.size → Code.ret.wpIn Fence.wide 0 Tryd.prog Q { a with defers := { target := .collected w1.heap.size, args := #[] } :: a.defers } W)
    (hhalt : ∀ t2 G2 m2 s2 W, (chainP next f n h1 x0).run s1 m1 = (none, s2, m2) → Aft w0 b c r pb po t G w t2 G2 W m2 s2 → W.heap[w1.heap.size]? = some (.deferred (some [])) → Loc w0 b c r pb t2 G2 W w1.heap.size → Q (.panic [{ v := .iface 126 (.agg #[.pointer (some ⟨pb, po, none⟩)]), recovered := false }]) { a with defers := { target := .collected w1.heap.size, args := #[] } :: a.defers } W) :
    (Code.rangeFunc g ps assign body).wpIn Fence.wide 0 Tryd.prog Q a w1 := by
  refine wpIn_rangeFunc ?_
  intro fn hfn
  rw [show Fence.wide.round = none from rfl]
  obtain ⟨rec, hrec⟩ : ∃ rec : LoopState → Option Code → Loop, rec = fun st pe => { state := st, pending := pe, fn, tmps := a.tmps, params := ps, assign, body, defers := w1.heap.size } := ⟨_, rfl⟩
  obtain ⟨W1, hW1⟩ : ∃ W1, (w1.alloc (.deferred (some []))).alloc (.loop (rec .ready none)) = W1 := ⟨_, rfl⟩
  have hz1 : W1.heap.size = w1.heap.size + 2 := by rw [← hW1]; simp
  have hB1 : Below w1.heap.size w1 W1 := by rw [← hW1]; exact ((Below.refl _ w1).alloc (Nat.le_refl _) _).alloc (by simp) _
  have hL1 : W1.heap[w1.heap.size + 1]? = some (.loop (rec .ready none)) := by
    rw [← hW1]; have := World.alloc_heap_new (w1.alloc (.deferred (some []))) (.loop (rec .ready none)); rwa [World.size_alloc] at this
  have hK1 : W1.heap[w1.heap.size]? = some (.deferred (some [])) := by
    rw [← hW1]; exact (Below.heap_alloc _ _ _ (by simp)).trans (World.alloc_heap_new w1 _)
  have hlD : Loc w0 b c r pb t1 G1 W1 w1.heap.size := (hA.sys.fresh (.deferred (some []))).same (by rw [hz1]; simp)
  have hlL : Loc w0 b c r pb t1 G1 W1 (w1.heap.size + 1) := by
    have h2 := (hA.sys.later ((Below.refl _ w1).alloc (Nat.le_refl _) (.deferred (some [])))).fresh (.loop (rec .ready none))
    rw [World.size_alloc, hW1] at h2
    exact h2
  have hAL := hA.later hB1
  have hI1 : I x0 t1 G1 W1 := hIa _ _ _ _ _ _ _ _ _ h0 ((Aft.refl hA.sys).later hB1)
  have hh1 : W1.cell? ⟨hb, 0, none⟩ = some (.int .i64 h1) := by
    rw [hB1.cell (p := ⟨hb, 0, none⟩) (World.block_lt_of_cell? w1 _ hh)]; exact hh
  refine ⟨w1.heap.size + 1, [{ target := .collected w1.heap.size, args := #[] }], W1, { target := .fn (.func 84) #[.pointer (some ⟨hb, 0, none⟩), .pointer (some ⟨pbx, 0, none⟩), .pointer (some ⟨nb, 0, none⟩)], args := #[.func (.yield (w1.heap.size + 1)) #[] #[]] }, W1, 84,
    #[.func (.yield (w1.heap.size + 1)) #[] #[], .pointer (some ⟨hb, 0, none⟩), .pointer (some ⟨pbx, 0, none⟩), .pointer (some ⟨nb, 0, none⟩)], W1, ?_, ?_, ?_, ?_, fun h => (by cases h), ?_⟩
  · rw [← hW1, hrec]; exact run_enterLoop_outer _ _ _ _ _
  · simp only [resolve, hg]
    simp [go_sem]
  · intro f' hf'; trivial
  · have eg : ∀ args w, (callFunc 84 args).run Tryd.prog w = .ok (.enter 84 args) w := fun args w => by kernel_rfl
    simp [invoke, go_sem, eg]
  · refine (chain1_E (w0 := w0) (b := b) (c := c) (r := r) (pb := pb) (po := po) next f (w1.heap.size + 1) hb pbx nb fid fst cap
      (fun x t2 G2 m2 s2 W => Aft w0 b c r pb po t G w t2 G2 W m2 s2 ∧ I x t2 G2 W ∧ w1.heap.size + 2 ≤ W.heap.size ∧ W.heap[w1.heap.size + 1]? = some (.loop (rec .ready none)) ∧ W.heap[w1.heap.size]? = some (.deferred (some [])) ∧ Loc w0 b c r pb t2 G2 W (w1.heap.size + 1) ∧ Loc w0 b c r pb t2 G2 W w1.heap.size)
      (fun x t2 G2 m2 s2 W => Aft w0 b c r pb po t G w t2 G2 W m2 s2 ∧ Ix x t2 G2 W ∧ W.heap[w1.heap.size + 1]? = some (.loop (rec .done (some .ret))) ∧ W.heap[w1.heap.size]? = some (.deferred (some [])) ∧ Loc w0 b c r pb t2 G2 W (w1.heap.size + 1) ∧ Loc w0 b c r pb t2 G2 W w1.heap.size)
      (fun x t2 G2 m2 s2 W hj => ⟨hj.1.sys, hIc _ _ _ _ hj.2.1⟩)
      (fun x t2 G2 m2 s2 W t3 G3 m3 s3 W' ⟨j1, j2, j3, j4, j5, j6, j7⟩ ha => ⟨j1.trans ha, hIa _ _ _ _ _ _ _ _ _ j2 ha, Nat.le_trans j3 ha.but.size, (j6.aft ha).2.trans j4, (j7.aft ha).2.trans j5, (j6.aft ha).1, (j7.aft ha).1⟩)
      ?_ he (fun k x t2 G2 m2 s2 W hj hc => hnext k x _ _ _ _ _ hj.1.sys hj.2.1 hc) hnc n h1 x0 t1 G1 m1 s1 W1 ⟨hAL, hI1, by omega, hL1, hK1, hlL, hlD⟩ hh1 hc hne).mono ?_
    · -- one round
      rintro x sp p err y t2 G2 m2 s2 Wa W hfx ⟨j1, j2, j3, j4, j5, j6, j7⟩ hbW hin
      have k1 := j1.later hbW
      have k2 := hIa _ _ _ _ _ _ _ _ _ j2 ((Aft.refl j1.sys).later hbW)
      have k4 : W.heap[w1.heap.size + 1]? = some (.loop (rec .ready none)) := (hbW.block _ (by omega)).trans j4
      have k5 : W.heap[w1.heap.size]? = some (.deferred (some [])) := (hbW.block _ (by omega)).trans j5
      have k6 := j6.same hbW.size
      have k7 := j7.same hbW.size
      have hWa := hbW.size
      have hy := run_yield (P := Tryd.prog) (args := #[sp.v p, .int .i64 err]) k4 (by rw [hrec]; simp [hps])
      rw [hrec] at hy
      refine ⟨fn, _, assign, body, hy, roundIn_of_wpIn hfn (hassign _ sp p err W _ ?_)⟩
      have hb2 := (Below.refl W.heap.size W).alloc (Nat.le_refl _) (.cells (sp.row p).toArray 99)
      obtain ⟨W2, hW2⟩ : ∃ W2, W2 = W.alloc (.cells (sp.row p).toArray 99) := ⟨_, rfl⟩
      have hv := snew W (sp.row p) 99
      have hz2 : W2.heap.size = W.heap.size + 1 := by rw [hW2]; simp
      rw [← hW2] at hb2 hv ⊢
      have l4 : W2.heap[w1.heap.size + 1]? = some (.loop (rec .ready none)) := (hb2.block _ (by omega)).trans k4
      have l5 : W2.heap[w1.heap.size]? = some (.deferred (some [])) := (hb2.block _ (by omega)).trans k5
      refine ⟨_, run_beginRound l4 (by rw [hrec]), ?_⟩
      obtain ⟨W3, hW3⟩ : ∃ W3, W3 = W2.putObj (w1.heap.size + 1) (.loop { rec .ready none with state := .busy }) := ⟨_, rfl⟩
      have hbut : But (w1.heap.size + 1) W2 W3 := by rw [hW3]; exact But.putObj _ _ _
      have hz3 : W3.heap.size = W2.heap.size := by rw [hW3]; simp
      rw [← hW3]
      have m4 : W3.heap[w1.heap.size + 1]? = some (.loop { rec .ready none with state := .busy }) := by rw [hW3]; exact World.putObj_heap_same (by omega)
      have m5 : W3.heap[w1.heap.size]? = some (.deferred (some [])) := (hbut.block _ (by omega) (by omega)).trans l5
      have n1 := (k1.later hb2).aside hbut (k6.same hb2.size) (by have := hA.but.size; omega)
      have n2 := hIz _ _ _ _ _ _ (hIa _ _ _ _ _ _ _ _ _ k2 ((Aft.refl k1.sys).later hb2)) hbut (.inr rfl)
      have n3 := hv.same hbut.size (hbut.block _ hv.lt (by omega))
      refine wpIn_mono (hbody _ x sp p err y t2 G2 m2 s2 Wa W3 W.heap.size hfx n1 j2 n2 (fun k h1 h2 => (hbut.block k (by omega) h2).trans ((hb2.block k (by omega)).trans (hbW.block k h1))) hWa (by omega) (by omega) n3 hin) ?_
      have fin : ∀ (jump : Option Code) (W4 : World), BKeep w0 b c r pb po t G w w1.heap.size t2 G2 m2 s2 Wa W3 W4 →
          (Instr.endRound (w1.heap.size + 1) jump).run Tryd.prog W4 = .ok (.bool jump.isNone) (W4.putObj (w1.heap.size + 1) (.loop (rec (if jump.isNone then .ready else .done) jump))) ∧
          (W4.putObj (w1.heap.size + 1) (.loop (rec (if jump.isNone then .ready else .done) jump))).heap[w1.heap.size + 1]? = some (.loop (rec (if jump.isNone then .ready else .done) jump)) ∧
          (W4.putObj (w1.heap.size + 1) (.loop (rec (if jump.isNone then .ready else .done) jump))).heap[w1.heap.size]? = some (.deferred (some [])) ∧
          (W.heap.size ≤ (W4.putObj (w1.heap.size + 1) (.loop (rec (if jump.isNone then .ready else .done) jump))).heap.size ∧ ∀ z, Wa.heap.size ≤ z → z < W.heap.size → (W4.putObj (w1.heap.size + 1) (.loop (rec (if jump.isNone then .ready else .done) jump))).heap[z]? = W.heap[z]?) ∧
          Aft w0 b c r pb po t G w t2 G2 (W4.putObj (w1.heap.size + 1) (.loop (rec (if jump.isNone then .ready else .done) jump))) m2 s2 ∧
          Loc w0 b c r pb t2 G2 (W4.putObj (w1.heap.size + 1) (.loop (rec (if jump.isNone then .ready else .done) jump))) (w1.heap.size + 1) ∧ Loc w0 b c r pb t2 G2 (W4.putObj (w1.heap.size + 1) (.loop (rec (if jump.isNone then .ready else .done) jump))) w1.heap.size := fun jump W4 hk => by
        have q4 := (hk.same (w1.heap.size + 1) (.inr (.inr rfl)) (by omega)).trans m4
        have q5 := (hk.same w1.heap.size (.inr (.inl rfl)) (by omega)).trans m5
        have hrun := run_endRound (P := Tryd.prog) jump q4
        have hsz := hk.size
        have hlt : w1.heap.size + 1 < W4.heap.size := by omega
        have p6 : Loc w0 b c r pb t2 G2 W4 (w1.heap.size + 1) := k6.same (by omega)
        have p7 : Loc w0 b c r pb t2 G2 W4 w1.heap.size := k7.same (by omega)
        refine ⟨by rw [hrec] at hrun ⊢; exact hrun, World.putObj_heap_same hlt, (World.putObj_heap_other (by omega)).trans q5, ⟨by rw [World.putObj_size]; omega, fun z h1 h2 => ?_⟩, hk.aft.aside (But.putObj _ _ _) p6 (by have := hA.but.size; omega), p6.same (by simp), p7.same (by simp)⟩
        rw [World.putObj_heap_other (by omega), hk.same z (.inl h1) (by omega), hbut.block z (by omega) (by omega), hb2.block z h2]
      rintro e a3 W4 hp
      cases e with
      | normal =>
        obtain ⟨hf, hi3, hk⟩ := hp
        obtain ⟨f1, f2, f3, f4, f5, f6, f7⟩ := fin none W4 hk
        exact ⟨_, _, f1, f4, .inl ⟨rfl, hf, f5, hIz _ _ _ _ _ _ hi3 (But.putObj _ _ _) (.inr rfl), by rw [World.putObj_size]; have := hk.size; omega, f2, f3, f6, f7⟩⟩
      | ret =>
        obtain ⟨hf, hi3, hk⟩ := hp
        obtain ⟨f1, f2, f3, f4, f5, f6, f7⟩ := fin (some .ret) W4 hk
        exact ⟨_, _, f1, f4, .inr ⟨rfl, hf, f5, hXz _ _ _ _ _ _ hi3 (But.putObj _ _ _) (.inr rfl), f2, f3, f6, f7⟩⟩
      | exit id => exact hp.elim
      | goto l => exact hp.elim
      | panic ch => exact hp.elim
      | outgrown => exact hp.elim
    · -- behind the iterator
      intro e W2 hp
      rcases ho : (chainP next f n h1 x0).run s1 m1 with ⟨_ | _ | ⟨_ | _, x⟩, s2, m2⟩
      · rw [ho] at hp
        obtain ⟨rfl, x, t2, G2, j1, j2, j3, j4, j5, j6, j7⟩ := hp
        exact hhalt t2 G2 m2 s2 W2 ho j1 j5 j7
      · rw [ho] at hp
        exact hp.elim
      · rw [ho] at hp
        obtain ⟨⟨v, rfl⟩, t2, G2, j1, j2, j3, j4, j5, j6, j7⟩ := hp
        have hl := run_endLoop (P := Tryd.prog) j4 (by rw [hrec]; simp)
        rw [hrec] at hl
        exact ⟨none, _, hl, hdone x t2 G2 m2 s2 _ ho (j1.aside (But.putObj _ _ _) j6 (by have := hA.but.size; omega)) (hIz _ _ _ _ _ _ j2 (But.putObj _ _ _) (.inr rfl)) ((World.putObj_heap_other (by omega)).trans j5) (j7.same (by simp))⟩
      · rw [ho] at hp
        obtain ⟨⟨v, rfl⟩, t2, G2, j1, j2, j4, j5, j6, j7⟩ := hp
        have hl := run_endLoop (P := Tryd.prog) j4 (by rw [hrec]; simp)
        rw [hrec] at hl
        exact ⟨some .ret, _, hl, hstop x t2 G2 m2 s2 _ ho (j1.aside (But.putObj _ _ _) j6 (by have := hA.but.size; omega)) (hXz _ _ _ _ _ _ j2 (But.putObj _ _ _) (.inr rfl)) ((World.putObj_heap_other (by omega)).trans j5) (j7.same (by simp))⟩
end
end Go.Proofs.YtibimnibmengpaaDoor
/- What upTo comes to: the first age of a chain that isn't newer than a version. Conditions: at most 700000 asks; so many ages at most as are told. -/
namespace Go.Proofs.YtibimnibmengpaaDoor
open Go.RowKit Go.Op
set_option maxRecDepth 100000
attribute [local go_sem] Oper.semAt_some

/-- A load, a store in a round, by their runs. -/
theorem store_runI {F : Fence} {n : Nat} {P : Program} {w w' : World} {ops : Array Oper} {rest : List Oper} {o : Oper} {a : Act} {Q : Exit → Act → World → Prop} {v y : Value} (hgd : o.guard = none) (x z : Operand) (t : TypeId)
    (ho : o.op = .store t x z) (hx : a.eval x = v) (hz : a.eval z = y) (hr : (Instr.storeAt t v y).run P w = .ok () w') (h : wpListIn F n P ops Q rest (a.put o.dst undef) w') : wpListIn F n P ops Q (o :: rest) a w := by
  refine wpListIn_plain hgd fun K hK => ?_
  unfold Oper.wpIn
  refine ⟨?_, ?_⟩
  · simp [Oper.about, ho]
  · rw [Oper.semAt_plain F _ _ (by rw [ho]; intro c hc'; cases hc')]
    unfold execOp
    simp only [ho, hx, hz, Sem.run_bind, Sem.run_pure, Result.andThen_ok, hr]
    exact hK _ _ h
theorem load_runI {F : Fence} {n : Nat} {P : Program} {w : World} {ops : Array Oper} {rest : List Oper} {o : Oper} {a : Act} {Q : Exit → Act → World → Prop} {v u : Value} (hgd : o.guard = none) (x : Operand) (t : TypeId)
    (ho : o.op = .load t x) (hx : a.eval x = v) (hr : (Instr.loadAt t v).run P w = .ok u w) (h : wpListIn F n P ops Q rest (a.put o.dst u) w) : wpListIn F n P ops Q (o :: rest) a w := by
  refine wpListIn_plain hgd fun K hK => ?_
  unfold Oper.wpIn
  refine ⟨?_, ?_⟩
  · simp [Oper.about, ho]
  · rw [Oper.semAt_plain F _ _ (by rw [ho]; intro c hc'; cases hc')]
    unfold execOp
    simp only [ho, hx, Sem.run_bind, Sem.run_pure, Result.andThen_ok, hr]
    exact hK _ _ h
/-- The marks that a range over a function leaves, at the function's end. -/
theorem leave_ret {fn : Func} {ts : Array Value} {R : Ending → World → Prop} {W : World} {B : Nat} {v : Value} (hK : W.heap[B]? = some (.deferred (some []))) (hr : (results fn ts).run Tryd.prog (W.putObj B (.deferred none)) = .ok v (W.putObj B (.deferred none))) (hR : R (.returned v) (W.putObj B (.deferred none))) :
    LeavesInM Fence.wide 0 Tryd.prog fn ts R [{ target := .collected B, args := #[] }] .returning W :=
  ⟨by simp, .inl ⟨B, _, rfl, run_takeDeferred hK, v, hr, hR⟩⟩
theorem leave_die {fn : Func} {ts : Array Value} {R : Ending → World → Prop} {W : World} {B : Nat} {ch : List PanicEntry} (hK : W.heap[B]? = some (.deferred (some []))) (hR : R (.panicked ch) (W.putObj B (.deferred none))) :
    LeavesInM Fence.wide 0 Tryd.prog fn ts R [{ target := .collected B, args := #[] }] (.panicking ch) W :=
  ⟨by simp, .inl ⟨B, _, rfl, run_takeDeferred hK, hR⟩⟩
section
variable {w0 : World} {b c r pb po : Nat} {t t1 : Value} {G G1 : List (Nat × List Value)} {w w1 w2 : World} {m m1 : M} {s s1 : Pt}
/-- Variables of the caller's own. -/
def Vars (w0 : World) (b c r pb : Nat) (t : Value) (G : List (Nat × List Value)) (W : World) (L : List (Nat × List Value)) : Prop := ∀ x, x ∈ L → Loc w0 b c r pb t G W x.1 ∧ SVar W x.1 x.2
theorem Vars.aft {L : List (Nat × List Value)} (h : Vars w0 b c r pb t G w L) (ha : Aft w0 b c r pb po t G w t1 G1 w1 m1 s1) : Vars w0 b c r pb t1 G1 w1 L := fun x hx => ⟨((h x hx).1.aft ha).1, (h x hx).2.same ha.but.size ((h x hx).1.aft ha).2⟩
theorem Vars.but {L : List (Nat × List Value)} {z : Nat} (h : Vars w0 b c r pb t G w L) (hb : But z w w1) (hz : ∀ x, x ∈ L → x.1 ≠ z) : Vars w0 b c r pb t G w1 L := fun x hx => ⟨(h x hx).1.same hb.size, (h x hx).2.same hb.size (hb.block _ (h x hx).2.lt (hz x hx))⟩
theorem Vars.later {L : List (Nat × List Value)} (h : Vars w0 b c r pb t G w L) (hb : Below w.heap.size w w1) : Vars w0 b c r pb t G w1 L := fun x hx => ⟨(h x hx).1.same hb.size, (h x hx).2.later hb⟩
theorem Vars.nil : Vars w0 b c r pb t G w [] := fun x hx => (by cases hx)
theorem Vars.new {L : List (Nat × List Value)} (h : Vars w0 b c r pb t G w L) (hs : SysE w0 b c r pb po t G w m s) (row : List Value) (ty : TypeId) : Vars w0 b c r pb t G (w.alloc (.cells row.toArray ty)) ((w.heap.size, row) :: L) := fun x hx => by
  rcases List.mem_cons.1 hx with rfl | hx
  · exact ⟨hs.fresh _, snew w row ty⟩
  · exact h.later ((Below.refl _ _).alloc (Nat.le_refl _) _) x hx
theorem Vars.sub {L L' : List (Nat × List Value)} (h : Vars w0 b c r pb t G w L) (hs : ∀ x, x ∈ L' → x ∈ L) : Vars w0 b c r pb t G w L' := fun x hx => h x (hs x hx)
theorem chain_E (w : World) (p : Addr) (h : Int) (fid : FuncId) (fst cap : Array Value) :
    Calls Tryd.prog 64 #[.pointer (some p), .int .i64 h, .func (.func fid) fst cap] w fun e w' => e = .returned (.func (.func 84) #[] #[.pointer (some ⟨w.heap.size + 1, 0, none⟩), .pointer (some ⟨w.heap.size, 0, none⟩), .pointer (some ⟨w.heap.size + 2, 0, none⟩)]) ∧ w' = ((w.alloc (.cells #[.pointer (some p)] 36)).alloc (.cells #[.int .i64 h] 3)).alloc (.cells #[.func (.func fid) fst cap] 102) := by
  have hm := hmf
  go_enter Tryd.func64, Tryd.ntmps64
  go_wp2
  go_ret
  exact ⟨rfl, rfl⟩
end
end Go.Proofs.YtibimnibmengpaaDoor
/- What upTo comes to: the first age of a chain that isn't newer than a version. Conditions: at most 700000 asks; so many ages at most as are told. -/
namespace Go.Proofs.YtibimnibmengpaaDoor
open Go.RowKit Go.Op
set_option maxRecDepth 100000
attribute [local go_sem] Oper.semAt_some

def wordP (k : Int) : Pr (Int × Int) := .ask (.word k) fun a => .ret (a.n, a.err)
def upF (v : Int) (_ : Sp × Int) (sp : Sp) (err : Int) : Option (Bool × (Sp × Int)) := some (if err = 0 then (if sp.a.r.ver ≤ v then (false, (sp, 0)) else (true, (sp0, 0))) else (false, (sp0, err)))
/-- None: more ages than so many. -/
def upP (n : Nat) (hd v : Int) : Pr (Option (Sp × Int)) := (wordP hd).bind fun a => if a.2 = 0 then (chainP wordP (upF v) n a.1 (sp0, 0)).bind fun o => .ret (o.map Prod.snd) else .ret (some (sp0, a.2))
def RUp (G' : List (Nat × List Value)) (a : Option (Sp × Int)) (v : Value) : Prop := ∃ x p, a = some x ∧ x.1.a.d.In G' p ∧ v = .tuple #[x.1.v p, .int .i64 x.2]
theorem wordP_count (k : Int) (s : Pt) (m : M) : ((wordP k).run s m).2.2.count ≤ m.count + 2 ∧ ((wordP k).run s m).2.2.count ≤ m.count + 1 := by
  rw [wordP, Pr.run_ask]
  have h := ask_count s (.word k) m
  rcases ha : s.ask (.word k) m with ⟨_ | a, s', m'⟩
  all_goals
    rw [ha] at h
    simp only [Pr.run] at h ⊢
    omega
def spobj : Obj := .cells #[.int .i64 0, .int .i64 0, .int .i64 0, .string { data := #[] }, .string { data := #[] }, .bool false, .bool false, .slice none 0 0, .slice none 0 0, .slice none 0 0, .slice none 0 0, .int .i64 0] 99
section
variable {w0 : World} {b c r pb po : Nat} {t t1 : Value} {G G1 : List (Nat × List Value)} {w w1 w2 : World} {m m1 : M} {s s1 : Pt}
theorem eword2 (h : SysE w0 b c r pb po t G w m s) (hc : m.count ≤ 900000) (k : Int) :
    Calls Tryd.prog 48 #[.pointer (some ⟨pb, po, none⟩), .int .i64 k] w fun e w' => Ev w0 b c r pb po t G w RInt2 ((wordP k).run s m) e w' := by
  refine (eword h hc k).mono fun e w' hE => ?_
  rcases hE.cases with ⟨t1, G1, s1, m1, ho, rfl, ha⟩ | ⟨t1, G1, s1, m1, a, v, ho, rfl, rfl, ha⟩
  · exact Ev.die (by rw [wordP, Pr.run_ask, ho]) ha
  · exact Ev.ret (a := (a.n, a.err)) (by rw [wordP, Pr.run_ask, ho]; simp only [Pr.run]) rfl ha
theorem SVar.loadInt {z : Nat} {k : Int} (h : SVar w z [.int .i64 k]) : (Go.loadVar 39 ⟨z, 0, none⟩).run Tryd.prog w = .ok (.int .i64 k) w := by
  have := h.cell (i := 0) rfl
  go_simp
/-- Two variables of the caller's own are stored into. -/
structure Put2 (w0 : World) (b c r pb po : Nat) (t : Value) (G : List (Nat × List Value)) (w : World) (t2 : Value) (G2 : List (Nat × List Value)) (m2 : M) (s2 : Pt) (W : World) (z6 z7 : Nat) (row : List Value) (k e : Int) (W6 W7 : World) : Prop where
  aft : Aft w0 b c r pb po t G w t2 G2 W7 m2 s2
  v6 : SVar W7 z6 row
  v7 : SVar W7 z7 [.int .i64 e]
  l6 : Loc w0 b c r pb t2 G2 W7 z6
  l7 : Loc w0 b c r pb t2 G2 W7 z7
  mid : SVar W6 z7 [.int .i64 k]
  size : W.heap.size ≤ W7.heap.size
  same : ∀ z, z ≠ z6 → z ≠ z7 → z < W.heap.size → W7.heap[z]? = W.heap[z]?
theorem put2 {t2 : Value} {G2 : List (Nat × List Value)} {m2 : M} {s2 : Pt} {W : World} {z6 z7 : Nat} {row row' : List Value} {k : Int} (hA : Aft w0 b c r pb po t G w t2 G2 W m2 s2) (l6 : Loc w0 b c r pb t2 G2 W z6) (v6 : SVar W z6 row) (l7 : Loc w0 b c r pb t2 G2 W z7) (v7 : SVar W z7 [.int .i64 k]) (hne : z6 ≠ z7) (h6 : w.heap.size ≤ z6) (h7 : w.heap.size ≤ z7) (hl : row'.length = row.length) (e : Int) :
    Put2 w0 b c r pb po t G w t2 G2 m2 s2 W z6 z7 row' k e (sput W z6 row') ((sput W z6 row').setCell ⟨z7, 0, none⟩ (.int .i64 e)) := by
  have b6 := But.sput W z6 row'
  have b7 : But z7 (sput W z6 row') ((sput W z6 row').setCell ⟨z7, 0, none⟩ (.int .i64 e)) := (But.refl _ _).set _ _
  have q6 := v6.put hl
  have q7 := v7.same b6.size (b6.block _ v7.lt (Ne.symm hne))
  exact ⟨(hA.aside b6 l6 h6).aside b7 (l7.same b6.size) h7, q6.same b7.size (b7.block _ q6.lt hne), q7.set (i := 0) (by simp) _, (l6.same b6.size).same b7.size, (l7.same b6.size).same b7.size, q7, Nat.le_trans b6.size b7.size, fun z h1 h2 h3 => (b7.block z (Nat.lt_of_lt_of_le h3 b6.size) h2).trans (b6.block z h3 h1)⟩
theorem he37 (zs : Array Value) (w : World) : (callFunc 48 zs).run Tryd.prog w = .ok (.enter 48 zs) w := by kernel_rfl
set_option maxHeartbeats 2000000 in
theorem upTo_E (h : SysE w0 b c r pb po t G w m s) (n : Nat) (hc : m.count + 3 * (n : Int) ≤ 700000) (nd : Nd) (p : Pl) (v : Int) (hne : ((upP n nd.head v).run s m).1 ≠ some none) :
    Calls Tryd.prog 47 #[.pointer (some ⟨pb, po, none⟩), nd.v p, .int .i64 v] w fun e w' => Ev w0 b c r pb po t G w RUp ((upP n nd.head v).run s m) e w' := by
  obtain ⟨wa, hwa⟩ : ∃ W, W = (((w.alloc (.cells (nd.row p).toArray 38)).alloc (.cells #[.int .i64 v] 3)).alloc (.cells (sp0.row .nil).toArray 99)).alloc (.cells #[.int .i64 0] 39) := ⟨_, rfl⟩
  have ba : Below w.heap.size w wa := by
    rw [hwa]
    exact (((((Below.refl _ w).alloc (Nat.le_refl _) _).alloc (by simp) _).alloc (by simp; omega) _).alloc (by simp; omega) _)
  have hza : wa.heap.size = w.heap.size + 4 := by rw [hwa]; simp
  have V1 := (Vars.nil (w := w)).new h (nd.row p) 38
  have h1 := h.later ((Below.refl w.heap.size w).alloc (Nat.le_refl _) (.cells (nd.row p).toArray 38))
  have V2 := V1.new h1 [.int .i64 v] 3
  have h2 := h1.later ((Below.refl _ _).alloc (Nat.le_refl _) (.cells #[.int .i64 v] 3))
  have V3 := V2.new h2 (sp0.row .nil) 99
  have h3 := h2.later ((Below.refl _ _).alloc (Nat.le_refl _) (.cells (sp0.row .nil).toArray 99))
  have V4 := V3.new h3 [.int .i64 0] 39
  simp only [World.size_alloc] at V4
  have e4 : ((((w.alloc (.cells (nd.row p).toArray 38)).alloc (.cells [Value.int .i64 v].toArray 3)).alloc (.cells (sp0.row .nil).toArray 99)).alloc (.cells [Value.int .i64 0].toArray 39)) = wa := hwa.symm
  rw [e4] at V4
  have hl := eword2 (h.later ba) (by omega) nd.head
  have hct := (wordP_count nd.head s m).2
  have HW := Lib.hid hwa.symm
  have HB := Lib.hid ba
  have HV := Lib.hid V4
  have HS := Lib.hid hza
  have c4 := (V4 (w.heap.size, nd.row p) (by simp)).2.cell (i := 1) rfl
  simp only [Nd.row, Sp.row, Ag.row, sp0, ag0, rv0, Pl.nil, Sl.nil] at HW
  unfold Nd.v
  clear h hwa ba V1 h1 V2 h2 V3 h3 V4 e4 hza
  refine (callsIn_wide (n := 0)).1 (callsIn_of_wp_marks Tryd.func47 rfl trivial ?_ rfl)
  simp only [Tryd.ntmps47, List.size_toArray, List.length_cons, List.length_nil, Nat.reduceAdd, Nat.reduceSub, Array.replicate_succ, Array.replicate_zero, List.push_toArray, List.append_toArray, List.nil_append, List.cons_append]
  gi_wp2_with (first | rw [HW.out] | fail)
  refine ⟨trivial, rfl, (callsIn_wide.2 hl).mono ?_⟩
  rintro e w1 hE
  rcases hE.cases with ⟨t1, G1, s1, m1, ho, rfl, ha⟩ | ⟨t1, G1, s1, m1, a, v1, ho, rfl, rfl, ha⟩
  · have HX : Hid (Ev w0 b c r pb po t G w RUp ((upP n nd.head v).run s m) (Halt pb po) w1) := Ev.die (by rw [upP, Pr.bind_none ho]) (ha.back HB.out)
    clear hl hE ho ha
    unfold Halt
    gi_wp2
    exact HX.out
  rw [ho] at hct
  simp only at hct
  have hV := HV.out.aft ha
  have ha1 := ha.back HB.out
  have hrun1 : (upP n nd.head v).run s m = _ := Pr.bind_some (f := fun a : Int × Int => if a.2 = 0 then (chainP wordP (upF v) n a.1 (sp0, 0)).bind fun o => .ret (o.map Prod.snd) else .ret (some (sp0, a.2))) ho
  have hz1 : w.heap.size + 4 ≤ w1.heap.size := by rw [← HS.out]; exact ha.but.size
  by_cases herr : a.2 = 0
  · rw [if_pos herr] at hrun1
    have hch := chain_E w1 ⟨pb, po, none⟩ a.1 48 #[.pointer (some ⟨pb, po, none⟩)] #[]
    obtain ⟨wb, hwb⟩ : ∃ W, W = ((w1.alloc (.cells #[.pointer (some ⟨pb, po, none⟩)] 36)).alloc (.cells #[.int .i64 a.1] 3)).alloc (.cells #[.func (.func 48) #[.pointer (some ⟨pb, po, none⟩)] #[]] 102) := ⟨_, rfl⟩
    have bb : Below w1.heap.size w1 wb := by
      rw [hwb]
      exact ((((Below.refl _ w1).alloc (Nat.le_refl _) _).alloc (by simp) _).alloc (by simp; omega) _)
    have U1 := hV.new ha.sys [.pointer (some ⟨pb, po, none⟩)] 36
    have g1 := ha.sys.later ((Below.refl w1.heap.size w1).alloc (Nat.le_refl _) (.cells [Value.pointer (some ⟨pb, po, none⟩)].toArray 36))
    have U2 := U1.new g1 [.int .i64 a.1] 3
    have g2 := g1.later ((Below.refl _ _).alloc (Nat.le_refl _) (.cells [Value.int .i64 a.1].toArray 3))
    have U3 := U2.new g2 [.func (.func 48) #[.pointer (some ⟨pb, po, none⟩)] #[]] 102
    simp only [World.size_alloc] at U3
    have e3 : (((w1.alloc (.cells [Value.pointer (some ⟨pb, po, none⟩)].toArray 36)).alloc (.cells [Value.int .i64 a.1].toArray 3)).alloc (.cells [Value.func (.func 48) #[.pointer (some ⟨pb, po, none⟩)] #[]].toArray 102)) = wb := hwb.symm
    rw [e3] at U3
    have ab := ha1.later bb
    have HA := Lib.hid ab
    have HU := Lib.hid U3
    have HWb := Lib.hid hwb
    have HRun := Lib.hid hrun1
    have HCt := Lib.hid hct
    have HZ := Lib.hid (Nat.le_trans hz1 bb.size)
    have hm := hmf
    rw [herr]
    clear hl hE ho ha hV ha1 hrun1 hz1 hwb bb U1 g1 U2 g2 U3 e3 ab herr HW HB HV hct
    gi_wp2_with fail
    refine ⟨trivial, rfl, (callsIn_wide.2 hch).mono ?_⟩
    rintro e w2 ⟨rfl, rfl⟩
    rw [← HWb.out]
    clear hch
    gi_wp2_with fail
    obtain ⟨L, hL⟩ : ∃ L : List (Nat × List Value), L = [(w.heap.size + 1, [.int .i64 v]), (w.heap.size + 1 + 1, sp0.row .nil), (w.heap.size + 1 + 1 + 1, [.int .i64 0]), (w1.heap.size, [.pointer (some ⟨pb, po, none⟩)]), (w1.heap.size + 2, [.func (.func 48) #[.pointer (some ⟨pb, po, none⟩)] #[]])] := ⟨_, rfl⟩
    have hUL : Vars w0 b c r pb t1 G1 wb L := HU.out.sub (fun x hx => by
      rw [hL] at hx
      simp only [List.mem_cons, List.not_mem_nil, or_false] at hx ⊢
      rcases hx with rfl | rfl | rfl | rfl | rfl <;> simp)
    have hlt : ∀ x, x ∈ L → x.1 < wb.heap.size := fun x hx => (hUL x hx).2.lt
    have hm5 : (w.heap.size + 1, [Value.int .i64 v]) ∈ L := by rw [hL]; simp
    have hm6 : (w.heap.size + 1 + 1, sp0.row .nil) ∈ L := by rw [hL]; simp
    have hm7 : (w.heap.size + 1 + 1 + 1, [Value.int .i64 0]) ∈ L := by rw [hL]; simp
    have hmp : (w1.heap.size, [Value.pointer (some ⟨pb, po, none⟩)]) ∈ L := by rw [hL]; simp
    have hmn : (w1.heap.size + 2, [Value.func (.func 48) #[.pointer (some ⟨pb, po, none⟩)] #[]]) ∈ L := by rw [hL]; simp
    have hh : wb.cell? ⟨w1.heap.size + 1, 0, none⟩ = some (.int .i64 a.1) := (HU.out (w1.heap.size + 1, [.int .i64 a.1]) (by simp)).2.cell (i := 0) rfl
    clear hL
    have hlast : ∀ (x : Sp × Int) (q : Pl) t2 G2 m2 s2 W7, (upP n nd.head v).run s m = (some (some x), s2, m2) → Aft w0 b c r pb po t G w t2 G2 W7 m2 s2 → x.1.a.d.In G2 q → SVar W7 (w.heap.size + 1 + 1) (x.1.row q) → SVar W7 (w.heap.size + 1 + 1 + 1) [.int .i64 x.2] → W7.heap[wb.heap.size]? = some (.deferred (some [])) → Loc w0 b c r pb t2 G2 W7 wb.heap.size → ∀ ts : Array Value, ts.getD 6 undef = .pointer (some ⟨w.heap.size + 1 + 1, 0, none⟩) → ts.getD 7 undef = .pointer (some ⟨w.heap.size + 1 + 1 + 1, 0, none⟩) → bodyPostM Fence.wide 0 Tryd.prog Tryd.f47 (fun e w' => Ev w0 b c r pb po t G w RUp ((upP n nd.head v).run s m) e w') .ret { tmps := ts, defers := [{ target := .collected wb.heap.size, args := #[] }] } W7 := by
      intro x q t2 G2 m2 s2 W7 hrun hA2 hin v6 v7 hK hlD ts h6 h7
      have hz := HZ.out
      have bd := But.putObj W7 wb.heap.size (.deferred none)
      have q6 := v6.same bd.size (bd.block _ v6.lt (by omega))
      have q7 := v7.same bd.size (bd.block _ v7.lt (by omega))
      exact leave_ret hK (res_cc Tryd.results47 h6 h7 (q6.loadVar sh84) (SVar.loadInt q7)) (Ev.ret hrun ⟨x, q, rfl, hin, rfl⟩ (hA2.aside bd hlD (by omega)))
    have HLast := Lib.hid hlast
    have hz := HZ.out
    have hrw : ∀ o, (chainP wordP (upF v) n a.1 (sp0, 0)).run s1 m1 = o → (upP n nd.head v).run s m = (match o with
        | (some o, s', m') => (some (o.map Prod.snd), s', m')
        | (none, s', m') => (none, s', m')) := by
      intro o ho
      rw [HRun.out, Pr.run_bind, ho]
      rcases o with ⟨_ | o, s', m'⟩
      · rfl
      · rfl
    have HRw := Lib.hid hrw
    clear hrw
    refine wp_chain (w0 := w0) (b := b) (c := c) (r := r) (pb := pb) (po := po) (t := t) (G := G) (w := w) (σ := Sp × Int) wordP (upF v) 48 #[.pointer (some ⟨pb, po, none⟩)] #[] rfl rfl HA.out
      (fun x t2 G2 W => x = (sp0, 0) ∧ Vars w0 b c r pb t2 G2 W L)
      (fun x t2 G2 W => ∃ q, x.1.a.d.In G2 q ∧ Vars w0 b c r pb t2 G2 W [(w.heap.size + 1 + 1, x.1.row q), (w.heap.size + 1 + 1 + 1, [.int .i64 x.2])])
      (fun x t2 G2 W t3 G3 m3 s3 W' ⟨e, V⟩ ha => ⟨e, V.aft ha⟩)
      (fun x t2 G2 W W' z ⟨e, V⟩ hb hz2 => ⟨e, V.but hb fun y hy => by have := hlt y hy; rcases hz2 with e2 | e2 <;> rw [e2] <;> omega⟩)
      (fun x t2 G2 W W' z ⟨q, e, V⟩ hb hz2 => ⟨q, e, V.but hb fun y hy => by
        simp only [List.mem_cons, List.not_mem_nil, or_false] at hy
        rcases hy with rfl | rfl <;> rcases hz2 with e2 | e2 <;> rw [e2] <;> simp only <;> omega⟩)
      (fun x t2 G2 W ⟨e, V⟩ => ⟨(V _ hmp).2.cell (i := 0) rfl, (V _ hmn).2.cell (i := 0) rfl⟩)
      (fun z sp q err => { tmps := #[.pointer (some ⟨pb, po, none⟩), .agg #[.string nd.low, .int .i64 nd.head, .slice p.s0.a p.s0.n p.s0.cap], .int .i64 v, undef, .pointer (some ⟨w.heap.size, 0, none⟩), .pointer (some ⟨w.heap.size + 1, 0, none⟩), .pointer (some ⟨w.heap.size + 1 + 1, 0, none⟩), .pointer (some ⟨w.heap.size + 1 + 1 + 1, 0, none⟩), .int .i64 a.1, .int .i64 0, .pointer (some ⟨z, 0, none⟩), .int .i64 err, .tuple #[.int .i64 a.1, .int .i64 0], .pointer (some ⟨pb, po, none⟩), .pointer (some ⟨w.heap.size, 1, none⟩), .int .i64 nd.head, .tuple #[.int .i64 a.1, .int .i64 0], .int .i64 a.1, .int .i64 0, .int .i64 0, .bool false, undef, undef, .pointer (some ⟨pb, po, none⟩), .int .i64 a.1, .pointer (some ⟨pb, po, none⟩), .func (.func 48) #[.pointer (some ⟨pb, po, none⟩)] #[], .func (.func 84) #[] #[.pointer (some ⟨w1.heap.size + 1, 0, none⟩), .pointer (some ⟨w1.heap.size, 0, none⟩), .pointer (some ⟨w1.heap.size + 2, 0, none⟩)], sp.v q, .int .i64 err, undef, undef, undef, undef, undef, undef, undef, undef, undef, undef, undef, undef], defers := [] })
      ?assign ?body he37 (fun k x t2 G2 m2 s2 W hS hI hcc => eword2 hS (by omega) k) (fun k s m => (wordP_count k s m).1) n a.1 (sp0, 0) ⟨rfl, hUL⟩ hh (by have := HCt.out; omega) ?ne ?done ?stop ?halt
    case ne =>
      intro e
      rcases ho : (chainP wordP (upF v) n a.1 (sp0, 0)).run s1 m1 with ⟨o, s', m'⟩
      rw [ho] at e
      cases o with
      | none => cases e
      | some o =>
        cases o with
        | none => exact hne (by rw [HRw.out _ ho]; rfl)
        | some o => cases e
    case assign =>
      intro l sp q err W K hK
      unfold Sp.v
      unfold Sp.v at hK
      simp only [Sp.row, Ag.row] at hK
      gi_wp2
      exact hK
    case body =>
      rintro l x sp q err y0 t2 G2 m2 s2 Wa W z hfy hA2 - ⟨rfl, V⟩ - hza hzb - hv hin
      obtain rfl := Option.some.inj hfy
      clear hfy
      have hkeep : ∀ (y : Sp × Int) (q' : Pl) (W6 W7 : World), y.1.a.d.In G2 q' → Put2 w0 b c r pb po t G w t2 G2 m2 s2 W (w.heap.size + 1 + 1) (w.heap.size + 1 + 1 + 1) (y.1.row q') 0 y.2 W6 W7 → (y.1.a.d.In G2 q' ∧ Vars w0 b c r pb t2 G2 W7 [(w.heap.size + 1 + 1, y.1.row q'), (w.heap.size + 1 + 1 + 1, [.int .i64 y.2])]) ∧ BKeep w0 b c r pb po t G w wb.heap.size t2 G2 m2 s2 Wa W W7 := fun y q' W6 W7 hin' hp => by
        refine ⟨⟨hin', fun x hx => ?_⟩, hp.aft, hp.size, fun z' h1 h2 => hp.same z' (by omega) (by omega) h2⟩
        simp only [List.mem_cons, List.not_mem_nil, or_false] at hx
        rcases hx with rfl | rfl
        · exact ⟨hp.l6, hp.v6⟩
        · exact ⟨hp.l7, hp.v7⟩
      have HKp := Lib.hid hkeep
      have hne : w.heap.size + 1 + 1 ≠ w.heap.size + 1 + 1 + 1 := by omega
      clear hkeep
      by_cases herr : err = 0
      · subst herr
        have c1 := hv.cell (i := 1) rfl
        have c5 := (V _ hm5).2.cell (i := 0) rfl
        by_cases hver : sp.a.r.ver ≤ v
        · have hf : (if (0 : Int) = 0 then (if sp.a.r.ver ≤ v then (false, (sp, (0 : Int))) else (true, (sp0, 0))) else (false, (sp0, 0))) = (false, (sp, 0)) := by rw [if_pos rfl, if_pos hver]
          have hp := put2 hA2 (V _ hm6).1 (V _ hm6).2 (V _ hm7).1 (V _ hm7).2 hne (by simp only; omega) (by simp only; omega) (row' := sp.row q) rfl 0
          have hld := hv.load sh84
          have hst := (V _ hm6).2.store (row' := sp.row q) rfl sh84 (sp.row_one q)
          have c7 := hp.mid.cell (i := 0) rfl
          have f7 := hp.mid.fz
          have HX := Lib.hid (HKp.out (sp, 0) q _ _ hin hp)
          simp only at hst
          generalize sput W (w.heap.size + 1 + 1) (sp.row q) = W6 at hst c7 f7 HX
          rw [hf]
          clear hA2 V hv hp hf HKp
          gi_wp2_with (first | ((with_reducible refine load_runI ?_ (.tmp 10) 99 ?_ ?_ hld ?_); exact rfl; exact rfl; exact rfl) | ((with_reducible refine store_runI ?_ (.tmp 6) (.tmp 40) 99 ?_ ?_ ?_ hst ?_); exact rfl; exact rfl; exact rfl; exact rfl))
          exact ⟨rfl, ⟨q, HX.out.1.1, HX.out.1.2⟩, HX.out.2⟩
        · have hf : (if (0 : Int) = 0 then (if sp.a.r.ver ≤ v then (false, (sp, (0 : Int))) else (true, (sp0, 0))) else (false, (sp0, 0))) = (true, (sp0, 0)) := by rw [if_pos rfl, if_neg hver]
          have HX : Hid (Vars w0 b c r pb t2 G2 W L ∧ BKeep w0 b c r pb po t G w wb.heap.size t2 G2 m2 s2 Wa W W) := ⟨V, hA2, Nat.le_refl _, fun _ _ _ => rfl⟩
          rw [hf]
          clear hA2 V hv hf HKp
          gi_wp2
          exact ⟨rfl, ⟨rfl, HX.out.1⟩, HX.out.2⟩
      · have hf : (if err = 0 then (if sp.a.r.ver ≤ v then (false, (sp, (0 : Int))) else (true, (sp0, 0))) else (false, (sp0, err))) = (false, (sp0, err)) := by rw [if_neg herr]
        have hp := put2 hA2 (V _ hm6).1 (V _ hm6).2 (V _ hm7).1 (V _ hm7).2 hne (by simp only; omega) (by simp only; omega) (row' := sp0.row .nil) rfl err
        have hst := (V _ hm6).2.store (row' := sp0.row .nil) rfl sh84 (sp0.row_one .nil)
        have c7 := hp.mid.cell (i := 0) rfl
        have f7 := hp.mid.fz
        have HX := Lib.hid (HKp.out (sp0, err) .nil _ _ rv0_in hp)
        simp only at hst
        generalize sput W (w.heap.size + 1 + 1) (sp0.row .nil) = W6 at hst c7 f7 HX
        simp only [Sp.row, Ag.row, sp0, ag0, rv0, Pl.nil, Sl.nil] at hst
        rw [hf]
        clear hA2 V hv hp hf HKp
        gi_wp2_with (first | ((with_reducible refine store_runI ?_ (.tmp 6) (.tmp 32) 99 ?_ ?_ ?_ hst ?_); exact rfl; exact rfl; exact rfl; exact rfl))
        exact ⟨rfl, ⟨.nil, HX.out.1.1, HX.out.1.2⟩, HX.out.2⟩
    case done =>
      rintro x t2 G2 m2 s2 W ho hA2 ⟨rfl, V⟩ hK hlD
      have hne : w.heap.size + 1 + 1 ≠ w.heap.size + 1 + 1 + 1 := by omega
      have hp := put2 hA2 (V _ hm6).1 (V _ hm6).2 (V _ hm7).1 (V _ hm7).2 hne (by simp only; omega) (by simp only; omega) (row' := sp0.row .nil) rfl 0
      have hst := (V _ hm6).2.store (row' := sp0.row .nil) rfl sh84 (sp0.row_one .nil)
      have c7 := hp.mid.cell (i := 0) rfl
      have f7 := hp.mid.fz
      have hD := (hp.same wb.heap.size (by simp only; omega) (by simp only; omega) hlD.lt).trans hK
      have HX := Lib.hid (HLast.out (sp0, 0) .nil t2 G2 m2 s2 _ (HRw.out _ ho) hp.aft rv0_in hp.v6 hp.v7 hD (hlD.same hp.size))
      simp only at hst
      generalize sput W (w.heap.size + 1 + 1) (sp0.row .nil) = W6 at hst c7 f7 HX
      simp only [Sp.row, Ag.row, sp0, ag0, rv0, Pl.nil, Sl.nil] at hst
      clear hA2 V hp hD hK hlD ho
      gi_wp2_with (first | ((with_reducible refine store_runI ?_ (.tmp 6) (.tmp 41) 99 ?_ ?_ ?_ hst ?_); exact rfl; exact rfl; exact rfl; exact rfl))
      refine HX.out _ ?_ ?_
      · rfl
      · rfl
    case stop =>
      rintro x t2 G2 m2 s2 W ho hA2 ⟨q, hin, V⟩ hK hlD
      have HX := Lib.hid (HLast.out x q t2 G2 m2 s2 W (HRw.out _ ho) hA2 hin (V (w.heap.size + 1 + 1, x.1.row q) (by simp)).2 (V (w.heap.size + 1 + 1 + 1, [.int .i64 x.2]) (by simp)).2 hK hlD)
      clear hA2 V hK hlD ho
      gi_wp2
      refine HX.out _ ?_ ?_
      · rfl
      · rfl
    case halt =>
      rintro t2 G2 m2 s2 W ho hA2 hK hlD
      have hrun := HRw.out _ ho
      have hX : Ev w0 b c r pb po t G w RUp ((upP n nd.head v).run s m) (Halt pb po) (W.putObj wb.heap.size (.deferred none)) := Ev.die hrun (hA2.aside (But.putObj _ _ _) hlD (by omega))
      exact leave_die hK hX
  · rw [if_neg herr] at hrun1
    have v6 := (hV (w.heap.size + 1 + 1, sp0.row .nil) (by simp)).2
    have v7 := (hV (w.heap.size + 1 + 1 + 1, [.int .i64 0]) (by simp)).2
    have l6 := (hV (w.heap.size + 1 + 1, sp0.row .nil) (by simp)).1
    have l7 := (hV (w.heap.size + 1 + 1 + 1, [.int .i64 0]) (by simp)).1
    have hst := v6.store (row' := sp0.row .nil) rfl sh84 (sp0.row_one .nil)
    have q6 := v6.put (row' := sp0.row .nil) rfl
    have bt := But.sput w1 (w.heap.size + 1 + 1) (sp0.row .nil)
    have q7 := v7.same bt.size (bt.block _ v7.lt (by omega))
    have ha2 := ha1.aside bt l6 (by omega)
    have m7 := l7.same bt.size
    generalize sput w1 (w.heap.size + 1 + 1) (sp0.row .nil) = W at hst q6 q7 ha2 m7
    have c7 := q7.cell (i := 0) rfl
    have f7 := q7.fz
    have b7 : But (w.heap.size + 1 + 1 + 1) W (W.setCell ⟨w.heap.size + 1 + 1 + 1, 0, none⟩ (.int .i64 a.2)) := (But.refl _ _).set _ _
    have HX : Hid (Ev w0 b c r pb po t G w RUp ((upP n nd.head v).run s m) (.returned (.tuple #[sp0.v .nil, .int .i64 a.2])) (W.setCell ⟨w.heap.size + 1 + 1 + 1, 0, none⟩ (.int .i64 a.2)) ∧ (Go.loadVar 99 ⟨w.heap.size + 1 + 1, 0, none⟩).run Tryd.prog (W.setCell ⟨w.heap.size + 1 + 1 + 1, 0, none⟩ (.int .i64 a.2)) = .ok (sp0.v .nil) (W.setCell ⟨w.heap.size + 1 + 1 + 1, 0, none⟩ (.int .i64 a.2)) ∧ (Go.loadVar 39 ⟨w.heap.size + 1 + 1 + 1, 0, none⟩).run Tryd.prog (W.setCell ⟨w.heap.size + 1 + 1 + 1, 0, none⟩ (.int .i64 a.2)) = .ok (.int .i64 a.2) (W.setCell ⟨w.heap.size + 1 + 1 + 1, 0, none⟩ (.int .i64 a.2))) :=
      ⟨Ev.ret (a := some (sp0, a.2)) (by rw [hrun1]; simp only [Pr.run]) ⟨_, .nil, rfl, rv0_in, rfl⟩ (ha2.aside b7 m7 (by omega)), (q6.same b7.size (b7.block _ q6.lt (by omega))).loadVar sh84, SVar.loadInt (q7.set (i := 0) (by simp) _)⟩
    simp only [Sp.row, Ag.row, sp0, ag0, rv0, Pl.nil, Sl.nil] at hst
    clear hl hE ho ha hV ha1 hrun1 v6 v7 l6 l7 q6 q7 bt ha2 m7 b7
    gi_wp2_with (first | ((with_reducible refine store_runI ?_ (.tmp 6) (.tmp 21) 99 ?_ ?_ ?_ hst ?_); exact rfl; exact rfl; exact rfl; exact rfl))
    exact ⟨_, res_cc Tryd.results47 rfl rfl HX.out.2.1 HX.out.2.2, HX.out.1⟩
end
end Go.Proofs.YtibimnibmengpaaDoor
/- What Newest and At come to. Conditions: at most 700000 asks; so many ages at most as are told. -/
namespace Go.Proofs.YtibimnibmengpaaDoor
open Go.RowKit Go.Op
set_option maxRecDepth 100000

def newestP (n : Nat) (hd : Int) : Pr (Option (Sp × Int)) := upP n hd 9223372036854775807
def RNew (G' : List (Nat × List Value)) (a : Option (Sp × Int)) (v : Value) : Prop := ∃ x p, a = some x ∧ x.1.a.d.In G' p ∧ v = .tuple #[.int .i64 x.1.h, x.1.a.v p, .int .i64 x.2]
def RAt (G' : List (Nat × List Value)) (a : Option (Sp × Int)) (v : Value) : Prop := ∃ x p, a = some x ∧ x.1.a.d.In G' p ∧ v = .tuple #[x.1.a.v p, .bool (x.1.h != 0), .int .i64 x.2]
/-- Within a region with one store; a cell that stays. -/
structure OneMid (w2 : World) (a : Addr) (h : Int) (P : World → Prop) (bs : List Bool) (_ : Nat → Value) (W : World) : Prop where
  one : bs[0]? = some false → Below w2.heap.size w2 W
  two : bs[0]? = some true → P W
  cell : W.cell? a = some (.int .i64 h)
theorem one_start {w2 : World} {a : Addr} {h : Int} {P : World → Prop} {β : Nat → Value} (hc : w2.cell? a = some (.int .i64 h)) : OneMid w2 a h P [false] β w2.drew := ⟨fun _ => (Below.refl _ _).drew, fun e => (by cases e), hc⟩
theorem cmp_neq3c {a k : Int} {r : Bool} (xo : Operand) (w : World) (h : (a != k) = r) : (eqGuard .neq 3 xo (.const (.int .i64 k)) (.int .i64 a) (.int .i64 k)).run Tryd.prog w = .ok () w ∧ (binOp .neq 3 (.int .i64 a) (.int .i64 k)).run Tryd.prog w = .ok (.bool r) w :=
  ⟨by simp [eqGuard], by subst h; go_simp⟩
theorem Sp.ageAt {w : World} {z : Nat} {x : Sp} {p : Pl} (h : SVar w z (x.row p)) : w.rangeAt z 1 (x.a.row p) := h.mid 1 _ fun j v hj => by
  rw [Nat.add_comm]; exact hj
section
variable {w0 : World} {b c r pb po : Nat} {t t1 : Value} {G G1 : List (Nat × List Value)} {w w1 w2 : World} {m m1 : M} {s s1 : Pt}
set_option maxHeartbeats 1000000 in
theorem Newest_E (h : SysE w0 b c r pb po t G w m s) (n : Nat) (hc : m.count + 3 * (n : Int) ≤ 700000) (nd : Nd) (p : Pl) (hne : ((newestP n nd.head).run s m).1 ≠ some none) :
    Calls Tryd.prog 22 #[.pointer (some ⟨pb, po, none⟩), nd.v p] w fun e w' => Ev w0 b c r pb po t G w RNew ((newestP n nd.head).run s m) e w' := by
  obtain ⟨wa, hwa⟩ : ∃ W, W = (w.alloc (.cells (nd.row p).toArray 38)).alloc aobj := ⟨_, rfl⟩
  have ba : Below w.heap.size w wa := by
    rw [hwa]
    exact ((Below.refl _ w).alloc (Nat.le_refl _) _).alloc (by simp) _
  have V1 := (Vars.nil (w := w)).new h (nd.row p) 38
  have h1 := h.later ((Below.refl w.heap.size w).alloc (Nat.le_refl _) (.cells (nd.row p).toArray 38))
  have V2 := V1.new h1 (ag0.row .nil) 57
  simp only [World.size_alloc] at V2
  have e2 : ((w.alloc (.cells (nd.row p).toArray 38)).alloc (.cells (ag0.row .nil).toArray 57)) = wa := hwa.symm
  rw [e2] at V2
  have hl := upTo_E (h.later ba) n hc nd p 9223372036854775807 hne
  have HW := Lib.hid hwa.symm
  have HB := Lib.hid ba
  have HV := Lib.hid V2
  have hld := (V2 (w.heap.size, nd.row p) (by simp)).2.load sh27
  simp only [Nd.row, aobj] at HW hld
  unfold Nd.v at hl
  unfold Nd.v
  have mixed : Tryd.prog.follows .mixedOrders = true := by kernel_rfl
  clear h hwa ba V1 h1 V2 e2 hc hne
  go_enter Tryd.func22, Tryd.ntmps22
  go_wp2_with (first | rw [HW.out] | ((with_reducible refine load_run ?_ (.tmp 3) 38 ?_ ?_ hld ?_); exact rfl; exact rfl; exact rfl) | fail)
  refine hl.mono ?_
  rintro e w1 hE
  rcases hE.cases with ⟨t1, G1, s1, m1, ho, rfl, ha⟩ | ⟨t1, G1, s1, m1, o, v1, ho, rfl, ⟨x, q, rfl, hin, rfl⟩, ha⟩
  · have HX : Hid (Ev w0 b c r pb po t G w RNew ((newestP n nd.head).run s m) (Halt pb po) w1) := Ev.die ho (ha.back HB.out)
    clear hl hE ho ha hld
    unfold Halt
    go_wp2
    exact ⟨rfl, HX.out⟩
  have hV := HV.out.aft ha
  obtain ⟨w2, hw2⟩ : ∃ W, W = w1.alloc (.cells (x.1.row q).toArray 99) := ⟨_, rfl⟩
  have hb2 : Below w1.heap.size w1 w2 := by rw [hw2]; exact (Below.refl _ _).alloc (Nat.le_refl _) _
  have hs : SVar w2 w1.heap.size (x.1.row q) := by rw [hw2]; exact snew _ _ _
  have hr : SVar w2 (w.heap.size + 1) (ag0.row .nil) := (hV (w.heap.size + 1, ag0.row .nil) (by simp)).2.later hb2
  have hrl : Loc w0 b c r pb t1 G1 w2 (w.heap.size + 1) := (hV (w.heap.size + 1, ag0.row .nil) (by simp)).1.same hb2.size
  have ha2 := (ha.back HB.out).later hb2
  have hst : ∀ W, Below w2.heap.size w2 W → (Instr.storeAt 57 (.pointer (some ⟨w.heap.size + 1, 0, none⟩)) (.agg #[.int .i64 x.1.a.r.ver, .int .i64 x.1.a.r.rate, .string x.1.a.r.lo, .string x.1.a.r.hi, .bool x.1.a.r.all, .bool x.1.a.r.dead, .slice q.s0.a q.s0.n q.s0.cap, .slice q.s1.a q.s1.n q.s1.cap, .slice q.s2.a q.s2.n q.s2.cap, .slice q.s3.a q.s3.n q.s3.cap, .int .i64 x.1.a.pv])).run Tryd.prog W = .ok () (sput W (w.heap.size + 1) (x.1.a.row q)) ∧ Ev w0 b c r pb po t G w RNew ((newestP n nd.head).run s m) (.returned (.tuple #[.int .i64 x.1.h, .agg #[.int .i64 x.1.a.r.ver, .int .i64 x.1.a.r.rate, .string x.1.a.r.lo, .string x.1.a.r.hi, .bool x.1.a.r.all, .bool x.1.a.r.dead, .slice q.s0.a q.s0.n q.s0.cap, .slice q.s1.a q.s1.n q.s1.cap, .slice q.s2.a q.s2.n q.s2.cap, .slice q.s3.a q.s3.n q.s3.cap, .int .i64 x.1.a.pv], .int .i64 x.2])) (sput W (w.heap.size + 1) (x.1.a.row q)) ∧ (Go.loadVar 57 ⟨w.heap.size + 1, 0, none⟩).run Tryd.prog (sput W (w.heap.size + 1) (x.1.a.row q)) = .ok (.agg #[.int .i64 x.1.a.r.ver, .int .i64 x.1.a.r.rate, .string x.1.a.r.lo, .string x.1.a.r.hi, .bool x.1.a.r.all, .bool x.1.a.r.dead, .slice q.s0.a q.s0.n q.s0.cap, .slice q.s1.a q.s1.n q.s1.cap, .slice q.s2.a q.s2.n q.s2.cap, .slice q.s3.a q.s3.n q.s3.cap, .int .i64 x.1.a.pv]) (sput W (w.heap.size + 1) (x.1.a.row q)) := fun W hW =>
    have hr2 := hr.later hW
    ⟨hr2.store (row' := x.1.a.row q) rfl sh42 (x.1.a.row_one q), Ev.ret ho ⟨x, q, rfl, hin, rfl⟩ ((ha2.later hW).aside (But.sput _ _ _) (hrl.same hW.size) (Nat.le_succ _)), (hr2.put (row' := x.1.a.row q) rfl).loadVar sh42⟩
  have HSt := Lib.hid hst
  have HS := Lib.hid hs
  have HNe : Hid (w1.heap.size ≠ w.heap.size + 1) := by
    have h1 := (hV (w.heap.size + 1, ag0.row .nil) (by simp)).2.lt
    show _ ≠ _
    simp only at h1
    omega
  have HW2 := Lib.hid hw2.symm
  unfold Sp.v
  simp only [Sp.row, Ag.row] at HW2
  have HCk : Hid (∀ W, Below w2.heap.size w2 W → W.cell? ⟨w1.heap.size, 0, none⟩ = some (.int .i64 x.1.h) → (sput W (w.heap.size + 1) (x.1.a.row q)).cell? ⟨w1.heap.size, 0, none⟩ = some (.int .i64 x.1.h)) := fun W hW hc => by
    rw [World.cell?_of_block (w := W) (a := ⟨w1.heap.size, 0, none⟩) ((But.sput W (w.heap.size + 1) (x.1.a.row q)).block w1.heap.size (Nat.lt_of_lt_of_le HS.out.lt hW.size) HNe.out)]
    exact hc
  clear hl hE ho ha hld hw2 hV hb2 hs hr hrl ha2 hst hin HV HB HW
  go_wp2_with (first | rw [HW2.out] | fail)
  refine FreeV.region_puts (S := OneMid w2 ⟨w1.heap.size, 0, none⟩ x.1.h (fun W => Ev w0 b c r pb po t G w RNew ((newestP n nd.head).run s m) (.returned (.tuple #[.int .i64 x.1.h, .agg #[.int .i64 x.1.a.r.ver, .int .i64 x.1.a.r.rate, .string x.1.a.r.lo, .string x.1.a.r.hi, .bool x.1.a.r.all, .bool x.1.a.r.dead, .slice q.s0.a q.s0.n q.s0.cap, .slice q.s1.a q.s1.n q.s1.cap, .slice q.s2.a q.s2.n q.s2.cap, .slice q.s3.a q.s3.n q.s3.cap, .int .i64 x.1.a.pv], .int .i64 x.2])) W ∧ (Go.loadVar 57 ⟨w.heap.size + 1, 0, none⟩).run Tryd.prog W = .ok (.agg #[.int .i64 x.1.a.r.ver, .int .i64 x.1.a.r.rate, .string x.1.a.r.lo, .string x.1.a.r.hi, .bool x.1.a.r.all, .bool x.1.a.r.dead, .slice q.s0.a q.s0.n q.s0.cap, .slice q.s1.a q.s1.n q.s1.cap, .slice q.s2.a q.s2.n q.s2.cap, .slice q.s3.a q.s3.n q.s3.cap, .int .i64 x.1.a.pv]) W)) (effs := [6])
    (tab := [⟨1, fun _ => [.pointer (some ⟨w1.heap.size, 0, none⟩)], fun _ => .int .i64 x.1.h, .read⟩,
      ⟨3, fun _ => [.pointer (some ⟨w1.heap.size, 1, none⟩)], fun _ => .agg #[.int .i64 x.1.a.r.ver, .int .i64 x.1.a.r.rate, .string x.1.a.r.lo, .string x.1.a.r.hi, .bool x.1.a.r.all, .bool x.1.a.r.dead, .slice q.s0.a q.s0.n q.s0.cap, .slice q.s1.a q.s1.n q.s1.cap, .slice q.s2.a q.s2.n q.s2.cap, .slice q.s3.a q.s3.n q.s3.cap, .int .i64 x.1.a.pv], .read⟩,
      ⟨6, fun _ => [.pointer (some ⟨w.heap.size + 1, 0, none⟩), .agg #[.int .i64 x.1.a.r.ver, .int .i64 x.1.a.r.rate, .string x.1.a.r.lo, .string x.1.a.r.hi, .bool x.1.a.r.all, .bool x.1.a.r.dead, .slice q.s0.a q.s0.n q.s0.cap, .slice q.s1.a q.s1.n q.s1.cap, .slice q.s2.a q.s2.n q.s2.cap, .slice q.s3.a q.s3.n q.s3.cap, .int .i64 x.1.a.pv]], fun _ => undef, .put⟩])
    (vs := [([], fun _ => .pointer (some ⟨w1.heap.size, 0, none⟩)), ([], fun _ => .int .i64 x.1.h), ([], fun _ => .pointer (some ⟨w1.heap.size, 1, none⟩)), ([], fun _ => .agg #[.int .i64 x.1.a.r.ver, .int .i64 x.1.a.r.rate, .string x.1.a.r.lo, .string x.1.a.r.hi, .bool x.1.a.r.all, .bool x.1.a.r.dead, .slice q.s0.a q.s0.n q.s0.cap, .slice q.s1.a q.s1.n q.s1.cap, .slice q.s2.a q.s2.n q.s2.cap, .slice q.s3.a q.s3.n q.s3.cap, .int .i64 x.1.a.pv]), ([], fun _ => .int .i64 x.2), ([], fun _ => .int .i64 x.1.h), ([], fun _ => undef), ([], fun _ => .int .i64 x.2)])
    (by kernel_rfl) ⟨by kernel_rfl, ⟨FreeV.d_load _ rfl rfl (fun β bs W hS hd => load_3 hS.cell),
      FreeV.d_load _ rfl rfl (fun β bs W hS hd => load_mid (sub := x.1.a.row q) (Sp.ageAt (HS.out.later (hS.one ((hd 0 6 rfl).2 (.inl (by kernel_rfl)))))) sh42),
      FreeV.d_store _ rfl rfl 0 rfl (fun β bs W hS hd => ⟨_, (HSt.out W (hS.one ((hd 0 6 rfl).2 (.inr rfl)))).1, fun e => (by rw [set_at ((hd 0 6 rfl).2 (.inr rfl))] at e; cases e), fun _ => (HSt.out W (hS.one ((hd 0 6 rfl).2 (.inr rfl)))).2, HCk.out W (hS.one ((hd 0 6 rfl).2 (.inr rfl))) hS.cell⟩),
      trivial⟩,
      fun β => by kernel_rfl, fun β => by kernel_rfl, by kernel_rfl, fun β => by kernel_rfl, by kernel_rfl⟩ (one_start (HS.out.cell (i := 0) rfl)) (fun β => Free.from_ 15 [.pointer (some ⟨w1.heap.size, 0, none⟩), .int .i64 x.1.h, .pointer (some ⟨w1.heap.size, 1, none⟩), .agg #[.int .i64 x.1.a.r.ver, .int .i64 x.1.a.r.rate, .string x.1.a.r.lo, .string x.1.a.r.hi, .bool x.1.a.r.all, .bool x.1.a.r.dead, .slice q.s0.a q.s0.n q.s0.cap, .slice q.s1.a q.s1.n q.s1.cap, .slice q.s2.a q.s2.n q.s2.cap, .slice q.s3.a q.s3.n q.s3.cap, .int .i64 x.1.a.pv], .int .i64 x.2] ++ [(4, .int .i64 x.1.h), (6, .int .i64 x.2)]) (fun β => by kernel_rfl) ?_
  intro β w4 h4
  obtain ⟨HX, HY⟩ := h4.two rfl
  have HE := Lib.hid HX
  have HF := Lib.hid HY
  clear h4 HX HY HSt HS
  rw [FreeX.puts_append, Free.puts_from _ _ _ (Nat.le_of_ble_eq_true rfl)]
  simp only [List.take_succ_cons, List.take_zero, List.drop_succ_cons, List.drop_zero, List.cons_append, List.nil_append, List.length_cons, List.length_nil, Nat.reduceAdd]
  unfold Free.puts
  simp only [List.foldl_cons, List.foldl_nil]
  go_wp2_with fail
  exact bodyPost_ret (res_tct (.int .i64 x.1.h) (.int .i64 x.2) Tryd.results22 rfl rfl rfl HF.out) rfl HE.out
set_option maxHeartbeats 1000000 in
end
end Go.Proofs.YtibimnibmengpaaDoor
