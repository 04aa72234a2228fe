/- A chain that is gone through by a range over a function: what the iterator comes to, whatever the loop's body makes of its own. Conditions: at most 800000 asks; so many ages at most as are told. -/
import Derived.Test.YtbcpdkmbbgcfbaaDoorNh
import Derived.RangeFuncNested
import Derived.RangeFuncBound
import Derived.RangeFuncCalls
import Derived.RangeFuncLeaves
import Derived.Shelf.Abstract
import Derived.Shelf.RegionOpen
import Derived.OwnWalkIn
import Derived.TacticsInMore
import Derived.LoopNIn
import Derived.LoopIn
namespace Go.Proofs.YtbcpdkmbbgcfbaaDoor
open Go.RowKit Go.Op
set_option maxRecDepth 100000
attribute [local go_sem] Oper.semAt_some

/-- The least number that has a property. -/
theorem least_ex {P : Nat → Prop} (h : ∃ n, P n) : ∃ n, P n ∧ ∀ k, k < n → ¬ P k := by
  obtain ⟨n, hn⟩ := h
  induction n using Nat.strongRecOn with
  | _ n ih =>
    by_cases hk : ∃ k, k < n ∧ P k
    · obtain ⟨k, h1, h2⟩ := hk
      exact ih k h1 h2
    · exact ⟨n, hn, fun k h1 h2 => hk ⟨k, h1, h2⟩⟩
open Classical in
noncomputable def least (P : Nat → Prop) : Nat := if h : ∃ n, P n then Classical.choose (least_ex h) else 0
theorem least_is {P : Nat → Prop} (h : ∃ n, P n) : P (least P) ∧ ∀ k, P k → least P ≤ k := by
  unfold least
  rw [dif_pos h]
  have hs := Classical.choose_spec (least_ex h)
  exact ⟨hs.1, fun k hk => by
    apply Classical.byContradiction
    intro hn
    exact hs.2 k (by omega) hk⟩
/-- A chain that is gone through, and what a loop's body makes of each age: does it go on? None: more ages than so many, or what isn't looked at; true: the body has left. -/
def chainP {σ : Type} (next : Int → Pr (Int × Int)) (f : σ → Sp → Int → Option (Bool × σ)) : Nat → Int → σ → Pr (Option (Bool × σ))
  | 0, _, _ => .ret none
  | n + 1, h, x => (takeP h).bind fun a => match f x ⟨h, a.1⟩ a.2 with
    | none => .ret none
    | some y => if y.1 = false then .ret (some (true, y.2)) else
      if a.2 = 0 then (next a.1.pv).bind fun b => if b.2 = 0 then (if b.1 = 0 then .ret (some (false, y.2)) else chainP next f n b.1 y.2)
        else (match f y.2 sp0 b.2 with
          | none => .ret none
          | some y2 => .ret (some (!y2.1, y2.2)))
      else .ret (some (false, y.2))
section
variable {σ : Type} {w0 : World} {b c r pb po : Nat}
/-- What the iterator comes to. -/
def CPost (pb po : Nat) (J Jx : σ → Value → List (Nat × List Value) → M → Pt → World → Prop) (o : Option (Option (Bool × σ)) × Pt × M) (e : Ending) (w' : World) : Prop :=
  match o.1 with
  | none => e = Halt pb po ∧ ∃ x t' G', J x t' G' o.2.2 o.2.1 w'
  | some none => False
  | some (some (true, x)) => (∃ v, e = .returned v) ∧ ∃ t' G', Jx x t' G' o.2.2 o.2.1 w'
  | some (some (false, x)) => (∃ v, e = .returned v) ∧ ∃ t' G', J x t' G' o.2.2 o.2.1 w'
/-- At the iterator's loop. -/
def LR (next : Int → Pr (Int × Int)) (f : σ → Sp → Int → Option (Bool × σ)) (J : σ → Value → List (Nat × List Value) → M → Pt → World → Prop) (whole : Option (Option (Bool × σ)) × Pt × M) (n : Nat) (atv : Value) (wr : World) : Prop :=
  ∃ h1 x t1 G1 m1 s1, atv = .int .i64 h1 ∧ J x t1 G1 m1 s1 wr ∧ whole = (chainP next f n h1 x).run s1 m1 ∧ m1.count + 3 * (n : Int) ≤ 800000
set_option maxHeartbeats 2000000 in
theorem chain1_E (next : Int → Pr (Int × Int)) (f : σ → Sp → Int → Option (Bool × σ)) (l hb pbx nb : Nat) (fid : FuncId) (fst cap : Array Value) (J Jx : σ → Value → List (Nat × List Value) → M → Pt → World → Prop)
    (hJs : ∀ x t1 G1 m1 s1 W, J x t1 G1 m1 s1 W → SysE w0 b c r pb po t1 G1 W m1 s1 ∧ W.cell? ⟨pbx, 0, none⟩ = some (.pointer (some ⟨pb, po, none⟩)) ∧ W.cell? ⟨nb, 0, none⟩ = some (.func (.func fid) fst cap))
    (hJa : ∀ x t1 G1 m1 s1 W t2 G2 m2 s2 W2, J x t1 G1 m1 s1 W → Aft w0 b c r pb po t1 G1 W t2 G2 W2 m2 s2 → J x t2 G2 m2 s2 W2)
    (hY : ∀ x sp p err y t1 G1 m1 s1 Wa W, f x sp err = some y → J x t1 G1 m1 s1 Wa → Below Wa.heap.size Wa W → sp.a.d.In G1 p → YieldAt Fence.wide (0 - 1) Tryd.prog l #[sp.v p, .int .i64 err] W fun e W' => (W.heap.size ≤ W'.heap.size ∧ ∀ z, Wa.heap.size ≤ z → z < W.heap.size → W'.heap[z]? = W.heap[z]?) ∧ ((e = .returned (.bool true) ∧ y.1 = true ∧ J y.2 t1 G1 m1 s1 W') ∨ (e = .returned (.bool false) ∧ y.1 = false ∧ Jx y.2 t1 G1 m1 s1 W')))
    (he : ∀ zs w, (callFunc fid zs).run Tryd.prog w = .ok (.enter fid zs) w)
    (hnext : ∀ k x t1 G1 m1 s1 W, J x t1 G1 m1 s1 W → m1.count ≤ 800000 → Calls Tryd.prog fid (fst.push (.int .i64 k) ++ cap) W fun e w' => Ev w0 b c r pb po t1 G1 W RInt2 ((next k).run s1 m1) e w')
    (hnc : ∀ k s m, ((next k).run s m).2.2.count ≤ m.count + 2)
    (n : Nat) (h1 : Int) (x0 : σ) (t : Value) (G : List (Nat × List Value)) (m : M) (s : Pt) (W : World) (h0 : J x0 t G m s W) (hh : W.cell? ⟨hb, 0, none⟩ = some (.int .i64 h1)) (hc : m.count + 3 * (n : Int) ≤ 800000)
    (hne : ((chainP next f n h1 x0).run s m).1 ≠ some none) :
    CallsIn Fence.wide 0 Tryd.prog 69 #[.func (.yield l) #[] #[], .pointer (some ⟨hb, 0, none⟩), .pointer (some ⟨pbx, 0, none⟩), .pointer (some ⟨nb, 0, none⟩)] W (CPost pb po J Jx ((chainP next f n h1 x0).run s m)) := by
  have HL : Hid (LR next f J ((chainP next f n h1 x0).run s m) n (.int .i64 h1) W) := ⟨h1, x0, t, G, m, s, rfl, h0, rfl, hc⟩
  clear h0
  generalize (chainP next f n h1 x0).run s m = whole at *
  refine callsIn_of_wp Tryd.func69 rfl trivial ?_ rfl
  simp only [Tryd.ntmps69, List.size_toArray, List.length_cons, List.length_nil, Nat.reduceAdd, Nat.reduceSub, Array.replicate_succ, Array.replicate_zero, List.push_toArray, List.append_toArray, List.nil_append, List.cons_append]
  gi_wp2_with fail
  gi_loopw [5] (fun atv wr => ∃ n, Hid (LR next f J whole n atv wr)) (fun atv wr => least fun n => Hid (LR next f J whole n atv wr))
  case atStart => exact ⟨n, HL⟩
  case round =>
    obtain ⟨HR, hmin⟩ := least_is hrel
    have HM := Lib.hid hmin
    clear hrel hmin HL hh hc
    obtain ⟨k, hk⟩ : ∃ k, k = least fun n => Hid (LR next f J whole n u5 wr) := ⟨_, rfl⟩
    rw [← hk] at HR
    have HK := Lib.hid hk
    clear hk
    obtain ⟨h1, x, t1, G1, m1, s1, rfl, hj, hw, hc⟩ := HR.out
    cases k with
    | zero => exact absurd (by rw [hw]; rfl) hne
    | succ k =>
      obtain ⟨hs, hp, hn⟩ := hJs _ _ _ _ _ _ hj
      have hl := Take_E hs (by omega) h1
      have hct := take_count h1 s1 m1
      have HJ := Lib.hid hj
      have HW := Lib.hid hw
      gi_wp2_with fail
      refine ⟨trivial, rfl, (callsIn_wide.2 hl).mono ?_⟩
      rintro e w2 hE
      rcases hE.cases with ⟨t2, G2, s2, m2, ho, rfl, ha⟩ | ⟨t2, G2, s2, m2, a, v, ho, rfl, ⟨p, hi, rfl⟩, ha⟩
      · have HX : Hid (CPost pb po J Jx whole (Halt pb po) w2) := by
          have : whole = (none, s2, m2) := by rw [hw, chainP, Pr.bind_none ho]
          rw [this]
          exact ⟨rfl, x, t2, G2, hJa _ _ _ _ _ _ _ _ _ _ _ hj ha⟩
        clear hl hE ho ha hj hw hs hp hn HR HK
        unfold Halt
        gi_wp2
        exact ⟨rfl, HX.out⟩
      rw [ho] at hct
      simp only at hct
      have hb2 := (Below.refl w2.heap.size w2).alloc (Nat.le_refl _) (.cells (a.1.row p).toArray 42)
      have hv := snew w2 (a.1.row p) 42
      have hj2 := hJa _ _ _ _ _ _ _ _ _ _ _ hj ha
      have hld := hv.load sh42
      have hbind := Pr.bind_some (f := fun a : Ag × Int => match f x ⟨h1, a.1⟩ a.2 with
        | none => .ret none
        | some y => if y.1 = false then .ret (some (true, y.2)) else
          if a.2 = 0 then (next a.1.pv).bind fun b => if b.2 = 0 then (if b.1 = 0 then .ret (some (false, y.2)) else chainP next f k b.1 y.2)
            else (match f y.2 sp0 b.2 with
              | none => .ret none
              | some y2 => .ret (some (!y2.1, y2.2)))
          else .ret (some (false, y.2))) ho
      have hrun0 := hw.trans hbind
      cases hfx : f x ⟨h1, a.1⟩ a.2 with
      | none => exact absurd (by rw [hrun0]; simp only [hfx, Pr.run]) hne
      | some y =>
      simp only [hfx] at hrun0
      obtain ⟨fn, tmps, assign, body, hy, hRo⟩ := hY x ⟨h1, a.1⟩ p a.2 y t2 G2 m2 s2 _ _ hfx hj2 hb2 hi
      have hrun1 : whole = (if y.1 = false then .ret (some (true, y.2)) else
          if a.2 = 0 then (next a.1.pv).bind fun b => if b.2 = 0 then (if b.1 = 0 then .ret (some (false, y.2)) else chainP next f k b.1 y.2)
            else (match f y.2 sp0 b.2 with
              | none => .ret none
              | some y2 => .ret (some (!y2.1, y2.2)))
          else .ret (some (false, y.2)) : Pr (Option (Bool × σ))).run s2 m2 := hrun0
      have HRun := Lib.hid hrun1
      have HV := Lib.hid hv
      have HCt := Lib.hid hct
      have HC := Lib.hid hc
      have HHo := Lib.hid hRo
      unfold Sp.v at hy
      unfold Ag.v
      simp only [Ag.row] at hld hy
      clear hl hE ho ha hw hs hp hn HR hj hb2 hrun1 hv hj2 hRo hbind hrun0 hfx
      gi_wp2_with fail
      refine ⟨rfl, HHo.out.mono ?_⟩
      rintro e w3 ⟨ha3, (⟨rfl, hf1, hj3⟩ | ⟨rfl, hf1, hjx⟩)⟩
      rotate_left
      · have HX : Hid (CPost pb po J Jx whole (.returned (.tuple #[])) w3) := by
          rw [HRun.out, if_pos hf1]
          exact ⟨⟨_, rfl⟩, t2, G2, hjx⟩
        clear hjx ha3 HHo HRun HJ HW hy hf1
        gi_wp2
        exact bodyPost_ret (results_none rfl _ _ _) rfl HX.out
      by_cases herr : a.2 = 0
      · obtain ⟨hs3, hp3, hn3⟩ := hJs _ _ _ _ _ _ hj3
        have v3 := HV.out.same ha3.1 (ha3.2 _ (Nat.le_refl _) HV.out.lt)
        have c10 := v3.cell (i := 10) rfl
        have hnx := hnext a.1.pv _ _ _ _ _ _ hj3 (by have := HCt.out; have := HC.out; push_cast at this; omega)
        have hrun2 : whole = ((next a.1.pv).bind fun b => if b.2 = 0 then (if b.1 = 0 then .ret (some (false, y.2)) else chainP next f k b.1 y.2)
            else (match f y.2 sp0 b.2 with
              | none => .ret none
              | some y2 => .ret (some (!y2.1, y2.2)))).run s2 m2 := by
          rw [HRun.out, if_neg (by rw [hf1]; decide), if_pos herr]
        have HR2 := Lib.hid hrun2
        have HJ3 := Lib.hid hj3
        rw [herr]
        clear hj3 hs3 hp3 v3 ha3 HHo HRun HJ HW hy hf1 herr hrun2
        gi_wp2_with fail
        refine ⟨trivial, rfl, (callsIn_wide.2 hnx).mono ?_⟩
        rintro e w4 hE
        have hnc2 := hnc a.1.pv s2 m2
        rcases hE.cases with ⟨t4, G4, s4, m4, ho, rfl, ha⟩ | ⟨t4, G4, s4, m4, b1, v, ho, rfl, rfl, ha⟩
        · have HX : Hid (CPost pb po J Jx whole (Halt pb po) w4) := by
            have : whole = (none, s4, m4) := by rw [HR2.out, Pr.bind_none ho]
            rw [this]
            exact ⟨rfl, _, t4, G4, hJa _ _ _ _ _ _ _ _ _ _ _ HJ3.out ha⟩
          clear hnx hE ho ha hnc2 hn3 c10
          unfold Halt
          gi_wp2
          exact ⟨rfl, HX.out⟩
        rw [ho] at hnc2
        simp only at hnc2
        have hj4 := hJa _ _ _ _ _ _ _ _ _ _ _ HJ3.out ha
        have hrun3 : whole = (if b1.2 = 0 then (if b1.1 = 0 then .ret (some (false, y.2)) else chainP next f k b1.1 y.2)
            else (match f y.2 sp0 b1.2 with
              | none => .ret none
              | some y2 => .ret (some (!y2.1, y2.2))) : Pr (Option (Bool × σ))).run s4 m4 := HR2.out.trans (Pr.bind_some (f := fun b : Int × Int => if b.2 = 0 then (if b.1 = 0 then .ret (some (false, y.2)) else chainP next f k b.1 y.2)
            else (match f y.2 sp0 b.2 with
              | none => .ret none
              | some y2 => .ret (some (!y2.1, y2.2)))) ho)
        have HCn := Lib.hid hnc2
        have HR3 := Lib.hid hrun3
        have HJ4 := Lib.hid hj4
        clear hnx hE ho ha hnc2 hn3 c10 hj4 hrun3 HR2 HJ3
        by_cases herr : b1.2 = 0
        · by_cases h0 : b1.1 = 0
          · have HX : Hid (CPost pb po J Jx whole (.returned (.tuple #[])) w4) := by
              rw [HR3.out, if_pos herr, if_pos h0]
              exact ⟨⟨_, rfl⟩, t4, G4, HJ4.out⟩
            rw [herr, h0]
            clear herr h0
            gi_wp2
            exact bodyPost_ret (results_none rfl _ _ _) rfl HX.out
          · have HN : Hid (LR next f J whole k (.int .i64 b1.1) w4) := by
              refine ⟨b1.1, _, t4, G4, m4, s4, rfl, HJ4.out, ?_, ?_⟩
              · rw [HR3.out, if_pos herr, if_neg h0]
              · have h2 := HCt.out
                have h3 := HC.out
                have h4 := HCn.out
                push_cast at h3
                omega
            have hb10 : (b1.1 == 0) = false := by simpa using h0
            have hlt : (least fun n => Hid (LR next f J whole n (.int .i64 b1.1) w4)) < least fun n => Hid (LR next f J whole n (.int .i64 h1) wr) := by
              have h2 := (least_is (P := fun n => Hid (LR next f J whole n (.int .i64 b1.1) w4)) ⟨k, HN⟩).2 k HN
              rw [← HK.out]
              omega
            have HLt := Lib.hid hlt
            rw [herr]
            clear herr h0 hlt
            gi_wp2_with fail
            go_roundw
            case rel => exact ⟨k, HN⟩
            case measure => exact HLt.out
        · have hrun4 := HR3.out
          rw [if_neg herr] at hrun4
          cases hfy : f y.2 sp0 b1.2 with
          | none => exact absurd (by rw [hrun4]; simp only [hfy, Pr.run]) hne
          | some y2 =>
          simp only [hfy, Pr.run] at hrun4
          obtain ⟨fn2, tmps2, assign2, body2, hy2, hRo2⟩ := hY y.2 sp0 .nil b1.2 y2 t4 G4 m4 s4 w4 w4 hfy HJ4.out (Below.refl _ _) rv0_in
          have HR4 := Lib.hid hrun4
          clear hrun4 hfy
          have HHo2 := Lib.hid hRo2
          simp only [Sp.v, sp0, ag0, rv0, Pl.nil, Sl.nil] at hy2
          clear hRo2
          gi_wp2_with fail
          refine ⟨rfl, HHo2.out.mono ?_⟩
          rintro e w5 ⟨ha5, (⟨rfl, hf2, hj5⟩ | ⟨rfl, hf2, hjx⟩)⟩
          · have HX : Hid (CPost pb po J Jx whole (.returned (.tuple #[])) w5) := by
              rw [HR4.out]
              simp only [CPost, hf2, Bool.not_true]
              exact ⟨⟨_, rfl⟩, t4, G4, hj5⟩
            clear hj5 ha5 HHo2 HR3 HR4 hy2 hf2
            gi_wp2
            exact bodyPost_ret (results_none rfl _ _ _) rfl HX.out
          · have HX : Hid (CPost pb po J Jx whole (.returned (.tuple #[])) w5) := by
              rw [HR4.out]
              simp only [CPost, hf2, Bool.not_false]
              exact ⟨⟨_, rfl⟩, t4, G4, hjx⟩
            clear hjx ha5 HHo2 HR3 HR4 hy2 hf2
            gi_wp2
            exact bodyPost_ret (results_none rfl _ _ _) rfl HX.out
      · have HX : Hid (CPost pb po J Jx whole (.returned (.tuple #[])) w3) := by
          rw [HRun.out, if_neg (by rw [hf1]; decide), if_neg herr]
          exact ⟨⟨_, rfl⟩, t2, G2, hj3⟩
        clear hj3 ha3 HHo HRun HJ HW hy hf1
        gi_wp2
        exact bodyPost_ret (results_none rfl _ _ _) rfl HX.out
end
end Go.Proofs.YtbcpdkmbbgcfbaaDoor
