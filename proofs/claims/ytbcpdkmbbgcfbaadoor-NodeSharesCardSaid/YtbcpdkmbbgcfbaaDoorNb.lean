/- What free, undo come to. Conditions: at most 700000 asks; at most 100000 cells. -/
import Derived.Test.YtbcpdkmbbgcfbaaDoorNr
namespace Go.Proofs.YtbcpdkmbbgcfbaaDoor
open Go.RowKit Go.Op
set_option maxRecDepth 100000

def RInt (_ : List (Nat × List Value)) (a : Int) (v : Value) : Prop := v = .int .i64 a
def RInt2 (_ : List (Nat × List Value)) (a : Int × Int) (v : Value) : Prop := v = .tuple #[.int .i64 a.1, .int .i64 a.2]
def freeP : List Int → Pr Int
  | [] => .ret 0
  | h :: l => .ask (.free h) fun a => if a.err = 0 then freeP l else .ret a.err
theorem freeP_cons (h : Int) (l : List Int) : freeP (h :: l) = .ask (.free h) fun a => if a.err = 0 then freeP l else .ret a.err := rfl
/-- At a loop's head: what was asked so far, what is left of a program. -/
def LHead {α : Type} (w0 : World) (b c r pb po : Nat) (t : Value) (G : List (Nat × List Value)) (w : World) (m : M) (whole : Option α × Pt × M) (p : Pr α) (K : Int) (X : Value → List (Nat × List Value) → World → Prop) (wr : World) : Prop :=
  ∃ t1 G1 m1 s1, Aft w0 b c r pb po t G w t1 G1 wr m1 s1 ∧ whole = p.run s1 m1 ∧ m1.count ≤ m.count + K ∧ X t1 G1 wr
section
variable {w0 : World} {b c r pb po : Nat} {t t1 : Value} {G G1 : List (Nat × List Value)} {w w1 w2 : World} {m m1 : M} {s s1 : Pt}
set_option maxHeartbeats 1000000 in
theorem free_E (h : SysE w0 b c r pb po t G w m s) (hc : m.count ≤ 700000) (a : Option Addr) (cap : Nat) (l : List Int) (hl : l.length ≤ 100000) (hr : IRow w0 b c r pb t G w a l) :
    Calls Tryd.prog 72 #[.pointer (some ⟨pb, po, none⟩), .slice a l.length cap] w fun e w' => Ev w0 b c r pb po t G w RInt ((freeP l).run s m) e w' := by
  have HH : Hid (LHead w0 b c r pb po t G w m ((freeP l).run s m) (freeP (l.drop 0)) ((0 : Nat) : Int) (fun t1 G1 w1 => IRow w0 b c r pb t1 G1 w1 a l) w) := ⟨t, G, m, s, Aft.refl h, rfl, by omega, hr⟩
  have hl2 : (l.length : Int) ≤ 100000 := by omega
  have HN : Hid (∃ n, n = l.length) := ⟨_, rfl⟩
  obtain ⟨n, hn⟩ := HN.out
  have HE := Lib.hid hn
  rw [← hn] at hl2 hl ⊢
  clear h hr HN hn
  go_enter Tryd.func72, Tryd.ntmps72
  go_wp2_with fail
  go_loopw [10] (fun iv wr => ∃ i : Nat, iv = .int .i64 (i : Int) ∧ i ≤ n ∧ Hid (LHead w0 b c r pb po t G w m ((freeP l).run s m) (freeP (l.drop i)) (i : Int) (fun t1 G1 w1 => IRow w0 b c r pb t1 G1 w1 a l) wr)) (fun iv _ => n - (intOf iv).toNat)
  case atStart => exact ⟨0, rfl, Nat.zero_le _, HH⟩
  case round =>
    obtain ⟨i, rfl, hi, hR⟩ := hrel
    clear HH
    obtain ⟨t1, G1, m1, s1, ha, hrun, hct, hrow⟩ := hR.out
    have HA := Lib.hid ha
    have HRun := Lib.hid hrun
    have HC := Lib.hid hct
    have HRow := Lib.hid hrow
    have hc1 : m1.count ≤ 900000 := by omega
    by_cases hlt : i < n
    · have i1 : (i : Int) < (n : Int) := by omega
      obtain ⟨x, hx⟩ : ∃ x, l[i]? = some x := ⟨_, List.getElem?_eq_getElem (by rw [← HE.out]; exact hlt)⟩
      have hdrop : l.drop i = x :: l.drop (i + 1) := by
        rw [List.drop_eq_getElem_cons (by rw [← HE.out]; exact hlt)]
        rw [List.getElem?_eq_getElem (by rw [← HE.out]; exact hlt)] at hx
        cases hx; rfl
      obtain ⟨g, o, eg, hcell⟩ := hrow.cell ha.sys hx
      have hf := efree ha.sys hc1 x
      have HDr := Lib.hid hdrop
      clear hR ha hrun hct hrow hdrop hx
      subst eg
      go_wp2_with fail
      refine hf.mono ?_
      rintro e w2 hE
      have hac := ask_count s1 (.free x) m1
      rcases hE.cases with ⟨t2, G2, s2, m2, ho, rfl, ha⟩ | ⟨t2, G2, s2, m2, y, v, ho, rfl, rfl, ha⟩
      · have HX : Hid (Ev w0 b c r pb po t G w RInt ((freeP l).run s m) (Halt pb po) w2) := Ev.die (by rw [HRun.out, HDr.out, freeP_cons, Pr.run_ask, ho]) (HA.out.trans ha)
        clear hf hE ho ha hac
        unfold Halt
        go_wp2
        exact ⟨rfl, HX.out⟩
      rw [ho] at hac
      have ha2 := HA.out.trans ha
      by_cases herr : y.err = 0
      · have HH : Hid (LHead w0 b c r pb po t G w m ((freeP l).run s m) (freeP (l.drop (i + 1))) ((i + 1 : Nat) : Int) (fun t1 G1 w1 => IRow w0 b c r pb t1 G1 w1 (some ⟨g, o, none⟩) l) w2) := by
          refine ⟨t2, G2, m2, s2, ha2, ?_, ?_, HRow.out.aft ha⟩
          · rw [HRun.out, HDr.out, freeP_cons, Pr.run_ask, ho]
            simp only
            rw [if_pos herr]
          · have h1 := hac.2.1
            simp only at h1
            have := HC.out
            push_cast
            omega
        rw [herr]
        clear hf hE ho ha hac ha2 herr hcell
        go_wp2_with fail
        go_roundw
        case rel => exact ⟨i + 1, by simp, by omega, HH⟩
        case measure => simp [intOf]; omega
      · have HX : Hid (Ev w0 b c r pb po t G w RInt ((freeP l).run s m) (.returned (.int .i64 y.err)) w2) := Ev.ret (a := y.err) (by
          rw [HRun.out, HDr.out, freeP_cons, Pr.run_ask, ho]
          simp only
          rw [if_neg herr]
          simp only [Pr.run]) rfl ha2
        clear hf hE ho ha hac ha2
        go_wp2
        go_ret
        exact HX.out
    · obtain rfl : i = n := by omega
      have HX : Hid (Ev w0 b c r pb po t G w RInt ((freeP l).run s m) (.returned (.int .i64 0)) wr) := Ev.ret (a := 0) (by
        rw [HRun.out, show l.drop i = [] by rw [HE.out]; exact List.drop_length]
        simp only [freeP, Pr.run]) rfl HA.out
      clear hR ha hrun hct hrow
      go_wp2
      go_ret
      exact HX.out
def wordsP : List Int → Pr Int
  | [] => .ret 0
  | h :: l => .ask (.word h) fun a => if a.err = 0 then wordsP l else .ret a.err
theorem wordsP_cons (h : Int) (l : List Int) : wordsP (h :: l) = .ask (.word h) fun a => if a.err = 0 then wordsP l else .ret a.err := rfl
def lastP (h : Int) (l : List Int) : Pr Int := (freeP l).bind fun e => if e = 0 then .ask (.free h) fun a => .ret a.err else .ret e
def undoP (h : Int) (l : List Int) : Pr Int := (wordsP l).bind fun e => if e = 0 then lastP h l else .ret e
def undoL (h : Int) (l k : List Int) : Pr Int := (wordsP k).bind fun e => if e = 0 then lastP h l else .ret e
theorem free_count : ∀ (l : List Int) (s : Pt) (m : M), m.count ≤ ((freeP l).run s m).2.2.count ∧ ((freeP l).run s m).2.2.count ≤ m.count + l.length
  | [], s, m => by simp [freeP, Pr.run]
  | h :: l, s, m => by
    rw [freeP_cons, Pr.run_ask]
    have h1 := ask_count s (.free h) m
    rcases ha : s.ask (.free h) m with ⟨_ | a, s', m'⟩
    all_goals rw [ha] at h1
    · simp only at h1 ⊢
      simp only [List.length_cons]
      omega
    · simp only at h1 ⊢
      simp only [List.length_cons]
      split
      · have := free_count l s' m'
        omega
      · simp only [Pr.run]
        omega
theorem undoL_cons (h : Int) (l : List Int) (x : Int) (k : List Int) : undoL h l (x :: k) = .ask (.word x) fun a => if a.err = 0 then undoL h l k else .ret a.err := by
  show Pr.ask (.word x) _ = _
  congr 1
  funext a
  by_cases e : a.err = 0
  · rw [if_pos e]
    show (if a.err = 0 then wordsP k else Pr.ret a.err).bind _ = _
    rw [if_pos e]; rfl
  · rw [if_neg e]
    show (if a.err = 0 then wordsP k else Pr.ret a.err).bind _ = _
    rw [if_neg e]
    show (if a.err = 0 then lastP h l else Pr.ret a.err) = _
    rw [if_neg e]
theorem undoL_nil (h : Int) (l : List Int) : undoL h l [] = lastP h l := rfl
set_option maxHeartbeats 1000000 in
theorem undo_E (h : SysE w0 b c r pb po t G w m s) (hc : m.count ≤ 500000) (k : Int) (a : Option Addr) (cap : Nat) (l : List Int) (hl : l.length ≤ 100000) (hr : IRow w0 b c r pb t G w a l) :
    Calls Tryd.prog 65 #[.pointer (some ⟨pb, po, none⟩), .int .i64 k, .slice a l.length cap] w fun e w' => Ev w0 b c r pb po t G w RInt ((undoP k l).run s m) e w' := by
  have HH : Hid (LHead w0 b c r pb po t G w m ((undoP k l).run s m) (undoL k l (l.drop 0)) ((0 : Nat) : Int) (fun t1 G1 w1 => IRow w0 b c r pb t1 G1 w1 a l) w) := ⟨t, G, m, s, Aft.refl h, rfl, by omega, hr⟩
  have hl2 : (l.length : Int) ≤ 100000 := by omega
  have HN : Hid (∃ n, n = l.length) := ⟨_, rfl⟩
  obtain ⟨n, hn⟩ := HN.out
  have HE := Lib.hid hn
  rw [← hn] at hl2 hl ⊢
  clear h hr HN hn
  go_enter Tryd.func65, Tryd.ntmps65
  go_wp2_with fail
  go_loopw [14] (fun iv wr => ∃ i : Nat, iv = .int .i64 (i : Int) ∧ i ≤ n ∧ Hid (LHead w0 b c r pb po t G w m ((undoP k l).run s m) (undoL k l (l.drop i)) (i : Int) (fun t1 G1 w1 => IRow w0 b c r pb t1 G1 w1 a l) wr)) (fun iv _ => n - (intOf iv).toNat)
  case atStart => exact ⟨0, rfl, Nat.zero_le _, HH⟩
  case round =>
    obtain ⟨i, rfl, hi, hR⟩ := hrel
    clear HH
    obtain ⟨t1, G1, m1, s1, ha, hrun, hct, hrow⟩ := hR.out
    have HA := Lib.hid ha
    have HRun := Lib.hid hrun
    have HC := Lib.hid hct
    have HRow := Lib.hid hrow
    have hc1 : m1.count ≤ 900000 := by omega
    by_cases hlt : i < n
    · have i1 : (i : Int) < (n : Int) := by omega
      obtain ⟨x, hx⟩ : ∃ x, l[i]? = some x := ⟨_, List.getElem?_eq_getElem (by rw [← HE.out]; exact hlt)⟩
      have hdrop : l.drop i = x :: l.drop (i + 1) := by
        rw [List.drop_eq_getElem_cons (by rw [← HE.out]; exact hlt)]
        rw [List.getElem?_eq_getElem (by rw [← HE.out]; exact hlt)] at hx
        cases hx; rfl
      obtain ⟨g, o, eg, hcell⟩ := hrow.cell ha.sys hx
      have hf := eword ha.sys hc1 x
      have HDr := Lib.hid hdrop
      clear hR ha hrun hct hrow hdrop hx
      subst eg
      go_wp2_with fail
      refine hf.mono ?_
      rintro e w2 hE
      have hac := ask_count s1 (.word x) m1
      rcases hE.cases with ⟨t2, G2, s2, m2, ho, rfl, ha⟩ | ⟨t2, G2, s2, m2, y, v, ho, rfl, rfl, ha⟩
      · have HX : Hid (Ev w0 b c r pb po t G w RInt ((undoP k l).run s m) (Halt pb po) w2) := Ev.die (by rw [HRun.out, HDr.out, undoL_cons, Pr.run_ask, ho]) (HA.out.trans ha)
        clear hf hE ho ha hac
        unfold Halt
        go_wp2
        exact ⟨rfl, HX.out⟩
      rw [ho] at hac
      have ha2 := HA.out.trans ha
      by_cases herr : y.err = 0
      · have HH : Hid (LHead w0 b c r pb po t G w m ((undoP k l).run s m) (undoL k l (l.drop (i + 1))) ((i + 1 : Nat) : Int) (fun t1 G1 w1 => IRow w0 b c r pb t1 G1 w1 (some ⟨g, o, none⟩) l) w2) := by
          refine ⟨t2, G2, m2, s2, ha2, ?_, ?_, HRow.out.aft ha⟩
          · rw [HRun.out, HDr.out, undoL_cons, Pr.run_ask, ho]
            simp only
            rw [if_pos herr]
          · have h1 := hac.2.1
            simp only at h1
            have := HC.out
            push_cast
            omega
        rw [herr]
        clear hf hE ho ha hac ha2 herr hcell
        go_wp2_with fail
        go_roundw
        case rel => exact ⟨i + 1, by simp, by omega, HH⟩
        case measure => simp [intOf]; omega
      · have HX : Hid (Ev w0 b c r pb po t G w RInt ((undoP k l).run s m) (.returned (.int .i64 y.err)) w2) := Ev.ret (a := y.err) (by
          rw [HRun.out, HDr.out, undoL_cons, Pr.run_ask, ho]
          simp only
          rw [if_neg herr]
          simp only [Pr.run]) rfl ha2
        clear hf hE ho ha hac ha2
        go_wp2
        go_ret
        exact HX.out
    · obtain rfl : i = n := by omega
      have hrun2 : (undoP k l).run s m = (lastP k l).run s1 m1 := by
        rw [HRun.out, show l.drop i = [] by rw [HE.out]; exact List.drop_length, undoL_nil]
      have hfr := free_E ha.sys (by omega) a cap l (by rw [← HE.out]; exact hl) hrow
      rw [← HE.out] at hfr
      have hct2 := free_count l s1 m1
      have HR2 := Lib.hid hrun2
      clear hR ha hrun hct hrow hrun2
      go_wp2_with fail
      refine hfr.mono ?_
      rintro e w2 hE
      rcases hE.cases with ⟨t2, G2, s2, m2, ho, rfl, ha⟩ | ⟨t2, G2, s2, m2, y, v, ho, rfl, rfl, ha⟩
      · have HX : Hid (Ev w0 b c r pb po t G w RInt ((undoP k l).run s m) (Halt pb po) w2) := Ev.die (by rw [HR2.out]; exact Pr.bind_none ho) (HA.out.trans ha)
        clear hfr hE ho ha hct2
        unfold Halt
        go_wp2
        exact ⟨rfl, HX.out⟩
      rw [ho] at hct2
      have ha2 := HA.out.trans ha
      have hrun3 := Pr.bind_some (f := fun e => if e = 0 then Pr.ask (.free k) fun a => .ret a.err else .ret e) ho
      have hrun4 := HR2.out.trans hrun3
      by_cases herr : y = 0
      · rw [if_pos herr] at hrun4
        have hf := efree ha.sys (by simp only at hct2; have := HC.out; have := HE.out; omega) k
        have HR4 := Lib.hid hrun4
        have HA2 := Lib.hid ha2
        rw [herr]
        clear hfr hE ho ha hct2 ha2 hrun3 hrun4 herr
        go_wp2_with fail
        refine hf.mono ?_
        rintro e w3 hE
        rcases hE.cases with ⟨t3, G3, s3, m3, ho, rfl, ha⟩ | ⟨t3, G3, s3, m3, z, v, ho, rfl, rfl, ha⟩
        · have HX : Hid (Ev w0 b c r pb po t G w RInt ((undoP k l).run s m) (Halt pb po) w3) := Ev.die (by rw [HR4.out, Pr.run_ask, ho]) (HA2.out.trans ha)
          clear hf hE ho ha
          unfold Halt
          go_wp2
          exact ⟨rfl, HX.out⟩
        · have HX : Hid (Ev w0 b c r pb po t G w RInt ((undoP k l).run s m) (.returned (.int .i64 z.err)) w3) := Ev.ret (a := z.err) (by rw [HR4.out, Pr.run_ask, ho]; simp only [Pr.run]) rfl (HA2.out.trans ha)
          clear hf hE ho ha
          go_wp2
          go_ret
          exact HX.out
      · rw [if_neg herr] at hrun4
        have HX : Hid (Ev w0 b c r pb po t G w RInt ((undoP k l).run s m) (.returned (.int .i64 y)) w2) := Ev.ret (a := y) (by rw [hrun4]; simp only [Pr.run]) rfl ha2
        clear hfr hE ho ha hct2 ha2 hrun3 hrun4
        go_wp2
        go_ret
        exact HX.out
end
end Go.Proofs.YtbcpdkmbbgcfbaaDoor
