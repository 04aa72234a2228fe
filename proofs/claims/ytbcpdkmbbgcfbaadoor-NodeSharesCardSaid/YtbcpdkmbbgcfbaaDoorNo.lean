/- What Cut comes to. Conditions: at most 300000 asks; so many ages at most as are told. -/
import Derived.Test.YtbcpdkmbbgcfbaaDoorNn
namespace Go.Proofs.YtbcpdkmbbgcfbaaDoor
open Go.RowKit Go.Op
set_option maxRecDepth 100000

theorem chain_count {σ : Type} {next : Int → Pr (Int × Int)} {f : σ → Sp → Int → Option (Bool × σ)} (hnc : ∀ k s m, ((next k).run s m).2.2.count ≤ m.count + 2) : ∀ (n : Nat) (h : Int) (x : σ) (s : Pt) (m : M), ((chainP next f n h x).run s m).2.2.count ≤ m.count + 3 * (n : Int)
  | 0, h, x, s, m => by simp only [chainP, Pr.run]; omega
  | n + 1, h, x, s, m => by
    rw [chainP, Pr.run_bind]
    have h1 := (take_count h s m).2
    rcases ho : (takeP h).run s m with ⟨_ | a, s1, m1⟩
    all_goals rw [ho] at h1; simp only at h1 ⊢
    · omega
    · cases hf : f x ⟨h, a.1⟩ a.2 with
      | none => simp only [Pr.run]; omega
      | some y =>
        simp only
        by_cases hy : y.1 = false
        · rw [if_pos hy]; simp only [Pr.run]; omega
        · rw [if_neg hy]
          by_cases ha : a.2 = 0
          · rw [if_pos ha, Pr.run_bind]
            have h2 := hnc a.1.pv s1 m1
            rcases hb : (next a.1.pv).run s1 m1 with ⟨_ | b, s2, m2⟩
            all_goals rw [hb] at h2; simp only at h2 ⊢
            · omega
            · by_cases hb2 : b.2 = 0
              · rw [if_pos hb2]
                by_cases hb1 : b.1 = 0
                · rw [if_pos hb1]; simp only [Pr.run]; omega
                · rw [if_neg hb1]
                  have := chain_count (f := f) hnc n b.1 y.2 s2 m2
                  omega
              · rw [if_neg hb2]
                cases f y.2 sp0 b.2 with
                | none => simp only [Pr.run]; omega
                | some z => simp only [Pr.run]; omega
          · rw [if_neg ha]; simp only [Pr.run]; omega
theorem up_count (n : Nat) (hd v : Int) (s : Pt) (m : M) : ((upP n hd v).run s m).2.2.count ≤ m.count + 3 * (n : Int) + 2 := by
  rw [upP, Pr.run_bind]
  have h1 := (wordP_count hd s m).1
  rcases ho : (wordP hd).run s m with ⟨_ | a, s1, m1⟩
  all_goals rw [ho] at h1; simp only at h1 ⊢
  · omega
  · split
    · rw [Pr.run_bind]
      have h2 := chain_count (f := upF v) (fun k s m => (wordP_count k s m).1) n a.1 (sp0, 0) s1 m1
      rcases hb : (chainP wordP (upF v) n a.1 (sp0, 0)).run s1 m1 with ⟨_ | b, s2, m2⟩
      all_goals rw [hb] at h2; simp only [Pr.run] at h2 ⊢; omega
    · simp only [Pr.run]; omega
theorem fell_count (n : Nat) (h : Int) (s : Pt) (m : M) : ((fellP n h).run s m).2.2.count ≤ m.count + 3 * (n : Int) := by
  rw [fellP]
  split
  · simp only [Pr.run]; omega
  · rw [Pr.run_bind]
    have h2 := chain_count (f := fellF) takenP_count n h ([], 0) s m
    rcases hb : (chainP takenP fellF n h ([], 0)).run s m with ⟨_ | b, s2, m2⟩
    all_goals rw [hb] at h2; simp only [Pr.run] at h2 ⊢; omega
def cutF (o2 : Option (List Int × Int)) : Option (List Int × Int) := o2.bind fun y => if y.2 = 0 then (if 2 ≤ y.1.length then some (y.1.drop 2, 0) else none) else some ([], y.2)
/-- None: more ages than so many, or an error behind the first one that is cut. -/
def cutQ (n : Nat) (o : Option (Sp × Int)) : Pr (Option (List Int × Int)) := match o with
  | none => .ret none
  | some x => if x.2 = 0 then (if x.1.h = 0 then .ret (some ([], 0)) else (fellP n x.1.h).bind fun o2 => .ret (cutF o2)) else .ret (some ([], x.2))
theorem cutQ_nil {n : Nat} {sp : Sp} (h : sp.h = 0) : cutQ n (some (sp, 0)) = .ret (some ([], 0)) := by simp [cutQ, h]
theorem cutQ_err {n : Nat} {sp : Sp} {e : Int} (h : ¬ e = 0) : cutQ n (some (sp, e)) = .ret (some ([], e)) := by simp [cutQ, h]
theorem cutQ_go {n : Nat} {sp : Sp} (h : ¬ sp.h = 0) : cutQ n (some (sp, 0)) = (fellP n sp.h).bind fun o2 => .ret (cutF o2) := by simp [cutQ, h]
theorem cutF_ok {cs : List Int} (h : 2 ≤ cs.length) : cutF (some (cs, 0)) = some (cs.drop 2, 0) := by simp [cutF, h]
theorem cutF_short {cs : List Int} (h : ¬ 2 ≤ cs.length) : cutF (some (cs, 0)) = none := by simp [cutF, h]
theorem cutF_err {cs : List Int} {e : Int} (h : ¬ e = 0) : cutF (some (cs, e)) = some ([], e) := by simp [cutF, h]
def cutP (n : Nat) (hd v : Int) : Pr (Option (List Int × Int)) := (upP n hd v).bind (cutQ n)
theorem Sl.In.drop2 {G : List (Nat × List Value)} {sl : Sl} {cs : List Int} (h : sl.In G (ints cs)) (h2 : 2 ≤ cs.length) : ∃ g o, sl.a = some ⟨g, o, none⟩ ∧ ∀ a', (¬ sl.cap = 2 → a' = some ⟨g, o + 2, none⟩) → (⟨a', sl.n - 2, sl.cap - 2⟩ : Sl).In G (ints (cs.drop 2)) := by
  have hn := h.n
  have hc := h.cap
  have hf := h.few
  rw [ints_length] at hn hf
  have hc2 : cs.length ≤ sl.cap := Nat.le_trans (Nat.le_of_eq hn.symm) hc
  rcases h.row with e | ⟨g, o, r, e, hm, hr⟩
  · have : cs.length = 0 := by rw [← ints_length, e]; rfl
    omega
  · refine ⟨g, o, e, fun a' ha' => ⟨by rw [ints_length, List.length_drop]; simp only; omega, by simp only; omega, by rw [ints_length, List.length_drop]; omega, ?_⟩⟩
    by_cases h3 : cs.length = 2
    · left
      rw [List.drop_eq_nil_iff.2 (by omega)]
      rfl
    · right
      refine ⟨g, o + 2, r, ha' (by omega), hm, fun i y hy => ?_⟩
      have e1 : (ints (cs.drop 2))[i]? = (ints cs)[2 + i]? := by
        show ((cs.drop 2).map (Value.int .i64))[i]? = (cs.map (Value.int .i64))[2 + i]?
        rw [List.getElem?_map, List.getElem?_map, List.getElem?_drop]
      rw [e1] at hy
      rw [show o + 2 + i = o + (2 + i) by omega]
      exact hr _ _ hy
section
variable {w0 : World} {b c r pb po : Nat} {t t1 : Value} {G G1 : List (Nat × List Value)} {w w1 w2 : World} {m m1 : M} {s s1 : Pt}
set_option maxHeartbeats 1000000 in
theorem Cut_E (h : SysE w0 b c r pb po t G w m s) (n : Nat) (hc : m.count + 6 * (n : Int) ≤ 300000) (nd : Nd) (p : Pl) (v : Int) (hne : ((cutP n nd.head v).run s m).1 ≠ some none) :
    Calls Tryd.prog 20 #[.pointer (some ⟨pb, po, none⟩), nd.v p, .int .i64 v] w fun e w' => Ev w0 b c r pb po t G w RFell ((cutP n nd.head v).run s m) e w' := by
  obtain ⟨wa, hwa⟩ : ∃ W, W = w.alloc (.cells (nd.row p).toArray 27) := ⟨_, rfl⟩
  have ba : Below w.heap.size w wa := by
    rw [hwa]
    exact (Below.refl _ w).alloc (Nat.le_refl _) _
  have V1 := (Vars.nil (w := w)).new h (nd.row p) 27
  rw [← hwa] at V1
  have hne1 : ((upP n nd.head v).run s m).1 ≠ some none := fun e => hne (by
    rcases ho : (upP n nd.head v).run s m with ⟨o, s1, m1⟩
    rw [ho] at e
    cases e
    rw [cutP, Pr.bind_some ho]
    rfl)
  have hl := upTo_E (h.later ba) n (by omega) nd p v hne1
  have hct := up_count n nd.head v s m
  have HW := Lib.hid hwa.symm
  have HB := Lib.hid ba
  have hld := (V1 (w.heap.size, nd.row p) (by simp)).2.load sh27
  simp only [Nd.row] at HW hld
  unfold Nd.v at hl
  unfold Nd.v
  have HC := Lib.hid hc
  have HN := Lib.hid hne
  clear h hwa ba V1 hc hne hne1
  go_enter Tryd.func20, Tryd.ntmps20
  go_wp2_with (first | rw [HW.out] | ((with_reducible refine load_run ?_ (.tmp 4) 27 ?_ ?_ hld ?_); exact rfl; exact rfl; exact rfl) | fail)
  refine hl.mono ?_
  rintro e w1 hE
  rcases hE.cases with ⟨t1, G1, s1, m1, ho, rfl, ha⟩ | ⟨t1, G1, s1, m1, o, v1, ho, rfl, ⟨x, q, rfl, hin, rfl⟩, ha⟩
  · have HX : Hid (Ev w0 b c r pb po t G w RFell ((cutP n nd.head v).run s m) (Halt pb po) w1) := Ev.die (by rw [cutP, Pr.bind_none ho]) (ha.back HB.out)
    clear hl hE ho ha hld
    unfold Halt
    go_wp2
    exact ⟨rfl, HX.out⟩
  rw [ho] at hct
  simp only at hct
  obtain ⟨w2, hw2⟩ : ∃ W, W = w1.alloc (.cells (x.1.row q).toArray 84) := ⟨_, rfl⟩
  have hb2 : Below w1.heap.size w1 w2 := by rw [hw2]; exact (Below.refl _ _).alloc (Nat.le_refl _) _
  have hs : SVar w2 w1.heap.size (x.1.row q) := by rw [hw2]; exact snew _ _ _
  have ha2 := (ha.back HB.out).later hb2
  have c80 := hs.cell (i := 0) rfl
  have hrun : (cutP n nd.head v).run s m = (cutQ n (some x)).run s1 m1 := Pr.bind_some ho
  have HW2 := Lib.hid hw2.symm
  simp only [Sp.row, Ag.row] at HW2
  unfold Sp.v
  obtain ⟨sp, err⟩ := x
  simp only at *
  by_cases he : err = 0
  · subst he
    by_cases hh : sp.h = 0
    · have HX : Hid (Ev w0 b c r pb po t G w RFell ((cutP n nd.head v).run s m) (.returned (.tuple #[.slice none 0 0, .int .i64 0])) w2) := Ev.ret (a := some ([], 0)) (by rw [hrun, cutQ_nil hh]; simp only [Pr.run]) ⟨_, .nil, rfl, Sl.In.nil, rfl⟩ ha2
      rw [hh] at HW2
      clear hl hE ho ha hld hw2 hb2 hs ha2 hrun hct hin
      go_wp2_with (first | rw [HW2.out] | fail)
      go_ret2
      exact HX.out
    · have hh0 : (sp.h == 0) = false := by simpa using hh
      have hrun2 : (cutP n nd.head v).run s m = _ := hrun.trans (by rw [cutQ_go hh])
      have hnf : ((fellP n sp.h).run s1 m1).1 ≠ some none := fun e => HN.out (by
        rcases ho2 : (fellP n sp.h).run s1 m1 with ⟨o2, s2, m2⟩
        rw [ho2] at e
        cases e
        rw [hrun2, Pr.bind_some ho2]
        rfl)
      have hl2 := Fell_E ha2.sys n (by have := HC.out; omega) sp.h hnf
      have HA := Lib.hid ha2
      have HR := Lib.hid hrun2
      clear hl hE ho ha hld hw2 hb2 hs ha2 hrun hct hin hnf hrun2
      go_wp2_with (first | rw [HW2.out] | fail)
      refine hl2.mono ?_
      rintro e w3 hE
      rcases hE.cases with ⟨t2, G2, s2, m2, ho, rfl, ha⟩ | ⟨t2, G2, s2, m2, o, v1, ho, rfl, ⟨⟨cs, e2⟩, sl, rfl, hin, rfl⟩, ha⟩
      · have HX : Hid (Ev w0 b c r pb po t G w RFell ((cutP n nd.head v).run s m) (Halt pb po) w3) := Ev.die (by rw [HR.out, Pr.bind_none ho]) (HA.out.trans ha)
        clear hl2 hE ho ha
        unfold Halt
        go_wp2
        exact ⟨rfl, HX.out⟩
      have hrun3 := HR.out
      rw [Pr.bind_some ho] at hrun3
      simp only at hin hrun3 ⊢
      by_cases he2 : e2 = 0
      · subst he2
        by_cases hlen : 2 ≤ cs.length
        · have hrun4 : (cutP n nd.head v).run s m = (some (some (cs.drop 2, 0)), s2, m2) := by rw [hrun3, cutF_ok hlen]; simp only [Pr.run]
          obtain ⟨g, o, ea, hsl⟩ := hin.drop2 hlen
          have hn1 := hin.n
          rw [ints_length] at hn1
          have hc1 := hin.cap
          have HX : Hid (∀ a', (¬ sl.cap = 2 → a' = some ⟨g, o + 2, none⟩) → Ev w0 b c r pb po t G w RFell ((cutP n nd.head v).run s m) (.returned (.tuple #[.slice a' (sl.n - 2) (sl.cap - 2), .int .i64 0])) w3) := fun a' ha' => Ev.ret hrun4 ⟨(cs.drop 2, 0), ⟨a', sl.n - 2, sl.cap - 2⟩, rfl, hsl a' ha', rfl⟩ (HA.out.trans ha)
          have hx1 : (2 : Int) ≤ (sl.n : Int) := by omega
          have hx2 : (sl.n : Int) ≤ (sl.cap : Int) := by omega
          have hx3 : (2 : Int) ≤ (sl.cap : Int) := by omega
          obtain ⟨sa, sn, sc⟩ := sl
          simp only at *
          subst ea
          clear hl2 hE ho ha hrun3 hrun4 hsl hin
          subst hn1
          by_cases hsc : sc = 2
          · subst hsc
            go_wp2_with fail
            go_ret2
            have hz : cs.length - 2 = 0 := by omega
            have hX := HX.out (some ⟨g, o, none⟩) (fun h => absurd trivial h)
            rw [hz] at hX
            exact hX
          · go_wp2_with fail
            go_ret2
            exact HX.out _ (fun _ => rfl)
        · exact absurd (by rw [hrun3, cutF_short hlen]; rfl) HN.out
      · have HX : Hid (Ev w0 b c r pb po t G w RFell ((cutP n nd.head v).run s m) (.returned (.tuple #[.slice none 0 0, .int .i64 e2])) w3) := Ev.ret (a := some ([], e2)) (by rw [hrun3, cutF_err he2]; simp only [Pr.run]) ⟨_, .nil, rfl, Sl.In.nil, rfl⟩ (HA.out.trans ha)
        clear hl2 hE ho ha hrun3 hin
        go_wp2_with fail
        go_ret2
        exact HX.out
  · have HX : Hid (Ev w0 b c r pb po t G w RFell ((cutP n nd.head v).run s m) (.returned (.tuple #[.slice none 0 0, .int .i64 err])) w2) := Ev.ret (a := some ([], err)) (by rw [hrun, cutQ_err he]; simp only [Pr.run]) ⟨_, .nil, rfl, Sl.In.nil, rfl⟩ ha2
    clear hl hE ho ha hld hw2 hb2 hs ha2 hrun hct hin
    go_wp2_with (first | rw [HW2.out] | fail)
    go_ret2
    exact HX.out
end
end Go.Proofs.YtbcpdkmbbgcfbaaDoor
