/- What tower.Walk comes to, by whatever port. Conditions: at most 400000 asks; so many nodes, ages and links at most as are told. -/
import Derived.Test.YtibimnibmengpaaDoorTf
namespace Go.Proofs.YtibimnibmengpaaDoor
open Go.RowKit Go.Op
set_option maxRecDepth 100000

theorem chain_count {σ : Type} {next : Int → Pr (Int × Int)} {f : σ → Sp → Int → Option (Bool × σ)} (hnc : ∀ k s m, ((next k).run s m).2.2.count ≤ m.count + 2) : ∀ (n : Nat) (h : Int) (x : σ) (s : Pt) (m : M), ((chainP next f n h x).run s m).2.2.count ≤ m.count + 3 * (n : Int)
  | 0, h, x, s, m => by simp only [chainP, Pr.run]; omega
  | n + 1, h, x, s, m => by
    rw [chainP, Pr.run_bind]
    have h1 := (take_count h s m).2
    rcases ho : (takeP h).run s m with ⟨_ | a, s1, m1⟩
    all_goals rw [ho] at h1; simp only at h1 ⊢
    · omega
    · cases hf : f x ⟨h, a.1⟩ a.2 with
      | none => simp only [Pr.run]; omega
      | some y =>
        simp only
        by_cases hy : y.1 = false
        · rw [if_pos hy]; simp only [Pr.run]; omega
        · rw [if_neg hy]
          by_cases ha : a.2 = 0
          · rw [if_pos ha, Pr.run_bind]
            have h2 := hnc a.1.pv s1 m1
            rcases hb : (next a.1.pv).run s1 m1 with ⟨_ | b, s2, m2⟩
            all_goals rw [hb] at h2; simp only at h2 ⊢
            · omega
            · by_cases hb2 : b.2 = 0
              · rw [if_pos hb2]
                by_cases hb1 : b.1 = 0
                · rw [if_pos hb1]; simp only [Pr.run]; omega
                · rw [if_neg hb1]
                  have := chain_count (f := f) hnc n b.1 y.2 s2 m2
                  omega
              · rw [if_neg hb2]
                cases f y.2 sp0 b.2 with
                | none => simp only [Pr.run]; omega
                | some z => simp only [Pr.run]; omega
          · rw [if_neg ha]; simp only [Pr.run]; omega
theorem up_count (n : Nat) (hd v : Int) (s : Pt) (m : M) : ((upP n hd v).run s m).2.2.count ≤ m.count + 3 * (n : Int) + 2 := by
  rw [upP, Pr.run_bind]
  have h1 := (wordP_count hd s m).1
  rcases ho : (wordP hd).run s m with ⟨_ | a, s1, m1⟩
  all_goals rw [ho] at h1; simp only at h1 ⊢
  · omega
  · split
    · rw [Pr.run_bind]
      have h2 := chain_count (f := upF v) (fun k s m => (wordP_count k s m).1) n a.1 (sp0, 0) s1 m1
      rcases hb : (chainP wordP (upF v) n a.1 (sp0, 0)).run s1 m1 with ⟨_ | b, s2, m2⟩
      all_goals rw [hb] at h2; simp only [Pr.run] at h2 ⊢; omega
    · simp only [Pr.run]; omega

theorem links_count : ∀ (l acc : List Int) (s : Pt) (m : M), ((linksP l acc).run s m).2.2.count ≤ m.count + l.length
  | [], acc, s, m => by simp only [linksP, Pr.run, List.length_nil]; omega
  | k :: l, acc, s, m => by
    rw [linksP, Pr.run_ask]
    have h1 := (ask_count s (.word k) m).2.1
    generalize s.ask (.word k) m = u at h1
    obtain ⟨_ | a, s1, m1⟩ := u
    · simp only [List.length_cons] at h1 ⊢; omega
    · simp only [List.length_cons] at h1 ⊢
      split
      · have := links_count l (acc ++ [a.n]) s1 m1; omega
      · simp only [Pr.run]; omega
theorem look_count (n : Nat) (h : Int) (s : Pt) (m : M) : ((lookP n h).run s m).2.2.count ≤ m.count + 3 * (n : Int) + 1004 := by
  have h1 := (load_count h s m).2
  rw [lookP, Pr.run_bind]
  generalize (loadP h).run s m = u at h1
  obtain ⟨_ | x, s1, m1⟩ := u
  · simp only at h1 ⊢; omega
  simp only at h1 ⊢
  split
  · split
    · rename_i hx
      have h2 := links_count x.1.nx [] s1 m1
      rw [Pr.run_bind]
      generalize (linksP x.1.nx []).run s1 m1 = u at h2
      obtain ⟨_ | y, s2, m2⟩ := u
      · simp only at h2 ⊢; omega
      simp only at h2 ⊢
      rw [lookK]
      split
      · have h3 : ((newestP n x.1.head).run s2 m2).2.2.count ≤ m2.count + 3 * (n : Int) + 2 := up_count n x.1.head 9223372036854775807 s2 m2
        rw [Pr.run_bind]
        generalize (newestP n x.1.head).run s2 m2 = u at h3
        obtain ⟨_ | z, s3, m3⟩ := u
        · simp only at h3 ⊢; omega
        · simp only [Pr.run] at h3 ⊢; omega
      · simp only [Pr.run]; omega
    · simp only [Pr.run]; omega
  · simp only [Pr.run]; omega
/-- All nodes along the lowest links; none: more than so many nodes, ages or links. -/
def walkP (n : Nat) : Nat → Int → List Vw → Pr (Option (List Vw × Int))
  | 0, _, _ => .ret none
  | f + 1, h, acc => (lookP n h).bind fun o => match o with
    | none => .ret none
    | some x => if x.2 = 0 then (if x.1.links.length = 0 then .ret (some (acc ++ [x.1], 0)) else if tto (x.1.links.getD 0 0) = 0 then .ret (some (acc ++ [x.1], 0)) else walkP n f (tto (x.1.links.getD 0 0)) (acc ++ [x.1])) else .ret (some ([], x.2))
def vrows (l : List (Vw × Vs)) : List Value := l.flatMap fun x => x.1.row x.2
theorem vrows_length : ∀ l : List (Vw × Vs), (vrows l).length = l.length * 16
  | [] => rfl
  | x :: l => by
    have := vrows_length l
    simp only [vrows, List.flatMap_cons, List.length_append] at this ⊢
    rw [this]
    simp only [Vw.row, List.length_cons, List.length_nil]; omega
theorem vrows_snoc (l : List (Vw × Vs)) (x : Vw) (q : Vs) : vrows (l ++ [(x, q)]) = vrows l ++ x.row q := by simp [vrows]
/-- No view's links stand in a block. -/
def Aside (g : Nat) (l : List (Vw × Vs)) : Prop := ∀ x, x ∈ l → x.1.links = [] ∨ ∃ g' o', x.2.pl.a = some ⟨g', o', none⟩ ∧ g' ≠ g
/-- A row of views that nobody changes, in a block from a number on. -/
def RWk (B : Nat) (G' : List (Nat × List Value)) (a : Option (List Vw × Int)) (v : Value) : Prop :=
  ∃ (l : List (Vw × Vs)) (e : Int), a = some (l.map Prod.fst, e) ∧ (∀ x, x ∈ l → x.1.In G' x.2) ∧ l.length ≤ 200000 ∧ ((l = [] ∧ v = .tuple #[.slice none 0 0, .int .i64 e]) ∨ ∃ g cap, B ≤ g ∧ (g, vrows l) ∈ G' ∧ l.length ≤ cap ∧ v = .tuple #[.slice (some ⟨g, 0, none⟩) l.length cap, .int .i64 e] ∧ Aside g l)
section
variable {w0 : World} {b c r pb po : Nat} {t t1 : Value} {G G1 : List (Nat × List Value)} {w w1 w2 : World} {m m1 : M} {s s1 : Pt}
theorem GRow.freezeV {l : List (Vw × Vs)} {v : Value} {base : Nat} (h : GRow w0 b c r pb t1 G1 base 54 16 w1 v l.length (vrows l)) (ha : Aft w0 b c r pb po t G w t1 G1 w1 m1 s1) (hbw : w.heap.size ≤ base) (hin : ∀ x, x ∈ l → x.1.In G1 x.2) (hl : l.length ≤ 200000) (e : Int) :
    ∃ G2, Aft w0 b c r pb po t G w t1 G2 w1 m1 s1 ∧ RWk base G2 (some (l.map Prod.fst, e)) (.tuple #[v, .int .i64 e]) := by
  rcases h.val with ⟨rfl, hn⟩ | ⟨g, cap, rfl, hc, hg, hlg, hr⟩
  · obtain rfl : l = [] := List.length_eq_zero_iff.1 hn
    exact ⟨G1, ha, [], e, rfl, (fun x hx => by cases hx), by simp, .inl ⟨rfl, rfl⟩⟩
  · exact ⟨(g, vrows l) :: G1, ha.freeze hlg (by omega) hr, l, e, rfl, fun x hx => by
      have := hin x hx
      have hm : ∀ y, y ∈ G1 → y ∈ (g, vrows l) :: G1 := fun y hy => List.mem_cons_of_mem _ hy
      exact ⟨this.1.more hm, this.2.1.more hm, Dat.In.more (d := .age x.1.rv 0) this.2.2 hm⟩, hl, .inr ⟨g, cap, hg, List.mem_cons_self, hc, rfl, fun x hx => by
      rcases (hin x hx).2.1.row with e1 | ⟨g', o', r', e1, hm, -⟩
      · exact .inl (by simpa [ints] using e1)
      · exact .inr ⟨g', o', e1, hlg.ng _ hm⟩⟩⟩
/-- A row that a call answers is no constant. -/
def FzV (e : Ending) (w : World) : Prop := ∀ g n cap er, e = .returned (.tuple #[.slice (some ⟨g, 0, none⟩) n cap, er]) → ∀ i, w.frozen? ⟨g, i, none⟩ = false
theorem FzV.none (er : Value) (w : World) : FzV (.returned (.tuple #[.slice none 0 0, er])) w := fun g n cap er' h => by simp at h
theorem GRow.fzv {base size n : Nat} {e : TypeId} {v : Value} {xs : List Value} (h : GRow w0 b c r pb t1 G1 base e size w1 v n xs) (er : Value) : FzV (.returned (.tuple #[v, er])) w1 := by
  intro g n' cap er' he i
  have hv : v = .slice (some ⟨g, 0, none⟩) n' cap := by
    simp at he
    exact he.1
  rcases id h.own.2 with ⟨q, -⟩ | ⟨g2, cap2, cur, e1, q1, q2, -⟩
  · rw [q] at hv
    cases hv
  · rw [e1] at hv
    cases hv
    unfold World.frozen?
    simp only [q2]
    simp
theorem res_tt {fn : Func} {ts : Array Value} {w : World} {a b : Tmp} (x y : Value) (h : fn.results = #[.tmp a, .tmp b]) (ha : ts.getD a undef = x) (hb : ts.getD b undef = y) : (results fn ts).run Tryd.prog w = .ok (.tuple #[x, y]) w := by
  unfold results
  rw [h]
  simp [ha, hb, -Array.getD_eq_getD_getElem?]
/-- At Walk's loop. -/
structure WK (w0 : World) (b c r pb po : Nat) (t : Value) (G : List (Nat × List Value)) (w : World) (whole : Option (Option (List Vw × Int)) × Pt × M) (n f : Nat) (lv av : Value) (wr : World) : Prop where
  ex : ∃ (h : Int) (l : List (Vw × Vs)) (t2 : Value) (G2 : List (Nat × List Value)) (m2 : M) (s2 : Pt), av = .int .i64 h ∧ Aft w0 b c r pb po t G w t2 G2 wr m2 s2 ∧ (∀ x, x ∈ l → x.1.In G2 x.2) ∧ GRow w0 b c r pb t2 G2 w.heap.size 54 16 wr lv l.length (vrows l) ∧ whole = (walkP n f h (l.map Prod.fst)).run s2 m2 ∧ m2.count + (f : Int) * (3 * (n : Int) + 1010) ≤ 400000 ∧ l.length + f ≤ 200000
theorem info54 : (Tryd.prog.info? 54).map (fun i => (i.zero, i.size, i.bytes)) = some (some (.agg #[.int .i64 0, .string ⟨#[]⟩, .int .i64 0, .slice none 0 0, .slice none 0 0, .int .i64 0, .int .i64 0, .int .i64 0, .string ⟨#[]⟩, .string ⟨#[]⟩, .bool false, .bool false, .slice none 0 0, .slice none 0 0, .slice none 0 0, .slice none 0 0]), 16, 248) := by kernel_rfl
set_option maxHeartbeats 4000000 in
theorem Walk_E (h : SysE w0 b c r pb po t G w m s) (n f : Nat) (hc : m.count + (f : Int) * (3 * (n : Int) + 1010) ≤ 400000) (hf : f ≤ 200000) (first : Int) (hne : ((walkP n f first []).run s m).1 ≠ some none) :
    Calls Tryd.prog 19 #[.pointer (some ⟨pb, po, none⟩), .int .i64 first] w fun e w' => Ev w0 b c r pb po t G w (RWk w.heap.size) ((walkP n f first []).run s m) e w' ∧ FzV e w' := by
  have hzw0 : w0.heap.size ≤ w.heap.size := by
    obtain ⟨m0, s0, q1, -⟩ := h
    exact q1.has.below.size
  obtain ⟨whole, hwh⟩ : ∃ W, W = (walkP n f first []).run s m := ⟨_, rfl⟩
  have HR : Hid (WK w0 b c r pb po t G w whole n f (.slice none 0 0) (.int .i64 first) w) := ⟨first, [], t, G, m, s, rfl, Aft.refl h, (fun x hx => by cases hx), GRow.nil _, hwh, hc, by simpa using hf⟩
  have HNe : Hid (whole.1 ≠ some none) := by rw [hwh]; exact hne
  rw [← hwh]
  have HZ := Lib.hid hzw0
  clear h hc hf hne hwh hzw0
  go_enter Tryd.func19, Tryd.ntmps19
  go_wp2_with fail
  go_loopw [6, 7] (fun lv av wr => ∃ f, Hid (WK w0 b c r pb po t G w whole n f lv av wr)) (fun lv av wr => least fun f => Hid (WK w0 b c r pb po t G w whole n f lv av wr))
  case atStart => exact ⟨f, HR⟩
  case round =>
    obtain ⟨HR2, hmin⟩ := least_is hrel
    clear hrel hmin HR
    obtain ⟨j, hj⟩ : ∃ j, j = least fun f => Hid (WK w0 b c r pb po t G w whole n f u6 u7 wr) := ⟨_, rfl⟩
    rw [← hj] at HR2
    have HJ := Lib.hid hj
    clear hj
    obtain ⟨h1, l, t2, G2, m2, s2, rfl, hA, hin, hg, hw, hcn, hln⟩ := HR2.out.ex
    cases j with
    | zero => exact absurd (by rw [hw]; rfl) HNe.out
    | succ j =>
    have hmul : ((j + 1 : Nat) : Int) * (3 * (n : Int) + 1010) = (j : Int) * (3 * (n : Int) + 1010) + (3 * (n : Int) + 1010) := by push_cast; rw [Int.add_mul, Int.one_mul]
    have hpos : 0 ≤ (j : Int) * (3 * (n : Int) + 1010) := Int.mul_nonneg (by omega) (by omega)
    rw [hmul] at hcn
    have hne2 : ((lookP n h1).run s2 m2).1 ≠ some none := fun e => HNe.out (by
      rw [hw, walkP, Pr.run_bind]
      generalize (lookP n h1).run s2 m2 = u at e
      obtain ⟨_, s4, m4⟩ := u
      simp only at e
      subst e
      rfl)
    have hl := Look_E hA.sys n (by omega) h1 hne2
    have hct := look_count n h1 s2 m2
    have HS := Lib.hid (⟨hA, hin, hg, hcn, hln⟩ : _ ∧ _ ∧ _ ∧ _ ∧ _)
    have HW := Lib.hid hw
    clear hA hin hg hw hcn hln hmul hpos hne2 HR2
    go_wp2_with fail
    refine hl.mono ?_
    rintro e w2 hE
    rcases hE.cases with ⟨t3, G3, s3, m3, ho, rfl, ha⟩ | ⟨t3, G3, s3, m3, o1, v1, ho, rfl, ⟨⟨x, e1⟩, ⟨qn, ⟨pa, pk, pc⟩, p⟩, rfl, hq, rfl⟩, ha⟩
    · have HX : Hid (Ev w0 b c r pb po t G w (RWk w.heap.size) whole (Halt pb po) w2) := Ev.die (by rw [HW.out, walkP, Pr.bind_none ho]) (HS.out.1.trans ha)
      clear hl hE ho ha
      unfold Halt
      go_wp2
      exact ⟨rfl, HX.out, fun _ _ _ _ h => (by cases h)⟩
    rw [ho] at hct
    simp only at hct
    obtain rfl : pk = x.links.length := by have := hq.2.1.n; rwa [ints_length] at this
    obtain ⟨q, hqq⟩ : ∃ q : Vs, q = ⟨qn, ⟨pa, x.links.length, pc⟩, p⟩ := ⟨_, rfl⟩
    rw [← hqq] at hq ⊢
    obtain ⟨hA, hin, hg, hcn, hln⟩ := HS.out
    have hrun : whole = (if e1 = 0 then (if x.links.length = 0 then .ret (some (l.map Prod.fst ++ [x], 0)) else if tto (x.links.getD 0 0) = 0 then .ret (some (l.map Prod.fst ++ [x], 0)) else walkP n j (tto (x.links.getD 0 0)) (l.map Prod.fst ++ [x])) else .ret (some ([], e1)) : Pr (Option (List Vw × Int))).run s3 m3 := by rw [HW.out, walkP, Pr.bind_some ho]
    have hA3 := hA.trans ha
    obtain ⟨w3, hw3⟩ : ∃ W, W = w2.alloc (.cells (x.row q).toArray 54) := ⟨_, rfl⟩
    have hb3 : Below w2.heap.size w2 w3 := by rw [hw3]; exact (Below.refl _ _).alloc (Nat.le_refl _) _
    have sx : SVar w3 w2.heap.size (x.row q) := by rw [hw3]; exact snew _ _ _
    have HW3 := Lib.hid hw3.symm
    unfold Vw.v
    simp only [Vw.row] at HW3
    by_cases he : e1 = 0
    rotate_left
    · rw [if_neg he] at hrun
      have HE : Hid (Ev w0 b c r pb po t G w (RWk w.heap.size) whole (.returned (.tuple #[.slice none 0 0, .int .i64 e1])) w3) := Ev.ret (a := some ([], e1)) hrun ⟨[], e1, rfl, (fun x hx => by cases hx), by simp, .inl ⟨rfl, rfl⟩⟩ (hA3.later hb3)
      rw [hqq] at HW3 ⊢
      simp only at HW3 ⊢
      clear hl hE ho ha hct hA hin hg hcn hln hrun hA3 hw3 hb3 sx hq HS HW HJ
      go_wp2_with (first | rw [HW3.out] | fail)
      exact bodyPost_ret (res_tt (.slice none 0 0) (.int .i64 e1) Tryd.results19 rfl rfl) rfl ⟨HE.out, FzV.none _ _⟩
    subst he
    rw [if_pos rfl] at hrun
    have hin3 : ∀ y, y ∈ l ++ [(x, q)] → y.1.In G3 y.2 := fun y hy => by
      rcases List.mem_append.1 hy with hy | hy
      · have := hin y hy
        exact ⟨this.1.more ha.gro.1, this.2.1.more ha.gro.1, Dat.In.more (d := .age y.1.rv 0) this.2.2 ha.gro.1⟩
      · simp only [List.mem_cons, List.not_mem_nil, or_false] at hy
        subst hy; exact hq
    obtain ⟨w4, hw4⟩ : ∃ W, W = w3.alloc (.cells (x.row q).toArray 54) := ⟨_, rfl⟩
    have hb4 : Below w3.heap.size w3 w4 := by rw [hw4]; exact (Below.refl _ _).alloc (Nat.le_refl _) _
    have hwz := hA3.but.size
    have hzz := HZ.out
    have hap := fun ty => (let ⟨i0, hi, hz0, hz1, hz2⟩ := info_parts info54; GRow.app 44 248 i0 _ Tryd.underlying44 hi hz0 hz1 hz2 rfl (by decide) (((hg.aft ha).later hb3).later hb4) ((hA3.later hb3).later hb4) (by omega) (Nat.le_refl _) (by have := hb3.size; have := hb4.size; omega) ⟨w3.heap.size, 0, none⟩ 1 1 (x.row q) rfl (fun k u hu => by
      rw [add_off, hw4]
      have := (snew w3 (x.row q) 54).at_ k u hu
      exact this) (Vw.row_one _ _) (by omega) (by decide) ty)
    have hnl : l.length + 1 = (l ++ [(x, q)]).length := by simp
    have hmap : l.map Prod.fst ++ [x] = (l ++ [(x, q)]).map Prod.fst := by simp
    have HAp : Hid (∀ ty, ∃ v' w5, (Builtin.append_ #[44, 44] ty #[u6, .slice (some ⟨w3.heap.size, 0, none⟩) 1 1]).run Tryd.prog w4 = .ok v' w5 ∧ SVar w5 w2.heap.size (x.row q) ∧ Hid (Aft w0 b c r pb po t G w t3 G3 w5 m3 s3 ∧ GRow w0 b c r pb t3 G3 w.heap.size 54 16 w5 v' (l ++ [(x, q)]).length (vrows (l ++ [(x, q)])))) := by
      intro ty
      obtain ⟨v', w5, g1, g2, g3, g4, -, g6⟩ := hap ty
      have hnb : ∀ y, u6.ownBlock = some y → y < w2.heap.size := fun y hy => ((hg.aft ha).loc y hy).lt
      have sx4 := sx.later hb4
      refine ⟨v', w5, g1, sx4.same g4 (g6 _ sx4.lt (fun e => by have := hnb _ e; omega)), g2, ?_⟩
      rw [← hnl, vrows_snoc]
      exact g3
    have hcn2 : m3.count + (j : Int) * (3 * (n : Int) + 1010) ≤ 400000 := by
      have hmul : ((j + 1 : Nat) : Int) * (3 * (n : Int) + 1010) = (j : Int) * (3 * (n : Int) + 1010) + (3 * (n : Int) + 1010) := by push_cast; rw [Int.add_mul, Int.one_mul]
      omega
    have HI := Lib.hid hin3
    have HRun := Lib.hid hrun
    have HCn := Lib.hid hcn2
    have HLn : Hid ((l ++ [(x, q)]).length + j ≤ 200000) := by rw [← hnl]; show _ ≤ _; omega
    have hld := sx.load sh54
    have HW4 := Lib.hid hw4.symm
    have HMp := Lib.hid hmap
    have hfew : (x.links.length : Int) ≤ 1000000 := by have := hq.2.1.few; rw [ints_length] at this; exact Int.ofNat_le.mpr this
    have hpl : (⟨pa, x.links.length, pc⟩ : Sl).In G3 (ints x.links) := by have := hq.2.1; rw [hqq] at this; exact this
    have HVl : Hid (u6 = .slice none 0 0 ∨ ∃ g cap, u6 = .slice (some ⟨g, 0, none⟩) l.length cap) := by
      rcases hg.val with ⟨e, -⟩ | ⟨g, cap, e, -⟩
      · exact .inl e
      · exact .inr ⟨g, cap, e⟩
    simp only [Vw.row] at hld HW4
    rw [hqq] at HW3 HW4 hld
    rw [hqq]
    simp only at HW3 HW4 hld ⊢
    have HAp2 : Hid (∀ ty, ∃ v' w5, (Builtin.append_ #[44, 44] ty #[u6, .slice (some ⟨w3.heap.size, 0, none⟩) 1 1]).run Tryd.prog w4 = .ok v' w5 ∧ w5.cell? ⟨w2.heap.size, 4, none⟩ = some (.slice pa x.links.length pc) ∧ (∀ g o y, pa = some ⟨g, o, none⟩ → x.links[0]? = some y → w5.cell? ⟨g, o, none⟩ = some (.int .i64 y)) ∧ Hid (Aft w0 b c r pb po t G w t3 G3 w5 m3 s3 ∧ GRow w0 b c r pb t3 G3 w.heap.size 54 16 w5 v' (l ++ [(x, q)]).length (vrows (l ++ [(x, q)])))) := by
      intro ty
      obtain ⟨v', w5, g1, g2, g3⟩ := HAp.out ty
      refine ⟨v', w5, g1, ?_, fun g o y e hy => ?_, g3⟩
      · have := g2.cell (i := 4) rfl
        rw [hqq] at this
        exact this
      · obtain ⟨g', o', e', hc', -⟩ := g3.out.1.sys.slcell hpl (ints_get hy)
        rw [e] at e'
        cases e'
        rwa [Nat.add_zero] at hc'
    have HPl := Lib.hid hpl
    have HQq := Lib.hid hqq
    clear hl hE ho ha hct hA hin hg hcn hln hrun hA3 hw3 hb3 sx hq HS HW hap hnl hin3 hw4 hb4 hwz hzz hcn2 hmap HAp hpl
    by_cases hx0 : x.links.length = 0
    · have hrun : whole = (some (some (l.map Prod.fst ++ [x], 0)), s3, m3) := by rw [HRun.out, if_pos hx0]; rfl
      have HR := Lib.hid hrun
      rw [hx0] at HW3 HW4 hld HAp2
      simp only [hx0]
      clear hqq hrun hx0 hfew HJ
      go_wp2_with (first | rw [HW3.out] | rw [HW4.out] | ((with_reducible refine load_run ?_ (.tmp 8) 54 ?_ ?_ hld ?_); exact rfl; exact rfl; exact rfl) | (at_builtin; refine append_run2 rfl (.tmp 20) (.tmp 22) 44 rfl rfl rfl HAp2.out ?_; rintro v' w5 ⟨c5, -, HX5⟩; clear HAp2) | fail)
      obtain ⟨hA5, hg5⟩ := HX5.out
      have HFz := Lib.hid (hg5.fzv (.int .i64 0))
      obtain ⟨G6, hA6, hk⟩ := hg5.freezeV hA5 (Nat.le_refl _) HI.out (by have := HLn.out; omega) 0
      have HE : Hid (Ev w0 b c r pb po t G w (RWk w.heap.size) whole (.returned (.tuple #[v', .int .i64 0])) w5) := Ev.ret (a := some ((l ++ [(x, q)]).map Prod.fst, 0)) (by rw [HR.out, ← HMp.out]) hk hA6
      exact bodyPost_ret (res_tt v' (.int .i64 0) Tryd.results19 rfl rfl) rfl ⟨HE.out, HFz.out⟩
    · obtain ⟨y, hy⟩ : ∃ y, x.links[0]? = some y := ⟨_, List.getElem?_eq_getElem (by omega)⟩
      have hyd : x.links.getD 0 0 = y := by rw [List.getD_eq_getElem?_getD, hy]; rfl
      obtain ⟨g, o, eg⟩ : ∃ g o, pa = some ⟨g, o, none⟩ := by
        rcases HPl.out.row with e | ⟨g, o, -, e, -⟩
        · have : (ints x.links).length = 0 := by rw [e]; rfl
          rw [ints_length] at this
          exact absurd this hx0
        · exact ⟨g, o, e⟩
      subst eg
      have HAp3 : Hid (∀ ty, ∃ v' w5, (Builtin.append_ #[44, 44] ty #[u6, .slice (some ⟨w3.heap.size, 0, none⟩) 1 1]).run Tryd.prog w4 = .ok v' w5 ∧ w5.cell? ⟨w2.heap.size, 4, none⟩ = some (.slice (some ⟨g, o, none⟩) x.links.length pc) ∧ w5.cell? ⟨g, o, none⟩ = some (.int .i64 y) ∧ Hid (Aft w0 b c r pb po t G w t3 G3 w5 m3 s3 ∧ GRow w0 b c r pb t3 G3 w.heap.size 54 16 w5 v' (l ++ [(x, q)]).length (vrows (l ++ [(x, q)])))) := fun ty => by
        obtain ⟨v', w5, g1, g2, g3, g4⟩ := HAp2.out ty
        exact ⟨v', w5, g1, g2, g3 g o y rfl hy, g4⟩
      have hrun : whole = (if tto y = 0 then .ret (some (l.map Prod.fst ++ [x], 0)) else walkP n j (tto y) (l.map Prod.fst ++ [x]) : Pr (Option (List Vw × Int))).run s3 m3 := by rw [HRun.out, if_neg hx0, hyd]
      have HR := Lib.hid hrun
      have hxp : (0 : Int) < (x.links.length : Int) := by omega
      have hxq : ((x.links.length : Int) == 0) = false := by rw [beq_eq_false_iff_ne]; omega
      have htt := fun w => tto_any y w
      clear hqq hrun hx0 hfew HAp2 hy hyd
      go_wp2_with (first | rw [HW3.out] | rw [HW4.out] | ((with_reducible refine load_run ?_ (.tmp 8) 54 ?_ ?_ hld ?_); exact rfl; exact rfl; exact rfl) | (at_builtin; refine append_run2 rfl (.tmp 20) (.tmp 22) 44 rfl rfl rfl HAp3.out ?_; rintro v' w5 ⟨c5, d5, HX5⟩; clear HAp3) | fail)
      refine (htt _).mono ?_
      rintro e w6 ⟨rfl, rfl⟩
      obtain ⟨hA5, hg5⟩ := HX5.out
      have HFz := Lib.hid (hg5.fzv (.int .i64 0))
      by_cases ht0 : tto y = 0
      · obtain ⟨G6, hA6, hk⟩ := hg5.freezeV hA5 (Nat.le_refl _) HI.out (by have := HLn.out; omega) 0
        have HE : Hid (Ev w0 b c r pb po t G w (RWk w.heap.size) whole (.returned (.tuple #[v', .int .i64 0])) w5) := Ev.ret (a := some ((l ++ [(x, q)]).map Prod.fst, 0)) (by rw [HR.out, if_pos ht0, ← HMp.out]; rfl) hk hA6
        rw [ht0]
        clear ht0 hA5 hg5 hk hA6 htt
        go_wp2_with fail
        exact bodyPost_ret (res_tt v' (.int .i64 0) Tryd.results19 rfl rfl) rfl ⟨HE.out, HFz.out⟩
      · have ht1 : (tto y == 0) = false := by rw [beq_eq_false_iff_ne]; exact ht0
        have HN : Hid (WK w0 b c r pb po t G w whole n j v' (.int .i64 (tto y)) w5) := ⟨tto y, _, _, _, _, _, rfl, hA5, HI.out, hg5, by rw [HR.out, if_neg ht0, HMp.out], HCn.out, HLn.out⟩
        have HLt : Hid ((least fun f => Hid (WK w0 b c r pb po t G w whole n f v' (.int .i64 (tto y)) w5)) < (least fun f => Hid (WK w0 b c r pb po t G w whole n f u6 (.int .i64 h1) wr))) := by
          have h1 := (least_is (P := fun f => Hid (WK w0 b c r pb po t G w whole n f v' (.int .i64 (tto y)) w5)) ⟨j, HN⟩).2 j HN
          have h2 := HJ.out
          show _ < _
          omega
        clear ht0 hA5 hg5 htt HJ
        go_wp2_with fail
        go_roundw
        case rel => exact ⟨j, HN⟩
        case measure => exact HLt.out
end
end Go.Proofs.YtibimnibmengpaaDoor
