/- What upTo comes to: the first age of a chain that isn't newer than a version. Conditions: at most 700000 asks; so many ages at most as are told. -/
import Derived.Test.YtbcpdkmbbgcfbaaDoorNk
namespace Go.Proofs.YtbcpdkmbbgcfbaaDoor
open Go.RowKit Go.Op
set_option maxRecDepth 100000
attribute [local go_sem] Oper.semAt_some

def wordP (k : Int) : Pr (Int × Int) := .ask (.word k) fun a => .ret (a.n, a.err)
def upF (v : Int) (_ : Sp × Int) (sp : Sp) (err : Int) : Option (Bool × (Sp × Int)) := some (if err = 0 then (if sp.a.r.ver ≤ v then (false, (sp, 0)) else (true, (sp0, 0))) else (false, (sp0, err)))
/-- None: more ages than so many. -/
def upP (n : Nat) (hd v : Int) : Pr (Option (Sp × Int)) := (wordP hd).bind fun a => if a.2 = 0 then (chainP wordP (upF v) n a.1 (sp0, 0)).bind fun o => .ret (o.map Prod.snd) else .ret (some (sp0, a.2))
def RUp (G' : List (Nat × List Value)) (a : Option (Sp × Int)) (v : Value) : Prop := ∃ x p, a = some x ∧ x.1.a.d.In G' p ∧ v = .tuple #[x.1.v p, .int .i64 x.2]
theorem wordP_count (k : Int) (s : Pt) (m : M) : ((wordP k).run s m).2.2.count ≤ m.count + 2 ∧ ((wordP k).run s m).2.2.count ≤ m.count + 1 := by
  rw [wordP, Pr.run_ask]
  have h := ask_count s (.word k) m
  rcases ha : s.ask (.word k) m with ⟨_ | a, s', m'⟩
  all_goals
    rw [ha] at h
    simp only [Pr.run] at h ⊢
    omega
def spobj : Obj := .cells #[.int .i64 0, .int .i64 0, .int .i64 0, .string { data := #[] }, .string { data := #[] }, .bool false, .bool false, .slice none 0 0, .slice none 0 0, .slice none 0 0, .slice none 0 0, .int .i64 0] 84
section
variable {w0 : World} {b c r pb po : Nat} {t t1 : Value} {G G1 : List (Nat × List Value)} {w w1 w2 : World} {m m1 : M} {s s1 : Pt}
theorem eword2 (h : SysE w0 b c r pb po t G w m s) (hc : m.count ≤ 900000) (k : Int) :
    Calls Tryd.prog 37 #[.pointer (some ⟨pb, po, none⟩), .int .i64 k] w fun e w' => Ev w0 b c r pb po t G w RInt2 ((wordP k).run s m) e w' := by
  refine (eword h hc k).mono fun e w' hE => ?_
  rcases hE.cases with ⟨t1, G1, s1, m1, ho, rfl, ha⟩ | ⟨t1, G1, s1, m1, a, v, ho, rfl, rfl, ha⟩
  · exact Ev.die (by rw [wordP, Pr.run_ask, ho]) ha
  · exact Ev.ret (a := (a.n, a.err)) (by rw [wordP, Pr.run_ask, ho]; simp only [Pr.run]) rfl ha
theorem SVar.loadInt {z : Nat} {k : Int} (h : SVar w z [.int .i64 k]) : (Go.loadVar 43 ⟨z, 0, none⟩).run Tryd.prog w = .ok (.int .i64 k) w := by
  have := h.cell (i := 0) rfl
  go_simp
/-- Two variables of the caller's own are stored into. -/
structure Put2 (w0 : World) (b c r pb po : Nat) (t : Value) (G : List (Nat × List Value)) (w : World) (t2 : Value) (G2 : List (Nat × List Value)) (m2 : M) (s2 : Pt) (W : World) (z6 z7 : Nat) (row : List Value) (k e : Int) (W6 W7 : World) : Prop where
  aft : Aft w0 b c r pb po t G w t2 G2 W7 m2 s2
  v6 : SVar W7 z6 row
  v7 : SVar W7 z7 [.int .i64 e]
  l6 : Loc w0 b c r pb t2 G2 W7 z6
  l7 : Loc w0 b c r pb t2 G2 W7 z7
  mid : SVar W6 z7 [.int .i64 k]
  size : W.heap.size ≤ W7.heap.size
  same : ∀ z, z ≠ z6 → z ≠ z7 → z < W.heap.size → W7.heap[z]? = W.heap[z]?
theorem put2 {t2 : Value} {G2 : List (Nat × List Value)} {m2 : M} {s2 : Pt} {W : World} {z6 z7 : Nat} {row row' : List Value} {k : Int} (hA : Aft w0 b c r pb po t G w t2 G2 W m2 s2) (l6 : Loc w0 b c r pb t2 G2 W z6) (v6 : SVar W z6 row) (l7 : Loc w0 b c r pb t2 G2 W z7) (v7 : SVar W z7 [.int .i64 k]) (hne : z6 ≠ z7) (h6 : w.heap.size ≤ z6) (h7 : w.heap.size ≤ z7) (hl : row'.length = row.length) (e : Int) :
    Put2 w0 b c r pb po t G w t2 G2 m2 s2 W z6 z7 row' k e (sput W z6 row') ((sput W z6 row').setCell ⟨z7, 0, none⟩ (.int .i64 e)) := by
  have b6 := But.sput W z6 row'
  have b7 : But z7 (sput W z6 row') ((sput W z6 row').setCell ⟨z7, 0, none⟩ (.int .i64 e)) := (But.refl _ _).set _ _
  have q6 := v6.put hl
  have q7 := v7.same b6.size (b6.block _ v7.lt (Ne.symm hne))
  exact ⟨(hA.aside b6 l6 h6).aside b7 (l7.same b6.size) h7, q6.same b7.size (b7.block _ q6.lt hne), q7.set (i := 0) (by simp) _, (l6.same b6.size).same b7.size, (l7.same b6.size).same b7.size, q7, Nat.le_trans b6.size b7.size, fun z h1 h2 h3 => (b7.block z (Nat.lt_of_lt_of_le h3 b6.size) h2).trans (b6.block z h3 h1)⟩
theorem he37 (zs : Array Value) (w : World) : (callFunc 37 zs).run Tryd.prog w = .ok (.enter 37 zs) w := by kernel_rfl
set_option maxHeartbeats 2000000 in
theorem upTo_E (h : SysE w0 b c r pb po t G w m s) (n : Nat) (hc : m.count + 3 * (n : Int) ≤ 700000) (nd : Nd) (p : Pl) (v : Int) (hne : ((upP n nd.head v).run s m).1 ≠ some none) :
    Calls Tryd.prog 47 #[.pointer (some ⟨pb, po, none⟩), nd.v p, .int .i64 v] w fun e w' => Ev w0 b c r pb po t G w RUp ((upP n nd.head v).run s m) e w' := by
  obtain ⟨wa, hwa⟩ : ∃ W, W = (((w.alloc (.cells (nd.row p).toArray 27)).alloc (.cells #[.int .i64 v] 3)).alloc (.cells (sp0.row .nil).toArray 84)).alloc (.cells #[.int .i64 0] 43) := ⟨_, rfl⟩
  have ba : Below w.heap.size w wa := by
    rw [hwa]
    exact (((((Below.refl _ w).alloc (Nat.le_refl _) _).alloc (by simp) _).alloc (by simp; omega) _).alloc (by simp; omega) _)
  have hza : wa.heap.size = w.heap.size + 4 := by rw [hwa]; simp
  have V1 := (Vars.nil (w := w)).new h (nd.row p) 27
  have h1 := h.later ((Below.refl w.heap.size w).alloc (Nat.le_refl _) (.cells (nd.row p).toArray 27))
  have V2 := V1.new h1 [.int .i64 v] 3
  have h2 := h1.later ((Below.refl _ _).alloc (Nat.le_refl _) (.cells #[.int .i64 v] 3))
  have V3 := V2.new h2 (sp0.row .nil) 84
  have h3 := h2.later ((Below.refl _ _).alloc (Nat.le_refl _) (.cells (sp0.row .nil).toArray 84))
  have V4 := V3.new h3 [.int .i64 0] 43
  simp only [World.size_alloc] at V4
  have e4 : ((((w.alloc (.cells (nd.row p).toArray 27)).alloc (.cells [Value.int .i64 v].toArray 3)).alloc (.cells (sp0.row .nil).toArray 84)).alloc (.cells [Value.int .i64 0].toArray 43)) = wa := hwa.symm
  rw [e4] at V4
  have hl := eword2 (h.later ba) (by omega) nd.head
  have hct := (wordP_count nd.head s m).2
  have HW := Lib.hid hwa.symm
  have HB := Lib.hid ba
  have HV := Lib.hid V4
  have HS := Lib.hid hza
  have c4 := (V4 (w.heap.size, nd.row p) (by simp)).2.cell (i := 1) rfl
  simp only [Nd.row, Sp.row, Ag.row, sp0, ag0, rv0, Pl.nil, Sl.nil] at HW
  unfold Nd.v
  clear h hwa ba V1 h1 V2 h2 V3 h3 V4 e4 hza
  refine (callsIn_wide (n := 0)).1 (callsIn_of_wp_marks Tryd.func47 rfl trivial ?_ rfl)
  simp only [Tryd.ntmps47, List.size_toArray, List.length_cons, List.length_nil, Nat.reduceAdd, Nat.reduceSub, Array.replicate_succ, Array.replicate_zero, List.push_toArray, List.append_toArray, List.nil_append, List.cons_append]
  gi_wp2_with (first | rw [HW.out] | fail)
  refine ⟨trivial, rfl, (callsIn_wide.2 hl).mono ?_⟩
  rintro e w1 hE
  rcases hE.cases with ⟨t1, G1, s1, m1, ho, rfl, ha⟩ | ⟨t1, G1, s1, m1, a, v1, ho, rfl, rfl, ha⟩
  · have HX : Hid (Ev w0 b c r pb po t G w RUp ((upP n nd.head v).run s m) (Halt pb po) w1) := Ev.die (by rw [upP, Pr.bind_none ho]) (ha.back HB.out)
    clear hl hE ho ha
    unfold Halt
    gi_wp2
    exact HX.out
  rw [ho] at hct
  simp only at hct
  have hV := HV.out.aft ha
  have ha1 := ha.back HB.out
  have hrun1 : (upP n nd.head v).run s m = _ := Pr.bind_some (f := fun a : Int × Int => if a.2 = 0 then (chainP wordP (upF v) n a.1 (sp0, 0)).bind fun o => .ret (o.map Prod.snd) else .ret (some (sp0, a.2))) ho
  have hz1 : w.heap.size + 4 ≤ w1.heap.size := by rw [← HS.out]; exact ha.but.size
  by_cases herr : a.2 = 0
  · rw [if_pos herr] at hrun1
    have hch := chain_E w1 ⟨pb, po, none⟩ a.1 37 #[.pointer (some ⟨pb, po, none⟩)] #[]
    obtain ⟨wb, hwb⟩ : ∃ W, W = ((w1.alloc (.cells #[.pointer (some ⟨pb, po, none⟩)] 34)).alloc (.cells #[.int .i64 a.1] 3)).alloc (.cells #[.func (.func 37) #[.pointer (some ⟨pb, po, none⟩)] #[]] 73) := ⟨_, rfl⟩
    have bb : Below w1.heap.size w1 wb := by
      rw [hwb]
      exact ((((Below.refl _ w1).alloc (Nat.le_refl _) _).alloc (by simp) _).alloc (by simp; omega) _)
    have U1 := hV.new ha.sys [.pointer (some ⟨pb, po, none⟩)] 34
    have g1 := ha.sys.later ((Below.refl w1.heap.size w1).alloc (Nat.le_refl _) (.cells [Value.pointer (some ⟨pb, po, none⟩)].toArray 34))
    have U2 := U1.new g1 [.int .i64 a.1] 3
    have g2 := g1.later ((Below.refl _ _).alloc (Nat.le_refl _) (.cells [Value.int .i64 a.1].toArray 3))
    have U3 := U2.new g2 [.func (.func 37) #[.pointer (some ⟨pb, po, none⟩)] #[]] 73
    simp only [World.size_alloc] at U3
    have e3 : (((w1.alloc (.cells [Value.pointer (some ⟨pb, po, none⟩)].toArray 34)).alloc (.cells [Value.int .i64 a.1].toArray 3)).alloc (.cells [Value.func (.func 37) #[.pointer (some ⟨pb, po, none⟩)] #[]].toArray 73)) = wb := hwb.symm
    rw [e3] at U3
    have ab := ha1.later bb
    have HA := Lib.hid ab
    have HU := Lib.hid U3
    have HWb := Lib.hid hwb
    have HRun := Lib.hid hrun1
    have HCt := Lib.hid hct
    have HZ := Lib.hid (Nat.le_trans hz1 bb.size)
    have hm := hmf
    rw [herr]
    clear hl hE ho ha hV ha1 hrun1 hz1 hwb bb U1 g1 U2 g2 U3 e3 ab herr HW HB HV hct
    gi_wp2_with fail
    refine ⟨trivial, rfl, (callsIn_wide.2 hch).mono ?_⟩
    rintro e w2 ⟨rfl, rfl⟩
    rw [← HWb.out]
    clear hch
    gi_wp2_with fail
    obtain ⟨L, hL⟩ : ∃ L : List (Nat × List Value), L = [(w.heap.size + 1, [.int .i64 v]), (w.heap.size + 1 + 1, sp0.row .nil), (w.heap.size + 1 + 1 + 1, [.int .i64 0]), (w1.heap.size, [.pointer (some ⟨pb, po, none⟩)]), (w1.heap.size + 2, [.func (.func 37) #[.pointer (some ⟨pb, po, none⟩)] #[]])] := ⟨_, rfl⟩
    have hUL : Vars w0 b c r pb t1 G1 wb L := HU.out.sub (fun x hx => by
      rw [hL] at hx
      simp only [List.mem_cons, List.not_mem_nil, or_false] at hx ⊢
      rcases hx with rfl | rfl | rfl | rfl | rfl <;> simp)
    have hlt : ∀ x, x ∈ L → x.1 < wb.heap.size := fun x hx => (hUL x hx).2.lt
    have hm5 : (w.heap.size + 1, [Value.int .i64 v]) ∈ L := by rw [hL]; simp
    have hm6 : (w.heap.size + 1 + 1, sp0.row .nil) ∈ L := by rw [hL]; simp
    have hm7 : (w.heap.size + 1 + 1 + 1, [Value.int .i64 0]) ∈ L := by rw [hL]; simp
    have hmp : (w1.heap.size, [Value.pointer (some ⟨pb, po, none⟩)]) ∈ L := by rw [hL]; simp
    have hmn : (w1.heap.size + 2, [Value.func (.func 37) #[.pointer (some ⟨pb, po, none⟩)] #[]]) ∈ L := by rw [hL]; simp
    have hh : wb.cell? ⟨w1.heap.size + 1, 0, none⟩ = some (.int .i64 a.1) := (HU.out (w1.heap.size + 1, [.int .i64 a.1]) (by simp)).2.cell (i := 0) rfl
    clear hL
    have hlast : ∀ (x : Sp × Int) (q : Pl) t2 G2 m2 s2 W7, (upP n nd.head v).run s m = (some (some x), s2, m2) → Aft w0 b c r pb po t G w t2 G2 W7 m2 s2 → x.1.a.d.In G2 q → SVar W7 (w.heap.size + 1 + 1) (x.1.row q) → SVar W7 (w.heap.size + 1 + 1 + 1) [.int .i64 x.2] → W7.heap[wb.heap.size]? = some (.deferred (some [])) → Loc w0 b c r pb t2 G2 W7 wb.heap.size → ∀ ts : Array Value, ts.getD 6 undef = .pointer (some ⟨w.heap.size + 1 + 1, 0, none⟩) → ts.getD 7 undef = .pointer (some ⟨w.heap.size + 1 + 1 + 1, 0, none⟩) → bodyPostM Fence.wide 0 Tryd.prog Tryd.f47 (fun e w' => Ev w0 b c r pb po t G w RUp ((upP n nd.head v).run s m) e w') .ret { tmps := ts, defers := [{ target := .collected wb.heap.size, args := #[] }] } W7 := by
      intro x q t2 G2 m2 s2 W7 hrun hA2 hin v6 v7 hK hlD ts h6 h7
      have hz := HZ.out
      have bd := But.putObj W7 wb.heap.size (.deferred none)
      have q6 := v6.same bd.size (bd.block _ v6.lt (by omega))
      have q7 := v7.same bd.size (bd.block _ v7.lt (by omega))
      exact leave_ret hK (res_cc Tryd.results47 h6 h7 (q6.loadVar sh84) (SVar.loadInt q7)) (Ev.ret hrun ⟨x, q, rfl, hin, rfl⟩ (hA2.aside bd hlD (by omega)))
    have HLast := Lib.hid hlast
    have hz := HZ.out
    have hrw : ∀ o, (chainP wordP (upF v) n a.1 (sp0, 0)).run s1 m1 = o → (upP n nd.head v).run s m = (match o with
        | (some o, s', m') => (some (o.map Prod.snd), s', m')
        | (none, s', m') => (none, s', m')) := by
      intro o ho
      rw [HRun.out, Pr.run_bind, ho]
      rcases o with ⟨_ | o, s', m'⟩
      · rfl
      · rfl
    have HRw := Lib.hid hrw
    clear hrw
    refine wp_chain (w0 := w0) (b := b) (c := c) (r := r) (pb := pb) (po := po) (t := t) (G := G) (w := w) (σ := Sp × Int) wordP (upF v) 37 #[.pointer (some ⟨pb, po, none⟩)] #[] rfl rfl HA.out
      (fun x t2 G2 W => x = (sp0, 0) ∧ Vars w0 b c r pb t2 G2 W L)
      (fun x t2 G2 W => ∃ q, x.1.a.d.In G2 q ∧ Vars w0 b c r pb t2 G2 W [(w.heap.size + 1 + 1, x.1.row q), (w.heap.size + 1 + 1 + 1, [.int .i64 x.2])])
      (fun x t2 G2 W t3 G3 m3 s3 W' ⟨e, V⟩ ha => ⟨e, V.aft ha⟩)
      (fun x t2 G2 W W' z ⟨e, V⟩ hb hz2 => ⟨e, V.but hb fun y hy => by have := hlt y hy; rcases hz2 with e2 | e2 <;> rw [e2] <;> omega⟩)
      (fun x t2 G2 W W' z ⟨q, e, V⟩ hb hz2 => ⟨q, e, V.but hb fun y hy => by
        simp only [List.mem_cons, List.not_mem_nil, or_false] at hy
        rcases hy with rfl | rfl <;> rcases hz2 with e2 | e2 <;> rw [e2] <;> simp only <;> omega⟩)
      (fun x t2 G2 W ⟨e, V⟩ => ⟨(V _ hmp).2.cell (i := 0) rfl, (V _ hmn).2.cell (i := 0) rfl⟩)
      (fun z sp q err => { tmps := #[.pointer (some ⟨pb, po, none⟩), .agg #[.string nd.low, .int .i64 nd.head, .slice p.s0.a p.s0.n p.s0.cap], .int .i64 v, undef, .pointer (some ⟨w.heap.size, 0, none⟩), .pointer (some ⟨w.heap.size + 1, 0, none⟩), .pointer (some ⟨w.heap.size + 1 + 1, 0, none⟩), .pointer (some ⟨w.heap.size + 1 + 1 + 1, 0, none⟩), .int .i64 a.1, .int .i64 0, .pointer (some ⟨z, 0, none⟩), .int .i64 err, .tuple #[.int .i64 a.1, .int .i64 0], .pointer (some ⟨pb, po, none⟩), .pointer (some ⟨w.heap.size, 1, none⟩), .int .i64 nd.head, .tuple #[.int .i64 a.1, .int .i64 0], .int .i64 a.1, .int .i64 0, .int .i64 0, .bool false, undef, undef, .pointer (some ⟨pb, po, none⟩), .int .i64 a.1, .pointer (some ⟨pb, po, none⟩), .func (.func 37) #[.pointer (some ⟨pb, po, none⟩)] #[], .func (.func 69) #[] #[.pointer (some ⟨w1.heap.size + 1, 0, none⟩), .pointer (some ⟨w1.heap.size, 0, none⟩), .pointer (some ⟨w1.heap.size + 2, 0, none⟩)], sp.v q, .int .i64 err, undef, undef, undef, undef, undef, undef, undef, undef, undef, undef, undef, undef], defers := [] })
      ?assign ?body he37 (fun k x t2 G2 m2 s2 W hS hI hcc => eword2 hS (by omega) k) (fun k s m => (wordP_count k s m).1) n a.1 (sp0, 0) ⟨rfl, hUL⟩ hh (by have := HCt.out; omega) ?ne ?done ?stop ?halt
    case ne =>
      intro e
      rcases ho : (chainP wordP (upF v) n a.1 (sp0, 0)).run s1 m1 with ⟨o, s', m'⟩
      rw [ho] at e
      cases o with
      | none => cases e
      | some o =>
        cases o with
        | none => exact hne (by rw [HRw.out _ ho]; rfl)
        | some o => cases e
    case assign =>
      intro l sp q err W K hK
      unfold Sp.v
      unfold Sp.v at hK
      simp only [Sp.row, Ag.row] at hK
      gi_wp2
      exact hK
    case body =>
      rintro l x sp q err y0 t2 G2 m2 s2 Wa W z hfy hA2 - ⟨rfl, V⟩ - hza hzb - hv hin
      obtain rfl := Option.some.inj hfy
      clear hfy
      have hkeep : ∀ (y : Sp × Int) (q' : Pl) (W6 W7 : World), y.1.a.d.In G2 q' → Put2 w0 b c r pb po t G w t2 G2 m2 s2 W (w.heap.size + 1 + 1) (w.heap.size + 1 + 1 + 1) (y.1.row q') 0 y.2 W6 W7 → (y.1.a.d.In G2 q' ∧ Vars w0 b c r pb t2 G2 W7 [(w.heap.size + 1 + 1, y.1.row q'), (w.heap.size + 1 + 1 + 1, [.int .i64 y.2])]) ∧ BKeep w0 b c r pb po t G w wb.heap.size t2 G2 m2 s2 Wa W W7 := fun y q' W6 W7 hin' hp => by
        refine ⟨⟨hin', fun x hx => ?_⟩, hp.aft, hp.size, fun z' h1 h2 => hp.same z' (by omega) (by omega) h2⟩
        simp only [List.mem_cons, List.not_mem_nil, or_false] at hx
        rcases hx with rfl | rfl
        · exact ⟨hp.l6, hp.v6⟩
        · exact ⟨hp.l7, hp.v7⟩
      have HKp := Lib.hid hkeep
      have hne : w.heap.size + 1 + 1 ≠ w.heap.size + 1 + 1 + 1 := by omega
      clear hkeep
      by_cases herr : err = 0
      · subst herr
        have c1 := hv.cell (i := 1) rfl
        have c5 := (V _ hm5).2.cell (i := 0) rfl
        by_cases hver : sp.a.r.ver ≤ v
        · have hf : (if (0 : Int) = 0 then (if sp.a.r.ver ≤ v then (false, (sp, (0 : Int))) else (true, (sp0, 0))) else (false, (sp0, 0))) = (false, (sp, 0)) := by rw [if_pos rfl, if_pos hver]
          have hp := put2 hA2 (V _ hm6).1 (V _ hm6).2 (V _ hm7).1 (V _ hm7).2 hne (by simp only; omega) (by simp only; omega) (row' := sp.row q) rfl 0
          have hld := hv.load sh84
          have hst := (V _ hm6).2.store (row' := sp.row q) rfl sh84 (sp.row_one q)
          have c7 := hp.mid.cell (i := 0) rfl
          have f7 := hp.mid.fz
          have HX := Lib.hid (HKp.out (sp, 0) q _ _ hin hp)
          simp only at hst
          generalize sput W (w.heap.size + 1 + 1) (sp.row q) = W6 at hst c7 f7 HX
          rw [hf]
          clear hA2 V hv hp hf HKp
          gi_wp2_with (first | ((with_reducible refine load_runI ?_ (.tmp 10) 84 ?_ ?_ hld ?_); exact rfl; exact rfl; exact rfl) | ((with_reducible refine store_runI ?_ (.tmp 6) (.tmp 40) 84 ?_ ?_ ?_ hst ?_); exact rfl; exact rfl; exact rfl; exact rfl))
          exact ⟨rfl, ⟨q, HX.out.1.1, HX.out.1.2⟩, HX.out.2⟩
        · have hf : (if (0 : Int) = 0 then (if sp.a.r.ver ≤ v then (false, (sp, (0 : Int))) else (true, (sp0, 0))) else (false, (sp0, 0))) = (true, (sp0, 0)) := by rw [if_pos rfl, if_neg hver]
          have HX : Hid (Vars w0 b c r pb t2 G2 W L ∧ BKeep w0 b c r pb po t G w wb.heap.size t2 G2 m2 s2 Wa W W) := ⟨V, hA2, Nat.le_refl _, fun _ _ _ => rfl⟩
          rw [hf]
          clear hA2 V hv hf HKp
          gi_wp2
          exact ⟨rfl, ⟨rfl, HX.out.1⟩, HX.out.2⟩
      · have hf : (if err = 0 then (if sp.a.r.ver ≤ v then (false, (sp, (0 : Int))) else (true, (sp0, 0))) else (false, (sp0, err))) = (false, (sp0, err)) := by rw [if_neg herr]
        have hp := put2 hA2 (V _ hm6).1 (V _ hm6).2 (V _ hm7).1 (V _ hm7).2 hne (by simp only; omega) (by simp only; omega) (row' := sp0.row .nil) rfl err
        have hst := (V _ hm6).2.store (row' := sp0.row .nil) rfl sh84 (sp0.row_one .nil)
        have c7 := hp.mid.cell (i := 0) rfl
        have f7 := hp.mid.fz
        have HX := Lib.hid (HKp.out (sp0, err) .nil _ _ rv0_in hp)
        simp only at hst
        generalize sput W (w.heap.size + 1 + 1) (sp0.row .nil) = W6 at hst c7 f7 HX
        simp only [Sp.row, Ag.row, sp0, ag0, rv0, Pl.nil, Sl.nil] at hst
        rw [hf]
        clear hA2 V hv hp hf HKp
        gi_wp2_with (first | ((with_reducible refine store_runI ?_ (.tmp 6) (.tmp 32) 84 ?_ ?_ ?_ hst ?_); exact rfl; exact rfl; exact rfl; exact rfl))
        exact ⟨rfl, ⟨.nil, HX.out.1.1, HX.out.1.2⟩, HX.out.2⟩
    case done =>
      rintro x t2 G2 m2 s2 W ho hA2 ⟨rfl, V⟩ hK hlD
      have hne : w.heap.size + 1 + 1 ≠ w.heap.size + 1 + 1 + 1 := by omega
      have hp := put2 hA2 (V _ hm6).1 (V _ hm6).2 (V _ hm7).1 (V _ hm7).2 hne (by simp only; omega) (by simp only; omega) (row' := sp0.row .nil) rfl 0
      have hst := (V _ hm6).2.store (row' := sp0.row .nil) rfl sh84 (sp0.row_one .nil)
      have c7 := hp.mid.cell (i := 0) rfl
      have f7 := hp.mid.fz
      have hD := (hp.same wb.heap.size (by simp only; omega) (by simp only; omega) hlD.lt).trans hK
      have HX := Lib.hid (HLast.out (sp0, 0) .nil t2 G2 m2 s2 _ (HRw.out _ ho) hp.aft rv0_in hp.v6 hp.v7 hD (hlD.same hp.size))
      simp only at hst
      generalize sput W (w.heap.size + 1 + 1) (sp0.row .nil) = W6 at hst c7 f7 HX
      simp only [Sp.row, Ag.row, sp0, ag0, rv0, Pl.nil, Sl.nil] at hst
      clear hA2 V hp hD hK hlD ho
      gi_wp2_with (first | ((with_reducible refine store_runI ?_ (.tmp 6) (.tmp 41) 84 ?_ ?_ ?_ hst ?_); exact rfl; exact rfl; exact rfl; exact rfl))
      refine HX.out _ ?_ ?_
      · rfl
      · rfl
    case stop =>
      rintro x t2 G2 m2 s2 W ho hA2 ⟨q, hin, V⟩ hK hlD
      have HX := Lib.hid (HLast.out x q t2 G2 m2 s2 W (HRw.out _ ho) hA2 hin (V (w.heap.size + 1 + 1, x.1.row q) (by simp)).2 (V (w.heap.size + 1 + 1 + 1, [.int .i64 x.2]) (by simp)).2 hK hlD)
      clear hA2 V hK hlD ho
      gi_wp2
      refine HX.out _ ?_ ?_
      · rfl
      · rfl
    case halt =>
      rintro t2 G2 m2 s2 W ho hA2 hK hlD
      have hrun := HRw.out _ ho
      have hX : Ev w0 b c r pb po t G w RUp ((upP n nd.head v).run s m) (Halt pb po) (W.putObj wb.heap.size (.deferred none)) := Ev.die hrun (hA2.aside (But.putObj _ _ _) hlD (by omega))
      exact leave_die hK hX
  · rw [if_neg herr] at hrun1
    have v6 := (hV (w.heap.size + 1 + 1, sp0.row .nil) (by simp)).2
    have v7 := (hV (w.heap.size + 1 + 1 + 1, [.int .i64 0]) (by simp)).2
    have l6 := (hV (w.heap.size + 1 + 1, sp0.row .nil) (by simp)).1
    have l7 := (hV (w.heap.size + 1 + 1 + 1, [.int .i64 0]) (by simp)).1
    have hst := v6.store (row' := sp0.row .nil) rfl sh84 (sp0.row_one .nil)
    have q6 := v6.put (row' := sp0.row .nil) rfl
    have bt := But.sput w1 (w.heap.size + 1 + 1) (sp0.row .nil)
    have q7 := v7.same bt.size (bt.block _ v7.lt (by omega))
    have ha2 := ha1.aside bt l6 (by omega)
    have m7 := l7.same bt.size
    generalize sput w1 (w.heap.size + 1 + 1) (sp0.row .nil) = W at hst q6 q7 ha2 m7
    have c7 := q7.cell (i := 0) rfl
    have f7 := q7.fz
    have b7 : But (w.heap.size + 1 + 1 + 1) W (W.setCell ⟨w.heap.size + 1 + 1 + 1, 0, none⟩ (.int .i64 a.2)) := (But.refl _ _).set _ _
    have HX : Hid (Ev w0 b c r pb po t G w RUp ((upP n nd.head v).run s m) (.returned (.tuple #[sp0.v .nil, .int .i64 a.2])) (W.setCell ⟨w.heap.size + 1 + 1 + 1, 0, none⟩ (.int .i64 a.2)) ∧ (Go.loadVar 84 ⟨w.heap.size + 1 + 1, 0, none⟩).run Tryd.prog (W.setCell ⟨w.heap.size + 1 + 1 + 1, 0, none⟩ (.int .i64 a.2)) = .ok (sp0.v .nil) (W.setCell ⟨w.heap.size + 1 + 1 + 1, 0, none⟩ (.int .i64 a.2)) ∧ (Go.loadVar 43 ⟨w.heap.size + 1 + 1 + 1, 0, none⟩).run Tryd.prog (W.setCell ⟨w.heap.size + 1 + 1 + 1, 0, none⟩ (.int .i64 a.2)) = .ok (.int .i64 a.2) (W.setCell ⟨w.heap.size + 1 + 1 + 1, 0, none⟩ (.int .i64 a.2))) :=
      ⟨Ev.ret (a := some (sp0, a.2)) (by rw [hrun1]; simp only [Pr.run]) ⟨_, .nil, rfl, rv0_in, rfl⟩ (ha2.aside b7 m7 (by omega)), (q6.same b7.size (b7.block _ q6.lt (by omega))).loadVar sh84, SVar.loadInt (q7.set (i := 0) (by simp) _)⟩
    simp only [Sp.row, Ag.row, sp0, ag0, rv0, Pl.nil, Sl.nil] at hst
    clear hl hE ho ha hV ha1 hrun1 v6 v7 l6 l7 q6 q7 bt ha2 m7 b7
    gi_wp2_with (first | ((with_reducible refine store_runI ?_ (.tmp 6) (.tmp 21) 84 ?_ ?_ ?_ hst ?_); exact rfl; exact rfl; exact rfl; exact rfl))
    exact ⟨_, res_cc Tryd.results47 rfl rfl HX.out.2.1 HX.out.2.2, HX.out.1⟩
end
end Go.Proofs.YtbcpdkmbbgcfbaaDoor
