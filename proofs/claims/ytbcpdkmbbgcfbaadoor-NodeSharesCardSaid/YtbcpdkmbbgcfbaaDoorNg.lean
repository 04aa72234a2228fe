/- What Load, Own, Lift, Undo come to. Conditions: at most 400000 asks; at most 90000 links. -/
import Derived.Test.YtbcpdkmbbgcfbaaDoorNf
namespace Go.Proofs.YtbcpdkmbbgcfbaaDoor
open Go.RowKit Go.Op
set_option maxRecDepth 100000

section
variable {w0 : World} {b c r pb po : Nat} {t t1 : Value} {G G1 : List (Nat × List Value)} {w w1 w2 : World} {m m1 : M} {s s1 : Pt}
set_option maxHeartbeats 1000000 in
theorem Load_E (h : SysE w0 b c r pb po t G w m s) (hc : m.count ≤ 900000) (k : Int) :
    Calls Tryd.prog 34 #[.pointer (some ⟨pb, po, none⟩), .int .i64 k] w fun e w' => Ev w0 b c r pb po t G w RNode ((loadP k).run s m) e w' := by
  have hb0 := (Below.refl w.heap.size w).alloc (Nat.le_refl _) nobj
  have hl := heldN_E (h.later hb0) hc k
  have HL := Lib.hid (h.fresh nobj)
  have HV := Lib.hid (show SVar (w.alloc nobj) w.heap.size (nd0.row .nil) from snew w (nd0.row .nil) 27)
  have HB := Lib.hid hb0
  clear h hb0
  unfold nobj at hl
  go_enter Tryd.func34, Tryd.ntmps34
  go_wp2_with fail
  refine hl.mono ?_
  rintro e w1 hE
  rcases hE.cases with ⟨t1, G1, s1, m1, ho, rfl, ha⟩ | ⟨t1, G1, s1, m1, x, v, ho, rfl, ⟨p, hi, rfl⟩, ha⟩
  · have HE : Hid (Ev w0 b c r pb po t G w RNode ((loadP k).run s m) (Halt pb po) w1) := Ev.die ho (ha.back HB.out)
    clear hl hE ho ha
    unfold Halt
    go_wp2
    exact ⟨rfl, HE.out⟩
  · obtain ⟨v1, l1⟩ := ha.svar HL.out HV.out
    have hb1 := (Below.refl w1.heap.size w1).alloc (Nat.le_refl _) (.cells (x.1.row p).toArray 27)
    have hn := snew w1 (x.1.row p) 27
    have hln := ha.sys.fresh (.cells (x.1.row p).toArray 27)
    have ha1 := (ha.back HB.out).later hb1
    have hcl := eclone ha1 p.s0 x.1.nx hi
    have c2 := hn.cell (i := 2) rfl
    have HV1 := Lib.hid (v1.later hb1)
    have HL1 := Lib.hid (l1.same hb1.size)
    have HN := Lib.hid hn
    have HLN := Lib.hid hln
    have HO := Lib.hid ho
    have HB1 := Lib.hid ha.but.size
    simp only [Nd.row] at hcl c2
    unfold Nd.v
    clear hl hE ho ha v1 l1 hi hb1 hn hln ha1
    go_wp2_with fail
    refine hcl.mono ?_
    rintro e w2 ⟨⟨sl, G2, rfl, hsl, ha2, hg2⟩, hb2⟩
    have n2 := HN.out.later hb2
    have v2 := HV1.out.later hb2
    have ln2 := HLN.out.grow hb2.size hg2
    have lv2 := HL1.out.grow hb2.size hg2
    have e2 := n2.cell (i := 2) rfl
    have fn := n2.fz
    have b3 : But w1.heap.size w2 (w2.setCell ⟨w1.heap.size, 2, none⟩ (.slice sl.a sl.n sl.cap)) := (But.refl _ _).set _ _
    have n3 : SVar (w2.setCell ⟨w1.heap.size, 2, none⟩ (.slice sl.a sl.n sl.cap)) w1.heap.size (x.1.row ⟨sl, .nil, .nil, .nil⟩) := n2.set (i := 2) (by simp [Nd.row]) _
    have hsz : w.heap.size < w1.heap.size := by
      have h1 := HB1.out
      simp only [World.size_alloc] at h1
      omega
    have v3 := v2.same b3.size (b3.block _ v2.lt (by omega))
    have ha3 := ha2.aside b3 ln2 (by omega)
    have hld := n3.load sh27
    have hst := v3.store (row' := x.1.row ⟨sl, .nil, .nil, .nil⟩) rfl sh27 (x.1.row_one _)
    have HF : Hid (Ev w0 b c r pb po t G w RNode ((loadP k).run s m) (.returned (.tuple #[x.1.v ⟨sl, .nil, .nil, .nil⟩, .int .i64 x.2])) (sput (w2.setCell ⟨w1.heap.size, 2, none⟩ (.slice sl.a sl.n sl.cap)) w.heap.size (x.1.row ⟨sl, .nil, .nil, .nil⟩)) ∧ (loadVar 27 ⟨w.heap.size, 0, none⟩).run Tryd.prog (sput (w2.setCell ⟨w1.heap.size, 2, none⟩ (.slice sl.a sl.n sl.cap)) w.heap.size (x.1.row ⟨sl, .nil, .nil, .nil⟩)) = .ok (x.1.v ⟨sl, .nil, .nil, .nil⟩) (sput (w2.setCell ⟨w1.heap.size, 2, none⟩ (.slice sl.a sl.n sl.cap)) w.heap.size (x.1.row ⟨sl, .nil, .nil, .nil⟩))) :=
      ⟨Ev.ret HO.out ⟨⟨sl, .nil, .nil, .nil⟩, hsl, rfl⟩ (ha3.aside (But.sput _ _ _) (lv2.same b3.size) (Nat.le_refl _)), (v3.put (row' := x.1.row ⟨sl, .nil, .nil, .nil⟩) rfl).loadVar sh27⟩
    generalize sput (w2.setCell ⟨w1.heap.size, 2, none⟩ (.slice sl.a sl.n sl.cap)) w.heap.size (x.1.row ⟨sl, .nil, .nil, .nil⟩) = W at hst HF
    unfold Nd.v at HF
    simp only [Nd.row] at hld hst
    clear hcl c2 n2 v2 ln2 lv2 b3 n3 v3 ha3 ha2 hsl hg2 hb2 HN HV1 HL1 HLN
    go_wp2_with (first | ((with_reducible refine load_run ?_ (.tmp 6) 27 ?_ ?_ hld ?_); exact rfl; exact rfl; exact rfl) | ((with_reducible refine store_run ?_ (.tmp 4) (.tmp 18) 27 ?_ ?_ ?_ hst ?_); exact rfl; exact rfl; exact rfl; exact rfl))
    exact bodyPost_ret (res_ct (.int .i64 x.2) Tryd.results34 rfl rfl HF.out.2) rfl HF.out.1
/-- A new slice of such numbers, and all else as it was. -/
structure Owned (w0 : World) (b c r pb po : Nat) (t : Value) (G : List (Nat × List Value)) (w : World) (m : M) (s : Pt) (l : List Int) (sl : Sl) (w' : World) : Prop where
  n : sl.n = l.length
  cap : sl.n ≤ sl.cap
  aft : Aft w0 b c r pb po t G w t G w' m s
  row : ORow w0 b c r pb t G w' (.slice sl.a sl.n sl.cap) l
  same : ∀ z, z < w.heap.size → w'.heap[z]? = w.heap[z]?
set_option maxHeartbeats 1000000 in
/-- Own answers the handles of a node's cells. -/
theorem own_E (h : SysE w0 b c r pb po t G w m s) (k : Int) (n : Nd) (p : Pl) (hi : n.d.In G p) (hn : n.nx.length ≤ 90000) :
    Calls Tryd.prog 35 #[.int .i64 k, n.v p] w fun e w' => ∃ sl : Sl, e = .returned (.slice sl.a sl.n sl.cap) ∧ Owned w0 b c r pb po t G w m s (k :: n.head :: n.nx) sl w' := by
  obtain ⟨wa, hwa⟩ : ∃ W, W = (w.alloc (.cells (n.row p).toArray 27)).alloc (.cells #[.int .i64 k, .int .i64 n.head] 3) := ⟨_, rfl⟩
  have hsz : (w.alloc (.cells (n.row p).toArray 27)).heap.size = w.heap.size + 1 := by simp
  have b1 := (Below.refl w.heap.size w).alloc (Nat.le_refl _) (.cells (n.row p).toArray 27)
  have ba : Below w.heap.size w wa := by rw [hwa]; exact b1.alloc (by simp) _
  have b2 := (Below.refl (w.alloc (.cells (n.row p).toArray 27)).heap.size (w.alloc (.cells (n.row p).toArray 27))).alloc (Nat.le_refl _) (.cells #[.int .i64 k, .int .i64 n.head] 3)
  have va := snew w (n.row p) 27
  have va2 : SVar wa w.heap.size (n.row p) := by rw [hwa]; exact va.later b2
  have ob : ORow w0 b c r pb t G wa (.slice (some ⟨w.heap.size + 1, 0, none⟩) 2 2) [k, n.head] := by
    have h1 := (h.later b1).fresh (.cells #[.int .i64 k, .int .i64 n.head] 3)
    rw [hsz] at h1
    have hB : w0.heap.size ≤ w.heap.size := by
      obtain ⟨m0, s0, q1, -⟩ := h
      exact q1.has.below.size
    have h2 := World.ownsRow_lit (e := 3) (size := 1) (base := w0.heap.size) (w.alloc (.cells (n.row p).toArray 27)) #[.int .i64 k, .int .i64 n.head] 2 (by rw [hsz]; omega) (by unfold maxLen; omega) rfl
    rw [hsz] at h2
    refine ⟨by rw [hwa]; exact h2, fun g e => ?_⟩
    cases e
    rw [hwa]; exact h1
  have hA : Aft w0 b c r pb po t G w t G wa m s := (Aft.refl h).later ba
  have hnl := hi.n
  rw [ints_length] at hnl
  have HAp : Hid (∀ ty, ∃ v' w3, (Builtin.append_ #[25, 25] ty #[.slice (some ⟨w.heap.size + 1, 0, none⟩) 2 2, .slice p.s0.a p.s0.n p.s0.cap]).run Tryd.prog wa = .ok v' w3 ∧ ∃ sl : Sl, v' = .slice sl.a sl.n sl.cap ∧ Hid (Owned w0 b c r pb po t G w m s (k :: n.head :: n.nx) sl w3)) := by
    intro ty
    have hsl := slat_in hA.sys hi
    rw [hnl]
    cases hpa : p.s0.a with
    | none =>
      have h0 : n.nx = [] := by
        rcases hsl with e | ⟨g, o, e, -⟩
        · exact e
        · rw [hpa] at e; cases e
      obtain ⟨i0, hi0, -⟩ := info_parts info3
      refine ⟨_, wa, ?_, ⟨some ⟨w.heap.size + 1, 0, none⟩, 2, 2⟩, rfl, ⟨by rw [h0]; rfl, Nat.le_refl _, hA, by rw [h0]; exact ob, fun z hz => ba.block z hz⟩⟩
      rw [h0]
      exact run_append_nothing wa 25 25 ty 3 i0 Tryd.underlying25 hi0 (some ⟨w.heap.size + 1, 0, none⟩) 2 2 (Nat.le_refl _) _ (Src.ofNil wa Tryd.underlying25 p.s0.cap)
    | some ad =>
      obtain ⟨v', w3, h1, h2, h3, h4, h5, h6⟩ := ob.app hA (fun z e => by cases e; exact Nat.le_succ _) ad p.s0.cap n.nx (fun j u hj => by
        rcases hsl with e | ⟨g, o, e, hlt, hr⟩
        · rw [e] at hj; simp [ints] at hj
        · rw [hpa] at e
          cases e
          rw [add_off]; exact hr j u hj) (by simp only [List.length_cons, List.length_nil]; omega) ty
      obtain ⟨a3, cap3, e3, c3, -, -⟩ := h3.val
      subst e3
      exact ⟨_, w3, h1, ⟨a3, _, cap3⟩, rfl, ⟨rfl, c3, h2, h3, fun z hz => (h6 z (Nat.lt_of_lt_of_le hz ba.size) (fun e => by
        have e2 : w.heap.size + 1 = z := Option.some.inj e
        omega)).trans (ba.block z hz)⟩⟩
  have HW : Hid ((w.alloc (.cells #[.string n.low, .int .i64 n.head, .slice p.s0.a p.s0.n p.s0.cap] 27)).alloc (.cells #[.int .i64 k, .int .i64 n.head] 3) = wa) := hwa.symm
  have c2 := va2.cell (i := 2) rfl
  clear h hwa hsz b1 b2 ba va va2 ob hA hi hnl hn
  unfold Nd.v
  go_enter Tryd.func35, Tryd.ntmps35
  go_wp2_with (first | rw [HW.out] | (at_builtin; refine append_run2 rfl (.tmp 8) (.tmp 10) 25 rfl rfl rfl HAp.out ?_; rintro v' w3 ⟨sl, rfl, HL⟩; clear HAp) | fail)
  go_ret
  exact ⟨sl, rfl, HL.out⟩
end
end Go.Proofs.YtbcpdkmbbgcfbaaDoor
