/- What Lay, Make, Take come to. Conditions: at most 400000 asks; at most 90000 links; the library's table stands. -/
import Derived.Test.YtbcpdkmbbgcfbaaDoorNd
namespace Go.Proofs.YtbcpdkmbbgcfbaaDoor
open Go.RowKit Go.Op
set_option maxRecDepth 100000

def layP (r : Rv) (before : Int) : Pr (Int × Int) := layW (ageOf r) [] [before]
def makeP (low : ByteArray) (head : Int) (links : List Int) : Pr (Int × Int) := layW (nodeOf low) [] (head :: links)
theorem he59 (zs : Array Value) (w : World) : (callFunc 59 zs).run Tryd.prog w = .ok (.enter 59 zs) w := by kernel_rfl
theorem he58 (zs : Array Value) (w : World) : (callFunc 58 zs).run Tryd.prog w = .ok (.enter 58 zs) w := by kernel_rfl
theorem int_new (w : World) (x : Int) (ty : TypeId) : (w.alloc (.cells #[.int .i64 x] ty)).rangeAt w.heap.size 0 (ints [x]) := fun j u hj => by
  rw [Nat.zero_add, World.cell?_alloc_new]
  simpa [ints] using hj
section
variable {w0 : World} {b c r pb po : Nat} {t t1 : Value} {G G1 : List (Nat × List Value)} {w w1 w2 : World} {m m1 : M} {s s1 : Pt}
/-- A call whose answer is handed on. -/
theorem Ev.back {α : Type} {R : List (Nat × List Value) → α → Value → Prop} {o : Option α × Pt × M} {e : Ending} (h : Ev w0 b c r pb po t G w1 R o e w2) (hb : Below w.heap.size w w1) : Ev w0 b c r pb po t G w R o e w2 := by
  obtain ⟨t', G', h1, h2⟩ := h
  exact ⟨t', G', h1, h2.back hb⟩
theorem Ev.later {α : Type} {R : List (Nat × List Value) → α → Value → Prop} {o : Option α × Pt × M} {e : Ending} (h : Ev w0 b c r pb po t G w R o e w1) (hb : Below w1.heap.size w1 w2) : Ev w0 b c r pb po t G w R o e w2 := by
  obtain ⟨t', G', h1, h2⟩ := h
  exact ⟨t', G', h1, h2.later hb⟩
set_option maxHeartbeats 1000000 in
theorem Lay_E (h : SysE w0 b c r pb po t G w m s) (hT : TabAt w0) (hc : m.count ≤ 400000) (rv : Rv) (p : Pl) (hin : rv.In G p) (k : Int) :
    Calls Tryd.prog 33 #[.pointer (some ⟨pb, po, none⟩), rv.v p, .int .i64 k] w fun e w' => Ev w0 b c r pb po t G w RInt2 ((layP rv k).run s m) e w' := by
  obtain ⟨wa, hwa⟩ : ∃ W, W = (w.alloc (.cells (rv.row p).toArray 40)).alloc (.cells #[.int .i64 k] 3) := ⟨_, rfl⟩
  have hsz : (w.alloc (.cells (rv.row p).toArray 40)).heap.size = w.heap.size + 1 := by simp
  have b1 := (Below.refl w.heap.size w).alloc (Nat.le_refl _) (.cells (rv.row p).toArray 40)
  have b2 := (Below.refl (w.alloc (.cells (rv.row p).toArray 40)).heap.size (w.alloc (.cells (rv.row p).toArray 40))).alloc (Nat.le_refl _) (.cells #[.int .i64 k] 3)
  have ba : Below w.heap.size w wa := by rw [hwa]; exact b1.alloc (by simp) _
  have va : SVar wa w.heap.size (rv.row p) := by rw [hwa]; exact (snew w (rv.row p) 40).later b2
  have la : Loc w0 b c r pb t G wa w.heap.size := by rw [hwa]; exact (h.fresh (.cells (rv.row p).toArray 40)).same b2.size
  have lb : Loc w0 b c r pb t G wa (w.heap.size + 1) := by
    have := (h.later b1).fresh (.cells #[.int .i64 k] 3)
    rw [hsz] at this
    rw [hwa]; exact this
  have rb : wa.rangeAt (w.heap.size + 1) 0 (ints [k]) := by
    have := int_new (w.alloc (.cells (rv.row p).toArray 40)) k 3
    rw [hsz] at this
    rw [hwa]; exact this
  have hl := lay_E (h.later ba) hT (by omega) (some ⟨w.heap.size + 1, 0, none⟩) 1 [k] (by simp) (.inr ⟨_, 0, rfl, .inl ⟨lb, rb⟩⟩) w.heap.size (rv.row p) la va (ageOf rv) 59 he59 (lay1_E _ rv p hin 1 (Nat.le_refl _))
  have HL : Hid (Calls Tryd.prog 57 #[.pointer (some ⟨pb, po, none⟩), .slice (some ⟨w.heap.size + 1, 0, none⟩) 1 1, .func (.func 59) #[] #[.pointer (some ⟨w.heap.size, 0, none⟩)]] wa fun e w' => Ev w0 b c r pb po t G w RInt2 ((layP rv k).run s m) e w') := hl.mono fun e w' hE => hE.back ba
  have HW : Hid ((w.alloc (.cells #[.int .i64 rv.ver, .int .i64 rv.rate, .string rv.lo, .string rv.hi, .bool rv.all, .bool rv.dead, .slice p.s0.a p.s0.n p.s0.cap, .slice p.s1.a p.s1.n p.s1.cap, .slice p.s2.a p.s2.n p.s2.cap, .slice p.s3.a p.s3.n p.s3.cap] 40)).alloc (.cells #[.int .i64 k] 3) = wa) := hwa.symm
  clear h hwa hsz b1 b2 ba va la lb rb hl
  have hm := hmf
  unfold Rv.v
  go_enter Tryd.func33, Tryd.ntmps33
  go_wp2_with (first | rw [HW.out] | fail)
  refine HL.out.mono ?_
  rintro e w1 hE
  rcases hE.cases with ⟨t1, G1, s1, m1, ho, rfl, ha⟩ | ⟨t1, G1, s1, m1, y, v, ho, rfl, rfl, ha⟩
  · have HX := Lib.hid hE
    clear HL hE ho ha
    unfold Halt
    go_wp2
    exact ⟨rfl, HX.out⟩
  · have HX := Lib.hid hE
    clear HL hE ho ha
    go_wp2
    go_ret2
    exact HX.out
set_option maxHeartbeats 1000000 in
theorem Make_E (h : SysE w0 b c r pb po t G w m s) (hT : TabAt w0) (hc : m.count ≤ 400000) (low : ByteArray) (k : Int) (ad : Addr) (cap : Nat) (l : List Int) (hl : l.length ≤ 90000) (hr : ∀ j u, (ints l)[j]? = some u → w.cell? (ad.add j) = some u) (hlt : l ≠ [] → ad.block < w.heap.size) :
    Calls Tryd.prog 32 #[.pointer (some ⟨pb, po, none⟩), .string low, .int .i64 k, .slice (some ad) l.length cap] w fun e w' => Ev w0 b c r pb po t G w RInt2 ((makeP low k l).run s m) e w' := by
  obtain ⟨wa, hwa⟩ : ∃ W, W = (w.alloc (.cells #[.string low] 9)).alloc (.cells #[.int .i64 k] 3) := ⟨_, rfl⟩
  have hsz : (w.alloc (.cells #[.string low] 9)).heap.size = w.heap.size + 1 := by simp
  have b1 := (Below.refl w.heap.size w).alloc (Nat.le_refl _) (.cells #[.string low] 9)
  have b2 := (Below.refl (w.alloc (.cells #[.string low] 9)).heap.size (w.alloc (.cells #[.string low] 9))).alloc (Nat.le_refl _) (.cells #[.int .i64 k] 3)
  have ba : Below w.heap.size w wa := by rw [hwa]; exact b1.alloc (by simp) _
  have va : SVar wa w.heap.size [.string low] := by rw [hwa]; exact (snew w [.string low] 9).later b2
  have la : Loc w0 b c r pb t G wa w.heap.size := by rw [hwa]; exact (h.fresh (.cells #[.string low] 9)).same b2.size
  have ob : ORow w0 b c r pb t G wa (.slice (some ⟨w.heap.size + 1, 0, none⟩) 1 1) [k] := by
    have h1 := (h.later b1).fresh (.cells #[.int .i64 k] 3)
    rw [hsz] at h1
    have hB : w0.heap.size ≤ w.heap.size := by
      obtain ⟨m0, s0, q1, -⟩ := h
      exact q1.has.below.size
    have h2 := World.ownsRow_lit (e := 3) (size := 1) (base := w0.heap.size) (w.alloc (.cells #[.string low] 9)) #[.int .i64 k] 1 (by rw [hsz]; omega) (by unfold maxLen; omega) rfl
    rw [hsz] at h2
    refine ⟨by rw [hwa]; exact h2, fun g e => ?_⟩
    cases e
    rw [hwa]; exact h1
  have hA : Aft w0 b c r pb po t G w t G wa m s := (Aft.refl h).later ba
  have HAp : Hid (∀ ty, ∃ v' w3, (Builtin.append_ #[25, 25] ty #[.slice (some ⟨w.heap.size + 1, 0, none⟩) 1 1, .slice (some ad) l.length cap]).run Tryd.prog wa = .ok v' w3 ∧ ∃ a3 cap3, v' = .slice a3 (k :: l).length cap3 ∧ Hid (Calls Tryd.prog 57 #[.pointer (some ⟨pb, po, none⟩), .slice a3 (k :: l).length cap3, .func (.func 58) #[] #[.pointer (some ⟨w.heap.size, 0, none⟩)]] w3 fun e w' => Ev w0 b c r pb po t G w RInt2 ((makeP low k l).run s m) e w')) := by
    intro ty
    obtain ⟨v', w3, h1, h2, h3, h4, h5, h6⟩ := ob.app hA (fun z e => by cases e; exact Nat.le_succ _) ad cap l (fun j u hj => by
      have hlj : l ≠ [] := fun e => by rw [e] at hj; simp [ints] at hj
      rw [← hr j u hj]
      exact World.cell?_of_block (w := w) (a := ad.add j) (by
        have : (ad.add j).block = ad.block := by unfold Addr.add; split <;> rfl
        rw [this]
        exact ba.block ad.block (hlt hlj))) (by simp only [List.length_cons, List.length_nil]; omega) ty
    obtain ⟨a3, cap3, e3, -, i3, -⟩ := h3.val
    have hv3 : w3.heap[w.heap.size]? = wa.heap[w.heap.size]? := h6 _ la.lt (fun e => by
      have e2 : w.heap.size + 1 = w.heap.size := Option.some.inj e
      omega)
    refine ⟨v', w3, h1, a3, cap3, e3, ?_⟩
    refine (lay_E h2.sys hT (by omega) a3 cap3 (k :: l) (by simp; omega) i3 w.heap.size [.string low] (la.same h5) (va.same h5 hv3) (nodeOf low) 58 he58 (make1_E _ low _ (by simp))).mono fun e w' hE => ?_
    rcases hE.cases with ⟨t4, G4, s4, m4, ho, rfl, ha⟩ | ⟨t4, G4, s4, m4, y, v, ho, rfl, rfl, ha⟩
    · exact Ev.die ho (h2.trans ha)
    · exact Ev.ret ho rfl (h2.trans ha)
  have HW : Hid ((w.alloc (.cells #[.string low] 9)).alloc (.cells #[.int .i64 k] 3) = wa) := hwa.symm
  clear h hwa hsz b1 b2 ba va la ob hA hr
  have hm := hmf
  go_enter Tryd.func32, Tryd.ntmps32
  go_wp2_with (first | rw [HW.out] | (at_builtin; refine append_run2 rfl (.tmp 12) (.tmp 13) 25 rfl rfl rfl HAp.out ?_; rintro v' w3 ⟨a3, cap3, rfl, HL⟩; clear HAp) | fail)
  refine HL.out.mono ?_
  rintro e w1 hE
  rcases hE.cases with ⟨t1, G1, s1, m1, ho, rfl, ha⟩ | ⟨t1, G1, s1, m1, y, v, ho, rfl, rfl, ha⟩
  · have HX := Lib.hid hE
    clear HL hE ho ha
    unfold Halt
    go_wp2
    exact ⟨rfl, HX.out⟩
  · have HX := Lib.hid hE
    clear HL hE ho ha
    go_wp2
    go_ret2
    exact HX.out
end
end Go.Proofs.YtbcpdkmbbgcfbaaDoor
