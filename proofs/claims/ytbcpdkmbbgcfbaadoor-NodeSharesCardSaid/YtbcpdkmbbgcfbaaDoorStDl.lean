/- What a port's asks answer and make of memory and of the port: told again, stopped, or asked. Conditions: memory is the call's own; at most 1000000 asks. -/
import Derived.Test.YtbcpdkmbbgcfbaaDoorStB
namespace Go.Proofs.YtbcpdkmbbgcfbaaDoor
open Go.RowKit Go.Op
set_option maxRecDepth 100000

theorem AtF.same {w w' : World} {b c r : Nat} {m : M} {F : List Bool} (h : AtF w b c r m F) (hs : w.heap.size ≤ w'.heap.size) (h1 : w'.heap[b]? = w.heap[b]?) (h2 : w'.heap[c]? = w.heap[c]?) (h3 : w'.heap[r]? = w.heap[r]?) : AtF w' b c r m F := by
  have k1 : ∀ i, w'.cell? ⟨b, i, none⟩ = w.cell? ⟨b, i, none⟩ := fun i => World.cell?_of_block (w := w) h1
  have k2 : ∀ i, w'.cell? ⟨c, i, none⟩ = w.cell? ⟨c, i, none⟩ := fun i => World.cell?_of_block (w := w) h2
  have k3 : ∀ i, w'.cell? ⟨r, i, none⟩ = w.cell? ⟨r, i, none⟩ := fun i => World.cell?_of_block (w := w) h3
  have o := h.own
  refine ⟨⟨Nat.lt_of_lt_of_le o.lb hs, Nat.lt_of_lt_of_le o.lc hs, Nat.lt_of_lt_of_le o.lr hs, o.bc, o.br, o.cr, fun i => ?_, fun i => ?_, fun i => ?_⟩, ⟨by rw [k1]; exact h.head.h0, by rw [k1]; exact h.head.h1, by rw [k1]; exact h.head.h2, by rw [k1]; exact h.head.h3, by rw [k1]; exact h.head.h4⟩, fun i x hx => ?_, fun j hj => ?_⟩
  · rw [World.frozen?_of_block (w := w) (a := ⟨b, i, none⟩) h1]; exact o.fb i
  · rw [World.frozen?_of_block (w := w) (a := ⟨c, i, none⟩) h2]; exact o.fc i
  · rw [World.frozen?_of_block (w := w) (a := ⟨r, i, none⟩) h3]; exact o.fr i
  · unfold CAt
    rw [k2, k2, k2, k2]; exact h.cl i x hx
  · rw [k3]; exact h.rw j hj
theorem Has.same {w0 w w' : World} {b c r : Nat} {N : Int} {m : M} (h : Has w0 b c r N w m) (hs : w.heap.size ≤ w'.heap.size) (hb : Below w0.heap.size w0 w') (h1 : w'.heap[b]? = w.heap[b]?) (h2 : w'.heap[c]? = w.heap[c]?) (h3 : w'.heap[r]? = w.heap[r]?) : Has w0 b c r N w' m :=
  ⟨AtF.same h.at_ hs h1 h2 h3, h.ok, hb, h.hb, h.hc, h.hr⟩

/-- All but memory's blocks, the port's, and its row's, is as it was. -/
structure But5 (b c r pb : Nat) (t : Value) (w w' : World) : Prop where
  os : w'.os = w.os
  tape : w'.tape = w.tape
  output : w'.output = w.output
  size : w.heap.size ≤ w'.heap.size
  block : ∀ k, k < w.heap.size → k ≠ b → k ≠ c → k ≠ r → k ≠ pb → some k ≠ t.ownBlock → w'.heap[k]? = w.heap[k]?
section
variable {b c r pb : Nat} {t t' : Value} {w w' w1 w2 w3 : World}
theorem But5.refl (b c r pb : Nat) (t : Value) (w : World) : But5 b c r pb t w w := ⟨rfl, rfl, rfl, Nat.le_refl _, fun _ _ _ _ _ _ _ => rfl⟩
theorem But5.of (h : Below w.heap.size w w') : But5 b c r pb t w w' := ⟨h.os, h.tape, h.output, h.size, fun k hk _ _ _ _ _ => h.block k hk⟩
theorem But5.of1 (h : But pb w w') : But5 b c r pb t w w' := ⟨h.os, h.tape, h.output, h.size, fun k hk _ _ _ hp _ => h.block k hk hp⟩
theorem But5.of2 (h : But2 pb t w w') : But5 b c r pb t w w' := ⟨h.os, h.tape, h.output, h.size, fun k hk _ _ _ hp ht => h.block k hk hp ht⟩
theorem But5.of3 (h : Kept b c r w w') : But5 b c r pb t w w' := ⟨h.os, h.tape, h.output, h.size, fun k hk h1 h2 h3 _ _ => h.block k hk h1 h2 h3⟩
theorem But5.trans (h : But5 b c r pb t w1 w2) (k : But5 b c r pb t w2 w3) : But5 b c r pb t w1 w3 :=
  ⟨k.os.trans h.os, k.tape.trans h.tape, k.output.trans h.output, Nat.le_trans h.size k.size, fun i hi h1 h2 h3 h4 h5 => (k.block i (Nat.lt_of_lt_of_le hi h.size) h1 h2 h3 h4 h5).trans (h.block i hi h1 h2 h3 h4 h5)⟩
theorem Row2.refl (w : World) (t : Value) : Row2 w t t := fun _ h => .inl h
theorem But5.next (h : But5 b c r pb t w1 w2) (hr : Row2 w1 t t') (k : But5 b c r pb t' w2 w3) : But5 b c r pb t w1 w3 :=
  ⟨k.os.trans h.os, k.tape.trans h.tape, k.output.trans h.output, Nat.le_trans h.size k.size, fun i hi h1 h2 h3 h4 h5 => (k.block i (Nat.lt_of_lt_of_le hi h.size) h1 h2 h3 h4 (fun e => by
    rcases hr i e.symm with e2 | e2
    · exact h5 e2.symm
    · omega)).trans (h.block i hi h1 h2 h3 h4 h5)⟩
theorem Row2.next {t'' : Value} (h : Row2 w1 t t') (hs : w1.heap.size ≤ w2.heap.size) (k : Row2 w2 t' t'') : Row2 w1 t t'' := by
  intro j hj
  rcases k j hj with e | e
  · exact h j e
  · exact .inr (Nat.le_trans hs e)
end
/-- A row in the program's memory. -/
structure Rw (w : World) (g : Nat) (l : List Value) : Prop where
  lt : g < w.heap.size
  at_ : ∀ i x, l[i]? = some x → w.cell? ⟨g, i, none⟩ = some x
theorem Rw.same {w w' : World} {g : Nat} {l : List Value} (h : Rw w g l) (hs : w.heap.size ≤ w'.heap.size) (hg : w'.heap[g]? = w.heap[g]?) : Rw w' g l := by
  have k : ∀ i, w'.cell? ⟨g, i, none⟩ = w.cell? ⟨g, i, none⟩ := fun i => World.cell?_of_block (w := w) hg
  refine ⟨Nat.lt_of_lt_of_le h.lt hs, fun i x hx => ?_⟩
  rw [k]; exact h.at_ i x hx
/-- Rows that nobody changes. -/
def RowsG (w0 : World) (b c r pb : Nat) (t : Value) (G : List (Nat × List Value)) (w : World) : Prop :=
  ∀ g l, (g, l) ∈ G → Rw w g l ∧ w0.heap.size ≤ g ∧ g ≠ b ∧ g ≠ c ∧ g ≠ r ∧ g ≠ pb ∧ t.ownBlock ≠ some g
theorem RowsG.step {w0 : World} {b c r pb : Nat} {t t' : Value} {G : List (Nat × List Value)} {w w' : World} (h : RowsG w0 b c r pb t G w) (hb : But5 b c r pb t w w') (hr : Row2 w t t') : RowsG w0 b c r pb t' G w' := by
  intro g l hg
  obtain ⟨h1, h2, h3, h4, h5, h6, h7⟩ := h g l hg
  refine ⟨h1.same hb.size (hb.block g h1.lt h3 h4 h5 h6 (fun e => h7 e.symm)), h2, h3, h4, h5, h6, fun e => ?_⟩
  rcases hr g e with e2 | e2
  · exact h7 e2
  · have := h1.lt
    omega
/-- A port and its memory, both of the call's own; rows of swaps that nobody changes. -/
structure Sys (w0 : World) (b c r : Nat) (N : Int) (G : List (Nat × List Value)) (pb po : Nat) (t : Value) (w : World) (m : M) (s : Pt) : Prop where
  has : Has w0 b c r N w m
  pt : PAt w0.heap.size w pb po b t s
  nb : pb ≠ b ∧ pb ≠ c ∧ pb ≠ r
  tb : t.ownBlock ≠ some b ∧ t.ownBlock ≠ some c ∧ t.ownBlock ≠ some r
  hp : w0.heap.size ≤ pb
  rows : RowsG w0 b c r pb t G w
section
variable {w0 : World} {b c r : Nat} {N : Int} {G : List (Nat × List Value)} {pb po : Nat} {t : Value} {w w' : World} {m m' : M} {s s' : Pt}
theorem Sys.port (h : Sys w0 b c r N G pb po t w m s) (hp : PAt w0.heap.size w' pb po b t s') (hb : But pb w w') : Sys w0 b c r N G pb po t w' m s' := by
  have o := h.has.at_.own
  refine ⟨h.has.same hb.size (h.has.below.trans ⟨hb.os, hb.tape, hb.output, hb.size, fun k hk => hb.block k (Nat.lt_of_lt_of_le hk h.has.below.size) (by have := h.hp; omega)⟩) ?_ ?_ ?_, hp, h.nb, h.tb, h.hp, h.rows.step (But5.of1 hb) (Row2.refl _ _)⟩
  · exact hb.block b o.lb (fun e => h.nb.1 e.symm)
  · exact hb.block c o.lc (fun e => h.nb.2.1 e.symm)
  · exact hb.block r o.lr (fun e => h.nb.2.2 e.symm)
theorem Sys.later (h : Sys w0 b c r N G pb po t w m s) (hb : Below w.heap.size w w') : Sys w0 b c r N G pb po t w' m s :=
  h.port (h.pt.below hb) (But.of hb)
theorem Sys.mem {N' : Int} (h : Sys w0 b c r N G pb po t w m s) (hh : Has w0 b c r N' w' m') (hk : Kept b c r w w') : Sys w0 b c r N' G pb po t w' m' s :=
  ⟨hh, h.pt.same (hk.block pb h.pt.lt h.nb.1 h.nb.2.1 h.nb.2.2) (fun k e => hk.block k (World.ownsRow.lt h.pt.own k e).2 (fun e2 => h.tb.1 (e2 ▸ e)) (fun e2 => h.tb.2.1 (e2 ▸ e)) (fun e2 => h.tb.2.2 (e2 ▸ e))), h.nb, h.tb, h.hp, h.rows.step (But5.of3 hk) (Row2.refl _ _)⟩
theorem Sys.keep {t' : Value} (h : Sys w0 b c r N G pb po t w m s) (hp : PAt w0.heap.size w' pb po b t' s') (hb : But2 pb t w w') (hr : Row2 w t t') : Sys w0 b c r N G pb po t' w' m s' := by
  have o := h.has.at_.own
  refine ⟨h.has.same hb.size (h.has.below.trans ⟨hb.os, hb.tape, hb.output, hb.size, fun k hk => hb.block k (Nat.lt_of_lt_of_le hk h.has.below.size) (by have := h.hp; omega) (fun e => ?_)⟩) ?_ ?_ ?_, hp, h.nb, ?_, h.hp, h.rows.step (But5.of2 hb) hr⟩
  · have := (World.ownsRow.lt h.pt.own k e.symm).1
    omega
  · exact hb.block b o.lb (fun e => h.nb.1 e.symm) (fun e => h.tb.1 e.symm)
  · exact hb.block c o.lc (fun e => h.nb.2.1 e.symm) (fun e => h.tb.2.1 e.symm)
  · exact hb.block r o.lr (fun e => h.nb.2.2 e.symm) (fun e => h.tb.2.2 e.symm)
  · have h1 := o.lb
    have h2 := o.lc
    have h3 := o.lr
    refine ⟨fun e2 => ?_, fun e2 => ?_, fun e2 => ?_⟩
    · rcases hr _ e2 with e | e
      · exact h.tb.1 e
      · omega
    · rcases hr _ e2 with e | e
      · exact h.tb.2.1 e
      · omega
    · rcases hr _ e2 with e | e
      · exact h.tb.2.2 e
      · omega
theorem Sys.less {N' : Int} (h : Sys w0 b c r N G pb po t w m s) (hN : N ≤ N') : Sys w0 b c r N' G pb po t w m s := ⟨h.has.less hN, h.pt, h.nb, h.tb, h.hp, h.rows⟩
end
/-- An ask, what memory answers to it and becomes, what the call answers. -/
inductive Qn where
  | alloc (x : Held)
  | load (h : Int)
  | word (h : Int)
  | store (h n : Int)
  | swap (h o n : Int)
  | free (h : Int)
  | retire (h s : Int)
  | reap (p b : Int)
def Qn.on : Qn → M → M × An
  | .alloc x, m => ((m.alloc x).1, ⟨.no, (m.alloc x).2.1, false, (m.alloc x).2.2⟩)
  | .load h, m => ((m.load h).1, ⟨(m.load h).2.1, 0, false, (m.load h).2.2⟩)
  | .word h, m => ((m.word h).1, ⟨.no, (m.word h).2.1, false, (m.word h).2.2⟩)
  | .store h n, m => ((m.store h n).1, ⟨.no, 0, false, (m.store h n).2⟩)
  | .swap h o n, m => ((m.swap h o n).1, ⟨.no, 0, (m.swap h o n).2.1, (m.swap h o n).2.2⟩)
  | .free h, m => ((m.free h).1, ⟨.no, 0, false, (m.free h).2⟩)
  | .retire h s, m => ((m.retire h s).1, ⟨.no, 0, false, (m.retire h s).2⟩)
  | .reap p b, m => ((m.reap p b).1, ⟨.no, 0, (m.reap p b).2.1, (m.reap p b).2.2⟩)
def Qn.ret : Qn → An → Value
  | .alloc _, a => .tuple #[.int .i64 a.n, .int .i64 a.err]
  | .word _, a => .tuple #[.int .i64 a.n, .int .i64 a.err]
  | .load _, a => .tuple #[a.held.v, .int .i64 a.err]
  | .swap _ _ _, a => .tuple #[.bool a.ok, .int .i64 a.err]
  | .store _ _, a => .int .i64 a.err
  | .free _, a => .int .i64 a.err
  | .retire _ _, a => .int .i64 a.err
  | .reap _ _, a => .tuple #[.bool a.ok, .int .i64 a.err]
/-- What a port makes of an ask: told again, stopped (no answer), or asked. -/
def Pt.ask (s : Pt) (q : Qn) (m : M) : Option An × Pt × M := match s.told[s.place]? with
  | some a => (some a, { s with place := s.place + 1 }, m)
  | none => if s.spent = true then (none, { s with halted := true }, m)
    else (some (q.on m).2, if s.keeps = true then { s with told := s.told ++ [(q.on m).2], place := s.place + 1, spent := true } else s, (q.on m).1)
/-- How a call of a port ends. -/
def Ends (pb po : Nat) (q : Qn) : Option An → Ending → Prop
  | some a, e => e = .returned (q.ret a)
  | none, e => e = Halt pb po
/-- Behind an ask. -/
def Asked (w0 : World) (b c r : Nat) (N : Int) (G : List (Nat × List Value)) (pb po : Nat) (t : Value) (w : World) (m : M) (s : Pt) (q : Qn) (e : Ending) (w' : World) : Prop :=
  ∃ t', Ends pb po q (s.ask q m).1 e ∧ Sys w0 b c r (N + 1) G pb po t' w' (s.ask q m).2.2 (s.ask q m).2.1 ∧ But5 b c r pb t w w' ∧ Row2 w t t'
/-- A port that may be. -/
structure Pt.Ok (s : Pt) : Prop where
  le : s.place ≤ s.told.length
  len : s.told.length ≤ 1000000
theorem Pt.Ok.none {s : Pt} (h : s.Ok) (hx : s.told[s.place]? = none) : s.place = s.told.length := by
  have h1 := h.le
  have h2 := List.getElem?_eq_none_iff.1 hx
  omega
theorem Pt.ask_told {s : Pt} {a : An} (hx : s.told[s.place]? = some a) (q : Qn) (m : M) : s.ask q m = (some a, { s with place := s.place + 1 }, m) := by
  unfold Pt.ask; rw [hx]
theorem Pt.ask_halt {s : Pt} (hx : s.told[s.place]? = none) (hs : s.spent = true) (q : Qn) (m : M) : s.ask q m = (none, { s with halted := true }, m) := by
  unfold Pt.ask; rw [hx]; simp only; rw [if_pos hs]
theorem Pt.ask_keep {s : Pt} (hx : s.told[s.place]? = none) (hs : s.spent = false) (hk : s.keeps = true) (q : Qn) (m : M) : s.ask q m = (some (q.on m).2, { s with told := s.told ++ [(q.on m).2], place := s.place + 1, spent := true }, (q.on m).1) := by
  unfold Pt.ask; rw [hx]; simp only; rw [if_neg (by rw [hs]; decide), if_pos hk]
theorem Pt.ask_do {s : Pt} (hx : s.told[s.place]? = none) (hs : s.spent = false) (hk : s.keeps = false) (q : Qn) (m : M) : s.ask q m = (some (q.on m).2, s, (q.on m).1) := by
  unfold Pt.ask; rw [hx]; simp only; rw [if_neg (by rw [hs]; decide), if_neg (by rw [hk]; decide)]

section
variable {w0 : World} {b c r : Nat} {N : Int} {G : List (Nat × List Value)} {pb po : Nat} {t : Value} {w : World} {m : M} {s : Pt}
theorem pword_any (h : Sys w0 b c r N G pb po t w m s) (hN : N ≤ 1000000) (hs : s.Ok) (k : Int) :
    Calls Tryd.prog 37 #[.pointer (some ⟨pb, po, none⟩), .int .i64 k] w fun e w' => Asked w0 b c r N G pb po t w m s (.word k) e w' := by
  unfold Asked
  cases hx : s.told[s.place]? with
  | some a =>
    rw [Pt.ask_told hx]
    have hw := again_told h.pt (List.getElem?_eq_some_iff.1 hx).1 hs.len
    obtain ⟨g, cap, et, hg, -, hgl, d0, d1, d2, d3⟩ := h.pt.see hx
    have HS := Lib.hid h
    have HG := Lib.hid (⟨hg, hgl, d0, d1, d2, d3⟩ : g ≠ pb ∧ g < w.heap.size ∧ _ ∧ _ ∧ _ ∧ _)
    have HE := Lib.hid et
    clear h hN hs hx et hg hgl d0 d1 d2 d3
    go_enter Tryd.func37, Tryd.ntmps37
    go_wp2_with fail
    refine hw.mono ?_
    rintro e w1 ⟨⟨g1, cap1, et1, rfl⟩, h1, h2⟩
    obtain rfl : g = g1 := by cases HE.out.symm.trans et1; rfl
    have k1 : ∀ i, w1.cell? ⟨g, i, none⟩ = w.cell? ⟨g, i, none⟩ := fun i => World.cell?_of_block (w := w) (h2.block g HG.out.2.1 HG.out.1)
    have d1 := (k1 _).trans HG.out.2.2.2.1
    have d2 := (k1 _).trans HG.out.2.2.2.2.1
    have d3 := (k1 _).trans HG.out.2.2.2.2.2
    have H1 := Lib.hid (fun n => (HS.out.port h1 h2).later (below_drewN w1 n))
    have H2 := Lib.hid (fun n => (But5.of1 (b := b) (c := c) (r := r) (t := t) h2).trans (But5.of (below_drewN w1 n)))
    clear hw h1 h2 k1 et1
    go_wp2_with fail
    go_quiet (fail)
    go_wp2
    go_ret2
    exact ⟨t, rfl, (H1.out _).less (by omega), (H2.out _), Row2.refl _ _⟩
  | none =>
    have hi := hs.none hx
    cases hsp : s.spent with
    | true =>
      rw [Pt.ask_halt hx hsp]
      have hw := again_halt h.pt hi hsp hs.len
      have HS := Lib.hid h
      clear h hs hx hi hsp
      go_enter Tryd.func37, Tryd.ntmps37
      go_wp2_with fail
      refine hw.mono ?_
      rintro e w1 ⟨rfl, h1, h2⟩
      have H1 := Lib.hid (HS.out.port h1 h2)
      have H2 := Lib.hid (But5.of1 (b := b) (c := c) (r := r) (t := t) h2)
      clear hw h1 h2
      unfold Halt
      go_wp2
      exact ⟨rfl, t, rfl, H1.out.less (by omega), H2.out, Row2.refl _ _⟩
    | false =>
      have hw := again_ask h.pt hi hsp hs.len
      cases hk : s.keeps with
      | true =>
        rw [Pt.ask_keep hx hsp hk]
        have HS := Lib.hid h
        have HO := Lib.hid hs
        have HI := Lib.hid hi
        have HK := Lib.hid hk
        clear h hs hx hi hsp hk
        go_enter Tryd.func37, Tryd.ntmps37
        go_wp2_with fail
        refine hw.mono ?_
        rintro e w1 ⟨rfl, h2⟩
        have hS1 := HS.out.later h2
        have HB := Lib.hid h2
        have c0 := hS1.pt.cells.c0
        have hm := hS1.has.word (by omega) k
        have H1 := Lib.hid hS1
        clear hw h2 hS1
        go_wp2_with fail
        refine hm.mono ?_
        rintro e w2 ⟨rfl, h3, h4⟩
        have hS2 := H1.out.mem h3 h4
        have hkp := keep_yes (a := (Qn.on (.word k) m).2) hS2.pt HK.out HO.out.len (by have := HO.out.le; have := HO.out.len; omega) hS2.has.below.size
        have ea : (Qn.on (.word k) m).2.v = .agg #[.nilIface, .int .i64 (m.word k).2.1, .bool false, .int .i64 (m.word k).2.2] := rfl
        rw [ea] at hkp
        have H2 := Lib.hid hS2
        have H3 := Lib.hid h4
        clear hm h3 h4 hS2 c0 ea
        go_wp2_with fail
        refine hkp.mono ?_
        rintro e w3 ⟨rfl, t', h5, h6, h7⟩
        have HS3 := Lib.hid (H2.out.keep h5 h6 h7)
        have H5 := Lib.hid (((But5.of HB.out).trans (But5.of3 H3.out)).trans (But5.of2 h6 : But5 b c r pb t w2 w3))
        have H7 : Hid (Row2 w t t') := h7.from (Nat.le_trans HB.out.size H3.out.size)
        clear hkp h5 h6 h7
        go_wp2
        go_ret2
        exact ⟨t', rfl, HS3.out, H5.out, H7.out⟩
      | false =>
        rw [Pt.ask_do hx hsp hk]
        have HS := Lib.hid h
        have HK := Lib.hid hk
        clear h hs hx hi hsp hk
        go_enter Tryd.func37, Tryd.ntmps37
        go_wp2_with fail
        refine hw.mono ?_
        rintro e w1 ⟨rfl, h2⟩
        have hS1 := HS.out.later h2
        have HB := Lib.hid h2
        have c0 := hS1.pt.cells.c0
        have hm := hS1.has.word (by omega) k
        have H1 := Lib.hid hS1
        clear hw h2 hS1
        go_wp2_with fail
        refine hm.mono ?_
        rintro e w2 ⟨rfl, h3, h4⟩
        have hS2 := H1.out.mem h3 h4
        have hkp := keep_no (a := (Qn.on (.word k) m).2) hS2.pt HK.out
        have ea : (Qn.on (.word k) m).2.v = .agg #[.nilIface, .int .i64 (m.word k).2.1, .bool false, .int .i64 (m.word k).2.2] := rfl
        rw [ea] at hkp
        have H2 := Lib.hid hS2
        have H3 := Lib.hid h4
        clear hm h3 h4 hS2 c0 ea
        go_wp2_with fail
        refine hkp.mono ?_
        rintro e w3 ⟨rfl, h6⟩
        have HS3 := Lib.hid (H2.out.later h6)
        have H5 := Lib.hid (((But5.of HB.out).trans (But5.of3 H3.out)).trans (But5.of h6 : But5 b c r pb t w2 w3))
        clear hkp h6
        go_wp2
        go_ret2
        exact ⟨t, rfl, HS3.out, H5.out, Row2.refl _ _⟩
theorem palloc_any (h : Sys w0 b c r N G pb po t w m s) (hT : TabAt w0) (hN : N ≤ 1000000) (hs : s.Ok) (k : Int) :
    Calls Tryd.prog 71 #[.pointer (some ⟨pb, po, none⟩), .int .i64 k] w fun e w' => Asked w0 b c r N G pb po t w m s (.alloc (.word k)) e w' := by
  unfold Asked
  cases hx : s.told[s.place]? with
  | some a =>
    rw [Pt.ask_told hx]
    have hw := again_told h.pt (List.getElem?_eq_some_iff.1 hx).1 hs.len
    obtain ⟨g, cap, et, hg, -, hgl, d0, d1, d2, d3⟩ := h.pt.see hx
    have HS := Lib.hid h
    have HG := Lib.hid (⟨hg, hgl, d0, d1, d2, d3⟩ : g ≠ pb ∧ g < w.heap.size ∧ _ ∧ _ ∧ _ ∧ _)
    have HE := Lib.hid et
    clear h hT hN hs hx et hg hgl d0 d1 d2 d3
    go_enter Tryd.func71, Tryd.ntmps71
    go_wp2_with fail
    refine hw.mono ?_
    rintro e w1 ⟨⟨g1, cap1, et1, rfl⟩, h1, h2⟩
    obtain rfl : g = g1 := by cases HE.out.symm.trans et1; rfl
    have k1 : ∀ i, w1.cell? ⟨g, i, none⟩ = w.cell? ⟨g, i, none⟩ := fun i => World.cell?_of_block (w := w) (h2.block g HG.out.2.1 HG.out.1)
    have d1 := (k1 _).trans HG.out.2.2.2.1
    have d2 := (k1 _).trans HG.out.2.2.2.2.1
    have d3 := (k1 _).trans HG.out.2.2.2.2.2
    have H1 := Lib.hid (fun n => (HS.out.port h1 h2).later (below_drewN w1 n))
    have H2 := Lib.hid (fun n => (But5.of1 (b := b) (c := c) (r := r) (t := t) h2).trans (But5.of (below_drewN w1 n)))
    clear hw h1 h2 k1 et1
    go_wp2_with fail
    go_quiet (fail)
    go_wp2
    go_ret2
    exact ⟨t, rfl, (H1.out _).less (by omega), (H2.out _), Row2.refl _ _⟩
  | none =>
    have hi := hs.none hx
    cases hsp : s.spent with
    | true =>
      rw [Pt.ask_halt hx hsp]
      have hw := again_halt h.pt hi hsp hs.len
      have HS := Lib.hid h
      clear h hT hs hx hi hsp
      go_enter Tryd.func71, Tryd.ntmps71
      go_wp2_with fail
      refine hw.mono ?_
      rintro e w1 ⟨rfl, h1, h2⟩
      have H1 := Lib.hid (HS.out.port h1 h2)
      have H2 := Lib.hid (But5.of1 (b := b) (c := c) (r := r) (t := t) h2)
      clear hw h1 h2
      unfold Halt
      go_wp2
      exact ⟨rfl, t, rfl, H1.out.less (by omega), H2.out, Row2.refl _ _⟩
    | false =>
      have hw := again_ask h.pt hi hsp hs.len
      cases hk : s.keeps with
      | true =>
        rw [Pt.ask_keep hx hsp hk]
        have HS := Lib.hid h
        have HO := Lib.hid hs
        have HI := Lib.hid hi
        have HK := Lib.hid hk
        clear h hs hx hi hsp hk
        go_enter Tryd.func71, Tryd.ntmps71
        go_wp2_with fail
        refine hw.mono ?_
        rintro e w1 ⟨rfl, h2⟩
        have hS1 := HS.out.later h2
        have HB := Lib.hid h2
        have c0 := hS1.pt.cells.c0
        have hm := hS1.has.allocword hT (by omega) k
        have H1 := Lib.hid hS1
        clear hw h2 hS1
        go_wp2_with fail
        refine hm.mono ?_
        rintro e w2 ⟨rfl, h3, h4⟩
        have hS2 := H1.out.mem h3 h4
        have hkp := keep_yes (a := (Qn.on (.alloc (.word k)) m).2) hS2.pt HK.out HO.out.len (by have := HO.out.le; have := HO.out.len; omega) hS2.has.below.size
        have ea : (Qn.on (.alloc (.word k)) m).2.v = .agg #[.nilIface, .int .i64 (m.alloc (.word k)).2.1, .bool false, .int .i64 (m.alloc (.word k)).2.2] := rfl
        rw [ea] at hkp
        have H2 := Lib.hid hS2
        have H3 := Lib.hid h4
        clear hm h3 h4 hS2 c0 ea
        go_wp2_with fail
        refine hkp.mono ?_
        rintro e w3 ⟨rfl, t', h5, h6, h7⟩
        have HS3 := Lib.hid (H2.out.keep h5 h6 h7)
        have H5 := Lib.hid (((But5.of HB.out).trans (But5.of3 H3.out)).trans (But5.of2 h6 : But5 b c r pb t w2 w3))
        have H7 : Hid (Row2 w t t') := h7.from (Nat.le_trans HB.out.size H3.out.size)
        clear hkp h5 h6 h7
        go_wp2
        go_ret2
        exact ⟨t', rfl, HS3.out, H5.out, H7.out⟩
      | false =>
        rw [Pt.ask_do hx hsp hk]
        have HS := Lib.hid h
        have HK := Lib.hid hk
        clear h hs hx hi hsp hk
        go_enter Tryd.func71, Tryd.ntmps71
        go_wp2_with fail
        refine hw.mono ?_
        rintro e w1 ⟨rfl, h2⟩
        have hS1 := HS.out.later h2
        have HB := Lib.hid h2
        have c0 := hS1.pt.cells.c0
        have hm := hS1.has.allocword hT (by omega) k
        have H1 := Lib.hid hS1
        clear hw h2 hS1
        go_wp2_with fail
        refine hm.mono ?_
        rintro e w2 ⟨rfl, h3, h4⟩
        have hS2 := H1.out.mem h3 h4
        have hkp := keep_no (a := (Qn.on (.alloc (.word k)) m).2) hS2.pt HK.out
        have ea : (Qn.on (.alloc (.word k)) m).2.v = .agg #[.nilIface, .int .i64 (m.alloc (.word k)).2.1, .bool false, .int .i64 (m.alloc (.word k)).2.2] := rfl
        rw [ea] at hkp
        have H2 := Lib.hid hS2
        have H3 := Lib.hid h4
        clear hm h3 h4 hS2 c0 ea
        go_wp2_with fail
        refine hkp.mono ?_
        rintro e w3 ⟨rfl, h6⟩
        have HS3 := Lib.hid (H2.out.later h6)
        have H5 := Lib.hid (((But5.of HB.out).trans (But5.of3 H3.out)).trans (But5.of h6 : But5 b c r pb t w2 w3))
        clear hkp h6
        go_wp2
        go_ret2
        exact ⟨t, rfl, HS3.out, H5.out, Row2.refl _ _⟩
theorem pswap_any (h : Sys w0 b c r N G pb po t w m s) (hN : N ≤ 1000000) (hs : s.Ok) (k o n : Int) :
    Calls Tryd.prog 68 #[.pointer (some ⟨pb, po, none⟩), .int .i64 k, .int .i64 o, .int .i64 n] w fun e w' => Asked w0 b c r N G pb po t w m s (.swap k o n) e w' := by
  unfold Asked
  cases hx : s.told[s.place]? with
  | some a =>
    rw [Pt.ask_told hx]
    have hw := again_told h.pt (List.getElem?_eq_some_iff.1 hx).1 hs.len
    obtain ⟨g, cap, et, hg, -, hgl, d0, d1, d2, d3⟩ := h.pt.see hx
    have HS := Lib.hid h
    have HG := Lib.hid (⟨hg, hgl, d0, d1, d2, d3⟩ : g ≠ pb ∧ g < w.heap.size ∧ _ ∧ _ ∧ _ ∧ _)
    have HE := Lib.hid et
    clear h hN hs hx et hg hgl d0 d1 d2 d3
    go_enter Tryd.func68, Tryd.ntmps68
    go_wp2_with fail
    refine hw.mono ?_
    rintro e w1 ⟨⟨g1, cap1, et1, rfl⟩, h1, h2⟩
    obtain rfl : g = g1 := by cases HE.out.symm.trans et1; rfl
    have k1 : ∀ i, w1.cell? ⟨g, i, none⟩ = w.cell? ⟨g, i, none⟩ := fun i => World.cell?_of_block (w := w) (h2.block g HG.out.2.1 HG.out.1)
    have d1 := (k1 _).trans HG.out.2.2.2.1
    have d2 := (k1 _).trans HG.out.2.2.2.2.1
    have d3 := (k1 _).trans HG.out.2.2.2.2.2
    have H1 := Lib.hid (fun n => (HS.out.port h1 h2).later (below_drewN w1 n))
    have H2 := Lib.hid (fun n => (But5.of1 (b := b) (c := c) (r := r) (t := t) h2).trans (But5.of (below_drewN w1 n)))
    clear hw h1 h2 k1 et1
    go_wp2_with fail
    go_quiet (fail)
    go_wp2
    go_ret2
    exact ⟨t, rfl, (H1.out _).less (by omega), (H2.out _), Row2.refl _ _⟩
  | none =>
    have hi := hs.none hx
    cases hsp : s.spent with
    | true =>
      rw [Pt.ask_halt hx hsp]
      have hw := again_halt h.pt hi hsp hs.len
      have HS := Lib.hid h
      clear h hs hx hi hsp
      go_enter Tryd.func68, Tryd.ntmps68
      go_wp2_with fail
      refine hw.mono ?_
      rintro e w1 ⟨rfl, h1, h2⟩
      have H1 := Lib.hid (HS.out.port h1 h2)
      have H2 := Lib.hid (But5.of1 (b := b) (c := c) (r := r) (t := t) h2)
      clear hw h1 h2
      unfold Halt
      go_wp2
      exact ⟨rfl, t, rfl, H1.out.less (by omega), H2.out, Row2.refl _ _⟩
    | false =>
      have hw := again_ask h.pt hi hsp hs.len
      cases hk : s.keeps with
      | true =>
        rw [Pt.ask_keep hx hsp hk]
        have HS := Lib.hid h
        have HO := Lib.hid hs
        have HI := Lib.hid hi
        have HK := Lib.hid hk
        clear h hs hx hi hsp hk
        go_enter Tryd.func68, Tryd.ntmps68
        go_wp2_with fail
        refine hw.mono ?_
        rintro e w1 ⟨rfl, h2⟩
        have hS1 := HS.out.later h2
        have HB := Lib.hid h2
        have c0 := hS1.pt.cells.c0
        have hm := hS1.has.swap (by omega) k o n
        have H1 := Lib.hid hS1
        clear hw h2 hS1
        go_wp2_with fail
        refine hm.mono ?_
        rintro e w2 ⟨rfl, h3, h4⟩
        have hS2 := H1.out.mem h3 h4
        have hkp := keep_yes (a := (Qn.on (.swap k o n) m).2) hS2.pt HK.out HO.out.len (by have := HO.out.le; have := HO.out.len; omega) hS2.has.below.size
        have ea : (Qn.on (.swap k o n) m).2.v = .agg #[.nilIface, .int .i64 0, .bool (m.swap k o n).2.1, .int .i64 (m.swap k o n).2.2] := rfl
        rw [ea] at hkp
        have H2 := Lib.hid hS2
        have H3 := Lib.hid h4
        clear hm h3 h4 hS2 c0 ea
        go_wp2_with fail
        refine hkp.mono ?_
        rintro e w3 ⟨rfl, t', h5, h6, h7⟩
        have HS3 := Lib.hid (H2.out.keep h5 h6 h7)
        have H5 := Lib.hid (((But5.of HB.out).trans (But5.of3 H3.out)).trans (But5.of2 h6 : But5 b c r pb t w2 w3))
        have H7 : Hid (Row2 w t t') := h7.from (Nat.le_trans HB.out.size H3.out.size)
        clear hkp h5 h6 h7
        go_wp2
        go_ret2
        exact ⟨t', rfl, HS3.out, H5.out, H7.out⟩
      | false =>
        rw [Pt.ask_do hx hsp hk]
        have HS := Lib.hid h
        have HK := Lib.hid hk
        clear h hs hx hi hsp hk
        go_enter Tryd.func68, Tryd.ntmps68
        go_wp2_with fail
        refine hw.mono ?_
        rintro e w1 ⟨rfl, h2⟩
        have hS1 := HS.out.later h2
        have HB := Lib.hid h2
        have c0 := hS1.pt.cells.c0
        have hm := hS1.has.swap (by omega) k o n
        have H1 := Lib.hid hS1
        clear hw h2 hS1
        go_wp2_with fail
        refine hm.mono ?_
        rintro e w2 ⟨rfl, h3, h4⟩
        have hS2 := H1.out.mem h3 h4
        have hkp := keep_no (a := (Qn.on (.swap k o n) m).2) hS2.pt HK.out
        have ea : (Qn.on (.swap k o n) m).2.v = .agg #[.nilIface, .int .i64 0, .bool (m.swap k o n).2.1, .int .i64 (m.swap k o n).2.2] := rfl
        rw [ea] at hkp
        have H2 := Lib.hid hS2
        have H3 := Lib.hid h4
        clear hm h3 h4 hS2 c0 ea
        go_wp2_with fail
        refine hkp.mono ?_
        rintro e w3 ⟨rfl, h6⟩
        have HS3 := Lib.hid (H2.out.later h6)
        have H5 := Lib.hid (((But5.of HB.out).trans (But5.of3 H3.out)).trans (But5.of h6 : But5 b c r pb t w2 w3))
        clear hkp h6
        go_wp2
        go_ret2
        exact ⟨t, rfl, HS3.out, H5.out, Row2.refl _ _⟩
end
end Go.Proofs.YtbcpdkmbbgcfbaaDoor
/- What a port's other asks answer and make of memory and of the port. Conditions: memory is the call's own; at most 1000000 asks. -/
namespace Go.Proofs.YtbcpdkmbbgcfbaaDoor
open Go.RowKit Go.Op
set_option maxRecDepth 100000

section
variable {w0 : World} {b c r : Nat} {N : Int} {G : List (Nat × List Value)} {pb po : Nat} {t : Value} {w : World} {m : M} {s : Pt}
theorem pallocblk_any (h : Sys w0 b c r N G pb po t w m s) (hT : TabAt w0) (hN : N ≤ 1000000) (hs : s.Ok) (d : Dat) (pl : Pl) :
    Calls Tryd.prog 73 #[.pointer (some ⟨pb, po, none⟩), .iface d.ty (d.v pl)] w fun e w' => Asked w0 b c r N G pb po t w m s (.alloc (.blk d pl)) e w' := by
  unfold Asked
  cases hx : s.told[s.place]? with
  | some a =>
    rw [Pt.ask_told hx]
    have hw := again_told h.pt (List.getElem?_eq_some_iff.1 hx).1 hs.len
    obtain ⟨g, cap, et, hg, -, hgl, d0, d1, d2, d3⟩ := h.pt.see hx
    have HS := Lib.hid h
    have HG := Lib.hid (⟨hg, hgl, d0, d1, d2, d3⟩ : g ≠ pb ∧ g < w.heap.size ∧ _ ∧ _ ∧ _ ∧ _)
    have HE := Lib.hid et
    clear h hT hN hs hx et hg hgl d0 d1 d2 d3
    go_enter Tryd.func73, Tryd.ntmps73
    go_wp2_with fail
    refine hw.mono ?_
    rintro e w1 ⟨⟨g1, cap1, et1, rfl⟩, h1, h2⟩
    obtain rfl : g = g1 := by cases HE.out.symm.trans et1; rfl
    have k1 : ∀ i, w1.cell? ⟨g, i, none⟩ = w.cell? ⟨g, i, none⟩ := fun i => World.cell?_of_block (w := w) (h2.block g HG.out.2.1 HG.out.1)
    have d1 := (k1 _).trans HG.out.2.2.2.1
    have d2 := (k1 _).trans HG.out.2.2.2.2.1
    have d3 := (k1 _).trans HG.out.2.2.2.2.2
    have H1 := Lib.hid (fun n => (HS.out.port h1 h2).later (below_drewN w1 n))
    have H2 := Lib.hid (fun n => (But5.of1 (b := b) (c := c) (r := r) (t := t) h2).trans (But5.of (below_drewN w1 n)))
    clear hw h1 h2 k1 et1
    go_wp2_with fail
    go_quiet (fail)
    go_wp2
    go_ret2
    exact ⟨t, rfl, (H1.out _).less (by omega), (H2.out _), Row2.refl _ _⟩
  | none =>
    have hi := hs.none hx
    cases hsp : s.spent with
    | true =>
      rw [Pt.ask_halt hx hsp]
      have hw := again_halt h.pt hi hsp hs.len
      have HS := Lib.hid h
      clear h hT hs hx hi hsp
      go_enter Tryd.func73, Tryd.ntmps73
      go_wp2_with fail
      refine hw.mono ?_
      rintro e w1 ⟨rfl, h1, h2⟩
      have H1 := Lib.hid (HS.out.port h1 h2)
      have H2 := Lib.hid (But5.of1 (b := b) (c := c) (r := r) (t := t) h2)
      clear hw h1 h2
      unfold Halt
      go_wp2
      exact ⟨rfl, t, rfl, H1.out.less (by omega), H2.out, Row2.refl _ _⟩
    | false =>
      have hw := again_ask h.pt hi hsp hs.len
      cases hk : s.keeps with
      | true =>
        rw [Pt.ask_keep hx hsp hk]
        have HS := Lib.hid h
        have HO := Lib.hid hs
        have HI := Lib.hid hi
        have HK := Lib.hid hk
        clear h hs hx hi hsp hk
        go_enter Tryd.func73, Tryd.ntmps73
        go_wp2_with fail
        refine hw.mono ?_
        rintro e w1 ⟨rfl, h2⟩
        have hS1 := HS.out.later h2
        have HB := Lib.hid h2
        have c0 := hS1.pt.cells.c0
        have hm := hS1.has.allocblk hT (by omega) d pl
        have H1 := Lib.hid hS1
        clear hw h2 hS1
        go_wp2_with fail
        refine hm.mono ?_
        rintro e w2 ⟨rfl, h3, h4⟩
        have hS2 := H1.out.mem h3 h4
        have hkp := keep_yes (a := (Qn.on (.alloc (.blk d pl)) m).2) hS2.pt HK.out HO.out.len (by have := HO.out.le; have := HO.out.len; omega) hS2.has.below.size
        have ea : (Qn.on (.alloc (.blk d pl)) m).2.v = .agg #[.nilIface, .int .i64 (m.alloc (.blk d pl)).2.1, .bool false, .int .i64 (m.alloc (.blk d pl)).2.2] := rfl
        rw [ea] at hkp
        have H2 := Lib.hid hS2
        have H3 := Lib.hid h4
        clear hm h3 h4 hS2 c0 ea
        go_wp2_with fail
        refine hkp.mono ?_
        rintro e w3 ⟨rfl, t', h5, h6, h7⟩
        have HS3 := Lib.hid (H2.out.keep h5 h6 h7)
        have H5 := Lib.hid (((But5.of HB.out).trans (But5.of3 H3.out)).trans (But5.of2 h6 : But5 b c r pb t w2 w3))
        have H7 : Hid (Row2 w t t') := h7.from (Nat.le_trans HB.out.size H3.out.size)
        clear hkp h5 h6 h7
        go_wp2
        go_ret2
        exact ⟨t', rfl, HS3.out, H5.out, H7.out⟩
      | false =>
        rw [Pt.ask_do hx hsp hk]
        have HS := Lib.hid h
        have HK := Lib.hid hk
        clear h hs hx hi hsp hk
        go_enter Tryd.func73, Tryd.ntmps73
        go_wp2_with fail
        refine hw.mono ?_
        rintro e w1 ⟨rfl, h2⟩
        have hS1 := HS.out.later h2
        have HB := Lib.hid h2
        have c0 := hS1.pt.cells.c0
        have hm := hS1.has.allocblk hT (by omega) d pl
        have H1 := Lib.hid hS1
        clear hw h2 hS1
        go_wp2_with fail
        refine hm.mono ?_
        rintro e w2 ⟨rfl, h3, h4⟩
        have hS2 := H1.out.mem h3 h4
        have hkp := keep_no (a := (Qn.on (.alloc (.blk d pl)) m).2) hS2.pt HK.out
        have ea : (Qn.on (.alloc (.blk d pl)) m).2.v = .agg #[.nilIface, .int .i64 (m.alloc (.blk d pl)).2.1, .bool false, .int .i64 (m.alloc (.blk d pl)).2.2] := rfl
        rw [ea] at hkp
        have H2 := Lib.hid hS2
        have H3 := Lib.hid h4
        clear hm h3 h4 hS2 c0 ea
        go_wp2_with fail
        refine hkp.mono ?_
        rintro e w3 ⟨rfl, h6⟩
        have HS3 := Lib.hid (H2.out.later h6)
        have H5 := Lib.hid (((But5.of HB.out).trans (But5.of3 H3.out)).trans (But5.of h6 : But5 b c r pb t w2 w3))
        clear hkp h6
        go_wp2
        go_ret2
        exact ⟨t, rfl, HS3.out, H5.out, Row2.refl _ _⟩
theorem pfree_any (h : Sys w0 b c r N G pb po t w m s) (hN : N ≤ 1000000) (hs : s.Ok) (k : Int) :
    Calls Tryd.prog 75 #[.pointer (some ⟨pb, po, none⟩), .int .i64 k] w fun e w' => Asked w0 b c r N G pb po t w m s (.free k) e w' := by
  unfold Asked
  cases hx : s.told[s.place]? with
  | some a =>
    rw [Pt.ask_told hx]
    have hw := again_told h.pt (List.getElem?_eq_some_iff.1 hx).1 hs.len
    obtain ⟨g, cap, et, hg, -, hgl, d0, d1, d2, d3⟩ := h.pt.see hx
    have HS := Lib.hid h
    have HG := Lib.hid (⟨hg, hgl, d0, d1, d2, d3⟩ : g ≠ pb ∧ g < w.heap.size ∧ _ ∧ _ ∧ _ ∧ _)
    have HE := Lib.hid et
    clear h hN hs hx et hg hgl d0 d1 d2 d3
    go_enter Tryd.func75, Tryd.ntmps75
    go_wp2_with fail
    refine hw.mono ?_
    rintro e w1 ⟨⟨g1, cap1, et1, rfl⟩, h1, h2⟩
    obtain rfl : g = g1 := by cases HE.out.symm.trans et1; rfl
    have k1 : ∀ i, w1.cell? ⟨g, i, none⟩ = w.cell? ⟨g, i, none⟩ := fun i => World.cell?_of_block (w := w) (h2.block g HG.out.2.1 HG.out.1)
    have d1 := (k1 _).trans HG.out.2.2.2.1
    have d2 := (k1 _).trans HG.out.2.2.2.2.1
    have d3 := (k1 _).trans HG.out.2.2.2.2.2
    have H1 := Lib.hid (fun n => (HS.out.port h1 h2).later (below_drewN w1 n))
    have H2 := Lib.hid (fun n => (But5.of1 (b := b) (c := c) (r := r) (t := t) h2).trans (But5.of (below_drewN w1 n)))
    clear hw h1 h2 k1 et1
    go_wp2_with fail
    go_wp2
    go_ret
    exact ⟨t, rfl, (H1.out 0).less (by omega), (H2.out 0), Row2.refl _ _⟩
  | none =>
    have hi := hs.none hx
    cases hsp : s.spent with
    | true =>
      rw [Pt.ask_halt hx hsp]
      have hw := again_halt h.pt hi hsp hs.len
      have HS := Lib.hid h
      clear h hs hx hi hsp
      go_enter Tryd.func75, Tryd.ntmps75
      go_wp2_with fail
      refine hw.mono ?_
      rintro e w1 ⟨rfl, h1, h2⟩
      have H1 := Lib.hid (HS.out.port h1 h2)
      have H2 := Lib.hid (But5.of1 (b := b) (c := c) (r := r) (t := t) h2)
      clear hw h1 h2
      unfold Halt
      go_wp2
      exact ⟨rfl, t, rfl, H1.out.less (by omega), H2.out, Row2.refl _ _⟩
    | false =>
      have hw := again_ask h.pt hi hsp hs.len
      cases hk : s.keeps with
      | true =>
        rw [Pt.ask_keep hx hsp hk]
        have HS := Lib.hid h
        have HO := Lib.hid hs
        have HI := Lib.hid hi
        have HK := Lib.hid hk
        clear h hs hx hi hsp hk
        go_enter Tryd.func75, Tryd.ntmps75
        go_wp2_with fail
        refine hw.mono ?_
        rintro e w1 ⟨rfl, h2⟩
        have hS1 := HS.out.later h2
        have HB := Lib.hid h2
        have c0 := hS1.pt.cells.c0
        have hm := hS1.has.free (by omega) k
        have H1 := Lib.hid hS1
        clear hw h2 hS1
        go_wp2_with fail
        refine hm.mono ?_
        rintro e w2 ⟨rfl, h3, h4⟩
        have hS2 := H1.out.mem h3 h4
        have hkp := keep_yes (a := (Qn.on (.free k) m).2) hS2.pt HK.out HO.out.len (by have := HO.out.le; have := HO.out.len; omega) hS2.has.below.size
        have ea : (Qn.on (.free k) m).2.v = .agg #[.nilIface, .int .i64 0, .bool false, .int .i64 (m.free k).2] := rfl
        rw [ea] at hkp
        have H2 := Lib.hid hS2
        have H3 := Lib.hid h4
        clear hm h3 h4 hS2 c0 ea
        go_wp2_with fail
        refine hkp.mono ?_
        rintro e w3 ⟨rfl, t', h5, h6, h7⟩
        have HS3 := Lib.hid (H2.out.keep h5 h6 h7)
        have H5 := Lib.hid (((But5.of HB.out).trans (But5.of3 H3.out)).trans (But5.of2 h6 : But5 b c r pb t w2 w3))
        have H7 : Hid (Row2 w t t') := h7.from (Nat.le_trans HB.out.size H3.out.size)
        clear hkp h5 h6 h7
        go_wp2
        go_ret
        exact ⟨t', rfl, HS3.out, H5.out, H7.out⟩
      | false =>
        rw [Pt.ask_do hx hsp hk]
        have HS := Lib.hid h
        have HK := Lib.hid hk
        clear h hs hx hi hsp hk
        go_enter Tryd.func75, Tryd.ntmps75
        go_wp2_with fail
        refine hw.mono ?_
        rintro e w1 ⟨rfl, h2⟩
        have hS1 := HS.out.later h2
        have HB := Lib.hid h2
        have c0 := hS1.pt.cells.c0
        have hm := hS1.has.free (by omega) k
        have H1 := Lib.hid hS1
        clear hw h2 hS1
        go_wp2_with fail
        refine hm.mono ?_
        rintro e w2 ⟨rfl, h3, h4⟩
        have hS2 := H1.out.mem h3 h4
        have hkp := keep_no (a := (Qn.on (.free k) m).2) hS2.pt HK.out
        have ea : (Qn.on (.free k) m).2.v = .agg #[.nilIface, .int .i64 0, .bool false, .int .i64 (m.free k).2] := rfl
        rw [ea] at hkp
        have H2 := Lib.hid hS2
        have H3 := Lib.hid h4
        clear hm h3 h4 hS2 c0 ea
        go_wp2_with fail
        refine hkp.mono ?_
        rintro e w3 ⟨rfl, h6⟩
        have HS3 := Lib.hid (H2.out.later h6)
        have H5 := Lib.hid (((But5.of HB.out).trans (But5.of3 H3.out)).trans (But5.of h6 : But5 b c r pb t w2 w3))
        clear hkp h6
        go_wp2
        go_ret
        exact ⟨t, rfl, HS3.out, H5.out, Row2.refl _ _⟩
end
end Go.Proofs.YtbcpdkmbbgcfbaaDoor
/- What a port's other asks answer and make of memory and of the port. Conditions: memory is the call's own; at most 1000000 asks. -/
namespace Go.Proofs.YtbcpdkmbbgcfbaaDoor
open Go.RowKit Go.Op
set_option maxRecDepth 100000

theorem held_shape (x : Held) : x.v = .nilIface ∨ ∃ ty z, x.v = .iface ty z := by
  cases x
  · exact .inl rfl
  all_goals exact .inr ⟨_, _, rfl⟩
section
variable {w0 : World} {b c r : Nat} {N : Int} {G : List (Nat × List Value)} {pb po : Nat} {t : Value} {w : World} {m : M} {s : Pt}
theorem pload_any (h : Sys w0 b c r N G pb po t w m s) (hN : N ≤ 1000000) (hs : s.Ok) (k : Int) :
    Calls Tryd.prog 66 #[.pointer (some ⟨pb, po, none⟩), .int .i64 k] w fun e w' => Asked w0 b c r N G pb po t w m s (.load k) e w' := by
  unfold Asked
  cases hx : s.told[s.place]? with
  | some a =>
    rw [Pt.ask_told hx]
    have hw := again_told h.pt (List.getElem?_eq_some_iff.1 hx).1 hs.len
    obtain ⟨g, cap, et, hg, -, hgl, d0, d1, d2, d3⟩ := h.pt.see hx
    have HS := Lib.hid h
    have HG := Lib.hid (⟨hg, hgl, d0, d1, d2, d3⟩ : g ≠ pb ∧ g < w.heap.size ∧ _ ∧ _ ∧ _ ∧ _)
    have HE := Lib.hid et
    clear h hN hs hx et hg hgl d0 d1 d2 d3
    go_enter Tryd.func66, Tryd.ntmps66
    go_wp2_with fail
    refine hw.mono ?_
    rintro e w1 ⟨⟨g1, cap1, et1, rfl⟩, h1, h2⟩
    obtain rfl : g = g1 := by cases HE.out.symm.trans et1; rfl
    have k1 : ∀ i, w1.cell? ⟨g, i, none⟩ = w.cell? ⟨g, i, none⟩ := fun i => World.cell?_of_block (w := w) (h2.block g HG.out.2.1 HG.out.1)
    have d0 := (k1 _).trans HG.out.2.2.1
    have d1 := (k1 _).trans HG.out.2.2.2.1
    have d2 := (k1 _).trans HG.out.2.2.2.2.1
    have d3 := (k1 _).trans HG.out.2.2.2.2.2
    have H1 := Lib.hid (fun n => (HS.out.port h1 h2).later (below_drewN w1 n))
    have H2 := Lib.hid (fun n => (But5.of1 (b := b) (c := c) (r := r) (t := t) h2).trans (But5.of (below_drewN w1 n)))
    have l0 : ∀ n, (Instr.loadAt 20 (.pointer (some ⟨g, s.place * 4, none⟩))).run Tryd.prog (w1.drewN n) = .ok a.held.v (w1.drewN n) := fun n => load_20 d0
    clear hw h1 h2 k1 et1
    go_wp2_with fail
    go_quiet (fail)
    go_wp2
    go_ret2
    exact ⟨t, rfl, (H1.out _).less (by omega), (H2.out _), Row2.refl _ _⟩
  | none =>
    have hi := hs.none hx
    cases hsp : s.spent with
    | true =>
      rw [Pt.ask_halt hx hsp]
      have hw := again_halt h.pt hi hsp hs.len
      have HS := Lib.hid h
      clear h hs hx hi hsp
      go_enter Tryd.func66, Tryd.ntmps66
      go_wp2_with fail
      refine hw.mono ?_
      rintro e w1 ⟨rfl, h1, h2⟩
      have H1 := Lib.hid (HS.out.port h1 h2)
      have H2 := Lib.hid (But5.of1 (b := b) (c := c) (r := r) (t := t) h2)
      clear hw h1 h2
      unfold Halt
      go_wp2
      exact ⟨rfl, t, rfl, H1.out.less (by omega), H2.out, Row2.refl _ _⟩
    | false =>
      have hw := again_ask h.pt hi hsp hs.len
      cases hk : s.keeps with
      | true =>
        rw [Pt.ask_keep hx hsp hk]
        have HS := Lib.hid h
        have HO := Lib.hid hs
        have HI := Lib.hid hi
        have HK := Lib.hid hk
        clear h hs hx hi hsp hk
        go_enter Tryd.func66, Tryd.ntmps66
        go_wp2_with fail
        refine hw.mono ?_
        rintro e w1 ⟨rfl, h2⟩
        have hS1 := HS.out.later h2
        have HB := Lib.hid h2
        have c0 := hS1.pt.cells.c0
        have hm := hS1.has.load (by omega) k
        obtain ⟨V, eV, hV⟩ : ∃ V, V = (m.load k).2.1.v ∧ (V = .nilIface ∨ ∃ ty x, V = .iface ty x) := ⟨_, rfl, held_shape _⟩
        rw [← eV] at hm
        have HV := Lib.hid eV
        clear eV
        have H1 := Lib.hid hS1
        clear hw h2 hS1
        go_wp2_with fail
        refine hm.mono ?_
        rintro e w2 ⟨rfl, h3, h4⟩
        have hS2 := H1.out.mem h3 h4
        have hkp := keep_yes (a := (Qn.on (.load k) m).2) hS2.pt HK.out HO.out.len (by have := HO.out.le; have := HO.out.len; omega) hS2.has.below.size
        have ea : (Qn.on (.load k) m).2.v = .agg #[(m.load k).2.1.v, .int .i64 0, .bool false, .int .i64 (m.load k).2.2] := rfl
        rw [ea] at hkp
        rw [← HV.out] at hkp
        have H2 := Lib.hid hS2
        have H3 := Lib.hid h4
        clear hm h3 h4 hS2 c0 ea
        rcases hV with rfl | ⟨ty, x, rfl⟩
        all_goals
          go_wp2_with fail
          refine hkp.mono ?_
          rintro e w3 ⟨rfl, t', h5, h6, h7⟩
          have HS3 := Lib.hid (H2.out.keep h5 h6 h7)
          have H5 := Lib.hid (((But5.of HB.out).trans (But5.of3 H3.out)).trans (But5.of2 h6 : But5 b c r pb t w2 w3))
          have H7 : Hid (Row2 w t t') := h7.from (Nat.le_trans HB.out.size H3.out.size)
          clear hkp h5 h6 h7
          go_wp2
          go_ret2
          exact ⟨t', by show _ = Ending.returned (.tuple #[(m.load k).2.1.v, _]); rw [← HV.out]; rfl, HS3.out, H5.out, H7.out⟩
      | false =>
        rw [Pt.ask_do hx hsp hk]
        have HS := Lib.hid h
        have HK := Lib.hid hk
        clear h hs hx hi hsp hk
        go_enter Tryd.func66, Tryd.ntmps66
        go_wp2_with fail
        refine hw.mono ?_
        rintro e w1 ⟨rfl, h2⟩
        have hS1 := HS.out.later h2
        have HB := Lib.hid h2
        have c0 := hS1.pt.cells.c0
        have hm := hS1.has.load (by omega) k
        obtain ⟨V, eV, hV⟩ : ∃ V, V = (m.load k).2.1.v ∧ (V = .nilIface ∨ ∃ ty x, V = .iface ty x) := ⟨_, rfl, held_shape _⟩
        rw [← eV] at hm
        have HV := Lib.hid eV
        clear eV
        have H1 := Lib.hid hS1
        clear hw h2 hS1
        go_wp2_with fail
        refine hm.mono ?_
        rintro e w2 ⟨rfl, h3, h4⟩
        have hS2 := H1.out.mem h3 h4
        have hkp := keep_no (a := (Qn.on (.load k) m).2) hS2.pt HK.out
        have ea : (Qn.on (.load k) m).2.v = .agg #[(m.load k).2.1.v, .int .i64 0, .bool false, .int .i64 (m.load k).2.2] := rfl
        rw [ea] at hkp
        rw [← HV.out] at hkp
        have H2 := Lib.hid hS2
        have H3 := Lib.hid h4
        clear hm h3 h4 hS2 c0 ea
        rcases hV with rfl | ⟨ty, x, rfl⟩
        all_goals
          go_wp2_with fail
          refine hkp.mono ?_
          rintro e w3 ⟨rfl, h6⟩
          have HS3 := Lib.hid (H2.out.later h6)
          have H5 := Lib.hid (((But5.of HB.out).trans (But5.of3 H3.out)).trans (But5.of h6 : But5 b c r pb t w2 w3))
          clear hkp h6
          go_wp2
          go_ret2
          exact ⟨t, by show _ = Ending.returned (.tuple #[(m.load k).2.1.v, _]); rw [← HV.out]; rfl, HS3.out, H5.out, Row2.refl _ _⟩
end
end Go.Proofs.YtbcpdkmbbgcfbaaDoor
