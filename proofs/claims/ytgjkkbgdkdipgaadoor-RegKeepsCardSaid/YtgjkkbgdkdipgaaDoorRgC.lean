/- A register as a value and in a variable; rows of numbers that nobody changes; isOpen, versionOf, genOf, isVersion, isClient. No condition. -/
import Derived.Test.YtgjkkbgdkdipgaaDoorTn
import Derived.Maps.AppendAt
namespace Go.Proofs.YtgjkkbgdkdipgaaDoor
open Go.RowKit Go.Op
set_option maxRecDepth 100000

/-- A word's lowest bits, and those above them. -/
def lowW (n : Int) : Int := n % 4294967296
def genW (n : Int) : Int := n / 4294967296
theorem lowW_in (n : Int) : 0 ≤ lowW n ∧ lowW n < 4294967296 := by unfold lowW; omega
theorem and32 (n : Int) : bits .and .i64 n 4294967295 = lowW n := and_low 32 (by decide) n 4294967295 (by decide)
theorem isopen_any (n : Int) (w : World) : Calls Tryd.prog 63 #[.int .i64 n] w fun e w' => e = .returned (.bool (decide (lowW n ≠ 0))) ∧ w = w' := by
  have HA := Lib.hid (and32 n)
  by_cases h : lowW n = 0
  · rw [h] at HA
    rw [h]
    go_enter Tryd.func63, Tryd.ntmps63
    go_wp2_with (rw [HA.out])
    go_ret
    exact ⟨rfl, rfl⟩
  · have h2 := lowW_in n
    have e : decide (lowW n ≠ 0) = true := decide_eq_true h
    rw [e]
    generalize lowW n = k at *
    go_enter Tryd.func63, Tryd.ntmps63
    go_wp2_with (rw [HA.out])
    go_ret
    exact ⟨ret_bool (by simp; omega), rfl⟩
theorem versionof_any (n : Int) (w : World) : Calls Tryd.prog 75 #[.int .i64 n] w fun e w' => e = .returned (.int .i64 (lowW n - 1)) ∧ w = w' := by
  have HA := Lib.hid (and32 n)
  have h2 := lowW_in n
  generalize lowW n = k at *
  go_enter Tryd.func75, Tryd.ntmps75
  go_wp2_with (rw [HA.out])
  go_ret
  exact ⟨rfl, rfl⟩
theorem genof_any (n : Int) (w : World) : Calls Tryd.prog 64 #[.int .i64 n] w fun e w' => e = .returned (.int .i64 (genW n)) ∧ w = w' := by
  unfold genW
  go_enter Tryd.func64, Tryd.ntmps64
  go_wp2
  go_ret
  exact ⟨rfl, rfl⟩
def isV (n : Int) : Bool := decide (0 ≤ n ∧ n ≤ 1073741824)
theorem isversion_any (n : Int) (w : World) : Calls Tryd.prog 61 #[.int .i64 n] w fun e w' => e = .returned (.bool (isV n)) ∧ w = w' := by
  by_cases h1 : 0 ≤ n
  · by_cases h2 : n ≤ 1073741824
    · have e : isV n = true := decide_eq_true ⟨h1, h2⟩
      rw [e]
      go_enter Tryd.func61, Tryd.ntmps61
      go_wp2
      go_ret
      exact ⟨rfl, rfl⟩
    · have e : isV n = false := decide_eq_false (by omega)
      rw [e]
      go_enter Tryd.func61, Tryd.ntmps61
      go_wp2
      go_ret
      exact ⟨rfl, rfl⟩
  · have e : isV n = false := decide_eq_false (by omega)
    rw [e]
    go_enter Tryd.func61, Tryd.ntmps61
    go_wp2
    go_ret
    exact ⟨rfl, rfl⟩

/-- A register as it is handed in. -/
structure Rg where
  top : Int
  sa : Option Addr
  sn : Nat
  sc : Nat
  pa : Option Addr
  pn : Nat
  pc : Nat
def Rg.v (R : Rg) : Value := .agg #[.int .i64 R.top, .slice R.sa R.sn R.sc, .slice R.pa R.pn R.pc]
def Rg.row (R : Rg) : List Value := [.int .i64 R.top, .slice R.sa R.sn R.sc, .slice R.pa R.pn R.pc]
def Rg.obj (R : Rg) : Obj := .cells #[.int .i64 R.top, .slice R.sa R.sn R.sc, .slice R.pa R.pn R.pc] 33
theorem size33 : (Tryd.prog.info? 33).map (·.size) = some 3 := by kernel_rfl
/-- A register in a variable. -/
structure RVar (w : World) (z : Nat) (R : Rg) : Prop where
  lt : z < w.heap.size
  fz : ∀ i, w.frozen? ⟨z, i, none⟩ = false
  at_ : w.rangeAt z 0 R.row
section
variable {w w1 : World} {z : Nat} {R : Rg}
theorem RVar.cells (h : RVar w z R) : w.cell? ⟨z, 0, none⟩ = some (.int .i64 R.top) ∧ w.cell? ⟨z, 1, none⟩ = some (.slice R.sa R.sn R.sc) ∧ w.cell? ⟨z, 2, none⟩ = some (.slice R.pa R.pn R.pc) :=
  ⟨h.at_ 0 _ rfl, h.at_ 1 _ rfl, h.at_ 2 _ rfl⟩
theorem RVar.load (h : RVar w z R) : (Instr.loadAt 33 (.pointer (some ⟨z, 0, none⟩))).run Tryd.prog w = .ok R.v w := run_loadAt_mid w z 0 33 R.row _ h.at_ Tryd.underlying33 rfl size33
theorem RVar.loadVar (h : RVar w z R) : (loadVar 33 ⟨z, 0, none⟩).run Tryd.prog w = .ok R.v w := run_loadVar_mid w z 0 33 R.row _ h.at_ Tryd.underlying33 rfl size33
theorem RVar.there (h : RVar w z R) : w.there z 0 3 := fun j hj => ⟨h.at_.isSome j hj, h.fz _⟩
def rput (w : World) (z : Nat) (R : Rg) : World := w.setCells z 0 R.row
theorem RVar.store (h : RVar w z R) (R' : Rg) : (Instr.storeAt 33 (.pointer (some ⟨z, 0, none⟩)) R'.v).run Tryd.prog w = .ok () (rput w z R') :=
  run_storeAt_mid w z 0 33 R'.row.toArray h.there size33 (all_oneCell_toArray fun v hv => by
    simp [Rg.row] at hv
    rcases hv with rfl | rfl | rfl <;> rfl)
theorem RVar.put (h : RVar w z R) (R' : Rg) : RVar (rput w z R') z R' :=
  ⟨by unfold rput; rw [Free.size_setCells]; exact h.lt, fun i => by unfold rput; simp only [Rg.row, World.setCells, World.frozen?_setCell]; exact h.fz i, World.rangeAt_setCells_same w z 0 R'.row h.there⟩
theorem RVar.same (h : RVar w z R) (hs : w.heap.size ≤ w1.heap.size) (hb : w1.heap[z]? = w.heap[z]?) : RVar w1 z R :=
  ⟨Nat.lt_of_lt_of_le h.lt hs, fun i => by rw [World.frozen?_of_block (w := w) (a := ⟨z, i, none⟩) hb]; exact h.fz i, fun j v hj => by rw [World.cell?_of_block (w := w) (a := ⟨z, 0 + j, none⟩) hb]; exact h.at_ j v hj⟩
theorem RVar.later (h : RVar w z R) (hb : Below w.heap.size w w1) : RVar w1 z R := h.same hb.size (hb.block z h.lt)
theorem rnew (w : World) (R : Rg) : RVar (w.alloc R.obj) w.heap.size R :=
  ⟨by simp, fun i => World.frozen?_alloc_at _ 33 _ i rfl, fun j v hj => by rw [Nat.zero_add, Rg.obj, World.cell?_alloc_new]; simpa [Rg.row] using hj⟩
theorem rput_but (w : World) (z : Nat) (R : Rg) : But z w (rput w z R) := (((But.refl z w).set 0 (.int .i64 R.top)).set 1 (.slice R.sa R.sn R.sc)).set 2 (.slice R.pa R.pn R.pc)
theorem rput_size (w : World) (z : Nat) (R : Rg) : (rput w z R).heap.size = w.heap.size := Free.size_setCells ..
end
/-- A row of numbers, beside port and memory. -/
def RowAt (w0 : World) (b c r pb : Nat) (t : Value) (G : List (Nat × List Sw)) (w : World) (ad : Option Addr) (l : List Int) : Prop :=
  l = [] ∨ ∃ g, ad = some ⟨g, 0, none⟩ ∧ Loc w0 b c r pb t G w g ∧ ∀ (i : Nat) (x : Int), l[i]? = some x → w.cell? ⟨g, i, none⟩ = some (.int .i64 x)
/-- A register's rows. -/
structure RgAt (w0 : World) (b c r pb : Nat) (t : Value) (G : List (Nat × List Sw)) (w : World) (R : Rg) (S P : List Int) : Prop where
  sn : R.sn = S.length
  pn : R.pn = P.length
  sf : S.length ≤ 64
  pf : P.length ≤ 64
  s : RowAt w0 b c r pb t G w R.sa S
  p : RowAt w0 b c r pb t G w R.pa P
section
variable {w0 : World} {b c r pb po : Nat} {t t1 : Value} {G G1 : List (Nat × List Sw)} {w w1 : World} {m m1 : M} {s s1 : Pt} {R : Rg} {S P : List Int} {z : Nat}
theorem RowAt.aft {ad : Option Addr} {l : List Int} (h : RowAt w0 b c r pb t G w ad l) (ha : Aft w0 b c r pb po t G w t1 G1 w1 m1 s1) : RowAt w0 b c r pb t1 G1 w1 ad l :=
  h.imp id fun ⟨g, e, hl, hc⟩ => ⟨g, e, (hl.aft ha).1, fun i x hx => (World.cell?_of_block (w := w) (hl.aft ha).2).trans (hc i x hx)⟩
theorem RowAt.later {ad : Option Addr} {l : List Int} (h : RowAt w0 b c r pb t G w ad l) (hb : Below w.heap.size w w1) : RowAt w0 b c r pb t G w1 ad l :=
  h.imp id fun ⟨g, e, hl, hc⟩ => ⟨g, e, hl.later hb, fun i x hx => (World.cell?_of_block (w := w) (hb.block g hl.lt)).trans (hc i x hx)⟩
theorem RowAt.see {ad : Option Addr} {l : List Int} (h : RowAt w0 b c r pb t G w ad l) {i : Nat} {x : Int} (hx : l[i]? = some x) : ∃ g, ad = some ⟨g, 0, none⟩ ∧ w.cell? ⟨g, i, none⟩ = some (.int .i64 x) := by
  rcases h with rfl | ⟨g, e, _, hc⟩
  · simp at hx
  · exact ⟨g, e, hc i x hx⟩
theorem RgAt.aft (h : RgAt w0 b c r pb t G w R S P) (ha : Aft w0 b c r pb po t G w t1 G1 w1 m1 s1) : RgAt w0 b c r pb t1 G1 w1 R S P := ⟨h.sn, h.pn, h.sf, h.pf, h.s.aft ha, h.p.aft ha⟩
theorem RgAt.later (h : RgAt w0 b c r pb t G w R S P) (hb : Below w.heap.size w w1) : RgAt w0 b c r pb t G w1 R S P := ⟨h.sn, h.pn, h.sf, h.pf, h.s.later hb, h.p.later hb⟩
theorem Aft.rcells (ha : Aft w0 b c r pb po t G w t1 G1 w1 m1 s1) (hz : Loc w0 b c r pb t G w z) (h : RVar w z R) : RVar w1 z R ∧ Loc w0 b c r pb t1 G1 w1 z :=
  ⟨h.same ha.but.size (hz.aft ha).2, (hz.aft ha).1⟩
end
def isC (S : List Int) (c : Int) : Bool := decide (0 ≤ c ∧ c < (S.length : Int))
theorem isclient_any (R : Rg) (S : List Int) (hs : R.sn = S.length) (hf : S.length ≤ 64) (c : Int) (w : World) : Calls Tryd.prog 58 #[R.v, .int .i64 c] w fun e w' => e = .returned (.bool (isC S c)) ∧ Below w.heap.size w w' := by
  have HB := Lib.hid (fun o => (Below.refl w.heap.size w).alloc (Nat.le_refl _) o)
  unfold Rg.v
  rw [hs]
  have hf2 : (S.length : Int) ≤ 64 := by omega
  by_cases h1 : 0 ≤ c
  · by_cases h2 : c < (S.length : Int)
    · have e : isC S c = true := decide_eq_true ⟨h1, h2⟩
      rw [e]
      clear e hs
      generalize S.length = n at *
      go_enter Tryd.func58, Tryd.ntmps58
      go_wp2
      go_ret
      exact ⟨rfl, HB.out _⟩
    · have e : isC S c = false := decide_eq_false (by omega)
      rw [e]
      clear e hs
      generalize S.length = n at *
      go_enter Tryd.func58, Tryd.ntmps58
      go_wp2
      go_ret
      exact ⟨rfl, HB.out _⟩
  · have e : isC S c = false := decide_eq_false (by omega)
    rw [e]
    clear e hs
    generalize S.length = n at *
    go_enter Tryd.func58, Tryd.ntmps58
    go_wp2
    go_ret
    exact ⟨rfl, HB.out _⟩
end Go.Proofs.YtgjkkbgdkdipgaaDoor
/- A row of numbers of the call's own; what free and zeros come to. Conditions: at most 700000 asks; at most 64 cells. -/
namespace Go.Proofs.YtgjkkbgdkdipgaaDoor
open Go.RowKit Go.Op
set_option maxRecDepth 100000

/-- A program that asks so often at most. -/
inductive Pr.Le {α : Type} : Nat → Pr α → Prop where
  | ret (n : Nat) (a : α) : Pr.Le n (.ret a)
  | ask (n : Nat) (q : Qn) (k : An → Pr α) : (∀ a, Pr.Le n (k a)) → Pr.Le (n + 1) (.ask q k)
theorem Pr.Le.more {α : Type} {n m : Nat} {p : Pr α} (h : p.Le n) (hm : n ≤ m) : p.Le m := by
  induction h generalizing m with
  | ret n a => exact .ret _ _
  | ask n q k _ ih =>
    obtain ⟨j, rfl⟩ : ∃ j, m = j + 1 := ⟨m - 1, by omega⟩
    exact .ask _ _ _ fun a => ih a (by omega)
theorem Pr.Le.bind {α β : Type} {n m : Nat} {p : Pr α} {f : α → Pr β} (h : p.Le n) (hf : ∀ a, (f a).Le m) : (p.bind f).Le (n + m) := by
  induction h with
  | ret n a => exact (hf a).more (by omega)
  | ask n q k _ ih => exact (Pr.Le.ask (n + m) q _ ih).more (by omega)
theorem Pr.Le.run {α : Type} {n : Nat} {p : Pr α} (h : p.Le n) : ∀ (s : Pt) (m : M), (p.run s m).2.2.count ≤ m.count + n := by
  induction h with
  | ret n a => intro s m; simp only [Pr.run]; omega
  | ask n q k _ ih =>
    intro s m
    have h1 := (ask_count s q m).2.1
    rw [Pr.run_ask]
    generalize s.ask q m = u at h1 ⊢
    obtain ⟨_ | a, s', m'⟩ := u
    · simp only at h1 ⊢; push_cast; omega
    · have := ih a s' m'
      simp only at h1 ⊢
      push_cast
      omega
theorem Pr.Le.out {α : Type} {n : Nat} {p : Pr α} (h : p.Le n) {s s' : Pt} {m m' : M} {o : Option α} (ho : p.run s m = (o, s', m')) : m'.count ≤ m.count + n := by
  have := h.run s m
  rw [ho] at this
  exact this
theorem ask_out {q : Qn} {s s' : Pt} {m m' : M} {o : Option An} (ho : s.ask q m = (o, s', m')) : m'.count ≤ m.count + 1 := by
  have := (ask_count s q m).2.1
  rw [ho] at this
  exact this
/-- What a call by a port comes to, where what it answers stands in the program's memory. -/
def EvW {α : Type} (w0 : World) (b c r pb po : Nat) (t : Value) (G : List (Nat × List Sw)) (w : World) (R : Value → List (Nat × List Sw) → World → α → Value → Prop) (o : Option α × Pt × M) (e : Ending) (w' : World) : Prop :=
  ∃ t' G', (match o.1 with
    | some a => ∃ v, e = .returned v ∧ R t' G' w' a v
    | none => e = Halt pb po) ∧ Aft w0 b c r pb po t G w t' G' w' o.2.2 o.2.1
section
variable {w0 : World} {b c r pb po : Nat} {t t1 t2 : Value} {G G1 G2 : List (Nat × List Sw)} {w w1 w2 : World} {m m1 m2 : M} {s s1 s2 : Pt}
theorem EvW.cases {α : Type} {R : Value → List (Nat × List Sw) → World → α → Value → Prop} {o : Option α × Pt × M} {e : Ending} (h : EvW w0 b c r pb po t G w R o e w1) :
    (∃ t' G' s' m', o = (none, s', m') ∧ e = Halt pb po ∧ Aft w0 b c r pb po t G w t' G' w1 m' s') ∨ (∃ t' G' s' m' a v, o = (some a, s', m') ∧ e = .returned v ∧ R t' G' w1 a v ∧ Aft w0 b c r pb po t G w t' G' w1 m' s') := by
  obtain ⟨oa, s', m'⟩ := o
  obtain ⟨t', G', h1, h2⟩ := h
  cases oa with
  | none => exact .inl ⟨t', G', s', m', rfl, h1, h2⟩
  | some a =>
    obtain ⟨v, h3, h4⟩ := h1
    exact .inr ⟨t', G', s', m', a, v, rfl, h3, h4, h2⟩
theorem EvW.ret {α : Type} {R : Value → List (Nat × List Sw) → World → α → Value → Prop} {o : Option α × Pt × M} {a : α} {v : Value} (ho : o = (some a, s1, m1)) (hR : R t1 G1 w1 a v) (h : Aft w0 b c r pb po t G w t1 G1 w1 m1 s1) : EvW w0 b c r pb po t G w R o (.returned v) w1 := by
  subst ho; exact ⟨t1, G1, ⟨v, rfl, hR⟩, h⟩
theorem EvW.die {α : Type} {R : Value → List (Nat × List Sw) → World → α → Value → Prop} {o : Option α × Pt × M} (ho : o = (none, s1, m1)) (h : Aft w0 b c r pb po t G w t1 G1 w1 m1 s1) : EvW w0 b c r pb po t G w R o (Halt pb po) w1 := by
  subst ho; exact ⟨t1, G1, rfl, h⟩
end

def numRow (l : List Int) : List Value := l.map (Value.int .i64)
def OwnI (w : World) (B : Nat) (v : Value) (l : List Int) : Prop := w.ownsRow B 3 1 v l.length (numRow l)
theorem own_lt {w : World} {g : Nat} {o : Obj} (c : w.heap[g]? = some o) : g < w.heap.size := (Array.getElem?_eq_some_iff.1 c).1
theorem OwnI.nil (w : World) (B : Nat) : OwnI w B (.slice none 0 0) [] := World.ownsRow_nil _ _ _ _
theorem OwnI.of {w w' : World} {B : Nat} {v : Value} {l : List Int} (h : OwnI w B v l) (hk : ∀ k, v.ownBlock = some k → w'.heap[k]? = w.heap[k]?) : OwnI w' B v l := by
  obtain ⟨h1, h2⟩ := h
  refine ⟨h1, ?_⟩
  rcases h2 with h2 | ⟨g, cap, cur, rfl, b, c, d⟩
  · exact .inl h2
  · exact .inr ⟨g, cap, cur, rfl, b, by rw [hk g rfl]; exact c, d⟩
theorem OwnI.lt {w : World} {B : Nat} {v : Value} {l : List Int} (h : OwnI w B v l) : ∀ k, v.ownBlock = some k → B ≤ k ∧ k < w.heap.size := World.ownsRow.lt h
theorem OwnI.below {w w' : World} {B : Nat} {v : Value} {l : List Int} (h : OwnI w B v l) (hb : Below w.heap.size w w') : OwnI w' B v l := h.of fun k hk => hb.block k (h.lt k hk).2
theorem OwnI.see {w : World} {B : Nat} {v : Value} {l : List Int} (h : OwnI w B v l) : ∃ a c, v = .slice a l.length c ∧ (l = [] ∨ ∃ g, a = some ⟨g, 0, none⟩ ∧ v.ownBlock = some g ∧ ∀ (k : Nat) (x : Int), l[k]? = some x → w.cell? ⟨g, k, none⟩ = some (.int .i64 x)) := by
  rcases h.2 with ⟨rfl, h2⟩ | ⟨g, cap, cur, rfl, b, c, d⟩
  · have : l = [] := List.eq_nil_of_length_eq_zero h2
    subst this
    exact ⟨none, 0, rfl, .inl rfl⟩
  · refine ⟨some ⟨g, 0, none⟩, cap, rfl, .inr ⟨g, rfl, rfl, fun k x hx => ?_⟩⟩
    have := World.ownsRow.cells h (g := g) rfl k (.int .i64 x) (by simp [numRow, hx])
    rw [show (⟨g, 0, none⟩ : Addr).add k = ⟨g, k, none⟩ by simp [Addr.add]; rintro rfl; rfl] at this
    exact this
theorem num_one (l : List Int) : ∀ u ∈ numRow l, u.oneCell' = true := by
  intro u hu
  simp [numRow] at hu
  obtain ⟨x, _, rfl⟩ := hu
  rfl
theorem info3 : (Tryd.prog.info? 3).map (fun i => (i.zero, i.size, i.bytes)) = some (some (.int .i64 0), 1, 8) := by kernel_rfl
theorem append1 {ops : Array Oper} {rest : List Oper} {o : Oper} {a : Act} {w : World} {Q : Exit → Act → World → Prop}
    (hg : o.guard = none) (s x : Operand) (hop : o.op = Op.call { callee := Callee.builtin Builtin.append, args := #[s, x], argTypes := #[31, 31] })
    (B : Nat) (v : Value) (l : List Int) (n : Int) (hs : a.eval s = v) (hown : OwnI w B v l) (g c : Nat) (hx : a.eval x = .slice (some ⟨g, 0, none⟩) 1 c) (hc : w.cell? ⟨g, 0, none⟩ = some (.int .i64 n))
    (hl : l.length ≤ 1000000) (hB : B ≤ w.heap.size)
    (hK : ∀ v' w', OwnI w' B v' (l ++ [n]) → w.grownBy w' v.ownBlock → (v'.ownBlock = v.ownBlock ∨ v'.ownBlock = some w.heap.size) → wpList Tryd.prog ops Q rest (a.put o.dst v') w') :
    wpList Tryd.prog ops Q (o :: rest) a w := by
  obtain ⟨i0, hi, hz0, hz1, hz2⟩ := info_parts info3
  refine wpList_append_own_at w hg s x 31 hop B 3 i0 (.int .i64 0) 1 8 Tryd.underlying31 hi hz0 hz1 hz2 rfl (by decide) v _ _ hs hown ⟨g, 0, none⟩ 1 c [.int .i64 n] hx rfl ?_ (num_one [n]) (by unfold maxLen; omega) (by omega) hB ?_
  · intro j u hu
    match j, hu with
    | 0, hu =>
      simp at hu
      subst hu
      exact hc
  · intro v' w' h1 h2 _ h4
    refine hK v' w' ?_ h2 h4
    unfold OwnI numRow
    rw [List.map_append, List.length_append]
    exact h1
theorem alloc_cell (w : World) (xs : Array Value) (ty : TypeId) (i : Nat) (v : Value) (h : xs[i]? = some v) : (w.alloc (.cells xs ty)).cell? ⟨w.heap.size, i, none⟩ = some v := by
  rw [World.cell?_alloc_new]; exact h
/-- A row of the call's own beside port and memory. -/
structure ZRow (w0 : World) (b c r pb : Nat) (t : Value) (G : List (Nat × List Sw)) (w : World) (B : Nat) (v : Value) (l : List Int) : Prop where
  own : OwnI w B v l
  loc : ∀ k, v.ownBlock = some k → Loc w0 b c r pb t G w k
section
variable {w0 : World} {b c r pb po : Nat} {t t1 t2 : Value} {G G1 G2 : List (Nat × List Sw)} {w w1 w2 : World} {m m1 m2 : M} {s s1 s2 : Pt} {B : Nat} {v v' : Value} {l l' : List Int}
theorem ZRow.nil : ZRow w0 b c r pb t G w B (.slice none 0 0) [] := ⟨OwnI.nil _ _, fun k e => (by cases e)⟩
theorem ZRow.aft (h : ZRow w0 b c r pb t G w B v l) (ha : Aft w0 b c r pb po t G w t1 G1 w1 m1 s1) : ZRow w0 b c r pb t1 G1 w1 B v l :=
  ⟨h.own.of fun k hk => ((h.loc k hk).aft ha).2, fun k hk => ((h.loc k hk).aft ha).1⟩
theorem ZRow.later (h : ZRow w0 b c r pb t G w B v l) (hb : Below w.heap.size w w1) : ZRow w0 b c r pb t G w1 B v l := ⟨h.own.below hb, fun k hk => (h.loc k hk).later hb⟩
theorem ZRow.row (h : ZRow w0 b c r pb t G w B v l) : ∃ a cp, v = .slice a l.length cp ∧ RowAt w0 b c r pb t G w a l := by
  obtain ⟨a, cp, e, h1⟩ := h.own.see
  refine ⟨a, cp, e, h1.imp id ?_⟩
  rintro ⟨g, e1, e2, h2⟩
  exact ⟨g, e1, h.loc g e2, h2⟩
theorem SysE.locnew (h : SysE w0 b c r pb po t G w m s) (hs : w.heap.size < w1.heap.size) : Loc w0 b c r pb t G w1 w.heap.size := by
  have := h.fresh (.cells #[] 3)
  exact ⟨hs, this.ge, this.ne, this.nt, this.ng⟩
/-- Behind an append. -/
theorem ZRow.grown (h : ZRow w0 b c r pb t1 G1 w1 B v l) (ha : Aft w0 b c r pb po t G w t1 G1 w1 m1 s1) (hB : w.heap.size ≤ B) (own : OwnI w2 B v' l') (hg : w1.grownBy w2 v.ownBlock) (hn : v'.ownBlock = v.ownBlock ∨ v'.ownBlock = some w1.heap.size) :
    Aft w0 b c r pb po t G w t1 G1 w2 m1 s1 ∧ ZRow w0 b c r pb t1 G1 w2 B v' l' := by
  have hA : Aft w0 b c r pb po t G w t1 G1 w2 m1 s1 := by
    cases e : v.ownBlock with
    | none => exact ha.later ⟨hg.os, hg.tape, hg.output, hg.size, fun k hk => hg.block k hk (by rw [e]; exact fun e => (by cases e))⟩
    | some z => exact ha.aside (z := z) ⟨hg.os, hg.tape, hg.output, hg.size, fun k hk hne => hg.block k hk (by rw [e]; exact fun e2 => hne (by cases e2; rfl))⟩ (h.loc z e) (Nat.le_trans hB (h.own.lt z e).1)
  refine ⟨hA, own, fun k hk => ?_⟩
  rcases hn with e | e
  · rw [e] at hk; exact (h.loc k hk).same hg.size
  · rw [e] at hk; cases hk
    exact ha.sys.locnew (own.lt _ e).2
/-- Cells are freed. -/
def freeP : List Int → Pr Unit
  | [] => .ret ()
  | h :: l => .ask (.free h) fun _ => freeP l
theorem freeP_cons (h : Int) (l : List Int) : freeP (h :: l) = .ask (.free h) fun _ => freeP l := rfl
theorem freeP_nil : freeP [] = .ret () := rfl
theorem freeP_le : ∀ l : List Int, (freeP l).Le l.length
  | [] => .ret _ _
  | _ :: l => .ask _ _ _ fun _ => freeP_le l
/-- At the loop's head. -/
def FHead (w0 : World) (b c r pb po : Nat) (t : Value) (G : List (Nat × List Sw)) (w : World) (l : List Int) (s : Pt) (m : M) (i : Nat) (wr : World) : Prop :=
  ∃ t1 G1 m1 s1, Aft w0 b c r pb po t G w t1 G1 wr m1 s1 ∧ (freeP l).run s m = (freeP (l.drop i)).run s1 m1 ∧ m1.count ≤ m.count + i
theorem drop_at {l : List Int} {i : Nat} (h : i < l.length) : ∃ x, l[i]? = some x ∧ l.drop i = x :: l.drop (i + 1) :=
  ⟨l[i], List.getElem?_eq_getElem h, List.drop_eq_getElem_cons h⟩
theorem free_E (h : SysE w0 b c r pb po t G w m s) (hc : m.count ≤ 800000) (ad : Option Addr) (cap : Nat) (l : List Int) (hl : l.length ≤ 64) (hr : RowAt w0 b c r pb t G w ad l) :
    Calls Tryd.prog 40 #[.pointer (some ⟨pb, po, none⟩), .slice ad l.length cap] w fun e w' => Ev w0 b c r pb po t G w (fun _ _ v => v = .tuple #[]) ((freeP l).run s m) e w' := by
  have HH : Hid (FHead w0 b c r pb po t G w l s m 0 w) := ⟨t, G, m, s, Aft.refl h, rfl, by simp⟩
  have HR := Lib.hid hr
  have hl2 : (l.length : Int) ≤ 64 := by omega
  have HL := Lib.hid hl
  clear h hr hl
  go_enter Tryd.func40, Tryd.ntmps40
  go_wp2_with fail
  go_loopw [8] (fun iv wr => ∃ i : Nat, iv = .int .i64 (i : Int) ∧ i ≤ l.length ∧ Hid (FHead w0 b c r pb po t G w l s m i wr)) (fun iv _ => l.length - (intOf iv).toNat)
  case atStart => exact ⟨0, rfl, Nat.zero_le _, HH⟩
  case round =>
    obtain ⟨i, rfl, hi, hR⟩ := hrel
    clear HH
    obtain ⟨t1, G1, m1, s1, ha, hrun, hct⟩ := hR.out
    have hLL := HL.out
    by_cases hlt : i < l.length
    · have i1 : (i : Int) < (l.length : Int) := by omega
      obtain ⟨x, hx, hdrop⟩ := drop_at hlt
      obtain ⟨g, eg, k0⟩ := (HR.out.aft ha).see hx
      have hf := efree ha.sys (by omega) x
      have HA := Lib.hid ha
      have HRun := Lib.hid hrun
      have HC := Lib.hid hct
      have HDr := Lib.hid hdrop
      clear hR ha hrun hct hx hdrop hLL
      rw [eg]
      go_wp2_with fail
      refine hf.mono ?_
      rintro e w2 hE
      rcases hE.cases with ⟨t2, G2, s2, m2, ho, rfl, ha⟩ | ⟨t2, G2, s2, m2, a, v, ho, rfl, rfl, ha⟩
      · have HE : Hid (Ev w0 b c r pb po t G w (fun _ _ v => v = .tuple #[]) ((freeP l).run s m) (Halt pb po) w2) := Ev.die (by rw [HRun.out, HDr.out, freeP_cons, Pr.run_ask, ho]) (HA.out.trans ha)
        clear hf hE ho ha
        unfold Halt
        go_wp2
        exact ⟨rfl, HE.out⟩
      · have HH : Hid (FHead w0 b c r pb po t G w l s m (i + 1) w2) := by
          refine ⟨t2, G2, m2, s2, HA.out.trans ha, by rw [HRun.out, HDr.out, freeP_cons, Pr.run_ask, ho], ?_⟩
          have := ask_out ho
          have := HC.out
          push_cast
          omega
        clear hf hE ho ha
        go_wp2_with fail
        go_roundw
        case rel => exact ⟨i + 1, by simp, by omega, HH⟩
        case measure => simp [intOf]; omega
    · obtain rfl : i = l.length := by omega
      have hdrop : l.drop l.length = [] := List.drop_length
      have HE : Hid (Ev w0 b c r pb po t G w (fun _ _ v => v = .tuple #[]) ((freeP l).run s m) (.returned (.tuple #[])) wr) := Ev.ret (a := ()) (by rw [hrun, hdrop, freeP_nil]; simp only [Pr.run]) rfl ha
      clear hR ha hrun hct hdrop hLL
      go_wp2
      exact bodyPost_end (results_none rfl _ _ _) rfl HE.out
/-- So many words of 0, all or none. -/
def zerosP : Nat → List Int → Pr (List Int × Int)
  | 0, l => .ret (l, 0)
  | n + 1, l => .ask (.alloc (.word 0)) fun a => if a.err = 0 then zerosP n (l ++ [a.n]) else (freeP l).bind fun _ => .ret ([], a.err)
theorem zerosP_succ (n : Nat) (l : List Int) : zerosP (n + 1) l = .ask (.alloc (.word 0)) fun a => if a.err = 0 then zerosP n (l ++ [a.n]) else (freeP l).bind fun _ => .ret ([], a.err) := rfl
theorem zerosP_zero (l : List Int) : zerosP 0 l = .ret (l, 0) := rfl
theorem zerosP_le : ∀ (n : Nat) (l : List Int), (zerosP n l).Le (2 * n + l.length)
  | 0, l => .ret _ _
  | n + 1, l => by
    refine (Pr.Le.ask (2 * n + l.length + 1) _ _ fun a => ?_).more (by omega)
    split
    · exact (zerosP_le n (l ++ [a.n])).more (by simp; omega)
    · exact ((freeP_le l).bind (m := 0) fun _ => .ret _ _).more (by omega)
def RZeros (w0 : World) (b c r pb : Nat) (B : Nat) (t : Value) (G : List (Nat × List Sw)) (w : World) (a : List Int × Int) (v : Value) : Prop := ∃ u, v = .tuple #[u, .int .i64 a.2] ∧ ZRow w0 b c r pb t G w B u a.1
/-- At the loop's head. -/
def ZHead (w0 : World) (b c r pb po : Nat) (t : Value) (G : List (Nat × List Sw)) (w : World) (n : Nat) (s : Pt) (m : M) (i : Nat) (u : Value) (l : List Int) (wr : World) : Prop :=
  ∃ t1 G1 m1 s1, Aft w0 b c r pb po t G w t1 G1 wr m1 s1 ∧ (zerosP n []).run s m = (zerosP (n - i) l).run s1 m1 ∧ m1.count ≤ m.count + i ∧ ZRow w0 b c r pb t1 G1 wr w.heap.size u l ∧ l.length = i
set_option maxHeartbeats 1000000 in
theorem zeros_E (h : SysE w0 b c r pb po t G w m s) (hT : TabAt w0) (hc : m.count ≤ 700000) (n : Nat) (hn : n ≤ 64) :
    Calls Tryd.prog 39 #[.pointer (some ⟨pb, po, none⟩), .int .i64 (n : Int)] w fun e w' => EvW w0 b c r pb po t G w (RZeros w0 b c r pb w.heap.size) ((zerosP n []).run s m) e w' := by
  have HH : Hid (ZHead w0 b c r pb po t G w n s m 0 (.slice none 0 0) [] w) := ⟨t, G, m, s, Aft.refl h, rfl, by simp, ZRow.nil, rfl⟩
  have HT := Lib.hid hT
  have hn2 : (n : Int) ≤ 64 := by omega
  have hc2 := hc
  clear h hT
  go_enter Tryd.func39, Tryd.ntmps39
  go_wp2_with fail
  go_loopw [6, 10] (fun lv iv wr => ∃ (i : Nat) (l : List Int) (la : Option Addr) (lc : Nat), iv = .int .i64 (i : Int) ∧ i ≤ n ∧ lv = .slice la i lc ∧ Hid (ZHead w0 b c r pb po t G w n s m i (.slice la i lc) l wr)) (fun lv iv _ => n - (intOf iv).toNat)
  case atStart => exact ⟨0, [], none, 0, rfl, Nat.zero_le _, rfl, HH⟩
  case round =>
    obtain ⟨i, l, la, lc, rfl, hi, rfl, hR⟩ := hrel
    clear HH
    obtain ⟨t1, G1, m1, s1, ha, hrun, hct, hz, hlen⟩ := hR.out
    by_cases hlt : i < n
    · have i1 : (i : Int) < (n : Int) := by omega
      obtain ⟨j, hj⟩ : ∃ j, n - i = j + 1 := ⟨n - i - 1, by omega⟩
      have hal := eallocword ha.sys HT.out (by omega) 0
      rw [hj] at hrun
      have HA := Lib.hid ha
      have HRun := Lib.hid hrun
      have HC := Lib.hid hct
      have HZ := Lib.hid hz
      have HLen := Lib.hid hlen
      have HJ := Lib.hid hj
      clear hR ha hrun hct hz hlen hj
      go_wp2_with fail
      refine hal.mono ?_
      rintro e w2 hE
      rcases hE.cases with ⟨t2, G2, s2, m2, ho, rfl, ha⟩ | ⟨t2, G2, s2, m2, a, v, ho, rfl, rfl, ha⟩
      · have HE : Hid (EvW w0 b c r pb po t G w (RZeros w0 b c r pb w.heap.size) ((zerosP n []).run s m) (Halt pb po) w2) := EvW.die (by rw [HRun.out, zerosP_succ, Pr.run_ask, ho]) (HA.out.trans ha)
        clear hal hE ho ha
        unfold Halt
        go_wp2
        exact ⟨rfl, HE.out⟩
      have HCt := Lib.hid (ask_out ho)
      have HRun2 : Hid ((zerosP n []).run s m = (if a.err = 0 then zerosP j (l ++ [a.n]) else (freeP l).bind fun _ => .ret ([], a.err)).run s2 m2) := by
        unfold Hid
        rw [HRun.out, zerosP_succ, Pr.run_ask, ho]
      have HZ2 := Lib.hid (HZ.out.aft ha)
      have HA2 := Lib.hid (HA.out.trans ha)
      clear hal hE ho ha HA HZ HRun
      by_cases herr : a.err = 0
      · rw [herr]
        have HRun3 : Hid ((zerosP n []).run s m = (zerosP j (l ++ [a.n])).run s2 m2) := by
          have := HRun2.out
          rw [if_pos herr] at this
          exact this
        clear herr HRun2
        generalize a.n = h at *
        clear a
        go_wp2_with (at_builtin; go_loud (refine append1 rfl (.tmp 23) (.tmp 25) rfl w.heap.size (.slice la i lc) l h rfl (HZ2.out.own.below ((Below.refl _ _).alloc (Nat.le_refl _) _)) w2.heap.size 1 rfl (alloc_cell _ _ _ 0 _ rfl) (by have := HLen.out; omega) (by have := HA2.out.but.size; simp; omega) ?_); intro v' w3 hown hgrow hblk; have H3 := Lib.hid (⟨hown, hgrow, hblk⟩ : _ ∧ _ ∧ _); clear hown hgrow hblk)
        have hA3 := HA2.out.later ((Below.refl w2.heap.size w2).alloc (Nat.le_refl _) (.cells #[.int .i64 h] 3))
        obtain ⟨hA4, hz4⟩ := (HZ2.out.later ((Below.refl w2.heap.size w2).alloc (Nat.le_refl _) (.cells #[.int .i64 h] 3))).grown hA3 (Nat.le_refl _) H3.out.1 H3.out.2.1 H3.out.2.2
        obtain ⟨la', lc', ev, _⟩ := H3.out.1.see
        have hlen : (l ++ [h]).length = i + 1 := by simp [HLen.out]
        rw [hlen] at ev
        subst ev
        have HH : Hid (ZHead w0 b c r pb po t G w n s m (i + 1) (.slice la' (i + 1) lc') (l ++ [h]) w3) :=
          ⟨t2, G2, m2, s2, hA4, by rw [HRun3.out, show n - (i + 1) = j by have := HJ.out; omega], by have := HC.out; have := HCt.out; push_cast; omega, hz4, hlen⟩
        clear hA3 hA4 hz4 hlen H3 HA2 HZ2
        go_wp2_with fail
        go_roundw
        case rel => exact ⟨i + 1, l ++ [h], la', lc', by simp, by omega, rfl, HH⟩
        case measure => simp [intOf]; omega
      · rw [if_neg herr] at HRun2
        obtain ⟨la', lc', ev, hrow⟩ := HZ2.out.row
        have e1 := HLen.out
        rw [e1] at ev
        cases ev
        have hfr := free_E HA2.out.sys (by have := HC.out; have := HCt.out; omega) la lc l (by omega) hrow
        rw [e1] at hfr
        clear hrow e1
        go_wp2_with fail
        refine hfr.mono ?_
        rintro e w3 hE
        rcases hE.cases with ⟨t3, G3, s3, m3, ho, rfl, ha⟩ | ⟨t3, G3, s3, m3, y, v, ho, rfl, rfl, ha⟩
        · have HE : Hid (EvW w0 b c r pb po t G w (RZeros w0 b c r pb w.heap.size) ((zerosP n []).run s m) (Halt pb po) w3) := EvW.die (by rw [HRun2.out, Pr.bind_none ho]) (HA2.out.trans ha)
          clear hfr hE ho ha
          unfold Halt
          go_wp2
          exact ⟨rfl, HE.out⟩
        · have HE : Hid (EvW w0 b c r pb po t G w (RZeros w0 b c r pb w.heap.size) ((zerosP n []).run s m) (.returned (.tuple #[.slice none 0 0, .int .i64 a.err])) w3) := EvW.ret (a := ([], a.err)) (by rw [HRun2.out, Pr.bind_some ho]; simp only [Pr.run]) ⟨_, rfl, ZRow.nil⟩ (HA2.out.trans ha)
          clear hfr hE ho ha
          go_wp2
          go_ret2
          exact HE.out
    · obtain rfl : i = n := by omega
      rw [Nat.sub_self, zerosP_zero] at hrun
      have HE : Hid (EvW w0 b c r pb po t G w (RZeros w0 b c r pb w.heap.size) ((zerosP i []).run s m) (.returned (.tuple #[.slice la i lc, .int .i64 0])) wr) := EvW.ret (a := (l, 0)) (by rw [hrun]; simp only [Pr.run]) ⟨_, rfl, hz⟩ ha
      clear hR ha hrun hct hz hlen
      go_wp2
      go_ret2
      exact HE.out
end
end Go.Proofs.YtgjkkbgdkdipgaaDoor
/- What ofSlots, ofSnaps, Oldest and Least come to. Conditions: at most 700000 asks; at most 64 slots and 64 places. -/
namespace Go.Proofs.YtgjkkbgdkdipgaaDoor
open Go.RowKit Go.Op
set_option maxRecDepth 100000

/-- The least one of a version, and of those that the slots of all but one tell. -/
def slotsP (c : Int) : Nat → Int → List Int → Pr (Int × Int)
  | _, lv, [] => .ret (lv, 0)
  | i, lv, h :: l => if (i : Int) = c then slotsP c (i + 1) lv l else
    .ask (.word h) fun a => if a.err = 0 then slotsP c (i + 1) (if a.n = 0 then lv else min lv (wrap64 (a.n - 1))) l else .ret (0, a.err)
theorem slotsP_nil (c : Int) (i : Nat) (lv : Int) : slotsP c i lv [] = .ret (lv, 0) := rfl
theorem slotsP_cons (c : Int) (i : Nat) (lv h : Int) (l : List Int) : slotsP c i lv (h :: l) = if (i : Int) = c then slotsP c (i + 1) lv l else
    .ask (.word h) fun a => if a.err = 0 then slotsP c (i + 1) (if a.n = 0 then lv else min lv (wrap64 (a.n - 1))) l else .ret (0, a.err) := rfl
theorem slotsP_le (c : Int) : ∀ (l : List Int) (i : Nat) (lv : Int), (slotsP c i lv l).Le l.length
  | [], _, _ => .ret _ _
  | h :: l, i, lv => by
    rw [slotsP_cons]
    split
    · exact (slotsP_le c l (i + 1) lv).more (by simp)
    · refine .ask _ _ _ fun a => ?_
      split
      · exact slotsP_le c l _ _
      · exact .ret _ _
def snapsP : Int → List Int → Pr (Int × Int)
  | lv, [] => .ret (lv, 0)
  | lv, h :: l => .ask (.word h) fun a => if a.err = 0 then snapsP (if lowW a.n = 0 then lv else min lv (lowW a.n - 1)) l else .ret (0, a.err)
theorem snapsP_nil (lv : Int) : snapsP lv [] = .ret (lv, 0) := rfl
theorem snapsP_cons (lv h : Int) (l : List Int) : snapsP lv (h :: l) = .ask (.word h) fun a => if a.err = 0 then snapsP (if lowW a.n = 0 then lv else min lv (lowW a.n - 1)) l else .ret (0, a.err) := rfl
theorem snapsP_le : ∀ (l : List Int) (lv : Int), (snapsP lv l).Le l.length
  | [], _ => .ret _ _
  | h :: l, lv => by
    refine .ask _ _ _ fun a => ?_
    split
    · exact snapsP_le l _
    · exact .ret _ _
section
variable {w0 : World} {b c r pb po : Nat} {t t1 t2 : Value} {G G1 G2 : List (Nat × List Sw)} {w w1 w2 : World} {m m1 m2 : M} {s s1 s2 : Pt} {R : Rg} {S P : List Int}
/-- At the loop's head. -/
structure SHead (w0 : World) (b c r pb po : Nat) (t : Value) (G : List (Nat × List Sw)) (w : World) (R : Rg) (S P : List Int) (k lv : Int) (s : Pt) (m : M) (i : Nat) (l2 : Int) (t1 : Value) (G1 : List (Nat × List Sw)) (m1 : M) (s1 : Pt) (wr : World) : Prop where
  aft : Aft w0 b c r pb po t G w t1 G1 wr m1 s1
  run : (slotsP k 0 lv S).run s m = (slotsP k i l2 (S.drop i)).run s1 m1
  cnt : m1.count ≤ m.count + i
  rg : RgAt w0 b c r pb t1 G1 wr R S P
set_option maxHeartbeats 1000000 in
theorem ofslots_E (h : SysE w0 b c r pb po t G w m s) (hc : m.count ≤ 800000) (hR : RgAt w0 b c r pb t G w R S P) (k lv : Int) :
    Calls Tryd.prog 69 #[.pointer (some ⟨pb, po, none⟩), R.v, .int .i64 k, .int .i64 lv] w fun e w' => Ev w0 b c r pb po t G w RInt2 ((slotsP k 0 lv S).run s m) e w' := by
  have hb0 := (Below.refl w.heap.size w).alloc (Nat.le_refl _) R.obj
  have HH : Hid (SHead w0 b c r pb po t G w R S P k lv s m 0 lv t G m s (w.alloc R.obj)) := ⟨(Aft.refl h).later hb0, rfl, by simp, hR.later hb0⟩
  have hl2 : (S.length : Int) ≤ 64 := by have := hR.sf; omega
  have HL := Lib.hid hR.sf
  have HC0 := Lib.hid hc
  have en := hR.sn
  unfold Rg.v
  unfold Rg.obj at HH
  rw [en] at HH ⊢
  clear h hR hb0 en hc
  generalize hn : S.length = n at *
  go_enter Tryd.func69, Tryd.ntmps69
  go_wp2_with fail
  go_loopw [3, 17] (fun lv2 iv wr => ∃ (i : Nat) (l2 : Int), iv = .int .i64 (i : Int) ∧ i ≤ n ∧ lv2 = .int .i64 l2 ∧ ∃ t1 G1 m1 s1, Hid (SHead w0 b c r pb po t G w R S P k lv s m i l2 t1 G1 m1 s1 wr)) (fun lv2 iv _ => n - (intOf iv).toNat)
  case atStart => exact ⟨0, lv, rfl, Nat.zero_le _, rfl, t, G, m, s, HH⟩
  case round =>
    obtain ⟨i, l2, rfl, hi, rfl, t1, G1, m1, s1, hR⟩ := hrel
    clear HH
    by_cases hlt : i < n
    · have i1 : (i : Int) < (n : Int) := by omega
      obtain ⟨x, hx, hdrop⟩ := drop_at (l := S) (i := i) (by omega)
      obtain ⟨g, eg, k0⟩ := hR.out.rg.s.see hx
      have hrun := hR.out.run
      rw [hdrop, slotsP_cons] at hrun
      by_cases hk : (i : Int) = k
      · rw [if_pos hk] at hrun
        have HH : Hid (SHead w0 b c r pb po t G w R S P k lv s m (i + 1) l2 t1 G1 m1 s1 wr) := ⟨hR.out.aft, hrun, by have := hR.out.cnt; push_cast; omega, hR.out.rg⟩
        clear hR hx hdrop hrun
        rw [eg]
        subst hk
        go_wp2_with fail
        go_roundw
        case rel => exact ⟨i + 1, l2, by simp, by omega, rfl, t1, G1, m1, s1, HH⟩
        case measure => simp [intOf]; omega
      · rw [if_neg hk] at hrun
        have hw := eword hR.out.aft.sys (by have := hR.out.cnt; have := HC0.out; have := HL.out; omega) x
        have HRun := Lib.hid hrun
        have HR := Lib.hid hR.out
        clear hR hx hdrop hrun
        rw [eg]
        go_wp2_with fail
        refine hw.mono ?_
        rintro e w2 hE
        rcases hE.cases with ⟨t2, G2, s2, m2, ho, rfl, ha⟩ | ⟨t2, G2, s2, m2, a, v, ho, rfl, rfl, ha⟩
        · have HE : Hid (Ev w0 b c r pb po t G w RInt2 ((slotsP k 0 lv S).run s m) (Halt pb po) w2) := Ev.die (by rw [HRun.out, Pr.run_ask, ho]) (HR.out.aft.trans ha)
          clear hw hE ho ha
          unfold Halt
          go_wp2
          exact ⟨rfl, HE.out⟩
        by_cases herr : a.err = 0
        · have HH : Hid (SHead w0 b c r pb po t G w R S P k lv s m (i + 1) (if a.n = 0 then l2 else min l2 (wrap64 (a.n - 1))) t2 G2 m2 s2 w2) := by
            refine ⟨HR.out.aft.trans ha, ?_, ?_, HR.out.rg.aft ha⟩
            · rw [HRun.out, Pr.run_ask, ho]
              simp only
              rw [if_pos herr]
            · have := ask_out ho
              have := HR.out.cnt
              push_cast
              omega
          rw [herr]
          by_cases hz : a.n = 0
          · rw [if_pos hz] at HH
            rw [hz]
            clear hw hE ho ha herr hz
            go_wp2_with fail
            go_roundw
            case rel => exact ⟨i + 1, l2, by simp, by omega, rfl, t2, G2, m2, s2, HH⟩
            case measure => simp [intOf]; omega
          · rw [if_neg hz] at HH
            generalize a.n = an at *
            clear hw hE ho ha herr
            go_wp2_with fail
            go_roundw
            case rel => exact ⟨i + 1, _, by simp, by omega, rfl, t2, G2, m2, s2, HH⟩
            case measure => simp [intOf]; omega
        · have HE : Hid (Ev w0 b c r pb po t G w RInt2 ((slotsP k 0 lv S).run s m) (.returned (.tuple #[.int .i64 0, .int .i64 a.err])) w2) := Ev.ret (a := (0, a.err)) (by
            rw [HRun.out, Pr.run_ask, ho]
            simp only
            rw [if_neg herr]
            simp only [Pr.run]) rfl (HR.out.aft.trans ha)
          clear hw hE ho ha
          go_wp2
          go_ret2
          exact HE.out
    · obtain rfl : i = n := by omega
      have hrun := hR.out.run
      rw [show S.drop i = [] by rw [← hn]; exact List.drop_length, slotsP_nil] at hrun
      have HE : Hid (Ev w0 b c r pb po t G w RInt2 ((slotsP k 0 lv S).run s m) (.returned (.tuple #[.int .i64 l2, .int .i64 0])) wr) := Ev.ret (a := (l2, 0)) (by rw [hrun]; simp only [Pr.run]) rfl hR.out.aft
      clear hR hrun
      go_wp2
      go_ret2
      exact HE.out
structure NHead (w0 : World) (b c r pb po : Nat) (t : Value) (G : List (Nat × List Sw)) (w : World) (R : Rg) (S P : List Int) (lv : Int) (s : Pt) (m : M) (i : Nat) (l2 : Int) (t1 : Value) (G1 : List (Nat × List Sw)) (m1 : M) (s1 : Pt) (wr : World) : Prop where
  aft : Aft w0 b c r pb po t G w t1 G1 wr m1 s1
  run : (snapsP lv P).run s m = (snapsP l2 (P.drop i)).run s1 m1
  cnt : m1.count ≤ m.count + i
  rg : RgAt w0 b c r pb t1 G1 wr R S P
set_option maxHeartbeats 1000000 in
theorem ofsnaps_E (h : SysE w0 b c r pb po t G w m s) (hc : m.count ≤ 800000) (hR : RgAt w0 b c r pb t G w R S P) (lv : Int) :
    Calls Tryd.prog 70 #[.pointer (some ⟨pb, po, none⟩), R.v, .int .i64 lv] w fun e w' => Ev w0 b c r pb po t G w RInt2 ((snapsP lv P).run s m) e w' := by
  have hb0 := (Below.refl w.heap.size w).alloc (Nat.le_refl _) R.obj
  have HH : Hid (NHead w0 b c r pb po t G w R S P lv s m 0 lv t G m s (w.alloc R.obj)) := ⟨(Aft.refl h).later hb0, rfl, by simp, hR.later hb0⟩
  have hl2 : (P.length : Int) ≤ 64 := by have := hR.pf; omega
  have HL := Lib.hid hR.pf
  have HC0 := Lib.hid hc
  have en := hR.pn
  unfold Rg.v
  unfold Rg.obj at HH
  rw [en] at HH ⊢
  clear h hR hb0 en hc
  generalize hn : P.length = n at *
  go_enter Tryd.func70, Tryd.ntmps70
  go_wp2_with fail
  go_loopw [2, 15] (fun lv2 iv wr => ∃ (i : Nat) (l2 : Int), iv = .int .i64 (i : Int) ∧ i ≤ n ∧ lv2 = .int .i64 l2 ∧ ∃ t1 G1 m1 s1, Hid (NHead w0 b c r pb po t G w R S P lv s m i l2 t1 G1 m1 s1 wr)) (fun lv2 iv _ => n - (intOf iv).toNat)
  case atStart => exact ⟨0, lv, rfl, Nat.zero_le _, rfl, t, G, m, s, HH⟩
  case round =>
    obtain ⟨i, l2, rfl, hi, rfl, t1, G1, m1, s1, hR⟩ := hrel
    clear HH
    by_cases hlt : i < n
    · have i1 : (i : Int) < (n : Int) := by omega
      obtain ⟨x, hx, hdrop⟩ := drop_at (l := P) (i := i) (by omega)
      obtain ⟨g, eg, k0⟩ := hR.out.rg.p.see hx
      have hrun := hR.out.run
      rw [hdrop, snapsP_cons] at hrun
      have hw := eword hR.out.aft.sys (by have := hR.out.cnt; have := HC0.out; have := HL.out; omega) x
      have HRun := Lib.hid hrun
      have HR := Lib.hid hR.out
      clear hR hx hdrop hrun
      rw [eg]
      go_wp2_with fail
      refine hw.mono ?_
      rintro e w2 hE
      rcases hE.cases with ⟨t2, G2, s2, m2, ho, rfl, ha⟩ | ⟨t2, G2, s2, m2, a, v, ho, rfl, rfl, ha⟩
      · have HE : Hid (Ev w0 b c r pb po t G w RInt2 ((snapsP lv P).run s m) (Halt pb po) w2) := Ev.die (by rw [HRun.out, Pr.run_ask, ho]) (HR.out.aft.trans ha)
        clear hw hE ho ha
        unfold Halt
        go_wp2
        exact ⟨rfl, HE.out⟩
      by_cases herr : a.err = 0
      · have HH : Hid (NHead w0 b c r pb po t G w R S P lv s m (i + 1) (if lowW a.n = 0 then l2 else min l2 (lowW a.n - 1)) t2 G2 m2 s2 w2) := by
          refine ⟨HR.out.aft.trans ha, ?_, ?_, HR.out.rg.aft ha⟩
          · rw [HRun.out, Pr.run_ask, ho]
            simp only
            rw [if_pos herr]
          · have := ask_out ho
            have := HR.out.cnt
            push_cast
            omega
        have hio := fun w => isopen_any a.n w
        have hvo := fun w => versionof_any a.n w
        rw [herr]
        by_cases hz : lowW a.n = 0
        · rw [if_pos hz] at HH
          have e1 : decide (lowW a.n ≠ 0) = false := decide_eq_false (by simpa using hz)
          rw [e1] at hio
          clear hw hE ho ha herr hz e1
          generalize a.n = an at *
          go_wp2_with fail
          refine (hio _).mono ?_
          rintro e w3 ⟨rfl, rfl⟩
          go_wp2_with fail
          go_roundw
          case rel => exact ⟨i + 1, l2, by simp, by omega, rfl, t2, G2, m2, s2, HH⟩
          case measure => simp [intOf]; omega
        · rw [if_neg hz] at HH
          have e1 : decide (lowW a.n ≠ 0) = true := decide_eq_true hz
          rw [e1] at hio
          clear hw hE ho ha herr hz e1
          generalize a.n = an at *
          go_wp2_with fail
          refine (hio _).mono ?_
          rintro e w3 ⟨rfl, rfl⟩
          go_wp2_with fail
          refine (hvo _).mono ?_
          rintro e w3 ⟨rfl, rfl⟩
          go_wp2_with fail
          go_roundw
          case rel => exact ⟨i + 1, _, by simp, by omega, rfl, t2, G2, m2, s2, HH⟩
          case measure => simp [intOf]; omega
      · have HE : Hid (Ev w0 b c r pb po t G w RInt2 ((snapsP lv P).run s m) (.returned (.tuple #[.int .i64 0, .int .i64 a.err])) w2) := Ev.ret (a := (0, a.err)) (by
          rw [HRun.out, Pr.run_ask, ho]
          simp only
          rw [if_neg herr]
          simp only [Pr.run]) rfl (HR.out.aft.trans ha)
        clear hw hE ho ha
        go_wp2
        go_ret2
        exact HE.out
    · obtain rfl : i = n := by omega
      have hrun := hR.out.run
      rw [show P.drop i = [] by rw [← hn]; exact List.drop_length, snapsP_nil] at hrun
      have HE : Hid (Ev w0 b c r pb po t G w RInt2 ((snapsP lv P).run s m) (.returned (.tuple #[.int .i64 l2, .int .i64 0])) wr) := Ev.ret (a := (l2, 0)) (by rw [hrun]; simp only [Pr.run]) rfl hR.out.aft
      clear hR hrun
      go_wp2
      go_ret2
      exact HE.out
end
end Go.Proofs.YtgjkkbgdkdipgaaDoor
