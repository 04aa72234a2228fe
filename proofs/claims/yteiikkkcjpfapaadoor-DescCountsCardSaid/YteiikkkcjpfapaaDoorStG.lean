/- Many machines of one memory: each has its own blocks; a step of one leaves the others as they were. New. No condition. -/
import Derived.Test.YteiikkkcjpfapaaDoorStF
namespace Go.Proofs.YteiikkkcjpfapaaDoor
open Go.RowKit Go.Op
set_option maxRecDepth 100000

structure Mach where
  xb : Nat
  t : Value
  s : Pt
  f : Value
  fin : Bool
  out : Value
/-- No block of one is the other's. -/
structure Apart2 (x y : Mach) : Prop where
  xx : x.xb ≠ y.xb
  tx : x.t.ownBlock ≠ some y.xb
  xt : y.t.ownBlock ≠ some x.xb
  tt : ∀ k, x.t.ownBlock = some k → y.t.ownBlock ≠ some k
theorem Apart2.symm {x y : Mach} (h : Apart2 x y) : Apart2 y x := ⟨h.xx.symm, h.xt, h.tx, fun k e e2 => h.tt k e2 e⟩
structure Team (w0 : World) (b c r : Nat) (N : Int) (G : List (Nat × List Sw)) (w : World) (m : M) (L : List Mach) : Prop where
  has : Has w0 b c r N w m
  mac : ∀ (i : Nat) (x : Mach), L[i]? = some x → Mac w0 b c r N G x.xb x.t w m x.s x.f x.fin x.out
  apart : ∀ (i j : Nat) (x y : Mach), L[i]? = some x → L[j]? = some y → i ≠ j → Apart2 x y
/-- A block that is nobody's. -/
structure Off (z b c r : Nat) (w : World) (L : List Mach) : Prop where
  lt : z < w.heap.size
  m : z ≠ b ∧ z ≠ c ∧ z ≠ r
  x : ∀ (i : Nat) (x : Mach), L[i]? = some x → z ≠ x.xb ∧ x.t.ownBlock ≠ some z
section
variable {w0 : World} {b c r : Nat} {N N' : Int} {G G' : List (Nat × List Sw)} {w w' : World} {m m' : M} {L : List Mach}
theorem Sys.okof {pb po : Nat} {t : Value} {s : Pt} (h : Sys w0 b c r N G pb po t w m s) (ho : m.Ok N') : Sys w0 b c r N' G pb po t w m s :=
  ⟨⟨h.has.at_, ho, h.has.below, h.has.hb, h.has.hc, h.has.hr⟩, h.pt, h.nb, h.tb, h.hp, h.rows⟩
/-- Rows for another port. -/
theorem RowsG.for {pb : Nat} {t0 : Value} (h : RowsG w0 b c r pb t0 G w) (h' : ∀ g l, (g, l) ∈ G' → Rw w' g l ∧ w0.heap.size ≤ g ∧ g ≠ b ∧ g ≠ c ∧ g ≠ r) (hg : Grow w G G') (hp : pb < w.heap.size) (ht : ∀ k, t0.ownBlock = some k → k < w.heap.size) : RowsG w0 b c r pb t0 G' w' := by
  intro g l hx
  obtain ⟨h1, h2, h3, h4, h5⟩ := h' g l hx
  refine ⟨h1, h2, h3, h4, h5, ?_⟩
  rcases hg.2 _ hx with e | e
  · obtain ⟨_, _, _, _, _, h6, h7⟩ := h g l e
    exact ⟨h6, h7⟩
  · have e : w.heap.size ≤ g := e
    exact ⟨by omega, fun e2 => by have := ht g e2; omega⟩
theorem RowsG.bare {pb : Nat} {t0 : Value} (h : RowsG w0 b c r pb t0 G w) : ∀ g l, (g, l) ∈ G → Rw w g l ∧ w0.heap.size ≤ g ∧ g ≠ b ∧ g ≠ c ∧ g ≠ r := fun g l hx =>
  let ⟨h1, h2, h3, h4, h5, _⟩ := h g l hx
  ⟨h1, h2, h3, h4, h5⟩
/-- Another machine's step. -/
theorem Mac.other {x y : Mach} (h : Mac w0 b c r N G y.xb y.t w m y.s y.f y.fin y.out) (ha : Apart2 x y) (hh : Has w0 b c r N' w' m') (hk : But5 b c r x.xb x.t w w') (hg : Grow w G G') (hr : ∀ g l, (g, l) ∈ G' → Rw w' g l ∧ w0.heap.size ≤ g ∧ g ≠ b ∧ g ≠ c ∧ g ≠ r) : Mac w0 b c r N' G' y.xb y.t w' m' y.s y.f y.fin y.out := by
  have p := h.sys.pt
  refine ⟨⟨hh, p.same (hk.block _ p.lt h.sys.nb.1 h.sys.nb.2.1 h.sys.nb.2.2 ha.xx.symm (fun e => ha.tx e.symm)) (fun k e => hk.block k (World.ownsRow.lt p.own k e).2 (fun e2 => h.sys.tb.1 (e2 ▸ e)) (fun e2 => h.sys.tb.2.1 (e2 ▸ e)) (fun e2 => h.sys.tb.2.2 (e2 ▸ e)) (fun e2 => ha.xt (e2 ▸ e)) (fun e2 => ha.tt k e2.symm e)), h.sys.nb, h.sys.tb, h.sys.hp, h.sys.rows.for hr hg p.lt (fun k e => (World.ownsRow.lt p.own k e).2)⟩, h.ok, h.e0, h.e8, h.e9⟩
/-- Memory is asked, by none of these machines. -/
theorem Mac.mem {y : Mach} (h : Mac w0 b c r N G y.xb y.t w m y.s y.f y.fin y.out) (hh : Has w0 b c r N' w' m') (hk : Kept b c r w w') (hg : Grow w G G') (hr : ∀ g l, (g, l) ∈ G' → Rw w' g l ∧ w0.heap.size ≤ g ∧ g ≠ b ∧ g ≠ c ∧ g ≠ r) : Mac w0 b c r N' G' y.xb y.t w' m' y.s y.f y.fin y.out := by
  have p := h.sys.pt
  exact ⟨⟨hh, p.same (hk.block _ p.lt h.sys.nb.1 h.sys.nb.2.1 h.sys.nb.2.2) (fun k e => hk.block k (World.ownsRow.lt p.own k e).2 (fun e2 => h.sys.tb.1 (e2 ▸ e)) (fun e2 => h.sys.tb.2.1 (e2 ▸ e)) (fun e2 => h.sys.tb.2.2 (e2 ▸ e))), h.sys.nb, h.sys.tb, h.sys.hp, h.sys.rows.for hr hg p.lt (fun k e => (World.ownsRow.lt p.own k e).2)⟩, h.ok, h.e0, h.e8, h.e9⟩
theorem Team.mem (h : Team w0 b c r N G w m L) (hh : Has w0 b c r N' w' m') (hk : Kept b c r w w') (hg : Grow w G G') (hr : ∀ g l, (g, l) ∈ G' → Rw w' g l ∧ w0.heap.size ≤ g ∧ g ≠ b ∧ g ≠ c ∧ g ≠ r) : Team w0 b c r N' G' w' m' L :=
  ⟨hh, fun i x hx => (h.mac i x hx).mem hh hk hg hr, h.apart⟩
theorem Team.step (h : Team w0 b c r N G w m L) {i : Nat} {x y : Mach} (hi : L[i]? = some x) (hx : y.xb = x.xb) (hy : Mac w0 b c r N' G' y.xb y.t w' m' y.s y.f y.fin y.out) (hk : But5 b c r x.xb x.t w w') (hr : Row2 w x.t y.t) (hg : Grow w G G') : Team w0 b c r N' G' w' m' (L.set i y) := by
  have hlt : ∀ (j : Nat) (z : Mach), L[j]? = some z → z.xb < w.heap.size ∧ ∀ k, z.t.ownBlock = some k → k < w.heap.size := fun j z hz =>
    ⟨(h.mac j z hz).sys.pt.lt, fun k e => (World.ownsRow.lt (h.mac j z hz).sys.pt.own k e).2⟩
  have key : ∀ (j : Nat) (z : Mach), L[j]? = some z → i ≠ j → Apart2 y z := fun j z hz hij => by
    have a := h.apart i j x z hi hz hij
    obtain ⟨l1, l2⟩ := hlt j z hz
    refine ⟨by rw [hx]; exact a.xx, fun e => ?_, by rw [hx]; exact a.xt, fun k e e2 => ?_⟩
    · rcases hr _ e with e2 | e2
      · exact a.tx e2
      · omega
    · rcases hr _ e with e3 | e3
      · exact a.tt k e3 e2
      · have := l2 k e2
        omega
  refine ⟨hy.sys.has, fun j z hz => ?_, fun j k z u hz hu hjk => ?_⟩
  · rw [List.getElem?_set] at hz
    split at hz
    · split at hz
      · cases hz; exact hy
      · cases hz
    · rename_i hij
      exact (h.mac j z hz).other (h.apart i j x z hi hz hij) hy.sys.has hk hg hy.sys.rows.bare
  · rw [List.getElem?_set] at hz hu
    split at hz
    · rename_i hij
      split at hz
      · cases hz
        rw [if_neg (by omega)] at hu
        exact key k u hu (by omega)
      · cases hz
    · rename_i hij
      split at hu
      · split at hu
        · cases hu
          exact (key j z hz hij).symm
        · cases hu
      · exact h.apart j k z u hz hu hjk
theorem Off.step {z : Nat} (h : Off z b c r w L) {i : Nat} {x y : Mach} (hi : L[i]? = some x) (hx : y.xb = x.xb) (hk : But5 b c r x.xb x.t w w') (hr : Row2 w x.t y.t) : Off z b c r w' (L.set i y) ∧ w'.heap[z]? = w.heap[z]? := by
  have a := h.x i x hi
  refine ⟨⟨Nat.lt_of_lt_of_le h.lt hk.size, h.m, fun j u hu => ?_⟩, hk.block z h.lt h.m.1 h.m.2.1 h.m.2.2 a.1 (fun e => a.2 e.symm)⟩
  rw [List.getElem?_set] at hu
  split at hu
  · split at hu
    · cases hu
      refine ⟨by rw [hx]; exact a.1, fun e => ?_⟩
      rcases hr _ e with e2 | e2
      · exact a.2 e2
      · have := h.lt; omega
    · cases hu
  · exact h.x j u hu
theorem Team.later (h : Team w0 b c r N G w m L) (hb : Below w.heap.size w w') : Team w0 b c r N G w' m L :=
  ⟨h.has.later hb, fun i x hx => (h.mac i x hx).later hb, h.apart⟩
theorem Off.later {z : Nat} (h : Off z b c r w L) (hb : w.heap.size ≤ w'.heap.size) : Off z b c r w' L := ⟨Nat.lt_of_lt_of_le h.lt hb, h.m, h.x⟩
theorem Team.nil (h : Has w0 b c r N w m) : Team w0 b c r N G w m [] := ⟨h, fun i x hx => (by simp at hx), fun i j x y hx => (by simp at hx)⟩
/-- What a change of other blocks leaves. -/
theorem Team.beside (h : Team w0 b c r N G w m L) {g : Nat} (hs : w.heap.size ≤ w'.heap.size) (hw : Below w0.heap.size w0 w') (hk : ∀ k, k < w.heap.size → k ≠ g → w'.heap[k]? = w.heap[k]?) (hG : ∀ x, x ∈ G → x.1 ≠ g) (hg : g ≠ b ∧ g ≠ c ∧ g ≠ r ∧ ∀ (i : Nat) (x : Mach), L[i]? = some x → g ≠ x.xb ∧ x.t.ownBlock ≠ some g) : Team w0 b c r N G w' m L := by
  have o := h.has.at_.own
  have hh : Has w0 b c r N w' m := h.has.same hs hw (hk b o.lb hg.1.symm) (hk c o.lc hg.2.1.symm) (hk r o.lr hg.2.2.1.symm)
  refine ⟨hh, fun i x hx => ?_, h.apart⟩
  have q := h.mac i x hx
  have a := hg.2.2.2 i x hx
  have p := q.sys.pt
  exact ⟨⟨hh, p.same (hk _ p.lt a.1.symm) (fun k e => hk k (World.ownsRow.lt p.own k e).2 (fun e2 => a.2 (e2 ▸ e))), q.sys.nb, q.sys.tb, q.sys.hp, fun z l hz => by
    obtain ⟨h1, h2⟩ := q.sys.rows z l hz
    exact ⟨h1.same hs (hk z h1.lt (hG _ hz)), h2⟩⟩, q.ok, q.e0, q.e8, q.e9⟩

/-- A new machine's block. -/
def machObj (b : Nat) (f : Value) : Obj := .cells #[f, .pointer (some ⟨b, 0, none⟩), .bool true, .slice none 0 0, .int .i64 0, .int .i64 0, .bool false, .bool false, .bool false, .nilIface] 94
def machExt (f : Value) (i : Nat) : Option Value := if i = 0 then some f else if i = 8 then some (.bool false) else if i = 9 then some .nilIface else none
def mach0 (xb : Nat) (f : Value) : Mach := ⟨xb, .slice none 0 0, ⟨true, [], 0, 0, false, false, machExt f⟩, f, false, .nilIface⟩
theorem mach_at (h : Has w0 b c r N w m) (hr : ∀ g l, (g, l) ∈ G → Rw w g l ∧ w0.heap.size ≤ g ∧ g ≠ b ∧ g ≠ c ∧ g ≠ r) (f : Value) : Mac w0 b c r N G w.heap.size (.slice none 0 0) (w.alloc (machObj b f)) m ⟨true, [], 0, 0, false, false, machExt f⟩ f false .nilIface := by
  have hb := (Below.refl w.heap.size w).alloc (Nat.le_refl _) (machObj b f)
  have o := h.at_.own
  have k : ∀ i, (w.alloc (machObj b f)).cell? ⟨w.heap.size, i, none⟩ = (#[f, .pointer (some ⟨b, 0, none⟩), .bool true, .slice none 0 0, .int .i64 0, .int .i64 0, .bool false, .bool false, .bool false, .nilIface] : Array Value)[i]? := fun i => World.cell?_alloc_new _ _ _ _
  have h1 := o.lb
  have h2 := o.lc
  have h3 := o.lr
  refine ⟨⟨h.later hb, ⟨⟨k 1, k 2, k 3, k 4, k 5, k 6, k 7⟩, fun i => World.frozen?_alloc_at _ 94 _ i rfl, World.ownsRow_nil _ _ _ _, fun e => (by cases e), fun i hi => ?_⟩, ⟨by omega, by omega, by omega⟩, ⟨fun e => (by cases e), fun e => (by cases e), fun e => (by cases e)⟩, h.below.size, fun g l hx => by
    obtain ⟨q1, q2, q3, q4, q5⟩ := hr g l hx
    exact ⟨q1.same hb.size (hb.block g q1.lt), q2, q3, q4, q5, by have := q1.lt; omega, fun e => (by cases e)⟩⟩, fun _ => ⟨Nat.le_refl _, by simp⟩, rfl, rfl, rfl⟩
  rw [k]
  simp only [machExt]
  rcases hi with hi | hi
  · obtain rfl : i = 0 := by omega
    rfl
  · by_cases e8 : i = 8
    · subst e8; rfl
    · by_cases e9 : i = 9
      · subst e9; rfl
      · rw [if_neg (by omega), if_neg e8, if_neg e9]
        simp; omega
theorem newmach_any (f : Value) (w : World) (hf : ∃ fk caps, f = .func (.func fk) #[] caps) : Calls Tryd.prog 20 #[.pointer (some ⟨b, 0, none⟩), f] w fun e w' => e = .returned (.pointer (some ⟨w.heap.size, 0, none⟩)) ∧ w' = w.alloc (machObj b f) := by
  obtain ⟨fk, caps, rfl⟩ := hf
  unfold machObj
  go_enter Tryd.func20, Tryd.ntmps20
  go_wp2
  go_ret
  exact ⟨rfl, rfl⟩
theorem Team.add (h : Team w0 b c r N G w m L) (hr : ∀ g l, (g, l) ∈ G → Rw w g l ∧ w0.heap.size ≤ g ∧ g ≠ b ∧ g ≠ c ∧ g ≠ r) (f : Value) : Team w0 b c r N G (w.alloc (machObj b f)) m (L ++ [mach0 w.heap.size f]) := by
  have hb := (Below.refl w.heap.size w).alloc (Nat.le_refl _) (machObj b f)
  have hL := h.later hb
  have key : ∀ (j : Nat) (z : Mach), L[j]? = some z → Apart2 z (mach0 w.heap.size f) := fun j z hz => by
    have q := h.mac j z hz
    have h1 := q.sys.pt.lt
    refine ⟨by simp only [mach0]; omega, fun e => ?_, fun e => (by cases e), fun k e e2 => (by cases e2)⟩
    have := (World.ownsRow.lt q.sys.pt.own _ e).2
    simp only [mach0] at this
    omega
  have hlast : ∀ (j : Nat) (z : Mach), (L ++ [mach0 w.heap.size f])[j]? = some z → L[j]? = some z ∨ (j = L.length ∧ z = mach0 w.heap.size f) := fun j z hz => by
    rw [List.getElem?_append] at hz
    split at hz
    · exact .inl hz
    · have hj := (List.getElem?_eq_some_iff.1 hz).1
      simp at hj
      obtain rfl : j = L.length := by omega
      simp at hz
      exact .inr ⟨rfl, hz.symm⟩
  refine ⟨hL.has, fun j z hz => ?_, fun j k z u hz hu hjk => ?_⟩
  · rcases hlast j z hz with e | ⟨_, rfl⟩
    · exact hL.mac j z e
    · exact mach_at h.has hr f
  · rcases hlast j z hz with e | ⟨e1, rfl⟩ <;> rcases hlast k u hu with e2 | ⟨e2, rfl⟩
    · exact h.apart j k z u e e2 hjk
    · exact key j z e
    · exact (key k u e2).symm
    · omega
theorem Off.add {z : Nat} (h : Off z b c r w L) (f : Value) : Off z b c r (w.alloc (machObj b f)) (L ++ [mach0 w.heap.size f]) := by
  refine ⟨by have := h.lt; simp; omega, h.m, fun j u hu => ?_⟩
  rw [List.getElem?_append] at hu
  split at hu
  · exact h.x j u hu
  · have hj := (List.getElem?_eq_some_iff.1 hu).1
    simp at hj
    obtain rfl : j = L.length := by omega
    simp at hu
    subst hu
    exact ⟨by have := h.lt; simp only [mach0]; omega, fun e => (by cases e)⟩
end
end Go.Proofs.YteiikkkcjpfapaaDoor
