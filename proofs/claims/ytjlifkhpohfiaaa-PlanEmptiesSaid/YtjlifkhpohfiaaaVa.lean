/- Struct variables, rows and views in memory; what tower.To, spans, leads and Right answer of any row of views. Condition: at most 200000 views. -/
import Derived.Test.YtjlifkhpohfiaaaTag
import Derived.Test.YtjlifkhpohfiaaaEGen
import Derived.Handy
import Derived.Maps.AppendAt
import Derived.Laws.OwnMore
namespace Go.Proofs.Ytjlifkhpohfiaaa
open Go.RowKit Go.Op
set_option maxRecDepth 100000

/-- A type whose values are so many cells. -/
structure Shape (ty : TypeId) (n : Nat) : Prop where
  row : ∃ d, Try.prog.underlying ty = some d ∧ d.isRow = true
  size : (Try.prog.info? ty).map (·.size) = some n
theorem sh52 : Shape 52 16 := ⟨⟨_, Try.underlying52, rfl⟩, by kernel_rfl⟩
theorem sh50 : Shape 50 10 := ⟨⟨_, Try.underlying50, rfl⟩, by kernel_rfl⟩
theorem sh46 : Shape 46 3 := ⟨⟨_, Try.underlying46, rfl⟩, by kernel_rfl⟩
theorem sh57 : Shape 57 4 := ⟨⟨_, Try.underlying57, rfl⟩, by kernel_rfl⟩
theorem set_other {w : World} {b i b' i' : Nat} {u x : Value} (h : w.cell? ⟨b', i', none⟩ = some x) (hn : b ≠ b' ∨ i ≠ i') : (w.setCell ⟨b, i, none⟩ u).cell? ⟨b', i', none⟩ = some x := by
  rw [World.cell?_setCell_other w ⟨b, i, none⟩ ⟨b', i', none⟩ u (by
    simp only [ne_eq, Addr.mk.injEq, not_and]
    rcases hn with hn | hn
    · exact fun e => absurd e hn
    · exact fun _ e => absurd e hn)]
  exact h
theorem set_same {w : World} {b i : Nat} {u x : Value} (h : w.cell? ⟨b, i, none⟩ = some x) : (w.setCell ⟨b, i, none⟩ u).cell? ⟨b, i, none⟩ = some u := World.cell?_setCell_same w ⟨b, i, none⟩ u h
/-- A variable that holds such cells. -/
structure SVar (w : World) (z : Nat) (row : List Value) : Prop where
  lt : z < w.heap.size
  fz : ∀ i, w.frozen? ⟨z, i, none⟩ = false
  at_ : w.rangeAt z 0 row
def sput (w : World) (z : Nat) (row : List Value) : World := w.setCells z 0 row
section
variable {w w1 : World} {z : Nat} {row row' : List Value} {ty : TypeId}
theorem SVar.cell (h : SVar w z row) {i : Nat} {v : Value} (hi : row[i]? = some v) : w.cell? ⟨z, i, none⟩ = some v := by
  have := h.at_ i v hi
  rwa [Nat.zero_add] at this
theorem SVar.mid (h : SVar w z row) (o : Nat) (sub : List Value) (hs : ∀ j v, sub[j]? = some v → row[o + j]? = some v) : w.rangeAt z o sub := fun j v hj => h.cell (hs j v hj)
theorem load_mid {o : Nat} {sub : List Value} (h : w.rangeAt z o sub) (hS : Shape ty sub.length) : (Instr.loadAt ty (.pointer (some ⟨z, o, none⟩))).run Try.prog w = .ok (.agg sub.toArray) w := by
  obtain ⟨d, h1, h2⟩ := hS.row
  exact run_loadAt_mid w z o ty sub d h h1 h2 hS.size
theorem SVar.load (h : SVar w z row) (hS : Shape ty row.length) : (Instr.loadAt ty (.pointer (some ⟨z, 0, none⟩))).run Try.prog w = .ok (.agg row.toArray) w := load_mid h.at_ hS
theorem SVar.loadVar (h : SVar w z row) (hS : Shape ty row.length) : (loadVar ty ⟨z, 0, none⟩).run Try.prog w = .ok (.agg row.toArray) w := by
  obtain ⟨d, h1, h2⟩ := hS.row
  exact run_loadVar_mid w z 0 ty row d h.at_ h1 h2 hS.size
theorem SVar.there (h : SVar w z row) : w.there z 0 row.length := fun j hj => ⟨h.at_.isSome j hj, h.fz _⟩
theorem SVar.store (h : SVar w z row) (hl : row'.length = row.length) (hS : Shape ty row'.length) (h1 : ∀ v ∈ row', v.oneCell' = true) : (Instr.storeAt ty (.pointer (some ⟨z, 0, none⟩)) (.agg row'.toArray)).run Try.prog w = .ok () (sput w z row') :=
  run_storeAt_mid w z 0 ty row'.toArray (by have := h.there; rw [← hl] at this; simpa using this) (by simpa using hS.size) (all_oneCell_toArray h1)
theorem SVar.put (h : SVar w z row) (hl : row'.length = row.length) : SVar (sput w z row') z row' :=
  ⟨by unfold sput; rw [Free.size_setCells]; exact h.lt, fun i => by unfold sput; rw [World.frozen?_setCells]; exact h.fz i, World.rangeAt_setCells_same w z 0 row' (by rw [hl]; exact h.there)⟩
theorem SVar.same (h : SVar w z row) (hs : w.heap.size ≤ w1.heap.size) (hb : w1.heap[z]? = w.heap[z]?) : SVar w1 z row :=
  ⟨Nat.lt_of_lt_of_le h.lt hs, fun i => by rw [World.frozen?_of_block (w := w) (a := ⟨z, i, none⟩) hb]; exact h.fz i, fun j v hj => by rw [World.cell?_of_block (w := w) (a := ⟨z, 0 + j, none⟩) hb]; exact h.at_ j v hj⟩
theorem SVar.later (h : SVar w z row) (hb : Below w.heap.size w w1) : SVar w1 z row := h.same hb.size (hb.block z h.lt)
/-- One cell is stored. -/
theorem SVar.set (h : SVar w z row) {i : Nat} (hi : i < row.length) (u : Value) : SVar (w.setCell ⟨z, i, none⟩ u) z (row.set i u) := by
  refine ⟨by simp [World.setCell]; exact h.lt, fun j => by rw [World.frozen?_setCell]; exact h.fz j, fun j v hj => ?_⟩
  rw [Nat.zero_add]
  rw [List.getElem?_set] at hj
  split at hj
  · rename_i e
    subst e
    cases hj
    exact set_same (h.cell (List.getElem?_eq_getElem hi))
  · rename_i e
    exact set_other (h.cell hj) (.inr e)
end
theorem snew (w : World) (row : List Value) (ty : TypeId) : SVar (w.alloc (.cells row.toArray ty)) w.heap.size row :=
  ⟨by simp, fun i => World.frozen?_alloc_at _ ty _ i rfl, fun j v hj => by rw [Nat.zero_add, World.cell?_alloc_new]; simpa using hj⟩
/-- A load, a store, an append in a plain region, by their runs. -/
theorem store_run {P : Program} {w w' : World} {ops : Array Oper} {rest : List Oper} {o : Oper} {a : Act} {Q : Exit → Act → World → Prop} {v y : Value} (hgd : o.guard = none) (x z : Operand) (t : TypeId)
    (ho : o.op = .store t x z) (hx : a.eval x = v) (hz : a.eval z = y) (hr : (Instr.storeAt t v y).run P w = .ok () w') (h : wpList P ops Q rest (a.put o.dst undef) w') : wpList P ops Q (o :: rest) a w := by
  refine wpList_plain hgd fun K hK => ?_
  unfold Oper.wp execOp
  simp only [ho, hx, hz, Sem.run_bind, Sem.run_pure, Result.andThen_ok, hr]
  exact hK _ _ h
theorem load_run {P : Program} {w : World} {ops : Array Oper} {rest : List Oper} {o : Oper} {a : Act} {Q : Exit → Act → World → Prop} {v u : Value} (hgd : o.guard = none) (x : Operand) (t : TypeId)
    (ho : o.op = .load t x) (hx : a.eval x = v) (hr : (Instr.loadAt t v).run P w = .ok u w) (h : wpList P ops Q rest (a.put o.dst u) w) : wpList P ops Q (o :: rest) a w := by
  refine wpList_plain hgd fun K hK => ?_
  unfold Oper.wp execOp
  simp only [ho, hx, Sem.run_bind, Sem.run_pure, Result.andThen_ok, hr]
  exact hK _ _ h
theorem append_run {P : Program} {w w' : World} {ops : Array Oper} {rest : List Oper} {o : Oper} {a : Act} {Q : Exit → Act → World → Prop} {v y u : Value} (hgd : o.guard = none) (s x : Operand) (t : TypeId)
    (ho : o.op = .call { callee := .builtin .append, args := #[s, x], argTypes := #[t, t] }) (hs : a.eval s = v) (hx : a.eval x = y)
    (hr : ∀ ty, (Builtin.append_ #[t, t] ty #[v, y]).run P w = .ok u w') (h : wpList P ops Q rest (a.put o.dst u) w') : wpList P ops Q (o :: rest) a w := by
  refine wpList_plain hgd fun K hK => ?_
  unfold Oper.wp execOp
  simp only [ho, resolve, invoke, builtin, Sem.run_bind, Sem.run_pure, Result.andThen_ok, List.map_toArray, List.map_cons, List.map_nil, hs, hx, hr]
  exact hK _ _ h
theorem rangeAt_same {w w1 : World} {g o : Nat} {x : List Value} (h : w.rangeAt g o x) (hb : w1.heap[g]? = w.heap[g]?) : w1.rangeAt g o x := fun j v hj => by
  rw [World.cell?_of_block (w := w) (a := ⟨g, o + j, none⟩) hb]; exact h j v hj
def ints (l : List Int) : List Value := l.map (.int .i64)
theorem ints_get {l : List Int} {i : Nat} {x : Int} (h : l[i]? = some x) : (ints l)[i]? = some (.int .i64 x) := by simp [ints, h]

/-- A row of cells in memory. -/
def RowAt (w : World) (a : Option Addr) (xs : List Value) : Prop := xs = [] ∨ ∃ g o, a = some ⟨g, o, none⟩ ∧ g < w.heap.size ∧ w.rangeAt g o xs
theorem RowAt.later {w w1 : World} {a : Option Addr} {xs : List Value} (h : RowAt w a xs) (hb : Below w.heap.size w w1) : RowAt w1 a xs :=
  h.imp id fun ⟨g, o, e, hg, hr⟩ => ⟨g, o, e, Nat.lt_of_lt_of_le hg hb.size, rangeAt_same hr (hb.block g hg)⟩
theorem RowAt.at_ {w : World} {a : Option Addr} {l : List Int} (h : RowAt w a (ints l)) {i : Nat} {x : Int} (hx : l[i]? = some x) : ∃ g o, a = some ⟨g, o, none⟩ ∧ g < w.heap.size ∧ w.cell? ⟨g, o + i, none⟩ = some (.int .i64 x) := by
  rcases h with e | ⟨g, o, e, hg, hr⟩
  · have : l = [] := by simpa [ints] using e
    rw [this] at hx; simp at hx
  · exact ⟨g, o, e, hg, hr i _ (ints_get hx)⟩
/-- Cells of values that have as many cells each. -/
theorem flat_get {α : Type} (f : α → List Value) (n : Nat) (hf : ∀ x, (f x).length = n) {l : List α} {i : Nat} {x : α} (h : l[i]? = some x) : ∀ j u, (f x)[j]? = some u → (l.flatMap f)[i * n + j]? = some u := by
  induction l generalizing i with
  | nil => simp at h
  | cons y l ih =>
    intro j u hu
    have hj : j < n := by rw [← hf x]; exact (List.getElem?_eq_some_iff.1 hu).1
    cases i with
    | zero =>
      simp only [List.getElem?_cons_zero, Option.some.injEq] at h
      subst h
      rw [List.flatMap_cons, List.getElem?_append_left (by rw [hf]; omega), Nat.zero_mul, Nat.zero_add]
      exact hu
    | succ i =>
      have h2 : l[i]? = some x := by simpa using h
      rw [List.flatMap_cons, List.getElem?_append_right (by rw [hf, Nat.succ_mul]; omega), hf, show (i + 1) * n + j - n = i * n + j by rw [Nat.succ_mul]; omega]
      exact ih h2 j u hu
theorem flat_length {α : Type} (f : α → List Value) (n : Nat) (hf : ∀ x, (f x).length = n) : ∀ l : List α, (l.flatMap f).length = l.length * n
  | [] => by simp
  | x :: l => by rw [List.flatMap_cons, List.length_append, hf, flat_length f n hf l, List.length_cons, Nat.succ_mul, Nat.add_comm]
theorem RowAt.part {α : Type} {f : α → List Value} {n : Nat} (hf : ∀ x, (f x).length = n) (hn : 0 < n) {w : World} {a : Option Addr} {l : List α} (h : RowAt w a (l.flatMap f)) {i : Nat} {x : α} (hx : l[i]? = some x) :
    ∃ g o, a = some ⟨g, o, none⟩ ∧ g < w.heap.size ∧ w.rangeAt g (o + i * n) (f x) := by
  rcases h with e | ⟨g, o, e, hg, hr⟩
  · have h1 := flat_length f n hf l
    rw [e, List.length_nil] at h1
    have h2 := (List.getElem?_eq_some_iff.1 hx).1
    have h3 : 0 < l.length * n := Nat.mul_pos (by omega) hn
    omega
  · exact ⟨g, o, e, hg, fun j u hj => by rw [Nat.add_assoc]; exact hr _ u (flat_get f n hf hx j u hj)⟩

/-- A node, a view of it, and the places of its slices. -/
structure Nd where
  low : ByteArray
  head : Int
  nx : List Int
structure Vw where
  h : Int
  nd : Nd
  links : List Int
  head : Int
  rv : Rm
structure Vs where
  na : Option Addr
  nc : Nat
  la : Option Addr
  lc : Nat
  s : Rs
def Vw.row (v : Vw) (q : Vs) : List Value := [.int .i64 v.h, .string v.nd.low, .int .i64 v.nd.head, .slice q.na v.nd.nx.length q.nc, .slice q.la v.links.length q.lc, .int .i64 v.head, .int .i64 v.rv.ver, .int .i64 v.rv.rate, .string v.rv.sp.lo, .string v.rv.sp.hi, .bool v.rv.sp.all, .bool v.rv.dead, .slice q.s.ka v.rv.l.length q.s.kc, .slice q.s.va v.rv.l.length q.s.vc, .slice q.s.ga v.rv.l.length q.s.gc, .slice q.s.ta v.rv.tab.length q.s.tc]
def Vw.v (v : Vw) (q : Vs) : Value := .agg #[.int .i64 v.h, .string v.nd.low, .int .i64 v.nd.head, .slice q.na v.nd.nx.length q.nc, .slice q.la v.links.length q.lc, .int .i64 v.head, .int .i64 v.rv.ver, .int .i64 v.rv.rate, .string v.rv.sp.lo, .string v.rv.sp.hi, .bool v.rv.sp.all, .bool v.rv.dead, .slice q.s.ka v.rv.l.length q.s.kc, .slice q.s.va v.rv.l.length q.s.vc, .slice q.s.ga v.rv.l.length q.s.gc, .slice q.s.ta v.rv.tab.length q.s.tc]
theorem Vw.row_one (a : Vw) (p : Vs) : ∀ v ∈ a.row p, v.oneCell' = true := by
  intro v hv
  simp only [Vw.row, List.mem_cons, List.not_mem_nil, or_false] at hv
  rcases hv with rfl | rfl | rfl | rfl | rfl | rfl | rfl | rfl | rfl | rfl | rfl | rfl | rfl | rfl | rfl | rfl <;> rfl
def vrows (l : List (Vw × Vs)) : List Value := l.flatMap fun x => x.1.row x.2
/-- What a view's slices hold. -/
structure VAt (w : World) (v : Vw) (q : Vs) : Prop where
  nx : RowAt w q.na (ints v.nd.nx)
  lk : RowAt w q.la (ints v.links)
  rv : RevAt w v.rv q.s
  nf : v.nd.nx.length ≤ 1000000
  lf : v.links.length ≤ 1000000
theorem VAt.later {w w1 : World} {v : Vw} {q : Vs} (h : VAt w v q) (hb : Below w.heap.size w w1) : VAt w1 v q := ⟨h.nx.later hb, h.lk.later hb, h.rv.below hb, h.nf, h.lf⟩
/-- A row of views in memory. -/
structure VRow (w : World) (a : Option Addr) (l : List (Vw × Vs)) : Prop where
  row : RowAt w a (vrows l)
  lk : ∀ x, x ∈ l → VAt w x.1 x.2
  few : l.length ≤ 200000
theorem VRow.later {w w1 : World} {a : Option Addr} {l : List (Vw × Vs)} (h : VRow w a l) (hb : Below w.heap.size w w1) : VRow w1 a l :=
  ⟨h.row.later hb, fun x hx => (h.lk x hx).later hb, h.few⟩
theorem VRow.at_ {w : World} {a : Option Addr} {l : List (Vw × Vs)} (h : VRow w a l) {i : Nat} {x : Vw × Vs} (hx : l[i]? = some x) : ∃ g o, a = some ⟨g, o, none⟩ ∧ g < w.heap.size ∧ w.rangeAt g (o + i * 16) (x.1.row x.2) :=
  RowAt.part (f := fun x : Vw × Vs => x.1.row x.2) (n := 16) (fun _ => rfl) (by decide) h.row hx
theorem at_25 (g o n cp k : Nat) (h : k < n) (w : World) : (Instr.indexAt 25 (.slice (some ⟨g, o, none⟩) n cp) (.int .i64 (k : Int))).run Try.prog w = .ok (.pointer (some ⟨g, o + k * 16, none⟩)) w := by
  have h1 : (k : Int) < (n : Int) := by omega
  go_simp
theorem empty_any (s : Sp) (w : World) : Calls Try.prog 60 #[s.v] w fun e w' => e = .returned (.bool s.empty) ∧ Below w.heap.size w w' := by
  have HE := Lib.hid (empty_has s)
  have hh := has_any s s.lo (w.alloc (.cells #[.string s.lo, .string s.hi, .bool s.all] 46))
  have HB := Lib.hid ((Below.refl w.heap.size w).alloc (Nat.le_refl _) (.cells #[.string s.lo, .string s.hi, .bool s.all] 46))
  obtain ⟨lo, hi, all⟩ := s
  simp only [Sp.v] at *
  go_enter Try.func60, Try.ntmps60
  go_wp2_with fail
  refine hh.mono ?_
  rintro e w1 ⟨rfl, hb⟩
  have HB2 := Lib.hid (HB.out.trans (hb.mono HB.out.size))
  clear hh hb HB
  go_wp2
  go_ret
  exact ⟨ret_bool HE.out, HB2.out⟩
/-- Whom a row has to lead to. -/
def toF (lv : Int) : List (Vw × Vs) → Int
  | [] => 0
  | x :: l => if lv < (x.1.links.length : Int) then x.1.h else toF lv l
def toV (l : List (Vw × Vs)) (i lv : Int) : Int := if i < 0 ∨ (l.length : Int) ≤ i ∨ lv < 0 then 0 else toF lv (l.drop (i.toNat + 1))
theorem toF_at (lv : Int) : ∀ (l : List (Vw × Vs)) (j : Nat), (∀ k x, k < j → l[k]? = some x → ¬ lv < (x.1.links.length : Int)) → (∀ x, l[j]? = some x → lv < (x.1.links.length : Int) → toF lv l = x.1.h) ∧ (l.length ≤ j → toF lv l = 0)
  | [], j, _ => ⟨fun x hx => by simp at hx, fun _ => rfl⟩
  | y :: l, 0, _ => ⟨fun x hx hv => by
      simp at hx
      subst hx
      rw [toF, if_pos hv], fun h => by simp at h⟩
  | y :: l, j + 1, h => by
    have h0 := h 0 y (by omega) rfl
    obtain ⟨h1, h2⟩ := toF_at lv l j fun k x hk hx => h (k + 1) x (by omega) (by simpa using hx)
    exact ⟨fun x hx hv => by rw [toF, if_neg h0]; exact h1 x (by simpa using hx) hv, fun hl => by rw [toF, if_neg h0]; exact h2 (by simpa using hl)⟩
set_option maxHeartbeats 2000000 in
theorem toV_any (w : World) (a : Option Addr) (cap : Nat) (l : List (Vw × Vs)) (h : VRow w a l) (hcap : l.length ≤ cap) (i lv : Int) :
    Calls Try.prog 61 #[.slice a l.length cap, .int .i64 i, .int .i64 lv] w fun e w' => e = .returned (.int .i64 (toV l i lv)) ∧ Below w.heap.size w w' := by
  have few := h.few
  by_cases h1 : i < 0
  · have e : toV l i lv = 0 := if_pos (.inl h1)
    rw [e]
    clear h
    go_enter Try.func61, Try.ntmps61
    go_wp2
    go_ret
    exact ⟨rfl, Below.refl _ _⟩
  by_cases h2 : (l.length : Int) ≤ i
  · have e : toV l i lv = 0 := if_pos (.inr (.inl h2))
    rw [e]
    clear h
    go_enter Try.func61, Try.ntmps61
    go_wp2
    go_ret
    exact ⟨rfl, Below.refl _ _⟩
  by_cases h3 : lv < 0
  · have e : toV l i lv = 0 := if_pos (.inr (.inr h3))
    rw [e]
    clear h
    go_enter Try.func61, Try.ntmps61
    go_wp2
    go_ret
    exact ⟨rfl, Below.refl _ _⟩
  have e : toV l i lv = toF lv (l.drop (i.toNat + 1)) := if_neg (by omega)
  rw [e]
  clear e
  obtain ⟨n, hn⟩ : ∃ n, n = l.length := ⟨_, rfl⟩
  obtain ⟨i', rfl⟩ : ∃ i' : Nat, i = (i' : Int) := ⟨i.toNat, by omega⟩
  rw [← hn] at few hcap h2 ⊢
  rw [Int.toNat_natCast]
  obtain ⟨g, o, ea, hg, hr⟩ : ∃ g o, a = some ⟨g, o, none⟩ ∧ g < w.heap.size ∧ w.rangeAt g o (vrows l) := by
    rcases h.row with e | h
    · have h5 := flat_length (fun x : Vw × Vs => x.1.row x.2) 16 (fun _ => rfl) l
      rw [show l.flatMap (fun x : Vw × Vs => x.1.row x.2) = [] from e] at h5
      rw [List.length_nil] at h5
      omega
    · exact h
  subst ea
  have HV := Lib.hid h
  have HN := Lib.hid hn
  obtain ⟨D, hD⟩ : ∃ D, D = l.drop (i' + 1) := ⟨_, rfl⟩
  rw [← hD]
  have hdl : D.length = n - (i' + 1) := by rw [hD, List.length_drop, hn]
  have HD := Lib.hid (⟨hD, hdl⟩ : _ ∧ _)
  clear h hn hr hD hdl
  go_enter Try.func61, Try.ntmps61
  go_wp2_with fail
  · obtain ⟨d, hd⟩ : ∃ d, d = n - (i' + 1) := ⟨_, rfl⟩
    have hd0 : d = 0 := by omega
    have HE : Hid (toF lv D = 0) := by
      have : D = [] := List.length_eq_zero_iff.1 (by rw [HD.out.2]; omega)
      rw [this]; rfl
    rw [← hd, hd0]
    clear hd hd0
    go_loopw [26] (fun iv wr => iv = .int .i64 0 ∧ wr = w) (fun _ _ => 0)
    case atStart => exact ⟨rfl, rfl⟩
    case round =>
      obtain ⟨rfl, rfl⟩ := hrel
      go_wp2
      go_ret
      exact ⟨by rw [HE.out]; rfl, Below.refl _ _⟩
  · obtain ⟨d, hd⟩ : ∃ d, d = n - (i' + 1) := ⟨_, rfl⟩
    have HDd : Hid (D.length = d) := by rw [hd]; exact HD.out.2
    have hdn : d ≤ 200000 := by omega
    rw [← hd]
    obtain ⟨o2, ho2⟩ : ∃ o2, o2 = o + (i' + 1) * 16 := ⟨_, rfl⟩
    have HO := Lib.hid ho2
    rw [← ho2]
    clear hd ho2
    go_loopw [26] (fun iv wr => ∃ j : Nat, iv = .int .i64 (j : Int) ∧ j ≤ d ∧ Hid (Below w.heap.size w wr ∧ ∀ k x, k < j → D[k]? = some x → ¬ lv < (x.1.links.length : Int))) (fun iv _ => d - (intOf iv).toNat)
    case atStart => exact ⟨0, rfl, Nat.zero_le _, Below.refl _ _, fun k x hk => absurd hk (Nat.not_lt_zero _)⟩
    case round =>
      obtain ⟨j, rfl, hj, HX⟩ := hrel
      have hp := toF_at lv D j HX.out.2
      by_cases hlt : j < d
      · have hlt2 : (j : Int) < (d : Int) := by omega
        obtain ⟨x, hx⟩ : ∃ x, D[j]? = some x := ⟨_, List.getElem?_eq_getElem (by rw [HDd.out]; exact hlt)⟩
        have hlx : l[i' + 1 + j]? = some x := by rw [← hx, HD.out.1, List.getElem?_drop]
        obtain ⟨g', o', e', hg', hr'⟩ := (HV.out.later HX.out.1).at_ hlx
        cases e'
        rw [show o + (i' + 1 + j) * 16 = o2 + j * 16 by rw [HO.out]; omega] at hr'
        have hld := load_mid hr' sh52
        have hlk := ((HV.out.lk x (List.mem_of_getElem? hlx)))
        have hlf : (x.1.links.length : Int) ≤ 1000000 := Int.ofNat_le.mpr hlk.lf
        simp only [Vw.row] at hld
        have HB2 := Lib.hid HX.out.1
        by_cases hv : lv < (x.1.links.length : Int)
        · have HE := Lib.hid (hp.1 x hx hv)
          clear hp HX hlx hg' hr' hlk hx
          go_wp2_with (first | ((with_reducible refine load_run ?_ (.tmp 28) 52 ?_ ?_ hld ?_); exact rfl; exact rfl; exact rfl) | fail)
          go_ret
          exact ⟨by rw [HE.out]; rfl, HB2.out.trans ((Below.refl _ _).alloc HB2.out.size _)⟩
        · have HX2 : Hid (∀ k x, k < j + 1 → D[k]? = some x → ¬ lv < (x.1.links.length : Int)) := fun k y hk hy => by
            by_cases e : k = j
            · subst e
              rw [hx] at hy
              cases hy
              exact hv
            · exact HX.out.2 k y (by omega) hy
          clear hp HX hlx hg' hr' hlk hx
          go_wp2_with (first | ((with_reducible refine load_run ?_ (.tmp 28) 52 ?_ ?_ hld ?_); exact rfl; exact rfl; exact rfl) | fail)
          exact ⟨⟨j + 1, rfl, by omega, HB2.out.trans ((Below.refl _ _).alloc HB2.out.size _), HX2.out⟩, by simp only [intOf]; omega⟩
      · have hlt2 : ¬ (j : Int) < (d : Int) := by omega
        have HE := Lib.hid (hp.2 (by rw [HDd.out]; omega))
        have HB2 := Lib.hid HX.out.1
        clear hp HX
        go_wp2_with fail
        go_ret
        exact ⟨by rw [HE.out]; rfl, HB2.out⟩
def spansB (v : Vw) (last : Bool) : Bool := !v.rv.dead && (!v.rv.sp.empty && (v.rv.sp.lo.toList == v.nd.low.toList && v.rv.sp.all == last))
set_option maxHeartbeats 2000000 in
theorem spans_any (v : Vw) (q : Vs) (last : Bool) (w : World) : Calls Try.prog 47 #[v.v q, .bool last] w fun e w' => e = .returned (.bool (spansB v last)) ∧ Below w.heap.size w w' := by
  obtain ⟨wa, hwa⟩ : ∃ W, W = w.alloc (.cells (v.row q).toArray 52) := ⟨_, rfl⟩
  have sv : SVar wa w.heap.size (v.row q) := by rw [hwa]; exact snew _ _ _
  have hba : Below w.heap.size w wa := by rw [hwa]; exact (Below.refl _ _).alloc (Nat.le_refl _) _
  have hsz : wa.heap.size = w.heap.size + 1 := by rw [hwa]; simp
  have hbb : Below wa.heap.size wa (wa.alloc (.cells #[.string v.rv.sp.lo, .string v.rv.sp.hi, .bool v.rv.sp.all] 46)) := (Below.refl _ _).alloc (Nat.le_refl _) _
  have sb := sv.later hbb
  have hem := empty_any v.rv.sp (wa.alloc (.cells #[.string v.rv.sp.lo, .string v.rv.sp.hi, .bool v.rv.sp.all] 46))
  have HB := Lib.hid (⟨hba, hbb, hsz⟩ : _ ∧ _ ∧ _)
  have HW := Lib.hid hwa.symm
  have s1 : SVar (wa.alloc (.cells #[.string v.rv.sp.lo, .string v.rv.sp.hi, .bool v.rv.sp.all] 46)) wa.heap.size [.string v.rv.sp.lo, .string v.rv.sp.hi, .bool v.rv.sp.all] := snew _ _ _
  have c11 := sb.cell (i := 11) rfl
  have c8 := sv.cell (i := 8) rfl
  have c9 := sv.cell (i := 9) rfl
  have c10 := sv.cell (i := 10) rfl
  have c1 := sb.cell (i := 1) rfl
  have HS := Lib.hid (⟨sb, s1⟩ : _ ∧ _)
  unfold Vw.v
  simp only [Vw.row] at HW c11 c8 c9 c10 c1
  clear hwa sv hba hsz hbb sb s1
  have hfin : ∀ W, Below (wa.alloc (.cells #[.string v.rv.sp.lo, .string v.rv.sp.hi, .bool v.rv.sp.all] 46)).heap.size (wa.alloc (.cells #[.string v.rv.sp.lo, .string v.rv.sp.hi, .bool v.rv.sp.all] 46)) W → Below w.heap.size w W := fun W hW => by
    obtain ⟨h1, h2, h3⟩ := HB.out
    exact (h1.trans (h2.mono (by omega))).trans (hW.mono (by have := h2.size; omega))
  have HF := Lib.hid hfin
  clear hfin
  cases hd : v.rv.dead with
  | true =>
    have e : spansB v last = false := by simp [spansB, hd]
    rw [e]
    rw [hd] at c11
    clear e hem
    simp only [hd] at HW
    go_enter Try.func47, Try.ntmps47
    go_wp2_with (first | rw [HW.out] | fail)
    go_ret
    exact ⟨rfl, HF.out _ (Below.refl _ _)⟩
  | false =>
    rw [hd] at c11
    cases he : v.rv.sp.empty with
    | true =>
      have e : spansB v last = false := by simp [spansB, he]
      rw [he] at hem
      rw [e]
      clear e c1
      simp only [hd] at HW
      go_enter Try.func47, Try.ntmps47
      go_wp2_with (first | rw [HW.out] | fail)
      refine hem.mono ?_
      rintro e w2 ⟨rfl, hb⟩
      have HB2 := Lib.hid (HF.out _ hb)
      clear hb hem HF
      go_wp2
      go_ret
      exact ⟨rfl, HB2.out⟩
    | false =>
      have e : spansB v last = (v.rv.sp.lo.toList == v.nd.low.toList && v.rv.sp.all == last) := by simp [spansB, hd, he]
      rw [he] at hem
      rw [e]
      have HS2 := Lib.hid (fun W (hW : Below (wa.alloc (.cells #[.string v.rv.sp.lo, .string v.rv.sp.hi, .bool v.rv.sp.all] 46)).heap.size (wa.alloc (.cells #[.string v.rv.sp.lo, .string v.rv.sp.hi, .bool v.rv.sp.all] 46)) W) => (⟨HS.out.1.later hW, HS.out.2.later hW⟩ : _ ∧ _))
      clear e HS c1
      simp only [hd] at HW
      go_enter Try.func47, Try.ntmps47
      go_wp2_with (first | rw [HW.out] | fail)
      refine hem.mono ?_
      rintro e w2 ⟨rfl, hb⟩
      have HB2 := Lib.hid (HF.out _ hb)
      have d0 := (HS2.out _ hb).2.cell (i := 0) rfl
      have d2 := (HS2.out _ hb).2.cell (i := 2) rfl
      have d1 := (HS2.out _ hb).1.cell (i := 1) rfl
      clear hb hem HF HS2 c8 c9 c10 c11
      cases hq : (v.rv.sp.lo.toList == v.nd.low.toList) with
      | false =>
        go_wp2
        go_ret
        exact ⟨by rw [hq]; rfl, HB2.out⟩
      | true =>
        cases last
        all_goals
          go_wp2
          go_ret
          exact ⟨by rw [hq]; cases v.rv.sp.all <;> rfl, HB2.out⟩
/-- A call that answers whether something holds. -/
def IsB (e : Ending) (P : Prop) : Prop := ∃ r : Bool, e = .returned (.bool r) ∧ (r = true ↔ P)
theorem isB {P : Prop} {v : Value} (r : Bool) (hv : v = .bool r) (h : r = true ↔ P) : IsB (.returned v) P := ⟨r, by rw [hv], h⟩
def leadsP (l : List (Vw × Vs)) (i : Nat) : Prop := ∃ x0 x, l[0]? = some x0 ∧ l[i]? = some x ∧ x.1.links ≠ [] ∧ x.1.links.length ≤ x0.1.links.length ∧ ∀ (k : Nat) (y : Int), x.1.links[k]? = some y → tto y = toV l (i : Int) (k : Int)
set_option maxHeartbeats 2000000 in
theorem leads_any (w : World) (a : Option Addr) (cap : Nat) (l : List (Vw × Vs)) (h : VRow w a l) (hcap : l.length ≤ cap) (i : Nat) (hi : i < l.length) :
    Calls Try.prog 48 #[.slice a l.length cap, .int .i64 (i : Int)] w fun e w' => IsB e (leadsP l i) ∧ Below w.heap.size w w' := by
  obtain ⟨x, hx⟩ : ∃ x, l[i]? = some x := ⟨_, List.getElem?_eq_getElem hi⟩
  obtain ⟨x0, hx0⟩ : ∃ x0, l[0]? = some x0 := ⟨_, List.getElem?_eq_getElem (by omega)⟩
  obtain ⟨g, o, ea, hg, hr⟩ := h.at_ hx
  obtain ⟨g', o', ea', -, hr0⟩ := h.at_ hx0
  rw [ea] at ea'
  cases ea'
  subst ea
  have hlk := h.lk x (List.mem_of_getElem? hx)
  have hlk0 := h.lk x0 (List.mem_of_getElem? hx0)
  obtain ⟨L, hL⟩ : ∃ L, L = x.1.links := ⟨_, rfl⟩
  have hp : leadsP l i ↔ L ≠ [] ∧ L.length ≤ x0.1.links.length ∧ ∀ (k : Nat) (y : Int), L[k]? = some y → tto y = toV l (i : Int) (k : Int) := by
    constructor
    · rintro ⟨x0', x', e1, e2, h1, h2, h3⟩
      rw [hx0] at e1; rw [hx] at e2; cases e1; cases e2
      rw [hL]; exact ⟨h1, h2, h3⟩
    · rintro ⟨h1, h2, h3⟩
      rw [hL] at h1 h2 h3
      exact ⟨x0, x, hx0, hx, h1, h2, h3⟩
  have cL := hr 4 _ rfl
  have c0 := hr0 4 _ rfl
  have few := h.few
  obtain ⟨n, hn⟩ : ∃ n, n = l.length := ⟨_, rfl⟩
  have hin : (i : Int) < (n : Int) := by omega
  have hn0 : (0 : Int) < (n : Int) := by omega
  have hsl := hlk.lk
  have hLf := hlk.lf
  have hL0f := hlk0.lf
  rw [← hL] at cL hsl hLf
  obtain ⟨k0, hk0⟩ : ∃ k0, k0 = x0.1.links.length := ⟨_, rfl⟩
  obtain ⟨k, hk⟩ : ∃ k, k = L.length := ⟨_, rfl⟩
  have HV := Lib.hid h
  have HP := Lib.hid hp
  have HN := Lib.hid (⟨hn, hk, hcap, hk0⟩ : _ ∧ _ ∧ _ ∧ _)
  have HSl := Lib.hid hsl
  rw [Nat.zero_mul, Nat.add_zero] at c0
  rw [← hk] at cL hLf
  rw [← hk0] at c0 hL0f
  rw [← hn] at few ⊢
  clear h hcap hi hx hx0 hr hr0 hlk hlk0 hL hp hn hsl hk hk0
  go_enter Try.func48, Try.ntmps48
  by_cases hz : k = 0
  · subst hz
    have HE : Hid (¬ leadsP l i) := fun e => (HP.out.1 e).1 (List.length_eq_zero_iff.1 HN.out.2.1.symm)
    go_wp2
    go_ret
    exact ⟨isB false rfl ⟨fun e => (by cases e), fun e => absurd e HE.out⟩, Below.refl _ _⟩
  have hz1 : ((k : Int) == 0) = false := by rw [beq_eq_false_iff_ne]; omega
  by_cases hgt : k0 < k
  · have HE : Hid (¬ leadsP l i) := fun e => by
      have h1 := (HP.out.1 e).2.1
      have h2 := HN.out
      omega
    have hgt2 : (k0 : Int) < (k : Int) := by omega
    clear hz
    go_wp2
    go_ret
    exact ⟨isB false rfl ⟨fun e => (by cases e), fun e => absurd e HE.out⟩, Below.refl _ _⟩
  have hgt2 : ¬ (k0 : Int) < (k : Int) := by omega
  have hgt3 : decide (k0 < k) = false := decide_eq_false hgt
  obtain ⟨g2, o2, ea2, hg2, hr2⟩ : ∃ g2 o2, x.2.la = some ⟨g2, o2, none⟩ ∧ g2 < w.heap.size ∧ w.rangeAt g2 o2 (ints L) := by
    rcases HSl.out with e | h
    · have e2 : L = [] := by simpa [ints] using e
      exact absurd (by rw [HN.out.2.1, e2]; rfl) hz
    · exact h
  rw [ea2] at cL
  have HR2 := Lib.hid (⟨hg2, hr2⟩ : _ ∧ _)
  have HK : Hid (k ≤ k0 ∧ k ≠ 0) := ⟨by omega, hz⟩
  clear hg2 hr2 hz
  go_wp2
  clear hz1 hgt2 hgt3 hgt cL c0 hn0
  go_loopw [28] (fun iv wr => ∃ j : Nat, iv = .int .i64 (j : Int) ∧ j ≤ k ∧ Hid (Below w.heap.size w wr ∧ ∀ (j' : Nat) (y : Int), j' < j → L[j']? = some y → tto y = toV l (i : Int) (j' : Int))) (fun iv _ => k - (intOf iv).toNat)
  case atStart => exact ⟨0, rfl, Nat.zero_le _, Below.refl _ _, fun j' y hj => absurd hj (Nat.not_lt_zero _)⟩
  case round =>
    obtain ⟨j, rfl, hj, HX⟩ := hrel
    by_cases hlt : j < k
    · have hlt2 : (j : Int) < (k : Int) := by omega
      obtain ⟨y, hy⟩ : ∃ y, L[j]? = some y := ⟨_, List.getElem?_eq_getElem (by rw [← HN.out.2.1]; exact hlt)⟩
      have cy : wr.cell? ⟨g2, o2 + j, none⟩ = some (.int .i64 y) := by
        rw [HX.out.1.cell (p := ⟨g2, o2 + j, none⟩) HR2.out.1]
        exact HR2.out.2 j _ (ints_get hy)
      have htt := fun w => tto_any y w
      have htv := toV_any wr (some ⟨g, o, none⟩) cap l (HV.out.later HX.out.1) HN.out.2.2.1 (i : Int) (j : Int)
      rw [← HN.out.1] at htv
      have HB2 := Lib.hid HX.out.1
      have HY := Lib.hid hy
      clear hy
      go_wp2_with fail
      refine (htt _).mono ?_
      rintro e w2 ⟨rfl, rfl⟩
      go_wp2_with fail
      refine htv.mono ?_
      rintro e w3 ⟨rfl, hb⟩
      have HB3 := Lib.hid (HB2.out.trans (hb.mono HB2.out.size))
      by_cases he : tto y = toV l (i : Int) (j : Int)
      · have HX2 : Hid (∀ (j' : Nat) (y : Int), j' < j + 1 → L[j']? = some y → tto y = toV l (i : Int) (j' : Int)) := fun j' z hj' hz => by
          by_cases e : j' = j
          · subst e
            rw [HY.out] at hz
            cases hz
            exact he
          · exact HX.out.2 j' z (by omega) hz
        rw [he]
        clear htt htv hb he HX cy
        generalize toV l (i : Int) (j : Int) = tv
        go_wp2_with fail
        go_roundw
        case rel => exact ⟨j + 1, by simp, by omega, HB3.out, HX2.out⟩
        case measure => simp [intOf]; omega
      · have HE : Hid (¬ leadsP l i) := fun e => he ((HP.out.1 e).2.2 j y HY.out)
        clear htt htv hb HX cy
        generalize toV l (i : Int) (j : Int) = tv at he ⊢
        generalize tto y = ty at he ⊢
        go_wp2_with fail
        go_ret
        exact ⟨isB false rfl ⟨fun e => (by cases e), fun e => absurd e HE.out⟩, HB3.out⟩
    · have hlt2 : ¬ (j : Int) < (k : Int) := by omega
      have HE : Hid (leadsP l i) := HP.out.2 ⟨fun e => by
        have h1 := HN.out.2.1
        rw [e] at h1
        exact HK.out.2 h1, by have h1 := HN.out.2.1; have h2 := HN.out.2.2.2; have h3 := HK.out.1; rw [← h1, ← h2]; exact h3, fun j' y hy => HX.out.2 j' y (by
          have h1 := (List.getElem?_eq_some_iff.1 hy).1
          have h2 := HN.out.2.1
          omega) hy⟩
      have HB2 := Lib.hid HX.out.1
      clear HX
      go_wp2_with fail
      go_ret
      exact ⟨isB true rfl ⟨fun _ => HE.out, fun _ => rfl⟩, HB2.out⟩
/-- Where the node at a place of a row has to begin. -/
def lowAt (l : List (Vw × Vs)) : Nat → ByteArray
  | 0 => ⟨#[]⟩
  | i + 1 => match l[i]? with
    | some x => x.1.rv.sp.hi
    | none => ⟨#[]⟩
def okV (l : List (Vw × Vs)) (i : Nat) (x : Vw × Vs) : Prop := (x.1.nd.low.toList == (lowAt l i).toList) = true ∧ spansB x.1 (decide (i + 1 = l.length)) = true ∧ leadsP l i
def RightP (l : List (Vw × Vs)) : Prop := l ≠ [] ∧ ∀ (i : Nat) (x : Vw × Vs), l[i]? = some x → okV l i x
set_option maxHeartbeats 2000000 in
theorem rightV_any (w : World) (a : Option Addr) (cap : Nat) (l : List (Vw × Vs)) (h : VRow w a l) (hcap : l.length ≤ cap) :
    Calls Try.prog 33 #[.slice a l.length cap] w fun e w' => IsB e (RightP l) ∧ Below w.heap.size w w' := by
  have few := h.few
  obtain ⟨n, hn⟩ : ∃ n, n = l.length := ⟨_, rfl⟩
  have HV := Lib.hid h
  have HN := Lib.hid (⟨hn, hcap⟩ : _ ∧ _)
  rw [← hn] at few ⊢
  clear h hcap hn
  go_enter Try.func33, Try.ntmps33
  go_wp2_with fail
  go_loopw [3, 8] (fun lv iv wr => ∃ j : Nat, iv = .int .i64 (j : Int) ∧ lv = .string (lowAt l j) ∧ j ≤ n ∧ Hid (Below w.heap.size w wr ∧ ∀ (i : Nat) (x : Vw × Vs), i < j → l[i]? = some x → okV l i x)) (fun _ iv _ => n - (intOf iv).toNat)
  case atStart => exact ⟨0, rfl, rfl, Nat.zero_le _, Below.refl _ _, fun i x hi => absurd hi (Nat.not_lt_zero _)⟩
  case round =>
    obtain ⟨j, rfl, rfl, hj, HX⟩ := hrel
    by_cases hlt : j < n
    · have hlt2 : (j : Int) < (n : Int) := by omega
      obtain ⟨x, hx⟩ : ∃ x, l[j]? = some x := ⟨_, List.getElem?_eq_getElem (by rw [← HN.out.1]; exact hlt)⟩
      obtain ⟨g, o, ea, hg, hr⟩ := (HV.out.later HX.out.1).at_ hx
      have hld := load_mid hr sh52
      obtain ⟨w2, hw2⟩ : ∃ W, W = wr.alloc (.cells (x.1.row x.2).toArray 52) := ⟨_, rfl⟩
      have hb2 : Below wr.heap.size wr w2 := by rw [hw2]; exact (Below.refl _ _).alloc (Nat.le_refl _) _
      have sx : SVar w2 wr.heap.size (x.1.row x.2) := by rw [hw2]; exact snew _ _ _
      have c1 := sx.cell (i := 1) rfl
      obtain ⟨last, hlast⟩ : ∃ last, last = decide (j + 1 = n) := ⟨_, rfl⟩
      have hsp := spans_any x.1 x.2 last w2
      have HBw : Hid (Below w.heap.size w w2) := HX.out.1.trans (hb2.mono HX.out.1.size)
      have hat : ∀ W, (Instr.indexAt 25 (.slice a n cap) (.int .i64 (j : Int))).run Try.prog W = .ok (.pointer (some ⟨g, o + j * 16, none⟩)) W := fun W => by rw [ea]; exact at_25 g o n cap j hlt W
      have HW := Lib.hid hw2.symm
      have hlq : ((j : Int) == (n : Int) - 1) = last := by
        rw [hlast]
        by_cases e : j + 1 = n
        · rw [decide_eq_true e, beq_iff_eq]; omega
        · rw [decide_eq_false e, beq_eq_false_iff_ne]; omega
      have HS := Lib.hid sx
      have HL := Lib.hid hlast
      have HXx := Lib.hid hx
      unfold Vw.v at hsp
      simp only [Vw.row] at hld HW
      clear ea hg hr hw2 hb2 sx hlast hx
      cases hlo : (x.1.nd.low.toList == (lowAt l j).toList) with
      | false =>
        have HE : Hid (¬ RightP l) := fun e => by
          have := (e.2 j x HXx.out).1
          rw [hlo] at this
          cases this
        clear hsp hlq HX HS
        go_wp2_with (first | rw [HW.out] | ((with_reducible refine load_run ?_ (.tmp 11) 52 ?_ ?_ hld ?_); exact rfl; exact rfl; exact rfl) | fail)
        go_ret
        exact ⟨isB false rfl ⟨fun e => (by cases e), fun e => absurd e HE.out⟩, HBw.out⟩
      | true =>
        have e0 := HS.out.cell (i := 0) rfl
        have e2 := HS.out.cell (i := 2) rfl
        have e3 := HS.out.cell (i := 3) rfl
        have e4 := HS.out.cell (i := 4) rfl
        have e5 := HS.out.cell (i := 5) rfl
        have e6 := HS.out.cell (i := 6) rfl
        have e7 := HS.out.cell (i := 7) rfl
        have e8 := HS.out.cell (i := 8) rfl
        have e9 := HS.out.cell (i := 9) rfl
        have e10 := HS.out.cell (i := 10) rfl
        have e11 := HS.out.cell (i := 11) rfl
        have e12 := HS.out.cell (i := 12) rfl
        have e13 := HS.out.cell (i := 13) rfl
        have e14 := HS.out.cell (i := 14) rfl
        have e15 := HS.out.cell (i := 15) rfl
        go_wp2_with (first | rw [HW.out] | ((with_reducible refine load_run ?_ (.tmp 11) 52 ?_ ?_ hld ?_); exact rfl; exact rfl; exact rfl) | fail)
        clear e0 e2 e3 e4 e5 e6 e7 e8 e9 e10 e11 e12 e13 e14 e15
        refine hsp.mono ?_
        rintro e w3 ⟨rfl, hb3⟩
        have HB3 : Hid (Below w.heap.size w w3) := HBw.out.trans (hb3.mono HBw.out.size)
        cases hsb : spansB x.1 last with
        | false =>
          have HE : Hid (¬ RightP l) := fun e => by
            have := (e.2 j x HXx.out).2.1
            rw [← HN.out.1, ← HL.out, hsb] at this
            cases this
          clear hsp hld hlq HX HS hb3 hat
          go_wp2
          go_ret
          exact ⟨isB false rfl ⟨fun e => (by cases e), fun e => absurd e HE.out⟩, HB3.out⟩
        | true =>
          have hle := leads_any w3 a cap l (HV.out.later HB3.out) HN.out.2 j (by rw [← HN.out.1]; exact hlt)
          rw [← HN.out.1] at hle
          clear hsp hld hlq hat c1
          go_wp2_with fail
          refine hle.mono ?_
          rintro e w4 ⟨⟨rr, rfl, hrr⟩, hb4⟩
          have HB4 : Hid (Below w.heap.size w w4) := HB3.out.trans (hb4.mono HB3.out.size)
          cases rr with
          | false =>
            have HE : Hid (¬ RightP l) := fun e => by
              have := hrr.2 (e.2 j x HXx.out).2.2
              cases this
            clear hle HX HS hb3 hb4 hrr
            go_wp2
            go_ret
            exact ⟨isB false rfl ⟨fun e => (by cases e), fun e => absurd e HE.out⟩, HB4.out⟩
          | true =>
            have HX2 : Hid (∀ (i : Nat) (x : Vw × Vs), i < j + 1 → l[i]? = some x → okV l i x) := fun i z hi hz => by
              by_cases e : i = j
              · subst e
                rw [HXx.out] at hz
                cases hz
                exact ⟨hlo, by rw [← HN.out.1, ← HL.out]; exact hsb, hrr.1 rfl⟩
              · exact HX.out.2 i z (by omega) hz
            have c9 := ((HS.out.later hb3).later hb4).cell (i := 9) rfl
            have hnx : lowAt l (j + 1) = x.1.rv.sp.hi := by show (match l[j]? with | some x => x.1.rv.sp.hi | none => _) = _; rw [HXx.out]
            have HNx := Lib.hid hnx
            clear hle HX HS hb3 hb4 hrr hnx
            go_wp2_with fail
            exact ⟨⟨j + 1, by simp, by rw [HNx.out], by omega, HB4.out, HX2.out⟩, by simp only [intOf]; omega⟩
    · have hlt2 : ¬ (j : Int) < (n : Int) := by omega
      have hjn : j = n := by omega
      have HB2 := Lib.hid HX.out.1
      have HE : Hid ((decide (0 < n)) = true ↔ RightP l) := by
        show _ ↔ _
        rw [decide_eq_true_eq]
        constructor
        · intro h0
          exact ⟨fun e => by have := HN.out.1; rw [e] at this; simp at this; omega, fun i x hx => HX.out.2 i x (by
            have h1 := (List.getElem?_eq_some_iff.1 hx).1
            have h2 := HN.out.1
            omega) hx⟩
        · intro h0
          have h1 : l.length ≠ 0 := fun e => h0.1 (List.length_eq_zero_iff.1 e)
          have h2 := HN.out.1
          omega
      clear HX
      go_wp2_with fail
      go_ret
      exact ⟨isB (decide (0 < n)) rfl HE.out, HB2.out⟩
end Go.Proofs.Ytjlifkhpohfiaaa
