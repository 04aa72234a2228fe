/- Entries and revisions in memory: what stands where, and that it stays so beside new blocks. No condition. -/
import Derived.Test.YtjlifkhpohfiaaaKWalkE
import Derived.Test.YtjlifkhpohfiaaaPWalkF
import Derived.Laws.AppendOwnNone
namespace Go.Proofs.Ytjlifkhpohfiaaa
open Go.RowKit Go.Op
set_option maxRecDepth 100000

structure En where
  key : ByteArray
  val : ByteArray
  gone : Bool
def En.v (e : En) : Value := .agg #[.string e.key, .string e.val, .bool e.gone]
def En.cells (e : En) : List Value := [.string e.key, .string e.val, .bool e.gone]
def enRow (l : List En) : List Value := l.flatMap En.cells
theorem enRow_length : ∀ l : List En, (enRow l).length = l.length * 3
  | [] => rfl
  | e :: l => by
    have := enRow_length l
    simp only [enRow, List.flatMap_cons, List.length_append, List.length_cons, En.cells, List.length_nil] at *
    omega
theorem enRow_append (l m : List En) : enRow (l ++ m) = enRow l ++ enRow m := by simp [enRow]
theorem enRow_cons (e : En) (l : List En) : enRow (e :: l) = e.cells ++ enRow l := by simp [enRow]
theorem enRow_get : ∀ (l : List En) (k : Nat) (hk : k < l.length), (enRow l)[k * 3]? = some (.string (l[k]'hk).key) ∧ (enRow l)[k * 3 + 1]? = some (.string (l[k]'hk).val) ∧ (enRow l)[k * 3 + 2]? = some (.bool (l[k]'hk).gone)
  | [], _, hk => by simp at hk
  | e :: l, 0, _ => by rw [enRow_cons]; exact ⟨rfl, rfl, rfl⟩
  | e :: l, k + 1, hk => by
    have := enRow_get l k (by simpa using hk)
    rw [enRow_cons, show (k + 1) * 3 = k * 3 + 3 by omega]
    simp only [En.cells, List.cons_append, List.nil_append, List.getElem?_cons_succ, List.getElem_cons_succ]
    exact this
theorem en_one {l : List En} : ∀ u ∈ enRow l, u.oneCell' = true := by
  intro u hu
  simp only [enRow, List.mem_flatMap, En.cells] at hu
  obtain ⟨e, _, he⟩ := hu
  simp at he
  rcases he with rfl | rfl | rfl <;> rfl

/-- Where an entry lies in memory. -/
def EnAt (w : World) (b o : Nat) (e : En) : Prop := w.cell? ⟨b, o, none⟩ = some (.string e.key) ∧ w.cell? ⟨b, o + 1, none⟩ = some (.string e.val) ∧ w.cell? ⟨b, o + 2, none⟩ = some (.bool e.gone)
theorem EnAt.below {w w' : World} {b o : Nat} {e : En} (h : EnAt w b o e) {B : Nat} (hb : Below B w w') (hB : b < B) : EnAt w' b o e :=
  ⟨by rw [hb.cell (p := ⟨b, o, none⟩) hB]; exact h.1, by rw [hb.cell (p := ⟨b, o + 1, none⟩) hB]; exact h.2.1, by rw [hb.cell (p := ⟨b, o + 2, none⟩) hB]; exact h.2.2⟩
/-- Entries that stand in memory. -/
def Ents (w : World) (a : Option Addr) (l : List En) : Prop :=
  l = [] ∨ ∃ b off, a = some ⟨b, off, none⟩ ∧ b < w.heap.size ∧ ∀ k (hk : k < l.length), EnAt w b (off + k * 3) (l[k]'hk)
theorem Ents.below {w w' : World} {a : Option Addr} {l : List En} (h : Ents w a l) (hb : Below w.heap.size w w') : Ents w' a l := by
  rcases h with rfl | ⟨b, off, rfl, hlt, hc⟩
  · exact .inl rfl
  · exact .inr ⟨b, off, rfl, Nat.lt_of_lt_of_le hlt hb.size, fun k hk => (hc k hk).below hb hlt⟩
theorem Ents.at {w : World} {a : Option Addr} {l : List En} (h : Ents w a l) {k : Nat} (hk : k < l.length) : ∃ b off, a = some ⟨b, off, none⟩ ∧ b < w.heap.size ∧ EnAt w b (off + k * 3) (l[k]'hk) := by
  rcases h with rfl | ⟨b, off, rfl, hlt, hc⟩
  · simp at hk
  · exact ⟨b, off, rfl, hlt, hc k hk⟩

/-- A row of entries of the call's own. -/
def OwnE (T : Nat) (w : World) (base : Nat) (v : Value) (l : List En) : Prop := w.ownsRow base T 3 v l.length (enRow l)
theorem OwnE.alloc {T : Nat} {w : World} {base : Nat} {v : Value} {l : List En} (h : OwnE T w base v l) (o : Obj) : OwnE T (w.alloc o) base v l := World.ownsRow.alloc h o
theorem OwnE.lt {T : Nat} {w : World} {base : Nat} {v : Value} {l : List En} (h : OwnE T w base v l) : ∀ k, v.ownBlock = some k → base ≤ k ∧ k < w.heap.size := World.ownsRow.lt h
theorem heap_lt {w : World} {g : Nat} {o : Obj} (c : w.heap[g]? = some o) : g < w.heap.size := (Array.getElem?_eq_some_iff.1 c).1
theorem OwnE.below {T : Nat} {w w' : World} {base : Nat} {v : Value} {l : List En} (h : OwnE T w base v l) (hb : Below w.heap.size w w') : OwnE T w' base v l := by
  obtain ⟨h1, h2⟩ := h
  refine ⟨h1, ?_⟩
  rcases h2 with h2 | ⟨g, cap, cur, rfl, b, c, d⟩
  · exact .inl h2
  · exact .inr ⟨g, cap, cur, rfl, b, by rw [hb.block g (heap_lt c)]; exact c, d⟩
theorem OwnE.nil (T : Nat) (w : World) (base : Nat) : OwnE T w base (.slice none 0 0) [] := World.ownsRow_nil _ _ _ _
theorem OwnE.ents {T : Nat} {w : World} {base : Nat} {v : Value} {l : List En} (h : OwnE T w base v l) : ∃ a c, v = .slice a l.length c ∧ Ents w a l ∧ (v ≠ .slice none 0 0 → ∃ g, a = some ⟨g, 0, none⟩ ∧ base ≤ g) := by
  obtain ⟨h1, h2⟩ := h
  rcases h2 with ⟨rfl, h2⟩ | ⟨g, cap, cur, rfl, b, c, d⟩
  · have : l = [] := List.eq_nil_of_length_eq_zero h2
    subst this
    exact ⟨none, 0, rfl, .inl rfl, fun h => absurd rfl h⟩
  · refine ⟨some ⟨g, 0, none⟩, cap, rfl, .inr ⟨g, 0, rfl, heap_lt c, fun k hk => ?_⟩, fun _ => ⟨g, rfl, b⟩⟩
    have hh : w.ownsRow base T 3 (.slice (some ⟨g, 0, none⟩) l.length cap) l.length (enRow l) := ⟨h1, .inr ⟨g, cap, cur, rfl, b, c, d⟩⟩
    obtain ⟨e1, e2, e3⟩ := enRow_get l k hk
    refine ⟨?_, ?_, ?_⟩
    · rw [hh.cellAt (0 + k * 3) (by omega), Nat.zero_add]; exact e1
    · rw [hh.cellAt (0 + k * 3 + 1) (by omega), Nat.zero_add]; exact e2
    · rw [hh.cellAt (0 + k * 3 + 2) (by omega), Nat.zero_add]; exact e3

theorem info72 : (Try.prog.info? 77).map (fun i => (i.zero, i.size, i.bytes)) = some (some (.agg #[.string ⟨#[]⟩, .string ⟨#[]⟩, .bool false]), 3, 40) := by kernel_rfl
theorem news_of {w : World} {ad : Option Addr} {m : List En} (hm : Ents w ad m) (h0 : m ≠ []) : ∃ g o, ad = some ⟨g, o, none⟩ ∧ ∀ j u, (enRow m)[j]? = some u → w.cell? ((⟨g, o, none⟩ : Addr).add j) = some u := by
  rcases hm with rfl | ⟨b, off, rfl, _, hc⟩
  · exact absurd rfl h0
  · refine ⟨b, off, rfl, fun j u hu => ?_⟩
    have hj : j < m.length * 3 := by
      have := (List.getElem?_eq_some_iff.1 hu).1
      rwa [enRow_length] at this
    have hk : j / 3 < m.length := by omega
    obtain ⟨c1, c2, c3⟩ := hc _ hk
    obtain ⟨e1, e2, e3⟩ := enRow_get m _ hk
    have hr : j % 3 < 3 := Nat.mod_lt _ (by decide)
    have hjj : j = j / 3 * 3 + j % 3 := by omega
    have ea : (⟨b, off, none⟩ : Addr).add j = ⟨b, off + j, none⟩ := by simp [Addr.add]
    rw [ea]
    generalize j / 3 = q at *
    generalize j % 3 = r at *
    match r, hr with
    | 0, _ =>
      rw [hjj, Nat.add_zero] at hu ⊢
      rw [e1] at hu
      cases hu
      exact c1
    | 1, _ =>
      rw [hjj] at hu ⊢
      rw [e2] at hu
      cases hu
      rw [← Nat.add_assoc]
      exact c2
    | 2, _ =>
      rw [hjj] at hu ⊢
      rw [e3] at hu
      cases hu
      rw [← Nat.add_assoc]
      exact c3
/-- Appending entries that stand in memory to a row of the call's own. -/
theorem append_ents {o : Oper} {a : Act} {w : World} {K : Act → World → Prop} {Q : Exit → Act → World → Prop} (S T : Nat) (hST : S = 72 ∧ T = 77) (s x : Operand)
    (hop : o.op = Op.call { callee := Callee.builtin Builtin.append, args := #[s, x], argTypes := #[S, S] })
    (base : Nat) (v : Value) (l m : List En) (hs : a.eval s = v) (hown : OwnE T w base v l)
    (ad : Addr) (c : Nat) (hx : a.eval x = .slice (some ad) m.length c) (hm : ∀ j u, (enRow m)[j]? = some u → w.cell? (ad.add j) = some u)
    (hb : l.length + m.length ≤ 100000000) (hbase : base ≤ w.heap.size)
    (hK : ∀ v' w', OwnE T w' base v' (l ++ m) → w.grownBy w' v.ownBlock → (v' = .slice none 0 0 ↔ v = .slice none 0 0 ∧ m.length = 0) → K (a.put o.dst v') w') :
    Oper.wp Try.prog o a w K Q := by
  have hK' : ∀ v' w', w'.ownsRow base T 3 v' (l.length + m.length) (enRow l ++ enRow m) → w.grownBy w' v.ownBlock → (v' = .slice none 0 0 ↔ v = .slice none 0 0 ∧ m.length = 0) → K (a.put o.dst v') w' := fun v' w' h1 h2 h3 => by
    refine hK v' w' ?_ h2 h3
    unfold OwnE
    rw [enRow_append, List.length_append]
    exact h1
  obtain ⟨rfl, rfl⟩ := hST
  · obtain ⟨i0, hi, hz0, hz1, hz2⟩ := info_parts info72
    exact wp_append_own w s x 72 hop base 77 i0 _ 3 40 Try.underlying72 hi hz0 hz1 hz2 rfl (by decide) v _ _ hs hown ad m.length c (enRow m) hx (enRow_length m) hm en_one (by unfold maxLen; omega) (by omega) hbase hK'
theorem cells_new (w : World) (e : En) (t : TypeId) : ∀ j u, (enRow [e])[j]? = some u → (w.alloc (.cells #[.string e.key, .string e.val, .bool e.gone] t)).cell? ((⟨w.heap.size, 0, none⟩ : Addr).add j) = some u := by
  intro j u hj
  match j, hj with
  | 0, hj => simp [enRow, En.cells] at hj; subst hj; simp [Addr.add]
  | 1, hj => simp [enRow, En.cells] at hj; subst hj; simp [Addr.add]
  | 2, hj => simp [enRow, En.cells] at hj; subst hj; simp [Addr.add]
  | (j + 3), hj => simp [enRow, En.cells] at hj

/-- Truths that stand in memory. -/
def Bools (w : World) (a : Option Addr) (T : List Bool) : Prop :=
  T = [] ∨ ∃ b off, a = some ⟨b, off, none⟩ ∧ b < w.heap.size ∧ ∀ k (hk : k < T.length), w.cell? ⟨b, off + k, none⟩ = some (.bool (T[k]'hk))
theorem Bools.below {w w' : World} {a : Option Addr} {T : List Bool} (h : Bools w a T) (hb : Below w.heap.size w w') : Bools w' a T := by
  rcases h with rfl | ⟨b, off, rfl, hlt, hc⟩
  · exact .inl rfl
  · exact .inr ⟨b, off, rfl, Nat.lt_of_lt_of_le hlt hb.size, fun k hk => by rw [hb.cell (p := ⟨b, off + k, none⟩) hlt]; exact hc k hk⟩
theorem Keys.at {w : World} {a : Option Addr} {l : List ByteArray} (h : Keys w a l) {k : Nat} (hk : k < l.length) : ∃ b off, a = some ⟨b, off, none⟩ ∧ b < w.heap.size ∧ w.cell? ⟨b, off + k, none⟩ = some (.string (l[k]'hk)) := by
  rcases h with rfl | ⟨b, off, rfl, hlt, hc⟩
  · simp at hk
  · exact ⟨b, off, rfl, hlt, hc k hk⟩
theorem Bools.at {w : World} {a : Option Addr} {l : List Bool} (h : Bools w a l) {k : Nat} (hk : k < l.length) : ∃ b off, a = some ⟨b, off, none⟩ ∧ b < w.heap.size ∧ w.cell? ⟨b, off + k, none⟩ = some (.bool (l[k]'hk)) := by
  rcases h with rfl | ⟨b, off, rfl, hlt, hc⟩
  · simp at hk
  · exact ⟨b, off, rfl, hlt, hc k hk⟩

/-- A revision. -/
structure Rm where
  ver : Int
  rate : Int
  sp : Sp
  dead : Bool
  l : List En
  tab : List Int
/-- The slices of a revision, as values. -/
structure Rs where
  ka : Option Addr
  kc : Nat
  va : Option Addr
  vc : Nat
  ga : Option Addr
  gc : Nat
  ta : Option Addr
  tc : Nat
def Rm.row (R : Rm) (s : Rs) : List Value := [.int .i64 R.ver, .int .i64 R.rate, .string R.sp.lo, .string R.sp.hi, .bool R.sp.all, .bool R.dead, .slice s.ka R.l.length s.kc, .slice s.va R.l.length s.vc, .slice s.ga R.l.length s.gc, .slice s.ta R.tab.length s.tc]
def Rm.v (R : Rm) (s : Rs) : Value := .agg #[.int .i64 R.ver, .int .i64 R.rate, .string R.sp.lo, .string R.sp.hi, .bool R.sp.all, .bool R.dead, .slice s.ka R.l.length s.kc, .slice s.va R.l.length s.vc, .slice s.ga R.l.length s.gc, .slice s.ta R.tab.length s.tc]
structure RevAt (w : World) (R : Rm) (s : Rs) : Prop where
  k : Keys w s.ka (R.l.map En.key)
  v : Keys w s.va (R.l.map En.val)
  g : Bools w s.ga (R.l.map En.gone)
  t : Nums w s.ta R.tab
theorem RevAt.below {w w' : World} {R : Rm} {s : Rs} (h : RevAt w R s) (hb : Below w.heap.size w w') : RevAt w' R s := ⟨h.k.below hb, h.v.below hb, h.g.below hb, h.t.below hb⟩
def Rm.none : Rm := ⟨0, 0, zero, false, [], []⟩
def Rs.none : Rs := ⟨.none, 0, .none, 0, .none, 0, .none, 0⟩
theorem rev_none (w : World) : RevAt w Rm.none Rs.none := ⟨.inl rfl, .inl rfl, .inl rfl, .inl rfl⟩

def Rm.zeroRow (_ : Rm) : List Value := [.int .i64 0, .int .i64 0, .string ⟨#[]⟩, .string ⟨#[]⟩, .bool false, .bool false, .slice .none 0 0, .slice .none 0 0, .slice .none 0 0, .slice .none 0 0]

/-- A revision of the reference. -/
structure Fm where
  ver : Int
  rate : Int
  sp : Sp
  dead : Bool
  l : List En
def Fm.v (R : Fm) (a : Option Addr) (c : Nat) : Value := .agg #[.int .i64 R.ver, .int .i64 R.rate, .string R.sp.lo, .string R.sp.hi, .bool R.sp.all, .bool R.dead, .slice a R.l.length c]
end Go.Proofs.Ytjlifkhpohfiaaa
