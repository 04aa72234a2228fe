/- How far a list of asks is done: what the reference's Next makes of it. Conditions: the list can be read, and has an entry there. -/
import Derived.Test.YthdcilbbllldiaaDoorStI
import Derived.Test.YthdcilbbllldiaaDoorPlayA
namespace Go.Proofs.YthdcilbbllldiaaDoor
open Go.RowKit Go.Op
set_option maxRecDepth 100000

def AqAt (w : World) (b o : Nat) (x : Aq) : Prop := w.cell? ⟨b, o, none⟩ = some (.int .u8 x.act) ∧ w.cell? ⟨b, o + 1, none⟩ = some (.int .i64 x.pos) ∧ w.cell? ⟨b, o + 2, none⟩ = some (.int .i64 x.n) ∧ w.cell? ⟨b, o + 3, none⟩ = some (.int .i64 x.m) ∧ w.cell? ⟨b, o + 4, none⟩ = some (.bool x.told) ∧ w.cell? ⟨b, o + 5, none⟩ = some (.bool x.skip)
/-- Asks that stand in memory. -/
def Asks (w : World) (a : Option Addr) (l : List Aq) : Prop :=
  l = [] ∨ ∃ b off, a = some ⟨b, off, none⟩ ∧ b < w.heap.size ∧ ∀ k (hk : k < l.length), AqAt w b (off + k * 6) (l[k]'hk)
def AsksOk (l : List Aq) : Prop := ∀ x ∈ l, 0 ≤ x.act ∧ x.act ≤ 255
theorem Asks.at_ {w W : World} {a : Option Addr} {l : List Aq} (h : Asks w a l) (hb : Below w.heap.size w W) {k : Nat} (hk : k < l.length) : ∃ b off, a = some ⟨b, off, none⟩ ∧ b < w.heap.size ∧ AqAt W b (off + k * 6) (l[k]'hk) := by
  rcases h with rfl | ⟨b, off, rfl, hl, h⟩
  · simp at hk
  · have k1 : ∀ i, W.cell? ⟨b, i, none⟩ = w.cell? ⟨b, i, none⟩ := fun i => hb.cell (p := ⟨b, i, none⟩) hl
    refine ⟨b, off, rfl, hl, ?_⟩
    unfold AqAt
    rw [k1, k1, k1, k1, k1, k1]
    exact h k hk
theorem Asks.below {w W : World} {a : Option Addr} {l : List Aq} (h : Asks w a l) (hb : Below w.heap.size w W) : Asks W a l := by
  rcases h with rfl | ⟨b, off, rfl, hl, h⟩
  · exact .inl rfl
  · refine .inr ⟨b, off, rfl, Nat.lt_of_lt_of_le hl hb.size, fun k hk => ?_⟩
    have k1 : ∀ i, W.cell? ⟨b, i, none⟩ = w.cell? ⟨b, i, none⟩ := fun i => hb.cell (p := ⟨b, i, none⟩) hl
    unfold AqAt
    rw [k1, k1, k1, k1, k1, k1]
    exact h k hk
/-- How far a list is done. -/
structure Rn where
  at_ : Nat
  told : Int
  sum : Int
  last : Int
  steps : Nat
def Rn.row (r : Rn) : List Value := [.int .i64 (r.at_ : Int), .int .i64 r.told, .int .i64 r.sum, .int .i64 r.last, .int .i64 (r.steps : Int)]
def Rn.v (r : Rn) : Value := .agg r.row.toArray
def sumX (s n e a : Int) : Int := bits .xor .i64 s (wrap64 (wrap64 (wrap64 (n * 2) + e) + a))
/-- How far it is done behind an answer: a number, an error, the handle told last. -/
def Rn.next (r : Rn) (l : List Aq) (x : Int × Int × Int) : Rn :=
  ⟨if ((l[r.at_]?).any (·.skip) && decide (x.1 % 2 = 1) && decide (r.at_ + 1 < l.length)) = true then r.at_ + 2 else r.at_ + 1, x.2.2, sumX r.sum x.1 x.2.1 r.at_, x.1, r.steps + 1⟩
theorem size32 : (Tryd.prog.info? 32).map (·.size) = some 5 := by kernel_rfl
theorem two_range (w : World) (o : Obj) (row : List Value) (t : TypeId) : ((w.alloc o).alloc (.cells row.toArray t)).rangeAt (w.heap.size + 1) 0 row := fun j v hj => by
  have e : w.heap.size + 1 = (w.alloc o).heap.size := by simp
  rw [e, World.cell?_alloc_new, Nat.zero_add]
  simpa using hj
theorem next_end (w : World) (o : Obj) (r : Rn) : (loadVar 32 ⟨w.heap.size + 1, 0, none⟩).run Tryd.prog ((w.alloc o).alloc (.cells r.row.toArray 32)) = .ok r.v ((w.alloc o).alloc (.cells r.row.toArray 32)) :=
  run_loadVar_mid _ (w.heap.size + 1) 0 32 r.row _ (two_range w o r.row 32) Tryd.underlying32 rfl size32
theorem next_any (w : World) (r : Rn) (ad : Option Addr) (cap : Nat) (l : List Aq) (x : Int × Int × Int) (hl : Asks w ad l) (hr : r.at_ < l.length) (hll : l.length ≤ 40) (hs : r.steps ≤ 40) :
    Calls Tryd.prog 15 #[r.v, .slice ad l.length cap, .int .i64 x.1, .int .i64 x.2.1, .int .i64 x.2.2] w fun e' w' => e' = .returned (r.next l x).v ∧ Below w.heap.size w w' := by
  obtain ⟨n, e, tl⟩ := x
  obtain ⟨pb, off, rfl, hpb, hz⟩ := hl.at_ (Below.refl _ _) hr
  have hge : l[r.at_]? = some l[r.at_] := List.getElem?_eq_getElem hr
  obtain ⟨_, _, _, _, _, z5⟩ := hz
  have HN : Hid ((r.next l (n, e, tl)) = ⟨if (l[r.at_].skip && decide (n % 2 = 1) && decide (r.at_ + 1 < l.length)) = true then r.at_ + 2 else r.at_ + 1, tl, sumX r.sum n e r.at_, n, r.steps + 1⟩) := by
    unfold Rn.next
    rw [hge]
    rfl
  generalize l[r.at_] = z at *
  have ev : r.v = .agg #[.int .i64 (r.at_ : Int), .int .i64 r.told, .int .i64 r.sum, .int .i64 r.last, .int .i64 (r.steps : Int)] := rfl
  rw [ev]
  clear ev hl hge
  have i1 : (r.at_ : Int) < (l.length : Int) := by omega
  have hA := and_low 1 (by decide) n 1 (by decide)
  simp only [Nat.pow_one] at hA
  have hB := fun (o o' : Obj) => (((Below.refl w.heap.size w).alloc (Nat.le_refl _) o).alloc (by simp) o' : Below w.heap.size w ((w.alloc o).alloc o'))
  have HB := Lib.hid hB
  clear hB
  simp only
  have one : ∀ q : Nat, q = r.at_ + 1 → r.next l (n, e, tl) = ⟨q, tl, sumX r.sum n e r.at_, n, r.steps + 1⟩ → ∀ o : Obj, (loadVar 32 ⟨w.heap.size + 1, 0, none⟩).run Tryd.prog ((w.alloc o).alloc (.cells #[.int .i64 ((r.at_ : Int) + 1), .int .i64 tl, .int .i64 (bits .xor .i64 r.sum (wrap64 (wrap64 (wrap64 (n * 2) + e) + (r.at_ : Int)))), .int .i64 n, .int .i64 ((r.steps : Int) + 1)] 32)) = .ok (r.next l (n, e, tl)).v ((w.alloc o).alloc (.cells #[.int .i64 ((r.at_ : Int) + 1), .int .i64 tl, .int .i64 (bits .xor .i64 r.sum (wrap64 (wrap64 (wrap64 (n * 2) + e) + (r.at_ : Int)))), .int .i64 n, .int .i64 ((r.steps : Int) + 1)] 32)) := by
    rintro q rfl hq o
    have := next_end w o (r.next l (n, e, tl))
    rw [hq] at this ⊢
    exact this
  have HO := Lib.hid one
  clear one
  cases hsk : z.skip with
  | false =>
    rw [hsk] at z5
    have HE : Hid (r.next l (n, e, tl) = ⟨r.at_ + 1, tl, sumX r.sum n e r.at_, n, r.steps + 1⟩) := by rw [HN.out, hsk]; rfl
    clear HN hA
    go_enter Tryd.func15, Tryd.ntmps15
    go_wp2
    exact bodyPost_ret (results_cell1 Tryd.results15 rfl (HO.out _ rfl HE.out _)) rfl ⟨rfl, HB.out _ _⟩
  | true =>
    rw [hsk] at z5
    by_cases hn : n % 2 = 1
    · have hn2 : (n % (2 : Int) == 1) = true := by rw [beq_iff_eq]; exact hn
      by_cases h2 : r.at_ + 1 < l.length
      · have i2 : (r.at_ : Int) + 1 < (l.length : Int) := by omega
        have HE : Hid (r.next l (n, e, tl) = ⟨r.at_ + 2, tl, sumX r.sum n e r.at_, n, r.steps + 1⟩) := by rw [HN.out, hsk, decide_eq_true hn, decide_eq_true h2]; rfl
        have HO2 : Hid (∀ o : Obj, (loadVar 32 ⟨w.heap.size + 1, 0, none⟩).run Tryd.prog ((w.alloc o).alloc (.cells #[.int .i64 ((r.at_ : Int) + 1 + 1), .int .i64 tl, .int .i64 (bits .xor .i64 r.sum (wrap64 (wrap64 (wrap64 (n * 2) + e) + (r.at_ : Int)))), .int .i64 n, .int .i64 ((r.steps : Int) + 1)] 32)) = .ok (r.next l (n, e, tl)).v ((w.alloc o).alloc (.cells #[.int .i64 ((r.at_ : Int) + 1 + 1), .int .i64 tl, .int .i64 (bits .xor .i64 r.sum (wrap64 (wrap64 (wrap64 (n * 2) + e) + (r.at_ : Int)))), .int .i64 n, .int .i64 ((r.steps : Int) + 1)] 32))) := by
          intro o
          have := next_end w o (r.next l (n, e, tl))
          rw [HE.out] at this ⊢
          exact this
        clear HN hn
        go_enter Tryd.func15, Tryd.ntmps15
        go_wp2
        exact bodyPost_ret (results_cell1 Tryd.results15 rfl (HO2.out _)) rfl ⟨rfl, HB.out _ _⟩
      · have i2 : ¬ (r.at_ : Int) + 1 < (l.length : Int) := by omega
        have HE : Hid (r.next l (n, e, tl) = ⟨r.at_ + 1, tl, sumX r.sum n e r.at_, n, r.steps + 1⟩) := by rw [HN.out, hsk, decide_eq_true hn, decide_eq_false h2]; rfl
        clear HN hn
        go_enter Tryd.func15, Tryd.ntmps15
        go_wp2
        exact bodyPost_ret (results_cell1 Tryd.results15 rfl (HO.out _ rfl HE.out _)) rfl ⟨rfl, HB.out _ _⟩
    · have hn2 : (n % (2 : Int) == 1) = false := by rw [beq_eq_false_iff_ne]; exact hn
      have HE : Hid (r.next l (n, e, tl) = ⟨r.at_ + 1, tl, sumX r.sum n e r.at_, n, r.steps + 1⟩) := by rw [HN.out, hsk, decide_eq_false hn]; rfl
      clear HN hn
      go_enter Tryd.func15, Tryd.ntmps15
      go_wp2
      exact bodyPost_ret (results_cell1 Tryd.results15 rfl (HO.out _ rfl HE.out _)) rfl ⟨rfl, HB.out _ _⟩
end Go.Proofs.YthdcilbbllldiaaDoor
