/- What the law's lay needs: ghosts, Tomb, a number ahead of a row. No condition. -/
import Derived.Test.YtbcpdkmbbgcfbaaDoorNp
namespace Go.Proofs.YtbcpdkmbbgcfbaaDoor
open Go.RowKit Go.Op
set_option maxRecDepth 100000

def tomb (v : Int) : Rv := { rv0 with ver := v, dead := true }
theorem But.belowAt {w w1 : World} {z B : Nat} (h : But z w w1) (hz : B ≤ z) (hB : B ≤ w.heap.size) : Below B w w1 := ⟨h.os, h.tape, h.output, h.size, fun k hk => h.block k (by omega) (by omega)⟩
theorem tomb_in {G : List (Nat × List Value)} {v : Int} : (tomb v).In G .nil := ⟨.nil, .nil, .nil, .nil⟩
theorem Tomb_any (w : World) (v : Int) : Calls Tryd.prog 41 #[.int .i64 v] w fun e w' => e = .returned ((tomb v).v .nil) ∧ Below w.heap.size w w' := by
  obtain ⟨wa, hwa⟩ : ∃ W, W = w.alloc (.cells (rv0.row .nil).toArray 40) := ⟨_, rfl⟩
  have ba : Below w.heap.size w wa := by rw [hwa]; exact (Below.refl _ w).alloc (Nat.le_refl _) _
  have hs : SVar wa w.heap.size (rv0.row .nil) := by rw [hwa]; exact snew _ _ _
  have hst := hs.store (row' := (tomb v).row .nil) rfl sh40 (by
    intro u hu
    simp only [Rv.row, List.mem_cons, List.not_mem_nil, or_false] at hu
    rcases hu with rfl | rfl | rfl | rfl | rfl | rfl | rfl | rfl | rfl | rfl <;> rfl)
  have hld := (hs.put (row' := (tomb v).row .nil) rfl).loadVar sh40
  have HB : Hid (Below w.heap.size w (sput wa w.heap.size ((tomb v).row .nil))) := ba.trans ((But.sput wa w.heap.size ((tomb v).row .nil)).belowAt (Nat.le_refl _) ba.size)
  have HW := Lib.hid hwa.symm
  generalize sput wa w.heap.size ((tomb v).row .nil) = W at hst hld HB
  simp only [Rv.row, rv0, tomb, Pl.nil, Sl.nil] at HW hst hld
  clear hwa ba hs
  unfold Rv.v
  simp only [rv0, tomb, Pl.nil, Sl.nil]
  go_enter Tryd.func41, Tryd.ntmps41
  go_wp2_with (first | rw [HW.out] | ((with_reducible refine store_run ?_ (.tmp 2) (.tmp 4) 40 ?_ ?_ ?_ hst ?_); exact rfl; exact rfl; exact rfl; exact rfl) | fail)
  exact bodyPost_ret (res_c Tryd.results41 rfl hld) rfl ⟨rfl, HB.out⟩
section
variable {w0 : World} {b c r pb po : Nat} {t t1 : Value} {G G1 : List (Nat × List Value)} {w w1 w2 : World} {m m1 : M} {s s1 : Pt}
/-- A number ahead of a row. -/
structure Prep (w0 : World) (b c r pb : Nat) (t : Value) (G : List (Nat × List Value)) (w : World) (l : List Int) (u : Value) (w1 : World) : Prop where
  val : ∃ a cap, u = .slice a (l.length) cap
  row : ORow w0 b c r pb t G w1 u l
  below : Below w.heap.size w w1
  new : ∀ y, u.ownBlock = some y → w.heap.size ≤ y
theorem prep (hs : SysE w0 b c r pb po t G w m s) (v : Int) {a : Option Addr} {cap : Nat} {l : List Int} (hR : ORow w0 b c r pb t G w (.slice a l.length cap) l) (hl : l.length ≤ 1000) (ty : TypeId) :
    ∃ u w', (Builtin.append_ #[25, 25] ty #[.slice (some ⟨w.heap.size, 0, none⟩) 1 1, .slice a l.length cap]).run Tryd.prog (w.alloc (.cells #[.int .i64 v] 3)) = .ok u w' ∧ Prep w0 b c r pb t G w (v :: l) u w' := by
  obtain ⟨wa, hwa⟩ : ∃ W, W = w.alloc (.cells #[.int .i64 v] 3) := ⟨_, rfl⟩
  have ba : Below w.heap.size w wa := by rw [hwa]; exact (Below.refl _ w).alloc (Nat.le_refl _) _
  have hB : w0.heap.size ≤ w.heap.size := by obtain ⟨m0, s0, h1, -⟩ := id hs; exact h1.has.below.size
  have h1 : ORow w0 b c r pb t G wa (.slice (some ⟨w.heap.size, 0, none⟩) 1 1) [v] := ⟨by rw [hwa]; exact World.ownsRow_lit w #[.int .i64 v] 1 hB (by decide) rfl, fun g e => by
    cases e
    rw [hwa]
    exact hs.fresh _⟩
  rw [← hwa]
  obtain ⟨i0, hi, hz0, hz1, hz2⟩ := info_parts info3
  cases a with
  | none =>
    rcases hR.own.2 with ⟨e, e2⟩ | ⟨g, c2, cur, e, -⟩
    · have hn : l = [] := List.length_eq_zero_iff.1 e2
      subst hn
      exact ⟨_, _, run_append_nothing wa 25 25 ty 3 i0 Tryd.underlying25 hi (some ⟨w.heap.size, 0, none⟩) 1 1 (Nat.le_refl _) _ (Src.ofNil wa Tryd.underlying25 _), ⟨_, _, rfl⟩, h1, ba, fun y e => by cases e; exact Nat.le_refl _⟩
    · cases e
  | some ad =>
    obtain ⟨a2, cap2, e, hc, hi2, h0⟩ := hR.val
    cases e
    have hown : ∀ j u, (ints l)[j]? = some u → wa.cell? (ad.add j) = some u := fun j u hj => by
      rcases hR.own.2 with ⟨e, -⟩ | ⟨g, c2, cur, e, -⟩
      · cases e
      · cases e
        rw [ba.cell (p := (⟨g, 0, none⟩ : Addr).add j) (by rw [add_off]; exact (hR.loc g rfl).lt)]
        exact World.ownsRow.cells hR.own (g := g) rfl j u hj
    obtain ⟨u, w', hr, q1, q2, q3, q4, q5⟩ := h1.app2 ((Aft.refl hs).later ba) (fun z e => by cases e; exact Nat.le_refl _) ad cap l hown (by simp; omega) ty
    obtain ⟨a3, cap3, e3, -, -, -⟩ := q2.val
    refine ⟨u, w', hr, ⟨a3, cap3, e3⟩, q2, ⟨?_, ?_, ?_, Nat.le_trans ba.size q4, fun k hk => (q5 k (Nat.lt_of_lt_of_le hk ba.size) (fun e => by cases e; exact Nat.lt_irrefl _ hk)).trans (ba.block k hk)⟩, fun y hy => ?_⟩
    · exact q1.but.os
    · exact q1.but.tape
    · exact q1.but.output
    · rcases q3 y hy with e | e
      · cases e; exact Nat.le_refl _
      · rw [e]; exact ba.size
end
/-- The versions that a law's bytes lay, newest first, of the bytes turned round. -/
def vers : List Nat → List Int
  | [] => []
  | b :: l => ((vers l).headD 0 + 1 + (b : Int)) :: vers l
theorem vers_length : ∀ l : List Nat, (vers l).length = l.length
  | [] => rfl
  | _ :: l => by rw [vers, List.length_cons, vers_length l, List.length_cons]
theorem vers_le : ∀ l : List Nat, (∀ b, b ∈ l → b ≤ 255) → 0 ≤ (vers l).headD 0 ∧ (vers l).headD 0 ≤ 256 * (l.length : Int)
  | [], _ => ⟨Int.le_refl _, by simp [vers]⟩
  | b :: l, h => by
    have h1 := vers_le l fun x hx => h x (List.mem_cons_of_mem _ hx)
    have h2 := h b List.mem_cons_self
    simp only [vers, List.headD_cons, List.length_cons]
    omega
/-- A law's chain in memory. -/
structure YC (m : M) (h : Int) (l : List (Int × Rv × Int)) : Prop where
  tidy : Tidy 0 m
  len : m.cells.length = 200
  live : m.live = 2 * (l.length : Int)
  cnt : m.count = 2 * (l.length : Int)
  ch : Ch m h l
  nd : (flat l).Nodup
  tombs : ∀ x, x ∈ l → x.2.1 = tomb x.2.1.ver
theorem flat_mem {l : List (Int × Rv × Int)} {k : Int} : k ∈ flat l ↔ ∃ x, x ∈ l ∧ (k = x.1 ∨ k = x.2.2) := by
  simp [flat, List.mem_flatMap]
theorem YC.step {m : M} {h : Int} {l : List (Int × Rv × Int)} (hy : YC m h l) (hn : l.length ≤ 90) (v : Int) : ∃ h' p m', (layP (tomb v) h).go m = ((h', 0), m') ∧ YC m' h' ((h', tomb v, p) :: l) := by
  obtain ⟨h', p, m', e, a1, a2, a3, a4, a5, a6, a7, a8, a9, a10⟩ := layP_go hy.tidy (by decide) (by rw [hy.live, hy.len]; omega) (by rw [hy.len]; decide) (tomb v) h
  have hf : ∀ k, k ∈ flat l → k ≠ h' ∧ k ≠ p := fun k hk => by
    obtain ⟨x, hx, hk⟩ := flat_mem.1 hk
    obtain ⟨q1, j, q2⟩ := hy.ch.age x hx
    rcases hk with rfl | rfl
    · exact ⟨fun e => (by rw [e, a1] at q1; cases q1), fun e => (by rw [e, a2] at q1; cases q1)⟩
    · exact ⟨fun e => (by rw [e, a1] at q2; cases q2), fun e => (by rw [e, a2] at q2; cases q2)⟩
  refine ⟨h', p, m', e, a7, by rw [a9, hy.len], by rw [a8, hy.live]; simp only [List.length_cons]; omega, by rw [a10, hy.cnt]; simp only [List.length_cons]; omega, ⟨rfl, a4, by rw [a6, if_pos rfl], h, by rw [a6, if_neg (fun e => a3 e.symm), if_pos rfl], hy.ch.mono fun x hx => ?_⟩, ?_, fun x hx => ?_⟩
  · have q1 := hf x.1 (flat_mem.2 ⟨x, hx, .inl rfl⟩)
    have q2 := hf x.2.2 (flat_mem.2 ⟨x, hx, .inr rfl⟩)
    exact ⟨by rw [a6, if_neg q1.1, if_neg q1.2], by rw [a6, if_neg q2.1, if_neg q2.2]⟩
  · show (h' :: p :: flat l).Nodup
    refine List.nodup_cons.2 ⟨fun e => ?_, List.nodup_cons.2 ⟨fun e => (hf _ e).2 rfl, hy.nd⟩⟩
    rcases List.mem_cons.1 e with e | e
    · exact a3 e
    · exact (hf _ e).1 rfl
  · rcases List.mem_cons.1 hx with rfl | hx
    · rfl
    · exact hy.tombs x hx
theorem YC.start : YC (M.new 200) 0 [] := ⟨new_tidy 200, by simp [M.new], rfl, rfl, rfl, List.nodup_nil, fun x hx => by cases hx⟩
def topOf : List (Int × Rv × Int) → Int
  | [] => 0
  | x :: _ => x.1
/-- The law's yard in memory. -/
structure YM (m : M) (H hd p1 p2 : Int) (l : List (Int × Rv × Int)) : Prop where
  tidy : Tidy 0 m
  len : m.cells.length = 200
  live : m.live = 2 * (l.length : Int) + 4
  cnt : m.count = 2 * (l.length : Int) + 5
  word : m.look hd = some (.word (topOf l))
  ch : Ch m (topOf l) l
  node : m.look H = some (.blk (.node ⟨#[107]⟩ hd [p1, p2]) .nil)
  w1 : m.look p1 = some (.word 5)
  w2 : m.look p2 = some (.word 6)
  nd : (H :: hd :: p1 :: p2 :: flat l).Nodup
  tombs : ∀ x, x ∈ l → x.2.1 = tomb x.2.1.ver
theorem YC.done {m : M} {h : Int} {l : List (Int × Rv × Int)} (hy : YC m h l) (hn : l.length ≤ 90) : ∃ H hd p1 p2 m', (makeP ⟨#[107]⟩ h [5, 6]).go m = ((H, 0), m') ∧ (loadP H).go m' = ((⟨⟨#[107]⟩, hd, [p1, p2]⟩, 0), m'.ask) ∧ YM m'.ask H hd p1 p2 l := by
  obtain ⟨H, p1, p2, p3, m', e, a1, a2, a3, a4, b1, b2, b3, b4, b5, b6, a5, a6, a7, a8, a9, a10, a11⟩ := makeP2_go hy.tidy (by decide) (by rw [hy.live, hy.len]; omega) (by rw [hy.len]; decide) ⟨#[107]⟩ h 5 6
  have hh : h = (topOf l) := by
    cases l with
    | nil => exact hy.ch
    | cons x l => exact hy.ch.1
  have hf : ∀ k, k ∈ flat l → k ≠ H ∧ k ≠ p1 ∧ k ≠ p2 ∧ k ≠ p3 := fun k hk => by
    obtain ⟨x, hx, hk⟩ := flat_mem.1 hk
    obtain ⟨q1, j, q2⟩ := hy.ch.age x hx
    have : m.look k ≠ none := by rcases hk with rfl | rfl <;> simp [q1, q2]
    exact ⟨fun e => this (e ▸ a1), fun e => this (e ▸ a2), fun e => this (e ▸ a3), fun e => this (e ▸ a4)⟩
  have hold : ∀ k, k ∈ flat l → m'.look k = m.look k := fun k hk => by
    obtain ⟨q1, q2, q3, q4⟩ := hf k hk
    rw [a7, if_neg q1, if_neg q4, if_neg q3, if_neg q2]
  have hl : m'.look H = some (.blk (.node ⟨#[107]⟩ p1 [p2, p3]) .nil) := by rw [a7, if_pos rfl]
  refine ⟨H, p1, p2, p3, m', e, node_go hl, a8.ask, a10.trans hy.len, ?_, ?_, ?_, ?_, ?_, ?_, ?_, ?_, hy.tombs⟩
  · show m'.live = _
    rw [a9, hy.live]
  · show m'.count + 1 = _
    rw [a11, hy.cnt]; omega
  · rw [look_ask, a7, if_neg b1.symm, if_neg b5, if_neg b4, if_pos rfl, hh]
  · rw [← hh]
    exact hy.ch.mono fun x hx => ⟨by rw [look_ask]; exact hold _ (flat_mem.2 ⟨x, hx, .inl rfl⟩), by rw [look_ask]; exact hold _ (flat_mem.2 ⟨x, hx, .inr rfl⟩)⟩
  · rw [look_ask]; exact hl
  · rw [look_ask, a7, if_neg b2.symm, if_neg b6, if_pos rfl]
  · rw [look_ask, a7, if_neg b3.symm, if_pos rfl]
  · refine List.nodup_cons.2 ⟨fun e => ?_, List.nodup_cons.2 ⟨fun e => ?_, List.nodup_cons.2 ⟨fun e => ?_, List.nodup_cons.2 ⟨fun e => (hf _ e).2.2.2 rfl, hy.nd⟩⟩⟩⟩
    · simp only [List.mem_cons] at e
      rcases e with e | e | e | e
      · exact b1 e
      · exact b2 e
      · exact b3 e
      · exact (hf _ e).1 rfl
    · simp only [List.mem_cons] at e
      rcases e with e | e | e
      · exact b4 e
      · exact b5 e
      · exact (hf _ e).2.1 rfl
    · simp only [List.mem_cons] at e
      rcases e with e | e
      · exact b6 e
      · exact (hf _ e).2.2.1 rfl
end Go.Proofs.YtbcpdkmbbgcfbaaDoor
