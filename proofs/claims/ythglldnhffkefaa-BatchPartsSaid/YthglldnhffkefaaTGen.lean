/- Slices of entries that stand in memory: parts of them; appending them to rows of the call's own; single operations for tables of FreeT. Condition: at most 100000000 entries. -/
import Derived.Test.YthglldnhffkefaaBWalkA
import Derived.Test.YthglldnhffkefaaFreeT
namespace Go.FreeT
open Go Go.RowKit Go.Free Go.Op
section
variable {P : Program} {effs : List Nat} {ops : Array Oper} {S : List Bool → (Nat → Value) → World → Prop} {i : Nat} (o0 : Oper) (ho : ops[i]? = some o0)
include ho
theorem d_at {T : TypeId} {x y : Operand} (hop : o0.op = .indexAddr T x y) {vs vi v : (Nat → Value) → Value} (h : ∀ β w, (Instr.indexAt T (vs β) (vi β)).run P w = .ok (v β) w) : Does P effs ops S ⟨i, fun β => [vs β, vi β], v, .pure⟩ := by
  rintro o h1 β ρ h2 w
  rw [ho] at h1
  cases h1
  rw [hop] at h2
  simp [Op.operands] at h2
  simp [execOp, hop, h2.1, h2.2, h]
theorem d_bin {op : BinOp} {T R : TypeId} {x y : Operand} (hop : o0.op = .binOp op T x y R) {vx vy v : (Nat → Value) → Value} (h : ∀ β xo yo w, (eqGuard op T xo yo (vx β) (vy β)).run P w = .ok () w ∧ (binOp op T (vx β) (vy β)).run P w = .ok (v β) w) : Does P effs ops S ⟨i, fun β => [vx β, vy β], v, .pure⟩ := by
  rintro o h1 β ρ h2 w
  rw [ho] at h1
  cases h1
  rw [hop] at h2
  simp [Op.operands] at h2
  obtain ⟨g1, g2⟩ := h β x y w
  simp [execOp, hop, h2.1, h2.2, g1, g2]
theorem d_hi {T : TypeId} {x y : Operand} (hop : o0.op = .slice T x none (some y) none) {vx vy v : (Nat → Value) → Value} (h : ∀ β w, (Instr.sliceAt T (vx β) none (some (vy β)) none).run P w = .ok (v β) w) : Does P effs ops S ⟨i, fun β => [vx β, vy β], v, .pure⟩ := by
  rintro o h1 β ρ h2 w
  rw [ho] at h1
  cases h1
  rw [hop] at h2
  simp [Op.operands] at h2
  simp [execOp, hop, h2.1, h2.2, h]
theorem d_lo {T : TypeId} {x y : Operand} (hop : o0.op = .slice T x (some y) none none) {vx vy v : (Nat → Value) → Value} (h : ∀ β w, (Instr.sliceAt T (vx β) (some (vy β)) none none).run P w = .ok (v β) w) : Does P effs ops S ⟨i, fun β => [vx β, vy β], v, .pure⟩ := by
  rintro o h1 β ρ h2 w
  rw [ho] at h1
  cases h1
  rw [hop] at h2
  simp [Op.operands] at h2
  simp [execOp, hop, h2.1, h2.2, h]
theorem d_load {T : TypeId} {x : Operand} (hop : o0.op = .load T x) {p v : (Nat → Value) → Value} (h : ∀ β bs w, S bs β w → Due ops effs i bs → (Instr.loadAt T (p β)).run P w = .ok (v β) w) : Does P effs ops S ⟨i, fun β => [p β], v, .read⟩ := by
  rintro o h1 β ρ h2 bs w hS hD
  rw [ho] at h1
  cases h1
  rw [hop] at h2
  simp [Op.operands] at h2
  simp [execOp, hop, h2, h β bs w hS hD]
theorem d_row0 {T : TypeId} (hop : o0.op = .buildSlice T 0 #[]) (p : Nat) (hp : effs[p]? = some i) (h : ∀ β bs w, S bs β w → Due ops effs i bs → ∃ u w', (Instr.buildSlice T 0 #[]).run P w = .ok u w' ∧ S (bs.set p true) (upd β i u) w') : Does P effs ops S ⟨i, fun _ => [], fun β => β i, .eff⟩ := by
  refine ⟨fun β u => upd_same i u, p, hp, ?_⟩
  rintro o h1 β ρ _ bs w hS hD
  rw [ho] at h1
  cases h1
  obtain ⟨u, w', g1, g2⟩ := h β bs w hS hD
  exact ⟨u, w', by simp [execOp, hop, g1], g2⟩
theorem d_row1 {T : TypeId} {x : Operand} (hop : o0.op = .buildSlice T 1 #[(0, x)]) (p : Nat) (hp : effs[p]? = some i) {vx : (Nat → Value) → Value} (h : ∀ β bs w, S bs β w → Due ops effs i bs → ∃ u w', (Instr.buildSlice T 1 #[(0, vx β)]).run P w = .ok u w' ∧ S (bs.set p true) (upd β i u) w') : Does P effs ops S ⟨i, fun β => [vx β], fun β => β i, .eff⟩ := by
  refine ⟨fun β u => upd_same i u, p, hp, ?_⟩
  rintro o h1 β ρ h2 bs w hS hD
  rw [ho] at h1
  cases h1
  rw [hop] at h2
  simp [Op.operands] at h2
  obtain ⟨u, w', g1, g2⟩ := h β bs w hS hD
  exact ⟨u, w', by simp [execOp, hop, h2, g1], g2⟩
theorem d_app {T : TypeId} {x y : Operand} (hop : o0.op = .call { callee := .builtin .append, args := #[x, y], argTypes := #[T, T] }) (p : Nat) (hp : effs[p]? = some i) {vx vy : (Nat → Value) → Value} (h : ∀ β bs ty w, S bs β w → Due ops effs i bs → ∃ u w', (Builtin.append_ #[T, T] ty #[vx β, vy β]).run P w = .ok u w' ∧ S (bs.set p true) (upd β i u) w') : Does P effs ops S ⟨i, fun β => [vx β, vy β], fun β => β i, .eff⟩ := by
  refine ⟨fun β u => upd_same i u, p, hp, ?_⟩
  rintro o h1 β ρ h2 bs w hS hD
  rw [ho] at h1
  cases h1
  rw [hop] at h2
  have h3 : ρ x = vx β ∧ ρ y = vy β := by simpa [Op.operands, Call.operands] using h2
  obtain ⟨u, w', g1, g2⟩ := h β bs o0.type w hS hD
  exact ⟨u, w', by simp [execOp, hop, h3.1, h3.2, resolve, invoke, builtin, g1], g2⟩
end
end Go.FreeT
namespace Go.Proofs.Ythglldnhffkefaa
open Go.RowKit Go.Op
set_option maxRecDepth 100000

/-- Entries that stand in memory, as a slice has them. -/
structure Cut (w : World) (a : Option Addr) (l : List En) (c : Nat) : Prop where
  e : Ents w a l
  len : l.length ≤ c
  big : c ≤ 9223372036854775807
  none : a = none → c = 0
  spot : ∀ p, a = some p → c ≠ 0 → p.spot = Option.none
theorem Cut.below {w w' : World} {a : Option Addr} {l : List En} {c : Nat} (h : Cut w a l c) (hb : Below w.heap.size w w') : Cut w' a l c := ⟨h.e.below hb, h.len, h.big, h.none, h.spot⟩
theorem OwnE.ents2 {T : Nat} {w : World} {base g cap : Nat} {l : List En} (h : OwnE T w base (.slice (some ⟨g, 0, none⟩) l.length cap) l) : Ents w (some ⟨g, 0, none⟩) l := by
  obtain ⟨a, c, e, h1, _⟩ := h.ents
  simp only [Value.slice.injEq] at e
  rw [e.1]
  exact h1
theorem OwnE.sl {T : Nat} {w : World} {base : Nat} {v : Value} {l : List En} (h : OwnE T w base v l) : ∃ a c, v = .slice a l.length c ∧ Cut w a l c ∧ (∀ p, a = some p → base ≤ p.block) ∧ (v = .slice .none 0 0 ↔ a = .none) := by
  have h' := h
  obtain ⟨_, h2⟩ := h'
  rcases h2 with ⟨rfl, h2⟩ | ⟨g, cap, cur, rfl, hb, hg, hn, hm, _⟩
  · have h0 : l = [] := List.eq_nil_of_length_eq_zero h2
    subst h0
    exact ⟨none, 0, rfl, ⟨.inl rfl, Nat.le_refl _, by omega, fun _ => rfl, (fun p hp _ => by cases hp)⟩, (fun p hp => by cases hp), (by simp)⟩
  · have he := OwnE.ents2 h
    exact ⟨some ⟨g, 0, none⟩, cap, rfl, ⟨he, hn, by unfold maxLen at hm; omega, (fun h => by cases h), (fun p hp _ => by cases hp; rfl)⟩, (fun p hp => by cases hp; exact hb), (by simp)⟩
def dropA (a : Option Addr) (c k : Nat) : Option Addr := a.map fun p => if c = k then p else ⟨p.block, p.off + k * 3, none⟩
theorem Cut.take {w : World} {a : Option Addr} {l : List En} {c : Nat} (h : Cut w a l c) (k : Nat) : Cut w a (l.take k) c := by
  refine ⟨?_, Nat.le_trans (by rw [List.length_take]; omega) h.len, h.big, h.none, h.spot⟩
  rcases h.e with rfl | ⟨b, off, e, hlt, hc⟩
  · exact .inl (by simp)
  · exact .inr ⟨b, off, e, hlt, fun j hj => by
      rw [List.length_take] at hj
      rw [List.getElem_take]
      exact hc j (by omega)⟩
theorem Cut.drop {w : World} {a : Option Addr} {l : List En} {c : Nat} (h : Cut w a l c) {k : Nat} (hk : k ≤ l.length) : Cut w (dropA a c k) (l.drop k) (c - k) := by
  have hl := h.len
  refine ⟨?_, by rw [List.length_drop]; omega, by have := h.big; omega, fun e => by
    unfold dropA at e
    have := h.none (by simpa using e)
    omega, fun p hp hcz => by
    unfold dropA at hp
    obtain ⟨q, hq, rfl⟩ := Option.map_eq_some_iff.1 hp
    split
    · omega
    · rfl⟩
  by_cases h0 : l.length = k
  · exact .inl (List.drop_eq_nil_of_le (by omega))
  · rcases h.e with rfl | ⟨b, off, rfl, hlt, hc⟩
    · exact .inl (by simp)
    · refine .inr ⟨b, off + k * 3, ?_, hlt, fun j hj => ?_⟩
      · unfold dropA
        rw [Option.map_some, if_neg (by omega)]
      · rw [List.length_drop] at hj
        rw [List.getElem_drop]
        have := hc (k + j) (by omega)
        rw [show off + k * 3 + j * 3 = off + (k + j) * 3 by omega]
        exact this
theorem under_row {T : TypeId} (hT : T = 25 ∨ T = 22) : ∃ E, Try.prog.underlying T = some (.slice E) ∧ (Try.prog.info? E).map (·.size) = some 3 := by
  rcases hT with rfl | rfl
  · exact ⟨37, Try.underlying25, size37⟩
  · exact ⟨53, Try.underlying22, by kernel_rfl⟩
theorem slice_hi {T : TypeId} (hT : T = 25 ∨ T = 22) {a : Option Addr} {n c k : Nat} (hk : k ≤ c) (hn : n ≤ c) (hb : c ≤ 9223372036854775807) (ha : a = none → c = 0) (hs : ∀ p, a = some p → c ≠ 0 → p.spot = none) (w : World) : (Instr.sliceAt T (.slice a n c) none (some (.int .i64 (k : Int))) none).run Try.prog w = .ok (.slice a k c) w := by
  cases a with
  | none =>
    obtain rfl := ha rfl
    obtain rfl : k = 0 := by omega
    obtain rfl : n = 0 := by omega
    rcases hT with rfl | rfl <;> go_simp
  | some p =>
    obtain ⟨g, off, sp⟩ := p
    have h2 : (k : Int) ≤ (c : Int) := by omega
    by_cases h1 : c = 0
    · subst h1
      obtain rfl : k = 0 := by omega
      rcases hT with rfl | rfl <;> go_simp
    · obtain rfl : sp = none := hs _ rfl h1
      rcases hT with rfl | rfl <;> go_simp
theorem slice_lo {T : TypeId} (hT : T = 25 ∨ T = 22) {a : Option Addr} {n c k : Nat} (hk : k ≤ n) (hn : n ≤ c) (hb : c ≤ 9223372036854775807) (ha : a = none → c = 0) (hs : ∀ p, a = some p → c ≠ 0 → p.spot = none) (w : World) : (Instr.sliceAt T (.slice a n c) (some (.int .i64 (k : Int))) none none).run Try.prog w = .ok (.slice (dropA a c k) (n - k) (c - k)) w := by
  cases a with
  | none =>
    obtain rfl := ha rfl
    obtain rfl : n = 0 := by omega
    obtain rfl : k = 0 := by omega
    rcases hT with rfl | rfl <;> go_simp <;> rfl
  | some p =>
    obtain ⟨g, off, sp⟩ := p
    have h2 : (k : Int) ≤ (n : Int) := by omega
    by_cases h1 : c = k
    · obtain rfl : n = k := by omega
      subst h1
      unfold dropA
      rcases hT with rfl | rfl <;> go_simp
    · obtain rfl : sp = none := hs _ rfl (by omega)
      unfold dropA
      rw [Option.map_some, if_neg h1]
      rcases hT with rfl | rfl <;> go_simp
theorem run_append_cut (S T : Nat) (hST : (S = 25 ∧ T = 37) ∨ (S = 22 ∧ T = 53)) (base : Nat) (v : Value) (l m : List En) (w : World) (hown : OwnE T w base v l) (a : Option Addr) (c : Nat) (hE : Ents w a m) (hc : a = none → c = 0) (hb : l.length + m.length ≤ 100000000) (hbase : base ≤ w.heap.size) (ty : TypeId) :
    ∃ v' w', (Builtin.append_ #[S, S] ty #[v, .slice a m.length c]).run Try.prog w = .ok v' w' ∧ OwnE T w' base v' (l ++ m) ∧ w.grownBy w' v.ownBlock ∧ (v' = .slice none 0 0 ↔ v = .slice none 0 0 ∧ m = []) := by
  cases a with
  | none =>
    have hm : m = [] := by
      rcases hE with h | ⟨b, off, h, _⟩
      · exact h
      · cases h
    subst hm
    obtain rfl := hc rfl
    refine ⟨v, w, ?_, by simpa using hown, ⟨rfl, rfl, rfl, Nat.le_refl _, fun _ _ _ => rfl⟩, by simp⟩
    rcases hST with ⟨rfl, rfl⟩ | ⟨rfl, rfl⟩
    · obtain ⟨i0, hi, _, _, _⟩ := info_parts info37
      exact run_append_owned_none w base 25 ty 37 i0 3 Try.underlying25 hi v _ _ hown
    · obtain ⟨i0, hi, _, _, _⟩ := info_parts info53
      exact run_append_owned_none w base 22 ty 53 i0 3 Try.underlying22 hi v _ _ hown
  | some ad =>
    have hn := news_any hE
    rcases hST with ⟨rfl, rfl⟩ | ⟨rfl, rfl⟩
    · obtain ⟨i0, hi, hz0, hz1, hz2⟩ := info_parts info37
      obtain ⟨v', w', h1, h2, h3, h4⟩ := run_append_own (P := Try.prog) w base 25 ty 37 i0 _ 3 40 Try.underlying25 hi hz0 hz1 hz2 rfl (by decide) v _ _ hown ad m.length c (enRow m) (enRow_length m) hn en_one (by unfold maxLen; omega) (by omega) hbase
      exact ⟨v', w', h1, by unfold OwnE; rw [enRow_append, List.length_append]; exact h2, h3, by rw [h4, List.length_eq_zero_iff]⟩
    · obtain ⟨i0, hi, hz0, hz1, hz2⟩ := info_parts info53
      obtain ⟨v', w', h1, h2, h3, h4⟩ := run_append_own (P := Try.prog) w base 22 ty 53 i0 _ 3 40 Try.underlying22 hi hz0 hz1 hz2 rfl (by decide) v _ _ hown ad m.length c (enRow m) (enRow_length m) hn en_one (by unfold maxLen; omega) (by omega) hbase
      exact ⟨v', w', h1, by unfold OwnE; rw [enRow_append, List.length_append]; exact h2, h3, by rw [h4, List.length_eq_zero_iff]⟩
theorem run_row0 {S T : Nat} (hST : (S = 25 ∧ T = 37) ∨ (S = 22 ∧ T = 53)) (w : World) : (Instr.buildSlice S 0 #[]).run Try.prog w = .ok (.slice (some ⟨w.heap.size, 0, none⟩) 0 0) (w.alloc (.cells #[] T)) := by
  rcases hST with ⟨rfl, rfl⟩ | ⟨rfl, rfl⟩ <;> go_simp
theorem run_row1 {S T : Nat} (hST : (S = 25 ∧ T = 37) ∨ (S = 22 ∧ T = 53)) (e : En) (w : World) : (Instr.buildSlice S 1 #[(0, e.v)]).run Try.prog w = .ok (.slice (some ⟨w.heap.size, 0, none⟩) 1 1) (w.alloc (.cells #[.string e.key, .string e.val, .bool e.gone] T)) := by
  obtain ⟨k, v, g⟩ := e
  unfold En.v
  rcases hST with ⟨rfl, rfl⟩ | ⟨rfl, rfl⟩ <;> go_simp
theorem own_row0 (T : Nat) (w : World) {base : Nat} (hb : base ≤ w.heap.size) : OwnE T (w.alloc (.cells #[] T)) base (.slice (some ⟨w.heap.size, 0, none⟩) 0 0) [] := World.ownsRow_made w #[] 0 hb (Nat.zero_le _) rfl
theorem ents_row1 (w : World) (e : En) (t : TypeId) : Ents (w.alloc (.cells #[.string e.key, .string e.val, .bool e.gone] t)) (some ⟨w.heap.size, 0, none⟩) [e] := by
  refine .inr ⟨w.heap.size, 0, rfl, by simp, fun k hk => ?_⟩
  obtain rfl : k = 0 := by simpa using hk
  exact ⟨by simp, by simp, by simp⟩
theorem at_22 (b o n c k : Nat) (h : k < n) (w : World) : (Instr.indexAt 22 (.slice (some ⟨b, o, none⟩) n c) (.int .i64 (k : Int))).run Try.prog w = .ok (.pointer (some ⟨b, o + k * 3, none⟩)) w := by
  have h1 : (k : Int) < (n : Int) := by omega
  go_simp
theorem size53 : (Try.prog.info? 53).map (·.size) = some 3 := by kernel_rfl
theorem load_53 {p o : Nat} {s : En} {w : World} (h : EnAt w p o s) : (Instr.loadAt 53 (.pointer (some ⟨p, o, none⟩))).run Try.prog w = .ok s.v w :=
  run_loadAt_mid w p o 53 _ _ (at_range h) Try.underlying53 rfl size53
theorem load_9 {w : World} {p : Addr} {s : ByteArray} (h : w.cell? p = some (.string s)) : (Instr.loadAt 9 (.pointer (some p))).run Try.prog w = .ok (.string s) w := by
  go_simp
theorem load_4 {w : World} {p : Addr} {b : Bool} (h : w.cell? p = some (.bool b)) : (Instr.loadAt 4 (.pointer (some p))).run Try.prog w = .ok (.bool b) w := by
  go_simp
end Go.Proofs.Ythglldnhffkefaa
