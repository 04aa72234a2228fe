/- A row of entries of the reference, read as data: what stands in memory. No condition. -/
import Derived.Test.YthglldnhffkefaaTGen
import Derived.Test.YthglldnhffkefaaKOpen
import Derived.Deep.Slices
import Derived.Deep.Fields
namespace Go.Proofs.Ythglldnhffkefaa
open Go.RowKit Go.ChangeShapes Go.WideShapes Go.Deep
set_option maxRecDepth 100000

section
variable {H : Type} {enc : TypeId × Value → H} {w : World} {base : Nat} {spare : Nat → Bool} {held : Bool}
theorem cells53 : Try.prog.cellsOf 53 = 3 := by kernel_rfl
theorem cells4 : Try.prog.cellsOf 4 = 1 := by kernel_rfl
theorem cells9 : Try.prog.cellsOf 9 = 1 := by kernel_rfl
theorem open_elem {n : Nat} {cs : List Value} {x : DataW H × List MemPlace} (h : DataW.trod enc Try.prog w base spare held n 53 cs = some x) :
    ∃ e : En, cs = [.string e.key, .string e.val, .bool e.gone] := by
  obtain ⟨ys, n', _, _, hlen, hyl, hf⟩ := DataW.trod_struct Try.underlying53 h
  rw [cells53] at hlen
  match cs, hlen with
  | [c0, c1, c2], _ =>
    match ys, hyl with
    | [y0, y1, y2], _ =>
      have h0 : DataW.trod enc Try.prog w base spare held n' 9 (([c0, c1, c2].drop 0).take (Try.prog.cellsOf 9)) = [y0, y1, y2][0]? := hf 0 _ rfl
      have h1 : DataW.trod enc Try.prog w base spare held n' 9 (([c0, c1, c2].drop 1).take (Try.prog.cellsOf 9)) = [y0, y1, y2][1]? := hf 1 _ rfl
      have h2 : DataW.trod enc Try.prog w base spare held n' 4 (([c0, c1, c2].drop 2).take (Try.prog.cellsOf 4)) = [y0, y1, y2][2]? := hf 2 _ rfl
      rw [cells9] at h0 h1
      rw [cells4] at h2
      obtain ⟨k, e0, _, _⟩ := DataW.trod_string Try.underlying9 (show DataW.trod enc Try.prog w base spare held n' 9 [c0] = some y0 from h0)
      obtain ⟨v, e1, _, _⟩ := DataW.trod_string Try.underlying9 (show DataW.trod enc Try.prog w base spare held n' 9 [c1] = some y1 from h1)
      obtain ⟨g, e2, _⟩ := DataW.trod_bool Try.underlying4 (show DataW.trod enc Try.prog w base spare held n' 4 [c2] = some y2 from h2)
      simp only [List.cons.injEq, and_true] at e0 e1 e2
      exact ⟨⟨k, v, g⟩, by rw [e0, e1, e2]⟩
theorem open_ents {a0 : Option Addr} {len cap : Nat} {d : DataW H} {p : List MemPlace} (h : DataW.Trod enc Try.prog w base (fun _ => true) held 22 (.slice a0 len cap) d p) : ∃ l : List En, l.length = len ∧ Cut w a0 l cap := by
  obtain ⟨fuel, h⟩ := h
  rcases open_slice Try.underlying22 h with ⟨hcs, _⟩ | ⟨a, len', cap', m, n, D, Pl, hcs, _, hl, hmx, hm, _, hi⟩
  · simp [Value.cells] at hcs
    obtain ⟨rfl, rfl, rfl⟩ := hcs
    exact ⟨[], rfl, ⟨.inl rfl, Nat.le_refl _, by omega, fun _ => rfl, (fun p hp _ => by cases hp)⟩⟩
  · simp [Value.cells] at hcs
    obtain ⟨rfl, rfl, rfl⟩ := hcs
    have hmc : m = cap := by simpa using hm
    have hbig : cap ≤ 9223372036854775807 := by unfold maxLen at hmx; omega
    by_cases h0 : len = 0
    · subst h0
      refine ⟨[], rfl, ⟨.inl rfl, hl, hbig, (fun h => by cases h), fun p hp hc => ?_⟩⟩
      cases hp
      obtain ⟨cs', hc', ht⟩ := hi 0 (by omega)
      rw [cells53] at hc'
      obtain ⟨e, rfl⟩ := open_elem ht
      obtain ⟨_, _, hat⟩ := World.cells?_some hc'
      have h9 := hat 0 (by omega)
      rw [Go.Deep.add_add] at h9
      simpa [Addr.add] using World.cell?_spot h9
    · have hel : ∀ i : Nat, ∃ e : En, i < len → (w.cell? (a.add (i * 3)) = some (.string e.key) ∧ w.cell? (a.add (i * 3 + 1)) = some (.string e.val) ∧ w.cell? (a.add (i * 3 + 2)) = some (.bool e.gone)) := by
        intro i
        by_cases hil : i < len
        · obtain ⟨cs', hc, ht⟩ := hi i (by omega)
          rw [cells53] at hc
          obtain ⟨e, rfl⟩ := open_elem ht
          obtain ⟨_, _, hat⟩ := World.cells?_some hc
          refine ⟨e, fun _ => ⟨?_, ?_, ?_⟩⟩
          · have := hat 0 (by omega)
            rw [Go.Deep.add_add] at this
            exact this
          · have := hat 1 (by omega)
            rw [Go.Deep.add_add] at this
            exact this
          · have := hat 2 (by omega)
            rw [Go.Deep.add_add] at this
            exact this
        · exact ⟨⟨⟨#[]⟩, ⟨#[]⟩, false⟩, fun k => absurd k hil⟩
      obtain ⟨f, hf⟩ := Classical.axiomOfChoice hel
      obtain ⟨b, off, spot⟩ := a
      have hc0 := (hf 0 (by omega)).1
      have hspot : spot = none := by simpa [Addr.add] using World.cell?_spot hc0
      subst hspot
      have ad : ∀ j, (⟨b, off, none⟩ : Addr).add j = ⟨b, off + j, none⟩ := fun j => by simp [Addr.add]
      have hlen : ((List.range len).map f).length = len := by simp
      refine ⟨(List.range len).map f, hlen, ⟨.inr ⟨b, off, rfl, World.block_lt_of_cell? w _ hc0, fun k hk => ?_⟩, by rw [hlen]; exact hl, hbig, (fun h => by cases h), (fun p hp _ => by cases hp; rfl)⟩⟩
      have hk' : k < len := by rw [hlen] at hk; exact hk
      obtain ⟨e1, e2, e3⟩ := hf k hk'
      rw [ad] at e1 e2 e3
      simp only [List.getElem_map, List.getElem_range]
      exact ⟨e1, e2, e3⟩
end
end Go.Proofs.Ythglldnhffkefaa
