/- A row of the law's nodes, read as data: what stands in memory; numbers of 8 and of 32 bits. No condition. -/
import Derived.Test.YtjlifkhpohfiaaaMa
import Derived.Deep.Slices
import Derived.Deep.Fields
import Derived.ProofKit
import Derived.OpenShut
import Derived.ShutString
import Derived.Lib.SmallJoins
namespace Go.Proofs.Ytjlifkhpohfiaaa
open Go.RowKit Go.ChangeShapes Go.WideShapes Go.Deep
set_option maxRecDepth 100000

theorem nat_u8 {x : Int} (h : (Lit.int .u8 x).wf = true) : ∃ n : Nat, x = (n : Int) ∧ n < 256 := by
  simp [Lit.wf, IntKind.min, IntKind.max, IntKind.signed, IntKind.bits] at h
  exact ⟨x.toNat, by omega, by omega⟩
theorem nat_u32 {x : Int} (h : (Lit.int .u32 x).wf = true) : ∃ n : Nat, x = (n : Int) ∧ n < 4294967296 := by
  simp [Lit.wf, IntKind.min, IntKind.max, IntKind.signed, IntKind.bits] at h
  exact ⟨x.toNat, by omega, by omega⟩
section
variable {H : Type} {enc : TypeId × Value → H} {w : World} {base : Nat} {spare : Nat → Bool} {held : Bool}
theorem cells66 : Try.prog.cellsOf 66 = 6 := by kernel_rfl
theorem cells4 : Try.prog.cellsOf 4 = 1 := by kernel_rfl
theorem cells5 : Try.prog.cellsOf 5 = 1 := by kernel_rfl
theorem open_elem {n : Nat} {cs : List Value} {x : DataW H × List MemPlace} (h : DataW.trod enc Try.prog w base spare held n 66 cs = some x) :
    ∃ e : Spc, cs = e.cells ∧ e.Ok := by
  obtain ⟨ys, n', _, _, hlen, hyl, hf⟩ := DataW.trod_struct Try.underlying66 h
  rw [cells66] at hlen
  match cs, hlen with
  | [c0, c1, c2, c3, c4, c5], _ =>
    match ys, hyl with
    | [y0, y1, y2, y3, y4, y5], _ =>
      have h0 : DataW.trod enc Try.prog w base spare held n' 5 (([c0, c1, c2, c3, c4, c5].drop 0).take (Try.prog.cellsOf 5)) = [y0, y1, y2, y3, y4, y5][0]? := hf 0 _ rfl
      have h1 : DataW.trod enc Try.prog w base spare held n' 5 (([c0, c1, c2, c3, c4, c5].drop 1).take (Try.prog.cellsOf 5)) = [y0, y1, y2, y3, y4, y5][1]? := hf 1 _ rfl
      have h2 : DataW.trod enc Try.prog w base spare held n' 5 (([c0, c1, c2, c3, c4, c5].drop 2).take (Try.prog.cellsOf 5)) = [y0, y1, y2, y3, y4, y5][2]? := hf 2 _ rfl
      have h3 : DataW.trod enc Try.prog w base spare held n' 5 (([c0, c1, c2, c3, c4, c5].drop 3).take (Try.prog.cellsOf 5)) = [y0, y1, y2, y3, y4, y5][3]? := hf 3 _ rfl
      have h4 : DataW.trod enc Try.prog w base spare held n' 4 (([c0, c1, c2, c3, c4, c5].drop 4).take (Try.prog.cellsOf 4)) = [y0, y1, y2, y3, y4, y5][4]? := hf 4 _ rfl
      have h5 : DataW.trod enc Try.prog w base spare held n' 4 (([c0, c1, c2, c3, c4, c5].drop 5).take (Try.prog.cellsOf 4)) = [y0, y1, y2, y3, y4, y5][5]? := hf 5 _ rfl
      rw [cells5] at h0 h1 h2 h3
      rw [cells4] at h4 h5
      obtain ⟨a, e0, _, wa⟩ := DataW.trod_int Try.underlying5 (show DataW.trod enc Try.prog w base spare held n' 5 [c0] = some y0 from h0)
      obtain ⟨b, e1, _, wb⟩ := DataW.trod_int Try.underlying5 (show DataW.trod enc Try.prog w base spare held n' 5 [c1] = some y1 from h1)
      obtain ⟨c, e2, _, wc⟩ := DataW.trod_int Try.underlying5 (show DataW.trod enc Try.prog w base spare held n' 5 [c2] = some y2 from h2)
      obtain ⟨d, e3, _, wd⟩ := DataW.trod_int Try.underlying5 (show DataW.trod enc Try.prog w base spare held n' 5 [c3] = some y3 from h3)
      obtain ⟨t, e4, _⟩ := DataW.trod_bool Try.underlying4 (show DataW.trod enc Try.prog w base spare held n' 4 [c4] = some y4 from h4)
      obtain ⟨g, e5, _⟩ := DataW.trod_bool Try.underlying4 (show DataW.trod enc Try.prog w base spare held n' 4 [c5] = some y5 from h5)
      simp only [List.cons.injEq, and_true] at e0 e1 e2 e3 e4 e5
      obtain ⟨a, rfl, ha⟩ := nat_u8 wa
      obtain ⟨b, rfl, hb⟩ := nat_u8 wb
      obtain ⟨c, rfl, hc⟩ := nat_u8 wc
      obtain ⟨d, rfl, hd⟩ := nat_u8 wd
      exact ⟨⟨a, b, c, d, t, g⟩, by rw [e0, e1, e2, e3, e4, e5]; rfl, ha, hb, hc, hd⟩
theorem open_specs {a0 : Option Addr} {len cap : Nat} {d : DataW H} {p : List MemPlace} (h : DataW.Trod enc Try.prog w base (fun _ => true) held 22 (.slice a0 len cap) d p) : ∃ l : List Spc, l.length = len ∧ Specs w a0 l := by
  obtain ⟨fuel, h⟩ := h
  have nil : Specs w a0 [] := ⟨.inl rfl, fun x hx => (by cases hx)⟩
  rcases open_slice Try.underlying22 h with ⟨hcs, _⟩ | ⟨a, len', cap', m, n, D, Pl, hcs, _, hl, _, hm, _, hi⟩
  · simp [Value.cells] at hcs
    obtain ⟨rfl, rfl, rfl⟩ := hcs
    exact ⟨[], rfl, nil⟩
  · simp [Value.cells] at hcs
    obtain ⟨rfl, rfl, rfl⟩ := hcs
    by_cases h0 : len = 0
    · subst h0
      exact ⟨[], rfl, nil⟩
    · have hmc : m = cap := by simpa using hm
      have hel : ∀ i : Nat, ∃ e : Spc, e.Ok ∧ (i < len → ∀ k u, e.cells[k]? = some u → w.cell? (a.add (i * 6 + k)) = some u) := by
        intro i
        by_cases hil : i < len
        · obtain ⟨cs', hc, ht⟩ := hi i (by omega)
          rw [cells66] at hc
          obtain ⟨e, rfl, hok⟩ := open_elem ht
          obtain ⟨_, _, hat⟩ := World.cells?_some hc
          refine ⟨e, hok, fun _ k u hu => ?_⟩
          have hk : k < 6 := (List.getElem?_eq_some_iff.1 hu).1
          have h2 := hat k hk
          rw [Go.Deep.add_add] at h2
          rw [h2]
          exact hu
        · exact ⟨⟨0, 0, 0, 0, false, false⟩, ⟨by decide, by decide, by decide, by decide⟩, fun k => absurd k hil⟩
      obtain ⟨f, hf⟩ := Classical.axiomOfChoice hel
      obtain ⟨b, off, spot⟩ := a
      have hc0 := (hf 0).2 (by omega) 0 _ rfl
      have hspot : spot = none := by simpa [Addr.add] using World.cell?_spot hc0
      subst hspot
      have ad : ∀ j, (⟨b, off, none⟩ : Addr).add j = ⟨b, off + j, none⟩ := fun j => by simp [Addr.add]
      refine ⟨(List.range len).map f, by simp, .inr ⟨b, off, rfl, World.block_lt_of_cell? w _ hc0, fun j u hj => ?_⟩, fun x hx => ?_⟩
      · have hl2 := flat_length Spc.cells 6 (fun _ => rfl) ((List.range len).map f)
        have hjl : j < len * 6 := by
          have := (List.getElem?_eq_some_iff.1 hj).1
          rw [hl2] at this
          simpa using this
        have hk : ((List.range len).map f)[j / 6]? = some (f (j / 6)) := by simp [show j / 6 < len by omega]
        obtain ⟨v, hv⟩ : ∃ v, (f (j / 6)).cells[j % 6]? = some v := ⟨_, List.getElem?_eq_getElem (show j % 6 < 6 from Nat.mod_lt _ (by decide))⟩
        have h2 := flat_get Spc.cells 6 (fun _ => rfl) hk (j % 6) v hv
        rw [show j / 6 * 6 + j % 6 = j by omega] at h2
        rw [h2] at hj
        cases hj
        have h3 := (hf (j / 6)).2 (by omega) (j % 6) _ hv
        rw [ad, show j / 6 * 6 + j % 6 = j by omega] at h3
        exact h3
      · obtain ⟨i, _, rfl⟩ := List.mem_map.1 hx
        exact (hf i).1
end
end Go.Proofs.Ytjlifkhpohfiaaa
