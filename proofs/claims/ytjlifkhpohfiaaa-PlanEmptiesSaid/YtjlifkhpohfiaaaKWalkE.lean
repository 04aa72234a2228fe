/- A span in memory: loads, new blocks, stores; what Cut answers; the law's examples hold. No condition. -/
import Derived.Test.YtjlifkhpohfiaaaKWalkD
import Derived.Test.YtjlifkhpohfiaaaVGen
namespace Go.Proofs.Ytjlifkhpohfiaaa
open Go.RowKit Go.Op
set_option maxRecDepth 100000

def Sp.cells (s : Sp) : List Value := [.string s.lo, .string s.hi, .bool s.all]
def zero : Sp := ⟨⟨#[]⟩, ⟨#[]⟩, false⟩
theorem At.keep {p o : Nat} {s : Sp} {w1 w2 : World} (h : At p o s w1) {B : Nat} (hb : Below B w1 w2) (hp : p < B) : At p o s w2 :=
  ⟨by rw [hb.cell (p := ⟨p, o, none⟩) hp]; exact h.1, by rw [hb.cell (p := ⟨p, o + 1, none⟩) hp]; exact h.2.1, by rw [hb.cell (p := ⟨p, o + 2, none⟩) hp]; exact h.2.2⟩
theorem load_ks {p : Nat} {s : Sp} {w : World} (h : At p 0 s w) : (Instr.loadAt 46 (.pointer (some ⟨p, 0, none⟩))).run Try.prog w = .ok s.v w := by
  obtain ⟨h0, h1, h2⟩ := h
  unfold Sp.v
  simp only [Nat.zero_add] at h1 h2
  go_simp
theorem new_ks (w : World) : (Instr.alloc 46 true (.tuple #[])).run Try.prog w = .ok (.pointer (some ⟨w.heap.size, 0, none⟩)) (w.alloc (.cells zero.cells.toArray 46)) := by
  unfold Sp.cells zero
  go_simp
theorem put_ks (s : Sp) (b : Nat) (w : World) (zs : List Value) (hz : zs.length = s.cells.length) (h : Free.Holds b zs w) : (Instr.storeAt 46 (.pointer (some ⟨b, 0, none⟩)) s.v).run Try.prog w = .ok () (w.setCells b 0 s.cells) := by
  obtain ⟨lo, hi, al⟩ := s
  match zs, hz with
  | [x, y, z], _ =>
    obtain ⟨c0, f0⟩ := h 0 x rfl
    obtain ⟨c1, f1⟩ := h 1 y rfl
    obtain ⟨c2, f2⟩ := h 2 z rfl
    unfold Sp.v Sp.cells
    simp only [World.setCells]
    go_simp
theorem holds_at {p : Nat} {s : Sp} {w : World} (h : Free.Holds p s.cells w) : At p 0 s w := ⟨(h 0 _ rfl).1, (h 1 _ rfl).1, (h 2 _ rfl).1⟩
theorem holds_of {p : Nat} {x y z : Value} {w : World} (h0 : w.cell? ⟨p, 0, none⟩ = some x) (h1 : w.cell? ⟨p, 1, none⟩ = some y) (h2 : w.cell? ⟨p, 2, none⟩ = some z)
    (f0 : w.frozen? ⟨p, 0, none⟩ = false) (f1 : w.frozen? ⟨p, 1, none⟩ = false) (f2 : w.frozen? ⟨p, 2, none⟩ = false) : Free.Holds p [x, y, z] w := by
  intro k v hk
  match k, hk with
  | 0, hk => cases hk; exact ⟨h0, f0⟩
  | 1, hk => cases hk; exact ⟨h1, f1⟩
  | 2, hk => cases hk; exact ⟨h2, f2⟩
theorem drew_size (W : World) : W.drew.heap.size = W.heap.size := rfl
end Go.Proofs.Ytjlifkhpohfiaaa
