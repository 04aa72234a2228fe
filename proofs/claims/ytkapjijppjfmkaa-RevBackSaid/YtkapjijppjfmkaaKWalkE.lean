/- A span in memory: loads, new blocks, stores; what Cut answers; the law's examples hold. No condition. -/
import Derived.Test.YtkapjijppjfmkaaKWalkC
import Derived.Test.YtkapjijppjfmkaaKWalkD
import Derived.Test.YtkapjijppjfmkaaFreeB
namespace Go.Proofs.Ytkapjijppjfmkaa
open Go.RowKit Go.Op
set_option maxRecDepth 100000

def Sp.cells (s : Sp) : List Value := [.string s.lo, .string s.hi, .bool s.all]
def zero : Sp := ⟨⟨#[]⟩, ⟨#[]⟩, false⟩
theorem At.keep {p o : Nat} {s : Sp} {w1 w2 : World} (h : At p o s w1) {B : Nat} (hb : Below B w1 w2) (hp : p < B) : At p o s w2 :=
  ⟨by rw [hb.cell (p := ⟨p, o, none⟩) hp]; exact h.1, by rw [hb.cell (p := ⟨p, o + 1, none⟩) hp]; exact h.2.1, by rw [hb.cell (p := ⟨p, o + 2, none⟩) hp]; exact h.2.2⟩
theorem load_rs {p : Nat} {s : Sp} {w : World} (h : At p 0 s w) : (Instr.loadAt 23 (.pointer (some ⟨p, 0, none⟩))).run Try.prog w = .ok s.v w := by
  obtain ⟨h0, h1, h2⟩ := h
  unfold Sp.v
  simp only [Nat.zero_add] at h1 h2
  go_simp
theorem load_ks {p : Nat} {s : Sp} {w : World} (h : At p 0 s w) : (Instr.loadAt 28 (.pointer (some ⟨p, 0, none⟩))).run Try.prog w = .ok s.v w := by
  obtain ⟨h0, h1, h2⟩ := h
  unfold Sp.v
  simp only [Nat.zero_add] at h1 h2
  go_simp
theorem new_ks (w : World) : (Instr.alloc 28 true (.tuple #[])).run Try.prog w = .ok (.pointer (some ⟨w.heap.size, 0, none⟩)) (w.alloc (.cells zero.cells.toArray 28)) := by
  unfold Sp.cells zero
  go_simp
theorem put_ks (s : Sp) (b : Nat) (w : World) (zs : List Value) (hz : zs.length = s.cells.length) (h : Free.Holds b zs w) : (Instr.storeAt 28 (.pointer (some ⟨b, 0, none⟩)) s.v).run Try.prog w = .ok () (w.setCells b 0 s.cells) := by
  obtain ⟨lo, hi, al⟩ := s
  match zs, hz with
  | [x, y, z], _ =>
    obtain ⟨c0, f0⟩ := h 0 x rfl
    obtain ⟨c1, f1⟩ := h 1 y rfl
    obtain ⟨c2, f2⟩ := h 2 z rfl
    unfold Sp.v Sp.cells
    simp only [World.setCells]
    go_simp
theorem holds_at {p : Nat} {s : Sp} {w : World} (h : Free.Holds p s.cells w) : At p 0 s w := ⟨(h 0 _ rfl).1, (h 1 _ rfl).1, (h 2 _ rfl).1⟩
theorem holds_of {p : Nat} {x y z : Value} {w : World} (h0 : w.cell? ⟨p, 0, none⟩ = some x) (h1 : w.cell? ⟨p, 1, none⟩ = some y) (h2 : w.cell? ⟨p, 2, none⟩ = some z)
    (f0 : w.frozen? ⟨p, 0, none⟩ = false) (f1 : w.frozen? ⟨p, 1, none⟩ = false) (f2 : w.frozen? ⟨p, 2, none⟩ = false) : Free.Holds p [x, y, z] w := by
  intro k v hk
  match k, hk with
  | 0, hk => cases hk; exact ⟨h0, f0⟩
  | 1, hk => cases hk; exact ⟨h1, f1⟩
  | 2, hk => cases hk; exact ⟨h2, f2⟩
theorem drew_size (W : World) : W.drew.heap.size = W.heap.size := rfl
theorem enter_of (xs : Array Value) (w : World) : (callFunc 11 xs).run Try.prog w = .ok (.enter 11 xs) w := by kernel_rfl
theorem enter_29 (xs : Array Value) (w : World) : (callFunc 29 xs).run Try.prog w = .ok (.enter 29 xs) w := by kernel_rfl

theorem make_hi (k : ByteArray) (w : World) : (Instr.build 28 (Free.zipped [1] [.string k])).run Try.prog w = .ok (Sp.mk ⟨#[]⟩ k false).v w := by
  unfold Free.zipped Sp.v
  go_simp
theorem make_lo (k : ByteArray) (w : World) : (Instr.build 28 (Free.zipped [0, 2] [.string k, .bool true])).run Try.prog w = .ok (Sp.mk k ⟨#[]⟩ true).v w := by
  unfold Free.zipped Sp.v
  go_simp

set_option maxHeartbeats 2000000 in
theorem cut_any (s : Sp) (k : ByteArray) (w : World) : Calls Try.prog 48 #[s.v, .string k] w fun e w' => e = .returned (.tuple #[(s.meet ⟨no, k, false⟩).v, (s.meet ⟨k, no, true⟩).v]) ∧ Below w.heap.size w w' := by
  obtain ⟨lo, hi, al⟩ := s
  obtain ⟨A, hA⟩ : ∃ A, A = (Sp.mk lo hi al).meet ⟨no, k, false⟩ := ⟨_, rfl⟩
  obtain ⟨B, hB⟩ : ∃ B, B = (Sp.mk lo hi al).meet ⟨k, no, true⟩ := ⟨_, rfl⟩
  have ma := meet_any (Sp.mk lo hi al) ⟨no, k, false⟩
  have mb := meet_any (Sp.mk lo hi al) ⟨k, no, true⟩
  rw [← hA] at ma ⊢
  rw [← hB] at mb ⊢
  clear hA hB
  simp only [Sp.v] at ma mb ⊢
  go_enter Try.func48, Try.ntmps48
  go_wp2_with fail
  refine Free.region_puts (S := fun w' => At w.heap.size 0 ⟨lo, hi, al⟩ w') (B0 := w.heap.size + 1) (w0 := _) (om := fun i => w.heap.size + 1 + i) (olds := [(0, zero.cells), (1, zero.cells)])
    (tab := [(0, .load 28 ⟨w.heap.size, 0, none⟩ (Sp.mk lo hi al).v), (2, .make 28 [1] [.string k] (Sp.mk no k false).v), (3, .call 29 [(Sp.mk lo hi al).v, (Sp.mk no k false).v] A.v),
      (4, .load 28 ⟨w.heap.size, 0, none⟩ (Sp.mk lo hi al).v), (6, .make 28 [0, 2] [.string k, .bool true] (Sp.mk k no true).v), (7, .call 29 [(Sp.mk lo hi al).v, (Sp.mk k no true).v] B.v),
      (8, .put 28 (.old 0) A.v A.cells), (9, .put 28 (.old 1) B.v B.cells)])
    (by kernel_rfl) ⟨by kernel_rfl, ⟨fun _ h => load_ks h, make_hi k, ⟨enter_29, fun w _ => ma w⟩, fun _ h => load_ks h, make_lo k, ⟨enter_29, fun w _ => mb w⟩, put_ks _, put_ks _, trivial⟩, fun β => by kernel_rfl, fun β => by kernel_rfl, fun β => by kernel_rfl, by kernel_rfl, fun w1 w2 h hb => h.keep hb (Nat.lt_succ_self _), ?_, ?_, ?_⟩ ?_ rfl ?_
    (fun _ => [(6, (Sp.mk lo hi al).v), (7, .string k), (8, (Sp.mk no k false).v), (9, A.v), (10, (Sp.mk lo hi al).v), (11, .string k), (12, (Sp.mk k no true).v), (13, B.v)]) (fun β => by kernel_rfl) ?_
  · simp
  · intro p zs hp
    simp at hp
    rw [drew_size]
    simp
    omega
  · intro p q zs zs' hp hq hne
    simp at hp hq
    simp
    omega
  · exact ⟨by simp [go_sem], by simp [go_sem], by simp [go_sem]⟩
  · intro p zs hp
    simp at hp
    rcases hp with ⟨rfl, rfl⟩ | ⟨rfl, rfl⟩
    · exact holds_of (by simp [go_sem]; rfl) (by simp [go_sem]; rfl) (by simp [go_sem]; rfl) (by simp [go_sem]) (by simp [go_sem]) (by simp [go_sem])
    · exact holds_of (by simp [go_sem]; rfl) (by simp [go_sem]; rfl) (by simp [go_sem]; rfl) (by simp [go_sem]) (by simp [go_sem]) (by simp [go_sem])
  · intro β w' h1 h2 h3 h4 h5 h6
    have g1 : At (w.heap.size + 1) 0 A w' := holds_at (h6 0 _ (List.mem_cons_self ..))
    have g2 : At (w.heap.size + 1 + 1) 0 B w' := holds_at (h6 1 _ (List.mem_cons_of_mem _ (List.mem_cons_self ..)))
    obtain ⟨c1, c2, c3⟩ := g1
    obtain ⟨d1, d2, d3⟩ := g2
    simp only [Nat.zero_add] at c2 c3 d2 d3
    clear h4 h5 h6
    unfold Free.puts
    simp only [List.foldl_cons, List.foldl_nil]
    go_wp2
    refine bodyPost_ret (v := .tuple #[A.v, B.v]) (by simp [results, Try.results48, go_sem, Act.put, Sp.v, *]) rfl ⟨rfl, ?_⟩
    exact ((((((Below.refl _ _).alloc (Nat.le_refl _) _).alloc (by simp) _).alloc (by simp <;> omega) _).drew).trans (h3.mono (Nat.le_succ _)))
end Go.Proofs.Ytkapjijppjfmkaa
