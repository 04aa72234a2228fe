/- What the law's Plain answers of any box, and Same of two rows that hold the same words. No condition but that the rows lie there. -/
import Derived.Test.YtponiboiijgllaaDoorLWalkN
import Derived.Test.YtponiboiijgllaaDoorBWalkE
namespace Go.Proofs.YtponiboiijgllaaDoor
open Go.RowKit
set_option maxRecDepth 100000

theorem keep3 {w1 w2 : World} {p : Nat} {x y z : Value} (hb : Below w1.heap.size w1 w2) (h : w1.cell? ⟨p, 0, none⟩ = some x ∧ w1.cell? ⟨p, 1, none⟩ = some y ∧ w1.cell? ⟨p, 2, none⟩ = some z ∧ w1.frozen? ⟨p, 0, none⟩ = false ∧ w1.frozen? ⟨p, 1, none⟩ = false ∧ w1.frozen? ⟨p, 2, none⟩ = false) (hp : p < w1.heap.size) :
    w2.cell? ⟨p, 0, none⟩ = some x ∧ w2.cell? ⟨p, 1, none⟩ = some y ∧ w2.cell? ⟨p, 2, none⟩ = some z ∧ w2.frozen? ⟨p, 0, none⟩ = false ∧ w2.frozen? ⟨p, 1, none⟩ = false ∧ w2.frozen? ⟨p, 2, none⟩ = false :=
  ⟨keep hb h.1 hp, keep hb h.2.1 hp, keep hb h.2.2.1 hp, fkeep hb h.2.2.2.1 hp, fkeep hb h.2.2.2.2.1 hp, fkeep hb h.2.2.2.2.2 hp⟩

set_option maxHeartbeats 2000000 in
theorem plainLaw_any (b : Bx) (w : World) : Calls Tryd.prog 24 #[.agg #[b.v]] w fun e w' => e = .returned b.plain ∧ Below w.heap.size w w' := by
  have c0 : ((w.alloc (.cells #[b.v] 52)).alloc (.cells #[.int .i64 0, .int .i64 0, .string ⟨#[]⟩] 43)).cell? ⟨w.heap.size, 0, none⟩ = some b.v := by simp [go_sem]
  have d0 := new_three (w.alloc (.cells #[b.v] 52)) (.int .i64 0) (.int .i64 0) (.string ⟨#[]⟩) 43
  rw [show (w.alloc (.cells #[b.v] 52)).heap.size = w.heap.size + 1 by simp] at d0
  go_enter Tryd.func24, Tryd.ntmps24
  go_wp2_with fail
  refine (asnum_any b _).mono ?_
  rintro e w1 ⟨rfl, b1⟩
  have s1 := b1.size
  simp only [World.alloc, Array.size_push] at s1
  have c1 := keep b1 c0 (by simp; omega)
  have d1 := keep3 b1 d0 (by simp)
  clear c0 d0
  obtain ⟨d10, d11, d12, d13, d14, d15⟩ := d1
  go_wp2_with fail
  refine (asnam_any b _).mono ?_
  rintro e w2 ⟨rfl, b2⟩
  have s2 := b2.size
  have c2 := keep b2 c1 (by omega)
  have d2 := keep3 b2 ⟨d10, d11, d12, d13, d14, d15⟩ (by omega)
  clear c1 d10 d11 d12 d13 d14 d15
  obtain ⟨d10, d11, d12, d13, d14, d15⟩ := d2
  cases hn : b.isNam
  · have HN := Lib.hid hn
    clear hn
    go_wp2_with fail
    refine (astxt_any b _).mono ?_
    rintro e w3 ⟨rfl, b3⟩
    have s3 := b3.size
    have c3 := keep b3 c2 (by omega)
    have d3 := keep3 b3 ⟨d10, d11, d12, d13, d14, d15⟩ (by omega)
    clear c2 d10 d11 d12 d13 d14 d15
    obtain ⟨d10, d11, d12, d13, d14, d15⟩ := d3
    go_wp2_with fail
    refine (kind_any b _).mono ?_
    rintro e w4 ⟨rfl, b4⟩
    have s4 := b4.size
    have d4 := keep3 b4 ⟨d10, d11, d12, d13, d14, d15⟩ (by omega)
    clear c3 d10 d11 d12 d13 d14 d15
    obtain ⟨d10, d11, d12, d13, d14, d15⟩ := d4
    go_wp2
    have hs : b.text = b.str := by
      have := HN.out
      cases b <;> first | rfl | (simp [Bx.isNam] at this)
    refine bodyPost_ret (v := b.plain) (by simp [results, Tryd.results24, go_sem, Bx.plain, hs, d10, d11, d12]) rfl ⟨rfl, ?_⟩
    exact (((((((((Below.refl _ _).alloc (Nat.le_refl _) _).alloc (by simp) _).trans (b1.mono (by simp; omega))).trans (b2.mono (by omega))).trans (b3.mono (by omega))).trans (b4.mono (by omega))).setCell (by simp) _).setCell (by simp) _).setCell (by simp) _
  · have HN := Lib.hid hn
    clear hn
    go_wp2_with fail
    refine (kind_any b _).mono ?_
    rintro e w4 ⟨rfl, b4⟩
    have s4 := b4.size
    have d4 := keep3 b4 ⟨d10, d11, d12, d13, d14, d15⟩ (by omega)
    clear c2 d10 d11 d12 d13 d14 d15
    obtain ⟨d10, d11, d12, d13, d14, d15⟩ := d4
    go_wp2
    have hs : b.name = b.str := by
      have := HN.out
      cases b <;> first | rfl | (simp [Bx.isNam] at this)
    refine bodyPost_ret (v := b.plain) (by simp [results, Tryd.results24, go_sem, Bx.plain, hs, d10, d11, d12]) rfl ⟨rfl, ?_⟩
    exact ((((((((Below.refl _ _).alloc (Nat.le_refl _) _).alloc (by simp) _).trans (b1.mono (by simp; omega))).trans (b2.mono (by omega))).trans (b4.mono (by omega))).setCell (by simp) _).setCell (by simp) _).setCell (by simp) _
end Go.Proofs.YtponiboiijgllaaDoor
