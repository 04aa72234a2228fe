/- does: one act, as the law does it. Conditions: at most 600000 asks; generations are small; the act is none of versions. -/
import Derived.Test.YtgjkkbgdkdipgaaDoorPyC
namespace Go.Proofs.YtgjkkbgdkdipgaaDoor
open Go.RowKit Go.Op
set_option maxRecDepth 100000

theorem acts1_any {w0 wd w : World} {b c r : Nat} {G : List (Nat × List Sw)} {m : M} {R : Rg} {S P A : List Int} {B : List (Int × Int)} {g V id : Int} {x : Rs} {act : Ac} {K : Nat → Prop} (he : HasE w0 b c r G wd m) (hr : RM g m R.top S P V A B) (hg : g ≤ 15000) (hc : m.count ≤ 600000) (hrg : RgL w0 b c r G wd R S P) (hin : DIn w0 b c r G wd w R act id x V A.length B.length) (hx : RIs (fun z => LocM w0 b c r G wd z ∧ K z) wd x A B) (hV : 0 ≤ V ∧ V ≤ 1000000) (hid : id < 9223372036854775808) (h7 : act.act % 7 ≠ 0) (hac : 0 ≤ act.act ∧ act.act ≤ 255) :
    Calls Tryd.prog 50 (#[.pointer (some ⟨w.heap.size, 0, none⟩)] ++ #[.pointer (some ⟨wd.heap.size + 2, 0, none⟩), .pointer (some ⟨wd.heap.size, 0, none⟩), .pointer (some ⟨wd.heap.size + 1, 0, none⟩), .pointer (some ⟨wd.heap.size + 5, 0, none⟩), .pointer (some ⟨wd.heap.size + 3, 0, none⟩)]) (w.alloc (portObj b)) fun e w' => ∃ u, e = .returned u ∧ u = .iface 4 (.bool true) ∧ POut K w0 b c r G w wd.heap.size R.top S P (g + 1) V (m.count + 410) w' := by
  by_cases h1 : act.act % 7 = 1
  · by_cases hcl : isC S act.pos = true
    · exact act_1a he hr hg hc hrg hin hx hV hid h1 hac hcl
    · exact act_1b he hr hg hc hrg hin hx hV hid h1 hac hcl
  by_cases h2 : act.act % 7 = 2
  · by_cases hv : act.m < 0
    · exact act_2a he hr hg hc hrg hin hx hV hid h2 hac hv
    by_cases hv2 : 1073741824 < act.m
    · exact act_2b he hr hg hc hrg hin hx hV hid h2 hac hv2
    · exact act_2c he hr hg hc hrg hin hx hV hid h2 hac ⟨by omega, by omega⟩
  by_cases h3 : act.act % 7 = 3
  · exact act_3 he hr hg hc hrg hin hx hV hid h3 hac
  by_cases h4 : act.act % 7 = 4
  · by_cases hv : isV act.m = true
    · cases ho : openI 0 B with
      | none => exact act_4a he hr hg hc hrg hin hx hV hid h4 hac (.inr ho)
      | some k => exact act_4b he hr hg hc hrg hin hx hV hid h4 hac hv ho
    · exact act_4a he hr hg hc hrg hin hx hV hid h4 hac (.inl (by simpa using hv))
  by_cases h5 : act.act % 7 = 5
  · cases hf : findI B id with
    | none => exact act_5a he hr hg hc hrg hin hx hV hid h5 hac hf
    | some kb => exact act_5b (kf := kb.1) (bk := kb.2) he hr hg hc hrg hin hx hV hid h5 hac hf
  · exact act_6 he hr hg hc hrg hin hx hV hid (by omega) hac
def Ac.v (a : Ac) : Value := .agg #[.int .u8 a.act, .int .i64 a.pos, .int .i64 a.n, .int .i64 a.m, .bool a.raw]
def Ac.obj (a : Ac) : Obj := .cells #[.int .u8 a.act, .int .i64 a.pos, .int .i64 a.n, .int .i64 a.m, .bool a.raw] 47
def zobj : Obj := .cells #[.int .i64 0, .slice none 0 0, .slice none 0 0] 44
/-- The boxes of does. -/
def dbox (wd : World) (b : Nat) (R : Rg) (x : Rs) (V : Int) (na nb : Nat) (act : Ac) (id : Int) : World := (((((wd.alloc (yobj b R)).alloc (x.obj V na nb)).alloc act.obj).alloc (.cells #[.int .i64 id] 3)).alloc zobj).alloc (.cells #[.int .i64 (-1)] 3)
theorem dbox_in {w0 wd : World} {b c r : Nat} {G : List (Nat × List Sw)} (R : Rg) (x : Rs) (V : Int) (na nb : Nat) (act : Ac) (id : Int) :
    DIn w0 b c r G wd (dbox wd b R x V na nb act id) R act id x V na nb ∧ V3 (dbox wd b R x V na nb act id) (wd.heap.size + 4) 0 (.slice none 0 0) (.slice none 0 0) := by
  unfold dbox
  obtain ⟨w1, e1⟩ : ∃ W, W = wd.alloc (yobj b R) := ⟨_, rfl⟩
  obtain ⟨w2, e2⟩ : ∃ W, W = w1.alloc (x.obj V na nb) := ⟨_, rfl⟩
  obtain ⟨w3, e3⟩ : ∃ W, W = w2.alloc act.obj := ⟨_, rfl⟩
  obtain ⟨w4, e4⟩ : ∃ W, W = w3.alloc (.cells #[.int .i64 id] 3) := ⟨_, rfl⟩
  obtain ⟨w5, e5⟩ : ∃ W, W = w4.alloc zobj := ⟨_, rfl⟩
  obtain ⟨w6, e6⟩ : ∃ W, W = w5.alloc (.cells #[.int .i64 (-1)] 3) := ⟨_, rfl⟩
  rw [← e1, ← e2, ← e3, ← e4, ← e5, ← e6]
  have s1 : w1.heap.size = wd.heap.size + 1 := by rw [e1]; simp
  have s2 : w2.heap.size = wd.heap.size + 2 := by rw [e2]; simp [s1]
  have s3 : w3.heap.size = wd.heap.size + 3 := by rw [e3]; simp [s2]
  have s4 : w4.heap.size = wd.heap.size + 4 := by rw [e4]; simp [s3]
  have s5 : w5.heap.size = wd.heap.size + 5 := by rw [e5]; simp [s4]
  have s6 : w6.heap.size = wd.heap.size + 6 := by rw [e6]; simp [s5]
  have b1 : Below wd.heap.size wd w1 := by rw [e1]; exact (Below.refl _ _).alloc (Nat.le_refl _) _
  have b2 : Below w1.heap.size w1 w2 := by rw [e2]; exact (Below.refl _ _).alloc (Nat.le_refl _) _
  have b3 : Below w2.heap.size w2 w3 := by rw [e3]; exact (Below.refl _ _).alloc (Nat.le_refl _) _
  have b4 : Below w3.heap.size w3 w4 := by rw [e4]; exact (Below.refl _ _).alloc (Nat.le_refl _) _
  have b5 : Below w4.heap.size w4 w5 := by rw [e5]; exact (Below.refl _ _).alloc (Nat.le_refl _) _
  have b6 : Below w5.heap.size w5 w6 := by rw [e6]; exact (Below.refl _ _).alloc (Nat.le_refl _) _
  have b46 : Below w4.heap.size w4 w6 := b5.trans (b6.mono (by omega))
  have b36 : Below w3.heap.size w3 w6 := b4.trans (b46.mono (by omega))
  have b26 : Below w2.heap.size w2 w6 := b3.trans (b36.mono (by omega))
  have b16 : Below w1.heap.size w1 w6 := b2.trans (b26.mono (by omega))
  refine ⟨⟨b1.trans (b16.mono (by omega)), s6, ?_, ?_, ?_, ?_, ?_, ?_⟩, ?_⟩
  · have := ynew wd b R
    rw [← e1] at this
    exact this.same (b16.block _ (by omega))
  · have := V3.new w1 V (.slice x.sa na x.sc) (.slice x.pa nb x.pc)
    rw [show w1.alloc (.cells #[.int .i64 V, .slice x.sa na x.sc, .slice x.pa nb x.pc] 44) = w2 from e2.symm, s1] at this
    exact this.same (b26.block _ (by omega))
  · have k : ∀ i, w6.cell? ⟨wd.heap.size + 2, i, none⟩ = w3.cell? ⟨wd.heap.size + 2, i, none⟩ := fun i => World.cell?_of_block (w := w3) (a := ⟨wd.heap.size + 2, i, none⟩) (b36.block (wd.heap.size + 2) (by omega))
    have k2 : ∀ i, w3.cell? ⟨wd.heap.size + 2, i, none⟩ = (#[.int .u8 act.act, .int .i64 act.pos, .int .i64 act.n, .int .i64 act.m, .bool act.raw] : Array Value)[i]? := fun i => by rw [← s2, e3, Ac.obj, World.cell?_alloc_new]
    unfold AcAt
    rw [k, k, k, k, k, k2, k2, k2, k2, k2]
    exact ⟨rfl, rfl, rfl, rfl, rfl⟩
  · rw [World.cell?_of_block (w := w4) (a := ⟨wd.heap.size + 3, 0, none⟩) (b46.block (wd.heap.size + 3) (by omega)), ← s3, e4, World.cell?_alloc_new]
    rfl
  · rw [← s5, e6, World.cell?_alloc_new]
    rfl
  · intro i
    rw [← s5, e6]
    exact World.frozen?_alloc_at _ 3 _ i rfl
  · have := V3.new w4 0 (.slice none 0 0) (.slice none 0 0)
    rw [show w4.alloc (.cells #[.int .i64 0, .slice none 0 0, .slice none 0 0] 44) = w5 from e5.symm, s4] at this
    exact this.same (b6.block _ (by omega))
/-- Behind does. -/
structure DOut (K : Nat → Prop) (w0 : World) (b c r : Nat) (G : List (Nat × List Sw)) (wd : World) (top : Int) (S P : List Int) (g V q : Int) (x : Rs) (to : Int) (w1 : World) : Prop where
  but : ButN [b, c, r] wd.heap.size wd w1
  out : ∃ G1 m1 A B, HasE w0 b c r G1 w1 m1 ∧ Grow wd G G1 ∧ RM g m1 top S P V A B ∧ RIs (fun z => LocM w0 b c r G1 w1 z ∧ ((z < wd.heap.size ∧ K z) ∨ wd.heap.size + 6 ≤ z)) w1 x A B ∧ m1.count ≤ q
  lo : -1 ≤ to
  hi : to ≤ 100000000
theorem ent_50 (xs : Array Value) (w : World) : (callFunc 50 xs).run Tryd.prog w = .ok (.enter 50 xs) w := by kernel_rfl
set_option maxHeartbeats 4000000 in
theorem does_any {w0 wd : World} {b c r : Nat} {G : List (Nat × List Sw)} {m : M} {R : Rg} {S P A : List Int} {B : List (Int × Int)} {g V id : Int} {x : Rs} {act : Ac} {K : Nat → Prop} (he : HasE w0 b c r G wd m) (hr : RM g m R.top S P V A B) (hg : g ≤ 15000) (hc : m.count ≤ 600000) (hrg : RgL w0 b c r G wd R S P) (hx : RIs (fun z => LocM w0 b c r G wd z ∧ K z) wd x A B) (hV : 0 ≤ V ∧ V ≤ 1000000) (hid : id < 9223372036854775808) (h7 : act.act % 7 ≠ 0) (hac : 0 ≤ act.act ∧ act.act ≤ 255) :
    Calls Tryd.prog 16 #[yv b R, x.v V A.length B.length, act.v, .int .i64 id] wd fun e w' => ∃ x' to, e = .returned (.tuple #[x'.v V S.length P.length, .bool true, .int .i64 to]) ∧ DOut K w0 b c r G wd R.top S P (g + 1) V (m.count + 410) x' to w' := by
  obtain ⟨hin, h4⟩ := dbox_in (w0 := w0) (b := b) (c := c) (r := r) (G := G) (wd := wd) R x V A.length B.length act id
  obtain ⟨w, hw⟩ : ∃ W, W = dbox wd b R x V A.length B.length act id := ⟨_, rfl⟩
  rw [← hw] at hin h4
  have hdo := do_any w b 50 #[.pointer (some ⟨wd.heap.size + 2, 0, none⟩), .pointer (some ⟨wd.heap.size, 0, none⟩), .pointer (some ⟨wd.heap.size + 1, 0, none⟩), .pointer (some ⟨wd.heap.size + 5, 0, none⟩), .pointer (some ⟨wd.heap.size + 3, 0, none⟩)] _ ent_50 (acts1_any he hr hg hc hrg hin hx hV hid h7 hac)
  have H4 := Lib.hid (⟨hin.sz, hin.below, h4, he.locge (w1 := w) (z := wd.heap.size + 4) (by omega) (by have := hin.sz; omega)⟩ : _ ∧ _ ∧ _ ∧ _)
  have y0 := hin.y.c0
  have a4 := as4_yes
  unfold dbox yobj Rs.obj Ac.obj zobj at hw
  unfold yv Rs.v Ac.v
  have HW := Lib.hid hw.symm
  have hAl := hr.al
  have hBl := hr.bl
  have HAB := Lib.hid (⟨hAl, hBl⟩ : _ ∧ _)
  clear he hr hrg hx hV hid h7 hac hin h4 hw hg hc hAl hBl
  go_enter Tryd.func16, Tryd.ntmps16
  go_wp2_with (first | rw [HW.out] | fail)
  refine hdo.mono ?_
  rintro e w3 ⟨u, rfl, rfl, hp⟩
  obtain ⟨G1, m1, A2, B2, x', to, o1, o2, o3, o4, o5, o6, o7, o8, o9⟩ := hp.out
  obtain ⟨hs, hb, h4, l4⟩ := H4.out
  have k4 : w3.heap[wd.heap.size + 4]? = w.heap[wd.heap.size + 4]? := hp.but.block _ l4.lt (by have := l4.ne; simp; omega)
  obtain ⟨r0, r1, r2, rz⟩ := h4.same k4
  obtain ⟨x0, x1, x2, xz⟩ := o5
  have l3 : LocM w0 b c r G1 w3 (wd.heap.size + 4) := l4.later hp.but.size o2
  have HE : Hid (∀ W, W = (put3 w3 (wd.heap.size + 4) V (.slice x'.sa A2.length x'.sc) (.slice x'.pa B2.length x'.pc)).drew → V3 W (wd.heap.size + 4) V (.slice x'.sa A2.length x'.sc) (.slice x'.pa B2.length x'.pc) ∧ DOut K w0 b c r G wd R.top S P (g + 1) V (m.count + 410) x' to W) := by
    rintro W rfl
    have bt := (But.put3 w3 (wd.heap.size + 4) V (.slice x'.sa A2.length x'.sc) (.slice x'.pa B2.length x'.pc)).drew
    refine ⟨((h4.same k4).put _ _ _).drew, ⟨⟨bt.os.trans (hp.but.os.trans hb.os), bt.tape.trans (hp.but.tape.trans hb.tape), bt.output.trans (hp.but.output.trans hb.output), Nat.le_trans hb.size (Nat.le_trans hp.but.size bt.size), fun z hz hn => ?_⟩, ⟨G1, m1, A2, B2, o1.aside bt ⟨l3.ne.1, l3.ne.2.1, l3.ne.2.2, l3.ge, l3.ng⟩, o2.from hb.size, o3, o4.keep (fun z hz _ => ⟨hz.1.later bt.size (Grow.refl _ _), hz.2⟩) bt.size (fun z hz hl => bt.block z hl (by have := hz.2; omega)), o9⟩, o7, o8⟩⟩
    have hsz := hp.but.size
    rw [bt.block z (by omega) (by omega), hp.but.block z (by omega) (by simp at hn ⊢; omega)]
    exact hb.block z hz
  have la : A2.length = S.length := o3.al
  have lb : B2.length = P.length := o3.bl
  rw [la] at x1
  rw [lb] at x2
  rw [la, lb] at HE
  clear hdo hp o1 o2 o3 o4 o7 o8 o9 hs hb h4 l4 k4 l3 la lb HAB H4 HW y0
  go_wp2_with fail
  go_region
  go_wp2_with fail
  obtain ⟨f1, f2⟩ := HE.out _ rfl
  exact bodyPost_ret (results_cell3 (.bool true) (.int .i64 to) Tryd.results16 rfl rfl rfl f1.loadVar) rfl ⟨x', to, rfl, f2⟩
end Go.Proofs.YtgjkkbgdkdipgaaDoor
