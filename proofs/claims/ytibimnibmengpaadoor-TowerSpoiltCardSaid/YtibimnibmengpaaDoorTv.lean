/- A yard in a variable; its search, its walk, by a port that nobody stops. No condition. -/
import Derived.Test.YtibimnibmengpaaDoorTu
namespace Go.Proofs.YtibimnibmengpaaDoor
open Go.RowKit Go.Op
set_option maxRecDepth 100000

theorem as4_yes (x : Bool) (w : World) : (Instr.typeAssert (.iface 4 (.bool x)) 20 4 true).run Tryd.prog w = .ok (.tuple #[.bool x, .bool true]) w := by kernel_rfl
theorem mkb4 (x : Value) (w : World) : (Instr.makeInterface 4 x).run Tryd.prog w = .ok (.iface 4 x) w := run_makeInterface w 4 x (by kernel_rfl)
theorem he37f (zs : Array Value) (w : World) : (callFunc 37 zs).run Tryd.prog w = .ok (.enter 37 zs) w := by kernel_rfl
section
variable {w0 : World} {b c r pb po : Nat} {t1 : Value} {G G1 : List (Nat × List Value)} {w W : World} {m m1 : M} {s : Pt}
theorem LocM.cellD {Z : List Nat} {z i : Nat} {v : Value} (hz : z ∉ Z) (hlt : z < w.heap.size) (hd : Dgo w0 b c r pb Z w t1 G G1 W m1 s) (hc : w.cell? ⟨z, i, none⟩ = some v) : W.cell? ⟨z, i, none⟩ = some v := by
  rw [World.cell?_of_block (w := w) (a := ⟨z, i, none⟩) (hd.but.block z hlt hz)]
  exact hc
theorem search_call (h : SysE w0 b c r pb po t1 G1 W m1 s) (hq : Quiet s) (f : Nat) (hc : m1.count + 2 * (f : Int) ≤ 600000) (first : Int) (t : ByteArray) (z : Int × Nd × Int) (m2 : M) (hgo : (searchP f first t).go m1 = (some z, m2)) :
    Calls Tryd.prog 17 #[.pointer (some ⟨pb, po, none⟩), .int .i64 first, .string t] W fun e w' => ∃ t2 G2 p, e = .returned (.tuple #[.int .i64 z.1, z.2.1.v p, .int .i64 z.2.2]) ∧ z.2.1.d.In G2 p ∧ Aft w0 b c r pb po t1 G1 W t2 G2 w' m2 s := by
  refine (Search_E h f hc first t (by rw [hq.run, hgo]; simp)).mono ?_
  rintro e w' hE
  obtain ⟨t2, G2, v, rfl, hR, ha⟩ := hE.done hq
  rw [hgo] at hR ha
  obtain ⟨x, p, e1, e2, rfl⟩ := hR
  cases e1
  exact ⟨t2, G2, p, rfl, e2, ha⟩
theorem walks_call (h : SysE w0 b c r pb po t1 G1 W m1 s) (hq : Quiet s) (f : Nat) (hc : m1.count + (f : Int) * 1013 ≤ 400000) (hf : f ≤ 200000) (first : Int) (l : List Nod) (hne : l ≠ []) (m2 : M) (hgo : (walkP 1 f first []).go m1 = (some (l.map Nod.vw, 0), m2)) :
    Calls Tryd.prog 19 #[.pointer (some ⟨pb, po, none⟩), .int .i64 first] W fun e w' => ∃ t2 G2 g cap vl, e = .returned (.tuple #[.slice (some ⟨g, 0, none⟩) l.length cap, .int .i64 0]) ∧ Walked G2 W.heap.size w' g cap vl l ∧ Aft w0 b c r pb po t1 G1 W t2 G2 w' m2 s := by
  refine (Walk_E h 1 f (by omega) hf first (by rw [hq.run, hgo]; simp)).mono ?_
  rintro e w' ⟨hE, hfz⟩
  obtain ⟨t2, G2, v, rfl, hR, ha⟩ := hE.done hq
  rw [hgo] at hR ha
  obtain ⟨g, cap, vl, rfl, hw⟩ := walked ha.sys hne hR hfz
  exact ⟨t2, G2, g, cap, vl, rfl, hw, ha⟩
end
/-- A yard in a variable. -/
structure Yw (w0 : World) (b c r : Nat) (G : List (Nat × List Value)) (m : M) (gl ol cl gt ot ct gh oh ch n : Nat) (l : List Nod) (lows : List ByteArray) (hts : List Int) (zy : Nat) (w : World) : Prop where
  has : HasE w0 b c r G w m
  good : Good m lows hts l
  nn : n = lows.length
  la : (⟨some ⟨gl, ol, none⟩, n, cl⟩ : Sl).In G (strs lows)
  ta : (⟨some ⟨gt, ot, none⟩, n, ct⟩ : Sl).In G (ints hts)
  ha : (⟨some ⟨gh, oh, none⟩, n, ch⟩ : Sl).In G (ints (l.map Nod.h))
  var : SVar w zy [.pointer (some ⟨b, 0, none⟩), .slice (some ⟨gl, ol, none⟩) n cl, .slice (some ⟨gt, ot, none⟩) n ct, .slice (some ⟨gh, oh, none⟩) n ch]
  zne : zy ≠ b ∧ zy ≠ c ∧ zy ≠ r
theorem lt_of_lists (x y : List UInt8) : lt ⟨⟨x⟩⟩ ⟨⟨y⟩⟩ = bytesLess x y := by
  unfold lt
  rw [ByteArray.toList_eq, ByteArray.toList_eq]
theorem Good.search {m m1 : M} {lows : List ByteArray} {hts : List Int} {l : List Nod} (h : Good m lows hts l) (hR : RowOk m1 l) (t : ByteArray) {i : Nat} {x : Nod} (hx : l[i]? = some x) (hlow : lt t x.nd.low = false) :
    ∃ j z m', l[j]? = some z ∧ i ≤ j ∧ lt t z.nd.low = false ∧ (∀ y, lows[j + 1]? = some y → lt t y = true) ∧ (searchP 60 x.h t).go m1 = (some (z.h, z.nd, 0), m') ∧ AskN m1 m' (2 * (((l.length - 1 - i) + x.links.length : Nat) : Int) + 1) := by
  obtain ⟨j, z, m', q1, q2, q3, q4, q5, q6⟩ := search_go t hR hx hlow 60 (by have := h.hs hx; have := h.ll; have := h.few; omega)
  refine ⟨j, z, m', q1, q2, q3, fun y hy => ?_, q5, q6⟩
  obtain ⟨y', hy', e⟩ := h.at_ hy
  rw [← e]
  exact q4 y' hy'
theorem Good.walk {m m1 : M} {lows : List ByteArray} {hts : List Int} {l : List Nod} (h : Good m lows hts l) (hR : RowOk m1 l) {x : Nod} (hx : l[0]? = some x) :
    ∃ m', (walkP 1 41 x.h []).go m1 = (some (l.map Nod.vw, 0), m') ∧ AskN m1 m' ((l.length : Int) * 12) := by
  obtain ⟨m', e1, e2⟩ := walks_go 1 (Nat.le_refl _) (C := 12) (l := l) (fun y hy => by
    obtain ⟨i, hi, rfl⟩ := List.mem_iff_getElem.1 hy
    have := h.hs (List.getElem?_eq_getElem hi)
    omega) 41 0 m1 x [] hR hx (by have := h.ll; have := h.few; omega)
  rw [List.drop_zero, List.nil_append] at e1
  exact ⟨m', e1, by rwa [Nat.sub_zero] at e2⟩
theorem Good.cnt {m : M} {lows : List ByteArray} {hts : List Int} {l : List Nod} (h : Good m lows hts l) : m.count ≤ 492 := by
  have := h.suf.cnt
  have := h.ll
  have := h.few
  omega
end Go.Proofs.YtibimnibmengpaaDoor
