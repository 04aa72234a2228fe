/- What a row that lay made is: right; whom a search of it finds; what a walk of it leaves. No condition. -/
import Derived.Test.YtibimnibmengpaaDoorTt
namespace Go.Proofs.YtibimnibmengpaaDoor
open Go.RowKit Go.Op
set_option maxRecDepth 100000

theorem toF_toN (lv : Int) : ∀ (vl : List (Vw × Vs)) (l : List Nod), vl.map Prod.fst = l.map Nod.vw → toF lv vl = toN lv l
  | [], [], _ => rfl
  | [], _ :: _, h => by simp at h
  | _ :: _, [], h => by simp at h
  | x :: vl, y :: l, h => by
    rw [List.map_cons, List.map_cons] at h
    have h1 := (List.cons.inj h).1
    have h2 := (List.cons.inj h).2
    rw [toF, toN, toF_toN lv vl l h2, h1]
    rfl
/-- A row as lay makes it. -/
structure Good (m : M) (lows : List ByteArray) (hts : List Int) (l : List Nod) : Prop where
  suf : Suf m lows hts 0 l
  up : lows.Pairwise fun a b => lt a b = true
  zero : lows[0]? = some ⟨#[]⟩
  len : hts.length = lows.length
  pos : ∀ x, x ∈ hts → 0 < x ∧ x ≤ 8
  most : ∀ x y, x ∈ hts → hts[0]? = some y → x ≤ y
  few : lows.length ≤ 41
section
variable {m : M} {lows : List ByteArray} {hts : List Int} {l : List Nod}
theorem Good.ll (h : Good m lows hts l) : l.length = lows.length := by have := h.suf.len; omega
theorem Good.ok (h : Good m lows hts l) : RowOk m l := h.suf.ok fun x hx => ⟨(h.pos x hx).1, by have := (h.pos x hx).2; omega⟩
theorem Good.nod (h : Good m lows hts l) {i : Nat} {x : Nod} (hx : l[i]? = some x) : NodAt m x ∧ lows[i]? = some x.nd.low ∧ hts[i]? = some (x.links.length : Int) ∧ x.rv = revOf lows i := by
  obtain ⟨q1, q2, q3, q4, -⟩ := h.suf.nod i x hx
  rw [Nat.zero_add] at q2 q3 q4
  exact ⟨q1, q2, q3, q4⟩
theorem Good.at_ (h : Good m lows hts l) {i : Nat} {x : ByteArray} (hx : lows[i]? = some x) : ∃ y, l[i]? = some y ∧ y.nd.low = x := by
  obtain ⟨y, hy⟩ : ∃ y, l[i]? = some y := ⟨_, List.getElem?_eq_getElem (by rw [h.ll]; exact (List.getElem?_eq_some_iff.1 hx).1)⟩
  have := (h.nod hy).2.1
  rw [hx] at this
  exact ⟨y, hy, (Option.some.inj this).symm⟩
theorem Good.hs (h : Good m lows hts l) {i : Nat} {x : Nod} (hx : l[i]? = some x) : x.links.length ≤ 8 ∧ 0 < x.links.length := by
  have := h.pos _ (List.mem_of_getElem? (h.nod hx).2.2.1)
  omega
theorem Good.right (h : Good m lows hts l) {vl : List (Vw × Vs)} (hv : vl.map Prod.fst = l.map Nod.vw) : RightP vl := by
  have hll := h.ll
  have hvl : vl.length = l.length := by have := congrArg List.length hv; simpa using this
  have hz := (List.getElem?_eq_some_iff.1 h.zero).1
  have hget : ∀ (i : Nat) (x : Vw × Vs), vl[i]? = some x → ∃ y, l[i]? = some y ∧ x.1 = y.vw := fun i x hx => by
    have h1 : (vl.map Prod.fst)[i]? = some x.1 := by rw [List.getElem?_map, hx]; rfl
    rw [hv, List.getElem?_map] at h1
    cases hy : l[i]? with
    | none => rw [hy] at h1; cases h1
    | some y => rw [hy] at h1; exact ⟨y, rfl, (Option.some.inj h1).symm⟩
  refine ⟨fun e => by rw [e] at hvl; simp at hvl; omega, fun i x hx => ?_⟩
  obtain ⟨y, hy, hxy⟩ := hget i x hx
  obtain ⟨q1, q2, q3, q4⟩ := h.nod hy
  have hil := (List.getElem?_eq_some_iff.1 q2).1
  have hlow : lowAt vl i = y.nd.low := by
    cases i with
    | zero =>
      rw [h.zero] at q2
      rw [lowAt]
      exact Option.some.inj q2
    | succ i =>
      obtain ⟨z, hz⟩ : ∃ z, vl[i]? = some z := ⟨_, List.getElem?_eq_getElem (by omega)⟩
      obtain ⟨z', hz', hzz⟩ := hget i z hz
      have r4 := (h.nod hz').2.2.2
      rw [lowAt, hz]
      simp only
      rw [hzz, show z'.vw.rv = z'.rv from rfl, r4, revOf, newR, spOf, if_pos hil]
      simp only
      rw [List.getD_eq_getElem?_getD, q2]
      rfl
  refine ⟨?_, ?_, ?_⟩
  · rw [hlow, hxy]
    show (y.nd.low.toList == y.nd.low.toList) = true
    simp
  · rw [hxy]
    show spansB y.vw _ = true
    have hlo : lows.getD i ⟨#[]⟩ = y.nd.low := by rw [List.getD_eq_getElem?_getD, q2]; rfl
    unfold spansB
    rw [show y.vw.rv = y.rv from rfl, show y.vw.nd = y.nd from rfl, q4, revOf, newR, hvl, hll]
    by_cases hlast : i + 1 < lows.length
    · obtain ⟨z, hz⟩ : ∃ z, lows[i + 1]? = some z := ⟨_, List.getElem?_eq_getElem hlast⟩
      have hlt : lt y.nd.low z = true := by
        have := List.pairwise_iff_getElem.1 h.up i (i + 1) hil hlast (by omega)
        rw [(List.getElem?_eq_some_iff.1 q2).2, (List.getElem?_eq_some_iff.1 hz).2] at this
        exact this
      have hz2 : lows.getD (i + 1) ⟨#[]⟩ = z := by rw [List.getD_eq_getElem?_getD, hz]; rfl
      rw [spOf, if_pos hlast, hlo, hz2]
      simp only [Kp.empty, hlt]
      have : ¬ i + 1 = lows.length := by omega
      simp [this]
    · rw [spOf, if_neg hlast, hlo]
      simp only [Kp.empty]
      have : i + 1 = lows.length := by omega
      simp [this]
  · obtain ⟨x0, hx0⟩ : ∃ x0, vl[0]? = some x0 := ⟨_, List.getElem?_eq_getElem (by omega)⟩
    obtain ⟨y0, hy0, hxy0⟩ := hget 0 x0 hx0
    refine ⟨x0, x, hx0, hx, ?_, ?_, fun k u hk => ?_⟩
    · rw [hxy]
      exact h.ok.pos y (List.mem_of_getElem? hy)
    · have := h.most _ _ (List.mem_of_getElem? q3) (h.nod hy0).2.2.1
      rw [hxy, hxy0]
      show y.links.length ≤ y0.links.length
      omega
    · rw [hxy] at hk
      rw [h.ok.to_ i y k u hy hk, toV, if_neg (by omega), Int.toNat_natCast]
      refine (toF_toN _ _ _ ?_).symm
      rw [List.map_drop, List.map_drop, hv]
theorem find_is {t : ByteArray} {r j : Nat} {z : ByteArray} (hup : lows.Pairwise fun a b => lt a b = true) (hf : FindP lows t r) (hj : lows[j]? = some z) (hz : lt t z = false) (hn : ∀ y, lows[j + 1]? = some y → lt t y = true) : j = r := by
  have h1 := hf.2 j z hj hz
  apply Classical.byContradiction
  intro hne
  rcases hf.1 with e | ⟨x, hx, hxl⟩
  · omega
  · have hrl := (List.getElem?_eq_some_iff.1 hx).1
    obtain ⟨y, hy⟩ : ∃ y, lows[j + 1]? = some y := ⟨_, List.getElem?_eq_getElem (by omega)⟩
    have hty := hn y hy
    by_cases e : j + 1 = r
    · rw [e, hx] at hy
      cases hy
      rw [hty] at hxl
      cases hxl
    · have := List.pairwise_iff_getElem.1 hup (j + 1) r (by omega) hrl (by omega)
      rw [(List.getElem?_eq_some_iff.1 hy).2, (List.getElem?_eq_some_iff.1 hx).2] at this
      have h3 : lt t x = true := less_trans _ _ _ hty this
      rw [h3] at hxl
      cases hxl
end
/-- What a walk leaves. -/
structure Walked (G : List (Nat × List Value)) (B : Nat) (w : World) (g cap : Nat) (vl : List (Vw × Vs)) (l : List Nod) : Prop where
  vs : vl.map Prod.fst = l.map Nod.vw
  ge : B ≤ g
  mem : (g, vrows vl) ∈ G
  cap : vl.length ≤ cap
  len : vl.length = l.length
  row : VRow w (some ⟨g, 0, none⟩) vl
  inn : ∀ x, x ∈ vl → x.1.In G x.2
  side : Aside g vl
  fz : ∀ i, w.frozen? ⟨g, i, none⟩ = false
theorem walked {w0 : World} {b c r pb po : Nat} {t : Value} {G : List (Nat × List Value)} {w : World} {m : M} {s : Pt} {B : Nat} {l : List Nod} {v : Value} (h : SysE w0 b c r pb po t G w m s) (hne : l ≠ []) (hv : RWk B G (some (l.map Nod.vw, 0)) v) (hfz : FzV (.returned v) w) :
    ∃ g cap vl, v = .tuple #[.slice (some ⟨g, 0, none⟩) l.length cap, .int .i64 0] ∧ Walked G B w g cap vl l := by
  obtain ⟨vl, e, he, hin, hf, hc⟩ := hv
  have e1 : vl.map Prod.fst = l.map Nod.vw := by have := (Prod.mk.inj (Option.some.inj he)).1; exact this.symm
  have e2 : e = 0 := by have := (Prod.mk.inj (Option.some.inj he)).2; exact this.symm
  subst e2
  have hlen : vl.length = l.length := by have := congrArg List.length e1; simpa using this
  rcases hc with ⟨e3, -⟩ | ⟨g, cap, hg, hm, hcap, e3, hsd⟩
  · rw [e3] at hlen
    exact absurd (List.length_eq_zero_iff.1 hlen.symm) hne
  · refine ⟨g, cap, vl, by rw [e3, hlen], e1, hg, hm, hcap, hlen, ⟨.inr ⟨g, 0, rfl, ?_, ?_⟩, fun x hx => ?_, hf⟩, hin, hsd, hfz g vl.length cap (.int .i64 0) (by rw [e3])⟩
    · obtain ⟨m0, s0, h1, -⟩ := h
      exact (h1.rows g _ hm).1.lt
    · obtain ⟨m0, s0, h1, -⟩ := h
      intro j u hu
      rw [Nat.zero_add]
      exact (h1.rows g _ hm).1.at_ _ _ hu
    · have hpl : x.2.pl.In G (ints x.1.links) := (hin x hx).2.1
      refine ⟨by rw [hpl.n, ints_length], ?_, by have := hpl.few; rwa [ints_length] at this⟩
      rcases id hpl.row with e4 | ⟨g', o', r, e4, hm', hr'⟩
      · exact .inl (by simpa [ints] using e4)
      · have hra := h.rowAt hpl e4
        by_cases hl0 : ints x.1.links = []
        · exact .inl (by simpa [ints] using hl0)
        · exact .inr ⟨g', o', e4, hra.2 hl0, hra.1⟩
end Go.Proofs.YtibimnibmengpaaDoor
