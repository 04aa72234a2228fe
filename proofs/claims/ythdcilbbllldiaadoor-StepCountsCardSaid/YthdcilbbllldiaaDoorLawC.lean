/- StepCounts's law: at any row of bytes and any byte it answers true. Conditions: the row can be read; the library's table stands. -/
import Derived.Test.YthdcilbbllldiaaDoorLawB
import Derived.Test.YthdcilbbllldiaaDoorOpen
namespace Go.Proofs.YthdcilbbllldiaaDoor
open Go.RowKit Go.Op
set_option maxRecDepth 100000

theorem row_at {w : World} {B : Nat} {a : Option Addr} {n cp len : Nat} {l : List Value} (h : w.ownsRow B 33 1 (.slice a n cp) len l) {k : Nat} (hk : k < len) {u : Value} (hu : l[k]? = some u) : ∃ g, a = some ⟨g, 0, none⟩ ∧ w.cell? ⟨g, k, none⟩ = some u := by
  rcases h.2 with ⟨_, e⟩ | ⟨g, cap, cur, e, _⟩
  · omega
  · cases e
    have := World.ownsRow.cells h (g := g) rfl k u hu
    rw [add_off, Nat.zero_add] at this
    exact ⟨g, rfl, this⟩
theorem at_57 (g n c k : Nat) (h : k < n) (w : World) : (Instr.indexAt 57 (.slice (some ⟨g, 0, none⟩) n c) (.int .i64 (k : Int))).run Tryd.prog w = .ok (.pointer (some ⟨g, k, none⟩)) w := by
  have h1 : (k : Int) < (n : Int) := by omega
  go_simp
theorem info33 : (Tryd.prog.info? 33).map (fun i => (i.zero, i.size, i.bytes)) = some (some (.pointer none), 1, 8) := by kernel_rfl
theorem append_ptr {ops : Array Oper} {rest : List Oper} {o : Oper} {a : Act} {w : World} {Q : Exit → Act → World → Prop}
    (hg : o.guard = none) (s x : Operand) (hop : o.op = Op.call { callee := Callee.builtin Builtin.append, args := #[s, x], argTypes := #[57, 57] })
    (B : Nat) (v : Value) (l : List Value) (p : Nat) (hs : a.eval s = v) (hown : w.ownsRow B 33 1 v l.length l) (g c : Nat) (hx : a.eval x = .slice (some ⟨g, 0, none⟩) 1 c) (hc : w.cell? ⟨g, 0, none⟩ = some (.pointer (some ⟨p, 0, none⟩)))
    (hl : l.length ≤ 1000000) (hB : B ≤ w.heap.size)
    (hK : ∀ v' w', w'.ownsRow B 33 1 v' (l.length + 1) (l ++ [.pointer (some ⟨p, 0, none⟩)]) → w.grownBy w' v.ownBlock → (v'.ownBlock = v.ownBlock ∨ v'.ownBlock = some w.heap.size) → wpList Tryd.prog ops Q rest (a.put o.dst v') w') :
    wpList Tryd.prog ops Q (o :: rest) a w := by
  obtain ⟨i0, hi, hz0, hz1, hz2⟩ := info_parts info33
  refine wpList_append_own_at w hg s x 57 hop B 33 i0 (.pointer none) 1 8 Tryd.underlying57 hi hz0 hz1 hz2 rfl (by decide) v _ _ hs hown ⟨g, 0, none⟩ 1 c [.pointer (some ⟨p, 0, none⟩)] hx rfl ?_ (fun u hu => by simp at hu; subst hu; rfl) (by unfold maxLen; omega) (by omega) hB ?_
  · intro j u hu
    match j, hu with
    | 0, hu =>
      simp at hu
      subst hu
      exact hc
  · intro v' w' h1 h2 _ h4
    exact hK v' w' h1 h2 h4
section
variable {w0 w w' : World} {b c r : Nat} {N : Int} {m : M} {L : List Mach}
/-- Behind an append to a row of nobody's. -/
theorem Team.grown (h : Team w0 b c r N w m L) {ro : Option Nat} (hg : w.grownBy w' ro) (hr : ∀ k, ro = some k → Off k b c r w L ∧ w0.heap.size ≤ k) : Team w0 b c r N w' m L := by
  cases ro with
  | none => exact h.later ⟨hg.os, hg.tape, hg.output, hg.size, fun k hk => hg.block k hk (fun e => (by cases e))⟩
  | some g =>
    obtain ⟨o, hB⟩ := hr g rfl
    exact h.beside hg.size (h.has.below.trans ⟨hg.os, hg.tape, hg.output, hg.size, fun k hk => hg.block k (Nat.lt_of_lt_of_le hk h.has.below.size) (fun e => (by cases e; omega))⟩) (fun k hk hne => hg.block k hk (fun e => (by cases e; exact hne rfl))) ⟨o.m.1, o.m.2.1, o.m.2.2, o.x⟩
theorem fins_mach0 (L : List Mach) (p : Nat) (f : Value) : fins (L ++ [mach0 p f]) = fins L := by
  rw [fins_append]; simp [fins, mach0]
theorem cnt_add {q : Nat} {rv v' : Value} {w2 : World} (h : Cnt w0 b c r 0 w m L q rv) (hl : L.length ≤ 5) (hb : Below (w.alloc (machObj b (caps24 q))).heap.size (w.alloc (machObj b (caps24 q))) w2)
    (own : w'.ownsRow w0.heap.size 33 1 v' (L.length + 1) (ptrs L ++ [.pointer (some ⟨w.heap.size, 0, none⟩)])) (hg : w2.grownBy w' rv.ownBlock) (hn : v'.ownBlock = rv.ownBlock ∨ v'.ownBlock = some w2.heap.size) :
    Cnt w0 b c r 0 w' m (L ++ [mach0 w.heap.size (caps24 q)]) q v' := by
  have hz : (w.alloc (machObj b (caps24 q))).heap.size = w.heap.size + 1 := by simp
  have hz2 := hb.size
  have h1 := (h.team.add (caps24 q)).later hb
  have hro : ∀ k, rv.ownBlock = some k → Off k b c r w2 (L ++ [mach0 w.heap.size (caps24 q)]) ∧ w0.heap.size ≤ k := fun k e =>
    ⟨((h.ro k e).1.add (caps24 q)).later hb.size, (World.ownsRow.lt h.row k e).1⟩
  have h2 := h1.grown hg hro
  have hqo := ((h.qo.add (caps24 q)).later (w' := w2) hb.size)
  have hq2 : w2.cell? ⟨q, 0, none⟩ = some (.int .i64 1) := by
    have := h.qo.lt
    rw [hb.cell (p := ⟨q, 0, none⟩) (by simp only; omega), ((Below.refl w.heap.size w).alloc (Nat.le_refl _) _).cell (p := ⟨q, 0, none⟩) h.qo.lt]
    exact h.qc
  refine ⟨h2, by rw [fins_mach0]; exact h.one, ?_, hqo.later hg.size, ?_, fun k e => ?_, fun i x hx => ?_, fun i j x y hx hy hij hfx hfy => ?_, by simp; omega⟩
  · rw [World.cell?_of_block (w := w2) (a := ⟨q, 0, none⟩) (hg.block q hqo.lt (fun e => (h.ro q e.symm).2 rfl))]
    exact hq2
  · rw [List.length_append]
    unfold ptrs at *
    rw [List.map_append]
    exact own
  · rcases hn with e2 | e2
    · rw [e2] at e
      exact ⟨(hro k e).1.later hg.size, (h.ro k e).2⟩
    · rw [e2] at e
      cases e
      have o := h1.has.at_.own
      have b1 := o.lb
      have b2 := o.lc
      have b3 := o.lr
      have hql := hqo.lt
      refine ⟨⟨(World.ownsRow.lt own _ e2).2, ⟨by omega, by omega, by omega⟩, fun i x hx => ?_⟩, by omega⟩
      have p := (h1.mac i x hx).sys.pt
      have := p.lt
      refine ⟨by omega, fun e3 => ?_⟩
      have := (World.ownsRow.lt p.own _ e3).2
      omega
  · rw [fins_mach0]
    rw [List.getElem?_append] at hx
    split at hx
    · exact h.each i x hx
    · have hj := (List.getElem?_eq_some_iff.1 hx).1
      simp at hj
      have h0 : i - L.length = 0 := by omega
      rw [h0] at hx
      simp at hx
      subst hx
      exact ⟨fun _ => ⟨rfl, rfl, fun j a ha => (by simp [mach0] at ha), Nat.le_refl _⟩, fun e => (by cases e)⟩
  · rw [List.getElem?_append] at hx hy
    split at hx
    · split at hy
      · exact h.diff i j x y hx hy hij hfx hfy
      · have hj := (List.getElem?_eq_some_iff.1 hy).1
        simp at hj
        have h0 : j - L.length = 0 := by omega
        rw [h0] at hy
        simp at hy
        subst hy
        cases hfy
    · have hj := (List.getElem?_eq_some_iff.1 hx).1
      simp at hj
      have h0 : i - L.length = 0 := by omega
      rw [h0] at hx
      simp at hx
      subst hx
      cases hfx
end
/-- Which numbers were seen among the first k machines. -/
structure Seen (w w' : World) (L : List Mach) (k : Nat) (f : Nat → Bool) : Prop where
  below : Below w.heap.size w w'
  cells : ∀ z, z < 6 → w'.cell? ⟨w.heap.size, z, none⟩ = some (.bool (f z))
  fz : ∀ z, w'.frozen? ⟨w.heap.size, z, none⟩ = false
  old : ∀ z, f z = true → ∃ j x, j < k ∧ L[j]? = some x ∧ x.fin = true ∧ x.out = .iface 3 (.int .i64 (z : Int))
theorem seen_start (w : World) (L : List Mach) : Seen w (w.alloc (.cells #[.bool false, .bool false, .bool false, .bool false, .bool false, .bool false] 61)) L 0 (fun _ => false) := by
  refine ⟨(Below.refl _ _).alloc (Nat.le_refl _) _, fun z hz => ?_, fun z => World.frozen?_alloc_at _ 61 _ z rfl, fun z h => (by cases h)⟩
  rw [World.cell?_alloc_new]
  match z, hz with
  | 0, _ => rfl
  | 1, _ => rfl
  | 2, _ => rfl
  | 3, _ => rfl
  | 4, _ => rfl
  | 5, _ => rfl
theorem Seen.more {w w' : World} {L : List Mach} {k : Nat} {f : Nat → Bool} (h : Seen w w' L k f) : Seen w w' L (k + 1) f :=
  ⟨h.below, h.cells, h.fz, fun z hz => by obtain ⟨j, x, hj, r⟩ := h.old z hz; exact ⟨j, x, by omega, r⟩⟩
theorem Seen.put {w w' : World} {L : List Mach} {k : Nat} {f : Nat → Bool} (h : Seen w w' L k f) {x : Mach} (hx : L[k]? = some x) (hf : x.fin = true) {z : Nat} (hz : z < 6) (ho : x.out = .iface 3 (.int .i64 (z : Int))) : Seen w (w'.setCell ⟨w.heap.size, z, none⟩ (.bool true)) L (k + 1) (fun y => if y = z then true else f y) := by
  refine ⟨h.below.setCell (p := ⟨w.heap.size, z, none⟩) (Nat.le_refl _) _, fun y hy => ?_, fun y => by rw [World.frozen?_setCell]; exact h.fz y, fun y hy => ?_⟩
  · by_cases e : y = z
    · subst e
      rw [if_pos rfl]
      exact set_same (h.cells y hy)
    · rw [if_neg e]
      exact set_other (h.cells y hy) (.inr (fun e2 => e e2.symm))
  · by_cases e : y = z
    · subst e
      exact ⟨k, x, by omega, hx, hf, ho⟩
    · simp only [if_neg e] at hy
      obtain ⟨j, u, hj, r⟩ := h.old y hy
      exact ⟨j, u, by omega, r⟩
theorem fins_take {L : List Mach} {k : Nat} {x : Mach} (hx : L[k]? = some x) : fins (L.take (k + 1)) = fins (L.take k) + if x.fin then 1 else 0 := by
  have hk := (List.getElem?_eq_some_iff.1 hx).1
  have he := (List.getElem?_eq_some_iff.1 hx).2
  rw [List.take_add_one, hx, fins_append]
  simp [fins]
theorem alloc0 : ((M.new 1).alloc (.word 0)).2 = (1, 0) ∧ Is1 ((M.new 1).alloc (.word 0)).1 0 := by
  constructor
  · decide +kernel
  · rfl
/-- The beginning of the machines. -/
theorem cnt_start {w0 w : World} {b c r : Nat} {m : M} (h : Has w0 b c r 1 w m) (hm : Is1 m 0) {W : World} (hW : W = w.alloc (.cells #[.int .i64 1] 3)) : Cnt w0 b c r 0 W m [] w.heap.size (.slice none 0 0) := by
  subst hW
  have o := h.at_.own
  have h1 := o.lb
  have h2 := o.lc
  have h3 := o.lr
  refine ⟨Team.nil ((h.later ((Below.refl _ _).alloc (Nat.le_refl _) _)).less (by decide)), hm, by simp [go_sem], ⟨by simp, ⟨by omega, by omega, by omega⟩, fun i x hx => (by simp at hx)⟩, World.ownsRow_nil _ _ _ _, fun k e => (by cases e), fun i x hx => (by simp at hx), fun i j x y hx => (by simp at hx), Nat.zero_le _⟩
set_option maxHeartbeats 1000000 in
theorem counts_law (n : Nat) (hn8 : n ≤ 255) (a : Option Addr) (l : List Int) (cap : Nat) (w : World) (hT : TabAt w) (hL : Bys w a l) :
    Calls Tryd.prog 5 #[.slice a l.length cap, .int .u8 (n : Int)] w fun e w' => e = .returned (.bool true) ∧ Below w.heap.size w w' := by
  have hm := hmf
  have haw := awake_any w hT
  by_cases hl : l.length ≤ 200
  · have hl2 : ¬ (l.length : Int) > 200 := by omega
    have HL := Lib.hid hL
    have HT := Lib.hid hT
    clear hL hT
    go_enter Tryd.func5, Tryd.ntmps5
    go_wp2_with fail
    refine haw.mono ?_
    rintro e w1 ⟨rfl, b1⟩
    have hn := has_new2 1 (by decide) (by decide) b1
    clear haw b1
    go_wp2_with fail
    refine hn.mono ?_
    rintro e w2 ⟨⟨b, c, r, rfl, hH⟩, -⟩
    have hal := hH.allocword HT.out (by decide) 0
    rw [alloc0.1] at hal
    clear hn hH
    go_wp2_with fail
    refine hal.mono ?_
    rintro e w3 ⟨rfl, hH3, -⟩
    obtain ⟨w4, hw4⟩ : ∃ W, W = w3.alloc (.cells #[.int .i64 1] 3) := ⟨_, rfl⟩
    have HC := Lib.hid (cnt_start hH3 alloc0.2 hw4)
    have HW := Lib.hid hw4.symm
    obtain ⟨q, hq⟩ : ∃ q, q = w3.heap.size := ⟨_, rfl⟩
    rw [← hq] at HC
    have HQ := Lib.hid hq.symm
    clear hal hH3 hw4 hq
    obtain ⟨m3, hm3⟩ : ∃ m, m = ((M.new 1).alloc (.word 0)).1 := ⟨_, rfl⟩
    rw [← hm3] at HC
    clear hm3
    go_wp2_with (first | rw [HW.out] | fail)
    rw [HQ.out]
    go_loopw [9, 10] (fun rv iv wr => ∃ (L : List Mach) (i : Nat) (la : Option Addr) (lc : Nat), i ≤ 1 + n % 6 ∧ iv = .int .i64 (i : Int) ∧ rv = .slice la i lc ∧ Hid (Cnt w b c r 0 wr m3 L q (.slice la i lc) ∧ L.length = i)) (fun _ iv _ => 6 - (intOf iv).toNat)
    case atStart => exact ⟨[], 0, none, 0, by omega, rfl, rfl, HC.out, rfl⟩
    case round =>
      obtain ⟨L, i, la, lc, hi, rfl, rfl, hR⟩ := hrel
      clear HC
      by_cases hlt : i < 1 + n % 6
      · have i1 : (i : Int) < 1 + (n : Int) % 6 := by omega
        have hnm := newmach_any (b := b) (caps24 q) wr ⟨_, _, rfl⟩
        unfold caps24 at hnm
        go_wp2_with fail
        refine hnm.mono ?_
        rintro e w5 ⟨rfl, hw5⟩
        have hz5 : w5.heap.size = wr.heap.size + 1 := by rw [hw5]; simp
        have hL : ptrs L = ptrs L := rfl
        have HR := Lib.hid hR
        have HW5 := Lib.hid hw5
        have HO : Hid ((w5.alloc (.cells #[.pointer (some ⟨wr.heap.size, 0, none⟩)] 33)).ownsRow w.heap.size 33 1 (.slice la i lc) (ptrs L).length (ptrs L) ∧ w.heap.size ≤ w5.heap.size) := by
          obtain ⟨hC, hLi⟩ := hR
          have hb : Below wr.heap.size wr (w5.alloc (.cells #[.pointer (some ⟨wr.heap.size, 0, none⟩)] 33)) := by
            rw [hw5]
            exact ((Below.refl _ _).alloc (Nat.le_refl _) _).alloc (by simp) _
          have := (hC.later hb).row
          refine ⟨?_, ?_⟩
          · rw [show (ptrs L).length = L.length by simp [ptrs]]; exact this
          · have := hC.team.has.below.size; omega
        have HZ := Lib.hid hz5
        clear hnm hR hw5 hz5 hL
        go_wp2_with (at_builtin; refine append_ptr rfl (.tmp 52) (.tmp 56) rfl w.heap.size (.slice la i lc) (ptrs L) wr.heap.size rfl HO.out.1 w5.heap.size 1 rfl (by simp [go_sem]) (by rw [show (ptrs L).length = L.length by simp [ptrs]]; have := HR.out.1.len; omega) (by have := HO.out.2; simp; omega) ?_; intro v' w6 g1 g2 g3; have G := Lib.hid (⟨g1, g2, g3⟩ : _ ∧ _ ∧ _); clear g1 g2 g3)
        obtain ⟨g1, g2, g3⟩ := G.out
        obtain ⟨la', lc', ev⟩ : ∃ a c, v' = .slice a (i + 1) c := by
          rw [show (ptrs L).length = L.length by simp [ptrs], HR.out.2] at g1
          rcases g1.2 with ⟨_, e⟩ | ⟨g, cp, _, e, _⟩
          · omega
          · exact ⟨_, _, e⟩
        subst ev
        have hE : Hid (Cnt w b c r 0 w6 m3 (L ++ [mach0 wr.heap.size (caps24 q)]) q (.slice la' (i + 1) lc') ∧ (L ++ [mach0 wr.heap.size (caps24 q)]).length = i + 1) := by
          obtain ⟨hC, hLi⟩ := HR.out
          refine ⟨cnt_add hC (by omega) (w2 := w5.alloc (.cells #[.pointer (some ⟨wr.heap.size, 0, none⟩)] 33)) ?_ ?_ g2 g3, by simp; omega⟩
          · have : w5 = wr.alloc (machObj b (caps24 q)) := HW5.out
            rw [this]
            exact (Below.refl _ _).alloc (Nat.le_refl _) _
          · rw [show (ptrs L).length = L.length by simp [ptrs]] at g1
            exact g1
        clear G HO HR g1 g2 g3
        go_roundw
        case rel => exact ⟨_, i + 1, la', lc', by omega, by go_num, rfl, hE⟩
        case measure => simp [intOf]; omega
      · have i1 : ¬ (i : Int) < 1 + (n : Int) % 6 := by omega
        have hK : 1 ≤ i := by omega
        have hi7 : i ≤ 6 := by omega
        have HC : Hid (Cnt w b c r 0 wr m3 L q (.slice la i lc) ∧ L.length = i) := hR
        clear hR
        obtain ⟨wo, hwo⟩ : ∃ wo, wo = wr := ⟨_, rfl⟩
        subst hwo
        go_wp2_with fail
        clear i1 hlt hi
        go_loopw [11] (fun jv wr => ∃ (j : Nat) (m : M) (L : List Mach), j ≤ l.length ∧ jv = .int .i64 (j : Int) ∧ Hid (Cnt w b c r j wr m L q (.slice la i lc) ∧ L.length = i)) (fun jv _ => l.length - (intOf jv).toNat)
        case atStart => exact ⟨0, m3, L, by omega, rfl, HC.out⟩
        case round =>
          obtain ⟨j, m4, L4, hj, rfl, hR⟩ := hrel
          clear HC
          by_cases hlt : j < l.length
          · have j1 : (j : Int) < (l.length : Int) := by omega
            obtain ⟨pb, off, ea, x1, x2, x3⟩ := HL.out.at_ hR.out.1.team.has.below hlt
            subst ea
            obtain ⟨xn, hx⟩ : ∃ xn : Nat, l[j] = (xn : Int) := ⟨(l[j]).toNat, by omega⟩
            rw [hx] at x1
            have hxn : (xn : Int) ≤ 255 := by omega
            obtain ⟨p, hp⟩ : ∃ p, p = xn % i := ⟨_, rfl⟩
            have E : (xn : Int) % (i : Int) = (p : Int) := by rw [hp]; rfl
            have hip : p < i := by rw [hp]; exact Nat.mod_lt _ (by omega)
            obtain ⟨x, hxx⟩ : ∃ x, L4[p]? = some x := ⟨_, List.getElem?_eq_getElem (by rw [hR.out.2]; exact hip)⟩
            obtain ⟨g, eg, hc⟩ := row_at hR.out.1.row (k := p) (by rw [hR.out.2]; exact hip) (u := .pointer (some ⟨x.xb, 0, none⟩)) (by simp [ptrs, hxx])
            cases eg
            have hst := cnt_step hR.out.1 (by omega) hxx
            have hat : ∀ w, (Instr.indexAt 57 (.slice (some ⟨g, 0, none⟩) i lc) (.int .i64 ((xn : Int) % (i : Int)))).run Tryd.prog w = .ok (.pointer (some ⟨g, p, none⟩)) w := fun w => by rw [E]; exact at_57 g i lc p hip w
            clear E
            have HL4 := Lib.hid hR.out.2
            clear x2 x3 hx hp hR
            go_wp2_with fail
            refine hst.mono ?_
            rintro e w5 ⟨m5, L5, o, rfl, hC, hLL⟩
            have hE : Hid (Cnt w b c r (j + 1) w5 m5 L5 q (.slice (some ⟨g, 0, none⟩) i lc) ∧ L5.length = i) := ⟨hC, by rw [hLL]; exact HL4.out⟩
            clear hst hC x1 hc
            go_wp2_with fail
            go_roundw
            case rel => exact ⟨j + 1, m5, L5, by omega, by go_num, hE⟩
            case measure => simp [intOf]; omega
          · obtain rfl : j = l.length := by omega
            have j1 : ¬ (l.length : Int) < (l.length : Int) := by omega
            have HS := Lib.hid (seen_start wr L4)
            have HC : Hid (Cnt w b c r l.length wr m4 L4 q (.slice la i lc) ∧ L4.length = i) := hR
            clear hR
            obtain ⟨wo, hwo⟩ : ∃ wo, wo = wr := ⟨_, rfl⟩
            subst hwo
            go_wp2_with fail
            go_loopw [12, 14] (fun ev kv wr => ∃ (k : Nat) (f : Nat → Bool), k ≤ i ∧ kv = .int .i64 (k : Int) ∧ ev = .int .i64 ((fins (L4.take k) : Nat) : Int) ∧ Hid (Seen wo wr L4 k f)) (fun _ kv _ => 6 - (intOf kv).toNat)
            case atStart => exact ⟨0, _, by omega, rfl, rfl, HS.out⟩
            case round =>
              obtain ⟨k, f, hk, rfl, rfl, hR⟩ := hrel
              clear HS
              by_cases hlt3 : k < i
              · have k1 : (k : Int) < (i : Int) := by omega
                obtain ⟨x, hx⟩ : ∃ x, L4[k]? = some x := ⟨_, List.getElem?_eq_getElem (by rw [HC.out.2]; exact hlt3)⟩
                have hC2 := HC.out.1.later hR.out.below
                obtain ⟨g, eg, hc⟩ := row_at hC2.row (k := k) (by rw [HC.out.2]; exact hlt3) (u := .pointer (some ⟨x.xb, 0, none⟩)) (by simp [ptrs, hx])
                cases eg
                have hM := hC2.team.mac k x hx
                have hen := ended_any hM
                have hou := out_any hM
                have HX := Lib.hid hx
                have hfl : fins (L4.take k) ≤ 6 := Nat.le_trans (fins_le _) (by rw [List.length_take]; omega)
                have hft := fins_take hx
                clear hC2 hM hx
                cases hf : x.fin with
                | false =>
                  rw [hf] at hen hft
                  simp only [Bool.false_eq_true, if_false, Nat.add_zero] at hft
                  go_wp2_with fail
                  refine hen.mono ?_
                  rintro e w6 ⟨rfl, rfl⟩
                  have HE := Lib.hid hR.out.more
                  clear hen hou hR hc
                  go_wp2_with fail
                  go_roundw
                  case rel => exact ⟨k + 1, f, by omega, by go_num, by rw [hft], HE.out⟩
                  case measure => simp [intOf]; omega
                | true =>
                  rw [hf] at hen hft
                  simp only [if_true] at hft
                  obtain ⟨z, ez, hz⟩ := (HC.out.1.each k x HX.out).2 hf
                  have hz6 : z < 6 := Nat.lt_of_lt_of_le hz (Nat.le_trans (fins_le _) HC.out.1.len)
                  rw [ez] at hou
                  have hfz : f z = false := by
                    cases hfz : f z with
                    | false => rfl
                    | true =>
                      obtain ⟨j2, x2, hj2, hx2, hf2, ho2⟩ := hR.out.old z hfz
                      exact absurd (ho2.trans ez.symm) (HC.out.1.diff j2 k x2 x hx2 HX.out (by omega) hf2 hf)
                  have hcz := hR.out.cells z hz6
                  rw [hfz] at hcz
                  have hsf := hR.out.fz
                  have HE := Lib.hid (hR.out.put HX.out hf hz6 ez)
                  have z1 : (0 : Int) ≤ (z : Int) ∧ (z : Int) < 6 := by omega
                  have a3 := as3_yes
                  clear hR hfz ez
                  go_wp2_with fail
                  refine hen.mono ?_
                  rintro e w6 ⟨rfl, rfl⟩
                  go_wp2_with fail
                  refine hou.mono ?_
                  rintro e w6 ⟨rfl, rfl⟩
                  clear hen hou
                  go_wp2_with fail
                  go_roundw
                  case rel => exact ⟨k + 1, _, by omega, by go_num, by rw [hft]; rfl, HE.out⟩
                  case measure => simp [intOf]; omega
              · obtain rfl : k = i := by omega
                have k1 : ¬ (k : Int) < (k : Int) := by omega
                have hC2 := HC.out.1.later hR.out.below
                have hfe : fins (L4.take k) = fins L4 := by rw [← HC.out.2, List.take_length]
                rw [hfe]
                have hq := hC2.qc
                have hwd := hC2.team.has.word (by omega) 1
                rw [is1_word hC2.one] at hwd
                have HB := Lib.hid hC2.team.has.below
                clear hC2 hR hfe
                go_wp2_with fail
                refine hwd.mono ?_
                rintro e w6 ⟨rfl, h6, -⟩
                have H6 := Lib.hid h6.below
                clear hwd h6
                go_wp2
                go_ret
                exact ⟨rfl, H6.out⟩
  · have hl2 : (l.length : Int) > 200 := by omega
    go_enter Tryd.func5, Tryd.ntmps5
    go_wp2_with fail
    refine haw.mono ?_
    rintro e w1 ⟨rfl, b1⟩
    have haw1 := awake_any w1 (hT.below b1)
    have B1 := Lib.hid b1
    clear haw b1
    go_wp2_with fail
    refine haw1.mono ?_
    rintro e w2 ⟨rfl, b2⟩
    have B2 := Lib.hid (B1.out.trans (b2.mono B1.out.size))
    clear haw1 b2
    go_wp2
    go_ret
    exact ⟨rfl, B2.out⟩
theorem countsLaw (ad : Option Addr) (l : List Int) (cap : Nat) {w : World} (hL : Bys w ad l) (a : Int) (ha : (Lit.int .u8 a).wf = true) (_W : World) (hT : TabAt w) : Calls Tryd.prog 5 #[.slice ad l.length cap, .int .u8 a] w fun e w' => e = .returned (.bool true) ∧ Below w.heap.size w w' := by
  obtain ⟨h0, h1⟩ := wf8 ha
  obtain ⟨n, rfl⟩ : ∃ n : Nat, a = (n : Int) := ⟨a.toNat, by omega⟩
  exact counts_law n (by omega) ad l cap w hT hL
end Go.Proofs.YthdcilbbllldiaaDoor
