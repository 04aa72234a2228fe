/- One round of the first law, memory alone. Conditions: at most 15000 asks; there is room. -/
import Derived.Test.YteiikkkcjpfapaaDoorFo
namespace Go.Proofs.YteiikkkcjpfapaaDoor
open Go.RowKit Go.Op
set_option maxRecDepth 100000
variable {N : Nat}

def swapsOf (hs cells : List Int) (ws : List (Nat × Int)) : List Sw := ws.map fun p => ⟨hs.getD p.1 0, cells.getD p.1 0, p.2⟩
/-- Memory and the reference say the same. -/
structure Rel (m : M) (top : Int) (hs : List Int) (x : Wg) (hh : Int) (d : Ds) : Prop where
  tp : m.look top = some (.word hh)
  desc : m.look hh = some (.desc d)
  st : m.look d.st = some (.word (if x.done = true then 1 else 0))
  ver : d.ver = x.ver
  bf : d.bf = x.bf
  cell : ∀ (k : Nat) (h n : Int), hs[k]? = some h → x.cells[k]? = some n → m.look h = some (.word n)
  sw : x.done = false → d.sw = swapsOf hs x.cells x.wait
  nt : top ≠ d.st ∧ top ∉ hs ∧ d.st ∉ hs
  nd : hs.Nodup
  len : hs.length = 8
  fit : x.Fit
  keys : (x.wait.map (·.1)).Nodup
structure Fine (N : Nat) (m : M) (c : Int) (l : Int) : Prop where
  tidy : Tidy m
  len : m.cells.length = N
  cnt : 11 ≤ m.count ∧ m.count ≤ c
  liv : m.live = l
theorem Fine.more {m : M} {c l : Int} (h : Fine N m c l) (k : Nat) : Fine N (m.more k) (c + k) l :=
  ⟨⟨fun i x hx => by have := h.tidy.gen i x hx; simp only [M.more]; omega, h.tidy.liv, by have := h.tidy.pos; simp only [M.more]; omega⟩, h.len, by have := h.cnt; simp only [M.more]; omega, h.liv⟩
theorem Rel.same {m m' : M} {top : Int} {hs : List Int} {x : Wg} {hh : Int} {d : Ds} (h : Rel m top hs x hh d) (hl : ∀ k, (m.look k).isSome = true → m'.look k = m.look k) : Rel m' top hs x hh d :=
  have g : ∀ {k v}, m.look k = some v → m'.look k = some v := fun e => by rw [hl _ (by rw [e]; rfl)]; exact e
  ⟨g h.tp, g h.desc, g h.st, h.ver, h.bf, fun k a n h1 h2 => g (h.cell k a n h1 h2), h.sw, h.nt, h.nd, h.len, h.fit, h.keys⟩
theorem Rel.more {m : M} {top : Int} {hs : List Int} {x : Wg} {hh : Int} {d : Ds} (h : Rel m top hs x hh d) (k : Nat) : Rel (m.more k) top hs x hh d := h.same fun a _ => more_look m k a
theorem ask_more (m : M) : m.ask = m.more 1 := by simp [M.ask, M.more]
theorem more_more (m : M) (a b : Nat) : (m.more a).more b = m.more (a + b) := by simp only [M.more]; congr 1; push_cast; omega
theorem go_held {m : M} {h : Int} {d : Ds} (hl : m.look h = some (.desc d)) : (heldP h).go m = ((d, 0), m.more 1) := by
  simp only [heldP, Pr.go, Qn.on, look_load hl, ask_more]
  rfl
theorem go_last {m : M} {top : Int} {hs : List Int} {x : Wg} {hh : Int} {d : Ds} (h : Rel m top hs x hh d) : (lastP top).go m = (⟨hh, d, x.done, 0⟩, m.more 3) := by
  have h2 := h.more 1
  have h3 := h.more 2
  have e3 : ((if x.done = true then (1 : Int) else 0) == 1) = x.done := by cases x.done <;> rfl
  simp only [lastP, Pr.go, Qn.on, look_word h.tp, ask_more, if_true, Pr.go_bind, go_held h2.desc, more_more, look_word h3.st, e3, Nat.reduceAdd]
theorem nodup_get {l : List Int} (h : l.Nodup) {i j : Nat} {a : Int} (hi : l[i]? = some a) (hj : l[j]? = some a) : i = j := by
  obtain ⟨h1, e1⟩ := List.getElem?_eq_some_iff.1 hi
  obtain ⟨h2, e2⟩ := List.getElem?_eq_some_iff.1 hj
  exact (List.getElem_inj h).1 (e1.trans e2.symm)
theorem swapsOf_set (hs cells : List Int) (k : Nat) (n : Int) : ∀ ws : List (Nat × Int), k ∉ ws.map (·.1) → swapsOf hs (cells.set k n) ws = swapsOf hs cells ws := by
  intro ws hk
  unfold swapsOf
  refine List.map_congr_left fun p hp => ?_
  have : k ≠ p.1 := fun e => hk (e ▸ List.mem_map_of_mem hp)
  simp [List.getD, List.getElem?_set_ne this]
theorem go_helpL (hs : List Int) (st : Int) (hnd : hs.Nodup) (hst : st ∉ hs) (hl8 : hs.length = 8) : ∀ (ws : List (Nat × Int)) (cells : List Int) (m : M) (c l : Int), cells.length = 8 → (∀ p ∈ ws, p.1 < 8) → (ws.map (·.1)).Nodup →
    (∀ (k : Nat) (h n : Int), hs[k]? = some h → cells[k]? = some n → m.look h = some (.word n)) → m.look st = some (.word 0) → Fine N m c l →
    ∃ m', (helpL st (swapsOf hs cells ws)).go m = (0, m') ∧ (∀ (k : Nat) (h n : Int), hs[k]? = some h → (setAll cells ws)[k]? = some n → m'.look h = some (.word n)) ∧ m'.look st = some (.word 1) ∧ (∀ k, k ≠ st → k ∉ hs → m'.look k = m.look k) ∧ Fine N m' (c + ws.length + 1) l
  | [], cells, m, c, l, _, _, _, hc, hs0, hf => by
    obtain ⟨m', e, q1, q2, q3, q4, q5⟩ := swap_yes (n := 1) hs0
    refine ⟨m', by simp only [swapsOf, List.map_nil, helpL_nil, Pr.go, Qn.on, e], fun k h n h1 h2 => ?_, by rw [q1, if_pos rfl], fun k h1 _ => by rw [q1, if_neg h1], ⟨q2 hf.tidy, q4.trans hf.len, by have := hf.cnt; simp only [List.length_nil]; omega, q3.trans hf.liv⟩⟩
    rw [q1, if_neg fun e => hst (by rw [← e]; exact List.mem_of_getElem? h1)]
    exact hc k h n h1 h2
  | p :: ws, cells, m, c, l, hl, hp, hn, hc, hs0, hf => by
    have hp8 := hp p (by simp)
    obtain ⟨hk, hk2⟩ : ∃ h, hs[p.1]? = some h := ⟨_, List.getElem?_eq_getElem (by omega)⟩
    obtain ⟨o, ho⟩ : ∃ o, cells[p.1]? = some o := ⟨_, List.getElem?_eq_getElem (by omega)⟩
    obtain ⟨m1, e, q1, q2, q3, q4, q5⟩ := swap_yes (n := p.2) (hc p.1 hk o hk2 ho)
    simp only [List.map_cons, List.nodup_cons] at hn
    have hm := List.mem_of_getElem? hk2
    have ih := go_helpL hs st hnd hst hl8 ws (cells.set p.1 p.2) m1 (c + 1) l (by simp [hl]) (fun q hq => hp q (by simp [hq])) hn.2 (fun k h n h1 h2 => by
      rw [q1]
      split
      · rename_i e2
        subst e2
        have := nodup_get hnd h1 hk2
        subst this
        rw [List.getElem?_set_self (by omega)] at h2
        cases h2; rfl
      · rename_i e2
        have : p.1 ≠ k := fun e3 => e2 (by subst e3; rw [hk2] at h1; cases h1; rfl)
        rw [List.getElem?_set_ne this] at h2
        exact hc k h n h1 h2) (by rw [q1, if_neg fun e2 => hst (by rw [e2]; exact hm)]; exact hs0) ⟨q2 hf.tidy, q4.trans hf.len, by have := hf.cnt; omega, q3.trans hf.liv⟩
    obtain ⟨m', g1, g2, g3, g4, g5⟩ := ih
    refine ⟨m', ?_, g2, g3, fun k h1 h2 => ?_, ⟨g5.tidy, g5.len, by have := g5.cnt; simp only [List.length_cons]; omega, g5.liv⟩⟩
    · rw [swapsOf_set _ _ _ _ _ hn.1] at g1
      have e1 : swapsOf hs cells (p :: ws) = ⟨hk, o, p.2⟩ :: swapsOf hs cells ws := by simp [swapsOf, List.getD, hk2, ho]
      rw [e1, helpL_cons]
      simp only [Pr.go, Qn.on, e, if_true]
      exact g1
    · rw [g4 k h1 h2, q1, if_neg fun e2 => h2 (by rw [e2]; exact hm)]
theorem go_help {m : M} {top : Int} {hs : List Int} {x : Wg} {hh : Int} {d : Ds} {c l : Int} (h : Rel m top hs x hh d) (hd : x.done = false) (hf : Fine N m c l) :
    ∃ m', (helpP d).go m = (0, m') ∧ Rel m' top hs x.help hh d ∧ Fine N m' (c + 9) l ∧ ∀ k, k ≠ d.st → k ∉ hs → m'.look k = m.look k := by
  have hst := h.st
  rw [hd] at hst
  obtain ⟨m', g1, g2, g3, g4, g5⟩ := go_helpL hs d.st h.nd h.nt.2.2 h.len x.wait x.cells m c l h.fit.len h.fit.mem h.keys h.cell hst hf
  rw [← h.sw hd] at g1
  have hno : ∀ v, m.look hh = some (.desc v) → hh ≠ d.st ∧ hh ∉ hs := fun v hv => ⟨fun e => (by rw [e, h.st] at hv; cases hv), fun hm => by
    obtain ⟨i, hi, e⟩ := List.mem_iff_getElem.1 hm
    have h8 := h.fit.len
    have := h.cell i hh _ (by rw [List.getElem?_eq_getElem hi, e]) (List.getElem?_eq_getElem (by have := h.len; omega))
    rw [this] at hv; cases hv⟩
  obtain ⟨k1, k2⟩ := hno d h.desc
  refine ⟨m', g1, ⟨by rw [g4 _ h.nt.1 h.nt.2.1]; exact h.tp, by rw [g4 _ k1 k2]; exact h.desc, by rw [g3]; rfl, h.ver, h.bf, g2, fun e => by simp [Wg.help] at e, h.nt, h.nd, h.len, h.fit.help, by simp [Wg.help]⟩, ⟨g5.tidy, g5.len, by have := g5.cnt; have := h.fit.wl; omega, g5.liv⟩, g4⟩
theorem chg_keys (n i : Nat) : ∀ k, ((chgTo n i k).map (·.1)).Nodup
  | 0 => by simp [chgTo]
  | k + 1 => by
    have ih := chg_keys n i k
    simp only [chgTo]
    split
    · rw [List.map_append, List.nodup_append]
      refine ⟨ih, by simp, fun a ha b hb e => ?_⟩
      simp at hb
      obtain ⟨p, hp, e2⟩ := List.mem_map.1 ha
      have := (chgTo_mem n i k p hp).1
      omega
    · rw [List.append_nil]; exact ih
theorem go_make {m : M} {c l : Int} (hf : Fine N m c l) (hc : c ≤ 15000) (hl : l + 10 ≤ (N : Int)) (hN : N ≤ 65535) (ver bf : Int) (sw : List Sw) :
    ∃ m' s nh, (makeP ver bf sw).go m = ((nh, 0), m') ∧ (∀ k, (m.look k).isSome = true → m'.look k = m.look k) ∧ m'.look nh = some (.desc ⟨ver, bf, s, sw, none, 0, 0⟩) ∧ m'.look s = some (.word 0) ∧ m.look s = none ∧ m.look nh = none ∧ Fine N m' (c + 2) (l + 2) := by
  obtain ⟨m1, s, e1, n1, q1, t1, l1, c1, k1, -⟩ := alloc_yes hf.tidy (by have := hf.cnt; omega) (by have := hf.liv; have := hf.len; omega) (by have := hf.len; omega) (.word 0) rfl
  obtain ⟨m2, nh, e2, n2, q2, t2, l2, c2, k2, -⟩ := alloc_yes t1 (by have := hf.cnt; omega) (by have := hf.liv; have := hf.len; omega) (by have := hf.len; omega) (.desc ⟨ver, bf, s, sw, none, 0, 0⟩) rfl
  have hne : s ≠ nh := fun e => by
    rw [← e, q1, if_pos rfl] at n2; cases n2
  refine ⟨m2, s, nh, ?_, fun k hk => ?_, by rw [q2, if_pos rfl], by rw [q2, if_neg hne, q1, if_pos rfl], n1, ?_, ⟨t2, by have := hf.len; omega, by have := hf.cnt; omega, by have := hf.liv; omega⟩⟩
  · simp only [makeP, layP, Pr.go_bind, Pr.go, Qn.on, e1, if_true, Ds.e, Ds.at_, e2]
  · have h1 : k ≠ s := fun e => by rw [e, n1] at hk; cases hk
    have h2 : k ≠ nh := fun e => by
      rw [← e, q1, if_neg h1] at n2
      rw [n2] at hk; cases hk
    rw [q2, if_neg h2, q1, if_neg h1]
  · cases hx : m.look nh with
    | none => rfl
    | some v =>
      rw [q1] at n2
      split at n2
      · cases n2
      · rw [hx] at n2; cases n2
theorem go_pub {m : M} {top : Int} {hs : List Int} {x : Wg} {hh nh s ver : Int} {d : Ds} {c l : Int} {n i : Nat} (h : Rel m top hs x hh d) (hf : Fine N m c l) (hn : m.look nh = some (.desc ⟨ver, d.ver, s, swapsOf hs x.cells (chg n i), none, 0, 0⟩)) (hs0 : m.look s = some (.word 0)) (hst : s ≠ top ∧ s ∉ hs) :
    ∃ m', (Qn.swap top hh nh).on m = (m', ⟨.no, 0, true, 0⟩) ∧ Rel m' top hs (x.pub ver (chg n i)) nh ⟨ver, d.ver, s, swapsOf hs x.cells (chg n i), none, 0, 0⟩ ∧ Fine N m' (c + 1) l ∧ ∀ k, k ≠ top → m'.look k = m.look k := by
  obtain ⟨m', e, q1, q2, q3, q4, q5⟩ := swap_yes (n := nh) h.tp
  have hnt : nh ≠ top := fun e => by rw [e, h.tp] at hn; cases hn
  refine ⟨m', by simp only [Qn.on, e], ⟨by rw [q1, if_pos rfl], by rw [q1, if_neg hnt]; exact hn, by rw [q1, if_neg hst.1]; exact hs0, rfl, h.ver, fun k a b h1 h2 => ?_, fun _ => rfl, ⟨fun e => hst.1 e.symm, h.nt.2.1, hst.2⟩, h.nd, h.len, h.fit.pub _ _ _, chg_keys n i 8⟩, ⟨q2 hf.tidy, q4.trans hf.len, by have := hf.cnt; omega, q3.trans hf.liv⟩, fun k hk => by rw [q1, if_neg hk]⟩
  rw [q1, if_neg fun e => h.nt.2.1 (by rw [← e]; exact List.mem_of_getElem? h1)]
  exact h.cell k a b h1 h2
theorem go_drop {m : M} {hh ver : Int} {d : Ds} {c l : Int} {v : Int} (hd : m.look hh = some (.desc d)) (hs : m.look d.st = some (.word v)) (hf : Fine N m c l) :
    ∃ m', (dropP hh ver).go m = (0, m') ∧ Fine N m' (c + 3) l ∧ ∀ k, m'.look k = m.look k := by
  have f1 := hf.more 1
  obtain ⟨m1, e1, q1, t1, l1, c1, k1⟩ := retire_yes (m := m.more 1) (s := ver) ((more_look m 1 d.st).trans hs)
  obtain ⟨m2, e2, q2, t2, l2, c2, k2⟩ := retire_yes (m := m1) (h := hh) (s := ver) ((q1 hh).trans ((more_look m 1 hh).trans hd))
  refine ⟨m2, ?_, ⟨t2 (t1 f1.tidy), by have := f1.len; omega, by have := f1.cnt; omega, by have := f1.liv; omega⟩, fun k => by rw [q2, q1, more_look]⟩
  simp only [dropP, bothP, Pr.go_bind, go_held hd, if_true, Pr.go, Qn.on, e1, e2]
end Go.Proofs.YteiikkkcjpfapaaDoor
/- One round's calls, by a port that doesn't keep; the round's variables. Conditions: at most 15000 asks. -/
namespace Go.Proofs.YteiikkkcjpfapaaDoor
open Go.RowKit Go.Op
set_option maxRecDepth 100000
variable {N : Nat}

section
variable {w0 : World} {b c r pb : Nat} {t t1 : Value} {G G1 : List (Nat × List Sw)} {w w1 : World} {m m1 : M} {s : Pt} {top hh cc ll : Int} {hs : List Int} {x : Wg} {d : Ds}
theorem latest_q (h : SysE w0 b c r pb 0 t G w m s) (hq : Quiet s) (hc : m.count ≤ 15000) (hr : Rel m top hs x hh d) :
    Calls Tryd.prog 19 #[.pointer (some ⟨pb, 0, none⟩), .int .i64 top] w fun e w' => ∃ d1 t2 G2, e = .returned (.tuple #[.int .i64 hh, Ds.v d1, .bool x.done, .int .i64 0]) ∧ Ds.e d1 = d ∧ d1.In G2 ∧ Aft w0 b c r pb 0 t G w t2 G2 w' (m.more 3) s := by
  refine (latest_E h (by omega) top).mono ?_
  intro e w' hE
  have hE2 := hE.done hq
  rw [go_last hr] at hE2
  obtain ⟨t2, G2, v, rfl, ⟨d1, e1, hi, rfl⟩, ha⟩ := hE2
  exact ⟨d1, t2, G2, rfl, e1, hi, ha⟩
theorem help_q (h : SysE w0 b c r pb 0 t G w m s) (hq : Quiet s) (hc : m.count ≤ 15000) (hr : Rel m top hs x hh d) (hd : x.done = false) (hf : Fine N m cc ll) (d1 : Ds) (h1 : d1.e = d) (hi : d1.In G) :
    Calls Tryd.prog 22 #[.pointer (some ⟨pb, 0, none⟩), d1.v] w fun e w' => ∃ t2 G2 m2, e = .returned (.int .i64 0) ∧ Aft w0 b c r pb 0 t G w t2 G2 w' m2 s ∧ Rel m2 top hs x.help hh d ∧ Fine N m2 (cc + 9) ll ∧ ∀ k, k ≠ d.st → k ∉ hs → m2.look k = m.look k := by
  have e1 : d1.sw = d.sw := by rw [← h1]; rfl
  have e2 : d1.sw.length ≤ 8 := by rw [e1, hr.sw hd]; simp only [swapsOf, List.length_map]; exact hr.fit.wl
  refine (help_E h (by omega) d1 hi (by rw [hi.n]; omega)).mono ?_
  intro e w' hE
  have hE2 := hE.done hq
  have e3 : helpP d1 = helpP d := by rw [← h1]; rfl
  obtain ⟨m2, g1, g2, g3, g4⟩ := go_help hr hd hf
  rw [e3, g1] at hE2
  obtain ⟨t2, G2, v, rfl, rfl, ha⟩ := hE2
  exact ⟨t2, G2, m2, rfl, ha, g2, g3, g4⟩
theorem make_q (h : SysE w0 b c r pb 0 t G w m s) (hq : Quiet s) (hT : TabAt w0) (hf : Fine N m cc ll) (hc : cc ≤ 15000) (hl : ll + 10 ≤ (N : Int)) (hN : N ≤ 65535) (ver bf : Int) (ad : Option Addr) (cap : Nat) (l : List Sw) (h8 : l.length ≤ 8) (hcap : l.length ≤ cap) (hs : SlAt w ad l) :
    Calls Tryd.prog 31 #[.pointer (some ⟨pb, 0, none⟩), .int .i64 ver, .int .i64 bf, .slice ad l.length cap] w fun e w' => ∃ t2 G2 m2 st nh, e = .returned (.tuple #[.int .i64 nh, .int .i64 0]) ∧ Aft w0 b c r pb 0 t G w t2 G2 w' m2 s ∧
      (∀ k, (m.look k).isSome = true → m2.look k = m.look k) ∧ m2.look nh = some (.desc ⟨ver, bf, st, l, none, 0, 0⟩) ∧ m2.look st = some (.word 0) ∧ m.look st = none ∧ m.look nh = none ∧ Fine N m2 (cc + 2) (ll + 2) := by
  refine (make_E h hT (by have := hf.cnt; omega) ver bf ad cap l (by omega) hcap hs).mono ?_
  intro e w' hE
  have hE2 := hE.done hq
  obtain ⟨m2, st, nh, g1, g2, g3, g4, g5, g6, g7⟩ := go_make hf hc hl hN ver bf l
  rw [g1] at hE2
  obtain ⟨t2, G2, v, rfl, rfl, ha⟩ := hE2
  exact ⟨t2, G2, m2, st, nh, rfl, ha, g2, g3, g4, g5, g6, g7⟩
theorem pub_no (h : SysE w0 b c r pb 0 t G w m s) (hq : Quiet s) (hc : m.count ≤ 15000) (ht : m.look top = some (.word hh)) (n : Int) (hn : hh ≠ n) :
    Calls Tryd.prog 42 #[.pointer (some ⟨pb, 0, none⟩), .int .i64 top, .int .i64 n, .int .i64 n] w fun e w' => ∃ t2 G2, e = .returned (.tuple #[.bool false, .int .i64 0]) ∧ Aft w0 b c r pb 0 t G w t2 G2 w' (m.more 1) s := by
  refine (publish_E h (by omega) top n n).mono ?_
  intro e w' hE
  have hE2 := hE.done1 hq
  simp only [Qn.on, swap_no ht hn, ask_more] at hE2
  obtain ⟨t2, G2, v, rfl, rfl, ha⟩ := hE2
  exact ⟨t2, G2, rfl, ha⟩
theorem pub_yes (h : SysE w0 b c r pb 0 t G w m s) (hq : Quiet s) (hc : m.count ≤ 15000) (hr : Rel m top hs x hh d) (hf : Fine N m cc ll) {nh st ver : Int} {n i : Nat} (hn : m.look nh = some (.desc ⟨ver, d.ver, st, swapsOf hs x.cells (chg n i), none, 0, 0⟩)) (hs0 : m.look st = some (.word 0)) (hst : st ≠ top ∧ st ∉ hs) :
    Calls Tryd.prog 42 #[.pointer (some ⟨pb, 0, none⟩), .int .i64 top, .int .i64 hh, .int .i64 nh] w fun e w' => ∃ t2 G2 m2, e = .returned (.tuple #[.bool true, .int .i64 0]) ∧ Aft w0 b c r pb 0 t G w t2 G2 w' m2 s ∧
      Rel m2 top hs (x.pub ver (chg n i)) nh ⟨ver, d.ver, st, swapsOf hs x.cells (chg n i), none, 0, 0⟩ ∧ Fine N m2 (cc + 1) ll ∧ ∀ k, k ≠ top → m2.look k = m.look k := by
  refine (publish_E h (by omega) top hh nh).mono ?_
  intro e w' hE
  have hE2 := hE.done1 hq
  obtain ⟨m2, g1, g2, g3, g4⟩ := go_pub hr hf hn hs0 hst
  rw [g1] at hE2
  obtain ⟨t2, G2, v, rfl, rfl, ha⟩ := hE2
  exact ⟨t2, G2, m2, rfl, ha, g2, g3, g4⟩
theorem load_q (h : SysE w0 b c r pb 0 t G w m s) (hq : Quiet s) (hc : m.count ≤ 15000) (hd : m.look hh = some (.desc d)) :
    Calls Tryd.prog 36 #[.pointer (some ⟨pb, 0, none⟩), .int .i64 hh] w fun e w' => ∃ d1 t2 G2, e = .returned (.tuple #[Ds.v d1, .int .i64 0]) ∧ Ds.e d1 = d ∧ d1.In G2 ∧ Aft w0 b c r pb 0 t G w t2 G2 w' (m.more 1) s := by
  refine (load_E h (by omega) hh).mono ?_
  intro e w' hE
  have hE2 := hE.done hq
  rw [go_held hd] at hE2
  obtain ⟨t2, G2, v, rfl, ⟨d1, e1, hi, rfl⟩, ha⟩ := hE2
  exact ⟨d1, t2, G2, rfl, e1, hi, ha⟩
theorem drop_q (h : SysE w0 b c r pb 0 t G w m s) (hq : Quiet s) (hc : m.count ≤ 15000) (hf : Fine N m cc ll) {v : Int} (hd : m.look hh = some (.desc d)) (hs : m.look d.st = some (.word v)) (ver : Int) :
    Calls Tryd.prog 33 #[.pointer (some ⟨pb, 0, none⟩), .int .i64 hh, .int .i64 ver] w fun e w' => ∃ t2 G2 m2, e = .returned (.int .i64 0) ∧ Aft w0 b c r pb 0 t G w t2 G2 w' m2 s ∧ Fine N m2 (cc + 3) ll ∧ ∀ k, m2.look k = m.look k := by
  refine (drop_E h (by omega) hh ver).mono ?_
  intro e w' hE
  have hE2 := hE.done hq
  obtain ⟨m2, g1, g2, g3⟩ := go_drop (ver := ver) hd hs hf
  rw [g1] at hE2
  obtain ⟨t2, G2, v, rfl, rfl, ha⟩ := hE2
  exact ⟨t2, G2, m2, rfl, ha, g2, g3⟩
/-- The round's variables. -/
structure RV (w0 : World) (b c r pb : Nat) (t : Value) (G : List (Nat × List Sw)) (z : Nat) (top : Int) (hs : List Int) (a : Option Addr) (cap n more : Nat) (wt : Bool) (x : Wg) (s : Ws) (W : World) : Prop where
  y0 : W.cell? ⟨z, 0, none⟩ = some (.pointer (some ⟨b, 0, none⟩))
  y1 : W.cell? ⟨z, 1, none⟩ = some (.int .i64 top)
  y2 : W.cell? ⟨z, 2, none⟩ = some (.slice a hs.length cap)
  g : GVar W (z + 1) x s
  q0 : W.cell? ⟨z + 2, 0, none⟩ = some (.int .u8 (n : Int))
  q1 : W.cell? ⟨z + 2, 1, none⟩ = some (.int .u8 (more : Int))
  q2 : W.cell? ⟨z + 2, 2, none⟩ = some (.bool wt)
  l0 : Loc w0 b c r pb t G W z
  l1 : Loc w0 b c r pb t G W (z + 1)
  l2 : Loc w0 b c r pb t G W (z + 2)
  ws : WIsP (fun g => Loc w0 b c r pb t G W g ∧ g ≠ z + 1) W x s
  ys : ∃ g, a = some ⟨g, 0, none⟩ ∧ Loc w0 b c r pb t G W g ∧ g ≠ z + 1 ∧ ∀ (i : Nat) (h : Int), hs[i]? = some h → W.cell? ⟨g, i, none⟩ = some (.int .i64 h)
variable {z : Nat} {a : Option Addr} {cap n more : Nat} {wt : Bool} {x' : Wg} {sx sx' : Ws} {W W1 : World}
/-- Where all that it reads is as it was. -/
theorem RV.move (h : RV w0 b c r pb t G z top hs a cap n more wt x sx W) (hk : ∀ g, Loc w0 b c r pb t G W g → Loc w0 b c r pb t1 G1 W1 g ∧ W1.heap[g]? = W.heap[g]?) (hsz : W.heap.size ≤ W1.heap.size) : RV w0 b c r pb t1 G1 z top hs a cap n more wt x sx W1 := by
  have k : ∀ g, Loc w0 b c r pb t G W g → ∀ j, W1.cell? ⟨g, j, none⟩ = W.cell? ⟨g, j, none⟩ := fun g hg j => World.cell?_of_block (w := W) (a := ⟨g, j, none⟩) (hk g hg).2
  obtain ⟨g, e, hg, hg2, hc⟩ := h.ys
  exact ⟨(k _ h.l0 0).trans h.y0, (k _ h.l0 1).trans h.y1, (k _ h.l0 2).trans h.y2, h.g.same hsz (hk _ h.l1).2, (k _ h.l2 0).trans h.q0, (k _ h.l2 1).trans h.q1, (k _ h.l2 2).trans h.q2, (hk _ h.l0).1, (hk _ h.l1).1, (hk _ h.l2).1,
    (h.ws.same hsz fun g hg _ => (hk g hg.1).2).imp fun g hg _ => ⟨(hk g hg.1).1, hg.2⟩, ⟨g, e, (hk g hg).1, hg2, fun i y hy => (k g hg i).trans (hc i y hy)⟩⟩
theorem RV.aft (h : RV w0 b c r pb t G z top hs a cap n more wt x sx W) (ha : Aft w0 b c r pb 0 t G W t1 G1 W1 m1 s) : RV w0 b c r pb t1 G1 z top hs a cap n more wt x sx W1 := h.move (fun _ hg => hg.aft ha) ha.but.size
theorem RV.later (h : RV w0 b c r pb t G z top hs a cap n more wt x sx W) (hb : Below W.heap.size W W1) : RV w0 b c r pb t G z top hs a cap n more wt x sx W1 := h.move (fun _ hg => ⟨hg.same hb.size, hb.block _ hg.lt⟩) hb.size
theorem RV.put (h : RV w0 b c r pb t G z top hs a cap n more wt x sx W) (hw : WIsP (fun g => Loc w0 b c r pb t G W g ∧ g ≠ z + 1) W x' sx') : RV w0 b c r pb t G z top hs a cap n more wt x' sx' (gput W (z + 1) x' sx') := by
  have hb := gput_but W (z + 1) x' sx'
  have k : ∀ g, Loc w0 b c r pb t G W g → g ≠ z + 1 → ∀ j, (gput W (z + 1) x' sx').cell? ⟨g, j, none⟩ = W.cell? ⟨g, j, none⟩ := fun g hg hne j => World.cell?_of_block (w := W) (a := ⟨g, j, none⟩) (hb.block g hg.lt hne)
  obtain ⟨g, e, hg, hg2, hc⟩ := h.ys
  exact ⟨(k _ h.l0 (by omega) 0).trans h.y0, (k _ h.l0 (by omega) 1).trans h.y1, (k _ h.l0 (by omega) 2).trans h.y2, h.g.put x' sx', (k _ h.l2 (by omega) 0).trans h.q0, (k _ h.l2 (by omega) 1).trans h.q1, (k _ h.l2 (by omega) 2).trans h.q2, h.l0.same hb.size, h.l1.same hb.size, h.l2.same hb.size,
    (hw.same hb.size fun g hg hl => hb.block g hl hg.2).imp fun g hg _ => ⟨hg.1.same hb.size, hg.2⟩, ⟨g, e, hg.same hb.size, hg2, fun i y hy => (k g hg hg2 i).trans (hc i y hy)⟩⟩
end
end Go.Proofs.YteiikkkcjpfapaaDoor
/- The round's variables at its start; a row of swaps that grows. No condition. -/
namespace Go.FreeV
open Go Go.RowKit Go.Free Go.Op
theorem d_build3 {P : Program} {effs : List Nat} {ops : Array Oper} {S : List Bool → (Nat → Value) → World → Prop} {i : Nat} (o0 : Oper) (ho : ops[i]? = some o0) {T : TypeId} {x y z : Operand} {k l n : Nat} (hop : o0.op = .build T #[(k, x), (l, y), (n, z)]) {vx vy vz v : (Nat → Value) → Value} (h : ∀ β w, (Instr.build T #[(k, vx β), (l, vy β), (n, vz β)]).run P w = .ok (v β) w) : Does P effs ops S ⟨i, fun β => [vx β, vy β, vz β], v, .pure⟩ := by
  rintro o h1 β ρ h2 w
  rw [ho] at h1
  cases h1
  rw [hop] at h2
  simp [Op.operands] at h2
  simp [execOp, hop, h2.1, h2.2.1, h2.2.2, h]
end Go.FreeV
namespace Go.Proofs.YteiikkkcjpfapaaDoor
open Go.RowKit Go.Op
set_option maxRecDepth 100000
variable {N : Nat}

def OwnS (w : World) (B : Nat) (v : Value) (l : List Sw) : Prop := w.ownsRow B 90 3 v l.length (swRow l)
theorem OwnS.see {w : World} {B : Nat} {v : Value} {l : List Sw} (h : OwnS w B v l) : ∃ a c, v = .slice a l.length c ∧ SlAt w a l ∧ l.length ≤ c := by
  obtain ⟨q1, q2⟩ := id h
  rcases q2 with ⟨rfl, h2⟩ | ⟨g, cap, cur, rfl, hb, hc, hd⟩
  · have : l = [] := List.eq_nil_of_length_eq_zero h2
    subst this
    exact ⟨none, 0, rfl, .inl rfl, Nat.le_refl _⟩
  · refine ⟨some ⟨g, 0, none⟩, cap, rfl, .inr ⟨g, rfl, rw_of (own_lt hc) fun j v hj => ?_⟩, hd.1⟩
    have := World.ownsRow.cells h (g := g) rfl j v hj
    rw [add_off, Nat.zero_add] at this
    exact this
theorem OwnS.lt {w : World} {B : Nat} {v : Value} {l : List Sw} (h : OwnS w B v l) : ∀ k, v.ownBlock = some k → B ≤ k ∧ k < w.heap.size := World.ownsRow.lt h
theorem OwnS.below {w w' : World} {B : Nat} {v : Value} {l : List Sw} (h : OwnS w B v l) (hb : Below w.heap.size w w') : OwnS w' B v l := by
  obtain ⟨h1, h2⟩ := h
  refine ⟨h1, h2.imp id ?_⟩
  rintro ⟨g, cap, cur, e, b, c, d⟩
  exact ⟨g, cap, cur, e, b, by rw [hb.block g (own_lt c)]; exact c, d⟩
theorem build_90 (a b c : Int) (w : World) : (Instr.build 90 #[(0, .int .i64 a), (1, .int .i64 b), (2, .int .i64 c)]).run Tryd.prog w = .ok (.agg #[.int .i64 a, .int .i64 b, .int .i64 c]) w := by kernel_rfl
theorem row_50 (x : Sw) (w : World) : (Instr.buildSlice 50 1 #[(0, .agg #[.int .i64 x.cell, .int .i64 x.old, .int .i64 x.new])]).run Tryd.prog w = .ok (.slice (some ⟨w.heap.size, 0, none⟩) 1 1) (w.alloc (.cells x.row.toArray 90)) := by kernel_rfl
/-- In the region that appends. -/
structure XMid (B : Nat) (w : World) (v : Value) (l : List Sw) (x : Sw) (bs : List Bool) (β : Nat → Value) (W : World) : Prop where
  a0 : bs[1]? = some false → Below w.heap.size w W
  a1 : bs[0]? = some true → bs[1]? = some false → ∃ g, β 25 = .slice (some ⟨g, 0, none⟩) 1 1 ∧ W.rangeAt g 0 x.row
  a2 : bs[1]? = some true → ∃ W0, Below w.heap.size w W0 ∧ OwnS W B (β 26) (l ++ [x]) ∧ W0.grownBy W v.ownBlock
section
variable {B : Nat} {w W : World} {v : Value} {l : List Sw} {x : Sw} {bs : List Bool} {β : Nat → Value}
theorem xmid_start : XMid B w v l x [false, false] β w.drew := ⟨fun _ => (Below.refl _ _).drew, fun e => (by cases e), fun e => (by cases e)⟩
theorem xmid_row (h : XMid B w v l x bs β W) (h1 : bs[1]? = some false) :
    ∃ u w', (Instr.buildSlice 50 1 #[(0, .agg #[.int .i64 x.cell, .int .i64 x.old, .int .i64 x.new])]).run Tryd.prog W = .ok u w' ∧ XMid B w v l x (bs.set 0 true) (FreeV.upd β 25 u) w' := by
  have hb := h.a0 h1
  refine ⟨_, _, row_50 x W, ⟨fun _ => hb.alloc hb.size _, fun _ _ => ⟨W.heap.size, by simp [FreeV.upd], ?_⟩, fun e => ?_⟩⟩
  · intro j u hj
    rw [World.cell?_alloc_new, Nat.zero_add]
    simpa using hj
  · simp [h1] at e
theorem xmid_app (ho : OwnS w B v l) (hB : B ≤ w.heap.size) (hl : l.length ≤ 1000000) (h : XMid B w v l x bs β W) (h0 : bs[0]? = some true) (h1 : bs[1]? = some false) (ty : TypeId) :
    ∃ u w', (Builtin.append_ #[50, 50] ty #[v, β 25]).run Tryd.prog W = .ok u w' ∧ XMid B w v l x (bs.set 1 true) (FreeV.upd β 26 u) w' := by
  have hb := h.a0 h1
  obtain ⟨g, e6, hg⟩ := h.a1 h0 h1
  obtain ⟨i0, hi, hz0, hz1, hz2⟩ := info_parts info90
  obtain ⟨v', w', hr, ho2, hgr, _, hn⟩ := run_append_own_at W B 50 ty 90 i0 _ 3 24 Tryd.underlying50 hi hz0 hz1 hz2 rfl (by decide) v _ _ (ho.below hb) ⟨g, 0, none⟩ 1 1 x.row rfl
    (fun j u hu => by rw [add_off]; exact hg j u hu) (fun u hu => by simp [Sw.row] at hu; rcases hu with rfl | rfl | rfl <;> rfl) (by unfold maxLen; omega) (by omega) (Nat.le_trans hB hb.size)
  rw [e6]
  refine ⟨v', w', hr, ⟨fun e => ?_, fun _ e => ?_, fun _ => ⟨W, hb, ?_, hgr⟩⟩⟩
  · rw [set_at h1] at e; cases e
  · rw [set_at h1] at e; cases e
  · simp only [FreeV.upd, if_true]
    unfold OwnS
    rw [List.length_append, show swRow (l ++ [x]) = swRow l ++ x.row by simp [swRow]]
    exact ho2
end
theorem rv_start {w0 w : World} {b c r pb : Nat} {t : Value} {G : List (Nat × List Sw)} {m : M} {s : Pt} {top : Int} {hs : List Int} {x : Wg} {sx : Ws} (h : SysE w0 b c r pb 0 t G w m s) (a : Option Addr) (cap : Nat) (hys : ∃ g, a = some ⟨g, 0, none⟩ ∧ Loc w0 b c r pb t G w g ∧ ∀ (i : Nat) (y : Int), hs[i]? = some y → w.cell? ⟨g, i, none⟩ = some (.int .i64 y)) (hw : WIsP (Loc w0 b c r pb t G w) w x sx) (n more : Nat) (wt : Bool) :
    RV w0 b c r pb t G w.heap.size top hs a cap n more wt x sx (((w.alloc (.cells #[.pointer (some ⟨b, 0, none⟩), .int .i64 top, .slice a hs.length cap] 27)).alloc (gobj x sx)).alloc (.cells #[.int .u8 (n : Int), .int .u8 (more : Int), .bool wt] 39)) := by
  obtain ⟨o1, ho1⟩ : ∃ o, o = Obj.cells #[.pointer (some ⟨b, 0, none⟩), .int .i64 top, .slice a hs.length cap] 27 := ⟨_, rfl⟩
  obtain ⟨o3, ho3⟩ : ∃ o, o = Obj.cells #[.int .u8 (n : Int), .int .u8 (more : Int), .bool wt] 39 := ⟨_, rfl⟩
  rw [← ho1, ← ho3]
  have s1 : (w.alloc o1).heap.size = w.heap.size + 1 := by simp
  have s2 : ((w.alloc o1).alloc (gobj x sx)).heap.size = w.heap.size + 2 := by simp
  have b1 := (Below.refl w.heap.size w).alloc (Nat.le_refl _) o1
  have b2 := (Below.refl (w.alloc o1).heap.size (w.alloc o1)).alloc (Nat.le_refl _) (gobj x sx)
  have b3 := (Below.refl ((w.alloc o1).alloc (gobj x sx)).heap.size ((w.alloc o1).alloc (gobj x sx))).alloc (Nat.le_refl _) o3
  have b23 := b2.trans (b3.mono b2.size)
  have b13 := b1.trans (b23.mono b1.size)
  have g2 := gnew (w.alloc o1) x sx
  rw [s1] at g2
  have k1 : ∀ (j : Nat) v, (#[.pointer (some ⟨b, 0, none⟩), .int .i64 top, .slice a hs.length cap] : Array Value)[j]? = some v → (((w.alloc o1).alloc (gobj x sx)).alloc o3).cell? ⟨w.heap.size, j, none⟩ = some v := fun j v hv => by
    rw [b23.cell (p := ⟨w.heap.size, j, none⟩) (by rw [s1]; simp only; omega), ho1, World.cell?_alloc_new]; exact hv
  have k3 : ∀ (j : Nat) v, (#[.int .u8 (n : Int), .int .u8 (more : Int), .bool wt] : Array Value)[j]? = some v → (((w.alloc o1).alloc (gobj x sx)).alloc o3).cell? ⟨w.heap.size + 2, j, none⟩ = some v := fun j v hv => by
    rw [← s2, ho3, World.cell?_alloc_new]; exact hv
  have l1 := (h.later b1).fresh (gobj x sx)
  rw [s1] at l1
  have l2 := (h.later (b1.trans (b2.mono b1.size))).fresh o3
  rw [s2] at l2
  obtain ⟨g, e, hg, hc⟩ := hys
  exact ⟨k1 0 _ rfl, k1 1 _ rfl, k1 2 _ rfl, g2.later b3, k3 0 _ rfl, k3 1 _ rfl, k3 2 _ rfl, (h.fresh o1).same b23.size, l1.same b3.size, l2,
    (hw.imp fun g hg hl => (⟨hg.same b13.size, by omega⟩ : Loc w0 b c r pb t G (((w.alloc o1).alloc (gobj x sx)).alloc o3) g ∧ g ≠ w.heap.size + 1)).later b13, ⟨g, e, hg.same b13.size, by have := hg.lt; omega, fun i y hy => (b13.cell (p := ⟨g, i, none⟩) hg.lt).trans (hc i y hy)⟩⟩
end Go.Proofs.YteiikkkcjpfapaaDoor
/- What the law's round comes to. Conditions: memory and the reference say the same; there is room; numbers are small. -/
namespace Go.Proofs.YteiikkkcjpfapaaDoor
open Go.RowKit Go.Op
set_option maxRecDepth 100000
variable {N : Nat}

theorem Rel.mem {m : M} {top : Int} {hs : List Int} {x : Wg} {hh : Int} {d : Ds} (h : Rel m top hs x hh d) {k : Int} (hk : k ∈ hs) : ∃ v, m.look k = some (.word v) := by
  obtain ⟨i, hi, e⟩ := List.mem_iff_getElem.1 hk
  exact ⟨_, h.cell i k _ (by rw [List.getElem?_eq_getElem hi, e]) (List.getElem?_eq_getElem (by have := h.len; have := h.fit.len; omega))⟩
/-- In the loop that gathers swaps. -/
structure SwMid (w4 : World) (l : List Sw) (k : Nat) (v : Value) (wr : World) : Prop where
  own : OwnS wr w4.heap.size v (l.take k)
  below : Below w4.heap.size w4 wr
section
variable {w0 w : World} {b c r pb : Nat} {t : Value} {G : List (Nat × List Sw)} {m : M} {s : Pt} {top hh cc ll : Int} {hs : List Int} {x : Wg} {d : Ds} {sx : Ws}
/-- What stays of memory where the last descriptor was done. -/
def Stays (m m2 : M) (top : Int) (hs : List Int) (st : Int) : Prop := ∀ k v, m.look k = some v → k ≠ top → k ∉ hs → m2.look k = some v ∧ k ≠ st
def RdPost (N : Nat) (m : M) (dn : Bool) (w0 : World) (b c r pb : Nat) (t : Value) (G : List (Nat × List Sw)) (w : World) (s : Pt) (top : Int) (hs : List Int) (x' : Wg) (cc ll : Int) (e : Ending) (w' : World) : Prop :=
  e = .returned (.bool true) ∧ ∃ t2 G2 m2 hh2 d2, Aft w0 b c r pb 0 t G w t2 G2 w' m2 s ∧ Rel m2 top hs x' hh2 d2 ∧ Fine N m2 (cc + 60) (ll + 2) ∧ (dn = true → Stays m m2 top hs d2.st)
/-- All that holds behind Latest and the first Help. -/
structure RS (N : Nat) (w0 : World) (b c r pb : Nat) (t : Value) (G : List (Nat × List Sw)) (w : World) (s : Pt) (top : Int) (hs : List Int) (a : Option Addr) (cap n more : Nat) (wt : Bool) (hh cc ll : Int) (x : Wg) (sx : Ws) (d d1 : Ds) (z3 : Nat) (W : World) (t2 : Value) (G2 : List (Nat × List Sw)) (m2 : M) : Prop where
  aa : Aft w0 b c r pb 0 t G w t2 G2 W m2 s
  vv : RV w0 b c r pb t2 G2 w.heap.size top hs a cap n more wt x sx W
  dd : DVar W z3 d1
  lc : Loc w0 b c r pb t2 G2 W z3
  rr : Rel m2 top hs x hh d
  ff : Fine N m2 (cc + 12) ll
theorem RS.later {a : Option Addr} {cap n more : Nat} {wt : Bool} {d1 : Ds} {z3 : Nat} {W W1 : World} {t2 : Value} {G2 : List (Nat × List Sw)} {m2 : M} (h : RS N w0 b c r pb t G w s top hs a cap n more wt hh cc ll x sx d d1 z3 W t2 G2 m2) (hb : Below W.heap.size W W1) : RS N w0 b c r pb t G w s top hs a cap n more wt hh cc ll x sx d d1 z3 W1 t2 G2 m2 :=
  ⟨h.aa.later hb, h.vv.later hb, h.dd.later hb, h.lc.same hb.size, h.rr, h.ff⟩
theorem RS.weak {a : Option Addr} {cap n more : Nat} {wt : Bool} {d1 : Ds} {z3 : Nat} {W : World} {t2 : Value} {G2 : List (Nat × List Sw)} {m2 : M} {c2 : Int} (h : RS N w0 b c r pb t G w s top hs a cap n more wt hh cc ll x sx d d1 z3 W t2 G2 m2) (hc : cc ≤ c2) : RS N w0 b c r pb t G w s top hs a cap n more wt hh c2 ll x sx d d1 z3 W t2 G2 m2 :=
  ⟨h.aa, h.vv, h.dd, h.lc, h.rr, ⟨h.ff.tidy, h.ff.len, by have := h.ff.cnt; omega, h.ff.liv⟩⟩
theorem SysE.newloc2 (h : SysE w0 b c r pb 0 t G w m s) {W : World} {z : Nat} (hz : w.heap.size ≤ z) (hw : z < W.heap.size) : Loc w0 b c r pb t G W z := by
  have f := h.fresh (.cells #[] 3)
  obtain ⟨m0, s0, h1, -⟩ := h
  have o := h1.has.at_.own
  have h2 := h1.pt.lt
  have h3 := o.lb
  have h4 := o.lc
  have h5 := o.lr
  exact ⟨hw, Nat.le_trans h1.has.below.size hz, ⟨by omega, by omega, by omega, by omega⟩, fun e => by
    have := (World.ownsRow.lt h1.pt.own _ e).2
    omega, fun x hx e => by
    have := (h1.rows x.1 x.2 hx).1.lt
    omega⟩
set_option maxHeartbeats 2000000 in
theorem round_any (h : SysE w0 b c r pb 0 t G w m s) (hq : Quiet s) (hT : TabAt w0) (hr : Rel m top hs x hh d) (hf : Fine N m cc ll) (hcc : cc ≤ 14000) (hll : ll + 10 ≤ (N : Int)) (hNN : N ≤ 65535) (a : Option Addr) (cap : Nat) (hys : ∃ g, a = some ⟨g, 0, none⟩ ∧ Loc w0 b c r pb t G w g ∧ ∀ (i : Nat) (y : Int), hs[i]? = some y → w.cell? ⟨g, i, none⟩ = some (.int .i64 y)) (hw : WIsP (Loc w0 b c r pb t G w) w x sx)
    (n more i : Nat) (hn : n ≤ 255) (hm : more ≤ 255) (hi : i ≤ 1000) (hv : 0 ≤ x.ver ∧ x.ver ≤ 1000000) (wt : Bool) :
    Calls Tryd.prog 13 #[.agg #[.pointer (some ⟨b, 0, none⟩), .int .i64 top, .slice a 8 cap], .pointer (some ⟨pb, 0, none⟩), x.v sx, .agg #[.int .u8 (n : Int), .int .u8 (more : Int), .bool wt], .int .i64 (i : Int)] w
      (RdPost N m x.done w0 b c r pb t G w s top hs (x.foll n more wt i) cc ll) := by
  obtain ⟨w1, hw1⟩ : ∃ W, W = ((w.alloc (.cells #[.pointer (some ⟨b, 0, none⟩), .int .i64 top, .slice a hs.length cap] 27)).alloc (gobj x sx)).alloc (.cells #[.int .u8 (n : Int), .int .u8 (more : Int), .bool wt] 39) := ⟨_, rfl⟩
  have b1 : Below w.heap.size w w1 := by rw [hw1]; exact (((Below.refl _ _).alloc (Nat.le_refl _) _).alloc (by simp) _).alloc (by simp; omega) _
  have hv1 : RV w0 b c r pb t G w.heap.size top hs a cap n more wt x sx w1 := by rw [hw1]; exact rv_start h a cap hys hw n more wt
  have hl := latest_q (h.later b1) hq (by have := hf.cnt; omega) hr
  rw [hr.len] at hw1
  have HW := Lib.hid hw1.symm
  have HB := Lib.hid b1
  have HV1 := Lib.hid hv1
  have HR := Lib.hid hr
  have HF := Lib.hid hf
  have HQ := Lib.hid hq
  have HT := Lib.hid hT
  have y1 := hv1.y1
  obtain ⟨xc, ver, bf, dn, xw⟩ := x
  obtain ⟨xa, xn, xp, xq⟩ := sx
  simp only at hv
  obtain ⟨hv0, hv1'⟩ := hv
  unfold gobj at HW
  unfold Wg.v
  simp only at HW hl ⊢
  clear h hq hT hr hf hys hw hw1 b1 hv1
  have hm2 : (more : Int) ≤ 255 := by omega
  go_enter Tryd.func13, Tryd.ntmps13
  go_wp2_with (first | rw [HW.out] | fail)
  refine hl.mono ?_
  rintro e w2 ⟨d1, t2, G2, rfl, e1, hi1, ha⟩
  have HS : Hid (RS N w0 b c r pb t G w s top hs a cap n more wt hh (cc - 9) ll ⟨xc, ver, bf, dn, xw⟩ ⟨xa, xn, xp, xq⟩ d d1 w2.heap.size (w2.alloc d1.obj) t2 G2 (m.more 3)) := by
    have hb := (Below.refl w2.heap.size w2).alloc (Nat.le_refl _) d1.obj
    have hf3 := HF.out.more 3
    exact ⟨(ha.later hb).back HB.out, (HV1.out.aft ha).later hb, dnewd w2 d1, ha.sys.fresh d1.obj, HR.out.more 3, ⟨hf3.tidy, hf3.len, by have := hf3.cnt; omega, hf3.liv⟩⟩
  have HD := Lib.hid (⟨e1, hi1⟩ : _ ∧ _)
  have ev : d1.ver = ver := by rw [← show d.ver = d1.ver by rw [← e1]; rfl]; exact HR.out.ver
  have eb : d1.bf = bf := by rw [← show d.bf = d1.bf by rw [← e1]; rfl]; exact HR.out.bf
  have HNE : Hid (w.heap.size + 1 < w2.heap.size) := (HV1.out.aft ha).l1.lt
  clear hl ha e1 hi1 y1 HW HV1
  obtain ⟨w3, hw3⟩ : ∃ W, W = w2.alloc d1.obj := ⟨_, rfl⟩
  rw [← hw3] at HS
  have HW3 := Lib.hid hw3.symm
  have c0 := HS.out.vv.y0
  have c1 := HS.out.vv.y1
  have c2 := HS.out.vv.y2
  obtain ⟨g0, g1, g2, g3, g4⟩ := HS.out.vv.g.cells
  have q0 := HS.out.vv.q0
  have q1 := HS.out.vv.q1
  have q2 := HS.out.vv.q2
  obtain ⟨k0, k1, k2, k3⟩ := HS.out.dd.cells
  rw [ev] at k0
  rw [eb] at k1
  rw [HR.out.len] at c2
  simp only at g0 g1 g2 g3 g4
  unfold Ds.v
  unfold Ds.obj at HW3
  rw [ev, eb] at HW3 ⊢
  clear ev eb hw3
  cases dn with
  | true =>
    have HML : Hid (∀ k, (m.more 3).look k = m.look k) := fun k => more_look m 3 k
    generalize m.more 3 = m2 at HS HML
    replace HS := Lib.hid (HS.out.weak (c2 := cc) (by omega))
    go_wp2_with (first | rw [HW3.out] | fail)
    have hch := changes_any w3 n i hn hi (more : Int) wt
    refine hch.mono ?_
    rintro e w4 ⟨ac, cc3, rfl, hrow, hb4⟩
    have hlen8 : (chg n i).length ≤ 8 := chgTo_len n i 8
    obtain ⟨len, hlen⟩ : ∃ l, l = (chg n i).length := ⟨_, rfl⟩
    obtain ⟨lsw, hlsw⟩ : ∃ l, l = swapsOf hs xc (chg n i) := ⟨_, rfl⟩
    have HL : Hid (lsw.length = len ∧ len ≤ 8 ∧ RowC w3.heap.size w4 ac (chg n i) ∧ len = (chg n i).length ∧ lsw = swapsOf hs xc (chg n i)) :=
      ⟨by rw [hlsw, hlen]; simp [swapsOf], by omega, hrow, hlen, hlsw⟩
    have HS4 := Lib.hid (HS.out.later hb4)
    have HH0 : Hid (SwMid w4 lsw 0 (.slice none 0 0) w4) := ⟨World.ownsRow_nil _ _ _ _, Below.refl _ _⟩
    have hlen1 : (len : Int) ≤ 8 := by omega
    rw [← hlen]
    clear hch hrow hb4 hlsw hlen hlen8 HS HW3 c0 c1 c2 g0 g1 g2 g3 g4 q0 q1 q2 k0 k1 k2 k3
    go_wp2_with fail
    go_loopw [15, 17] (fun sv kv wr => ∃ (k : Nat) (v : Value), sv = v ∧ kv = .int .i64 (k : Int) ∧ k ≤ len ∧ Hid (SwMid w4 lsw k v wr)) (fun _ kv _ => len - (intOf kv).toNat)
    case atStart => exact ⟨0, _, rfl, rfl, Nat.zero_le _, HH0⟩
    case round =>
      obtain ⟨k, v, rfl, rfl, hk, hR⟩ := hrel
      clear HH0
      obtain ⟨sa, sc, ev, hsl, hcap⟩ := hR.out.own.see
      have htk : (lsw.take k).length = k := by rw [List.length_take, HL.out.1]; omega
      rw [htk] at ev hcap
      subst ev
      by_cases hlt : k < len
      · have i1 : (k : Int) < (len : Int) := by omega
        obtain ⟨⟨p1, p2⟩, hp⟩ : ∃ p, (chg n i)[k]? = some p := ⟨_, List.getElem?_eq_getElem (by rw [← HL.out.2.2.2.1]; exact hlt)⟩
        have hp8 : p1 < 8 := (chgTo_mem n i 8 (p1, p2) (List.mem_of_getElem? hp)).1
        have h8 := HS4.out.rr.len
        have hx8 : xc.length = 8 := HS4.out.rr.fit.len
        obtain ⟨hk, hhk⟩ : ∃ y, hs[p1]? = some y := ⟨_, List.getElem?_eq_getElem (by omega)⟩
        obtain ⟨ok, hok⟩ : ∃ y, xc[p1]? = some y := ⟨_, List.getElem?_eq_getElem (by omega)⟩
        obtain ⟨gc, rfl, -, hgc, hgcc⟩ : ∃ g, ac = some ⟨g, 0, none⟩ ∧ w3.heap.size ≤ g ∧ g < w4.heap.size ∧ ∀ (i2 : Nat) (x : Nat × Int), (chg n i)[i2]? = some x → w4.cell? ⟨g, i2 * 2, none⟩ = some (.int .i64 (x.1 : Int)) ∧ w4.cell? ⟨g, i2 * 2 + 1, none⟩ = some (.int .i64 x.2) := by
          rcases HL.out.2.2.1 with e | e
          · rw [e] at hp; simp at hp
          · exact e
        obtain ⟨gh, rfl, lgh, ngh, hgh⟩ := HS4.out.vv.ys
        obtain ⟨gx, rfl, lgx, hgx, hgxc⟩ : ∃ g, xa = some ⟨g, 0, none⟩ ∧ (Loc w0 b c r pb t2 G2 w4 g ∧ g ≠ w.heap.size + 1) ∧ g < w4.heap.size ∧ ∀ (i : Nat) (y : Int), xc[i]? = some y → w4.cell? ⟨g, i, none⟩ = some (.int .i64 y) := by
          rcases HS4.out.vv.ws.c with e | e
          · have e2 : xc = [] := e
            rw [e2] at hx8; simp at hx8
          · exact e
        have HBW : Hid (∀ W, Below wr.heap.size wr W → Below w4.heap.size w4 W) := fun W hb => hR.out.below.trans (hb.mono hR.out.below.size)
        have HC : Hid (∀ W, Below wr.heap.size wr W → W.cell? ⟨gc, k * 2, none⟩ = some (.int .i64 (p1 : Int)) ∧ W.cell? ⟨gc, k * 2 + 1, none⟩ = some (.int .i64 p2)) := fun W hb =>
          ⟨((HBW.out W hb).cell (p := ⟨gc, k * 2, none⟩) hgc).trans (hgcc k _ hp).1, ((HBW.out W hb).cell (p := ⟨gc, k * 2 + 1, none⟩) hgc).trans (hgcc k _ hp).2⟩
        have HY : Hid (∀ W, Below wr.heap.size wr W → W.cell? ⟨w.heap.size, 2, none⟩ = some (.slice (some ⟨gh, 0, none⟩) 8 cap)) := fun W hb => by
          have := ((HBW.out W hb).cell (p := ⟨w.heap.size, 2, none⟩) HS4.out.vv.l0.lt).trans HS4.out.vv.y2
          rw [h8] at this; exact this
        have HH : Hid (∀ W, Below wr.heap.size wr W → W.cell? ⟨gh, p1, none⟩ = some (.int .i64 hk)) := fun W hb => ((HBW.out W hb).cell (p := ⟨gh, p1, none⟩) lgh.lt).trans (hgh p1 hk hhk)
        have HX : Hid (∀ W, Below wr.heap.size wr W → W.cell? ⟨w.heap.size + 1, 0, none⟩ = some (.slice (some ⟨gx, 0, none⟩) 8 xn)) := fun W hb => by
          have := ((HBW.out W hb).cell (p := ⟨w.heap.size + 1, 0, none⟩) HS4.out.vv.l1.lt).trans HS4.out.vv.g.cells.1
          simp only [hx8] at this; exact this
        have HO : Hid (∀ W, Below wr.heap.size wr W → W.cell? ⟨gx, p1, none⟩ = some (.int .i64 ok)) := fun W hb => ((HBW.out W hb).cell (p := ⟨gx, p1, none⟩) hgx).trans (hgxc p1 ok hok)
        have HTK : Hid (lsw.take (k + 1) = lsw.take k ++ [⟨hk, ok, p2⟩]) := by
          unfold Hid
          have : lsw[k]? = some ⟨hk, ok, p2⟩ := by rw [HL.out.2.2.2.2]; simp [swapsOf, hp, List.getD, hhk, hok]
          rw [List.take_add_one, this]; rfl
        have HOW : Hid (OwnS wr w4.heap.size (.slice sa k sc) (lsw.take k) ∧ w4.heap.size ≤ wr.heap.size ∧ (lsw.take k).length ≤ 1000000) := ⟨hR.out.own, hR.out.below.size, by rw [htk]; omega⟩
        clear hp h8 hx8 hhk hok hgc hgcc lgh ngh hgh lgx hgx hgxc htk hsl hcap hR
        go_wp2_with fail
        refine FreeV.region_puts (S := XMid w4.heap.size wr (.slice sa k sc) (lsw.take k) ⟨hk, ok, p2⟩) (effs := [25, 26])
          (tab := [⟨2, fun _ => [.pointer (some ⟨w.heap.size, 2, none⟩)], fun _ => (.slice (some ⟨gh, 0, none⟩) 8 cap), .read⟩,
            ⟨5, fun _ => [(.slice (some ⟨gc, 0, none⟩) len cc3), .int .i64 (k : Int)], fun _ => .pointer (some ⟨gc, k * 2, none⟩), .pure⟩,
            ⟨7, fun _ => [.pointer (some ⟨gc, k * 2, none⟩)], fun _ => .int .i64 (p1 : Int), .read⟩,
            ⟨8, fun _ => [(.slice (some ⟨gh, 0, none⟩) 8 cap), .int .i64 (p1 : Int)], fun _ => .pointer (some ⟨gh, p1, none⟩), .pure⟩,
            ⟨9, fun _ => [.pointer (some ⟨gh, p1, none⟩)], fun _ => .int .i64 hk, .read⟩,
            ⟨11, fun _ => [.pointer (some ⟨w.heap.size + 1, 0, none⟩)], fun _ => (.slice (some ⟨gx, 0, none⟩) 8 xn), .read⟩,
            ⟨14, fun _ => [(.slice (some ⟨gc, 0, none⟩) len cc3), .int .i64 (k : Int)], fun _ => .pointer (some ⟨gc, k * 2, none⟩), .pure⟩,
            ⟨16, fun _ => [.pointer (some ⟨gc, k * 2, none⟩)], fun _ => .int .i64 (p1 : Int), .read⟩,
            ⟨17, fun _ => [(.slice (some ⟨gx, 0, none⟩) 8 xn), .int .i64 (p1 : Int)], fun _ => .pointer (some ⟨gx, p1, none⟩), .pure⟩,
            ⟨18, fun _ => [.pointer (some ⟨gx, p1, none⟩)], fun _ => .int .i64 ok, .read⟩,
            ⟨21, fun _ => [(.slice (some ⟨gc, 0, none⟩) len cc3), .int .i64 (k : Int)], fun _ => .pointer (some ⟨gc, k * 2, none⟩), .pure⟩,
            ⟨23, fun _ => [.pointer (some ⟨gc, k * 2 + 1, none⟩)], fun _ => .int .i64 p2, .read⟩,
            ⟨24, fun _ => [.int .i64 hk, .int .i64 ok, .int .i64 p2], fun _ => (.agg #[.int .i64 hk, .int .i64 ok, .int .i64 p2]), .pure⟩,
            ⟨25, fun _ => [(.agg #[.int .i64 hk, .int .i64 ok, .int .i64 p2])], fun β => (β 25), .eff⟩,
            ⟨26, fun β => [(.slice sa k sc), (β 25)], fun β => (β 26), .eff⟩])
          (vs := [([], fun _ => (.slice sa k sc)), ([], fun _ => .pointer (some ⟨w.heap.size, 2, none⟩)), ([], fun _ => (.slice (some ⟨gh, 0, none⟩) 8 cap)), ([], fun _ => (.slice (some ⟨gc, 0, none⟩) len cc3)), ([], fun _ => .int .i64 (k : Int)), ([], fun _ => .pointer (some ⟨gc, k * 2, none⟩)), ([], fun _ => .pointer (some ⟨gc, k * 2, none⟩)), ([], fun _ => .int .i64 (p1 : Int)), ([], fun _ => .pointer (some ⟨gh, p1, none⟩)), ([], fun _ => .int .i64 hk), ([], fun _ => .pointer (some ⟨w.heap.size + 1, 0, none⟩)), ([], fun _ => (.slice (some ⟨gx, 0, none⟩) 8 xn)), ([], fun _ => (.slice (some ⟨gc, 0, none⟩) len cc3)), ([], fun _ => .int .i64 (k : Int)), ([], fun _ => .pointer (some ⟨gc, k * 2, none⟩)), ([], fun _ => .pointer (some ⟨gc, k * 2, none⟩)), ([], fun _ => .int .i64 (p1 : Int)), ([], fun _ => .pointer (some ⟨gx, p1, none⟩)), ([], fun _ => .int .i64 ok), ([], fun _ => (.slice (some ⟨gc, 0, none⟩) len cc3)), ([], fun _ => .int .i64 (k : Int)), ([], fun _ => .pointer (some ⟨gc, k * 2, none⟩)), ([], fun _ => .pointer (some ⟨gc, k * 2 + 1, none⟩)), ([], fun _ => .int .i64 p2), ([], fun _ => (.agg #[.int .i64 hk, .int .i64 ok, .int .i64 p2])), ([25], fun l => l.headD undef), ([26], fun l => l.headD undef), ([26], fun l => l.headD undef)])
          (by kernel_rfl) ⟨by kernel_rfl, ⟨FreeV.d_load _ rfl rfl (fun β bs w h hd => load_25 (HY.out _ (h.a0 ((hd 1 26 rfl).2 (.inl (by kernel_rfl)))))),
            FreeV.d_at _ rfl rfl (fun _ w => at_30 gc len cc3 k hlt w),
            FreeV.d_load _ rfl rfl (fun β bs w h hd => load_3 (HC.out _ (h.a0 ((hd 1 26 rfl).2 (.inl (by kernel_rfl))))).1),
            FreeV.d_at _ rfl rfl (fun _ w => at_25 gh 8 cap p1 hp8 w),
            FreeV.d_load _ rfl rfl (fun β bs w h hd => load_3 (HH.out _ (h.a0 ((hd 1 26 rfl).2 (.inl (by kernel_rfl)))))),
            FreeV.d_load _ rfl rfl (fun β bs w h hd => load_25 (HX.out _ (h.a0 ((hd 1 26 rfl).2 (.inl (by kernel_rfl)))))),
            FreeV.d_at _ rfl rfl (fun _ w => at_30 gc len cc3 k hlt w),
            FreeV.d_load _ rfl rfl (fun β bs w h hd => load_3 (HC.out _ (h.a0 ((hd 1 26 rfl).2 (.inl (by kernel_rfl))))).1),
            FreeV.d_at _ rfl rfl (fun _ w => at_25 gx 8 xn p1 hp8 w),
            FreeV.d_load _ rfl rfl (fun β bs w h hd => load_3 (HO.out _ (h.a0 ((hd 1 26 rfl).2 (.inl (by kernel_rfl)))))),
            FreeV.d_at _ rfl rfl (fun _ w => at_30 gc len cc3 k hlt w),
            FreeV.d_load _ rfl rfl (fun β bs w h hd => load_3 (HC.out _ (h.a0 ((hd 1 26 rfl).2 (.inl (by kernel_rfl))))).2),
            FreeV.d_build3 _ rfl rfl (fun _ w => build_90 hk ok p2 w),
            FreeV.d_row1 _ rfl rfl 0 rfl (fun β bs w h hd => xmid_row (x := ⟨hk, ok, p2⟩) h ((hd 1 26 rfl).2 (.inl (by kernel_rfl)))),
            FreeV.d_app _ rfl rfl 1 rfl (fun β bs ty w h hd => xmid_app HOW.out.1 HOW.out.2.1 HOW.out.2.2 h ((hd 0 25 rfl).1 (by kernel_rfl)) ((hd 1 26 rfl).2 (.inr rfl)) ty),
            trivial⟩,
            fun β => by kernel_rfl, fun β => by kernel_rfl, by kernel_rfl, fun β => by kernel_rfl, by kernel_rfl⟩ xmid_start (fun β => Free.from_ 78 [(.slice sa k sc), .pointer (some ⟨w.heap.size, 2, none⟩), (.slice (some ⟨gh, 0, none⟩) 8 cap), (.slice (some ⟨gc, 0, none⟩) len cc3), .int .i64 (k : Int), .pointer (some ⟨gc, k * 2, none⟩), .pointer (some ⟨gc, k * 2, none⟩), .int .i64 (p1 : Int), .pointer (some ⟨gh, p1, none⟩), .int .i64 hk, .pointer (some ⟨w.heap.size + 1, 0, none⟩), (.slice (some ⟨gx, 0, none⟩) 8 xn), (.slice (some ⟨gc, 0, none⟩) len cc3), .int .i64 (k : Int), .pointer (some ⟨gc, k * 2, none⟩), .pointer (some ⟨gc, k * 2, none⟩), .int .i64 (p1 : Int), .pointer (some ⟨gx, p1, none⟩), .int .i64 ok, (.slice (some ⟨gc, 0, none⟩) len cc3), .int .i64 (k : Int), .pointer (some ⟨gc, k * 2, none⟩), .pointer (some ⟨gc, k * 2 + 1, none⟩), .int .i64 p2, (.agg #[.int .i64 hk, .int .i64 ok, .int .i64 p2]), (β 25), (β 26)] ++ [(15, (β 26))]) (fun β => by kernel_rfl) ?_
        intro β w5 h5
        obtain ⟨W0, hb0, hown, hgr⟩ := h5.a2 rfl
        generalize β 25 = v25 at *
        generalize β 26 = v26 at *
        clear h5
        rw [FreeX.puts_append, Free.puts_from _ _ _ (Nat.le_of_ble_eq_true rfl)]
        simp only [List.take_succ_cons, List.take_zero, List.drop_succ_cons, List.drop_zero, List.cons_append, List.nil_append, List.length_cons, List.length_nil, Nat.reduceAdd]
        unfold Free.puts
        simp only [List.foldl_cons, List.foldl_nil]
        have HH5 : Hid (SwMid w4 lsw (k + 1) v26 w5) := by
          refine ⟨by rw [HTK.out]; exact hown, ?_⟩
          have hb := HBW.out W0 hb0
          have hs0 := hb0.size
          exact hb.trans ⟨hgr.os, hgr.tape, hgr.output, hgr.size, fun z hz => hgr.block z (by have := hb.size; omega) (fun e => by have := (HOW.out.1.lt z e.symm).1; omega)⟩
        clear hb0 hown hgr HBW HC HY HH HX HO HTK HOW
        go_wp2_with fail
        go_roundw
        case rel => exact ⟨k + 1, _, rfl, by simp, by omega, HH5⟩
        case measure => simp [intOf]; omega
      · obtain rfl : k = len := by omega
        have etk : lsw.take k = lsw := by rw [← HL.out.1]; exact List.take_length
        rw [etk] at hsl
        have HS5 := Lib.hid (HS4.out.later hR.out.below)
        have hmk := make_q HS5.out.aa.sys HQ.out HT.out HS5.out.ff (by omega) hll hNN (ver + 1 + (more : Int)) ver sa sc lsw (by rw [HL.out.1]; exact HL.out.2.1) (by rw [HL.out.1]; exact hcap) hsl
        rw [HL.out.1] at hmk
        have c1 := HS5.out.vv.y1
        have q1 := HS5.out.vv.q1
        have k0 := HS5.out.dd.cells.1
        rw [show d1.ver = ver by rw [← show d.ver = d1.ver by rw [← HD.out.1]; rfl]; exact HR.out.ver] at k0
        clear hsl hcap etk htk hR HS4 hlt
        go_wp2_with fail
        refine hmk.mono ?_
        rintro e w6 ⟨t3, G3, m3, st, nh, rfl, ha6, l1, l2, l3, l4, l5, f6⟩
        obtain ⟨dv6, dl6⟩ := ha6.cells HS5.out.lc HS5.out.dd
        have hv6 := HS5.out.vv.aft ha6
        have hA6 := HS5.out.aa.trans ha6
        have hr6 := HS5.out.rr.same l1
        have hne : hh ≠ nh := fun e => by
          have := HS5.out.rr.desc
          rw [e, l5] at this; cases this
        have hp1 := pub_no hA6.sys HQ.out (by have := f6.cnt; omega) hr6.tp nh hne
        have hfr : st ≠ top ∧ st ∉ hs ∧ hh ≠ st ∧ d.st ≠ st ∧ hh ≠ top ∧ hh ∉ hs := by
          have k1 := HS5.out.rr.tp
          have k2 := HS5.out.rr.desc
          have k3 := HS5.out.rr.st
          refine ⟨fun e => (by rw [← e, l4] at k1; cases k1), fun e => ?_, fun e => (by rw [e, l4] at k2; cases k2), fun e => (by rw [e, l4] at k3; cases k3), fun e => (by rw [e, k1] at k2; cases k2), fun e => ?_⟩
          · obtain ⟨v, hv⟩ := HS5.out.rr.mem e
            rw [l4] at hv; cases hv
          · obtain ⟨v, hv⟩ := HS5.out.rr.mem e
            rw [k2] at hv; cases hv
        have HM6 : Hid (Rel m3 top hs ⟨xc, ver, bf, true, xw⟩ hh d ∧ Fine N m3 (cc + 14) (ll + 2) ∧ m3.look nh = some (.desc ⟨ver + 1 + (more : Int), d.ver, st, swapsOf hs xc (chg n i), none, 0, 0⟩) ∧ m3.look st = some (.word 0)) :=
          ⟨hr6, ⟨f6.tidy, f6.len, by have := f6.cnt; omega, f6.liv⟩, by rw [l2, HL.out.2.2.2.2, show d.ver = ver from HS5.out.rr.ver], l3⟩
        have HFR := Lib.hid hfr
        have HK6 : Hid (∀ k v, m.look k = some v → m3.look k = some v ∧ k ≠ st) := fun k v hk => by
          have e2 : m2.look k = some v := (HML.out k).trans hk
          exact ⟨(l1 k (by rw [e2]; rfl)).trans e2, fun e => by rw [e, l4] at e2; cases e2⟩
        have HX6 := Lib.hid (⟨hv6, dv6, dl6, hA6⟩ : _ ∧ _ ∧ _ ∧ _)
        replace c1 := hv6.y1
        clear hmk ha6 l1 l2 l3 l4 l5 f6 dv6 dl6 hv6 hA6 hr6 hne hfr HS5 q1 k0
        go_wp2_with fail
        refine hp1.mono ?_
        rintro e w7 ⟨t4, G4, rfl, ha7⟩
        obtain ⟨dv7, dl7⟩ := ha7.cells HX6.out.2.2.1 HX6.out.2.1
        have hv7 := HX6.out.1.aft ha7
        have hA7 := HX6.out.2.2.2.trans ha7
        have hp2 := pub_yes (n := n) (i := i) (ver := ver + 1 + (more : Int)) (nh := nh) (st := st) hA7.sys HQ.out (by have := HM6.out.2.1.cnt; simp only [M.more]; omega) (HM6.out.1.more 1) (HM6.out.2.1.more 1) ((more_look _ _ _).trans HM6.out.2.2.1) ((more_look _ _ _).trans HM6.out.2.2.2) ⟨HFR.out.1, HFR.out.2.1⟩
        have HX7 := Lib.hid (⟨hv7, dv7, dl7, hA7⟩ : _ ∧ _ ∧ _ ∧ _)
        replace c1 := hv7.y1
        clear hp1 ha7 dv7 dl7 hv7 hA7 HX6
        go_wp2_with fail
        refine hp2.mono ?_
        rintro e w8 ⟨t5, G5, m5, rfl, ha8, hr8, hf8, l8⟩
        obtain ⟨dv8, dl8⟩ := ha8.cells HX7.out.2.2.1 HX7.out.2.1
        have hv8 := HX7.out.1.aft ha8
        have hA8 := HX7.out.2.2.2.trans ha8
        have hlo := load_q hA8.sys HQ.out (by have := hf8.cnt; omega) hr8.desc
        have HX8 := Lib.hid (⟨hv8, dv8, dl8, hA8⟩ : _ ∧ _ ∧ _ ∧ _)
        have HM8 : Hid (Rel m5 top hs ⟨xc, ver + 1 + (more : Int), ver, false, chg n i⟩ nh ⟨ver + 1 + (more : Int), d.ver, st, swapsOf hs xc (chg n i), none, 0, 0⟩ ∧ Fine N m5 (cc + 16) (ll + 2) ∧ m5.look hh = some (.desc d) ∧ ∃ v, m5.look d.st = some (.word v)) :=
          ⟨hr8, ⟨hf8.tidy, hf8.len, by have := hf8.cnt; omega, hf8.liv⟩, by rw [l8 _ HFR.out.2.2.2.2.1, more_look]; exact HM6.out.1.desc, ⟨_, by rw [l8 _ (fun e => HM6.out.1.nt.1 e.symm), more_look]; exact HM6.out.1.st⟩⟩
        have HK8 : Hid (∀ k v, m.look k = some v → k ≠ top → (m5.more 1).look k = some v ∧ k ≠ st) := fun k v hk ht => by
          obtain ⟨z1, z2⟩ := HK6.out k v hk
          exact ⟨by rw [more_look, l8 k ht, more_look]; exact z1, z2⟩
        clear hp2 ha8 dv8 dl8 hv8 hA8 hr8 hf8 l8 HX7 c1 HM6 HK6
        go_wp2_with fail
        refine hlo.mono ?_
        rintro e w9 ⟨d2, t6, G6, rfl, e2, hi2, ha9⟩
        have hb10 := (Below.refl w9.heap.size w9).alloc (Nat.le_refl _) d2.obj
        obtain ⟨dv9, dl9⟩ := ha9.cells HX8.out.2.2.1 HX8.out.2.1
        have hv10 := (HX8.out.1.aft ha9).later hb10
        have hA10 := (HX8.out.2.2.2.trans ha9).later hb10
        have ev2 : d2.ver = ver + 1 + (more : Int) := by rw [← show d2.e.ver = d2.ver from rfl, e2]
        have en2 : d2.n = k := by rw [hi2.n, ← show d2.e.sw = d2.sw from rfl, e2, ← HL.out.2.2.2.2, HL.out.1]
        obtain ⟨w10, hw10⟩ : ∃ W, W = w9.alloc d2.obj := ⟨_, rfl⟩
        have hD2 : DVar w10 w9.heap.size d2 := by rw [hw10]; exact dnewd w9 d2
        have hL2 : Loc w0 b c r pb t6 G6 w10 w9.heap.size := by rw [hw10]; exact ha9.sys.fresh d2.obj
        rw [← hw10] at hb10 hv10 hA10
        have hd10 := dv9.later hb10
        have HW10 := Lib.hid hw10.symm
        have HM10 : Hid (Rel (m5.more 1) top hs ⟨xc, ver + 1 + (more : Int), ver, false, chg n i⟩ nh ⟨ver + 1 + (more : Int), d.ver, st, swapsOf hs xc (chg n i), none, 0, 0⟩ ∧ Fine N (m5.more 1) (cc + 17) (ll + 2) ∧ (m5.more 1).look hh = some (.desc d) ∧ ∃ v, (m5.more 1).look d.st = some (.word v)) := by
          have hf := HM8.out.2.1.more 1
          obtain ⟨v, hv⟩ := HM8.out.2.2.2
          exact ⟨HM8.out.1.more 1, ⟨hf.tidy, hf.len, by have := hf.cnt; omega, hf.liv⟩, (more_look _ _ _).trans HM8.out.2.2.1, v, (more_look _ _ _).trans hv⟩
        have HX10 := Lib.hid (⟨hD2, hL2, hA10⟩ : _ ∧ _ ∧ _)
        have HI2 := Lib.hid (⟨e2, hi2, ev2, en2⟩ : _ ∧ _ ∧ _ ∧ _)
        have k0 := hd10.cells.1
        rw [show d1.ver = ver by rw [← show d.ver = d1.ver by rw [← HD.out.1]; rfl]; exact HR.out.ver] at k0
        have q1 := hv10.q1
        have q2 := hv10.q2
        obtain ⟨e0, e1, e2', e3⟩ := hD2.cells
        rw [ev2] at e0
        rw [en2] at e3
        unfold Ds.v
        unfold Ds.obj at HW10
        rw [ev2, en2] at HW10 ⊢
        clear hlo ha9 hb10 dv9 dl9 hv10 hA10 hD2 hL2 hd10 hw10 e2 hi2 ev2 en2 HX8 HM8
        cases wt with
        | true =>
          obtain ⟨v, hv⟩ := HM10.out.2.2.2
          have hdr := drop_q HX10.out.2.2.sys HQ.out (by have := HM10.out.2.1.cnt; omega) HM10.out.2.1 HM10.out.2.2.1 hv (ver + 1 + (more : Int))
          clear hv
          go_wp2_with (first | rw [HW10.out] | fail)
          refine hdr.mono ?_
          rintro e w11 ⟨t7, G7, m7, rfl, ha11, hf11, l11⟩
          have HE : Hid (RdPost N m true w0 b c r pb t G w s top hs (Wg.foll ⟨xc, ver, bf, true, xw⟩ n (more : Int) true i) cc ll (.returned (.bool true)) w11) :=
            ⟨rfl, t7, G7, m7, _, _, HX10.out.2.2.trans ha11, HM10.out.1.same (fun k _ => l11 k), ⟨hf11.tidy, hf11.len, by have := hf11.cnt; omega, hf11.liv⟩, fun _ k v hk ht _ => ⟨(l11 k).trans (HK8.out k v hk ht).1, (HK8.out k v hk ht).2⟩⟩
          clear hdr ha11 hf11 l11
          go_wp2_with fail
          go_ret
          exact HE.out
        | false =>
          have hhe := help_q HX10.out.2.2.sys HQ.out (by have := HM10.out.2.1.cnt; omega) HM10.out.1 rfl HM10.out.2.1 d2 HI2.out.1 HI2.out.2.1
          unfold Ds.v at hhe
          rw [HI2.out.2.2.1, HI2.out.2.2.2] at hhe
          go_wp2_with (first | rw [HW10.out] | fail)
          refine hhe.mono ?_
          rintro e w11 ⟨t7, G7, m7, rfl, ha11, hr11, hf11, l11⟩
          obtain ⟨v, hv⟩ := HM10.out.2.2.2
          obtain ⟨dv11, -⟩ := ha11.cells HX10.out.2.1 HX10.out.1
          have hA11 := HX10.out.2.2.trans ha11
          have hdr := drop_q hA11.sys HQ.out (by have := hf11.cnt; omega) hf11 ((l11 _ HFR.out.2.2.1 HFR.out.2.2.2.2.2).trans HM10.out.2.2.1) ((l11 _ HFR.out.2.2.2.1 HR.out.nt.2.2).trans hv) (ver + 1 + (more : Int))
          have e0 := dv11.cells.1
          rw [HI2.out.2.2.1] at e0
          have HM11 := Lib.hid (⟨hr11, hA11⟩ : _ ∧ _)
          have HK11 : Hid (Stays m m7 top hs st) := fun k v hk ht hh => by
            obtain ⟨z1, z2⟩ := HK8.out k v hk ht
            exact ⟨(l11 k z2 hh).trans z1, z2⟩
          clear hhe ha11 hr11 hf11 l11 hv dv11 hA11
          go_wp2_with fail
          refine hdr.mono ?_
          rintro e w12 ⟨t8, G8, m8, rfl, ha12, hf12, l12⟩
          have HE : Hid (RdPost N m true w0 b c r pb t G w s top hs (Wg.foll ⟨xc, ver, bf, true, xw⟩ n (more : Int) false i) cc ll (.returned (.bool true)) w12) :=
            ⟨rfl, t8, G8, m8, _, _, HM11.out.2.trans ha12, HM11.out.1.same (fun k _ => l12 k), ⟨hf12.tidy, hf12.len, by have := hf12.cnt; omega, hf12.liv⟩, fun _ k v hk ht hh => ⟨(l12 k).trans (HK11.out k v hk ht hh).1, (HK11.out k v hk ht hh).2⟩⟩
          clear hdr ha12 hf12 l12
          go_wp2_with fail
          go_ret
          exact HE.out
  | false =>
    generalize m.more 3 = m2 at HS
    obtain ⟨uc, uw, hu⟩ : ∃ uc uw, Wg.help ⟨xc, ver, bf, false, xw⟩ = ⟨uc, ver, bf, true, uw⟩ := ⟨_, _, rfl⟩
    have ey : ∀ wt, Wg.foll ⟨xc, ver, bf, false, xw⟩ n (more : Int) wt i = Wg.foll ⟨uc, ver, bf, true, uw⟩ n (more : Int) wt i := fun wt => by
      have h1 : Wg.calm ⟨xc, ver, bf, false, xw⟩ = Wg.calm ⟨uc, ver, bf, true, uw⟩ := by
        have h2 : Wg.calm ⟨xc, ver, bf, false, xw⟩ = Wg.help ⟨xc, ver, bf, false, xw⟩ := rfl
        rw [h2, hu]; rfl
      unfold Wg.foll
      rw [h1]
    have hhe := help_q HS.out.aa.sys HQ.out (by have := HS.out.ff.cnt; omega) HS.out.rr rfl HS.out.ff d1 HD.out.1 HD.out.2
    have hfit := HS.out.rr.fit
    unfold Ds.v at hhe
    rw [show d1.ver = ver by rw [← show d.ver = d1.ver by rw [← HD.out.1]; rfl]; exact HR.out.ver, show d1.bf = bf by rw [← show d.bf = d1.bf by rw [← HD.out.1]; rfl]; exact HR.out.bf] at hhe
    have HU := Lib.hid (⟨hu, hfit⟩ : _ ∧ _)
    have HEY := Lib.hid ey
    clear hu ey hfit
    go_wp2_with (first | rw [HW3.out] | fail)
    refine hhe.mono ?_
    rintro e wa ⟨t3, G3, m3, rfl, ha, hr3, hf3, l3⟩
    rw [HU.out.1] at hr3
    obtain ⟨dva, dla⟩ := ha.cells HS.out.lc HS.out.dd
    have hva := HS.out.vv.aft ha
    have hAa := HS.out.aa.trans ha
    have hre := refhelp_any wa ⟨xc, ver, bf, false, xw⟩ ⟨xa, xn, xp, xq⟩ hva.ws.wis (by rw [HU.out.2.len]; decide) (by rw [HU.out.2.len]; decide) (Nat.le_trans HU.out.2.wl (by decide)) (fun p hp => by rw [HU.out.2.len]; exact HU.out.2.mem p hp)
    obtain ⟨g0, g1, g2, g3, g4⟩ := hva.g.cells
    simp only at g0 g1 g2 g3 g4
    have HXa := Lib.hid (⟨dva, dla, hva, hAa⟩ : _ ∧ _ ∧ _ ∧ _)
    have HMa : Hid (Rel m3 top hs ⟨uc, ver, bf, true, uw⟩ hh d ∧ Fine N m3 (cc + 12) ll) := ⟨hr3, ⟨hf3.tidy, hf3.len, by have := hf3.cnt; omega, hf3.liv⟩⟩
    unfold Wg.v at hre
    simp only at hre
    clear hhe ha hr3 hf3 l3 dva dla hva hAa c0 c1 c2 q0 q1 q2 k0 k1 k2 k3 HW3
    go_wp2_with fail
    refine hre.mono ?_
    rintro e wb ⟨⟨ua, un, up, uq⟩, rfl, hwb, hbb⟩
    rw [HU.out.1] at hwb ⊢
    have hvb := HXa.out.2.2.1.later hbb
    have hwP : WIsP (fun g => Loc w0 b c r pb t3 G3 wb g ∧ g ≠ w.heap.size + 1) wb ⟨uc, ver, bf, true, uw⟩ ⟨ua, un, up, uq⟩ :=
      (hwb.wisP (P := fun g => wa.heap.size ≤ g) fun _ h => h).imp fun g hg hl => ⟨HXa.out.2.2.2.sys.newloc2 hg hl, by have := HXa.out.2.2.1.l1.lt; omega⟩
    obtain ⟨w3b, hw3b⟩ : ∃ W, W = gput wb (w.heap.size + 1) ⟨uc, ver, bf, true, uw⟩ ⟨ua, un, up, uq⟩ := ⟨_, rfl⟩
    have hgb := gput_but wb (w.heap.size + 1) ⟨uc, ver, bf, true, uw⟩ ⟨ua, un, up, uq⟩
    have hvp := hvb.put hwP
    rw [← hw3b] at hgb hvp
    have HSb : Hid (RS N w0 b c r pb t G w s top hs a cap n more wt hh cc ll ⟨uc, ver, bf, true, uw⟩ ⟨ua, un, up, uq⟩ d d1 w2.heap.size w3b t3 G3 m3) :=
      ⟨(HXa.out.2.2.2.later hbb).aside hgb hvb.l1 (by omega), hvp, (HXa.out.1.later hbb).same hgb.size (hgb.block _ (HXa.out.1.later hbb).lt (by have := HNE.out; omega)), (HXa.out.2.1.same hbb.size).same hgb.size, HMa.out.1, HMa.out.2⟩
    have HG2 : Hid (((((wb.setCell ⟨w.heap.size + 1, 0, none⟩ (.slice ua uc.length un)).setCell ⟨w.heap.size + 1, 1, none⟩ (.int .i64 ver)).setCell ⟨w.heap.size + 1, 2, none⟩ (.int .i64 bf)).setCell ⟨w.heap.size + 1, 3, none⟩ (.bool true)).setCell ⟨w.heap.size + 1, 4, none⟩ (.slice up uw.length uq) = w3b) := by rw [hw3b]; exact rfl
    obtain ⟨g0, g1, g2, g3, g4⟩ := hvb.g.cells
    have gf := hvb.g.fz
    simp only at g0 g1 g2 g3 g4
    have q0 := hvp.q0
    have q1 := hvp.q1
    have q2 := hvp.q2
    replace HR := Lib.hid HMa.out.1
    clear hre hwb hbb hvb hwP hw3b hgb hvp HS HXa
    go_wp2_with (first | rw [HG2.out] | fail)
    have hch := changes_any w3b n i hn hi (more : Int) wt
    refine hch.mono ?_
    rintro e w4 ⟨ac, cc3, rfl, hrow, hb4⟩
    have hlen8 : (chg n i).length ≤ 8 := chgTo_len n i 8
    obtain ⟨len, hlen⟩ : ∃ l, l = (chg n i).length := ⟨_, rfl⟩
    obtain ⟨lsw, hlsw⟩ : ∃ l, l = swapsOf hs uc (chg n i) := ⟨_, rfl⟩
    have HL : Hid (lsw.length = len ∧ len ≤ 8 ∧ RowC w3b.heap.size w4 ac (chg n i) ∧ len = (chg n i).length ∧ lsw = swapsOf hs uc (chg n i)) :=
      ⟨by rw [hlsw, hlen]; simp [swapsOf], by omega, hrow, hlen, hlsw⟩
    have HS4 := Lib.hid (HSb.out.later hb4)
    have HH0 : Hid (SwMid w4 lsw 0 (.slice none 0 0) w4) := ⟨World.ownsRow_nil _ _ _ _, Below.refl _ _⟩
    have hlen1 : (len : Int) ≤ 8 := by omega
    rw [← hlen]
    clear hch hrow hb4 hlsw hlen hlen8 HSb HG2 g0 g1 g2 g3 g4 gf q0 q1 q2
    go_wp2_with fail
    go_loopw [15, 17] (fun sv kv wr => ∃ (k : Nat) (v : Value), sv = v ∧ kv = .int .i64 (k : Int) ∧ k ≤ len ∧ Hid (SwMid w4 lsw k v wr)) (fun _ kv _ => len - (intOf kv).toNat)
    case atStart => exact ⟨0, _, rfl, rfl, Nat.zero_le _, HH0⟩
    case round =>
      obtain ⟨k, v, rfl, rfl, hk, hR⟩ := hrel
      clear HH0
      obtain ⟨sa, sc, ev, hsl, hcap⟩ := hR.out.own.see
      have htk : (lsw.take k).length = k := by rw [List.length_take, HL.out.1]; omega
      rw [htk] at ev hcap
      subst ev
      by_cases hlt : k < len
      · have i1 : (k : Int) < (len : Int) := by omega
        obtain ⟨⟨p1, p2⟩, hp⟩ : ∃ p, (chg n i)[k]? = some p := ⟨_, List.getElem?_eq_getElem (by rw [← HL.out.2.2.2.1]; exact hlt)⟩
        have hp8 : p1 < 8 := (chgTo_mem n i 8 (p1, p2) (List.mem_of_getElem? hp)).1
        have h8 := HS4.out.rr.len
        have hx8 : uc.length = 8 := HS4.out.rr.fit.len
        obtain ⟨hk, hhk⟩ : ∃ y, hs[p1]? = some y := ⟨_, List.getElem?_eq_getElem (by omega)⟩
        obtain ⟨ok, hok⟩ : ∃ y, uc[p1]? = some y := ⟨_, List.getElem?_eq_getElem (by omega)⟩
        obtain ⟨gc, rfl, -, hgc, hgcc⟩ : ∃ g, ac = some ⟨g, 0, none⟩ ∧ w3b.heap.size ≤ g ∧ g < w4.heap.size ∧ ∀ (i2 : Nat) (x : Nat × Int), (chg n i)[i2]? = some x → w4.cell? ⟨g, i2 * 2, none⟩ = some (.int .i64 (x.1 : Int)) ∧ w4.cell? ⟨g, i2 * 2 + 1, none⟩ = some (.int .i64 x.2) := by
          rcases HL.out.2.2.1 with e | e
          · rw [e] at hp; simp at hp
          · exact e
        obtain ⟨gh, rfl, lgh, ngh, hgh⟩ := HS4.out.vv.ys
        obtain ⟨gx, rfl, lgx, hgx, hgxc⟩ : ∃ g, ua = some ⟨g, 0, none⟩ ∧ (Loc w0 b c r pb t3 G3 w4 g ∧ g ≠ w.heap.size + 1) ∧ g < w4.heap.size ∧ ∀ (i : Nat) (y : Int), uc[i]? = some y → w4.cell? ⟨g, i, none⟩ = some (.int .i64 y) := by
          rcases HS4.out.vv.ws.c with e | e
          · have e2 : uc = [] := e
            rw [e2] at hx8; simp at hx8
          · exact e
        have HBW : Hid (∀ W, Below wr.heap.size wr W → Below w4.heap.size w4 W) := fun W hb => hR.out.below.trans (hb.mono hR.out.below.size)
        have HC : Hid (∀ W, Below wr.heap.size wr W → W.cell? ⟨gc, k * 2, none⟩ = some (.int .i64 (p1 : Int)) ∧ W.cell? ⟨gc, k * 2 + 1, none⟩ = some (.int .i64 p2)) := fun W hb =>
          ⟨((HBW.out W hb).cell (p := ⟨gc, k * 2, none⟩) hgc).trans (hgcc k _ hp).1, ((HBW.out W hb).cell (p := ⟨gc, k * 2 + 1, none⟩) hgc).trans (hgcc k _ hp).2⟩
        have HY : Hid (∀ W, Below wr.heap.size wr W → W.cell? ⟨w.heap.size, 2, none⟩ = some (.slice (some ⟨gh, 0, none⟩) 8 cap)) := fun W hb => by
          have := ((HBW.out W hb).cell (p := ⟨w.heap.size, 2, none⟩) HS4.out.vv.l0.lt).trans HS4.out.vv.y2
          rw [h8] at this; exact this
        have HH : Hid (∀ W, Below wr.heap.size wr W → W.cell? ⟨gh, p1, none⟩ = some (.int .i64 hk)) := fun W hb => ((HBW.out W hb).cell (p := ⟨gh, p1, none⟩) lgh.lt).trans (hgh p1 hk hhk)
        have HX : Hid (∀ W, Below wr.heap.size wr W → W.cell? ⟨w.heap.size + 1, 0, none⟩ = some (.slice (some ⟨gx, 0, none⟩) 8 un)) := fun W hb => by
          have := ((HBW.out W hb).cell (p := ⟨w.heap.size + 1, 0, none⟩) HS4.out.vv.l1.lt).trans HS4.out.vv.g.cells.1
          simp only [hx8] at this; exact this
        have HO : Hid (∀ W, Below wr.heap.size wr W → W.cell? ⟨gx, p1, none⟩ = some (.int .i64 ok)) := fun W hb => ((HBW.out W hb).cell (p := ⟨gx, p1, none⟩) hgx).trans (hgxc p1 ok hok)
        have HTK : Hid (lsw.take (k + 1) = lsw.take k ++ [⟨hk, ok, p2⟩]) := by
          unfold Hid
          have : lsw[k]? = some ⟨hk, ok, p2⟩ := by rw [HL.out.2.2.2.2]; simp [swapsOf, hp, List.getD, hhk, hok]
          rw [List.take_add_one, this]; rfl
        have HOW : Hid (OwnS wr w4.heap.size (.slice sa k sc) (lsw.take k) ∧ w4.heap.size ≤ wr.heap.size ∧ (lsw.take k).length ≤ 1000000) := ⟨hR.out.own, hR.out.below.size, by rw [htk]; omega⟩
        clear hp h8 hx8 hhk hok hgc hgcc lgh ngh hgh lgx hgx hgxc htk hsl hcap hR
        go_wp2_with fail
        refine FreeV.region_puts (S := XMid w4.heap.size wr (.slice sa k sc) (lsw.take k) ⟨hk, ok, p2⟩) (effs := [25, 26])
          (tab := [⟨2, fun _ => [.pointer (some ⟨w.heap.size, 2, none⟩)], fun _ => (.slice (some ⟨gh, 0, none⟩) 8 cap), .read⟩,
            ⟨5, fun _ => [(.slice (some ⟨gc, 0, none⟩) len cc3), .int .i64 (k : Int)], fun _ => .pointer (some ⟨gc, k * 2, none⟩), .pure⟩,
            ⟨7, fun _ => [.pointer (some ⟨gc, k * 2, none⟩)], fun _ => .int .i64 (p1 : Int), .read⟩,
            ⟨8, fun _ => [(.slice (some ⟨gh, 0, none⟩) 8 cap), .int .i64 (p1 : Int)], fun _ => .pointer (some ⟨gh, p1, none⟩), .pure⟩,
            ⟨9, fun _ => [.pointer (some ⟨gh, p1, none⟩)], fun _ => .int .i64 hk, .read⟩,
            ⟨11, fun _ => [.pointer (some ⟨w.heap.size + 1, 0, none⟩)], fun _ => (.slice (some ⟨gx, 0, none⟩) 8 un), .read⟩,
            ⟨14, fun _ => [(.slice (some ⟨gc, 0, none⟩) len cc3), .int .i64 (k : Int)], fun _ => .pointer (some ⟨gc, k * 2, none⟩), .pure⟩,
            ⟨16, fun _ => [.pointer (some ⟨gc, k * 2, none⟩)], fun _ => .int .i64 (p1 : Int), .read⟩,
            ⟨17, fun _ => [(.slice (some ⟨gx, 0, none⟩) 8 un), .int .i64 (p1 : Int)], fun _ => .pointer (some ⟨gx, p1, none⟩), .pure⟩,
            ⟨18, fun _ => [.pointer (some ⟨gx, p1, none⟩)], fun _ => .int .i64 ok, .read⟩,
            ⟨21, fun _ => [(.slice (some ⟨gc, 0, none⟩) len cc3), .int .i64 (k : Int)], fun _ => .pointer (some ⟨gc, k * 2, none⟩), .pure⟩,
            ⟨23, fun _ => [.pointer (some ⟨gc, k * 2 + 1, none⟩)], fun _ => .int .i64 p2, .read⟩,
            ⟨24, fun _ => [.int .i64 hk, .int .i64 ok, .int .i64 p2], fun _ => (.agg #[.int .i64 hk, .int .i64 ok, .int .i64 p2]), .pure⟩,
            ⟨25, fun _ => [(.agg #[.int .i64 hk, .int .i64 ok, .int .i64 p2])], fun β => (β 25), .eff⟩,
            ⟨26, fun β => [(.slice sa k sc), (β 25)], fun β => (β 26), .eff⟩])
          (vs := [([], fun _ => (.slice sa k sc)), ([], fun _ => .pointer (some ⟨w.heap.size, 2, none⟩)), ([], fun _ => (.slice (some ⟨gh, 0, none⟩) 8 cap)), ([], fun _ => (.slice (some ⟨gc, 0, none⟩) len cc3)), ([], fun _ => .int .i64 (k : Int)), ([], fun _ => .pointer (some ⟨gc, k * 2, none⟩)), ([], fun _ => .pointer (some ⟨gc, k * 2, none⟩)), ([], fun _ => .int .i64 (p1 : Int)), ([], fun _ => .pointer (some ⟨gh, p1, none⟩)), ([], fun _ => .int .i64 hk), ([], fun _ => .pointer (some ⟨w.heap.size + 1, 0, none⟩)), ([], fun _ => (.slice (some ⟨gx, 0, none⟩) 8 un)), ([], fun _ => (.slice (some ⟨gc, 0, none⟩) len cc3)), ([], fun _ => .int .i64 (k : Int)), ([], fun _ => .pointer (some ⟨gc, k * 2, none⟩)), ([], fun _ => .pointer (some ⟨gc, k * 2, none⟩)), ([], fun _ => .int .i64 (p1 : Int)), ([], fun _ => .pointer (some ⟨gx, p1, none⟩)), ([], fun _ => .int .i64 ok), ([], fun _ => (.slice (some ⟨gc, 0, none⟩) len cc3)), ([], fun _ => .int .i64 (k : Int)), ([], fun _ => .pointer (some ⟨gc, k * 2, none⟩)), ([], fun _ => .pointer (some ⟨gc, k * 2 + 1, none⟩)), ([], fun _ => .int .i64 p2), ([], fun _ => (.agg #[.int .i64 hk, .int .i64 ok, .int .i64 p2])), ([25], fun l => l.headD undef), ([26], fun l => l.headD undef), ([26], fun l => l.headD undef)])
          (by kernel_rfl) ⟨by kernel_rfl, ⟨FreeV.d_load _ rfl rfl (fun β bs w h hd => load_25 (HY.out _ (h.a0 ((hd 1 26 rfl).2 (.inl (by kernel_rfl)))))),
            FreeV.d_at _ rfl rfl (fun _ w => at_30 gc len cc3 k hlt w),
            FreeV.d_load _ rfl rfl (fun β bs w h hd => load_3 (HC.out _ (h.a0 ((hd 1 26 rfl).2 (.inl (by kernel_rfl))))).1),
            FreeV.d_at _ rfl rfl (fun _ w => at_25 gh 8 cap p1 hp8 w),
            FreeV.d_load _ rfl rfl (fun β bs w h hd => load_3 (HH.out _ (h.a0 ((hd 1 26 rfl).2 (.inl (by kernel_rfl)))))),
            FreeV.d_load _ rfl rfl (fun β bs w h hd => load_25 (HX.out _ (h.a0 ((hd 1 26 rfl).2 (.inl (by kernel_rfl)))))),
            FreeV.d_at _ rfl rfl (fun _ w => at_30 gc len cc3 k hlt w),
            FreeV.d_load _ rfl rfl (fun β bs w h hd => load_3 (HC.out _ (h.a0 ((hd 1 26 rfl).2 (.inl (by kernel_rfl))))).1),
            FreeV.d_at _ rfl rfl (fun _ w => at_25 gx 8 un p1 hp8 w),
            FreeV.d_load _ rfl rfl (fun β bs w h hd => load_3 (HO.out _ (h.a0 ((hd 1 26 rfl).2 (.inl (by kernel_rfl)))))),
            FreeV.d_at _ rfl rfl (fun _ w => at_30 gc len cc3 k hlt w),
            FreeV.d_load _ rfl rfl (fun β bs w h hd => load_3 (HC.out _ (h.a0 ((hd 1 26 rfl).2 (.inl (by kernel_rfl))))).2),
            FreeV.d_build3 _ rfl rfl (fun _ w => build_90 hk ok p2 w),
            FreeV.d_row1 _ rfl rfl 0 rfl (fun β bs w h hd => xmid_row (x := ⟨hk, ok, p2⟩) h ((hd 1 26 rfl).2 (.inl (by kernel_rfl)))),
            FreeV.d_app _ rfl rfl 1 rfl (fun β bs ty w h hd => xmid_app HOW.out.1 HOW.out.2.1 HOW.out.2.2 h ((hd 0 25 rfl).1 (by kernel_rfl)) ((hd 1 26 rfl).2 (.inr rfl)) ty),
            trivial⟩,
            fun β => by kernel_rfl, fun β => by kernel_rfl, by kernel_rfl, fun β => by kernel_rfl, by kernel_rfl⟩ xmid_start (fun β => Free.from_ 78 [(.slice sa k sc), .pointer (some ⟨w.heap.size, 2, none⟩), (.slice (some ⟨gh, 0, none⟩) 8 cap), (.slice (some ⟨gc, 0, none⟩) len cc3), .int .i64 (k : Int), .pointer (some ⟨gc, k * 2, none⟩), .pointer (some ⟨gc, k * 2, none⟩), .int .i64 (p1 : Int), .pointer (some ⟨gh, p1, none⟩), .int .i64 hk, .pointer (some ⟨w.heap.size + 1, 0, none⟩), (.slice (some ⟨gx, 0, none⟩) 8 un), (.slice (some ⟨gc, 0, none⟩) len cc3), .int .i64 (k : Int), .pointer (some ⟨gc, k * 2, none⟩), .pointer (some ⟨gc, k * 2, none⟩), .int .i64 (p1 : Int), .pointer (some ⟨gx, p1, none⟩), .int .i64 ok, (.slice (some ⟨gc, 0, none⟩) len cc3), .int .i64 (k : Int), .pointer (some ⟨gc, k * 2, none⟩), .pointer (some ⟨gc, k * 2 + 1, none⟩), .int .i64 p2, (.agg #[.int .i64 hk, .int .i64 ok, .int .i64 p2]), (β 25), (β 26)] ++ [(15, (β 26))]) (fun β => by kernel_rfl) ?_
        intro β w5 h5
        obtain ⟨W0, hb0, hown, hgr⟩ := h5.a2 rfl
        generalize β 25 = v25 at *
        generalize β 26 = v26 at *
        clear h5
        rw [FreeX.puts_append, Free.puts_from _ _ _ (Nat.le_of_ble_eq_true rfl)]
        simp only [List.take_succ_cons, List.take_zero, List.drop_succ_cons, List.drop_zero, List.cons_append, List.nil_append, List.length_cons, List.length_nil, Nat.reduceAdd]
        unfold Free.puts
        simp only [List.foldl_cons, List.foldl_nil]
        have HH5 : Hid (SwMid w4 lsw (k + 1) v26 w5) := by
          refine ⟨by rw [HTK.out]; exact hown, ?_⟩
          have hb := HBW.out W0 hb0
          have hs0 := hb0.size
          exact hb.trans ⟨hgr.os, hgr.tape, hgr.output, hgr.size, fun z hz => hgr.block z (by have := hb.size; omega) (fun e => by have := (HOW.out.1.lt z e.symm).1; omega)⟩
        clear hb0 hown hgr HBW HC HY HH HX HO HTK HOW
        go_wp2_with fail
        go_roundw
        case rel => exact ⟨k + 1, _, rfl, by simp, by omega, HH5⟩
        case measure => simp [intOf]; omega
      · obtain rfl : k = len := by omega
        have etk : lsw.take k = lsw := by rw [← HL.out.1]; exact List.take_length
        rw [etk] at hsl
        have HS5 := Lib.hid (HS4.out.later hR.out.below)
        have hmk := make_q HS5.out.aa.sys HQ.out HT.out HS5.out.ff (by omega) hll hNN (ver + 1 + (more : Int)) ver sa sc lsw (by rw [HL.out.1]; exact HL.out.2.1) (by rw [HL.out.1]; exact hcap) hsl
        rw [HL.out.1] at hmk
        have c1 := HS5.out.vv.y1
        have q1 := HS5.out.vv.q1
        have k0 := HS5.out.dd.cells.1
        rw [show d1.ver = ver by rw [← show d.ver = d1.ver by rw [← HD.out.1]; rfl]; exact HR.out.ver] at k0
        clear hsl hcap etk htk hR HS4 hlt
        go_wp2_with fail
        refine hmk.mono ?_
        rintro e w6 ⟨t3, G3, m3, st, nh, rfl, ha6, l1, l2, l3, l4, l5, f6⟩
        obtain ⟨dv6, dl6⟩ := ha6.cells HS5.out.lc HS5.out.dd
        have hv6 := HS5.out.vv.aft ha6
        have hA6 := HS5.out.aa.trans ha6
        have hr6 := HS5.out.rr.same l1
        have hne : hh ≠ nh := fun e => by
          have := HS5.out.rr.desc
          rw [e, l5] at this; cases this
        have hp1 := pub_no hA6.sys HQ.out (by have := f6.cnt; omega) hr6.tp nh hne
        have hfr : st ≠ top ∧ st ∉ hs ∧ hh ≠ st ∧ d.st ≠ st ∧ hh ≠ top ∧ hh ∉ hs := by
          have k1 := HS5.out.rr.tp
          have k2 := HS5.out.rr.desc
          have k3 := HS5.out.rr.st
          refine ⟨fun e => (by rw [← e, l4] at k1; cases k1), fun e => ?_, fun e => (by rw [e, l4] at k2; cases k2), fun e => (by rw [e, l4] at k3; cases k3), fun e => (by rw [e, k1] at k2; cases k2), fun e => ?_⟩
          · obtain ⟨v, hv⟩ := HS5.out.rr.mem e
            rw [l4] at hv; cases hv
          · obtain ⟨v, hv⟩ := HS5.out.rr.mem e
            rw [k2] at hv; cases hv
        have HM6 : Hid (Rel m3 top hs ⟨uc, ver, bf, true, uw⟩ hh d ∧ Fine N m3 (cc + 14) (ll + 2) ∧ m3.look nh = some (.desc ⟨ver + 1 + (more : Int), d.ver, st, swapsOf hs uc (chg n i), none, 0, 0⟩) ∧ m3.look st = some (.word 0)) :=
          ⟨hr6, ⟨f6.tidy, f6.len, by have := f6.cnt; omega, f6.liv⟩, by rw [l2, HL.out.2.2.2.2, show d.ver = ver from HS5.out.rr.ver], l3⟩
        have HFR := Lib.hid hfr
        have HX6 := Lib.hid (⟨hv6, dv6, dl6, hA6⟩ : _ ∧ _ ∧ _ ∧ _)
        replace c1 := hv6.y1
        clear hmk ha6 l1 l2 l3 l4 l5 f6 dv6 dl6 hv6 hA6 hr6 hne hfr HS5 q1 k0
        go_wp2_with fail
        refine hp1.mono ?_
        rintro e w7 ⟨t4, G4, rfl, ha7⟩
        obtain ⟨dv7, dl7⟩ := ha7.cells HX6.out.2.2.1 HX6.out.2.1
        have hv7 := HX6.out.1.aft ha7
        have hA7 := HX6.out.2.2.2.trans ha7
        have hp2 := pub_yes (n := n) (i := i) (ver := ver + 1 + (more : Int)) (nh := nh) (st := st) hA7.sys HQ.out (by have := HM6.out.2.1.cnt; simp only [M.more]; omega) (HM6.out.1.more 1) (HM6.out.2.1.more 1) ((more_look _ _ _).trans HM6.out.2.2.1) ((more_look _ _ _).trans HM6.out.2.2.2) ⟨HFR.out.1, HFR.out.2.1⟩
        have HX7 := Lib.hid (⟨hv7, dv7, dl7, hA7⟩ : _ ∧ _ ∧ _ ∧ _)
        replace c1 := hv7.y1
        clear hp1 ha7 dv7 dl7 hv7 hA7 HX6
        go_wp2_with fail
        refine hp2.mono ?_
        rintro e w8 ⟨t5, G5, m5, rfl, ha8, hr8, hf8, l8⟩
        obtain ⟨dv8, dl8⟩ := ha8.cells HX7.out.2.2.1 HX7.out.2.1
        have hv8 := HX7.out.1.aft ha8
        have hA8 := HX7.out.2.2.2.trans ha8
        have hlo := load_q hA8.sys HQ.out (by have := hf8.cnt; omega) hr8.desc
        have HX8 := Lib.hid (⟨hv8, dv8, dl8, hA8⟩ : _ ∧ _ ∧ _ ∧ _)
        have HM8 : Hid (Rel m5 top hs ⟨uc, ver + 1 + (more : Int), ver, false, chg n i⟩ nh ⟨ver + 1 + (more : Int), d.ver, st, swapsOf hs uc (chg n i), none, 0, 0⟩ ∧ Fine N m5 (cc + 16) (ll + 2) ∧ m5.look hh = some (.desc d) ∧ ∃ v, m5.look d.st = some (.word v)) :=
          ⟨hr8, ⟨hf8.tidy, hf8.len, by have := hf8.cnt; omega, hf8.liv⟩, by rw [l8 _ HFR.out.2.2.2.2.1, more_look]; exact HM6.out.1.desc, ⟨_, by rw [l8 _ (fun e => HM6.out.1.nt.1 e.symm), more_look]; exact HM6.out.1.st⟩⟩
        clear hp2 ha8 dv8 dl8 hv8 hA8 hr8 hf8 l8 HX7 c1 HM6
        go_wp2_with fail
        refine hlo.mono ?_
        rintro e w9 ⟨d2, t6, G6, rfl, e2, hi2, ha9⟩
        have hb10 := (Below.refl w9.heap.size w9).alloc (Nat.le_refl _) d2.obj
        obtain ⟨dv9, dl9⟩ := ha9.cells HX8.out.2.2.1 HX8.out.2.1
        have hv10 := (HX8.out.1.aft ha9).later hb10
        have hA10 := (HX8.out.2.2.2.trans ha9).later hb10
        have ev2 : d2.ver = ver + 1 + (more : Int) := by rw [← show d2.e.ver = d2.ver from rfl, e2]
        have en2 : d2.n = k := by rw [hi2.n, ← show d2.e.sw = d2.sw from rfl, e2, ← HL.out.2.2.2.2, HL.out.1]
        obtain ⟨w10, hw10⟩ : ∃ W, W = w9.alloc d2.obj := ⟨_, rfl⟩
        have hD2 : DVar w10 w9.heap.size d2 := by rw [hw10]; exact dnewd w9 d2
        have hL2 : Loc w0 b c r pb t6 G6 w10 w9.heap.size := by rw [hw10]; exact ha9.sys.fresh d2.obj
        rw [← hw10] at hb10 hv10 hA10
        have hd10 := dv9.later hb10
        have HW10 := Lib.hid hw10.symm
        have HM10 : Hid (Rel (m5.more 1) top hs ⟨uc, ver + 1 + (more : Int), ver, false, chg n i⟩ nh ⟨ver + 1 + (more : Int), d.ver, st, swapsOf hs uc (chg n i), none, 0, 0⟩ ∧ Fine N (m5.more 1) (cc + 17) (ll + 2) ∧ (m5.more 1).look hh = some (.desc d) ∧ ∃ v, (m5.more 1).look d.st = some (.word v)) := by
          have hf := HM8.out.2.1.more 1
          obtain ⟨v, hv⟩ := HM8.out.2.2.2
          exact ⟨HM8.out.1.more 1, ⟨hf.tidy, hf.len, by have := hf.cnt; omega, hf.liv⟩, (more_look _ _ _).trans HM8.out.2.2.1, v, (more_look _ _ _).trans hv⟩
        have HX10 := Lib.hid (⟨hD2, hL2, hA10⟩ : _ ∧ _ ∧ _)
        have HI2 := Lib.hid (⟨e2, hi2, ev2, en2⟩ : _ ∧ _ ∧ _ ∧ _)
        have k0 := hd10.cells.1
        rw [show d1.ver = ver by rw [← show d.ver = d1.ver by rw [← HD.out.1]; rfl]; exact HR.out.ver] at k0
        have q1 := hv10.q1
        have q2 := hv10.q2
        obtain ⟨e0, e1, e2', e3⟩ := hD2.cells
        rw [ev2] at e0
        rw [en2] at e3
        unfold Ds.v
        unfold Ds.obj at HW10
        rw [ev2, en2] at HW10 ⊢
        clear hlo ha9 hb10 dv9 dl9 hv10 hA10 hD2 hL2 hd10 hw10 e2 hi2 ev2 en2 HX8 HM8
        cases wt with
        | true =>
          obtain ⟨v, hv⟩ := HM10.out.2.2.2
          have hdr := drop_q HX10.out.2.2.sys HQ.out (by have := HM10.out.2.1.cnt; omega) HM10.out.2.1 HM10.out.2.2.1 hv (ver + 1 + (more : Int))
          clear hv
          go_wp2_with (first | rw [HW10.out] | fail)
          refine hdr.mono ?_
          rintro e w11 ⟨t7, G7, m7, rfl, ha11, hf11, l11⟩
          have HE : Hid (RdPost N m false w0 b c r pb t G w s top hs (Wg.foll ⟨uc, ver, bf, true, uw⟩ n (more : Int) true i) cc ll (.returned (.bool true)) w11) :=
            ⟨rfl, t7, G7, m7, _, _, HX10.out.2.2.trans ha11, HM10.out.1.same (fun k _ => l11 k), ⟨hf11.tidy, hf11.len, by have := hf11.cnt; omega, hf11.liv⟩, fun e => (by cases e)⟩
          clear hdr ha11 hf11 l11
          go_wp2_with fail
          go_ret
          have hE := HE.out
          rw [← HEY.out] at hE
          exact hE
        | false =>
          have hhe := help_q HX10.out.2.2.sys HQ.out (by have := HM10.out.2.1.cnt; omega) HM10.out.1 rfl HM10.out.2.1 d2 HI2.out.1 HI2.out.2.1
          unfold Ds.v at hhe
          rw [HI2.out.2.2.1, HI2.out.2.2.2] at hhe
          go_wp2_with (first | rw [HW10.out] | fail)
          refine hhe.mono ?_
          rintro e w11 ⟨t7, G7, m7, rfl, ha11, hr11, hf11, l11⟩
          obtain ⟨v, hv⟩ := HM10.out.2.2.2
          obtain ⟨dv11, -⟩ := ha11.cells HX10.out.2.1 HX10.out.1
          have hA11 := HX10.out.2.2.trans ha11
          have hdr := drop_q hA11.sys HQ.out (by have := hf11.cnt; omega) hf11 ((l11 _ HFR.out.2.2.1 HFR.out.2.2.2.2.2).trans HM10.out.2.2.1) ((l11 _ HFR.out.2.2.2.1 HR.out.nt.2.2).trans hv) (ver + 1 + (more : Int))
          have e0 := dv11.cells.1
          rw [HI2.out.2.2.1] at e0
          have HM11 := Lib.hid (⟨hr11, hA11⟩ : _ ∧ _)
          clear hhe ha11 hr11 hf11 l11 hv dv11 hA11
          go_wp2_with fail
          refine hdr.mono ?_
          rintro e w12 ⟨t8, G8, m8, rfl, ha12, hf12, l12⟩
          have HE : Hid (RdPost N m false w0 b c r pb t G w s top hs (Wg.foll ⟨uc, ver, bf, true, uw⟩ n (more : Int) false i) cc ll (.returned (.bool true)) w12) :=
            ⟨rfl, t8, G8, m8, _, _, HM11.out.2.trans ha12, HM11.out.1.same (fun k _ => l12 k), ⟨hf12.tidy, hf12.len, by have := hf12.cnt; omega, hf12.liv⟩, fun e => (by cases e)⟩
          clear hdr ha12 hf12 l12
          go_wp2_with fail
          go_ret
          have hE := HE.out
          rw [← HEY.out] at hE
          exact hE
end
end Go.Proofs.YteiikkkcjpfapaaDoor
