/- Does at any act; what is true within a round of MemPlays, in whatever order its parts are done. Conditions: memory is the call's own; counts and live cells are below 2 to the 30; at most 1000000 handles were told. -/
import Derived.Test.YtnhpcakdnaoekaaDoorPlayE
namespace Go.Proofs.YtnhpcakdnaoekaaDoor
open Go.RowKit Go.Op
set_option maxRecDepth 100000

theorem does_any (w0 w : World) (b c r rc cap : Nat) (N : Int) (m : M) (z : Ac) (B : Nat) (ta : Option Addr) (tc : Nat) (told : List Int) (hT : TabAt w0) (hH : Has w0 b c r N w m) (hR : RAt w rc m) (h1 : rc ≠ b) (h2 : rc ≠ c) (h3 : rc ≠ r) (hN : N ≤ 1000000)
    (hO : OwnI w B (.slice ta told.length tc) told) (hl : told.length ≤ 1000000) (hz : -9223372036854775808 ≤ z.pos ∧ z.pos ≤ 9223372036854775807) (ha : 0 ≤ z.act ∧ z.act ≤ 255) :
    Calls Tryd.prog 12 #[.pointer (some ⟨b, 0, none⟩), m.rv rc cap, z.v, .slice ta told.length tc] w fun e w' => Done w0 w b c r rc (N + 1) e w' := by
  rcases (show z.act % 9 = 0 ∨ z.act % 9 = 1 ∨ z.act % 9 = 2 ∨ z.act % 9 = 3 ∨ z.act % 9 = 4 ∨ z.act % 9 = 5 ∨ z.act % 9 = 6 ∨ z.act % 9 = 7 ∨ z.act % 9 = 8 by omega) with k | k | k | k | k | k | k | k | k
  · exact does_allocnote w0 w b c r rc cap N m z B ta tc told hT hH hR h1 h2 h3 hN hO hl hz ha k
  · exact does_allocword w0 w b c r rc cap N m z B ta tc told hT hH hR h1 h2 h3 hN hO hl hz ha k
  · exact does_load w0 w b c r rc cap N m z B ta tc told hH hR h1 h2 h3 hN hO hl hz ha k
  · exact does_word w0 w b c r rc cap N m z B ta tc told hH hR h1 h2 h3 hN hO hl hz ha k
  · exact does_store w0 w b c r rc cap N m z B ta tc told hH hR h1 h2 h3 hN hO hl hz ha k
  · exact does_swap w0 w b c r rc cap N m z B ta tc told hH hR h1 h2 h3 hN hO hl hz ha k
  · exact does_free w0 w b c r rc cap N m z B ta tc told hH hR h1 h2 h3 hN hO hl hz ha k
  · exact does_retire w0 w b c r rc cap N m z B ta tc told hH hR h1 h2 h3 hN hO hl hz ha k
  · exact does_reap w0 w b c r rc cap N m z B ta tc told hH hR h1 h2 h3 hN hO hl hz ha k

/-- The parts of the document's memory. -/
def M.row (m : M) (c cap : Nat) : List Value := [.slice (some ⟨c, 0, none⟩) m.cells.length cap, .int .i64 m.count, .int .i64 m.live, .int .i64 m.stale]
theorem M.row_rv (m : M) (c cap : Nat) : m.rv c cap = .agg (m.row c cap).toArray := rfl
/-- A variable that holds the document's memory. -/
structure Var (w : World) (p : Nat) (m : M) (rc cap : Nat) : Prop where
  at_ : w.rangeAt p 0 (m.row rc cap)
  fz : ∀ i, w.frozen? ⟨p, i, none⟩ = false
  lt : p < w.heap.size
theorem Var.of {w w' : World} {p : Nat} {m : M} {rc cap : Nat} (h : Var w p m rc cap) (hs : w.heap.size ≤ w'.heap.size) (hb : w'.heap[p]? = w.heap[p]?) : Var w' p m rc cap :=
  ⟨fun j v hj => by rw [World.cell?_of_block (w := w) (a := ⟨p, 0 + j, none⟩) hb]; exact h.at_ j v hj, fun i => by simp only [World.frozen?, hb]; exact h.fz i, Nat.lt_of_lt_of_le h.lt hs⟩
theorem Var.below {w w' : World} {p : Nat} {m : M} {rc cap : Nat} (h : Var w p m rc cap) (hb : Below w.heap.size w w') : Var w' p m rc cap := h.of hb.size (hb.block p h.lt)
theorem Var.there {w : World} {p : Nat} {m : M} {rc cap : Nat} (h : Var w p m rc cap) : w.there p 0 4 := fun j hj => by
  refine ⟨?_, h.fz _⟩
  match j, hj with
  | 0, _ => rw [h.at_ 0 _ rfl]; rfl
  | 1, _ => rw [h.at_ 1 _ rfl]; rfl
  | 2, _ => rw [h.at_ 2 _ rfl]; rfl
  | 3, _ => rw [h.at_ 3 _ rfl]; rfl
theorem there_of {w w' : World} {p n : Nat} (h : w.there p 0 n) (hb : w'.heap[p]? = w.heap[p]?) : w'.there p 0 n := fun j hj => by
  rw [World.cell?_of_block (w := w) (a := ⟨p, 0 + j, none⟩) hb]
  simp only [World.frozen?, hb]
  exact h j hj
/-- A round's beginning. -/
structure Pl (w0 : World) (b c r pw B : Nat) (N : Int) (w : World) (m : M) (rc cap : Nat) (told : List Int) (tv : Value) : Prop where
  has : Has w0 b c r N w m
  rat : RAt w rc m
  var : Var w pw m rc cap
  t : OwnI w B tv told
  nb : rc ≠ b ∧ rc ≠ c ∧ rc ≠ r ∧ rc ≠ pw
  nt : tv.ownBlock ≠ some rc
  sz : B ≤ w.heap.size
/-- What stays where it is. -/
structure Fix (w0 : World) (b c r pw B : Nat) : Prop where
  lb : b < B
  lc : c < B
  lr : r < B
  lp : pw < B
  pb : pw ≠ b
  pc : pw ≠ c
  pr : pw ≠ r
  hp : w0.heap.size ≤ pw
/-- A part of what is told. -/
def nth (k : Nat) (v : Value) : Value := match v with
  | .tuple xs => xs.getD k undef
  | _ => undef
/-- Within a round: bs tells whether Does has come up, the new variable, the store into it. -/
def Mid (w0 : World) (b c r pw B : Nat) (N : Int) (m : M) (rc cap : Nat) (told : List Int) (tv : Value) (bs : List Bool) (β : Nat → Value) (W : World) : Prop := ∃ (m' : M) (rc' cap' : Nat) (K : Int),
  (bs[0]? = some false → m' = m ∧ rc' = rc ∧ cap' = cap ∧ K = N) ∧
  (bs[0]? = some true → K = N + 1 ∧ ∃ to, β 7 = .tuple #[m'.rv rc' cap', .bool true, .int .i64 to]) ∧
  Has w0 b c r K W m' ∧ RAt W rc' m' ∧ Var W pw m rc cap ∧ OwnI W B tv told ∧ (rc' ≠ b ∧ rc' ≠ c ∧ rc' ≠ r ∧ rc' ≠ pw) ∧ tv.ownBlock ≠ some rc' ∧ B ≤ W.heap.size ∧
  (bs[1]? = some true → ∃ g, β 12 = .pointer (some ⟨g, 0, none⟩) ∧ g < W.heap.size ∧ B ≤ g ∧ g ≠ rc' ∧ tv.ownBlock ≠ some g ∧ W.there g 0 4 ∧ (bs[2]? = some true → W.rangeAt g 0 (m'.row rc' cap')))
section
variable {w0 : World} {b c r pw B : Nat} {N : Int} {m : M} {rc cap : Nat} {told : List Int} {tv : Value} {bs : List Bool} {β : Nat → Value} {W : World}
theorem set_at {p : Nat} (h : bs[p]? = some false) : (bs.set p true)[p]? = some true := List.getElem?_set_self (List.getElem?_eq_some_iff.1 h).1
theorem OwnI.block {w w' : World} {v : Value} {l : List Int} (h : OwnI w B v l) (hk : ∀ k, v.ownBlock = some k → w'.heap[k]? = w.heap[k]?) : OwnI w' B v l := by
  obtain ⟨h1, h2⟩ := h
  refine ⟨h1, ?_⟩
  rcases h2 with h2 | ⟨g, cap, cur, rfl, b, c, d⟩
  · exact .inl h2
  · exact .inr ⟨g, cap, cur, rfl, b, by rw [hk g rfl]; exact c, d⟩
theorem mid_start {w : World} (h : Pl w0 b c r pw B N w m rc cap told tv) : Mid w0 b c r pw B N m rc cap told tv [false, false, false] β w.drew := by
  have hb := (Below.refl w.heap.size w).drew
  exact ⟨m, rc, cap, N, fun _ => ⟨rfl, rfl, rfl, rfl⟩, fun e => (by cases e), h.has.later hb, h.rat.below hb h.rat.lt, h.var.below hb, h.t.below hb, h.nb, h.nt, Nat.le_trans h.sz hb.size, fun e => (by cases e)⟩
theorem mid_mem (h : Mid w0 b c r pw B N m rc cap told tv bs β W) : (Instr.loadAt 31 (.pointer (some ⟨pw, 0, none⟩))).run Tryd.prog W = .ok (m.rv rc cap) W := by
  obtain ⟨_, _, _, _, _, _, _, _, hv, _⟩ := h
  exact run_loadAt_mid _ pw 0 31 (m.row rc cap) _ hv.at_ Tryd.underlying31 rfl size31
theorem size37 : (Tryd.prog.info? 37).map (·.size) = some 5 := by kernel_rfl
theorem mid_act (h : Mid w0 b c r pw B N m rc cap told tv bs β W) {pb off : Nat} {z : Ac} (hz : AcAt w0 pb off z) (hpb : pb < w0.heap.size) : (Instr.loadAt 37 (.pointer (some ⟨pb, off, none⟩))).run Tryd.prog W = .ok z.v W := by
  obtain ⟨_, _, _, _, _, _, hh, _⟩ := h
  have k : ∀ i, W.cell? ⟨pb, i, none⟩ = w0.cell? ⟨pb, i, none⟩ := fun i => hh.below.cell (p := ⟨pb, i, none⟩) hpb
  obtain ⟨z0, z1, z2, z3, z4⟩ := hz
  refine run_loadAt_mid _ pb off 37 [.int .u8 z.act, .int .i64 z.pos, .int .i64 z.n, .int .i64 z.m, .bool z.raw] _ (fun j v hj => ?_) Tryd.underlying37 rfl size37
  rw [k]
  match j, hj with
  | 0, hj => cases hj; exact z0
  | 1, hj => cases hj; exact z1
  | 2, hj => cases hj; exact z2
  | 3, hj => cases hj; exact z3
  | 4, hj => cases hj; exact z4
theorem mid_does (hF : Fix w0 b c r pw B) (hT : TabAt w0) (hN : N ≤ 1000000) {ta : Option Addr} {tc : Nat} (hl : told.length ≤ 1000000) {z : Ac} (hz : -9223372036854775808 ≤ z.pos ∧ z.pos ≤ 9223372036854775807) (ha : 0 ≤ z.act ∧ z.act ≤ 255)
    (h : Mid w0 b c r pw B N m rc cap told (.slice ta told.length tc) bs β W) (h0 : bs[0]? = some false) (h2 : bs[2]? = some false) :
    Calls Tryd.prog 12 #[.pointer (some ⟨b, 0, none⟩), m.rv rc cap, z.v, .slice ta told.length tc] W fun e w' => ∃ u, e = .returned u ∧ Mid w0 b c r pw B N m rc cap told (.slice ta told.length tc) (bs.set 0 true) (FreeV.upd β 7 u) w' := by
  obtain ⟨m', rc', cap', K, hk, _, hh, hr, hv, ho, hnb, hnt, hsz, hg⟩ := h
  obtain ⟨rfl, rfl, rfl, rfl⟩ := hk h0
  refine (does_any w0 W b c r rc' cap' K m' z B ta tc told hT hh hr hnb.1 hnb.2.1 hnb.2.2.1 hN ho hl hz ha).mono ?_
  rintro e w' ⟨m2, c2, cap2, to, rfl, hh2, hr2, hk2, n1, n2, n3, hc⟩
  have hF1 := hF.lb
  have hF2 := hF.lc
  have hF3 := hF.lr
  have hF4 := hF.lp
  have keep : ∀ k, k < W.heap.size → k ≠ b → k ≠ c → k ≠ r → w'.heap[k]? = W.heap[k]? := hk2.block
  have e1 : ∀ u, FreeV.upd β 7 u 7 = u := fun u => by simp [FreeV.upd]
  have e2 : ∀ u, FreeV.upd β 7 u 12 = β 12 := fun u => by simp [FreeV.upd]
  refine ⟨_, rfl, m2, c2, cap2, K + 1, fun e => ?_, fun _ => ⟨rfl, to, e1 _⟩, hh2, hr2, hv.of hk2.size (keep pw hv.lt hF.pb hF.pc hF.pr), ho.kept hk2 ⟨hF1, hF2, hF3⟩, ⟨n1, n2, n3, ?_⟩, ?_, Nat.le_trans hsz hk2.size, fun h1 => ?_⟩
  · rw [set_at h0] at e
    cases e
  · have := hv.lt
    rcases hc with rfl | hc
    · exact hnb.2.2.2
    · omega
  · rcases hc with rfl | hc
    · exact hnt
    · intro e
      have := (ho.lt c2 e).2
      omega
  · rw [List.getElem?_set_ne (by decide)] at h1
    obtain ⟨g, eg, g1, g2, g3, g4, g5, _⟩ := hg h1
    rw [e2]
    refine ⟨g, eg, Nat.lt_of_lt_of_le g1 hk2.size, g2, ?_, g4, there_of g5 (keep g g1 (by omega) (by omega) (by omega)), fun e => ?_⟩
    · rcases hc with rfl | hc
      · exact g3
      · omega
    · rw [List.getElem?_set_ne (by decide), h2] at e
      cases e
theorem new31 (w : World) : (Instr.alloc 31 true (.tuple #[])).run Tryd.prog w = .ok (.pointer (some ⟨w.heap.size, 0, none⟩)) (w.alloc (.cells #[.slice none 0 0, .int .i64 0, .int .i64 0, .int .i64 0] 31)) := by
  go_simp
theorem mid_alloc (h : Mid w0 b c r pw B N m rc cap told tv bs β W) (h2 : bs[2]? = some false) : ∃ u w', (Instr.alloc 31 true (.tuple #[])).run Tryd.prog W = .ok u w' ∧ Mid w0 b c r pw B N m rc cap told tv (bs.set 1 true) (FreeV.upd β 12 u) w' := by
  obtain ⟨m', rc', cap', K, hk, ht, hh, hr, hv, ho, hnb, hnt, hsz, _⟩ := h
  have hb := (Below.refl W.heap.size W).alloc (Nat.le_refl _) (.cells #[.slice none 0 0, .int .i64 0, .int .i64 0, .int .i64 0] 31)
  refine ⟨.pointer (some ⟨W.heap.size, 0, none⟩), W.alloc (.cells #[.slice none 0 0, .int .i64 0, .int .i64 0, .int .i64 0] 31), ?_, m', rc', cap', K, fun e => hk ?_, fun e => ?_, hh.later hb, hr.below hb hr.lt, hv.below hb, ho.below hb, hnb, hnt, Nat.le_trans hsz hb.size, fun _ => ?_⟩
  · exact new31 W
  · rwa [List.getElem?_set_ne (by decide)] at e
  · rw [List.getElem?_set_ne (by decide)] at e
    obtain ⟨hK, to, e7⟩ := ht e
    exact ⟨hK, to, by rw [← e7]; simp [FreeV.upd]⟩
  · have hr0 := hr.lt
    refine ⟨W.heap.size, by simp [FreeV.upd], by simp, hsz, by omega, fun e => Nat.lt_irrefl _ (ho.lt _ e).2, fun j hj => ?_, fun e => ?_⟩
    · rw [Nat.zero_add]
      refine ⟨?_, World.frozen?_alloc_at _ 31 _ j rfl⟩
      match j, hj with
      | 0, _ => rw [alloc_cell _ _ _ 0 _ rfl]; rfl
      | 1, _ => rw [alloc_cell _ _ _ 1 _ rfl]; rfl
      | 2, _ => rw [alloc_cell _ _ _ 2 _ rfl]; rfl
      | 3, _ => rw [alloc_cell _ _ _ 3 _ rfl]; rfl
    · rw [List.getElem?_set_ne (by decide), h2] at e
      cases e
theorem mid_nth (h : Mid w0 b c r pw B N m rc cap told tv bs β W) (h0 : bs[0]? = some true) {k : Nat} (hk : k < 3) : (Instr.extract (β 7) k).run Tryd.prog W = .ok (nth k (β 7)) W := by
  obtain ⟨m', rc', cap', K, _, ht, _⟩ := h
  obtain ⟨_, to, e7⟩ := ht h0
  rw [e7]
  match k, hk with
  | 0, _ => rfl
  | 1, _ => rfl
  | 2, _ => rfl
theorem mid_store (hF : Fix w0 b c r pw B) (h : Mid w0 b c r pw B N m rc cap told tv bs β W) (h0 : bs[0]? = some true) (h1 : bs[1]? = some true) : ∃ w', (Instr.storeAt 31 (β 12) (nth 0 (β 7))).run Tryd.prog W = .ok () w' ∧ Mid w0 b c r pw B N m rc cap told tv (bs.set 2 true) β w' := by
  obtain ⟨m', rc', cap', K, _, ht, hh, hr, hv, ho, hnb, hnt, hsz, hg⟩ := h
  obtain ⟨hK, to, e7⟩ := ht h0
  obtain ⟨g, eg, g1, g2, g3, g4, g5, _⟩ := hg h1
  have hF1 := hF.lb
  have hF2 := hF.lc
  have hF3 := hF.lr
  have hF4 := hF.lp
  have hp := hF.hp
  have hsame : ∀ k, k ≠ g → (W.setCells g 0 (m'.row rc' cap')).heap[k]? = W.heap[k]? := fun k hk => by
    show (four W g _ _ _ _).heap[k]? = _
    unfold four
    rw [Below.heap_setCell _ _ _ _ hk, Below.heap_setCell _ _ _ _ hk, Below.heap_setCell _ _ _ _ hk, Below.heap_setCell _ _ _ _ hk]
  have hsz2 : (W.setCells g 0 (m'.row rc' cap')).heap.size = W.heap.size := by
    show (four W g _ _ _ _).heap.size = _
    unfold four
    simp [World.setCell]
  have hst := run_storeAt_mid (P := Tryd.prog) W g 0 31 (m'.row rc' cap').toArray g5 size31 (by
    simp only [Array.all_eq_true', M.row]
    intro v hv
    simp at hv
    rcases hv with rfl | rfl | rfl | rfl <;> rfl)
  refine ⟨W.setCells g 0 (m'.row rc' cap'), ?_, m', rc', cap', K, fun e => ?_, fun _ => ⟨hK, to, e7⟩, hh.four (by omega) _ _ _ _, hr.four g3 _ _ _ _, hv.of (by omega) (hsame pw (by omega)), ho.block fun k hk => hsame k ?_, hnb, hnt, by omega, fun _ => ⟨g, eg, by omega, g2, g3, g4, World.there_setCells g5 _ _ _, fun _ => World.rangeAt_setCells_same W g 0 (m'.row rc' cap') g5⟩⟩
  · rw [eg, e7]
    exact hst
  · rw [List.getElem?_set_ne (by decide), h0] at e
    cases e
  · rintro rfl
    exact g4 hk
/-- A round's end. -/
theorem mid_end (h : Mid w0 b c r pw B N m rc cap told tv [true, true, true] β W) : ∃ (m' : M) (rc' cap' g : Nat) (to : Int), β 7 = .tuple #[m'.rv rc' cap', .bool true, .int .i64 to] ∧ β 12 = .pointer (some ⟨g, 0, none⟩) ∧ Has w0 b c r (N + 1) W m' ∧ RAt W rc' m' ∧ Var W pw m rc cap ∧ OwnI W B tv told ∧ (rc' ≠ b ∧ rc' ≠ c ∧ rc' ≠ r ∧ rc' ≠ pw) ∧ tv.ownBlock ≠ some rc' ∧ B ≤ W.heap.size ∧ g < W.heap.size ∧ B ≤ g ∧ W.rangeAt g 0 (m'.row rc' cap') := by
  obtain ⟨m', rc', cap', K, _, ht, hh, hr, hv, ho, hnb, hnt, hsz, hg⟩ := h
  obtain ⟨rfl, to, e7⟩ := ht rfl
  obtain ⟨g, eg, g1, g2, _, _, _, g6⟩ := hg rfl
  exact ⟨m', rc', cap', g, to, e7, eg, hh, hr, hv, ho, hnb, hnt, hsz, g1, g2, g6 rfl⟩
end
end Go.Proofs.YtnhpcakdnaoekaaDoor
