/- What slices.Clone and plan.Towers answer. Conditions: at most 1000000 links, 1000 views. -/
import Derived.Test.YtjlifkhpohfiaaaRd
import Derived.Deep.Upon
namespace Go.Proofs.Ytjlifkhpohfiaaa
open Go.RowKit Go.Op
set_option maxRecDepth 100000

theorem info3w : (Try.prog.info? 3).map (fun i => (i.zero, i.size, i.bytes)) = some (some (.int .i64 0), 1, 8) := by kernel_rfl
theorem ints_length (l : List Int) : (ints l).length = l.length := by simp [ints]
theorem eq35_no (a : Addr) (n c : Nat) (w : World) : (binOp .eql 35 (.slice (some a) n c) (.slice none 0 0)).run Try.prog w = .ok (.bool false) w := by kernel_rfl
theorem eq35_nil (n c : Nat) (w : World) : (binOp .eql 35 (.slice none n c) (.slice none 0 0)).run Try.prog w = .ok (.bool true) w := by kernel_rfl
/-- A row in a block. -/
structure Rw (w : World) (g : Nat) (x : List Value) : Prop where
  lt : g < w.heap.size
  cell : w.rangeAt g 0 x
def SlNew (B : Nat) (w : World) (a : Option Addr) (l : List Int) : Prop := l = [] ∨ ∃ g, a = some ⟨g, 0, none⟩ ∧ B ≤ g ∧ Rw w g (ints l)
theorem SlNew.row {B : Nat} {w : World} {a : Option Addr} {l : List Int} (h : SlNew B w a l) : RowAt w a (ints l) ∧ (l = [] ∨ ∀ x, a = some x → B ≤ x.block) := by
  rcases h with rfl | ⟨g, e, hb, hr⟩
  · exact ⟨.inl rfl, .inl rfl⟩
  · exact ⟨.inr ⟨g, 0, e, hr.lt, hr.cell⟩, .inr fun x hx => by rw [e] at hx; cases hx; exact hb⟩
theorem clone_app (w : World) (q : Nat) (a : Addr) (cap : Nat) (l : List Int) (hl : l.length ≤ 1000000) (h : RowAt w (some a) (ints l)) :
    ∃ ad' cap' w', (∀ ty, (Builtin.append_ #[35, 35] ty #[.slice (some ⟨q, 0, none⟩) 0 0, .slice (some a) l.length cap]).run Try.prog w = .ok (.slice ad' l.length cap') w') ∧ l.length ≤ cap' ∧ Below w.heap.size w w' ∧ SlNew w.heap.size w' ad' l := by
  obtain ⟨i0, hi, hz0, hz1, hz2⟩ := info_parts info3w
  by_cases h0 : l = []
  · subst h0
    exact ⟨_, _, _, fun ty => run_append_nothing w 35 35 ty 3 i0 Try.underlying35 hi (some ⟨q, 0, none⟩) 0 0 (Nat.le_refl _) _ (Src.ofSlice w Try.underlying35 a 0 cap [] (by simp) (fun j u hu => (by simp at hu)) (fun u hu => (by simp at hu))), Nat.le_refl _, Below.refl _ _, .inl rfl⟩
  · rcases h with e | ⟨g, o, e, hlt, hr⟩
    · exact absurd (by simpa [ints] using e : l = []) h0
    · cases e
      have hp : 0 < l.length := List.length_pos_iff.2 h0
      have hrun := fun ty => run_append_grow (P := Try.prog) w 35 ty 3 i0 _ Try.underlying35 hi hz0 ⟨q, 0, none⟩ 0 0 [] (by simp) (fun j u hu => (by simp at hu)) ⟨g, o, none⟩ l.length cap (ints l) (by rw [ints_length, hz1]; omega) (fun j u hu => by rw [add_off]; exact hr j u hu) (by omega) (by omega) (growslice_fits (by omega) (by rw [hz2]; omega))
      have hge := grownCap_ge w (0 + l.length) 0 3
      simp only [Nat.zero_add] at hrun hge
      refine ⟨_, _, _, hrun, hge, (Below.refl w.heap.size w).drew.alloc (Nat.le_refl _) _, .inr ⟨w.heap.size, rfl, Nat.le_refl _, ⟨by simp, fun j u hj => ?_⟩⟩⟩
      have hlt := (List.getElem?_eq_some_iff.1 hj).1
      rw [show w.heap.size = w.drew.heap.size from rfl, World.cell?_alloc_new]
      rw [Array.getElem?_append_left (by simp; exact hlt)]
      rw [← hj]
      simp
def IsSl (B : Nat) (l : List Int) (e : Ending) (w' : World) : Prop := ∃ ad cap, e = .returned (.slice ad l.length cap) ∧ l.length ≤ cap ∧ SlNew B w' ad l
theorem clone_any (w : World) (ad : Option Addr) (cap : Nat) (l : List Int) (hl : l.length ≤ 1000000) (h : RowAt w ad (ints l)) :
    Calls Try.prog 49 #[.slice ad l.length cap] w fun e w' => IsSl w.heap.size l e w' ∧ Below w.heap.size w w' := by
  cases ad with
  | none =>
    have h0 : l = [] := by
      rcases h with e | ⟨g, o, e, _⟩
      · simpa [ints] using e
      · cases e
    subst h0
    clear h
    have h1 := eq35_nil
    go_enter Try.func49, Try.ntmps49
    go_wp2
    go_ret
    exact ⟨⟨none, 0, rfl, Nat.le_refl _, .inl rfl⟩, Below.refl _ _⟩
  | some a =>
    have hb := (Below.refl w.heap.size w).alloc (Nat.le_refl _) (.cells #[] 3)
    have HA := Lib.hid (clone_app (w.alloc (.cells #[] 3)) w.heap.size a cap l hl (h.imp id fun ⟨g, o, e, hlt, hr⟩ => ⟨g, o, e, Nat.lt_of_lt_of_le hlt hb.size, rangeAt_same hr (hb.block g hlt)⟩))
    have HB := Lib.hid hb
    have h1 := eq35_no a
    clear h hb hl
    obtain ⟨ad', cap', w2, hrun, h2, h3, h4⟩ := HA.out
    have HE : Hid (IsSl w.heap.size l (.returned (.slice ad' l.length cap')) w2 ∧ Below w.heap.size w w2) :=
      ⟨⟨ad', cap', rfl, h2, h4.imp id fun ⟨g, e, k, r⟩ => ⟨g, e, Nat.le_trans HB.out.size k, r⟩⟩, HB.out.trans (h3.mono HB.out.size)⟩
    clear h2 h3 h4 HA HB
    generalize l.length = n at *
    have HR := Lib.hid hrun
    clear hrun
    go_enter Try.func49, Try.ntmps49
    go_wp2_with (at_builtin; refine append_run rfl (.tmp 5) (.tmp 6) 35 rfl rfl rfl HR.out ?_)
    go_ret
    exact HE.out

/-- Cells that are stored one behind the other. -/
def putAt (xs : List Value) : Nat → List Value → List Value
  | _, [] => xs
  | o, v :: r => putAt (xs.set o v) (o + 1) r
theorem putAt_length : ∀ (row xs : List Value) (o : Nat), (putAt xs o row).length = xs.length
  | [], _, _ => rfl
  | v :: r, xs, o => by rw [putAt, putAt_length r]; simp
theorem putAt_get : ∀ (row xs : List Value) (o j : Nat), o + row.length ≤ xs.length → (putAt xs o row)[j]? = if o ≤ j ∧ j < o + row.length then row[j - o]? else xs[j]?
  | [], xs, o, j, _ => by
    rw [putAt, if_neg (by simp only [List.length_nil]; omega)]
  | v :: r, xs, o, j, h => by
    rw [List.length_cons] at h
    rw [putAt, putAt_get r _ _ _ (by rw [List.length_set]; omega), List.length_cons]
    by_cases h1 : o + 1 ≤ j ∧ j < o + 1 + r.length
    · rw [if_pos h1, if_pos (by omega), show j - o = (j - (o + 1)) + 1 by omega, List.getElem?_cons_succ]
    · rw [if_neg h1]
      by_cases h2 : j = o
      · subst h2
        rw [if_pos (by omega), List.getElem?_set_self (by omega), Nat.sub_self]; rfl
      · rw [if_neg (by omega), List.getElem?_set_ne (fun e => h2 e.symm)]
theorem own_put {base size n g cap : Nat} {e : TypeId} : ∀ (row xs : List Value) (o : Nat) (w : World), w.ownsRow base e size (.slice (some ⟨g, 0, none⟩) n cap) n xs → (w.setCells g o row).ownsRow base e size (.slice (some ⟨g, 0, none⟩) n cap) n (putAt xs o row)
  | [], _, _, _, h => h
  | v :: r, xs, o, w, h => by
    rw [World.setCells, putAt]
    exact own_put r _ _ _ (h.stored o v).1
theorem putAt_flat {α : Type} (f : α → List Value) (n : Nat) (hf : ∀ x, (f x).length = n) (hn : 0 < n) (l : List α) (i : Nat) (hi : i < l.length) (y : α) : putAt (l.flatMap f) (i * n) (f y) = (l.set i y).flatMap f := by
  have hl := flat_length f n hf l
  have hm : (i + 1) * n ≤ l.length * n := Nat.mul_le_mul_right _ hi
  have hs : (i + 1) * n = i * n + n := Nat.succ_mul i n
  apply List.ext_getElem?
  intro j
  rw [putAt_get _ _ _ _ (by rw [hf, hl]; omega), hf]
  have hj : j = j / n * n + j % n := by rw [Nat.mul_comm]; exact (Nat.div_add_mod j n).symm
  have hr : j % n < n := Nat.mod_lt _ hn
  by_cases h1 : i * n ≤ j ∧ j < i * n + n
  · rw [if_pos h1]
    have h2 := flat_get f n hf (l := l.set i y) (i := i) (x := y) (List.getElem?_set_self hi) (j - i * n)
    obtain ⟨u, hu⟩ : ∃ u, (f y)[j - i * n]? = some u := ⟨_, List.getElem?_eq_getElem (by rw [hf]; omega)⟩
    rw [hu, ← h2 u hu]
    congr 1; omega
  · rw [if_neg h1]
    by_cases hjl : j / n < l.length
    · obtain ⟨x, hx⟩ : ∃ x, l[j / n]? = some x := ⟨_, List.getElem?_eq_getElem hjl⟩
      have hne : i ≠ j / n := fun e => h1 (by rw [e]; omega)
      obtain ⟨u, hu⟩ : ∃ u, (f x)[j % n]? = some u := ⟨_, List.getElem?_eq_getElem (by rw [hf]; exact hr)⟩
      have e1 := flat_get f n hf hx (j % n) u hu
      have e2 := flat_get f n hf (l := l.set i y) (i := j / n) (x := x) (by rw [List.getElem?_set_ne hne]; exact hx) (j % n) u hu
      rw [← hj] at e1 e2
      rw [e1, e2]
    · have h3 : l.length * n ≤ j := by
        have : l.length * n ≤ j / n * n := Nat.mul_le_mul_right _ (by omega)
        omega
      rw [List.getElem?_eq_none (by rw [hl]; exact h3), List.getElem?_eq_none (by rw [flat_length f n hf, List.length_set]; exact h3)]

/-- A tower, and the places of its slices. -/
structure Tw where
  h : Int
  cells : List Int
  words : List Int
  gone : Bool
structure Ts where
  ca : Option Addr
  cc : Nat
  wa : Option Addr
  wc : Nat
def Tw.row (t : Tw) (q : Ts) : List Value := [.int .i64 t.h, .slice q.ca t.cells.length q.cc, .slice q.wa t.words.length q.wc, .bool t.gone]
def Tw.v (t : Tw) (q : Ts) : Value := .agg #[.int .i64 t.h, .slice q.ca t.cells.length q.cc, .slice q.wa t.words.length q.wc, .bool t.gone]
theorem Tw.row_one (t : Tw) (q : Ts) : ∀ v ∈ t.row q, v.oneCell' = true := by
  intro v hv
  simp only [Tw.row, List.mem_cons, List.not_mem_nil, or_false] at hv
  rcases hv with rfl | rfl | rfl | rfl <;> rfl
def trow (x : Tw × Ts) : List Value := x.1.row x.2
def trows (l : List (Tw × Ts)) : List Value := l.flatMap trow
theorem trow_len (x : Tw × Ts) : (trow x).length = 4 := rfl
structure TAt (w : World) (t : Tw) (q : Ts) : Prop where
  cs : RowAt w q.ca (ints t.cells)
  ws : RowAt w q.wa (ints t.words)
  cf : t.cells.length ≤ 1000000
  wf : t.words.length ≤ 1000000
theorem TAt.later {w w1 : World} {t : Tw} {q : Ts} (h : TAt w t q) (hb : Below w.heap.size w w1) : TAt w1 t q := ⟨h.cs.later hb, h.ws.later hb, h.cf, h.wf⟩
structure TFar (g : Option Nat) (t : Tw) (q : Ts) : Prop where
  ca : Far g q.ca t.cells.length
  wa : Far g q.wa t.words.length
theorem TAt.same {w w1 : World} {g : Option Nat} {t : Tw} {q : Ts} (h : TAt w t q) (hf : TFar g t q) (hs : w.heap.size ≤ w1.heap.size) (hb : ∀ j, j < w.heap.size → g ≠ some j → w1.heap[j]? = w.heap[j]?) : TAt w1 t q :=
  ⟨h.cs.same hf.ca (fun e => by rw [len0 e]; rfl) hs hb, h.ws.same hf.wa (fun e => by rw [len0 e]; rfl) hs hb, h.cf, h.wf⟩
theorem TAt.far {w : World} {t : Tw} {q : Ts} (h : TAt w t q) {b : Nat} (hb : w.heap.size ≤ b) : TFar (some b) t q :=
  ⟨h.cs.far hb (fun e => by simpa [ints] using e), h.ws.far hb (fun e => by simpa [ints] using e)⟩
/-- A row of towers in memory. -/
structure TRow (w : World) (a : Option Addr) (l : List (Tw × Ts)) : Prop where
  row : RowAt w a (trows l)
  lk : ∀ x, x ∈ l → TAt w x.1 x.2
  few : l.length ≤ 200000
theorem TRow.later {w w1 : World} {a : Option Addr} {l : List (Tw × Ts)} (h : TRow w a l) (hb : Below w.heap.size w w1) : TRow w1 a l :=
  ⟨h.row.later hb, fun x hx => (h.lk x hx).later hb, h.few⟩
theorem TRow.at_ {w : World} {a : Option Addr} {l : List (Tw × Ts)} (h : TRow w a l) {i : Nat} {x : Tw × Ts} (hx : l[i]? = some x) : ∃ g o, a = some ⟨g, o, none⟩ ∧ g < w.heap.size ∧ w.rangeAt g (o + i * 4) (x.1.row x.2) :=
  RowAt.part (f := trow) (n := 4) trow_len (by decide) h.row hx
theorem at_28 (g o n cp k : Nat) (h : k < n) (w : World) : (Instr.indexAt 28 (.slice (some ⟨g, o, none⟩) n cp) (.int .i64 (k : Int))).run Try.prog w = .ok (.pointer (some ⟨g, o + k * 4, none⟩)) w := by
  have h1 : (k : Int) < (n : Int) := by omega
  go_simp
def tw0 : Tw × Ts := (⟨0, [], [], false⟩, ⟨none, 0, none, 0⟩)
theorem info57 : (Try.prog.info? 57).map (fun i => (i.zero, i.size, i.bytes)) = some (some (.agg #[.int .i64 0, .slice none 0 0, .slice none 0 0, .bool false]), 4, 64) := by kernel_rfl
theorem made_trows (n : Nat) : (madeCells (Value.agg #[.int .i64 0, .slice none 0 0, .slice none 0 0, .bool false]).cells (n * 4)).toList = trows (List.replicate n tw0) := by
  have e : (Value.agg #[.int .i64 0, .slice none 0 0, .slice none 0 0, .bool false]).cells = #[.int .i64 0, .slice none 0 0, .slice none 0 0, .bool false] := rfl
  rw [e]
  have hl : (trows (List.replicate n tw0)).length = n * 4 := by unfold trows; rw [flat_length trow 4 trow_len, List.length_replicate]
  apply List.ext_getElem?
  intro j
  by_cases hj : j < n * 4
  · have hk : (List.replicate n tw0)[j / 4]? = some tw0 := by rw [List.getElem?_replicate, if_pos (by omega)]
    have hm : (madeCells #[Value.int .i64 0, .slice none 0 0, .slice none 0 0, .bool false] (n * 4)).toList[j]? = some (#[Value.int .i64 0, .slice none 0 0, .slice none 0 0, .bool false][j % 4]!) := by
      simp [madeCells, hj]
    rw [hm]
    have hr : j % 4 < 4 := Nat.mod_lt _ (by decide)
    have hjj : j = j / 4 * 4 + j % 4 := by omega
    have hg := flat_get trow 4 trow_len hk (j % 4)
    rw [← hjj] at hg
    generalize j % 4 = r at *
    match r, hr with
    | 0, _ => exact (hg _ rfl).symm
    | 1, _ => exact (hg _ rfl).symm
    | 2, _ => exact (hg _ rfl).symm
    | 3, _ => exact (hg _ rfl).symm
  · rw [List.getElem?_eq_none (show (trows (List.replicate n tw0)).length ≤ j by omega)]
    exact List.getElem?_eq_none (by simp [madeCells]; omega)
theorem made_towers (w : World) (n : Nat) (hn : n ≤ 1000000) : ∃ W, (Instr.makeSlice 28 (.int .i64 (n : Int)) (.int .i64 (n : Int))).run Try.prog w = .ok (.slice (some ⟨w.heap.size, 0, none⟩) n n) W ∧ Hid (W.ownsRow w.heap.size 57 4 (.slice (some ⟨w.heap.size, 0, none⟩) n n) n (trows (List.replicate n tw0))) ∧ Hid (Below w.heap.size w W) := by
  obtain ⟨i0, hi, hz0, hz1, hz2⟩ := info_parts info57
  obtain ⟨W, h1, h2, h3⟩ := run_make_full (P := Try.prog) w w.heap.size 28 57 i0 _ 4 Try.underlying28 hi hz0 hz1 .i64 .i64 n (by rw [hz2]; omega) (by unfold maxLen; omega) (Nat.le_refl _)
  rw [made_trows] at h2
  exact ⟨W, h1, Lib.hid h2, Lib.hid ((Below.refl _ _).grown h3 (Nat.le_refl _) (fun k hk => by cases hk))⟩

def FC (l : List Int) : Fact := fun v lo _ W => ∃ ad cap, v = .slice ad l.length cap ∧ RowAt W ad (ints l) ∧ (l = [] ∨ ∀ x, ad = some x → lo ≤ x.block)
theorem fc_st (l : List Int) : Stays (FC l) := fun _ _ _ _ _ h hb => by
  obtain ⟨a, c, e, h, h2⟩ := h
  exact ⟨a, c, e, h.later hb, h2⟩
theorem fc_clone (w : World) (ad : Option Addr) (cap : Nat) (l : List Int) (hl : l.length ≤ 1000000) (h : RowAt w ad (ints l)) :
    Calls Try.prog 49 #[.slice ad l.length cap] w fun e w' => ∃ u, e = .returned u ∧ Below w.heap.size w w' ∧ FC l u w.heap.size w'.heap.size w' := by
  refine (clone_any w ad cap l hl h).mono ?_
  rintro e w' ⟨⟨a', c', rfl, -, h2⟩, hb⟩
  exact ⟨_, rfl, hb, a', c', rfl, h2.row⟩
theorem own_there {w : World} {base size n g cap : Nat} {e : TypeId} {xs : List Value} (h : w.ownsRow base e size (.slice (some ⟨g, 0, none⟩) n cap) n xs) {o m : Nat} (hm : o + m ≤ n * size) : w.there g o m := fun j hj => by
  refine ⟨?_, h.frozenAt _⟩
  rw [h.cellAt (o + j) (by omega), List.getElem?_eq_getElem (by rw [h.1]; omega)]
  rfl
/-- A tower of a row is stored. -/
theorem tower_store {w : World} {base n g cap : Nat} {tl : List (Tw × Ts)} (h : w.ownsRow base 57 4 (.slice (some ⟨g, 0, none⟩) n cap) n (trows tl)) (hl : tl.length = n) {j : Nat} (hj : j < n) (t : Tw) (q : Ts) :
    (Instr.storeAt 57 (.pointer (some ⟨g, j * 4, none⟩)) (t.v q)).run Try.prog w = .ok () (w.setCells g (j * 4) (t.row q)) ∧ (w.setCells g (j * 4) (t.row q)).ownsRow base 57 4 (.slice (some ⟨g, 0, none⟩) n cap) n (trows (tl.set j (t, q))) ∧ But g w (w.setCells g (j * 4) (t.row q)) := by
  refine ⟨?_, ?_, But.sput w g _ _⟩
  · have := run_storeAt_mid (P := Try.prog) w g (j * 4) 57 (t.row q).toArray (own_there h (by show j * 4 + 4 ≤ n * 4; omega)) sh57.size (all_oneCell_toArray (t.row_one q))
    exact this
  · have := own_put (t.row q) (trows tl) (j * 4) w h
    have e := putAt_flat trow 4 trow_len (by decide) tl j (by omega) (t, q)
    unfold trows at this ⊢
    rw [← e]
    exact this
/-- Behind the region that makes a tower. -/
def P5 (w2 : World) (base n g cap j : Nat) (tl : List (Tw × Ts)) (t : Tw) (_ : Nat → Value) (W : World) : Prop := ∃ q, But g w2 W ∧ W.ownsRow base 57 4 (.slice (some ⟨g, 0, none⟩) n cap) n (trows (tl.set j (t, q))) ∧ TAt W t q ∧ TFar (some g) t q
section
variable {w2 W : World} {bs : List Bool} {β : Nat → Value}
theorem far_lo {a : Option Addr} {l : List Int} {lo g : Nat} (h : l = [] ∨ ∀ x, a = some x → lo ≤ x.block) (hg : g < lo) : Far (some g) a l.length := by
  rcases h with e | h
  · exact .inl (by rw [e]; rfl)
  · exact far_of h hg
theorem p5_last {base n g cap j : Nat} {tl : List (Tw × Ts)} {x : Vw} (hS : SGL w2 [(7, FC x.nd.nx), (10, FC x.links)] 2 (P5 w2 base n g cap j tl ⟨x.h, x.nd.nx, x.links, false⟩) bs β W) (b2 : bs[2]? = some false) (b0 : bs[0]? = some true) (b1 : bs[1]? = some true)
    (hown : w2.ownsRow base 57 4 (.slice (some ⟨g, 0, none⟩) n cap) n (trows tl)) (hl : tl.length = n) (hj : j < n) (hnx : x.nd.nx.length ≤ 1000000) (hlk : x.links.length ≤ 1000000) {v : Value} (hv : ∀ a c a' c', β 7 = .slice a x.nd.nx.length c → β 10 = .slice a' x.links.length c' → v = .agg #[.int .i64 x.h, .slice a x.nd.nx.length c, .slice a' x.links.length c', .bool false]) :
    ∃ w', (Instr.storeAt 57 (.pointer (some ⟨g, j * 4, none⟩)) v).run Try.prog W = .ok () w' ∧ SGL w2 [(7, FC x.nd.nx), (10, FC x.links)] 2 (P5 w2 base n g cap j tl ⟨x.h, x.nd.nx, x.links, false⟩) (bs.set 2 true) β w' := by
  obtain ⟨iv, h⟩ := hS.pre b2
  obtain ⟨ca, cc, e1, hr1, hf1⟩ := h.at_ 0 7 _ rfl b0
  obtain ⟨wa, wc, e2, hr2, hf2⟩ := h.at_ 1 10 _ rfl b1
  have l0 := h.lo 0 (by simp) b0
  have l1 := h.lo 1 (by simp) b1
  have hg := (World.ownsRow.lt hown g rfl).2
  obtain ⟨h1, h2, h3⟩ := tower_store (own_later hown h.bel) hl hj ⟨x.h, x.nd.nx, x.links, false⟩ ⟨ca, cc, wa, wc⟩
  have f1 : Far (some g) ca x.nd.nx.length := far_lo hf1 (by omega)
  have f2 : Far (some g) wa x.links.length := far_lo hf2 (by omega)
  have hb : ∀ k, k < W.heap.size → some g ≠ some k → (W.setCells g (j * 4) ((Tw.mk x.h x.nd.nx x.links false).row ⟨ca, cc, wa, wc⟩)).heap[k]? = W.heap[k]? := fun k hk hne => h3.block k hk fun e => hne (by rw [e])
  refine ⟨_, ?_, SGL.last b2 ⟨⟨ca, cc, wa, wc⟩, (But.of h.bel).trans h3, h2, ⟨?_, ?_, hnx, hlk⟩, ⟨f1, f2⟩⟩⟩
  · rw [hv _ _ _ _ e1 e2]; exact h1
  · exact hr1.same (n := x.nd.nx.length) f1 (fun e => by rw [len0 e]; rfl) h3.size hb
  · exact hr2.same (n := x.links.length) f2 (fun e => by rw [len0 e]; rfl) h3.size hb
end
end Go.Proofs.Ytjlifkhpohfiaaa
