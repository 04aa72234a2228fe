/- What asks come to where a handle leads to no age, or no node; that memory holds nothing but what is known. No condition. -/
import Derived.Test.YtbcpdkmbbgcfbaaDoorFb
namespace Go.Proofs.YtbcpdkmbbgcfbaaDoor
open Go.RowKit Go.Op
set_option maxRecDepth 100000

theorem only_count : ∀ (ps : List Nat) (cs : List Cl), ps.Nodup → (∀ p, p ∈ ps → ∃ x, cs[p]? = some x ∧ x.held.busy = true) → ps.length ≤ cs.countP fun x => x.held.busy
  | [], _, _, _ => Nat.zero_le _
  | p :: ps, cs, hn, h => by
    obtain ⟨x, hx, hb⟩ := h p List.mem_cons_self
    have h1 := countP_set (y := { x with held := .no }) hx
    rw [if_pos hb, if_neg (by simp [Held.busy])] at h1
    have h2 := only_count ps (cs.set p { x with held := .no }) (List.nodup_cons.1 hn).2 (fun q hq => by
      obtain ⟨z, hz, hzb⟩ := h q (List.mem_cons_of_mem _ hq)
      exact ⟨z, (List.getElem?_set_ne (fun e : p = q => (List.nodup_cons.1 hn).1 (e.symm ▸ hq))).trans hz, hzb⟩)
    simp only [List.length_cons]
    omega
theorem Tidy.count {g : Int} {m : M} (ht : Tidy g m) (L : List Int) (hn : L.Nodup) (hl : ∀ k, k ∈ L → m.look k ≠ none) : (L.length : Int) ≤ m.live := by
  have h := only_count (L.map fun k => (k % 65536 - 1).toNat) m.cells (List.pairwise_map.2 (List.Pairwise.imp_of_mem (fun {a b} ha hb hne e => hne (by
    obtain ⟨x, hx⟩ := Option.ne_none_iff_exists'.1 (hl a ha)
    obtain ⟨y, hy⟩ := Option.ne_none_iff_exists'.1 (hl b hb)
    obtain ⟨p, u, _, _, h3, _, h5, h6, _⟩ := look_some hx
    obtain ⟨q, v, _, _, k3, _, k5, k6, _⟩ := look_some hy
    obtain rfl : p = q := by omega
    rw [h3] at k3
    cases k3
    omega)) hn)) (fun p hp => by
    obtain ⟨k, hk, rfl⟩ := List.mem_map.1 hp
    obtain ⟨x, hx⟩ := Option.ne_none_iff_exists'.1 (hl k hk)
    obtain ⟨p, u, _, _, h3, h4, h5, _, _⟩ := look_some hx
    exact ⟨u, by rw [show (k % 65536 - 1).toNat = p by omega]; exact h3, h4⟩)
  rw [List.length_map] at h
  rw [ht.liv]
  exact Int.ofNat_le.2 h
/-- Nothing else is there. -/
theorem Tidy.only {g : Int} {m : M} (ht : Tidy g m) (L : List Int) (hn : L.Nodup) (hl : ∀ k, k ∈ L → m.look k ≠ none) (hc : m.live ≤ (L.length : Int)) (k : Int) (hk : k ∉ L) : m.look k = none := by
  by_cases h : m.look k = none
  · exact h
  · have := ht.count (k :: L) (List.nodup_cons.2 ⟨hk, hn⟩) (fun j hj => by
      rcases List.mem_cons.1 hj with rfl | hj
      · exact h
      · exact hl j hj)
    simp only [List.length_cons] at this
    omega
theorem look_zero (m : M) : m.look 0 = none := look_none (by
  rintro ⟨p, y, h, h2, -⟩
  omega)
theorem look_load_none {m : M} {h : Int} (hl : m.look h = none) : m.load h = (m.miss, .no, 5) := by
  unfold M.look at hl
  cases ha : m.at h with
  | none => simp only [M.load, ha]
  | some p => rw [ha] at hl; cases hl
theorem look_load_word {m : M} {h x : Int} (hl : m.look h = some (.word x)) : m.load h = (m.ask, .no, 6) := by
  obtain ⟨p, y, h1, h2, -⟩ := look_some hl
  simp only [M.load, h1, h2]
theorem look_word_none {m : M} {h : Int} (hl : m.look h = none) : m.word h = (m.miss, 0, 5) := by
  unfold M.look at hl
  cases ha : m.at h with
  | none => simp only [M.word, ha]
  | some p => rw [ha] at hl; cases hl
theorem look_word_blk {m : M} {h : Int} {d : Dat} {pl : Pl} (hl : m.look h = some (.blk d pl)) : m.word h = (m.ask, 0, 6) := by
  obtain ⟨p, y, h1, h2, -⟩ := look_some hl
  simp only [M.word, h1, h2]
theorem AskN.miss (m : M) : AskN m m.miss 1 := ⟨rfl, rfl, by show m.count ≤ m.count + 1; omega, by show m.count + 1 ≤ m.count + 1; omega⟩
theorem take_node {m : M} {h hd : Int} {low : ByteArray} {nx : List Int} {pl : Pl} (hl : m.look h = some (.blk (.node low hd nx) pl)) : (takeP h).go m = ((ag0, 6), m.ask) := by
  simp [takeP, Pr.go, Qn.on, look_load hl, heldA]
theorem load_age {m : M} {h p : Int} {r : Rv} {pl : Pl} (hl : m.look h = some (.blk (.age r p) pl)) : (loadP h).go m = ((nd0, 6), m.ask) := by
  simp [loadP, Pr.go, Qn.on, look_load hl, heldN]
theorem load_word {m : M} {h x : Int} (hl : m.look h = some (.word x)) : (loadP h).go m = ((nd0, 6), m.ask) := by
  simp [loadP, Pr.go, Qn.on, look_load_word hl, heldN]
theorem word_blk {m : M} {h : Int} {d : Dat} {pl : Pl} (hl : m.look h = some (.blk d pl)) : (wordP h).go m = ((0, 6), m.ask) := by
  simp [wordP, Pr.go, Qn.on, look_word_blk hl]
theorem word_none {m : M} {h : Int} (hl : m.look h = none) : (wordP h).go m = ((0, 5), m.miss) := by
  simp [wordP, Pr.go, Qn.on, look_word_none hl]
theorem fell_node {m : M} {h hd : Int} {low : ByteArray} {nx : List Int} {pl : Pl} (h0 : h ≠ 0) (hl : m.look h = some (.blk (.node low hd nx) pl)) : (fellP 40 h).go m = (some ([], 6), m.ask) := by
  rw [fellP, if_neg h0, Pr.go_bind, chainP, Pr.go_bind, take_node hl]
  simp [fellF, Pr.go]
theorem up_blk {m : M} {h v : Int} {d : Dat} {pl : Pl} (hl : m.look h = some (.blk d pl)) : (upP 40 h v).go m = (some (sp0, 6), m.ask) := by
  rw [upP, Pr.go_bind, word_blk hl]
  simp [Pr.go]
theorem up_none {m : M} {h v : Int} (hl : m.look h = none) : (upP 40 h v).go m = (some (sp0, 5), m.miss) := by
  rw [upP, Pr.go_bind, word_none hl]
  simp [Pr.go]
theorem cut_none {m : M} {h v : Int} (hl : m.look h = none) : (cutP 40 h v).go m = (some ([], 5), m.miss) := by
  rw [cutP, Pr.go_bind, up_none hl]
  simp only
  rw [cutQ_err (by decide)]
  rfl
theorem lift_node {m : M} {h hd : Int} {low : ByteArray} {nx : List Int} {pl : Pl} (hl : m.look h = some (.blk (.node low hd nx) pl)) : (liftP h).go m = (6, m.ask) := by
  rw [liftP, Pr.go_bind, take_node hl]
  simp [Pr.go]
theorem undo_age {m : M} {h p : Int} {r : Rv} {pl : Pl} (hl : m.look h = some (.blk (.age r p) pl)) : (undoNP h).go m = (6, m.ask) := by
  rw [undoNP, Pr.go_bind, load_age hl]
  simp [Pr.go]
/-- What is taken of whatever handle. -/
theorem take_any (m : M) (h : Int) : ∃ ag e m', (takeP h).go m = ((ag, e), m') ∧ AskN m m' 1 ∧ ((∀ r p pl, m.look h ≠ some (.blk (.age r p) pl)) → e = 5 ∨ e = 6) := by
  cases hl : m.look h with
  | none => exact ⟨ag0, 5, m.miss, by simp [takeP, Pr.go, Qn.on, look_load_none hl, heldA], AskN.miss m, fun _ => .inl rfl⟩
  | some x =>
    obtain ⟨p, y, h1, h2, -⟩ := look_some hl
    cases x with
    | no => exact ⟨ag0, 6, m.ask, by simp [takeP, Pr.go, Qn.on, M.load, h1, h2, heldA], AskN.ask m, fun _ => .inr rfl⟩
    | word n => exact ⟨ag0, 6, m.ask, by simp [takeP, Pr.go, Qn.on, M.load, h1, h2, heldA], AskN.ask m, fun _ => .inr rfl⟩
    | blk d pl =>
      cases d with
      | age r pv => exact ⟨⟨r, pv⟩, 0, m.ask, takeA_go hl, AskN.ask m, fun hn => absurd rfl (hn r pv pl)⟩
      | node low hd nx => exact ⟨ag0, 6, m.ask, take_node hl, AskN.ask m, fun _ => .inr rfl⟩
/-- A handle of no age of a yard. -/
theorem YM.raw {m : M} {H hd p1 p2 : Int} {l : List (Int × Rv × Int)} (h : YM m H hd p1 p2 l) (k : Int) (hk : ∀ x, x ∈ l → k ≠ x.1) : ∀ r p pl, m.look k ≠ some (.blk (.age r p) pl) := fun r p pl e => by
  by_cases hm : k ∈ (H :: hd :: p1 :: p2 :: Go.Proofs.YtbcpdkmbbgcfbaaDoor.flat l)
  · simp only [List.mem_cons] at hm
    rcases hm with rfl | rfl | rfl | rfl | hm
    · rw [h.node] at e; cases e
    · rw [h.word] at e; cases e
    · rw [h.w1] at e; cases e
    · rw [h.w2] at e; cases e
    · obtain ⟨x, hx, rfl | rfl⟩ := flat_mem.1 hm
      · exact hk x hx rfl
      · obtain ⟨j, hj⟩ := (h.ch.age x hx).2
        rw [hj] at e; cases e
  · have := h.tidy.only _ h.nd (fun j hj => by
      simp only [List.mem_cons] at hj
      rcases hj with rfl | rfl | rfl | rfl | hj
      · rw [h.node]; simp
      · rw [h.word]; simp
      · rw [h.w1]; simp
      · rw [h.w2]; simp
      · obtain ⟨x, hx, rfl | rfl⟩ := flat_mem.1 hj
        · rw [(h.ch.age x hx).1]; simp
        · rw [(h.ch.age x hx).2.choose_spec]; simp) (by rw [h.live]; simp only [List.length_cons, flat_length]; omega) k hm
    rw [this] at e
    cases e
end Go.Proofs.YtbcpdkmbbgcfbaaDoor
