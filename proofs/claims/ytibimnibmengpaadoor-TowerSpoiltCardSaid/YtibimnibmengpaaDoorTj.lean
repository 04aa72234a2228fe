/- Rows of nodes in memory, and what a quiet port makes of them: Next, Search, Look, Walk; what lay makes of memory. No condition. -/
import Derived.Test.YtibimnibmengpaaDoorTi
namespace Go.Proofs.YtibimnibmengpaaDoor
open Go.RowKit Go.Op
set_option maxRecDepth 100000

/-- What lay, with room enough, makes of memory. -/
structure LaidW (m : M) (g : Int) (x : Held) (ws : List Int) (h : Int) (cs : List Int) (m' : M) : Prop where
  len : cs.length = ws.length
  nd : (h :: cs).Nodup
  free : ∀ k, k ∈ h :: cs → m.look k = none
  at_ : m'.look h = some x
  words : ∀ (i : Nat) (c y : Int), cs[i]? = some c → ws[i]? = some y → m'.look c = some (.word y)
  other : ∀ k, k ∉ h :: cs → m'.look k = m.look k
  tidy : Tidy g m'
  live : m'.live = m.live + (ws.length : Int) + 1
  size : m'.cells.length = m.cells.length
  cnt : m'.count = m.count + (ws.length : Int) + 1
  nz : h ≠ 0
theorem layW_yes (mk : List Int → Dat) : ∀ (ws done : List Int) {g : Int} {m : M}, Tidy g m → g ≤ 16000 → m.live + (ws.length : Int) + 1 ≤ (m.cells.length : Int) → m.cells.length ≤ 65535 →
    ∃ h cs m', (layW mk done ws).go m = ((h, 0), m') ∧ LaidW m g (.blk (mk (done ++ cs)) .nil) ws h cs m'
  | [], done, g, m, ht, hg, hl, hlen => by
    simp only [List.length_nil] at hl
    obtain ⟨h, m1, e1, a1, a2, a3, a4, a5, a6, a7⟩ := alloc_go ht hg (by omega) hlen (.blk (mk done) .nil) rfl
    refine ⟨h, [], m1, ?_, rfl, by simp, fun k hk => ?_, by rw [a3, if_pos rfl, List.append_nil], fun i c y hc => by simp at hc, fun k hk => ?_, a4, by simp; omega, a6, by simp; omega, a2⟩
    · rw [layW_nil]
      simp only [Pr.go, e1, if_true]
    · simp only [List.mem_cons, List.not_mem_nil, or_false] at hk
      rw [hk]; exact a1
    · simp only [List.mem_cons, List.not_mem_nil, or_false] at hk
      rw [a3, if_neg hk]
  | w :: ws, done, g, m, ht, hg, hl, hlen => by
    simp only [List.length_cons] at hl
    obtain ⟨c, m1, e1, a1, a2, a3, a4, a5, a6, a7⟩ := alloc_go ht hg (by omega) hlen (.word w) rfl
    obtain ⟨h, cs, m2, e2, b⟩ := layW_yes mk ws (done ++ [c]) a4 hg (by omega) (by omega)
    have hc : m1.look c = some (.word w) := by rw [a3, if_pos rfl]
    have hnc : c ∉ h :: cs := fun e => by rw [b.free c e] at hc; cases hc
    have hne : ∀ k, k ∈ h :: cs → k ≠ c := fun k hk e => hnc (e ▸ hk)
    have hnc2 : c ≠ h ∧ c ∉ cs := ⟨fun e => hnc (by rw [e]; exact List.mem_cons_self), fun e => hnc (List.mem_cons_of_mem _ e)⟩
    have hnd := List.nodup_cons.1 b.nd
    refine ⟨h, c :: cs, m2, ?_, by simp only [List.length_cons]; rw [b.len], ?_, fun k hk => ?_, ?_, fun i d y hd hy => ?_, fun k hk => ?_, b.tidy, by rw [b.live, a5]; simp only [List.length_cons]; omega, by rw [b.size, a6], by rw [b.cnt, a7]; simp only [List.length_cons]; omega, b.nz⟩
    · rw [layW_cons]
      simp only [Pr.go, e1, if_true]
      exact e2
    · refine List.nodup_cons.2 ⟨fun e => ?_, List.nodup_cons.2 ⟨hnc2.2, hnd.2⟩⟩
      rcases List.mem_cons.1 e with e | e
      · exact hnc2.1 e.symm
      · exact hnd.1 e
    · have hk2 : k = c ∨ k ∈ h :: cs := by
        simp only [List.mem_cons] at hk ⊢
        rcases hk with e | e | e
        · exact .inr (.inl e)
        · exact .inl e
        · exact .inr (.inr e)
      rcases hk2 with rfl | hk2
      · exact a1
      · have := b.free k hk2
        rwa [a3, if_neg (hne k hk2)] at this
    · rw [b.at_, List.append_assoc]; rfl
    · cases i with
      | zero =>
        simp at hd hy
        subst hd hy
        rw [b.other _ hnc, hc]
      | succ i => exact b.words i d y (by simpa using hd) (by simpa using hy)
    · have hk2 : k ≠ c ∧ k ∉ h :: cs := by
        simp only [List.mem_cons, not_or] at hk ⊢
        exact ⟨hk.2.1, hk.1, hk.2.2⟩
      rw [b.other k hk2.2, a3, if_neg hk2.1]
/-- A node in memory, with its one age; what its links hold. -/
structure Nod where
  h : Int
  nd : Nd
  links : List Int
  ag : Int
  pv : Int
  rv : Rv
def Nod.vw (x : Nod) : Vw := ⟨x.h, x.nd, x.links, x.ag, x.rv⟩
structure NodAt (m : M) (x : Nod) : Prop where
  node : m.look x.h = some (.blk (.node x.nd.low x.nd.head x.nd.nx) .nil)
  head : m.look x.nd.head = some (.word x.ag)
  len : x.nd.nx.length = x.links.length
  lk : ∀ (k : Nat) (c y : Int), x.nd.nx[k]? = some c → x.links[k]? = some y → m.look c = some (.word y)
  age : m.look x.ag = some (.blk (.age x.rv x.pv) .nil)
  prev : m.look x.pv = some (.word 0)
  nz : x.ag ≠ 0
  ver : x.rv.ver ≤ 1000000
  few : x.links.length ≤ 1000
theorem NodAt.isH {m : M} {x : Nod} (h : NodAt m x) : isH x.h = true := by
  obtain ⟨p, y, -, -, -, -, -, -, h8⟩ := look_some h.node
  exact h8
theorem NodAt.hne {m : M} {x : Nod} (h : NodAt m x) : x.h ≠ 0 := by
  have := isH_in h.isH
  omega
theorem NodAt.mono {m m' : M} {x : Nod} (h : NodAt m x) (hl : ∀ k, m.look k ≠ none → m'.look k = m.look k) : NodAt m' x := by
  have q : ∀ {k : Int} {y : Held}, m.look k = some y → m'.look k = some y := fun {k y} e => (hl k (by rw [e]; simp)).trans e
  exact ⟨q h.node, q h.head, h.len, fun k c y h1 h2 => q (h.lk k c y h1 h2), q h.age, q h.prev, h.nz, h.ver, h.few⟩
theorem NodAt.asked {m m' : M} {n : Int} {x : Nod} (h : NodAt m x) (ha : AskN m m' n) : NodAt m' x := h.mono fun k _ => ha.look k
theorem load_nod {m : M} {x : Nod} (h : NodAt m x) : (loadP x.h).go m = ((x.nd, 0), m.ask) := node_go h.node
theorem next_go {m : M} {x : Nod} (h : NodAt m x) {k : Nat} {y : Int} (hy : x.links[k]? = some y) : (nextP x.nd (k : Int)).go m = ((tto y, 0), m.ask) := by
  have hk := (List.getElem?_eq_some_iff.1 hy).1
  have hk2 : k < x.nd.nx.length := by rw [h.len]; exact hk
  obtain ⟨c, hc⟩ : ∃ c, x.nd.nx[k]? = some c := ⟨_, List.getElem?_eq_getElem hk2⟩
  have hcd : x.nd.nx.getD k 0 = c := by rw [List.getD_eq_getElem?_getD, hc]; rfl
  rw [nextP, if_pos ⟨by omega, by omega⟩, Int.toNat_natCast, hcd]
  simp only [Pr.go, Qn.on, look_word (h.lk k c y hc hy), if_true]
theorem onward_no {m : M} {x : Nod} (h : NodAt m x) {k : Nat} {y : Int} (hy : x.links[k]? = some y) (h0 : tto y = 0) (t : ByteArray) : (onwardP x.nd (k : Int) t).go m = ((0, nd0, 0), m.ask) := by
  rw [onwardP, Pr.go_bind, next_go h hy, h0]
  rfl
theorem onward_to {m : M} {x z : Nod} (h : NodAt m x) (hz : NodAt m z) {k : Nat} {y : Int} (hy : x.links[k]? = some y) (h0 : tto y = z.h) (t : ByteArray) : (onwardP x.nd (k : Int) t).go m = (if lt t z.nd.low = false then (z.h, z.nd, 0) else (0, nd0, 0), m.ask.ask) := by
  rw [onwardP, Pr.go_bind, next_go h hy, h0]
  simp only
  rw [if_pos ⟨trivial, hz.hne⟩, Pr.go_bind, load_nod (hz.asked (AskN.ask m))]
  simp only [Pr.go, onF, true_and]
/-- Whom the rest of a row has to lead to. -/
def toN (lv : Int) : List Nod → Int
  | [] => 0
  | x :: l => if lv < (x.links.length : Int) then x.h else toN lv l
theorem toN_spec (lv : Int) : ∀ l : List Nod, (toN lv l = 0 ∧ ∀ x, x ∈ l → ¬ lv < (x.links.length : Int)) ∨ ∃ (j : Nat) (x : Nod), l[j]? = some x ∧ lv < (x.links.length : Int) ∧ toN lv l = x.h ∧ ∀ (k : Nat) (y : Nod), k < j → l[k]? = some y → ¬ lv < (y.links.length : Int)
  | [] => .inl ⟨rfl, fun x hx => by cases hx⟩
  | y :: l => by
    by_cases hv : lv < (y.links.length : Int)
    · exact .inr ⟨0, y, rfl, hv, by rw [toN, if_pos hv], fun k y hk => absurd hk (Nat.not_lt_zero _)⟩
    · rcases toN_spec lv l with ⟨h1, h2⟩ | ⟨j, x, h1, h2, h3, h4⟩
      · refine .inl ⟨by rw [toN, if_neg hv, h1], fun x hx => ?_⟩
        rcases List.mem_cons.1 hx with rfl | hx
        · exact hv
        · exact h2 x hx
      · refine .inr ⟨j + 1, x, by simpa using h1, h2, by rw [toN, if_neg hv, h3], fun k z hk hz => ?_⟩
        cases k with
        | zero => simp at hz; subst hz; exact hv
        | succ k => exact h4 k z (by omega) (by simpa using hz)
/-- A row of nodes that is right. -/
structure RowOk (m : M) (l : List Nod) : Prop where
  nod : ∀ x, x ∈ l → NodAt m x
  to_ : ∀ (i : Nat) (x : Nod) (k : Nat) (y : Int), l[i]? = some x → x.links[k]? = some y → tto y = toN (k : Int) (l.drop (i + 1))
  pos : ∀ x, x ∈ l → x.links ≠ []
theorem RowOk.asked {m m' : M} {n : Int} {l : List Nod} (h : RowOk m l) (ha : AskN m m' n) : RowOk m' l := ⟨fun x hx => (h.nod x hx).asked ha, h.to_, h.pos⟩
theorem goP_go (t : ByteArray) {l : List Nod} : ∀ (f : Nat) (m : M) (i : Nat) (x : Nod) (L : Nat), RowOk m l → l[i]? = some x → lt t x.nd.low = false → L ≤ x.links.length → (L = 0 → ∀ y, l[i + 1]? = some y → lt t y.nd.low = true) → (l.length - 1 - i) + L + 1 ≤ f →
    ∃ j z m', l[j]? = some z ∧ i ≤ j ∧ lt t z.nd.low = false ∧ (∀ y, l[j + 1]? = some y → lt t y.nd.low = true) ∧ (goP t f x.h x.nd ((L : Int) - 1)).go m = (some (z.h, z.nd, 0), m') ∧ AskN m m' (2 * (((l.length - 1 - i) + L : Nat) : Int))
  | 0, _, _, _, _, _, _, _, _, _, hf => by omega
  | f + 1, m, i, x, L, hR, hx, hlow, hL, hnx, hf => by
    have hx2 := hR.nod x (List.mem_of_getElem? hx)
    have hi := (List.getElem?_eq_some_iff.1 hx).1
    cases L with
    | zero =>
      refine ⟨i, x, m, hx, Nat.le_refl _, hlow, hnx rfl, ?_, (AskN.refl m).le (by omega)⟩
      rw [goP, if_neg (by omega)]
      rfl
    | succ L =>
      obtain ⟨y, hy⟩ : ∃ y, x.links[L]? = some y := ⟨_, List.getElem?_eq_getElem (by omega)⟩
      have hlv : ((L + 1 : Nat) : Int) - 1 = (L : Int) := by omega
      rw [hlv]
      have hto := hR.to_ i x L y hx hy
      rcases toN_spec (L : Int) (l.drop (i + 1)) with ⟨h1, h2⟩ | ⟨j, z, h1, h2, h3, h4⟩
      · rw [h1] at hto
        have hdn : L = 0 → ∀ y, l[i + 1]? = some y → lt t y.nd.low = true := fun e y hy => by
          have hm : y ∈ l.drop (i + 1) := List.mem_of_getElem? (i := 0) (by rw [List.getElem?_drop]; exact hy)
          have h5 := h2 y hm
          have h6 := hR.pos y (List.mem_of_getElem? hy)
          have h7 : y.links.length ≠ 0 := fun e => h6 (List.length_eq_zero_iff.1 e)
          omega
        obtain ⟨j, z, m', q1, q2, q3, q4, q5, q6⟩ := goP_go t f m.ask i x L (hR.asked (AskN.ask m)) hx hlow (by omega) hdn (by omega)
        refine ⟨j, z, m', q1, q2, q3, q4, ?_, ((AskN.ask m).trans q6).le (by omega)⟩
        rw [goP, if_pos (by omega), Pr.go_bind, onward_no hx2 hy hto]
        simp only [if_true]
        exact q5
      · rw [h3] at hto
        rw [List.getElem?_drop] at h1
        have hz := hR.nod z (List.mem_of_getElem? h1)
        have hj := (List.getElem?_eq_some_iff.1 h1).1
        cases hlt : lt t z.nd.low with
        | false =>
          obtain ⟨j', z', m', q1, q2, q3, q4, q5, q6⟩ := goP_go t f m.ask.ask (i + 1 + j) z (L + 1) (hR.asked ((AskN.ask m).trans (AskN.ask _))) h1 hlt (by omega) (fun e => by omega) (by omega)
          refine ⟨j', z', m', q1, by omega, q3, q4, ?_, (((AskN.ask m).trans (AskN.ask _)).trans q6).le (by omega)⟩
          rw [goP, if_pos (by omega), Pr.go_bind, onward_to hx2 hz hy hto, if_pos hlt]
          simp only [if_true]
          rw [if_neg hz.hne]
          rw [hlv] at q5
          exact q5
        | true =>
          have hdn : L = 0 → ∀ y, l[i + 1]? = some y → lt t y.nd.low = true := fun e y hy => by
            have h6 := hR.pos y (List.mem_of_getElem? hy)
            have h7 : y.links.length ≠ 0 := fun e => h6 (List.length_eq_zero_iff.1 e)
            have hj0 : j = 0 := by
              apply Classical.byContradiction
              intro hn
              exact h4 0 y (by omega) (by rw [List.getElem?_drop]; exact hy) (by omega)
            rw [hj0] at h1
            rw [Nat.add_zero, hy] at h1
            cases h1
            exact hlt
          obtain ⟨j', z', m', q1, q2, q3, q4, q5, q6⟩ := goP_go t f m.ask.ask i x L (hR.asked ((AskN.ask m).trans (AskN.ask _))) hx hlow (by omega) hdn (by omega)
          refine ⟨j', z', m', q1, q2, q3, q4, ?_, (((AskN.ask m).trans (AskN.ask _)).trans q6).le (by omega)⟩
          have ho := onward_to hx2 hz hy hto t
          rw [if_neg (by rw [hlt]; decide)] at ho
          rw [goP, if_pos (by omega), Pr.go_bind, ho]
          simp only [if_true]
          exact q5
theorem search_go (t : ByteArray) {l : List Nod} {m : M} (hR : RowOk m l) {i : Nat} {x : Nod} (hx : l[i]? = some x) (hlow : lt t x.nd.low = false) (f : Nat) (hf : l.length + x.links.length + 1 ≤ f) :
    ∃ j z m', l[j]? = some z ∧ i ≤ j ∧ lt t z.nd.low = false ∧ (∀ y, l[j + 1]? = some y → lt t y.nd.low = true) ∧ (searchP f x.h t).go m = (some (z.h, z.nd, 0), m') ∧ AskN m m' (2 * (((l.length - 1 - i) + x.links.length : Nat) : Int) + 1) := by
  have hx2 := hR.nod x (List.mem_of_getElem? hx)
  have hp := hR.pos x (List.mem_of_getElem? hx)
  have hl0 : x.links.length ≠ 0 := fun e => hp (List.length_eq_zero_iff.1 e)
  obtain ⟨j, z, m', q1, q2, q3, q4, q5, q6⟩ := goP_go t f m.ask i x x.links.length (hR.asked (AskN.ask m)) hx hlow (Nat.le_refl _) (fun e => absurd e hl0) (by omega)
  refine ⟨j, z, m', q1, q2, q3, q4, ?_, ((AskN.ask m).trans q6).le (by omega)⟩
  rw [searchP, Pr.go_bind, load_nod hx2]
  simp only [if_true]
  rw [if_neg (by rw [hx2.len]; exact hl0), hx2.len]
  exact q5
theorem links_go {m0 : M} {x : Nod} (h : NodAt m0 x) : ∀ (j : Nat) (m : M) (acc : List Int), AskN m0 m ((x.links.length - j : Nat) : Int) → j ≤ x.links.length → ∃ m', (linksP (x.nd.nx.drop (x.links.length - j)) acc).go m = ((acc ++ x.links.drop (x.links.length - j), 0), m') ∧ AskN m0 m' (x.links.length : Int)
  | 0, m, acc, ha, _ => ⟨m, by rw [Nat.sub_zero, ← h.len, List.drop_length, h.len, List.drop_length, List.append_nil]; rfl, ha.le (by omega)⟩
  | j + 1, m, acc, ha, hj => by
    obtain ⟨k, hk⟩ : ∃ k, k = x.links.length - (j + 1) := ⟨_, rfl⟩
    have hk1 : k < x.links.length := by omega
    obtain ⟨y, hy⟩ : ∃ y, x.links[k]? = some y := ⟨_, List.getElem?_eq_getElem hk1⟩
    obtain ⟨c, hc⟩ : ∃ c, x.nd.nx[k]? = some c := ⟨_, List.getElem?_eq_getElem (by rw [h.len]; exact hk1)⟩
    have hkj : x.links.length - j = k + 1 := by omega
    have hd1 : x.nd.nx.drop k = c :: x.nd.nx.drop (k + 1) := by
      have := List.getElem?_eq_some_iff.1 hc
      rw [List.drop_eq_getElem_cons this.1, this.2]
    have hd2 : x.links.drop k = y :: x.links.drop (k + 1) := by
      have := List.getElem?_eq_some_iff.1 hy
      rw [List.drop_eq_getElem_cons this.1, this.2]
    rw [← hk] at ha ⊢
    obtain ⟨m', e1, e2⟩ := links_go h j m.ask (acc ++ [y]) ((ha.trans (AskN.ask m)).le (by omega)) (by omega)
    refine ⟨m', ?_, e2⟩
    rw [hd1, hd2, linksP]
    simp only [Pr.go, Qn.on, look_word ((ha.look c).trans (h.lk k c y hc hy)), if_true]
    rw [hkj] at e1
    rw [e1, List.append_assoc]; rfl
theorem look_go {m : M} {x : Nod} (h : NodAt m x) (n : Nat) (hn : 1 ≤ n) : ∃ m', (lookP n x.h).go m = (some (x.vw, 0), m') ∧ AskN m m' ((x.links.length : Int) + 4) := by
  have ha := AskN.ask m
  obtain ⟨m2, e1, e2⟩ := links_go (h.asked ha) x.links.length m.ask [] ((AskN.refl _).le (by omega)) (Nat.le_refl _)
  rw [Nat.sub_self, List.drop_zero, List.drop_zero, List.nil_append] at e1
  have h2 := (h.asked ha).asked e2
  obtain ⟨m3, e3, e4⟩ := up_go (v := 9223372036854775807) (l := [(x.ag, x.rv, x.pv)]) (n := n) h2.head ⟨rfl, h.nz, h2.age, 0, h2.prev, rfl⟩ (by simp) (by simpa using hn)
  have hf : foundS 9223372036854775807 [(x.ag, x.rv, x.pv)] = (⟨x.ag, ⟨x.rv, x.pv⟩⟩, 0) := by
    rw [foundS, if_pos (by have := h.ver; show x.rv.ver ≤ _; omega)]
  rw [hf] at e3
  refine ⟨m3, ?_, ((ha.trans e2).trans e4).le (by simp only [List.length_cons, List.length_nil]; omega)⟩
  rw [lookP, Pr.go_bind, load_nod h]
  simp only [if_true]
  rw [if_pos (by rw [h.len]; exact h.few), Pr.go_bind, e1]
  simp only
  rw [lookK, if_pos rfl, Pr.go_bind, newestP, e3]
  simp only [Pr.go, Option.map_some, if_true]
  rfl
theorem walks_go (n : Nat) (hn : 1 ≤ n) {l : List Nod} {C : Int} (hC : ∀ x, x ∈ l → (x.links.length : Int) + 4 ≤ C) : ∀ (f : Nat) (i : Nat) (m : M) (x : Nod) (acc : List Vw), RowOk m l → l[i]? = some x → l.length - i ≤ f → ∃ m', (walkP n f x.h acc).go m = (some (acc ++ (l.drop i).map Nod.vw, 0), m') ∧ AskN m m' (((l.length - i : Nat) : Int) * C)
  | 0, i, m, x, acc, hR, hx, hf => by
    have := (List.getElem?_eq_some_iff.1 hx).1
    omega
  | f + 1, i, m, x, acc, hR, hx, hf => by
    have hi := (List.getElem?_eq_some_iff.1 hx).1
    have hxm := List.mem_of_getElem? hx
    obtain ⟨m1, e1, e2⟩ := look_go (hR.nod x hxm) n hn
    have hl0 : x.links.length ≠ 0 := fun e => hR.pos x hxm (List.length_eq_zero_iff.1 e)
    obtain ⟨y, hy⟩ : ∃ y, x.links[0]? = some y := ⟨_, List.getElem?_eq_getElem (by omega)⟩
    have hyd : x.links.getD 0 0 = y := by rw [List.getD_eq_getElem?_getD, hy]; rfl
    have hto := hR.to_ i x 0 y hx hy
    have hdr : l.drop i = x :: l.drop (i + 1) := by
      have := List.getElem?_eq_some_iff.1 hx
      rw [List.drop_eq_getElem_cons this.1, this.2]
    have hCx := hC x hxm
    have hw : (walkP n (f + 1) x.h acc).go m = ((if tto y = 0 then .ret (some (acc ++ [x.vw], 0)) else walkP n f (tto y) (acc ++ [x.vw])) : Pr (Option (List Vw × Int))).go m1 := by
      rw [walkP, Pr.go_bind, e1]
      simp only [if_true]
      rw [show x.vw.links = x.links from rfl, if_neg hl0, hyd]
    have hmul : ((l.length - i : Nat) : Int) * C = C + ((l.length - (i + 1) : Nat) : Int) * C := by
      rw [show l.length - i = (l.length - (i + 1)) + 1 by omega]
      push_cast
      rw [Int.add_mul, Int.one_mul, Int.add_comm]
    have hpos : 0 ≤ ((l.length - (i + 1) : Nat) : Int) * C := Int.mul_nonneg (by omega) (by omega)
    rw [hw]
    rcases toN_spec ((0 : Nat) : Int) (l.drop (i + 1)) with ⟨h1, h2⟩ | ⟨j, z, h1, h2, h3, h4⟩
    · rw [h1] at hto
      have hnil : l.drop (i + 1) = [] := by
        cases hd : l.drop (i + 1) with
        | nil => rfl
        | cons z k =>
          have hz : z ∈ l.drop (i + 1) := by rw [hd]; exact List.mem_cons_self
          have h5 := h2 z hz
          have h6 := hR.pos z (List.mem_of_mem_drop hz)
          have h7 : z.links.length ≠ 0 := fun e => h6 (List.length_eq_zero_iff.1 e)
          omega
      refine ⟨m1, by rw [if_pos hto, hdr, hnil]; rfl, e2.le (by omega)⟩
    · rw [h3] at hto
      rw [List.getElem?_drop] at h1
      have hj0 : j = 0 := by
        apply Classical.byContradiction
        intro hnj
        obtain ⟨z0, hz0⟩ : ∃ z0, l[i + 1]? = some z0 := ⟨_, List.getElem?_eq_getElem (by have := (List.getElem?_eq_some_iff.1 h1).1; omega)⟩
        have h6 := hR.pos z0 (List.mem_of_getElem? hz0)
        have h7 : z0.links.length ≠ 0 := fun e => h6 (List.length_eq_zero_iff.1 e)
        exact h4 0 z0 (by omega) (by rw [List.getElem?_drop]; exact hz0) (by omega)
      subst hj0
      rw [Nat.add_zero] at h1
      have hz := hR.nod z (List.mem_of_getElem? h1)
      obtain ⟨m', q1, q2⟩ := walks_go n hn hC f (i + 1) m1 z (acc ++ [x.vw]) (hR.asked e2) h1 (by omega)
      refine ⟨m', ?_, (e2.trans q2).le (by omega)⟩
      rw [if_neg (by rw [hto]; exact hz.hne), hto, q1, hdr, List.map_cons, List.append_assoc]; rfl
end Go.Proofs.YtibimnibmengpaaDoor
