/- A link to a word: whom a search then meets. No condition. -/
import Derived.Test.YtibimnibmengpaaDoorVh
namespace Go.Proofs.YtibimnibmengpaaDoor
open Go.RowKit Go.Op
set_option maxRecDepth 100000

theorem look_isH {m : M} {k : Int} {x : Held} (hl : m.look k = some x) : isH k = true := by
  obtain ⟨p, y, -, -, -, -, -, -, h8⟩ := look_some hl
  exact h8
theorem Good.spoil {m m4 : M} {lows : List ByteArray} {hts : List Int} {l : List Nod} {n4 : Int} (h : Good m lows hts l) {x0 : Nod} (hx : l[0]? = some x0) (h1 : x0.links.length = 1) (hA : AskN m m4 n4) (t : ByteArray) :
    ∃ c m5 m6, x0.nd.nx = [c] ∧ m4.store c (tword x0.nd.head 1) = (m5, 0) ∧ m5.count ≤ m4.count + 1 ∧ (searchP 60 x0.h t).go m5 = (some (0, nd0, 6), m6) := by
  have hn := (h.nod hx).1.asked hA
  have hl1 : x0.nd.nx.length = 1 := by rw [hn.len]; exact h1
  obtain ⟨c, hc⟩ : ∃ c, x0.nd.nx = [c] := List.length_eq_one_iff.1 hl1
  obtain ⟨y0, hy0⟩ : ∃ y, x0.links = [y] := List.length_eq_one_iff.1 h1
  have hw := hn.lk 0 c y0 (by rw [hc]; rfl) (by rw [hy0]; rfl)
  obtain ⟨m5, e1, e2, -, -, -, e6⟩ := store_yes (n := tword x0.nd.head 1) hw
  have hne : x0.h ≠ c := fun e => by
    have := hn.node
    rw [e, hw] at this
    cases this
  have hnode : m5.look x0.h = some (.blk (.node x0.nd.low x0.nd.head x0.nd.nx) .nil) := by rw [e2, if_neg hne]; exact hn.node
  have hcw : m5.look c = some (.word (tword x0.nd.head 1)) := by rw [e2, if_pos rfl]
  have hhd : ∃ u, m5.look x0.nd.head = some (.word u) := by
    by_cases e : x0.nd.head = c
    · exact ⟨_, by rw [e2, if_pos e]⟩
    · exact ⟨_, by rw [e2, if_neg e]; exact hn.head⟩
  obtain ⟨u, hu⟩ := hhd
  have hH := look_isH hu
  have htt : tto (tword x0.nd.head 1) = x0.nd.head := tto_word (.inr hH) (by omega) (by omega)
  have hh0 : x0.nd.head ≠ 0 := by have := isH_in hH; omega
  have hcw1 : m5.ask.look c = some (.word (tword x0.nd.head 1)) := ((AskN.ask m5).look c).trans hcw
  have hu1 : m5.ask.ask.look x0.nd.head = some (.word u) := (((AskN.ask m5).trans (AskN.ask _)).look _).trans hu
  have hnext : (nextP x0.nd 0).go m5.ask = ((x0.nd.head, 0), m5.ask.ask) := by
    have hg : x0.nd.nx.getD 0 0 = c := by rw [hc]; rfl
    rw [nextP, if_pos ⟨by omega, by rw [hl1]; decide⟩, show Int.toNat 0 = 0 from rfl, hg]
    simp only [Pr.go, Qn.on, look_word hcw1, if_true, htt]
  have hon : (onwardP x0.nd 0 t).go m5.ask = ((0, nd0, 6), m5.ask.ask.ask) := by
    rw [onwardP, Pr.go_bind, hnext]
    simp only
    rw [if_pos ⟨trivial, hh0⟩, Pr.go_bind, load_word hu1]
    simp [Pr.go, onF]
  refine ⟨c, m5, m5.ask.ask.ask, hc, e1, by omega, ?_⟩
  rw [searchP, Pr.go_bind, node_go hnode]
  simp only [if_true]
  rw [if_neg (by rw [hl1]; decide), hl1]
  show (goP t 60 x0.h x0.nd 0).go m5.ask = _
  rw [goP, if_pos (by omega), Pr.go_bind, hon]
  rfl
theorem hts_nil (n : Nat) (hn : 0 < n) : (htsOf [] n)[0]? = some 1 := by
  have hall : ∀ k, htsUp [] k = List.replicate k 1 := fun k => by
    refine List.ext_getElem (by simp [htsUp]) fun i h1 h2 => ?_
    simp [htsUp, htAt]
  have hm : ∀ k : Nat, (List.replicate k (1 : Int)).foldl max 1 = 1 := fun k => by
    induction k with
    | zero => rfl
    | succ k ih => rw [List.replicate_succ, List.foldl_cons]; exact ih
  rw [htsOf, List.getElem?_set_self (by simp [htsUp]; omega), hall, mostOf, hm]
end Go.Proofs.YtibimnibmengpaaDoor
