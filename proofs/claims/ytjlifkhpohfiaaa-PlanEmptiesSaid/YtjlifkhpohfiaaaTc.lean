/- What the law's goes, plan's closure, slices.IndexFunc over towers, plan.Leads answer. Condition: at most 100000 towers. -/
import Derived.Test.YtjlifkhpohfiaaaTb
namespace Go.Proofs.Ytjlifkhpohfiaaa
open Go.RowKit Go.Op
set_option maxRecDepth 100000

/-- One cell of a row of values is stored. -/
theorem flat_set {α : Type} (f : α → List Value) (n : Nat) (hf : ∀ x, (f x).length = n) (l : List α) (i : Nat) (x y : α) (hx : l[i]? = some x) (k : Nat) (hk : k < n) (v : Value) (hy : f y = (f x).set k v) : (l.flatMap f).set (i * n + k) v = (l.set i y).flatMap f := by
  have hi := (List.getElem?_eq_some_iff.1 hx).1
  have hl := flat_length f n hf l
  have hm : (i + 1) * n ≤ l.length * n := Nat.mul_le_mul_right _ hi
  have hs : (i + 1) * n = i * n + n := Nat.succ_mul i n
  rw [← putAt_flat f n hf (by omega) l i hi y]
  apply List.ext_getElem?
  intro j
  rw [putAt_get _ _ _ _ (by rw [hf, hl]; omega), hf]
  by_cases h1 : i * n ≤ j ∧ j < i * n + n
  · rw [if_pos h1, hy]
    by_cases h2 : j = i * n + k
    · rw [h2, List.getElem?_set_self (by rw [hl]; omega), show i * n + k - i * n = k by omega, List.getElem?_set_self (by rw [hf]; exact hk)]
    · rw [List.getElem?_set_ne (fun e => h2 e.symm), List.getElem?_set_ne (fun e => h2 (by omega))]
      obtain ⟨u, hu⟩ : ∃ u, (f x)[j - i * n]? = some u := ⟨_, List.getElem?_eq_getElem (by rw [hf]; omega)⟩
      rw [hu, ← flat_get f n hf hx _ u hu]
      congr 1; omega
  · rw [if_neg h1, List.getElem?_set_ne (by omega)]

def goneB (l : List Spc) (i : Nat) : Bool := match l[i]? with
  | some x => x.gone && decide (0 < i)
  | none => false
/-- Towers of which the first ones are told whether they are to go. -/
def GIs (l : List Spc) (vl : List (Vw × Vs)) (k : Nat) (tl : List (Tw × Ts)) : Prop := tl.length = vl.length ∧ ∀ (i : Nat) (y : Vw × Vs), vl[i]? = some y → ∃ q, tl[i]? = some (⟨y.1.h, y.1.nd.nx, y.1.links, if i < k then goneB l i else false⟩, q)
theorem gis_of {l : List Spc} {vl : List (Vw × Vs)} {tl : List (Tw × Ts)} (h : TIs vl vl.length tl) : GIs l vl 0 tl :=
  ⟨h.1, fun i y hy => by
    obtain ⟨q, hq⟩ := h.2 i y (List.getElem?_eq_some_iff.1 hy).1 hy
    exact ⟨q, by rw [hq, if_neg (Nat.not_lt_zero _)]⟩⟩
set_option maxHeartbeats 2000000 in
theorem goes_any (w : World) (va a : Option Addr) (vc cap : Nat) (vl : List (Vw × Vs)) (l : List Spc) (hV : VRow w va vl) (hvc : vl.length ≤ vc) (hS : Specs w a l) (hl : l.length = vl.length) :
    Calls Try.prog 10 #[.slice va vl.length vc, .slice a l.length cap] w fun e w' => ∃ g, e = .returned (.slice (some ⟨g, 0, none⟩) vl.length vl.length) ∧ ∃ tl, w'.ownsRow w.heap.size 57 4 (.slice (some ⟨g, 0, none⟩) vl.length vl.length) vl.length (trows tl) ∧ GIs l vl vl.length tl ∧ TAll w' g tl ∧ Below w.heap.size w w' := by
  have ht := towers_any w va vc vl hV hvc
  have few := hV.few
  obtain ⟨n, hn⟩ : ∃ n, n = vl.length := ⟨_, rfl⟩
  have HN := Lib.hid (⟨hn, hl⟩ : _ ∧ _)
  have HR := Lib.hid hS
  rw [hl]
  rw [← hn] at ht few ⊢
  clear hn hl hS hV hvc
  go_enter Try.func10, Try.ntmps10
  go_wp2_with fail
  refine ht.mono ?_
  rintro e w1 ⟨gt, rfl, tl, p1, p2, p3, p4⟩
  have HP := Lib.hid (⟨p1, gis_of (l := l) (by rw [← HN.out.1]; exact p2), p3, p4⟩ : w1.ownsRow w.heap.size 57 4 (.slice (some ⟨gt, 0, none⟩) n n) n (trows tl) ∧ GIs l vl 0 tl ∧ TAll w1 gt tl ∧ Below w.heap.size w w1)
  clear p1 p2 p3 p4 ht
  go_wp2_with fail
  go_loopw [6] (fun iv wr => ∃ (j : Nat) (tl : List (Tw × Ts)), iv = .int .i64 (j : Int) ∧ j ≤ n ∧ Hid (wr.ownsRow w.heap.size 57 4 (.slice (some ⟨gt, 0, none⟩) n n) n (trows tl) ∧ GIs l vl j tl ∧ TAll wr gt tl ∧ Below w.heap.size w wr)) (fun iv _ => n - (intOf iv).toNat)
  case atStart => exact ⟨0, tl, rfl, Nat.zero_le _, HP⟩
  case round =>
    clear HP
    obtain ⟨j, tl, rfl, hj, HX⟩ := hrel
    by_cases hlt : j < n
    · have hlt2 : (j : Int) < (n : Int) := by omega
      obtain ⟨x, hx⟩ : ∃ x, l[j]? = some x := ⟨_, List.getElem?_eq_getElem (by rw [HN.out.2, ← HN.out.1]; exact hlt)⟩
      obtain ⟨y, hy⟩ : ∃ y, vl[j]? = some y := ⟨_, List.getElem?_eq_getElem (by rw [← HN.out.1]; exact hlt)⟩
      obtain ⟨q1, q2, q3, q4⟩ := HX.out
      obtain ⟨g, o, ea, hg, hr⟩ := (HR.out.later q4).at_ hx
      have hat : ∀ W, (Instr.indexAt 22 (.slice a n cap) (.int .i64 (j : Int))).run Try.prog W = .ok (.pointer (some ⟨g, o + j * 6, none⟩)) W := fun W => by rw [ea]; exact at_22 g o n cap j hlt W
      have hat2 : ∀ W, (Instr.indexAt 28 (.slice (some ⟨gt, 0, none⟩) n n) (.int .i64 (j : Int))).run Try.prog W = .ok (.pointer (some ⟨gt, j * 4, none⟩)) W := fun W => at_28_0 gt n n j hlt W
      have c5 := hr 5 _ rfl
      obtain ⟨q, hq⟩ := q2.2 j y hy
      rw [if_neg (Nat.lt_irrefl j)] at hq
      have hjl : j < tl.length := by rw [q2.1, ← HN.out.1]; exact hlt
      have ct : wr.cell? ⟨gt, j * 4 + 3, none⟩ = some (.bool false) := by
        rw [q1.cellAt (j * 4 + 3) (by omega)]
        exact flat_get trow 4 trow_len hq 3 _ rfl
      have ft : wr.frozen? ⟨gt, j * 4 + 3, none⟩ = false := q1.frozenAt _
      obtain ⟨bb, hbb⟩ : ∃ bb, bb = goneB l j := ⟨_, rfl⟩
      have hst := q1.stored (j * 4 + 3) (.bool bb)
      have HX2 : Hid (∃ tl', (wr.setCell ⟨gt, j * 4 + 3, none⟩ (.bool bb)).ownsRow w.heap.size 57 4 (.slice (some ⟨gt, 0, none⟩) n n) n (trows tl') ∧ GIs l vl (j + 1) tl' ∧ TAll (wr.setCell ⟨gt, j * 4 + 3, none⟩ (.bool bb)) gt tl' ∧ Below w.heap.size w (wr.setCell ⟨gt, j * 4 + 3, none⟩ (.bool bb))) := by
        have hgt := (World.ownsRow.lt q1 gt rfl).1
        have hb : But gt wr (wr.setCell ⟨gt, j * 4 + 3, none⟩ (.bool bb)) := (But.refl gt wr).set _ _
        refine Lib.hid ⟨tl.set j (⟨y.1.h, y.1.nd.nx, y.1.links, bb⟩, q), ?_, ⟨by rw [List.length_set]; exact q2.1, fun i z hz => ?_⟩, fun z hz => ?_, q4.trans (hb.below hgt q4.size)⟩
        · have e := flat_set trow 4 trow_len tl j _ (⟨y.1.h, y.1.nd.nx, y.1.links, bb⟩, q) hq 3 (by decide) (.bool bb) rfl
          have h1 := hst.1
          unfold trows at h1 ⊢
          rw [e] at h1
          exact h1
        · by_cases e : i = j
          · subst e
            rw [hy] at hz
            cases hz
            exact ⟨q, by rw [List.getElem?_set_self hjl, if_pos (Nat.lt_succ_self _), hbb]⟩
          · obtain ⟨q', hq'⟩ := q2.2 i z hz
            refine ⟨q', ?_⟩
            rw [List.getElem?_set_ne (fun e2 => e e2.symm), hq']
            by_cases h5 : i < j
            · rw [if_pos h5, if_pos (by omega)]
            · rw [if_neg h5, if_neg (by omega)]
        · have same : ∀ z : Tw × Ts, TAt wr z.1 z.2 ∧ TFar (some gt) z.1 z.2 → TAt (wr.setCell ⟨gt, j * 4 + 3, none⟩ (.bool bb)) z.1 z.2 ∧ TFar (some gt) z.1 z.2 := fun z h => ⟨h.1.same h.2 hb.size fun k hk hne => hb.block k hk fun e => hne (by rw [e]), h.2⟩
          rcases List.mem_or_eq_of_mem_set hz with h | h
          · exact same z (q3 z h)
          · have h2 := same _ (q3 _ (List.mem_of_getElem? hq))
            rw [h]
            exact ⟨⟨h2.1.cs, h2.1.ws, h2.1.cf, h2.1.wf⟩, ⟨h2.2.ca, h2.2.wa⟩⟩
      have hgb : goneB l j = (x.gone && decide (0 < j)) := by unfold goneB; rw [hx]
      rw [hgb] at hbb
      clear hx hy q1 q2 q3 q4 hr ea hq hst hg HX hgb
      cases hgx : x.gone with
      | false =>
        rw [hgx] at c5 hbb
        obtain rfl : bb = false := hbb
        clear hgx
        go_wp2_with fail
        obtain ⟨tl', hX3⟩ := HX2.out
        exact ⟨⟨j + 1, tl', by simp, by omega, Lib.hid hX3⟩, by simp only [intOf]; omega⟩
      | true =>
        rw [hgx] at c5 hbb
        by_cases h0 : 0 < j
        · obtain rfl : bb = true := by rw [hbb, decide_eq_true h0]; rfl
          have h00 : decide ((0 : Int) < (j : Int)) = true := decide_eq_true (by omega)
          have h01 : (0 : Int) < (j : Int) := by omega
          clear hbb hgx
          go_wp2_with fail
          obtain ⟨tl', hX3⟩ := HX2.out
          exact ⟨⟨j + 1, tl', by simp, by omega, Lib.hid hX3⟩, by simp only [intOf]; omega⟩
        · obtain rfl : bb = false := by rw [hbb, decide_eq_false h0]; rfl
          have h00 : decide ((0 : Int) < (j : Int)) = false := decide_eq_false (by omega)
          have h01 : ¬ (0 : Int) < (j : Int) := by omega
          clear hbb hgx
          go_wp2_with fail
          obtain ⟨tl', hX3⟩ := HX2.out
          exact ⟨⟨j + 1, tl', by simp, by omega, Lib.hid hX3⟩, by simp only [intOf]; omega⟩
    · have hlt2 : ¬ (j : Int) < (n : Int) := by omega
      obtain rfl : j = n := by omega
      go_wp2_with fail
      go_ret
      exact ⟨gt, rfl, tl, HX.out⟩
end Go.Proofs.Ytjlifkhpohfiaaa
