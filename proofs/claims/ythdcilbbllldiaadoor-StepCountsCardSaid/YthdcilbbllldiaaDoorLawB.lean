/- StepCounts's machines: what is true of all of them between two steps, and that a step of any of them keeps it. Conditions: at most 1000 steps, at most 6 machines. -/
import Derived.Test.YthdcilbbllldiaaDoorLawA
namespace Go.Proofs.YthdcilbbllldiaaDoor
open Go.RowKit Go.Op
set_option maxRecDepth 100000

def fins : List Mach → Nat
  | [] => 0
  | x :: l => (if x.fin then 1 else 0) + fins l
theorem fins_append : ∀ l k : List Mach, fins (l ++ k) = fins l + fins k
  | [], k => by simp [fins]
  | x :: l, k => by rw [List.cons_append, fins, fins, fins_append l k]; omega
theorem fins_le : ∀ l, fins l ≤ l.length
  | [] => Nat.le_refl _
  | x :: l => by rw [fins, List.length_cons]; have := fins_le l; split <;> omega
theorem fins_set : ∀ (l : List Mach) (i : Nat) (x y : Mach), l[i]? = some x → fins (l.set i y) + (if x.fin then 1 else 0) = fins l + (if y.fin then 1 else 0)
  | [], i, x, y, h => by simp at h
  | z :: l, 0, x, y, h => by
    simp at h
    subst h
    rw [List.set_cons_zero, fins, fins]; omega
  | z :: l, i + 1, x, y, h => by
    rw [List.set_cons_succ, fins, fins]
    have := fins_set l i x y (by simpa using h)
    omega
def ptrs (L : List Mach) : List Value := L.map fun x => .pointer (some ⟨x.xb, 0, none⟩)
theorem ptrs_set {L : List Mach} {i : Nat} {x y : Mach} (hi : L[i]? = some x) (h : y.xb = x.xb) : ptrs (L.set i y) = ptrs L := by
  unfold ptrs
  rw [List.map_set, h]
  exact set_val (by rw [List.getElem?_map, hi]; rfl)
def caps24 (q : Nat) : Value := .func (.func 24) #[] #[.pointer (some ⟨q, 0, none⟩)]
/-- What is true of one machine: T bounds how often it asked. -/
def One3 (q T v : Nat) (x : Mach) : Prop :=
  (x.fin = false → x.f = caps24 q ∧ x.s.keeps = true ∧ Alt x.s.told v ∧ x.s.told.length ≤ T) ∧ (x.fin = true → ∃ k : Nat, x.out = .iface 3 (.int .i64 k) ∧ k < v)
theorem One3.mono {q T T' v v' : Nat} {x : Mach} (h : One3 q T v x) (hT : T ≤ T') (hv : v ≤ v') : One3 q T' v' x :=
  ⟨fun e => ⟨(h.1 e).1, (h.1 e).2.1, (h.1 e).2.2.1.mono (by omega), Nat.le_trans (h.1 e).2.2.2 hT⟩, fun e => by
    obtain ⟨k, e1, e2⟩ := h.2 e
    exact ⟨k, e1, Nat.lt_of_lt_of_le e2 hv⟩⟩
/-- Between two steps. -/
structure Cnt (w0 : World) (b c r : Nat) (T : Nat) (w : World) (m : M) (L : List Mach) (q : Nat) (rv : Value) : Prop where
  team : Team w0 b c r (T + 1) w m L
  one : Is1 m (fins L)
  qc : w.cell? ⟨q, 0, none⟩ = some (.int .i64 1)
  qo : Off q b c r w L
  row : w.ownsRow w0.heap.size 33 1 rv L.length (ptrs L)
  ro : ∀ k, rv.ownBlock = some k → Off k b c r w L ∧ k ≠ q
  each : ∀ (i : Nat) (x : Mach), L[i]? = some x → One3 q T (fins L) x
  diff : ∀ (i j : Nat) (x y : Mach), L[i]? = some x → L[j]? = some y → i ≠ j → x.fin = true → y.fin = true → x.out ≠ y.out
  len : L.length ≤ 6
section
variable {w0 : World} {b c r T : Nat} {w w' : World} {m : M} {L : List Mach} {q : Nat} {rv : Value}
theorem row_same {B : Nat} {v : Value} {n : Nat} {xs : List Value} (h : w.ownsRow B 33 1 v n xs) (hk : ∀ k, v.ownBlock = some k → w'.heap[k]? = w.heap[k]?) : w'.ownsRow B 33 1 v n xs := by
  refine ⟨h.1, h.2.imp id ?_⟩
  rintro ⟨g, cap, cur, rfl, a, b, d⟩
  exact ⟨g, cap, cur, rfl, a, by rw [hk g rfl]; exact b, d⟩
theorem Cnt.later (h : Cnt w0 b c r T w m L q rv) (hb : Below w.heap.size w w') : Cnt w0 b c r T w' m L q rv :=
  ⟨h.team.later hb, h.one, by rw [hb.cell (p := ⟨q, 0, none⟩) h.qo.lt]; exact h.qc, h.qo.later hb.size, row_same h.row (fun k e => hb.block k (h.ro k e).1.lt), fun k e => ⟨(h.ro k e).1.later hb.size, (h.ro k e).2⟩, h.each, h.diff, h.len⟩
theorem Cnt.more {T' : Nat} (h : Cnt w0 b c r T w m L q rv) (hT : T ≤ T') : Cnt w0 b c r T' w m L q rv :=
  ⟨⟨h.team.has.less (by omega), fun i x hx => (h.team.mac i x hx).less (by omega), h.team.apart⟩, h.one, h.qc, h.qo, h.row, h.ro, fun i x hx => (h.each i x hx).mono hT (Nat.le_refl _), h.diff, h.len⟩
/-- Behind a step. -/
def CStep (w0 : World) (b c r T : Nat) (L : List Mach) (q : Nat) (rv : Value) (e : Ending) (w' : World) : Prop :=
  ∃ (m' : M) (L' : List Mach) (o : Bool), e = .returned (.bool o) ∧ Cnt w0 b c r (T + 1) w' m' L' q rv ∧ L'.length = L.length
theorem cnt_step (h : Cnt w0 b c r T w m L q rv) (hT : T ≤ 1000) {i : Nat} {x : Mach} (hi : L[i]? = some x) :
    Calls Tryd.prog 16 #[.pointer (some ⟨x.xb, 0, none⟩)] w fun e w' => CStep w0 b c r T L q rv e w' := by
  have hM := h.team.mac i x hi
  have hv : fins L ≤ 6 := Nat.le_trans (fins_le L) h.len
  cases hf : x.fin with
  | true =>
    rw [hf] at hM
    refine (step_done hM).mono ?_
    rintro e w' ⟨rfl, rfl⟩
    exact ⟨m, L, true, rfl, h.more (by omega), rfl⟩
  | false =>
    obtain ⟨e1, e2, e3, e4⟩ := (h.each i x hi).1 hf
    rw [hf, e1] at hM
    have hqx := h.qo.x i x hi
    refine (step_run hM (Phi x.s.told (fins L)) enter_24 (T + 1 + 1) (fun w1 hS hB => ?_)).mono ?_
    · have hq1 : w1.cell? ⟨q, 0, none⟩ = some (.int .i64 1) := by
        rw [World.cell?_of_block (w := w) (a := ⟨q, 0, none⟩) (hB.block q h.qo.lt hqx.1)]; exact h.qc
      exact counts_fn (s := x.s.fresh) hS (by omega) rfl rfl rfl e2 e3 (by show x.s.told.length ≤ 900000; omega) h.one ⟨by omega, by omega⟩ hq1 ⟨h.qo.m.1, h.qo.m.2.1, h.qo.m.2.2, hqx.1, fun e => hqx.2 e.symm⟩
    · rintro e w' ⟨t', m', s', hc, hk, hr⟩
      rcases hc with ⟨v, rfl, s1, hφ, -, -, hM2⟩ | ⟨rfl, hφ, hM2⟩
      · rcases hφ with ⟨ev, hone⟩ | ⟨e, _⟩
        · cases ev
          have hy : Mac w0 b c r (T + 1 + 1) x.xb t' w' m' s' .nilFunc true (.iface 3 (.int .i64 (fins L))) := hM2
          have hfs := fins_set L i x ⟨x.xb, t', s', .nilFunc, true, .iface 3 (.int .i64 (fins L))⟩ hi
          rw [hf] at hfs
          simp only [Bool.false_eq_true, if_false, if_true, Nat.add_zero] at hfs
          have hq2 := h.qo.step (y := ⟨x.xb, t', s', .nilFunc, true, .iface 3 (.int .i64 (fins L))⟩) hi rfl hk hr
          refine ⟨m', L.set i ⟨x.xb, t', s', .nilFunc, true, .iface 3 (.int .i64 (fins L))⟩, true, rfl, ⟨?_, ?_, ?_, hq2.1, ?_, ?_, ?_, ?_, ?_⟩, List.length_set ..⟩
          · have := h.team.step (y := ⟨x.xb, t', s', .nilFunc, true, .iface 3 (.int .i64 (fins L))⟩) hi rfl hy hk hr
            simpa using this
          · rw [hfs]; simpa using hone
          · rw [World.cell?_of_block (w := w) (a := ⟨q, 0, none⟩) hq2.2]; exact h.qc
          · rw [List.length_set, ptrs_set (y := ⟨x.xb, t', s', .nilFunc, true, .iface 3 (.int .i64 (fins L))⟩) hi rfl]
            exact row_same h.row fun k e => ((h.ro k e).1.step (y := ⟨x.xb, t', s', .nilFunc, true, .iface 3 (.int .i64 (fins L))⟩) hi rfl hk hr).2
          · exact fun k e => ⟨((h.ro k e).1.step (y := ⟨x.xb, t', s', .nilFunc, true, .iface 3 (.int .i64 (fins L))⟩) hi rfl hk hr).1, (h.ro k e).2⟩
          · intro j u hu
            rw [hfs]
            rw [List.getElem?_set] at hu
            split at hu
            · split at hu
              · cases hu
                exact ⟨fun e => (by cases e), fun _ => ⟨fins L, rfl, by omega⟩⟩
              · cases hu
            · exact (h.each j u hu).mono (by omega) (by omega)
          · intro j k u z hu hz hjk hfu hfz
            have key : ∀ (j : Nat) (u : Mach), L[j]? = some u → u.fin = true → u.out ≠ .iface 3 (.int .i64 (fins L)) := fun j u hu hfu => by
              obtain ⟨k, e, hk⟩ := (h.each j u hu).2 hfu
              rw [e]
              intro e2
              cases e2
              omega
            rw [List.getElem?_set] at hu hz
            split at hu
            · split at hu
              · cases hu
                rw [if_neg (by omega)] at hz
                exact (key k z hz hfz).symm
              · cases hu
            · split at hz
              · split at hz
                · cases hz
                  exact key j u hu hfu
                · cases hz
              · exact h.diff j k u z hu hz hjk hfu hfz
          · rw [List.length_set]; exact h.len
        · cases e
      · rcases hφ with ⟨ev, _⟩ | ⟨_, hone, g1, g2, g3⟩
        · cases ev
        · have hfs := fins_set L i x ⟨x.xb, t', s', caps24 q, false, x.out⟩ hi
          rw [hf] at hfs
          simp only [Bool.false_eq_true, if_false, Nat.add_zero] at hfs
          have hq2 := h.qo.step (y := ⟨x.xb, t', s', caps24 q, false, x.out⟩) hi rfl hk hr
          refine ⟨m', L.set i ⟨x.xb, t', s', caps24 q, false, x.out⟩, false, rfl, ⟨?_, ?_, ?_, hq2.1, ?_, ?_, ?_, ?_, ?_⟩, List.length_set ..⟩
          · have := h.team.step (y := ⟨x.xb, t', s', caps24 q, false, x.out⟩) hi rfl hM2 hk hr
            simpa using this
          · rw [hfs]; exact hone
          · rw [World.cell?_of_block (w := w) (a := ⟨q, 0, none⟩) hq2.2]; exact h.qc
          · rw [List.length_set, ptrs_set (y := ⟨x.xb, t', s', caps24 q, false, x.out⟩) hi rfl]
            exact row_same h.row fun k e => ((h.ro k e).1.step (y := ⟨x.xb, t', s', caps24 q, false, x.out⟩) hi rfl hk hr).2
          · exact fun k e => ⟨((h.ro k e).1.step (y := ⟨x.xb, t', s', caps24 q, false, x.out⟩) hi rfl hk hr).1, (h.ro k e).2⟩
          · intro j u hu
            rw [hfs]
            rw [List.getElem?_set] at hu
            split at hu
            · split at hu
              · cases hu
                exact ⟨fun _ => ⟨rfl, g1, g2, by rw [g3]; omega⟩, fun e => (by cases e)⟩
              · cases hu
            · exact (h.each j u hu).mono (by omega) (Nat.le_refl _)
          · intro j k u z hu hz hjk hfu hfz
            rw [List.getElem?_set] at hu hz
            split at hu
            · split at hu
              · cases hu; cases hfu
              · cases hu
            · split at hz
              · split at hz
                · cases hz; cases hfz
                · cases hz
              · exact h.diff j k u z hu hz hjk hfu hfz
          · rw [List.length_set]; exact h.len
end
end Go.Proofs.YthdcilbbllldiaaDoor
