/- What the law's memory, does, told and the program's Do answer. Conditions: memory is the call's own; at most 40 asks in the list; the library's table stands. -/
import Derived.Test.YthdcilbbllldiaaDoorStL
import Derived.Test.YthdcilbbllldiaaDoorStP
namespace Go.Proofs.YthdcilbbllldiaaDoor
open Go.RowKit Go.Op
set_option maxRecDepth 100000

theorem memory_any {w0 w : World} (n : Nat) (hn : n ≤ 255) (hb : Below w0.heap.size w0 w) : Calls Tryd.prog 7 #[.int .u8 (n : Int)] w fun e w' => (∃ b c r, e = .returned (.tuple #[.pointer (some ⟨b, 0, none⟩), .int .i64 ((1 + n % 60 : Nat) : Int)]) ∧ Has w0 b c r 0 w' (M.new (1 + n % 60)) ∧ w.heap.size ≤ b ∧ w.heap.size ≤ c ∧ w.heap.size ≤ r) ∧ Below w.heap.size w w' := by
  have hw : Calls Tryd.prog 22 #[.int .i64 (1 + (n : Int) % 60)] w fun e w' => Made w (1 + n % 60) e w' := by
    have := new_any (1 + n % 60) (by omega) (by omega) w
    rw [show ((1 + n % 60 : Nat) : Int) = 1 + (n : Int) % 60 by omega] at this
    exact this
  have HB := Lib.hid hb
  have HN : Hid (((1 + n % 60 : Nat) : Int) = 1 + (n : Int) % 60) := by unfold Hid; omega
  rw [HN.out]
  clear hb
  go_enter Tryd.func7, Tryd.ntmps7
  go_wp2_with fail
  refine hw.mono ?_
  rintro e w1 ⟨b, c, r, rfl, a, b1, h1, h2, h3⟩
  have HE : Hid (Has w0 b c r 0 w1 (M.new (1 + n % 60)) ∧ (w.heap.size ≤ b ∧ w.heap.size ≤ c ∧ w.heap.size ≤ r) ∧ Below w.heap.size w w1) := by
    have := HB.out.size
    exact ⟨⟨a, new_ok _ (by omega), HB.out.trans (b1.mono HB.out.size), by omega, by omega, by omega⟩, ⟨h1, h2, h3⟩, b1⟩
  clear a b1 h1 h2 h3 hw
  go_wp2
  go_ret2
  exact ⟨⟨b, c, r, rfl, HE.out.1, HE.out.2.1⟩, HE.out.2.2⟩
theorem does_any (ad : Option Addr) (len cap : Nat) (w : World) : Calls Tryd.prog 10 #[.slice ad len cap] w fun e w' => e = .returned (caps31 w.heap.size) ∧ w' = w.alloc (.cells #[.slice ad len cap] 22) := by
  have hm := hmf
  unfold caps31
  go_enter Tryd.func10, Tryd.ntmps10
  go_wp2
  go_ret
  exact ⟨rfl, rfl⟩
theorem as32_yes (v : Value) (w : World) : (Instr.typeAssert (.iface 32 v) 20 32 true).run Tryd.prog w = .ok (.tuple #[v, .bool true]) w := by kernel_rfl
theorem as32_no (w : World) : (Instr.typeAssert .nilIface 20 32 true).run Tryd.prog w = .ok (.tuple #[.agg #[.int .i64 0, .int .i64 0, .int .i64 0, .int .i64 0, .int .i64 0], .bool false]) w := by kernel_rfl
theorem first_range (w : World) (o : Obj) (row : List Value) (t : TypeId) : ((w.alloc (.cells row.toArray t)).alloc o).rangeAt w.heap.size 0 row := fun j v hj => by
  have hb := (Below.refl (w.alloc (.cells row.toArray t)).heap.size (w.alloc (.cells row.toArray t))).alloc (Nat.le_refl _) o
  rw [hb.cell (p := ⟨w.heap.size, 0 + j, none⟩) (by simp), World.cell?_alloc_new, Nat.zero_add]
  simpa using hj
theorem told_end (w : World) (o : Obj) (r : Rn) : (loadVar 32 ⟨w.heap.size, 0, none⟩).run Tryd.prog ((w.alloc (.cells r.row.toArray 32)).alloc o) = .ok r.v ((w.alloc (.cells r.row.toArray 32)).alloc o) :=
  run_loadVar_mid _ w.heap.size 0 32 r.row _ (first_range w o r.row 32) Tryd.underlying32 rfl size32
theorem told_yes {w : World} {xb : Nat} (r : Rn) (h : ∀ w1, Below w.heap.size w w1 → Calls Tryd.prog 27 #[.pointer (some ⟨xb, 0, none⟩)] w1 fun e w' => e = .returned (.iface 32 r.v) ∧ w1 = w') :
    Calls Tryd.prog 19 #[.pointer (some ⟨xb, 0, none⟩)] w fun e w' => e = .returned (.tuple #[r.v, .bool true]) ∧ Below w.heap.size w w' := by
  have a3 := as32_yes
  have hh := h (w.alloc (.cells #[.int .i64 0, .int .i64 0, .int .i64 0, .int .i64 0, .int .i64 0] 32)) ((Below.refl _ _).alloc (Nat.le_refl _) _)
  have ev : r.v = .agg #[.int .i64 (r.at_ : Int), .int .i64 r.told, .int .i64 r.sum, .int .i64 r.last, .int .i64 (r.steps : Int)] := rfl
  have HE := Lib.hid (fun o => told_end w o r)
  have HB := Lib.hid (fun (o o' : Obj) => (((Below.refl w.heap.size w).alloc (Nat.le_refl _) o).alloc (by simp) o' : Below w.heap.size w ((w.alloc o).alloc o')))
  have HV := Lib.hid ev
  clear h ev
  go_enter Tryd.func19, Tryd.ntmps19
  go_wp2_with fail
  refine hh.mono ?_
  rintro e w1 ⟨rfl, rfl⟩
  rw [HV.out]
  clear hh
  go_wp2
  rw [← HV.out]
  exact bodyPost_ret (results_cell2 Tryd.results19 rfl rfl (HE.out _)) rfl ⟨rfl, HB.out _ _⟩
theorem told_no {w : World} {xb : Nat} (h : ∀ w1, Below w.heap.size w w1 → Calls Tryd.prog 27 #[.pointer (some ⟨xb, 0, none⟩)] w1 fun e w' => e = .returned .nilIface ∧ w1 = w') :
    Calls Tryd.prog 19 #[.pointer (some ⟨xb, 0, none⟩)] w fun e w' => e = .returned (.tuple #[r0.v, .bool false]) ∧ Below w.heap.size w w' := by
  have a3 := as32_no
  have hh := h (w.alloc (.cells #[.int .i64 0, .int .i64 0, .int .i64 0, .int .i64 0, .int .i64 0] 32)) ((Below.refl _ _).alloc (Nat.le_refl _) _)
  have HE := Lib.hid (fun o => told_end w o r0)
  have HB := Lib.hid (fun (o o' : Obj) => (((Below.refl w.heap.size w).alloc (Nat.le_refl _) o).alloc (by simp) o' : Below w.heap.size w ((w.alloc o).alloc o')))
  clear h
  go_enter Tryd.func19, Tryd.ntmps19
  go_wp2_with fail
  refine hh.mono ?_
  rintro e w1 ⟨rfl, rfl⟩
  clear hh
  go_wp2
  exact bodyPost_ret (results_cell2 Tryd.results19 rfl rfl (HE.out _)) rfl ⟨rfl, HB.out _ _⟩

/-- The runs of a list, one ask behind the other, from a memory on. -/
def seqR (l : List Aq) (m : M) : Nat → Rn × M
  | 0 => (r0, m)
  | k + 1 => mnext l (seqR l m k).1 (seqR l m k).2
theorem iter_do {l : List Aq} {s : Pt} {m : M} (h0 : s.told = []) (h1 : s.place = 0) (h2 : s.spent = false) (h3 : s.keeps = false) : ∀ k, (iter l ⟨r0, s, m⟩ k).r = (seqR l m k).1 ∧ (iter l ⟨r0, s, m⟩ k).m = (seqR l m k).2 ∧ (iter l ⟨r0, s, m⟩ k).s.told = [] ∧ (iter l ⟨r0, s, m⟩ k).s.place = 0 ∧ (iter l ⟨r0, s, m⟩ k).s.spent = false ∧ (iter l ⟨r0, s, m⟩ k).s.keeps = false
  | 0 => ⟨rfl, rfl, h0, h1, h2, h3⟩
  | k + 1 => by
    obtain ⟨e1, e2, e3, e4, e5, e6⟩ := iter_do (l := l) (m := m) h0 h1 h2 h3 k
    show ((iter l ⟨r0, s, m⟩ k).step l).r = (mnext l (seqR l m k).1 (seqR l m k).2).1 ∧ _
    rw [← e1, ← e2]
    have hs : (seqR l m (k + 1)).2 = (mnext l (iter l ⟨r0, s, m⟩ k).r (iter l ⟨r0, s, m⟩ k).m).2 := by rw [e1, e2]; rfl
    rw [hs]
    show _ ∧ ((iter l ⟨r0, s, m⟩ k).step l).m = _ ∧ ((iter l ⟨r0, s, m⟩ k).step l).s.told = [] ∧ ((iter l ⟨r0, s, m⟩ k).step l).s.place = 0 ∧ ((iter l ⟨r0, s, m⟩ k).step l).s.spent = false ∧ ((iter l ⟨r0, s, m⟩ k).step l).s.keeps = false
    generalize iter l ⟨r0, s, m⟩ k = X at *
    cases hz : l[X.r.at_]? with
    | none =>
      have : X.step l = X := by unfold Xn.step; rw [hz]
      rw [this]
      have hm : mnext l X.r X.m = (X.r, X.m) := by unfold mnext; rw [hz]
      rw [hm]
      exact ⟨rfl, rfl, e3, e4, e5, e6⟩
    | some z =>
      have hask : X.asked z = (some ((z.q X.r.told).on X.m).2, X.s, ((z.q X.r.told).on X.m).1) := Pt.ask_do (by rw [e3]; simp) e5 e6 _ _
      rw [step_is hz (a := ((z.q X.r.told).on X.m).2) (by rw [hask]), hask, mnext_is hz]
      exact ⟨rfl, rfl, e3, e4, e5, e6⟩
/-- The list ends behind k asks. -/
def EndsAt (l : List Aq) (m : M) (k : Nat) : Prop := l.length ≤ (seqR l m k).1.at_ ∧ ∀ i, i < k → (seqR l m i).1.at_ < l.length
theorem EndsAt.one {l : List Aq} {m : M} {k j : Nat} (h : EndsAt l m k) (h' : EndsAt l m j) : k = j := by
  rcases Nat.lt_trichotomy k j with e | e | e
  · have := h'.2 k e
    have := h.1
    omega
  · exact e
  · have := h.2 j e
    have := h'.1
    omega
def portObj (b : Nat) : Obj := .cells #[.pointer (some ⟨b, 0, none⟩), .bool false, .slice none 0 0, .int .i64 0, .int .i64 0, .bool false, .bool false] 67
theorem port_at {w0 w : World} {b c r : Nat} {N : Int} {m : M} (h : Has w0 b c r N w m) : Sys w0 b c r N w.heap.size 0 (.slice none 0 0) (w.alloc (portObj b)) m ⟨false, [], 0, 0, false, false, fun i => (w.alloc (portObj b)).cell? ⟨w.heap.size, i, none⟩⟩ := by
  have hb := (Below.refl w.heap.size w).alloc (Nat.le_refl _) (portObj b)
  have o := h.at_.own
  have k : ∀ i, (w.alloc (portObj b)).cell? ⟨w.heap.size, i, none⟩ = (#[.pointer (some ⟨b, 0, none⟩), .bool false, .slice none 0 0, .int .i64 0, .int .i64 0, .bool false, .bool false] : Array Value)[i]? := fun i => World.cell?_alloc_new _ _ _ _
  have h1 := o.lb
  have h2 := o.lc
  have h3 := o.lr
  exact ⟨h.later hb, ⟨⟨k 0, k 1, k 2, k 3, k 4, k 5, k 6⟩, fun i => World.frozen?_alloc_at _ 67 _ i rfl, World.ownsRow_nil _ _ _ _, fun e => (by cases e), fun i _ => rfl⟩, ⟨by omega, by omega, by omega⟩, ⟨fun e => (by cases e), fun e => (by cases e), fun e => (by cases e)⟩, h.below.size⟩
theorem do_any {w0 w : World} {b c r : Nat} {N : Int} {m : M} {lb cap : Nat} {ad : Option Addr} {l : List Aq} (h : Has w0 b c r N w m) (HT : TabAt w0) (hN : N ≤ 900000) (hL : Asks w0 ad l) (hK : AsksOk l) (hl : l.length ≤ 40)
    (hq : w.cell? ⟨lb, 0, none⟩ = some (.slice ad l.length cap)) (hqn : lb ≠ b ∧ lb ≠ c ∧ lb ≠ r) :
    Calls Tryd.prog 20 #[.pointer (some ⟨b, 0, none⟩), caps31 lb] w fun e w' => (∃ k, EndsAt l m k ∧ e = .returned (.iface 32 (seqR l m k).1.v) ∧ Has w0 b c r (N + 40) w' (seqR l m k).2) ∧ Kept b c r w w' := by
  have hS := port_at h
  have hql : lb < w.heap.size := World.block_lt_of_cell? w _ hq
  have hb := (Below.refl w.heap.size w).alloc (Nat.le_refl _) (portObj b)
  have hq1 : (w.alloc (portObj b)).cell? ⟨lb, 0, none⟩ = some (.slice ad l.length cap) := by rw [hb.cell (p := ⟨lb, 0, none⟩) hql]; exact hq
  have hd := does_fn hS HT (by omega) rfl (Nat.le_refl _) (Nat.zero_le _) hL hK hl hq1 ⟨hqn.1, hqn.2.1, hqn.2.2, by omega, fun e => (by cases e)⟩
  have he := enter_31
  unfold caps31
  unfold portObj at hd hb
  have HB := Lib.hid hb
  clear h hS hq hq1 hb
  go_enter Tryd.func20, Tryd.ntmps20
  go_wp2_with fail
  refine hd.mono ?_
  rintro e w1 ⟨k, hk, hRuns, X, hX, hW, t', hc, h5, h6⟩
  have hi := iter_do (l := l) (s := ⟨false, [], 0, 0, false, false, fun i => (w.alloc (portObj b)).cell? ⟨w.heap.size, i, none⟩⟩) (m := m) rfl rfl rfl rfl
  have HK : Hid (Kept b c r w w1) := by
    have hb := HB.out
    have hz : w.heap.size < (w.alloc (.cells #[.pointer (some ⟨b, 0, none⟩), .bool false, .slice none 0 0, .int .i64 0, .int .i64 0, .bool false, .bool false] 67)).heap.size := by simp
    exact ⟨h5.os.trans hb.os, h5.tape.trans hb.tape, h5.output.trans hb.output, Nat.le_trans hb.size h5.size, fun i hi h1 h2 h3 => (h5.block i (by omega) h1 h2 h3 (by omega) (fun e => (by cases e))).trans (hb.block i hi)⟩
  obtain ⟨i1, i2, i3, i4, i5, i6⟩ := hi k
  have hX' : X = iter l ⟨r0, ⟨false, [], 0, 0, false, false, fun i => (w.alloc (portObj b)).cell? ⟨w.heap.size, i, none⟩⟩, m⟩ k := hX
  rw [← hX'] at i1 i2 i3 i4 i5 i6
  rcases hc with ⟨h9, rfl, hS⟩ | ⟨z, hz, h9, _⟩
  · have HE : Hid ((∃ k, EndsAt l m k ∧ Ending.returned (.iface 32 X.r.v) = .returned (.iface 32 (seqR l m k).1.v) ∧ Has w0 b c r (N + 40) w1 (seqR l m k).2)) := by
      refine ⟨k, ⟨by rw [← i1]; exact h9, fun i hik => ?_⟩, by rw [i1], by rw [← i2]; exact hS.has.less (by omega)⟩
      obtain ⟨z, a, hz, _⟩ := hRuns i hik
      have e1 : (iter l ⟨⟨0, 0, 0, 0, 0⟩, ⟨false, [], 0, 0, false, false, fun i => (w.alloc (portObj b)).cell? ⟨w.heap.size, i, none⟩⟩, m⟩ i).r = (seqR l m i).1 := (hi i).1
      have := (List.getElem?_eq_some_iff.1 hz).1
      rw [← e1]
      exact this
    clear hd hRuns hX hW h5 h6 hi i1 i2 i3 i4 i5 i6 hX' h9 hS
    go_wp2
    go_ret
    exact ⟨HE.out, HK.out⟩
  · exfalso
    have hask : X.asked z = (some ((z.q X.r.told).on X.m).2, X.s, ((z.q X.r.told).on X.m).1) := Pt.ask_do (by rw [i3]; simp) i5 i6 _ _
    rw [hask] at h9
    cases h9
end Go.Proofs.YthdcilbbllldiaaDoor
