/- What MustNumber, MustName and MustText do: they answer what a box holds, if it is of that kind, and else panic; and what number, name and text tell of that. No condition. -/
import Derived.Test.YtpbhjbdobpejpaaWalkB
import Derived.Defers
import Derived.Recover
namespace Go.Proofs.Ytpbhjbdobpejpaa
open Go.RowKit

def tobj (P : Program) (c : Value) (a : TypeId) : Obj := .cells #[typeHandle P 20, c, typeHandle P a, .string ⟨#[]⟩] 52
def Thrown (e : Ending) : Prop := ∃ a, e = .panicked [{ v := .iface 15 (.pointer (some a)), recovered := false }]

theorem mu3_n (w : World) : (Instr.typeAssert .nilIface 20 3 false).run Try.prog w = .halt (.panic (.iface 15 (.pointer (some ⟨w.heap.size, 0, none⟩)))) (w.alloc (tobj Try.prog (.pointer none) 3)) := by kernel_rfl
theorem mu3_3 (v : Value) (w : World) : (Instr.typeAssert (.iface 3 v) 20 3 false).run Try.prog w = .ok v w := by kernel_rfl
theorem mu3_41 (v : Value) (w : World) : (Instr.typeAssert (.iface 41 v) 20 3 false).run Try.prog w = .halt (.panic (.iface 15 (.pointer (some ⟨w.heap.size, 0, none⟩)))) (w.alloc (tobj Try.prog (typeHandle Try.prog 41) 3)) := by kernel_rfl
theorem mu3_43 (v : Value) (w : World) : (Instr.typeAssert (.iface 43 v) 20 3 false).run Try.prog w = .halt (.panic (.iface 15 (.pointer (some ⟨w.heap.size, 0, none⟩)))) (w.alloc (tobj Try.prog (typeHandle Try.prog 43) 3)) := by kernel_rfl
theorem mu41_n (w : World) : (Instr.typeAssert .nilIface 20 41 false).run Try.prog w = .halt (.panic (.iface 15 (.pointer (some ⟨w.heap.size, 0, none⟩)))) (w.alloc (tobj Try.prog (.pointer none) 41)) := by kernel_rfl
theorem mu41_3 (v : Value) (w : World) : (Instr.typeAssert (.iface 3 v) 20 41 false).run Try.prog w = .halt (.panic (.iface 15 (.pointer (some ⟨w.heap.size, 0, none⟩)))) (w.alloc (tobj Try.prog (typeHandle Try.prog 3) 41)) := by kernel_rfl
theorem mu41_41 (v : Value) (w : World) : (Instr.typeAssert (.iface 41 v) 20 41 false).run Try.prog w = .ok v w := by kernel_rfl
theorem mu41_43 (v : Value) (w : World) : (Instr.typeAssert (.iface 43 v) 20 41 false).run Try.prog w = .halt (.panic (.iface 15 (.pointer (some ⟨w.heap.size, 0, none⟩)))) (w.alloc (tobj Try.prog (typeHandle Try.prog 43) 41)) := by kernel_rfl
theorem mu43_n (w : World) : (Instr.typeAssert .nilIface 20 43 false).run Try.prog w = .halt (.panic (.iface 15 (.pointer (some ⟨w.heap.size, 0, none⟩)))) (w.alloc (tobj Try.prog (.pointer none) 43)) := by kernel_rfl
theorem mu43_3 (v : Value) (w : World) : (Instr.typeAssert (.iface 3 v) 20 43 false).run Try.prog w = .halt (.panic (.iface 15 (.pointer (some ⟨w.heap.size, 0, none⟩)))) (w.alloc (tobj Try.prog (typeHandle Try.prog 3) 43)) := by kernel_rfl
theorem mu43_41 (v : Value) (w : World) : (Instr.typeAssert (.iface 41 v) 20 43 false).run Try.prog w = .halt (.panic (.iface 15 (.pointer (some ⟨w.heap.size, 0, none⟩)))) (w.alloc (tobj Try.prog (typeHandle Try.prog 41) 43)) := by kernel_rfl
theorem mu43_43 (v : Value) (w : World) : (Instr.typeAssert (.iface 43 v) 20 43 false).run Try.prog w = .ok v w := by kernel_rfl

theorem must3_yes (n : Int) (w : World) : Calls Try.prog 23 #[.agg #[(Bx.num n).v]] w fun e w' => e = .returned (.int .i64 n) ∧ Below w.heap.size w w' := by
  have h := mu3_3
  simp only [Bx.v]
  go_enter Try.func23, Try.ntmps23
  go_wp2
  go_ret
  exact ⟨rfl, (Below.refl _ _).alloc (Nat.le_refl _) _⟩
theorem must3_no (b : Bx) (hb : b.isNum = false) (w : World) : Calls Try.prog 23 #[.agg #[b.v]] w fun e w' => Thrown e ∧ Below w.heap.size w w' := by
  have hn := mu3_n
  have h41 := mu3_41
  have h43 := mu3_43
  cases b
  case num => cases hb
  all_goals
    clear hb
    simp only [Bx.v]
    go_enter Try.func23, Try.ntmps23
    go_wp2
    exact ⟨rfl, ⟨_, rfl⟩, ((Below.refl _ _).alloc (Nat.le_refl _) _).alloc (by simp) _⟩

theorem catch3_panicking (p : Addr) (x : Bool) (u : TypeId) (pv : Value) (older : List PanicEntry) (w : World) (hc : w.cell? p = some (.bool x)) (hz : w.frozen? p = false) :
    CallsD Try.prog 22 #[.pointer (some p)] (.panicking ({ v := .iface u pv, recovered := false } :: older)) w fun e u' w' =>
      e = .returned (.tuple #[]) ∧ u' = .panicking ({ v := .iface u pv, recovered := true } :: older) ∧ w' = w.setCell p (.bool false) := by
  refine callsD_of_wpS Try.func22 rfl fun c₀ cs hu => ?_
  apply wpS_seq
  apply wpS_region
  simp [wpOpsS, go_sem, recoverD, hu, Try.ntmps22, Exit.thenS]
  refine wpS_cond (t := true) (by simp [Act.eval, Array.replicate]) ?_
  simp only [if_true]
  apply wpS_region
  simp [wpOpsS, go_sem, hc, hz, bodyPostS, results, Try.results22]

theorem catch3_idle (p : Addr) (w : World) :
    CallsD Try.prog 22 #[.pointer (some p)] .returning w fun e u' w' => e = .returned (.tuple #[]) ∧ u' = .returning ∧ w' = w := by
  refine callsD_of_wpS Try.func22 rfl fun c₀ cs hu => ?_
  apply wpS_seq
  apply wpS_region
  simp [wpOpsS, go_sem, recoverD, hu, Try.ntmps22, Exit.thenS]
  refine wpS_cond (t := false) (by simp [Act.eval, Array.replicate]) ?_
  simp only [Bool.false_eq_true, if_false]
  refine wpS_of_wp (wp_skip ?_)
  cases c₀
  simp_all [bodyPostS, results, Try.results22]

theorem must41_yes (s : ByteArray) (w : World) : Calls Try.prog 25 #[.agg #[(Bx.nam s).v]] w fun e w' => e = .returned (.string s) ∧ Below w.heap.size w w' := by
  have h := mu41_41
  simp only [Bx.v]
  go_enter Try.func25, Try.ntmps25
  go_wp2
  go_ret
  exact ⟨rfl, (Below.refl _ _).alloc (Nat.le_refl _) _⟩
theorem must41_no (b : Bx) (hb : b.isNam = false) (w : World) : Calls Try.prog 25 #[.agg #[b.v]] w fun e w' => Thrown e ∧ Below w.heap.size w w' := by
  have hn := mu41_n
  have h3 := mu41_3
  have h43 := mu41_43
  cases b
  case nam => cases hb
  all_goals
    clear hb
    simp only [Bx.v]
    go_enter Try.func25, Try.ntmps25
    go_wp2
    exact ⟨rfl, ⟨_, rfl⟩, ((Below.refl _ _).alloc (Nat.le_refl _) _).alloc (by simp) _⟩

theorem catch41_panicking (p : Addr) (x : Bool) (u : TypeId) (pv : Value) (older : List PanicEntry) (w : World) (hc : w.cell? p = some (.bool x)) (hz : w.frozen? p = false) :
    CallsD Try.prog 24 #[.pointer (some p)] (.panicking ({ v := .iface u pv, recovered := false } :: older)) w fun e u' w' =>
      e = .returned (.tuple #[]) ∧ u' = .panicking ({ v := .iface u pv, recovered := true } :: older) ∧ w' = w.setCell p (.bool false) := by
  refine callsD_of_wpS Try.func24 rfl fun c₀ cs hu => ?_
  apply wpS_seq
  apply wpS_region
  simp [wpOpsS, go_sem, recoverD, hu, Try.ntmps24, Exit.thenS]
  refine wpS_cond (t := true) (by simp [Act.eval, Array.replicate]) ?_
  simp only [if_true]
  apply wpS_region
  simp [wpOpsS, go_sem, hc, hz, bodyPostS, results, Try.results24]

theorem catch41_idle (p : Addr) (w : World) :
    CallsD Try.prog 24 #[.pointer (some p)] .returning w fun e u' w' => e = .returned (.tuple #[]) ∧ u' = .returning ∧ w' = w := by
  refine callsD_of_wpS Try.func24 rfl fun c₀ cs hu => ?_
  apply wpS_seq
  apply wpS_region
  simp [wpOpsS, go_sem, recoverD, hu, Try.ntmps24, Exit.thenS]
  refine wpS_cond (t := false) (by simp [Act.eval, Array.replicate]) ?_
  simp only [Bool.false_eq_true, if_false]
  refine wpS_of_wp (wp_skip ?_)
  cases c₀
  simp_all [bodyPostS, results, Try.results24]

theorem must43_yes (s : ByteArray) (w : World) : Calls Try.prog 27 #[.agg #[(Bx.txt s).v]] w fun e w' => e = .returned (.string s) ∧ Below w.heap.size w w' := by
  have h := mu43_43
  simp only [Bx.v]
  go_enter Try.func27, Try.ntmps27
  go_wp2
  go_ret
  exact ⟨rfl, (Below.refl _ _).alloc (Nat.le_refl _) _⟩
theorem must43_no (b : Bx) (hb : b.isTxt = false) (w : World) : Calls Try.prog 27 #[.agg #[b.v]] w fun e w' => Thrown e ∧ Below w.heap.size w w' := by
  have hn := mu43_n
  have h3 := mu43_3
  have h41 := mu43_41
  cases b
  case txt => cases hb
  all_goals
    clear hb
    simp only [Bx.v]
    go_enter Try.func27, Try.ntmps27
    go_wp2
    exact ⟨rfl, ⟨_, rfl⟩, ((Below.refl _ _).alloc (Nat.le_refl _) _).alloc (by simp) _⟩

theorem catch43_panicking (p : Addr) (x : Bool) (u : TypeId) (pv : Value) (older : List PanicEntry) (w : World) (hc : w.cell? p = some (.bool x)) (hz : w.frozen? p = false) :
    CallsD Try.prog 26 #[.pointer (some p)] (.panicking ({ v := .iface u pv, recovered := false } :: older)) w fun e u' w' =>
      e = .returned (.tuple #[]) ∧ u' = .panicking ({ v := .iface u pv, recovered := true } :: older) ∧ w' = w.setCell p (.bool false) := by
  refine callsD_of_wpS Try.func26 rfl fun c₀ cs hu => ?_
  apply wpS_seq
  apply wpS_region
  simp [wpOpsS, go_sem, recoverD, hu, Try.ntmps26, Exit.thenS]
  refine wpS_cond (t := true) (by simp [Act.eval, Array.replicate]) ?_
  simp only [if_true]
  apply wpS_region
  simp [wpOpsS, go_sem, hc, hz, bodyPostS, results, Try.results26]

theorem catch43_idle (p : Addr) (w : World) :
    CallsD Try.prog 26 #[.pointer (some p)] .returning w fun e u' w' => e = .returned (.tuple #[]) ∧ u' = .returning ∧ w' = w := by
  refine callsD_of_wpS Try.func26 rfl fun c₀ cs hu => ?_
  apply wpS_seq
  apply wpS_region
  simp [wpOpsS, go_sem, recoverD, hu, Try.ntmps26, Exit.thenS]
  refine wpS_cond (t := false) (by simp [Act.eval, Array.replicate]) ?_
  simp only [Bool.false_eq_true, if_false]
  refine wpS_of_wp (wp_skip ?_)
  cases c₀
  simp_all [bodyPostS, results, Try.results26]

end Go.Proofs.Ytpbhjbdobpejpaa
