/- What MustNumber, MustName and MustText do: they answer what a box holds, if it is of that kind, and else panic; and what number, name and text tell of that. No condition. -/
import Derived.Test.YtponiboiijgllaaDoorBWalkB
import Derived.Defers
import Derived.Recover
namespace Go.Proofs.YtponiboiijgllaaDoor
open Go.RowKit
set_option maxRecDepth 100000

def tobj (P : Program) (c : Value) (a : TypeId) : Obj := .cells #[typeHandle P 20, c, typeHandle P a, .string ⟨#[]⟩] 143
def Thrown (e : Ending) : Prop := ∃ a, e = .panicked [{ v := .iface 15 (.pointer (some a)), recovered := false }]

theorem mu3_n (w : World) : (Instr.typeAssert .nilIface 20 3 false).run Tryd.prog w = .halt (.panic (.iface 15 (.pointer (some ⟨w.heap.size, 0, none⟩)))) (w.alloc (tobj Tryd.prog (.pointer none) 3)) := by kernel_rfl
theorem mu3_3 (v : Value) (w : World) : (Instr.typeAssert (.iface 3 v) 20 3 false).run Tryd.prog w = .ok v w := by kernel_rfl
theorem mu3_41 (v : Value) (w : World) : (Instr.typeAssert (.iface 79 v) 20 3 false).run Tryd.prog w = .halt (.panic (.iface 15 (.pointer (some ⟨w.heap.size, 0, none⟩)))) (w.alloc (tobj Tryd.prog (typeHandle Tryd.prog 79) 3)) := by kernel_rfl
theorem mu3_43 (v : Value) (w : World) : (Instr.typeAssert (.iface 82 v) 20 3 false).run Tryd.prog w = .halt (.panic (.iface 15 (.pointer (some ⟨w.heap.size, 0, none⟩)))) (w.alloc (tobj Tryd.prog (typeHandle Tryd.prog 82) 3)) := by kernel_rfl
theorem mu41_n (w : World) : (Instr.typeAssert .nilIface 20 79 false).run Tryd.prog w = .halt (.panic (.iface 15 (.pointer (some ⟨w.heap.size, 0, none⟩)))) (w.alloc (tobj Tryd.prog (.pointer none) 79)) := by kernel_rfl
theorem mu41_3 (v : Value) (w : World) : (Instr.typeAssert (.iface 3 v) 20 79 false).run Tryd.prog w = .halt (.panic (.iface 15 (.pointer (some ⟨w.heap.size, 0, none⟩)))) (w.alloc (tobj Tryd.prog (typeHandle Tryd.prog 3) 79)) := by kernel_rfl
theorem mu41_41 (v : Value) (w : World) : (Instr.typeAssert (.iface 79 v) 20 79 false).run Tryd.prog w = .ok v w := by kernel_rfl
theorem mu41_43 (v : Value) (w : World) : (Instr.typeAssert (.iface 82 v) 20 79 false).run Tryd.prog w = .halt (.panic (.iface 15 (.pointer (some ⟨w.heap.size, 0, none⟩)))) (w.alloc (tobj Tryd.prog (typeHandle Tryd.prog 82) 79)) := by kernel_rfl
theorem mu43_n (w : World) : (Instr.typeAssert .nilIface 20 82 false).run Tryd.prog w = .halt (.panic (.iface 15 (.pointer (some ⟨w.heap.size, 0, none⟩)))) (w.alloc (tobj Tryd.prog (.pointer none) 82)) := by kernel_rfl
theorem mu43_3 (v : Value) (w : World) : (Instr.typeAssert (.iface 3 v) 20 82 false).run Tryd.prog w = .halt (.panic (.iface 15 (.pointer (some ⟨w.heap.size, 0, none⟩)))) (w.alloc (tobj Tryd.prog (typeHandle Tryd.prog 3) 82)) := by kernel_rfl
theorem mu43_41 (v : Value) (w : World) : (Instr.typeAssert (.iface 79 v) 20 82 false).run Tryd.prog w = .halt (.panic (.iface 15 (.pointer (some ⟨w.heap.size, 0, none⟩)))) (w.alloc (tobj Tryd.prog (typeHandle Tryd.prog 79) 82)) := by kernel_rfl
theorem mu43_43 (v : Value) (w : World) : (Instr.typeAssert (.iface 82 v) 20 82 false).run Tryd.prog w = .ok v w := by kernel_rfl

theorem must3_yes (n : Int) (w : World) : Calls Tryd.prog 35 #[.agg #[(Bx.num n).v]] w fun e w' => e = .returned (.int .i64 n) ∧ Below w.heap.size w w' := by
  have h := mu3_3
  simp only [Bx.v]
  go_enter Tryd.func35, Tryd.ntmps35
  go_wp2
  go_ret
  exact ⟨rfl, (Below.refl _ _).alloc (Nat.le_refl _) _⟩
theorem must3_no (b : Bx) (hb : b.isNum = false) (w : World) : Calls Tryd.prog 35 #[.agg #[b.v]] w fun e w' => Thrown e ∧ Below w.heap.size w w' := by
  have hn := mu3_n
  have h41 := mu3_41
  have h43 := mu3_43
  cases b
  case num => cases hb
  all_goals
    clear hb
    simp only [Bx.v]
    go_enter Tryd.func35, Tryd.ntmps35
    go_wp2
    exact ⟨rfl, ⟨_, rfl⟩, ((Below.refl _ _).alloc (Nat.le_refl _) _).alloc (by simp) _⟩



theorem must41_yes (s : ByteArray) (w : World) : Calls Tryd.prog 37 #[.agg #[(Bx.nam s).v]] w fun e w' => e = .returned (.string s) ∧ Below w.heap.size w w' := by
  have h := mu41_41
  simp only [Bx.v]
  go_enter Tryd.func37, Tryd.ntmps37
  go_wp2
  go_ret
  exact ⟨rfl, (Below.refl _ _).alloc (Nat.le_refl _) _⟩
theorem must41_no (b : Bx) (hb : b.isNam = false) (w : World) : Calls Tryd.prog 37 #[.agg #[b.v]] w fun e w' => Thrown e ∧ Below w.heap.size w w' := by
  have hn := mu41_n
  have h3 := mu41_3
  have h43 := mu41_43
  cases b
  case nam => cases hb
  all_goals
    clear hb
    simp only [Bx.v]
    go_enter Tryd.func37, Tryd.ntmps37
    go_wp2
    exact ⟨rfl, ⟨_, rfl⟩, ((Below.refl _ _).alloc (Nat.le_refl _) _).alloc (by simp) _⟩



theorem must43_yes (s : ByteArray) (w : World) : Calls Tryd.prog 38 #[.agg #[(Bx.txt s).v]] w fun e w' => e = .returned (.string s) ∧ Below w.heap.size w w' := by
  have h := mu43_43
  simp only [Bx.v]
  go_enter Tryd.func38, Tryd.ntmps38
  go_wp2
  go_ret
  exact ⟨rfl, (Below.refl _ _).alloc (Nat.le_refl _) _⟩
theorem must43_no (b : Bx) (hb : b.isTxt = false) (w : World) : Calls Tryd.prog 38 #[.agg #[b.v]] w fun e w' => Thrown e ∧ Below w.heap.size w w' := by
  have hn := mu43_n
  have h3 := mu43_3
  have h41 := mu43_41
  cases b
  case txt => cases hb
  all_goals
    clear hb
    simp only [Bx.v]
    go_enter Tryd.func38, Tryd.ntmps38
    go_wp2
    exact ⟨rfl, ⟨_, rfl⟩, ((Below.refl _ _).alloc (Nat.le_refl _) _).alloc (by simp) _⟩



end Go.Proofs.YtponiboiijgllaaDoor
