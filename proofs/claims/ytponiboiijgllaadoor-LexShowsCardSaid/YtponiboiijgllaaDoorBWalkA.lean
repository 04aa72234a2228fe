/- What the small functions of layer 2 answer: what is put into a box, its kind, and what it holds under each kind. No condition. -/
import Derived.Test.YtponiboiijgllaaDoorRWalkA
import Derived.WalkKit
import Derived.WalkSpells
import Derived.WalkLawsBesides
import Derived.Deep.QuietTactic
import Derived.BigQuiet
import Derived.Lib.Hide
import Derived.Below
import Derived.KernelRfl
namespace Go.Proofs.YtponiboiijgllaaDoor
open Go.RowKit
set_option maxRecDepth 100000

inductive Bx where
  | no
  | num (n : Int)
  | nam (s : ByteArray)
  | txt (s : ByteArray)
def Bx.v : Bx → Value
  | .no => .nilIface
  | .num n => .iface 3 (.int .i64 n)
  | .nam s => .iface 79 (.string s)
  | .txt s => .iface 82 (.string s)
def Bx.kd : Bx → Int
  | .no => 0
  | .num _ => 1
  | .nam _ => 2
  | .txt _ => 3
def Bx.int : Bx → Int
  | .num n => n
  | _ => 0
def Bx.name : Bx → ByteArray
  | .nam s => s
  | _ => ⟨#[]⟩
def Bx.text : Bx → ByteArray
  | .txt s => s
  | _ => ⟨#[]⟩


theorem mk3 (x : Value) (w : World) : (Instr.makeInterface 3 x).run Tryd.prog w = .ok (.iface 3 x) w := run_makeInterface w 3 x (by kernel_rfl)
theorem mk41 (x : Value) (w : World) : (Instr.makeInterface 79 x).run Tryd.prog w = .ok (.iface 79 x) w := run_makeInterface w 79 x (by kernel_rfl)
theorem mk43 (x : Value) (w : World) : (Instr.makeInterface 82 x).run Tryd.prog w = .ok (.iface 82 x) w := run_makeInterface w 82 x (by kernel_rfl)

theorem as3_n (w : World) : (Instr.typeAssert .nilIface 20 3 true).run Tryd.prog w = .ok (.tuple #[.int .i64 0, .bool false]) w := by kernel_rfl
theorem as3_3 (v : Value) (w : World) : (Instr.typeAssert (.iface 3 v) 20 3 true).run Tryd.prog w = .ok (.tuple #[v, .bool true]) w := by kernel_rfl
theorem as3_41 (v : Value) (w : World) : (Instr.typeAssert (.iface 79 v) 20 3 true).run Tryd.prog w = .ok (.tuple #[.int .i64 0, .bool false]) w := by kernel_rfl
theorem as3_43 (v : Value) (w : World) : (Instr.typeAssert (.iface 82 v) 20 3 true).run Tryd.prog w = .ok (.tuple #[.int .i64 0, .bool false]) w := by kernel_rfl
theorem as41_n (w : World) : (Instr.typeAssert .nilIface 20 79 true).run Tryd.prog w = .ok (.tuple #[.string ⟨#[]⟩, .bool false]) w := by kernel_rfl
theorem as41_3 (v : Value) (w : World) : (Instr.typeAssert (.iface 3 v) 20 79 true).run Tryd.prog w = .ok (.tuple #[.string ⟨#[]⟩, .bool false]) w := by kernel_rfl
theorem as41_41 (v : Value) (w : World) : (Instr.typeAssert (.iface 79 v) 20 79 true).run Tryd.prog w = .ok (.tuple #[v, .bool true]) w := by kernel_rfl
theorem as41_43 (v : Value) (w : World) : (Instr.typeAssert (.iface 82 v) 20 79 true).run Tryd.prog w = .ok (.tuple #[.string ⟨#[]⟩, .bool false]) w := by kernel_rfl
theorem as43_n (w : World) : (Instr.typeAssert .nilIface 20 82 true).run Tryd.prog w = .ok (.tuple #[.string ⟨#[]⟩, .bool false]) w := by kernel_rfl
theorem as43_3 (v : Value) (w : World) : (Instr.typeAssert (.iface 3 v) 20 82 true).run Tryd.prog w = .ok (.tuple #[.string ⟨#[]⟩, .bool false]) w := by kernel_rfl
theorem as43_41 (v : Value) (w : World) : (Instr.typeAssert (.iface 79 v) 20 82 true).run Tryd.prog w = .ok (.tuple #[.string ⟨#[]⟩, .bool false]) w := by kernel_rfl
theorem as43_43 (v : Value) (w : World) : (Instr.typeAssert (.iface 82 v) 20 82 true).run Tryd.prog w = .ok (.tuple #[v, .bool true]) w := by kernel_rfl

theorem ofnum_any (n : Int) (w : World) : Calls Tryd.prog 51 #[.int .i64 n] w fun e w' => e = .returned (.agg #[(Bx.num n).v]) ∧ Below w.heap.size w w' := by
  have h := mk3
  go_enter Tryd.func51, Tryd.ntmps51
  go_wp2
  exact bodyPost_ret (v := .agg #[(Bx.num n).v]) (by simp [results, Tryd.results51, go_sem, Bx.v]) rfl ⟨rfl, (Below.refl _ _).alloc (Nat.le_refl _) _⟩
theorem ofnam_any (s : ByteArray) (w : World) : Calls Tryd.prog 52 #[.string s] w fun e w' => e = .returned (.agg #[(Bx.nam s).v]) ∧ Below w.heap.size w w' := by
  have h := mk41
  go_enter Tryd.func52, Tryd.ntmps52
  go_wp2
  exact bodyPost_ret (v := .agg #[(Bx.nam s).v]) (by simp [results, Tryd.results52, go_sem, Bx.v]) rfl ⟨rfl, (Below.refl _ _).alloc (Nat.le_refl _) _⟩
theorem oftxt_any (s : ByteArray) (w : World) : Calls Tryd.prog 53 #[.string s] w fun e w' => e = .returned (.agg #[(Bx.txt s).v]) ∧ Below w.heap.size w w' := by
  have h := mk43
  go_enter Tryd.func53, Tryd.ntmps53
  go_wp2
  exact bodyPost_ret (v := .agg #[(Bx.txt s).v]) (by simp [results, Tryd.results53, go_sem, Bx.v]) rfl ⟨rfl, (Below.refl _ _).alloc (Nat.le_refl _) _⟩

theorem kind_any (b : Bx) (w : World) : Calls Tryd.prog 20 #[.agg #[b.v]] w fun e w' => e = .returned (.int .i64 b.kd) ∧ Below w.heap.size w w' := by
  have h1 := as3_n
  have h2 := as41_n
  have h3 := as43_n
  have i1 := as3_3
  have i2 := as3_41
  have i3 := as3_43
  have j2 := as41_41
  have j3 := as41_43
  have k3 := as43_43
  cases b
  all_goals
    simp only [Bx.v]
    go_enter Tryd.func20, Tryd.ntmps20
    go_wp2
    go_ret
    exact ⟨rfl, (Below.refl _ _).alloc (Nat.le_refl _) _⟩
def Bx.isNum : Bx → Bool
  | .num _ => true
  | _ => false
def Bx.isNam : Bx → Bool
  | .nam _ => true
  | _ => false
def Bx.isTxt : Bx → Bool
  | .txt _ => true
  | _ => false
theorem asnum_any (b : Bx) (w : World) : Calls Tryd.prog 47 #[.agg #[b.v]] w fun e w' => e = .returned (.tuple #[.int .i64 b.int, .bool b.isNum]) ∧ Below w.heap.size w w' := by
  have h1 := as3_n
  have i1 := as3_3
  have i2 := as3_41
  have i3 := as3_43
  cases b
  all_goals
    simp only [Bx.v]
    go_enter Tryd.func47, Tryd.ntmps47
    go_wp2
    go_ret2
    exact ⟨rfl, (Below.refl _ _).alloc (Nat.le_refl _) _⟩
theorem asnam_any (b : Bx) (w : World) : Calls Tryd.prog 48 #[.agg #[b.v]] w fun e w' => e = .returned (.tuple #[.string b.name, .bool b.isNam]) ∧ Below w.heap.size w w' := by
  have h1 := as41_n
  have i1 := as41_3
  have i2 := as41_41
  have i3 := as41_43
  cases b
  all_goals
    simp only [Bx.v]
    go_enter Tryd.func48, Tryd.ntmps48
    go_wp2
    go_ret2
    exact ⟨rfl, (Below.refl _ _).alloc (Nat.le_refl _) _⟩
theorem astxt_any (b : Bx) (w : World) : Calls Tryd.prog 49 #[.agg #[b.v]] w fun e w' => e = .returned (.tuple #[.string b.text, .bool b.isTxt]) ∧ Below w.heap.size w w' := by
  have h1 := as43_n
  have i1 := as43_3
  have i2 := as43_41
  have i3 := as43_43
  cases b
  all_goals
    simp only [Bx.v]
    go_enter Tryd.func49, Tryd.ntmps49
    go_wp2
    go_ret2
    exact ⟨rfl, (Below.refl _ _).alloc (Nat.le_refl _) _⟩
end Go.Proofs.YtponiboiijgllaaDoor
