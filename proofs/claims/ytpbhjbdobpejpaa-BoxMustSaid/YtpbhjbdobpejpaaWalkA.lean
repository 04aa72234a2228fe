/- What the small functions of layer 2 answer: what is put into a box, its kind, and what it holds under each kind. No condition. -/
import Derived.Test.YtpbhjbdobpejpaaRows
import Derived.WalkKit
import Derived.WalkSpells
import Derived.WalkLawsBesides
import Derived.Deep.QuietTactic
import Derived.BigQuiet
import Derived.Lib.Hide
import Derived.Below
import Derived.KernelRfl
namespace Go.Proofs.Ytpbhjbdobpejpaa
open Go.RowKit

inductive Bx where
  | no
  | num (n : Int)
  | nam (s : ByteArray)
  | txt (s : ByteArray)
def Bx.v : Bx → Value
  | .no => .nilIface
  | .num n => .iface 3 (.int .i64 n)
  | .nam s => .iface 41 (.string s)
  | .txt s => .iface 43 (.string s)
def Bx.kd : Bx → Int
  | .no => 0
  | .num _ => 1
  | .nam _ => 2
  | .txt _ => 3
def Bx.int : Bx → Int
  | .num n => n
  | _ => 0
def Bx.name : Bx → ByteArray
  | .nam s => s
  | _ => ⟨#[]⟩
def Bx.text : Bx → ByteArray
  | .txt s => s
  | _ => ⟨#[]⟩

theorem ret_int {k : IntKind} {a b : Int} (h : a = b) : Ending.returned (.int k a) = .returned (.int k b) := by rw [h]
theorem ret_bool {a b : Bool} (h : a = b) : Ending.returned (.bool a) = .returned (.bool b) := by rw [h]

theorem mk3 (x : Value) (w : World) : (Instr.makeInterface 3 x).run Try.prog w = .ok (.iface 3 x) w := run_makeInterface w 3 x (by kernel_rfl)
theorem mk41 (x : Value) (w : World) : (Instr.makeInterface 41 x).run Try.prog w = .ok (.iface 41 x) w := run_makeInterface w 41 x (by kernel_rfl)
theorem mk43 (x : Value) (w : World) : (Instr.makeInterface 43 x).run Try.prog w = .ok (.iface 43 x) w := run_makeInterface w 43 x (by kernel_rfl)

theorem as3_n (w : World) : (Instr.typeAssert .nilIface 20 3 true).run Try.prog w = .ok (.tuple #[.int .i64 0, .bool false]) w := by kernel_rfl
theorem as3_3 (v : Value) (w : World) : (Instr.typeAssert (.iface 3 v) 20 3 true).run Try.prog w = .ok (.tuple #[v, .bool true]) w := by kernel_rfl
theorem as3_41 (v : Value) (w : World) : (Instr.typeAssert (.iface 41 v) 20 3 true).run Try.prog w = .ok (.tuple #[.int .i64 0, .bool false]) w := by kernel_rfl
theorem as3_43 (v : Value) (w : World) : (Instr.typeAssert (.iface 43 v) 20 3 true).run Try.prog w = .ok (.tuple #[.int .i64 0, .bool false]) w := by kernel_rfl
theorem as41_n (w : World) : (Instr.typeAssert .nilIface 20 41 true).run Try.prog w = .ok (.tuple #[.string ⟨#[]⟩, .bool false]) w := by kernel_rfl
theorem as41_3 (v : Value) (w : World) : (Instr.typeAssert (.iface 3 v) 20 41 true).run Try.prog w = .ok (.tuple #[.string ⟨#[]⟩, .bool false]) w := by kernel_rfl
theorem as41_41 (v : Value) (w : World) : (Instr.typeAssert (.iface 41 v) 20 41 true).run Try.prog w = .ok (.tuple #[v, .bool true]) w := by kernel_rfl
theorem as41_43 (v : Value) (w : World) : (Instr.typeAssert (.iface 43 v) 20 41 true).run Try.prog w = .ok (.tuple #[.string ⟨#[]⟩, .bool false]) w := by kernel_rfl
theorem as43_n (w : World) : (Instr.typeAssert .nilIface 20 43 true).run Try.prog w = .ok (.tuple #[.string ⟨#[]⟩, .bool false]) w := by kernel_rfl
theorem as43_3 (v : Value) (w : World) : (Instr.typeAssert (.iface 3 v) 20 43 true).run Try.prog w = .ok (.tuple #[.string ⟨#[]⟩, .bool false]) w := by kernel_rfl
theorem as43_41 (v : Value) (w : World) : (Instr.typeAssert (.iface 41 v) 20 43 true).run Try.prog w = .ok (.tuple #[.string ⟨#[]⟩, .bool false]) w := by kernel_rfl
theorem as43_43 (v : Value) (w : World) : (Instr.typeAssert (.iface 43 v) 20 43 true).run Try.prog w = .ok (.tuple #[v, .bool true]) w := by kernel_rfl

theorem ofnum_any (n : Int) (w : World) : Calls Try.prog 20 #[.int .i64 n] w fun e w' => e = .returned (.agg #[(Bx.num n).v]) ∧ Below w.heap.size w w' := by
  have h := mk3
  go_enter Try.func20, Try.ntmps20
  go_wp2
  exact bodyPost_ret (v := .agg #[(Bx.num n).v]) (by simp [results, Try.results20, go_sem, Bx.v]) rfl ⟨rfl, (Below.refl _ _).alloc (Nat.le_refl _) _⟩
theorem ofnam_any (s : ByteArray) (w : World) : Calls Try.prog 21 #[.string s] w fun e w' => e = .returned (.agg #[(Bx.nam s).v]) ∧ Below w.heap.size w w' := by
  have h := mk41
  go_enter Try.func21, Try.ntmps21
  go_wp2
  exact bodyPost_ret (v := .agg #[(Bx.nam s).v]) (by simp [results, Try.results21, go_sem, Bx.v]) rfl ⟨rfl, (Below.refl _ _).alloc (Nat.le_refl _) _⟩
theorem oftxt_any (s : ByteArray) (w : World) : Calls Try.prog 19 #[.string s] w fun e w' => e = .returned (.agg #[(Bx.txt s).v]) ∧ Below w.heap.size w w' := by
  have h := mk43
  go_enter Try.func19, Try.ntmps19
  go_wp2
  exact bodyPost_ret (v := .agg #[(Bx.txt s).v]) (by simp [results, Try.results19, go_sem, Bx.v]) rfl ⟨rfl, (Below.refl _ _).alloc (Nat.le_refl _) _⟩

theorem kind_any (b : Bx) (w : World) : Calls Try.prog 13 #[.agg #[b.v]] w fun e w' => e = .returned (.int .i64 b.kd) ∧ Below w.heap.size w w' := by
  have h1 := as3_n
  have h2 := as41_n
  have h3 := as43_n
  have i1 := as3_3
  have i2 := as3_41
  have i3 := as3_43
  have j2 := as41_41
  have j3 := as41_43
  have k3 := as43_43
  cases b
  all_goals
    simp only [Bx.v]
    go_enter Try.func13, Try.ntmps13
    go_wp2
    go_ret
    exact ⟨rfl, (Below.refl _ _).alloc (Nat.le_refl _) _⟩
def Bx.isNum : Bx → Bool
  | .num _ => true
  | _ => false
def Bx.isNam : Bx → Bool
  | .nam _ => true
  | _ => false
def Bx.isTxt : Bx → Bool
  | .txt _ => true
  | _ => false
theorem asnum_any (b : Bx) (w : World) : Calls Try.prog 10 #[.agg #[b.v]] w fun e w' => e = .returned (.tuple #[.int .i64 b.int, .bool b.isNum]) ∧ Below w.heap.size w w' := by
  have h1 := as3_n
  have i1 := as3_3
  have i2 := as3_41
  have i3 := as3_43
  cases b
  all_goals
    simp only [Bx.v]
    go_enter Try.func10, Try.ntmps10
    go_wp2
    go_ret2
    exact ⟨rfl, (Below.refl _ _).alloc (Nat.le_refl _) _⟩
theorem asnam_any (b : Bx) (w : World) : Calls Try.prog 11 #[.agg #[b.v]] w fun e w' => e = .returned (.tuple #[.string b.name, .bool b.isNam]) ∧ Below w.heap.size w w' := by
  have h1 := as41_n
  have i1 := as41_3
  have i2 := as41_41
  have i3 := as41_43
  cases b
  all_goals
    simp only [Bx.v]
    go_enter Try.func11, Try.ntmps11
    go_wp2
    go_ret2
    exact ⟨rfl, (Below.refl _ _).alloc (Nat.le_refl _) _⟩
theorem astxt_any (b : Bx) (w : World) : Calls Try.prog 12 #[.agg #[b.v]] w fun e w' => e = .returned (.tuple #[.string b.text, .bool b.isTxt]) ∧ Below w.heap.size w w' := by
  have h1 := as43_n
  have i1 := as43_3
  have i2 := as43_41
  have i3 := as43_43
  cases b
  all_goals
    simp only [Bx.v]
    go_enter Try.func12, Try.ntmps12
    go_wp2
    go_ret2
    exact ⟨rfl, (Below.refl _ _).alloc (Nat.le_refl _) _⟩
end Go.Proofs.Ytpbhjbdobpejpaa
