/-
  NARROWER THAN 'FOR EVERY INPUT', by the rows' own cells (each row's printed sentence says how): NodeChains: laid · NodeCuts: laid · NodeFells: laid · NodeShares: laid · NodeBack: laid · NodeFull: laid · NodeKinds: laid · NodeReads: laid.
  DERIVED. THE GIVEN ROWS OF THIS SEAT. 8 by the template 'for every input the law returns true; each argument reads behind the call as it read before'; 0 by the template 'total and deterministic' (their statements: YtbcpdkmbbgcfbaaDoorTotals.lean).
  GIVEN WITH THE SEED: the statements are not yours to turn. If you find one false, say at which input.
  Laid BY PROGRAM, IN A SANDBOX (cutbox-rows.mjs): the forced cells as the released guide's own fill.sh prints them over the translation a09a5aa15f970027… (all of the seat's roots in one cut). By AI agents, Wed Nov 11 2026. No macro, syntax, notation, axiom, sorry.
-/
import Derived.Test.YtbcpdkmbbgcfbaaDoorChecked
import GoSem.Claim
import GoSem.ClaimJoined
import GoSem.ClaimMapViews
import Derived.JoinedTies
import Derived.KernelRfl
namespace Go.Proofs.YtbcpdkmbbgcfbaaDoor
/- THE CELL 'sum', in the pinned program and in every row, IS THE sha256 OF THE DUMP (.gsa) THAT YtbcpdkmbbgcfbaaDoorProg.lean LOADS. Nothing in Lean hashes anything: it is a label: what it is worth is what the hold of that sum in a sandbox is worth. -/
noncomputable def Tryd.pinned : Pinned := { name := "ytbcpdkmbbgcfbaadoor", sum := "a09a5aa15f97002726edff8534afa3a66d01058cb62959b39308274eba0a12c3", checked := Tryd.checked }
namespace Rows
def none {H : Type} : Left H := { results := [], args := [] }

/- WHAT THE LISTED PACKAGE-LEVEL VARIABLES READ AS WHEN THE CALL BEGINS. Each datum BY PROGRAM (the guide's laid-datum.mjs) off the statement by which the dump's own 'gosem.cut.vars' lays the variable. In a bare row this is a premise. The card (YtbcpdkmbbgcfbaaDoorCards.lean) ties it to the program's text. -/
def laid_math_bits_deBruijn64tab {H : Type} : DataW H := .agg [.lit (.int .u8 0), .lit (.int .u8 1), .lit (.int .u8 56), .lit (.int .u8 2), .lit (.int .u8 57), .lit (.int .u8 49), .lit (.int .u8 28), .lit (.int .u8 3), .lit (.int .u8 61), .lit (.int .u8 58), .lit (.int .u8 42), .lit (.int .u8 50), .lit (.int .u8 38), .lit (.int .u8 29), .lit (.int .u8 17), .lit (.int .u8 4), .lit (.int .u8 62), .lit (.int .u8 47), .lit (.int .u8 59), .lit (.int .u8 36), .lit (.int .u8 45), .lit (.int .u8 43), .lit (.int .u8 51), .lit (.int .u8 22), .lit (.int .u8 53), .lit (.int .u8 39), .lit (.int .u8 33), .lit (.int .u8 30), .lit (.int .u8 24), .lit (.int .u8 18), .lit (.int .u8 12), .lit (.int .u8 5), .lit (.int .u8 63), .lit (.int .u8 55), .lit (.int .u8 48), .lit (.int .u8 27), .lit (.int .u8 60), .lit (.int .u8 41), .lit (.int .u8 37), .lit (.int .u8 16), .lit (.int .u8 46), .lit (.int .u8 35), .lit (.int .u8 44), .lit (.int .u8 21), .lit (.int .u8 52), .lit (.int .u8 32), .lit (.int .u8 23), .lit (.int .u8 11), .lit (.int .u8 54), .lit (.int .u8 26), .lit (.int .u8 40), .lit (.int .u8 15), .lit (.int .u8 34), .lit (.int .u8 20), .lit (.int .u8 31), .lit (.int .u8 10), .lit (.int .u8 25), .lit (.int .u8 14), .lit (.int .u8 19), .lit (.int .u8 9), .lit (.int .u8 13), .lit (.int .u8 8), .lit (.int .u8 7), .lit (.int .u8 6)]

/-- 'rundlelaw16.NodeChains': WHATEVER THE INPUT: true; the input reads as it did. -/
def nodeChainsSpec : ChangeSpec := { name := "nodeChains", fn := fun _ => fun
  | [d1, d2] => { results := [.lit (.bool true)], args := [d1, d2] }
  | _ => none }
def nodeChainsRow : OpenClaim := { program := "ytbcpdkmbbgcfbaadoor", sum := "a09a5aa15f97002726edff8534afa3a66d01058cb62959b39308274eba0a12c3", func := "rundle/rundlelaw16.NodeChains", spec := "nodeChains", unfollowed := true, recurses := true, named := ["math/bits.deBruijn64tab"], apart := false, laid := [("math/bits.deBruijn64tab", laid_math_bits_deBruijn64tab)] }
def NodeChainsSaid : Prop := nodeChainsRow.holds Tryd.pinned (OpenSpec.ofChange nodeChainsSpec)

/-- ITS FALSE NEIGHBOUR: 'it returns false'. Refute it at one input. -/
def nodeChainsWrong : ChangeSpec := { name := "nodeChains", fn := fun _ => fun
  | [d1, d2] => { results := [.lit (.bool false)], args := [d1, d2] }
  | _ => none }
def NodeChainsWrongFalsely : Prop := nodeChainsRow.holds Tryd.pinned (OpenSpec.ofChange nodeChainsWrong)

/-- 'rundlelaw16.NodeCuts': WHATEVER THE INPUT: true; the input reads as it did. -/
def nodeCutsSpec : ChangeSpec := { name := "nodeCuts", fn := fun _ => fun
  | [d1, d2] => { results := [.lit (.bool true)], args := [d1, d2] }
  | _ => none }
def nodeCutsRow : OpenClaim := { program := "ytbcpdkmbbgcfbaadoor", sum := "a09a5aa15f97002726edff8534afa3a66d01058cb62959b39308274eba0a12c3", func := "rundle/rundlelaw16.NodeCuts", spec := "nodeCuts", unfollowed := true, recurses := true, named := ["math/bits.deBruijn64tab"], apart := false, laid := [("math/bits.deBruijn64tab", laid_math_bits_deBruijn64tab)] }
def NodeCutsSaid : Prop := nodeCutsRow.holds Tryd.pinned (OpenSpec.ofChange nodeCutsSpec)

/-- ITS FALSE NEIGHBOUR: 'it returns false'. Refute it at one input. -/
def nodeCutsWrong : ChangeSpec := { name := "nodeCuts", fn := fun _ => fun
  | [d1, d2] => { results := [.lit (.bool false)], args := [d1, d2] }
  | _ => none }
def NodeCutsWrongFalsely : Prop := nodeCutsRow.holds Tryd.pinned (OpenSpec.ofChange nodeCutsWrong)

/-- 'rundlelaw16.NodeFells': WHATEVER THE INPUT: true; the input reads as it did. -/
def nodeFellsSpec : ChangeSpec := { name := "nodeFells", fn := fun _ => fun
  | [d1, d2] => { results := [.lit (.bool true)], args := [d1, d2] }
  | _ => none }
def nodeFellsRow : OpenClaim := { program := "ytbcpdkmbbgcfbaadoor", sum := "a09a5aa15f97002726edff8534afa3a66d01058cb62959b39308274eba0a12c3", func := "rundle/rundlelaw16.NodeFells", spec := "nodeFells", unfollowed := true, recurses := true, named := ["math/bits.deBruijn64tab"], apart := false, laid := [("math/bits.deBruijn64tab", laid_math_bits_deBruijn64tab)] }
def NodeFellsSaid : Prop := nodeFellsRow.holds Tryd.pinned (OpenSpec.ofChange nodeFellsSpec)

/-- ITS FALSE NEIGHBOUR: 'it returns false'. Refute it at one input. -/
def nodeFellsWrong : ChangeSpec := { name := "nodeFells", fn := fun _ => fun
  | [d1, d2] => { results := [.lit (.bool false)], args := [d1, d2] }
  | _ => none }
def NodeFellsWrongFalsely : Prop := nodeFellsRow.holds Tryd.pinned (OpenSpec.ofChange nodeFellsWrong)

/-- 'rundlelaw16.NodeShares': WHATEVER THE INPUT: true; the input reads as it did. -/
def nodeSharesSpec : ChangeSpec := { name := "nodeShares", fn := fun _ => fun
  | [d1, d2, d3] => { results := [.lit (.bool true)], args := [d1, d2, d3] }
  | _ => none }
def nodeSharesRow : OpenClaim := { program := "ytbcpdkmbbgcfbaadoor", sum := "a09a5aa15f97002726edff8534afa3a66d01058cb62959b39308274eba0a12c3", func := "rundle/rundlelaw16.NodeShares", spec := "nodeShares", unfollowed := true, recurses := true, named := ["math/bits.deBruijn64tab"], apart := false, laid := [("math/bits.deBruijn64tab", laid_math_bits_deBruijn64tab)] }
def NodeSharesSaid : Prop := nodeSharesRow.holds Tryd.pinned (OpenSpec.ofChange nodeSharesSpec)

/-- ITS FALSE NEIGHBOUR: 'it returns false'. Refute it at one input. -/
def nodeSharesWrong : ChangeSpec := { name := "nodeShares", fn := fun _ => fun
  | [d1, d2, d3] => { results := [.lit (.bool false)], args := [d1, d2, d3] }
  | _ => none }
def NodeSharesWrongFalsely : Prop := nodeSharesRow.holds Tryd.pinned (OpenSpec.ofChange nodeSharesWrong)

/-- 'rundlelaw16.NodeBack': WHATEVER THE INPUT: true; the input reads as it did. -/
def nodeBackSpec : ChangeSpec := { name := "nodeBack", fn := fun _ => fun
  | [d1, d2, d3, d4] => { results := [.lit (.bool true)], args := [d1, d2, d3, d4] }
  | _ => none }
def nodeBackRow : OpenClaim := { program := "ytbcpdkmbbgcfbaadoor", sum := "a09a5aa15f97002726edff8534afa3a66d01058cb62959b39308274eba0a12c3", func := "rundle/rundlelaw16.NodeBack", spec := "nodeBack", unfollowed := true, recurses := true, named := ["math/bits.deBruijn64tab"], apart := false, laid := [("math/bits.deBruijn64tab", laid_math_bits_deBruijn64tab)] }
def NodeBackSaid : Prop := nodeBackRow.holds Tryd.pinned (OpenSpec.ofChange nodeBackSpec)

/-- ITS FALSE NEIGHBOUR: 'it returns false'. Refute it at one input. -/
def nodeBackWrong : ChangeSpec := { name := "nodeBack", fn := fun _ => fun
  | [d1, d2, d3, d4] => { results := [.lit (.bool false)], args := [d1, d2, d3, d4] }
  | _ => none }
def NodeBackWrongFalsely : Prop := nodeBackRow.holds Tryd.pinned (OpenSpec.ofChange nodeBackWrong)

/-- 'rundlelaw16.NodeFull': WHATEVER THE INPUT: true; the input reads as it did. -/
def nodeFullSpec : ChangeSpec := { name := "nodeFull", fn := fun _ => fun
  | [d1, d2] => { results := [.lit (.bool true)], args := [d1, d2] }
  | _ => none }
def nodeFullRow : OpenClaim := { program := "ytbcpdkmbbgcfbaadoor", sum := "a09a5aa15f97002726edff8534afa3a66d01058cb62959b39308274eba0a12c3", func := "rundle/rundlelaw16.NodeFull", spec := "nodeFull", unfollowed := true, recurses := true, named := ["math/bits.deBruijn64tab"], apart := false, laid := [("math/bits.deBruijn64tab", laid_math_bits_deBruijn64tab)] }
def NodeFullSaid : Prop := nodeFullRow.holds Tryd.pinned (OpenSpec.ofChange nodeFullSpec)

/-- ITS FALSE NEIGHBOUR: 'it returns false'. Refute it at one input. -/
def nodeFullWrong : ChangeSpec := { name := "nodeFull", fn := fun _ => fun
  | [d1, d2] => { results := [.lit (.bool false)], args := [d1, d2] }
  | _ => none }
def NodeFullWrongFalsely : Prop := nodeFullRow.holds Tryd.pinned (OpenSpec.ofChange nodeFullWrong)

/-- 'rundlelaw16.NodeKinds': WHATEVER THE INPUT: true; the input reads as it did. -/
def nodeKindsSpec : ChangeSpec := { name := "nodeKinds", fn := fun _ => fun
  | [d] => { results := [.lit (.bool true)], args := [d] }
  | _ => none }
def nodeKindsRow : OpenClaim := { program := "ytbcpdkmbbgcfbaadoor", sum := "a09a5aa15f97002726edff8534afa3a66d01058cb62959b39308274eba0a12c3", func := "rundle/rundlelaw16.NodeKinds", spec := "nodeKinds", unfollowed := true, recurses := true, named := ["math/bits.deBruijn64tab"], apart := false, laid := [("math/bits.deBruijn64tab", laid_math_bits_deBruijn64tab)] }
def NodeKindsSaid : Prop := nodeKindsRow.holds Tryd.pinned (OpenSpec.ofChange nodeKindsSpec)

/-- ITS FALSE NEIGHBOUR: 'it returns false'. Refute it at one input. -/
def nodeKindsWrong : ChangeSpec := { name := "nodeKinds", fn := fun _ => fun
  | [d] => { results := [.lit (.bool false)], args := [d] }
  | _ => none }
def NodeKindsWrongFalsely : Prop := nodeKindsRow.holds Tryd.pinned (OpenSpec.ofChange nodeKindsWrong)

/-- 'rundlelaw16.NodeReads': WHATEVER THE INPUT: true; the input reads as it did. -/
def nodeReadsSpec : ChangeSpec := { name := "nodeReads", fn := fun _ => fun
  | [d1, d2, d3, d4] => { results := [.lit (.bool true)], args := [d1, d2, d3, d4] }
  | _ => none }
def nodeReadsRow : OpenClaim := { program := "ytbcpdkmbbgcfbaadoor", sum := "a09a5aa15f97002726edff8534afa3a66d01058cb62959b39308274eba0a12c3", func := "rundle/rundlelaw16.NodeReads", spec := "nodeReads", unfollowed := true, recurses := true, named := ["math/bits.deBruijn64tab"], apart := false, laid := [("math/bits.deBruijn64tab", laid_math_bits_deBruijn64tab)] }
def NodeReadsSaid : Prop := nodeReadsRow.holds Tryd.pinned (OpenSpec.ofChange nodeReadsSpec)

/-- ITS FALSE NEIGHBOUR: 'it returns false'. Refute it at one input. -/
def nodeReadsWrong : ChangeSpec := { name := "nodeReads", fn := fun _ => fun
  | [d1, d2, d3, d4] => { results := [.lit (.bool false)], args := [d1, d2, d3, d4] }
  | _ => none }
def NodeReadsWrongFalsely : Prop := nodeReadsRow.holds Tryd.pinned (OpenSpec.ofChange nodeReadsWrong)

/- THE SECOND FORM. 'bulk': how many values and letters a reading holds, each counted each time it is reached (what is shared counts as often as it is met; a slice's spare places count too). A statement '..UptoSaid' is the law's where the arguments, and the package variables that the reading takes, are together of bulk at most 1048576: NARROWER than '..Said'. Prove '..Said' where nothing that the law and all that it calls make is longer than what came in: it says more and counts as full. Else prove '..UptoSaid'. A law counts once. -/
mutual
def uptoBulk {H : Type} : DataW H → Nat
  | .lit (.string bytes) => bytes.length + 1
  | .lit _ => 1
  | .nil => 1
  | .ptr d => uptoBulk d + 1
  | .slice elems spare => uptoBulkAll elems + uptoBulkAll spare + 1
  | .agg parts => uptoBulkAll parts + 1
  | .iface _ d => uptoBulk d + 1
  | .map entries => uptoBulkEntries entries + 1
  | .held _ => 1
def uptoBulkAll {H : Type} : List (DataW H) → Nat
  | [] => 0
  | d :: r => uptoBulk d + uptoBulkAll r
def uptoBulkEntries {H : Type} : List (Lit × DataW H) → Nat
  | [] => 0
  | x :: r => uptoBulkEntry x + uptoBulkEntries r
def uptoBulkEntry {H : Type} : Lit × DataW H → Nat
  | (.string bytes, d) => bytes.length + uptoBulk d + 1
  | (_, d) => uptoBulk d + 1
 end
def uptoSmall : (H : Type) → List (DataW H) → Bool := fun _ ds => decide (uptoBulkAll ds ≤ 1048576)
def OpenSpec.upto (s : _root_.Go.ChangeSpec) : _root_.Go.OpenSpec := { _root_.Go.OpenSpec.ofChange s with cond := some uptoSmall }

/-- 'rundlelaw16.NodeChains', WHERE WHAT IT READS IS OF BULK AT MOST 1048576: true; the input reads as it did. -/
def nodeChainsUptoRow : OpenClaim := { program := "ytbcpdkmbbgcfbaadoor", sum := "a09a5aa15f97002726edff8534afa3a66d01058cb62959b39308274eba0a12c3", func := "rundle/rundlelaw16.NodeChains", spec := "nodeChains", unfollowed := true, recurses := true, named := ["math/bits.deBruijn64tab"], apart := false, laid := [("math/bits.deBruijn64tab", laid_math_bits_deBruijn64tab)], narrowed := true }
def NodeChainsUptoSaid : Prop := nodeChainsUptoRow.holds Tryd.pinned (OpenSpec.upto nodeChainsSpec)

/-- 'rundlelaw16.NodeCuts', WHERE WHAT IT READS IS OF BULK AT MOST 1048576: true; the input reads as it did. -/
def nodeCutsUptoRow : OpenClaim := { program := "ytbcpdkmbbgcfbaadoor", sum := "a09a5aa15f97002726edff8534afa3a66d01058cb62959b39308274eba0a12c3", func := "rundle/rundlelaw16.NodeCuts", spec := "nodeCuts", unfollowed := true, recurses := true, named := ["math/bits.deBruijn64tab"], apart := false, laid := [("math/bits.deBruijn64tab", laid_math_bits_deBruijn64tab)], narrowed := true }
def NodeCutsUptoSaid : Prop := nodeCutsUptoRow.holds Tryd.pinned (OpenSpec.upto nodeCutsSpec)

/-- 'rundlelaw16.NodeFells', WHERE WHAT IT READS IS OF BULK AT MOST 1048576: true; the input reads as it did. -/
def nodeFellsUptoRow : OpenClaim := { program := "ytbcpdkmbbgcfbaadoor", sum := "a09a5aa15f97002726edff8534afa3a66d01058cb62959b39308274eba0a12c3", func := "rundle/rundlelaw16.NodeFells", spec := "nodeFells", unfollowed := true, recurses := true, named := ["math/bits.deBruijn64tab"], apart := false, laid := [("math/bits.deBruijn64tab", laid_math_bits_deBruijn64tab)], narrowed := true }
def NodeFellsUptoSaid : Prop := nodeFellsUptoRow.holds Tryd.pinned (OpenSpec.upto nodeFellsSpec)

/-- 'rundlelaw16.NodeShares', WHERE WHAT IT READS IS OF BULK AT MOST 1048576: true; the input reads as it did. -/
def nodeSharesUptoRow : OpenClaim := { program := "ytbcpdkmbbgcfbaadoor", sum := "a09a5aa15f97002726edff8534afa3a66d01058cb62959b39308274eba0a12c3", func := "rundle/rundlelaw16.NodeShares", spec := "nodeShares", unfollowed := true, recurses := true, named := ["math/bits.deBruijn64tab"], apart := false, laid := [("math/bits.deBruijn64tab", laid_math_bits_deBruijn64tab)], narrowed := true }
def NodeSharesUptoSaid : Prop := nodeSharesUptoRow.holds Tryd.pinned (OpenSpec.upto nodeSharesSpec)

/-- 'rundlelaw16.NodeBack', WHERE WHAT IT READS IS OF BULK AT MOST 1048576: true; the input reads as it did. -/
def nodeBackUptoRow : OpenClaim := { program := "ytbcpdkmbbgcfbaadoor", sum := "a09a5aa15f97002726edff8534afa3a66d01058cb62959b39308274eba0a12c3", func := "rundle/rundlelaw16.NodeBack", spec := "nodeBack", unfollowed := true, recurses := true, named := ["math/bits.deBruijn64tab"], apart := false, laid := [("math/bits.deBruijn64tab", laid_math_bits_deBruijn64tab)], narrowed := true }
def NodeBackUptoSaid : Prop := nodeBackUptoRow.holds Tryd.pinned (OpenSpec.upto nodeBackSpec)

/-- 'rundlelaw16.NodeFull', WHERE WHAT IT READS IS OF BULK AT MOST 1048576: true; the input reads as it did. -/
def nodeFullUptoRow : OpenClaim := { program := "ytbcpdkmbbgcfbaadoor", sum := "a09a5aa15f97002726edff8534afa3a66d01058cb62959b39308274eba0a12c3", func := "rundle/rundlelaw16.NodeFull", spec := "nodeFull", unfollowed := true, recurses := true, named := ["math/bits.deBruijn64tab"], apart := false, laid := [("math/bits.deBruijn64tab", laid_math_bits_deBruijn64tab)], narrowed := true }
def NodeFullUptoSaid : Prop := nodeFullUptoRow.holds Tryd.pinned (OpenSpec.upto nodeFullSpec)

/-- 'rundlelaw16.NodeKinds', WHERE WHAT IT READS IS OF BULK AT MOST 1048576: true; the input reads as it did. -/
def nodeKindsUptoRow : OpenClaim := { program := "ytbcpdkmbbgcfbaadoor", sum := "a09a5aa15f97002726edff8534afa3a66d01058cb62959b39308274eba0a12c3", func := "rundle/rundlelaw16.NodeKinds", spec := "nodeKinds", unfollowed := true, recurses := true, named := ["math/bits.deBruijn64tab"], apart := false, laid := [("math/bits.deBruijn64tab", laid_math_bits_deBruijn64tab)], narrowed := true }
def NodeKindsUptoSaid : Prop := nodeKindsUptoRow.holds Tryd.pinned (OpenSpec.upto nodeKindsSpec)

/-- 'rundlelaw16.NodeReads', WHERE WHAT IT READS IS OF BULK AT MOST 1048576: true; the input reads as it did. -/
def nodeReadsUptoRow : OpenClaim := { program := "ytbcpdkmbbgcfbaadoor", sum := "a09a5aa15f97002726edff8534afa3a66d01058cb62959b39308274eba0a12c3", func := "rundle/rundlelaw16.NodeReads", spec := "nodeReads", unfollowed := true, recurses := true, named := ["math/bits.deBruijn64tab"], apart := false, laid := [("math/bits.deBruijn64tab", laid_math_bits_deBruijn64tab)], narrowed := true }
def NodeReadsUptoSaid : Prop := nodeReadsUptoRow.holds Tryd.pinned (OpenSpec.upto nodeReadsSpec)

end Rows
end Go.Proofs.YtbcpdkmbbgcfbaaDoor
