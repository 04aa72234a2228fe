/-
  No cell of these rows narrows 'for every input' (looked for: loops, veiled, ifaces, maps, wideKeys, modest, calm, conditions, laid).
  DERIVED. THE GIVEN ROWS OF THIS SEAT. 4 by the template 'for every input the law returns true; each argument reads behind the call as it read before'; 0 by the template 'total and deterministic' (their statements: YtelibdiaihhfeaaTotals.lean).
  GIVEN WITH THE SEED: the statements are not yours to turn. If you find one false, say at which input.
  Laid BY PROGRAM, IN A SANDBOX (cutbox-rows.mjs): the forced cells as the released guide's own fill.sh prints them over the translation 1e46504d5b8c20a7… (all of the seat's roots in one cut). By AI agents, Wed Nov 11 2026. No macro, syntax, notation, axiom, sorry.
-/
import Derived.Test.YtelibdiaihhfeaaChecked
import GoSem.Claim
import GoSem.ClaimJoined
import GoSem.ClaimMapViews
import Derived.JoinedTies
import Derived.KernelRfl
namespace Go.Proofs.Ytelibdiaihhfeaa
/- THE CELL 'sum', in the pinned program and in every row, IS THE sha256 OF THE DUMP (.gsa) THAT YtelibdiaihhfeaaProg.lean LOADS. Nothing in Lean hashes anything: it is a label: what it is worth is what the hold of that sum in a sandbox is worth. -/
noncomputable def Try.pinned : Pinned := { name := "ytelibdiaihhfeaa", sum := "1e46504d5b8c20a76a7ea3df1b6381ce2c6790905b09c30c4eb74c88ab0122ba", checked := Try.checked }
namespace Rows
def none {H : Type} : Left H := { results := [], args := [] }

/-- 'rundlelaw07.PacePlays': WHATEVER THE INPUT: true; the input reads as it did. -/
def pacePlaysSpec : ChangeSpec := { name := "pacePlays", fn := fun _ => fun
  | [d1, d2, d3, d4] => { results := [.lit (.bool true)], args := [d1, d2, d3, d4] }
  | _ => none }
def pacePlaysRow : OpenClaim := { program := "ytelibdiaihhfeaa", sum := "1e46504d5b8c20a76a7ea3df1b6381ce2c6790905b09c30c4eb74c88ab0122ba", func := "rundle/rundlelaw07.PacePlays", spec := "pacePlays", apart := false }
def PacePlaysSaid : Prop := pacePlaysRow.holds Try.pinned (OpenSpec.ofChange pacePlaysSpec)

/-- ITS FALSE NEIGHBOUR: 'it returns false'. Refute it at one input. -/
def pacePlaysWrong : ChangeSpec := { name := "pacePlays", fn := fun _ => fun
  | [d1, d2, d3, d4] => { results := [.lit (.bool false)], args := [d1, d2, d3, d4] }
  | _ => none }
def PacePlaysWrongFalsely : Prop := pacePlaysRow.holds Try.pinned (OpenSpec.ofChange pacePlaysWrong)

/-- 'rundlelaw07.PaceBounds': WHATEVER THE INPUT: true; the input reads as it did. -/
def paceBoundsSpec : ChangeSpec := { name := "paceBounds", fn := fun _ => fun
  | [d1, d2, d3, d4, d5] => { results := [.lit (.bool true)], args := [d1, d2, d3, d4, d5] }
  | _ => none }
def paceBoundsRow : OpenClaim := { program := "ytelibdiaihhfeaa", sum := "1e46504d5b8c20a76a7ea3df1b6381ce2c6790905b09c30c4eb74c88ab0122ba", func := "rundle/rundlelaw07.PaceBounds", spec := "paceBounds", apart := false }
def PaceBoundsSaid : Prop := paceBoundsRow.holds Try.pinned (OpenSpec.ofChange paceBoundsSpec)

/-- ITS FALSE NEIGHBOUR: 'it returns false'. Refute it at one input. -/
def paceBoundsWrong : ChangeSpec := { name := "paceBounds", fn := fun _ => fun
  | [d1, d2, d3, d4, d5] => { results := [.lit (.bool false)], args := [d1, d2, d3, d4, d5] }
  | _ => none }
def PaceBoundsWrongFalsely : Prop := paceBoundsRow.holds Try.pinned (OpenSpec.ofChange paceBoundsWrong)

/-- 'rundlelaw07.PaceSettles': WHATEVER THE INPUT: true; the input reads as it did. -/
def paceSettlesSpec : ChangeSpec := { name := "paceSettles", fn := fun _ => fun
  | [d1, d2] => { results := [.lit (.bool true)], args := [d1, d2] }
  | _ => none }
def paceSettlesRow : OpenClaim := { program := "ytelibdiaihhfeaa", sum := "1e46504d5b8c20a76a7ea3df1b6381ce2c6790905b09c30c4eb74c88ab0122ba", func := "rundle/rundlelaw07.PaceSettles", spec := "paceSettles", apart := false }
def PaceSettlesSaid : Prop := paceSettlesRow.holds Try.pinned (OpenSpec.ofChange paceSettlesSpec)

/-- ITS FALSE NEIGHBOUR: 'it returns false'. Refute it at one input. -/
def paceSettlesWrong : ChangeSpec := { name := "paceSettles", fn := fun _ => fun
  | [d1, d2] => { results := [.lit (.bool false)], args := [d1, d2] }
  | _ => none }
def PaceSettlesWrongFalsely : Prop := paceSettlesRow.holds Try.pinned (OpenSpec.ofChange paceSettlesWrong)

/-- 'rundlelaw07.PaceApart': WHATEVER THE INPUT: true; the input reads as it did. -/
def paceApartSpec : ChangeSpec := { name := "paceApart", fn := fun _ => fun
  | [d1, d2, d3] => { results := [.lit (.bool true)], args := [d1, d2, d3] }
  | _ => none }
def paceApartRow : OpenClaim := { program := "ytelibdiaihhfeaa", sum := "1e46504d5b8c20a76a7ea3df1b6381ce2c6790905b09c30c4eb74c88ab0122ba", func := "rundle/rundlelaw07.PaceApart", spec := "paceApart", apart := false }
def PaceApartSaid : Prop := paceApartRow.holds Try.pinned (OpenSpec.ofChange paceApartSpec)

/-- ITS FALSE NEIGHBOUR: 'it returns false'. Refute it at one input. -/
def paceApartWrong : ChangeSpec := { name := "paceApart", fn := fun _ => fun
  | [d1, d2, d3] => { results := [.lit (.bool false)], args := [d1, d2, d3] }
  | _ => none }
def PaceApartWrongFalsely : Prop := paceApartRow.holds Try.pinned (OpenSpec.ofChange paceApartWrong)

/- THE SECOND FORM. 'bulk': how many values and letters a reading holds, each counted each time it is reached (what is shared counts as often as it is met; a slice's spare places count too). A statement '..UptoSaid' is the law's where the arguments, and the package variables that the reading takes, are together of bulk at most 1048576: NARROWER than '..Said'. Prove '..Said' where nothing that the law and all that it calls make is longer than what came in: it says more and counts as full. Else prove '..UptoSaid'. A law counts once. -/
mutual
def uptoBulk {H : Type} : DataW H → Nat
  | .lit (.string bytes) => bytes.length + 1
  | .lit _ => 1
  | .nil => 1
  | .ptr d => uptoBulk d + 1
  | .slice elems spare => uptoBulkAll elems + uptoBulkAll spare + 1
  | .agg parts => uptoBulkAll parts + 1
  | .iface _ d => uptoBulk d + 1
  | .map entries => uptoBulkEntries entries + 1
  | .held _ => 1
def uptoBulkAll {H : Type} : List (DataW H) → Nat
  | [] => 0
  | d :: r => uptoBulk d + uptoBulkAll r
def uptoBulkEntries {H : Type} : List (Lit × DataW H) → Nat
  | [] => 0
  | x :: r => uptoBulkEntry x + uptoBulkEntries r
def uptoBulkEntry {H : Type} : Lit × DataW H → Nat
  | (.string bytes, d) => bytes.length + uptoBulk d + 1
  | (_, d) => uptoBulk d + 1
 end
def uptoSmall : (H : Type) → List (DataW H) → Bool := fun _ ds => decide (uptoBulkAll ds ≤ 1048576)
def OpenSpec.upto (s : _root_.Go.ChangeSpec) : _root_.Go.OpenSpec := { _root_.Go.OpenSpec.ofChange s with cond := some uptoSmall }

/-- 'rundlelaw07.PacePlays', WHERE WHAT IT READS IS OF BULK AT MOST 1048576: true; the input reads as it did. -/
def pacePlaysUptoRow : OpenClaim := { program := "ytelibdiaihhfeaa", sum := "1e46504d5b8c20a76a7ea3df1b6381ce2c6790905b09c30c4eb74c88ab0122ba", func := "rundle/rundlelaw07.PacePlays", spec := "pacePlays", apart := false, narrowed := true }
def PacePlaysUptoSaid : Prop := pacePlaysUptoRow.holds Try.pinned (OpenSpec.upto pacePlaysSpec)

/-- 'rundlelaw07.PaceBounds', WHERE WHAT IT READS IS OF BULK AT MOST 1048576: true; the input reads as it did. -/
def paceBoundsUptoRow : OpenClaim := { program := "ytelibdiaihhfeaa", sum := "1e46504d5b8c20a76a7ea3df1b6381ce2c6790905b09c30c4eb74c88ab0122ba", func := "rundle/rundlelaw07.PaceBounds", spec := "paceBounds", apart := false, narrowed := true }
def PaceBoundsUptoSaid : Prop := paceBoundsUptoRow.holds Try.pinned (OpenSpec.upto paceBoundsSpec)

/-- 'rundlelaw07.PaceSettles', WHERE WHAT IT READS IS OF BULK AT MOST 1048576: true; the input reads as it did. -/
def paceSettlesUptoRow : OpenClaim := { program := "ytelibdiaihhfeaa", sum := "1e46504d5b8c20a76a7ea3df1b6381ce2c6790905b09c30c4eb74c88ab0122ba", func := "rundle/rundlelaw07.PaceSettles", spec := "paceSettles", apart := false, narrowed := true }
def PaceSettlesUptoSaid : Prop := paceSettlesUptoRow.holds Try.pinned (OpenSpec.upto paceSettlesSpec)

/-- 'rundlelaw07.PaceApart', WHERE WHAT IT READS IS OF BULK AT MOST 1048576: true; the input reads as it did. -/
def paceApartUptoRow : OpenClaim := { program := "ytelibdiaihhfeaa", sum := "1e46504d5b8c20a76a7ea3df1b6381ce2c6790905b09c30c4eb74c88ab0122ba", func := "rundle/rundlelaw07.PaceApart", spec := "paceApart", apart := false, narrowed := true }
def PaceApartUptoSaid : Prop := paceApartUptoRow.holds Try.pinned (OpenSpec.upto paceApartSpec)

end Rows
end Go.Proofs.Ytelibdiaihhfeaa
