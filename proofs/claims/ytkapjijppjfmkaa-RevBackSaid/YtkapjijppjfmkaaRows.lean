/-
  No cell of these rows narrows 'for every input' (looked for: loops, veiled, ifaces, maps, wideKeys, modest, calm, conditions, laid).
  DERIVED. THE GIVEN ROWS OF THIS SEAT. 4 by the template 'for every input the law returns true; each argument reads behind the call as it read before'; 0 by the template 'total and deterministic' (their statements: YtkapjijppjfmkaaTotals.lean).
  GIVEN WITH THE SEED: the statements are not yours to turn. If you find one false, say at which input.
  Laid BY PROGRAM, IN A SANDBOX (cutbox-rows.mjs): the forced cells as the released guide's own fill.sh prints them over the translation ed3bd4d850b62b85… (all of the seat's roots in one cut). By AI agents, Wed Nov 11 2026. No macro, syntax, notation, axiom, sorry.
-/
import Derived.Test.YtkapjijppjfmkaaChecked
import GoSem.Claim
import GoSem.ClaimJoined
import GoSem.ClaimMapViews
import Derived.JoinedTies
import Derived.KernelRfl
namespace Go.Proofs.Ytkapjijppjfmkaa
/- THE CELL 'sum', in the pinned program and in every row, IS THE sha256 OF THE DUMP (.gsa) THAT YtkapjijppjfmkaaProg.lean LOADS. Nothing in Lean hashes anything: it is a label: what it is worth is what the hold of that sum in a sandbox is worth. -/
noncomputable def Try.pinned : Pinned := { name := "ytkapjijppjfmkaa", sum := "ed3bd4d850b62b85009ff0b61331fe1260ae94c5ffffea034c674d488802dcc3", checked := Try.checked }
namespace Rows
def none {H : Type} : Left H := { results := [], args := [] }

/-- 'rundlelaw08.RevPlays': WHATEVER THE INPUT: true; the input reads as it did. -/
def revPlaysSpec : ChangeSpec := { name := "revPlays", fn := fun _ => fun
  | [d1, d2, d3, d4, d5, d6, d7] => { results := [.lit (.bool true)], args := [d1, d2, d3, d4, d5, d6, d7] }
  | _ => none }
def revPlaysRow : OpenClaim := { program := "ytkapjijppjfmkaa", sum := "ed3bd4d850b62b85009ff0b61331fe1260ae94c5ffffea034c674d488802dcc3", func := "rundle/rundlelaw08.RevPlays", spec := "revPlays", unfollowed := true, recurses := true, apart := false }
def RevPlaysSaid : Prop := revPlaysRow.holds Try.pinned (OpenSpec.ofChange revPlaysSpec)

/-- ITS FALSE NEIGHBOUR: 'it returns false'. Refute it at one input. -/
def revPlaysWrong : ChangeSpec := { name := "revPlays", fn := fun _ => fun
  | [d1, d2, d3, d4, d5, d6, d7] => { results := [.lit (.bool false)], args := [d1, d2, d3, d4, d5, d6, d7] }
  | _ => none }
def RevPlaysWrongFalsely : Prop := revPlaysRow.holds Try.pinned (OpenSpec.ofChange revPlaysWrong)

/-- 'rundlelaw08.RevApplies': WHATEVER THE INPUT: true; the input reads as it did. -/
def revAppliesSpec : ChangeSpec := { name := "revApplies", fn := fun _ => fun
  | [d1, d2, d3, d4, d5, d6] => { results := [.lit (.bool true)], args := [d1, d2, d3, d4, d5, d6] }
  | _ => none }
def revAppliesRow : OpenClaim := { program := "ytkapjijppjfmkaa", sum := "ed3bd4d850b62b85009ff0b61331fe1260ae94c5ffffea034c674d488802dcc3", func := "rundle/rundlelaw08.RevApplies", spec := "revApplies", unfollowed := true, recurses := true, apart := false }
def RevAppliesSaid : Prop := revAppliesRow.holds Try.pinned (OpenSpec.ofChange revAppliesSpec)

/-- ITS FALSE NEIGHBOUR: 'it returns false'. Refute it at one input. -/
def revAppliesWrong : ChangeSpec := { name := "revApplies", fn := fun _ => fun
  | [d1, d2, d3, d4, d5, d6] => { results := [.lit (.bool false)], args := [d1, d2, d3, d4, d5, d6] }
  | _ => none }
def RevAppliesWrongFalsely : Prop := revAppliesRow.holds Try.pinned (OpenSpec.ofChange revAppliesWrong)

/-- 'rundlelaw08.RevChanges': WHATEVER THE INPUT: true; the input reads as it did. -/
def revChangesSpec : ChangeSpec := { name := "revChanges", fn := fun _ => fun
  | [d1, d2, d3, d4] => { results := [.lit (.bool true)], args := [d1, d2, d3, d4] }
  | _ => none }
def revChangesRow : OpenClaim := { program := "ytkapjijppjfmkaa", sum := "ed3bd4d850b62b85009ff0b61331fe1260ae94c5ffffea034c674d488802dcc3", func := "rundle/rundlelaw08.RevChanges", spec := "revChanges", unfollowed := true, recurses := true, apart := false }
def RevChangesSaid : Prop := revChangesRow.holds Try.pinned (OpenSpec.ofChange revChangesSpec)

/-- ITS FALSE NEIGHBOUR: 'it returns false'. Refute it at one input. -/
def revChangesWrong : ChangeSpec := { name := "revChanges", fn := fun _ => fun
  | [d1, d2, d3, d4] => { results := [.lit (.bool false)], args := [d1, d2, d3, d4] }
  | _ => none }
def RevChangesWrongFalsely : Prop := revChangesRow.holds Try.pinned (OpenSpec.ofChange revChangesWrong)

/-- 'rundlelaw08.RevBack': WHATEVER THE INPUT: true; the input reads as it did. -/
def revBackSpec : ChangeSpec := { name := "revBack", fn := fun _ => fun
  | [d1, d2, d3, d4] => { results := [.lit (.bool true)], args := [d1, d2, d3, d4] }
  | _ => none }
def revBackRow : OpenClaim := { program := "ytkapjijppjfmkaa", sum := "ed3bd4d850b62b85009ff0b61331fe1260ae94c5ffffea034c674d488802dcc3", func := "rundle/rundlelaw08.RevBack", spec := "revBack", unfollowed := true, recurses := true, apart := false }
def RevBackSaid : Prop := revBackRow.holds Try.pinned (OpenSpec.ofChange revBackSpec)

/-- ITS FALSE NEIGHBOUR: 'it returns false'. Refute it at one input. -/
def revBackWrong : ChangeSpec := { name := "revBack", fn := fun _ => fun
  | [d1, d2, d3, d4] => { results := [.lit (.bool false)], args := [d1, d2, d3, d4] }
  | _ => none }
def RevBackWrongFalsely : Prop := revBackRow.holds Try.pinned (OpenSpec.ofChange revBackWrong)

/- THE SECOND FORM. 'bulk': how many values and letters a reading holds, each counted each time it is reached (what is shared counts as often as it is met; a slice's spare places count too). A statement '..UptoSaid' is the law's where the arguments, and the package variables that the reading takes, are together of bulk at most 1048576: NARROWER than '..Said'. Prove '..Said' where nothing that the law and all that it calls make is longer than what came in: it says more and counts as full. Else prove '..UptoSaid'. A law counts once. -/
mutual
def uptoBulk {H : Type} : DataW H → Nat
  | .lit (.string bytes) => bytes.length + 1
  | .lit _ => 1
  | .nil => 1
  | .ptr d => uptoBulk d + 1
  | .slice elems spare => uptoBulkAll elems + uptoBulkAll spare + 1
  | .agg parts => uptoBulkAll parts + 1
  | .iface _ d => uptoBulk d + 1
  | .map entries => uptoBulkEntries entries + 1
  | .held _ => 1
def uptoBulkAll {H : Type} : List (DataW H) → Nat
  | [] => 0
  | d :: r => uptoBulk d + uptoBulkAll r
def uptoBulkEntries {H : Type} : List (Lit × DataW H) → Nat
  | [] => 0
  | x :: r => uptoBulkEntry x + uptoBulkEntries r
def uptoBulkEntry {H : Type} : Lit × DataW H → Nat
  | (.string bytes, d) => bytes.length + uptoBulk d + 1
  | (_, d) => uptoBulk d + 1
 end
def uptoSmall : (H : Type) → List (DataW H) → Bool := fun _ ds => decide (uptoBulkAll ds ≤ 1048576)
def OpenSpec.upto (s : _root_.Go.ChangeSpec) : _root_.Go.OpenSpec := { _root_.Go.OpenSpec.ofChange s with cond := some uptoSmall }

/-- 'rundlelaw08.RevPlays', WHERE WHAT IT READS IS OF BULK AT MOST 1048576: true; the input reads as it did. -/
def revPlaysUptoRow : OpenClaim := { program := "ytkapjijppjfmkaa", sum := "ed3bd4d850b62b85009ff0b61331fe1260ae94c5ffffea034c674d488802dcc3", func := "rundle/rundlelaw08.RevPlays", spec := "revPlays", unfollowed := true, recurses := true, apart := false, narrowed := true }
def RevPlaysUptoSaid : Prop := revPlaysUptoRow.holds Try.pinned (OpenSpec.upto revPlaysSpec)

/-- 'rundlelaw08.RevApplies', WHERE WHAT IT READS IS OF BULK AT MOST 1048576: true; the input reads as it did. -/
def revAppliesUptoRow : OpenClaim := { program := "ytkapjijppjfmkaa", sum := "ed3bd4d850b62b85009ff0b61331fe1260ae94c5ffffea034c674d488802dcc3", func := "rundle/rundlelaw08.RevApplies", spec := "revApplies", unfollowed := true, recurses := true, apart := false, narrowed := true }
def RevAppliesUptoSaid : Prop := revAppliesUptoRow.holds Try.pinned (OpenSpec.upto revAppliesSpec)

/-- 'rundlelaw08.RevChanges', WHERE WHAT IT READS IS OF BULK AT MOST 1048576: true; the input reads as it did. -/
def revChangesUptoRow : OpenClaim := { program := "ytkapjijppjfmkaa", sum := "ed3bd4d850b62b85009ff0b61331fe1260ae94c5ffffea034c674d488802dcc3", func := "rundle/rundlelaw08.RevChanges", spec := "revChanges", unfollowed := true, recurses := true, apart := false, narrowed := true }
def RevChangesUptoSaid : Prop := revChangesUptoRow.holds Try.pinned (OpenSpec.upto revChangesSpec)

/-- 'rundlelaw08.RevBack', WHERE WHAT IT READS IS OF BULK AT MOST 1048576: true; the input reads as it did. -/
def revBackUptoRow : OpenClaim := { program := "ytkapjijppjfmkaa", sum := "ed3bd4d850b62b85009ff0b61331fe1260ae94c5ffffea034c674d488802dcc3", func := "rundle/rundlelaw08.RevBack", spec := "revBack", unfollowed := true, recurses := true, apart := false, narrowed := true }
def RevBackUptoSaid : Prop := revBackUptoRow.holds Try.pinned (OpenSpec.upto revBackSpec)

end Rows
end Go.Proofs.Ytkapjijppjfmkaa
