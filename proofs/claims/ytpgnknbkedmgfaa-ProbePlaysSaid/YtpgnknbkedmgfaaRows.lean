/-
  No cell of these rows narrows 'for every input' (looked for: loops, veiled, ifaces, maps, wideKeys, modest, calm, conditions, laid).
  DERIVED. THE GIVEN ROWS OF THIS SEAT. 5 by the template 'for every input the law returns true; each argument reads behind the call as it read before'; 0 by the template 'total and deterministic' (their statements: YtpgnknbkedmgfaaTotals.lean).
  GIVEN WITH THE SEED: the statements are not yours to turn. If you find one false, say at which input.
  Laid BY PROGRAM, IN A SANDBOX (cutbox-rows.mjs): the forced cells as the released guide's own fill.sh prints them over the translation 33f3672e6092e794… (all of the seat's roots in one cut). By AI agents, Wed Nov 11 2026. No macro, syntax, notation, axiom, sorry.
-/
import Derived.Test.YtpgnknbkedmgfaaChecked
import GoSem.Claim
import GoSem.ClaimJoined
import GoSem.ClaimMapViews
import Derived.JoinedTies
import Derived.KernelRfl
namespace Go.Proofs.Ytpgnknbkedmgfaa
/- THE CELL 'sum', in the pinned program and in every row, IS THE sha256 OF THE DUMP (.gsa) THAT YtpgnknbkedmgfaaProg.lean LOADS. Nothing in Lean hashes anything: it is a label: what it is worth is what the hold of that sum in a sandbox is worth. -/
noncomputable def Try.pinned : Pinned := { name := "ytpgnknbkedmgfaa", sum := "33f3672e6092e794fa6d51fe774310dfbff3c745e59fcd649b0732e660d1285f", checked := Try.checked }
namespace Rows
def none {H : Type} : Left H := { results := [], args := [] }

/-- 'rundlelaw06.ProbePlays': WHATEVER THE INPUT: true; the input reads as it did. -/
def probePlaysSpec : ChangeSpec := { name := "probePlays", fn := fun _ => fun
  | [d1, d2] => { results := [.lit (.bool true)], args := [d1, d2] }
  | _ => none }
def probePlaysRow : OpenClaim := { program := "ytpgnknbkedmgfaa", sum := "33f3672e6092e794fa6d51fe774310dfbff3c745e59fcd649b0732e660d1285f", func := "rundle/rundlelaw06.ProbePlays", spec := "probePlays", apart := false }
def ProbePlaysSaid : Prop := probePlaysRow.holds Try.pinned (OpenSpec.ofChange probePlaysSpec)

/-- ITS FALSE NEIGHBOUR: 'it returns false'. Refute it at one input. -/
def probePlaysWrong : ChangeSpec := { name := "probePlays", fn := fun _ => fun
  | [d1, d2] => { results := [.lit (.bool false)], args := [d1, d2] }
  | _ => none }
def ProbePlaysWrongFalsely : Prop := probePlaysRow.holds Try.pinned (OpenSpec.ofChange probePlaysWrong)

/-- 'rundlelaw06.ProbeFinds': WHATEVER THE INPUT: true; the input reads as it did. -/
def probeFindsSpec : ChangeSpec := { name := "probeFinds", fn := fun _ => fun
  | [d1, d2] => { results := [.lit (.bool true)], args := [d1, d2] }
  | _ => none }
def probeFindsRow : OpenClaim := { program := "ytpgnknbkedmgfaa", sum := "33f3672e6092e794fa6d51fe774310dfbff3c745e59fcd649b0732e660d1285f", func := "rundle/rundlelaw06.ProbeFinds", spec := "probeFinds", apart := false }
def ProbeFindsSaid : Prop := probeFindsRow.holds Try.pinned (OpenSpec.ofChange probeFindsSpec)

/-- ITS FALSE NEIGHBOUR: 'it returns false'. Refute it at one input. -/
def probeFindsWrong : ChangeSpec := { name := "probeFinds", fn := fun _ => fun
  | [d1, d2] => { results := [.lit (.bool false)], args := [d1, d2] }
  | _ => none }
def ProbeFindsWrongFalsely : Prop := probeFindsRow.holds Try.pinned (OpenSpec.ofChange probeFindsWrong)

/-- 'rundlelaw06.ProbeLooks': WHATEVER THE INPUT: true; the input reads as it did. -/
def probeLooksSpec : ChangeSpec := { name := "probeLooks", fn := fun _ => fun
  | [d1, d2] => { results := [.lit (.bool true)], args := [d1, d2] }
  | _ => none }
def probeLooksRow : OpenClaim := { program := "ytpgnknbkedmgfaa", sum := "33f3672e6092e794fa6d51fe774310dfbff3c745e59fcd649b0732e660d1285f", func := "rundle/rundlelaw06.ProbeLooks", spec := "probeLooks", apart := false }
def ProbeLooksSaid : Prop := probeLooksRow.holds Try.pinned (OpenSpec.ofChange probeLooksSpec)

/-- ITS FALSE NEIGHBOUR: 'it returns false'. Refute it at one input. -/
def probeLooksWrong : ChangeSpec := { name := "probeLooks", fn := fun _ => fun
  | [d1, d2] => { results := [.lit (.bool false)], args := [d1, d2] }
  | _ => none }
def ProbeLooksWrongFalsely : Prop := probeLooksRow.holds Try.pinned (OpenSpec.ofChange probeLooksWrong)

/-- 'rundlelaw06.ProbeRaw': WHATEVER THE INPUT: true; the input reads as it did. -/
def probeRawSpec : ChangeSpec := { name := "probeRaw", fn := fun _ => fun
  | [d1, d2, d3] => { results := [.lit (.bool true)], args := [d1, d2, d3] }
  | _ => none }
def probeRawRow : OpenClaim := { program := "ytpgnknbkedmgfaa", sum := "33f3672e6092e794fa6d51fe774310dfbff3c745e59fcd649b0732e660d1285f", func := "rundle/rundlelaw06.ProbeRaw", spec := "probeRaw", apart := false }
def ProbeRawSaid : Prop := probeRawRow.holds Try.pinned (OpenSpec.ofChange probeRawSpec)

/-- ITS FALSE NEIGHBOUR: 'it returns false'. Refute it at one input. -/
def probeRawWrong : ChangeSpec := { name := "probeRaw", fn := fun _ => fun
  | [d1, d2, d3] => { results := [.lit (.bool false)], args := [d1, d2, d3] }
  | _ => none }
def ProbeRawWrongFalsely : Prop := probeRawRow.holds Try.pinned (OpenSpec.ofChange probeRawWrong)

/-- 'rundlelaw06.ProbeSizes': WHATEVER THE INPUT: true; the input reads as it did. -/
def probeSizesSpec : ChangeSpec := { name := "probeSizes", fn := fun _ => fun
  | [d] => { results := [.lit (.bool true)], args := [d] }
  | _ => none }
def probeSizesRow : OpenClaim := { program := "ytpgnknbkedmgfaa", sum := "33f3672e6092e794fa6d51fe774310dfbff3c745e59fcd649b0732e660d1285f", func := "rundle/rundlelaw06.ProbeSizes", spec := "probeSizes", apart := false }
def ProbeSizesSaid : Prop := probeSizesRow.holds Try.pinned (OpenSpec.ofChange probeSizesSpec)

/-- ITS FALSE NEIGHBOUR: 'it returns false'. Refute it at one input. -/
def probeSizesWrong : ChangeSpec := { name := "probeSizes", fn := fun _ => fun
  | [d] => { results := [.lit (.bool false)], args := [d] }
  | _ => none }
def ProbeSizesWrongFalsely : Prop := probeSizesRow.holds Try.pinned (OpenSpec.ofChange probeSizesWrong)

/- THE SECOND FORM. 'bulk': how many values and letters a reading holds, each counted each time it is reached (what is shared counts as often as it is met; a slice's spare places count too). A statement '..UptoSaid' is the law's where the arguments, and the package variables that the reading takes, are together of bulk at most 1048576: NARROWER than '..Said'. Prove '..Said' where nothing that the law and all that it calls make is longer than what came in: it says more and counts as full. Else prove '..UptoSaid'. A law counts once. -/
mutual
def uptoBulk {H : Type} : DataW H → Nat
  | .lit (.string bytes) => bytes.length + 1
  | .lit _ => 1
  | .nil => 1
  | .ptr d => uptoBulk d + 1
  | .slice elems spare => uptoBulkAll elems + uptoBulkAll spare + 1
  | .agg parts => uptoBulkAll parts + 1
  | .iface _ d => uptoBulk d + 1
  | .map entries => uptoBulkEntries entries + 1
  | .held _ => 1
def uptoBulkAll {H : Type} : List (DataW H) → Nat
  | [] => 0
  | d :: r => uptoBulk d + uptoBulkAll r
def uptoBulkEntries {H : Type} : List (Lit × DataW H) → Nat
  | [] => 0
  | x :: r => uptoBulkEntry x + uptoBulkEntries r
def uptoBulkEntry {H : Type} : Lit × DataW H → Nat
  | (.string bytes, d) => bytes.length + uptoBulk d + 1
  | (_, d) => uptoBulk d + 1
 end
def uptoSmall : (H : Type) → List (DataW H) → Bool := fun _ ds => decide (uptoBulkAll ds ≤ 1048576)
def OpenSpec.upto (s : _root_.Go.ChangeSpec) : _root_.Go.OpenSpec := { _root_.Go.OpenSpec.ofChange s with cond := some uptoSmall }

/-- 'rundlelaw06.ProbePlays', WHERE WHAT IT READS IS OF BULK AT MOST 1048576: true; the input reads as it did. -/
def probePlaysUptoRow : OpenClaim := { program := "ytpgnknbkedmgfaa", sum := "33f3672e6092e794fa6d51fe774310dfbff3c745e59fcd649b0732e660d1285f", func := "rundle/rundlelaw06.ProbePlays", spec := "probePlays", apart := false, narrowed := true }
def ProbePlaysUptoSaid : Prop := probePlaysUptoRow.holds Try.pinned (OpenSpec.upto probePlaysSpec)

/-- 'rundlelaw06.ProbeFinds', WHERE WHAT IT READS IS OF BULK AT MOST 1048576: true; the input reads as it did. -/
def probeFindsUptoRow : OpenClaim := { program := "ytpgnknbkedmgfaa", sum := "33f3672e6092e794fa6d51fe774310dfbff3c745e59fcd649b0732e660d1285f", func := "rundle/rundlelaw06.ProbeFinds", spec := "probeFinds", apart := false, narrowed := true }
def ProbeFindsUptoSaid : Prop := probeFindsUptoRow.holds Try.pinned (OpenSpec.upto probeFindsSpec)

/-- 'rundlelaw06.ProbeLooks', WHERE WHAT IT READS IS OF BULK AT MOST 1048576: true; the input reads as it did. -/
def probeLooksUptoRow : OpenClaim := { program := "ytpgnknbkedmgfaa", sum := "33f3672e6092e794fa6d51fe774310dfbff3c745e59fcd649b0732e660d1285f", func := "rundle/rundlelaw06.ProbeLooks", spec := "probeLooks", apart := false, narrowed := true }
def ProbeLooksUptoSaid : Prop := probeLooksUptoRow.holds Try.pinned (OpenSpec.upto probeLooksSpec)

/-- 'rundlelaw06.ProbeRaw', WHERE WHAT IT READS IS OF BULK AT MOST 1048576: true; the input reads as it did. -/
def probeRawUptoRow : OpenClaim := { program := "ytpgnknbkedmgfaa", sum := "33f3672e6092e794fa6d51fe774310dfbff3c745e59fcd649b0732e660d1285f", func := "rundle/rundlelaw06.ProbeRaw", spec := "probeRaw", apart := false, narrowed := true }
def ProbeRawUptoSaid : Prop := probeRawUptoRow.holds Try.pinned (OpenSpec.upto probeRawSpec)

/-- 'rundlelaw06.ProbeSizes', WHERE WHAT IT READS IS OF BULK AT MOST 1048576: true; the input reads as it did. -/
def probeSizesUptoRow : OpenClaim := { program := "ytpgnknbkedmgfaa", sum := "33f3672e6092e794fa6d51fe774310dfbff3c745e59fcd649b0732e660d1285f", func := "rundle/rundlelaw06.ProbeSizes", spec := "probeSizes", apart := false, narrowed := true }
def ProbeSizesUptoSaid : Prop := probeSizesUptoRow.holds Try.pinned (OpenSpec.upto probeSizesSpec)

end Rows
end Go.Proofs.Ytpgnknbkedmgfaa
