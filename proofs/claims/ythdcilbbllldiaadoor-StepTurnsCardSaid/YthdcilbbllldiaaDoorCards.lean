/-
  DERIVED. GIVEN WITH THE SEED: THE CARDS: each row of YthdcilbbllldiaaDoorRows.lean that lists a variable, with what it lists TIED to the program's text (the seventh form; the later family's looks); each row that meets fmt, with fmt's text TOLD by the authors' own Lean function (tested against real Go, not proved from fmt's source: count such statements apart). THE CARD IS WHAT COUNTS. Prove the row's statement (the work); the ties are given (YthdcilbbllldiaaDoorTie.lean); close each card by the builder's one call (the guide's Derived/Test/ToyasCard.lean, 'card_holds'). Laid BY PROGRAM, IN A SANDBOX (cutbox-door.mjs). By AI agents, Wed Nov 11 2026. No macro, syntax, notation, axiom, sorry.
-/
import Derived.Test.YthdcilbbllldiaaDoorRows
import GoSem.ClaimSeven
namespace Go.Proofs.YthdcilbbllldiaaDoor
namespace Rows

/-- THE TIED CARD OF 'rundlelaw13.StepAlone'. -/
def stepAloneCard : Claim7 := { stood := { row := stepAloneRow, standIns := [], harness := (true, "076590ad38d225980890e0d5fdc5127d51515c1e52e0ad9257bcfae68778d1dc"), looks := true }, kinds := [], alts := [], laidByText := true, laidKinds := [.data], laidTests := true, laidLooks := .later }
def StepAloneCardSaid : Prop := Claim7.holds Tryd.pinned (.plain (OpenSpec.ofChange stepAloneSpec)) stepAloneCard

/-- THE TIED CARD OF 'rundlelaw13.StepTurns'. -/
def stepTurnsCard : Claim7 := { stood := { row := stepTurnsRow, standIns := [], harness := (true, "076590ad38d225980890e0d5fdc5127d51515c1e52e0ad9257bcfae68778d1dc"), looks := true }, kinds := [], alts := [], laidByText := true, laidKinds := [.data], laidTests := true, laidLooks := .later }
def StepTurnsCardSaid : Prop := Claim7.holds Tryd.pinned (.plain (OpenSpec.ofChange stepTurnsSpec)) stepTurnsCard

/-- THE TIED CARD OF 'rundlelaw13.StepCounts'. -/
def stepCountsCard : Claim7 := { stood := { row := stepCountsRow, standIns := [], harness := (true, "076590ad38d225980890e0d5fdc5127d51515c1e52e0ad9257bcfae68778d1dc"), looks := true }, kinds := [], alts := [], laidByText := true, laidKinds := [.data], laidTests := true, laidLooks := .later }
def StepCountsCardSaid : Prop := Claim7.holds Tryd.pinned (.plain (OpenSpec.ofChange stepCountsSpec)) stepCountsCard

/-- THE SECOND FORM's CARD OF 'rundlelaw13.StepAlone'. -/
def stepAloneUptoCard : Claim7 := { stood := { row := stepAloneUptoRow, standIns := [], harness := (true, "076590ad38d225980890e0d5fdc5127d51515c1e52e0ad9257bcfae68778d1dc"), looks := true }, kinds := [], alts := [], laidByText := true, laidKinds := [.data], laidTests := true, laidLooks := .later }
def StepAloneUptoCardSaid : Prop := Claim7.holds Tryd.pinned (.plain (OpenSpec.upto stepAloneSpec)) stepAloneUptoCard

/-- THE SECOND FORM's CARD OF 'rundlelaw13.StepTurns'. -/
def stepTurnsUptoCard : Claim7 := { stood := { row := stepTurnsUptoRow, standIns := [], harness := (true, "076590ad38d225980890e0d5fdc5127d51515c1e52e0ad9257bcfae68778d1dc"), looks := true }, kinds := [], alts := [], laidByText := true, laidKinds := [.data], laidTests := true, laidLooks := .later }
def StepTurnsUptoCardSaid : Prop := Claim7.holds Tryd.pinned (.plain (OpenSpec.upto stepTurnsSpec)) stepTurnsUptoCard

/-- THE SECOND FORM's CARD OF 'rundlelaw13.StepCounts'. -/
def stepCountsUptoCard : Claim7 := { stood := { row := stepCountsUptoRow, standIns := [], harness := (true, "076590ad38d225980890e0d5fdc5127d51515c1e52e0ad9257bcfae68778d1dc"), looks := true }, kinds := [], alts := [], laidByText := true, laidKinds := [.data], laidTests := true, laidLooks := .later }
def StepCountsUptoCardSaid : Prop := Claim7.holds Tryd.pinned (.plain (OpenSpec.upto stepCountsSpec)) stepCountsUptoCard
end Rows
end Go.Proofs.YthdcilbbllldiaaDoor
