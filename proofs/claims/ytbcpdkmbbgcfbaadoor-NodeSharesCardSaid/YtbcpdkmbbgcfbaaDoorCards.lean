/-
  DERIVED. GIVEN WITH THE SEED: THE CARDS: each row of YtbcpdkmbbgcfbaaDoorRows.lean that lists a variable, with what it lists TIED to the program's text (the seventh form; the later family's looks); each row that meets fmt, with fmt's text TOLD by the authors' own Lean function (tested against real Go, not proved from fmt's source: count such statements apart). THE CARD IS WHAT COUNTS. Prove the row's statement (the work); the ties are given (YtbcpdkmbbgcfbaaDoorTie.lean); close each card by the builder's one call (the guide's Derived/Test/ToyasCard.lean, 'card_holds'). Laid BY PROGRAM, IN A SANDBOX (cutbox-door.mjs). By AI agents, Wed Nov 11 2026. No macro, syntax, notation, axiom, sorry.
-/
import Derived.Test.YtbcpdkmbbgcfbaaDoorRows
import GoSem.ClaimSeven
namespace Go.Proofs.YtbcpdkmbbgcfbaaDoor
namespace Rows

/-- THE TIED CARD OF 'rundlelaw16.NodeChains'. -/
def nodeChainsCard : Claim7 := { stood := { row := nodeChainsRow, standIns := [], harness := (true, "9ccd6603112d9a18c84a424cc4950b9f2fad5e529f8390e7a09efdbe9006faa0"), looks := true }, kinds := [], alts := [], laidByText := true, laidKinds := [.data], laidTests := true, laidLooks := .later }
def NodeChainsCardSaid : Prop := Claim7.holds Tryd.pinned (.plain (OpenSpec.ofChange nodeChainsSpec)) nodeChainsCard

/-- THE TIED CARD OF 'rundlelaw16.NodeCuts'. -/
def nodeCutsCard : Claim7 := { stood := { row := nodeCutsRow, standIns := [], harness := (true, "9ccd6603112d9a18c84a424cc4950b9f2fad5e529f8390e7a09efdbe9006faa0"), looks := true }, kinds := [], alts := [], laidByText := true, laidKinds := [.data], laidTests := true, laidLooks := .later }
def NodeCutsCardSaid : Prop := Claim7.holds Tryd.pinned (.plain (OpenSpec.ofChange nodeCutsSpec)) nodeCutsCard

/-- THE TIED CARD OF 'rundlelaw16.NodeFells'. -/
def nodeFellsCard : Claim7 := { stood := { row := nodeFellsRow, standIns := [], harness := (true, "9ccd6603112d9a18c84a424cc4950b9f2fad5e529f8390e7a09efdbe9006faa0"), looks := true }, kinds := [], alts := [], laidByText := true, laidKinds := [.data], laidTests := true, laidLooks := .later }
def NodeFellsCardSaid : Prop := Claim7.holds Tryd.pinned (.plain (OpenSpec.ofChange nodeFellsSpec)) nodeFellsCard

/-- THE TIED CARD OF 'rundlelaw16.NodeShares'. -/
def nodeSharesCard : Claim7 := { stood := { row := nodeSharesRow, standIns := [], harness := (true, "9ccd6603112d9a18c84a424cc4950b9f2fad5e529f8390e7a09efdbe9006faa0"), looks := true }, kinds := [], alts := [], laidByText := true, laidKinds := [.data], laidTests := true, laidLooks := .later }
def NodeSharesCardSaid : Prop := Claim7.holds Tryd.pinned (.plain (OpenSpec.ofChange nodeSharesSpec)) nodeSharesCard

/-- THE TIED CARD OF 'rundlelaw16.NodeBack'. -/
def nodeBackCard : Claim7 := { stood := { row := nodeBackRow, standIns := [], harness := (true, "9ccd6603112d9a18c84a424cc4950b9f2fad5e529f8390e7a09efdbe9006faa0"), looks := true }, kinds := [], alts := [], laidByText := true, laidKinds := [.data], laidTests := true, laidLooks := .later }
def NodeBackCardSaid : Prop := Claim7.holds Tryd.pinned (.plain (OpenSpec.ofChange nodeBackSpec)) nodeBackCard

/-- THE TIED CARD OF 'rundlelaw16.NodeFull'. -/
def nodeFullCard : Claim7 := { stood := { row := nodeFullRow, standIns := [], harness := (true, "9ccd6603112d9a18c84a424cc4950b9f2fad5e529f8390e7a09efdbe9006faa0"), looks := true }, kinds := [], alts := [], laidByText := true, laidKinds := [.data], laidTests := true, laidLooks := .later }
def NodeFullCardSaid : Prop := Claim7.holds Tryd.pinned (.plain (OpenSpec.ofChange nodeFullSpec)) nodeFullCard

/-- THE TIED CARD OF 'rundlelaw16.NodeKinds'. -/
def nodeKindsCard : Claim7 := { stood := { row := nodeKindsRow, standIns := [], harness := (true, "9ccd6603112d9a18c84a424cc4950b9f2fad5e529f8390e7a09efdbe9006faa0"), looks := true }, kinds := [], alts := [], laidByText := true, laidKinds := [.data], laidTests := true, laidLooks := .later }
def NodeKindsCardSaid : Prop := Claim7.holds Tryd.pinned (.plain (OpenSpec.ofChange nodeKindsSpec)) nodeKindsCard

/-- THE TIED CARD OF 'rundlelaw16.NodeReads'. -/
def nodeReadsCard : Claim7 := { stood := { row := nodeReadsRow, standIns := [], harness := (true, "9ccd6603112d9a18c84a424cc4950b9f2fad5e529f8390e7a09efdbe9006faa0"), looks := true }, kinds := [], alts := [], laidByText := true, laidKinds := [.data], laidTests := true, laidLooks := .later }
def NodeReadsCardSaid : Prop := Claim7.holds Tryd.pinned (.plain (OpenSpec.ofChange nodeReadsSpec)) nodeReadsCard

/-- THE SECOND FORM's CARD OF 'rundlelaw16.NodeChains'. -/
def nodeChainsUptoCard : Claim7 := { stood := { row := nodeChainsUptoRow, standIns := [], harness := (true, "9ccd6603112d9a18c84a424cc4950b9f2fad5e529f8390e7a09efdbe9006faa0"), looks := true }, kinds := [], alts := [], laidByText := true, laidKinds := [.data], laidTests := true, laidLooks := .later }
def NodeChainsUptoCardSaid : Prop := Claim7.holds Tryd.pinned (.plain (OpenSpec.upto nodeChainsSpec)) nodeChainsUptoCard

/-- THE SECOND FORM's CARD OF 'rundlelaw16.NodeCuts'. -/
def nodeCutsUptoCard : Claim7 := { stood := { row := nodeCutsUptoRow, standIns := [], harness := (true, "9ccd6603112d9a18c84a424cc4950b9f2fad5e529f8390e7a09efdbe9006faa0"), looks := true }, kinds := [], alts := [], laidByText := true, laidKinds := [.data], laidTests := true, laidLooks := .later }
def NodeCutsUptoCardSaid : Prop := Claim7.holds Tryd.pinned (.plain (OpenSpec.upto nodeCutsSpec)) nodeCutsUptoCard

/-- THE SECOND FORM's CARD OF 'rundlelaw16.NodeFells'. -/
def nodeFellsUptoCard : Claim7 := { stood := { row := nodeFellsUptoRow, standIns := [], harness := (true, "9ccd6603112d9a18c84a424cc4950b9f2fad5e529f8390e7a09efdbe9006faa0"), looks := true }, kinds := [], alts := [], laidByText := true, laidKinds := [.data], laidTests := true, laidLooks := .later }
def NodeFellsUptoCardSaid : Prop := Claim7.holds Tryd.pinned (.plain (OpenSpec.upto nodeFellsSpec)) nodeFellsUptoCard

/-- THE SECOND FORM's CARD OF 'rundlelaw16.NodeShares'. -/
def nodeSharesUptoCard : Claim7 := { stood := { row := nodeSharesUptoRow, standIns := [], harness := (true, "9ccd6603112d9a18c84a424cc4950b9f2fad5e529f8390e7a09efdbe9006faa0"), looks := true }, kinds := [], alts := [], laidByText := true, laidKinds := [.data], laidTests := true, laidLooks := .later }
def NodeSharesUptoCardSaid : Prop := Claim7.holds Tryd.pinned (.plain (OpenSpec.upto nodeSharesSpec)) nodeSharesUptoCard

/-- THE SECOND FORM's CARD OF 'rundlelaw16.NodeBack'. -/
def nodeBackUptoCard : Claim7 := { stood := { row := nodeBackUptoRow, standIns := [], harness := (true, "9ccd6603112d9a18c84a424cc4950b9f2fad5e529f8390e7a09efdbe9006faa0"), looks := true }, kinds := [], alts := [], laidByText := true, laidKinds := [.data], laidTests := true, laidLooks := .later }
def NodeBackUptoCardSaid : Prop := Claim7.holds Tryd.pinned (.plain (OpenSpec.upto nodeBackSpec)) nodeBackUptoCard

/-- THE SECOND FORM's CARD OF 'rundlelaw16.NodeFull'. -/
def nodeFullUptoCard : Claim7 := { stood := { row := nodeFullUptoRow, standIns := [], harness := (true, "9ccd6603112d9a18c84a424cc4950b9f2fad5e529f8390e7a09efdbe9006faa0"), looks := true }, kinds := [], alts := [], laidByText := true, laidKinds := [.data], laidTests := true, laidLooks := .later }
def NodeFullUptoCardSaid : Prop := Claim7.holds Tryd.pinned (.plain (OpenSpec.upto nodeFullSpec)) nodeFullUptoCard

/-- THE SECOND FORM's CARD OF 'rundlelaw16.NodeKinds'. -/
def nodeKindsUptoCard : Claim7 := { stood := { row := nodeKindsUptoRow, standIns := [], harness := (true, "9ccd6603112d9a18c84a424cc4950b9f2fad5e529f8390e7a09efdbe9006faa0"), looks := true }, kinds := [], alts := [], laidByText := true, laidKinds := [.data], laidTests := true, laidLooks := .later }
def NodeKindsUptoCardSaid : Prop := Claim7.holds Tryd.pinned (.plain (OpenSpec.upto nodeKindsSpec)) nodeKindsUptoCard

/-- THE SECOND FORM's CARD OF 'rundlelaw16.NodeReads'. -/
def nodeReadsUptoCard : Claim7 := { stood := { row := nodeReadsUptoRow, standIns := [], harness := (true, "9ccd6603112d9a18c84a424cc4950b9f2fad5e529f8390e7a09efdbe9006faa0"), looks := true }, kinds := [], alts := [], laidByText := true, laidKinds := [.data], laidTests := true, laidLooks := .later }
def NodeReadsUptoCardSaid : Prop := Claim7.holds Tryd.pinned (.plain (OpenSpec.upto nodeReadsSpec)) nodeReadsUptoCard
end Rows
end Go.Proofs.YtbcpdkmbbgcfbaaDoor
