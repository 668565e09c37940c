/-
  DERIVED. GIVEN WITH THE SEED: THE CARDS: each row of YtfddngpjaoffgaaDoorRows.lean that lists a variable, with what it lists TIED to the program's text (the seventh form; the later family's looks); each row that meets fmt, with fmt's text TOLD by the authors' own Lean function (tested against real Go, not proved from fmt's source: count such statements apart). THE CARD IS WHAT COUNTS. Prove the row's statement (the work); the ties are given (YtfddngpjaoffgaaDoorTie.lean); close each card by the builder's one call (the guide's Derived/Test/ToyasCard.lean, 'card_holds'). Laid BY PROGRAM, IN A SANDBOX (cutbox-door.mjs). By AI agents, Wed Nov 11 2026. No macro, syntax, notation, axiom, sorry.
-/
import Derived.Test.YtfddngpjaoffgaaDoorRows
import GoSem.ClaimSeven
namespace Go.Proofs.YtfddngpjaoffgaaDoor
namespace Rows

/-- THE TIED CARD OF 'lessorlaw01.AddrTexts'. -/
def addrTextsCard : Claim7 := { stood := { row := addrTextsRow, standIns := [], harness := (true, "9310130f80481b4bdea56bd4b5c4d5512bf70306a2c6310c6ca626452c0d66ab"), looks := true }, kinds := [], alts := [], laidByText := true, laidKinds := [.data, .data, .data, .data, .sentinel, .sentinel, .pinned], laidTests := true, laidLooks := .later }
def AddrTextsCardSaid : Prop := Claim7.holds Tryd.pinned (.plain (OpenSpec.ofChange addrTextsSpec)) addrTextsCard

/-- THE TIED CARD OF 'lessorlaw01.AddrPools'. -/
def addrPoolsCard : Claim7 := { stood := { row := addrPoolsRow, standIns := [], harness := (true, "9310130f80481b4bdea56bd4b5c4d5512bf70306a2c6310c6ca626452c0d66ab"), looks := true }, kinds := [], alts := [], laidByText := true, laidKinds := [.data, .data, .data], laidTests := true, laidLooks := .later }
def AddrPoolsCardSaid : Prop := Claim7.holds Tryd.pinned (.plain (OpenSpec.ofChange addrPoolsSpec)) addrPoolsCard

/-- THE TIED CARD OF 'lessorlaw01.AddrBack'. -/
def addrBackCard : Claim7 := { stood := { row := addrBackRow, standIns := [], harness := (true, "9310130f80481b4bdea56bd4b5c4d5512bf70306a2c6310c6ca626452c0d66ab"), looks := true }, kinds := [], alts := [], laidByText := true, laidKinds := [.data, .data, .data, .data, .sentinel, .sentinel, .pinned], laidTests := true, laidLooks := .later }
def AddrBackCardSaid : Prop := Claim7.holds Tryd.pinned (.plain (OpenSpec.ofChange addrBackSpec)) addrBackCard

/-- THE TIED CARD OF 'lessorlaw01.AddrIndex'. -/
def addrIndexCard : Claim7 := { stood := { row := addrIndexRow, standIns := [], harness := (true, "9310130f80481b4bdea56bd4b5c4d5512bf70306a2c6310c6ca626452c0d66ab"), looks := true }, kinds := [], alts := [], laidByText := true, laidKinds := [.data, .data, .data], laidTests := true, laidLooks := .later }
def AddrIndexCardSaid : Prop := Claim7.holds Tryd.pinned (.plain (OpenSpec.ofChange addrIndexSpec)) addrIndexCard

/-- THE TIED CARD OF 'lessorlaw01.AddrTurned'. -/
def addrTurnedCard : Claim7 := { stood := { row := addrTurnedRow, standIns := [], harness := (true, "9310130f80481b4bdea56bd4b5c4d5512bf70306a2c6310c6ca626452c0d66ab"), looks := true }, kinds := [], alts := [], laidByText := true, laidKinds := [.data, .data, .data], laidTests := true, laidLooks := .later }
def AddrTurnedCardSaid : Prop := Claim7.holds Tryd.pinned (.plain (OpenSpec.ofChange addrTurnedSpec)) addrTurnedCard

/-- THE SECOND FORM's CARD OF 'lessorlaw01.AddrTexts'. -/
def addrTextsUptoCard : Claim7 := { stood := { row := addrTextsUptoRow, standIns := [], harness := (true, "9310130f80481b4bdea56bd4b5c4d5512bf70306a2c6310c6ca626452c0d66ab"), looks := true }, kinds := [], alts := [], laidByText := true, laidKinds := [.data, .data, .data, .data, .sentinel, .sentinel, .pinned], laidTests := true, laidLooks := .later }
def AddrTextsUptoCardSaid : Prop := Claim7.holds Tryd.pinned (.plain (OpenSpec.upto addrTextsSpec)) addrTextsUptoCard

/-- THE SECOND FORM's CARD OF 'lessorlaw01.AddrPools'. -/
def addrPoolsUptoCard : Claim7 := { stood := { row := addrPoolsUptoRow, standIns := [], harness := (true, "9310130f80481b4bdea56bd4b5c4d5512bf70306a2c6310c6ca626452c0d66ab"), looks := true }, kinds := [], alts := [], laidByText := true, laidKinds := [.data, .data, .data], laidTests := true, laidLooks := .later }
def AddrPoolsUptoCardSaid : Prop := Claim7.holds Tryd.pinned (.plain (OpenSpec.upto addrPoolsSpec)) addrPoolsUptoCard

/-- THE SECOND FORM's CARD OF 'lessorlaw01.AddrBack'. -/
def addrBackUptoCard : Claim7 := { stood := { row := addrBackUptoRow, standIns := [], harness := (true, "9310130f80481b4bdea56bd4b5c4d5512bf70306a2c6310c6ca626452c0d66ab"), looks := true }, kinds := [], alts := [], laidByText := true, laidKinds := [.data, .data, .data, .data, .sentinel, .sentinel, .pinned], laidTests := true, laidLooks := .later }
def AddrBackUptoCardSaid : Prop := Claim7.holds Tryd.pinned (.plain (OpenSpec.upto addrBackSpec)) addrBackUptoCard

/-- THE SECOND FORM's CARD OF 'lessorlaw01.AddrIndex'. -/
def addrIndexUptoCard : Claim7 := { stood := { row := addrIndexUptoRow, standIns := [], harness := (true, "9310130f80481b4bdea56bd4b5c4d5512bf70306a2c6310c6ca626452c0d66ab"), looks := true }, kinds := [], alts := [], laidByText := true, laidKinds := [.data, .data, .data], laidTests := true, laidLooks := .later }
def AddrIndexUptoCardSaid : Prop := Claim7.holds Tryd.pinned (.plain (OpenSpec.upto addrIndexSpec)) addrIndexUptoCard

/-- THE SECOND FORM's CARD OF 'lessorlaw01.AddrTurned'. -/
def addrTurnedUptoCard : Claim7 := { stood := { row := addrTurnedUptoRow, standIns := [], harness := (true, "9310130f80481b4bdea56bd4b5c4d5512bf70306a2c6310c6ca626452c0d66ab"), looks := true }, kinds := [], alts := [], laidByText := true, laidKinds := [.data, .data, .data], laidTests := true, laidLooks := .later }
def AddrTurnedUptoCardSaid : Prop := Claim7.holds Tryd.pinned (.plain (OpenSpec.upto addrTurnedSpec)) addrTurnedUptoCard
end Rows
end Go.Proofs.YtfddngpjaoffgaaDoor
