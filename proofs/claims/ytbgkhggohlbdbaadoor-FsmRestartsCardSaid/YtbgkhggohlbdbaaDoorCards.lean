/-
  DERIVED. GIVEN WITH THE SEED: THE CARDS: each row of YtbgkhggohlbdbaaDoorRows.lean that lists a variable, with what it lists TIED to the program's text (the seventh form; the later family's looks); each row that meets fmt, with fmt's text TOLD by the authors' own Lean function (tested against real Go, not proved from fmt's source: count such statements apart). THE CARD IS WHAT COUNTS. Prove the row's statement (the work); the ties are given (YtbgkhggohlbdbaaDoorTie.lean); close each card by the builder's one call (the guide's Derived/Test/ToyasCard.lean, 'card_holds'). Laid BY PROGRAM, IN A SANDBOX (cutbox-door.mjs). By AI agents, Wed Nov 11 2026. No macro, syntax, notation, axiom, sorry.
-/
import Derived.Test.YtbgkhggohlbdbaaDoorRows
import GoSem.ClaimSeven
namespace Go.Proofs.YtbgkhggohlbdbaaDoor
namespace Rows

/-- THE TIED CARD OF 'lessorlaw14.FsmNexts'. -/
def fsmNextsCard : Claim7 := { stood := { row := fsmNextsRow, standIns := [], harness := (true, "70e1c1568311a11992e4da921012767484efbf20218078f026a10fd205cd9900"), looks := false }, kinds := [], alts := [], laidByText := true, laidKinds := [.data, .data], laidTests := true, laidLooks := .later }
def FsmNextsCardSaid : Prop := Claim7.holds Tryd.pinned (.plain (OpenSpec.ofChange fsmNextsSpec)) fsmNextsCard

/-- THE TIED CARD OF 'lessorlaw14.FsmTells'. -/
def fsmTellsCard : Claim7 := { stood := { row := fsmTellsRow, standIns := [], harness := (true, "70e1c1568311a11992e4da921012767484efbf20218078f026a10fd205cd9900"), looks := false }, kinds := [], alts := [], laidByText := true, laidKinds := [.data, .data], laidTests := true, laidLooks := .later }
def FsmTellsCardSaid : Prop := Claim7.holds Tryd.pinned (.plain (OpenSpec.ofChange fsmTellsSpec)) fsmTellsCard

/-- THE TIED CARD OF 'lessorlaw14.FsmOrders'. -/
def fsmOrdersCard : Claim7 := { stood := { row := fsmOrdersRow, standIns := [], harness := (true, "70e1c1568311a11992e4da921012767484efbf20218078f026a10fd205cd9900"), looks := false }, kinds := [], alts := [], laidByText := true, laidKinds := [.data, .data], laidTests := true, laidLooks := .later }
def FsmOrdersCardSaid : Prop := Claim7.holds Tryd.pinned (.plain (OpenSpec.ofChange fsmOrdersSpec)) fsmOrdersCard

/-- THE TIED CARD OF 'lessorlaw14.FsmRestarts'. -/
def fsmRestartsCard : Claim7 := { stood := { row := fsmRestartsRow, standIns := [], harness := (true, "70e1c1568311a11992e4da921012767484efbf20218078f026a10fd205cd9900"), looks := false }, kinds := [], alts := [], laidByText := true, laidKinds := [.data, .data], laidTests := true, laidLooks := .later }
def FsmRestartsCardSaid : Prop := Claim7.holds Tryd.pinned (.plain (OpenSpec.ofChange fsmRestartsSpec)) fsmRestartsCard

/-- THE TIED CARD OF 'lessorlaw14.FsmMeets'. -/
def fsmMeetsCard : Claim7 := { stood := { row := fsmMeetsRow, standIns := [], harness := (true, "70e1c1568311a11992e4da921012767484efbf20218078f026a10fd205cd9900"), looks := false }, kinds := [], alts := [], laidByText := true, laidKinds := [.data, .data], laidTests := true, laidLooks := .later }
def FsmMeetsCardSaid : Prop := Claim7.holds Tryd.pinned (.plain (OpenSpec.ofChange fsmMeetsSpec)) fsmMeetsCard

/-- THE SECOND FORM's CARD OF 'lessorlaw14.FsmNexts'. -/
def fsmNextsUptoCard : Claim7 := { stood := { row := fsmNextsUptoRow, standIns := [], harness := (true, "70e1c1568311a11992e4da921012767484efbf20218078f026a10fd205cd9900"), looks := false }, kinds := [], alts := [], laidByText := true, laidKinds := [.data, .data], laidTests := true, laidLooks := .later }
def FsmNextsUptoCardSaid : Prop := Claim7.holds Tryd.pinned (.plain (OpenSpec.upto fsmNextsSpec)) fsmNextsUptoCard

/-- THE SECOND FORM's CARD OF 'lessorlaw14.FsmTells'. -/
def fsmTellsUptoCard : Claim7 := { stood := { row := fsmTellsUptoRow, standIns := [], harness := (true, "70e1c1568311a11992e4da921012767484efbf20218078f026a10fd205cd9900"), looks := false }, kinds := [], alts := [], laidByText := true, laidKinds := [.data, .data], laidTests := true, laidLooks := .later }
def FsmTellsUptoCardSaid : Prop := Claim7.holds Tryd.pinned (.plain (OpenSpec.upto fsmTellsSpec)) fsmTellsUptoCard

/-- THE SECOND FORM's CARD OF 'lessorlaw14.FsmOrders'. -/
def fsmOrdersUptoCard : Claim7 := { stood := { row := fsmOrdersUptoRow, standIns := [], harness := (true, "70e1c1568311a11992e4da921012767484efbf20218078f026a10fd205cd9900"), looks := false }, kinds := [], alts := [], laidByText := true, laidKinds := [.data, .data], laidTests := true, laidLooks := .later }
def FsmOrdersUptoCardSaid : Prop := Claim7.holds Tryd.pinned (.plain (OpenSpec.upto fsmOrdersSpec)) fsmOrdersUptoCard

/-- THE SECOND FORM's CARD OF 'lessorlaw14.FsmRestarts'. -/
def fsmRestartsUptoCard : Claim7 := { stood := { row := fsmRestartsUptoRow, standIns := [], harness := (true, "70e1c1568311a11992e4da921012767484efbf20218078f026a10fd205cd9900"), looks := false }, kinds := [], alts := [], laidByText := true, laidKinds := [.data, .data], laidTests := true, laidLooks := .later }
def FsmRestartsUptoCardSaid : Prop := Claim7.holds Tryd.pinned (.plain (OpenSpec.upto fsmRestartsSpec)) fsmRestartsUptoCard

/-- THE SECOND FORM's CARD OF 'lessorlaw14.FsmMeets'. -/
def fsmMeetsUptoCard : Claim7 := { stood := { row := fsmMeetsUptoRow, standIns := [], harness := (true, "70e1c1568311a11992e4da921012767484efbf20218078f026a10fd205cd9900"), looks := false }, kinds := [], alts := [], laidByText := true, laidKinds := [.data, .data], laidTests := true, laidLooks := .later }
def FsmMeetsUptoCardSaid : Prop := Claim7.holds Tryd.pinned (.plain (OpenSpec.upto fsmMeetsSpec)) fsmMeetsUptoCard
end Rows
end Go.Proofs.YtbgkhggohlbdbaaDoor
