/-
  No cell of these rows narrows 'for every input' (looked for: loops, veiled, ifaces, maps, wideKeys, modest, calm, conditions, laid).
  DERIVED. THE GIVEN ROWS OF THIS SEAT. 5 by the template 'for every input the law returns true; each argument reads behind the call as it read before'; 0 by the template 'total and deterministic' (their statements: YtgkephjjdcppeaaTotals.lean).
  GIVEN WITH THE SEED: the statements are not yours to turn. If you find one false, say at which input.
  Laid BY PROGRAM, IN A SANDBOX (cutbox-rows.mjs): the forced cells as the released guide's own fill.sh prints them over the translation 9f07fb6314bc340c… (all of the seat's roots in one cut). By AI agents, Wed Nov 11 2026. No macro, syntax, notation, axiom, sorry.
-/
import Derived.Test.YtgkephjjdcppeaaChecked
import GoSem.Claim
import GoSem.ClaimJoined
import GoSem.ClaimMapViews
import Derived.JoinedTies
import Derived.KernelRfl
namespace Go.Proofs.Ytgkephjjdcppeaa
/- THE CELL 'sum', in the pinned program and in every row, IS THE sha256 OF THE DUMP (.gsa) THAT YtgkephjjdcppeaaProg.lean LOADS. Nothing in Lean hashes anything: it is a label: what it is worth is what the hold of that sum in a sandbox is worth. -/
noncomputable def Try.pinned : Pinned := { name := "ytgkephjjdcppeaa", sum := "9f07fb6314bc340c35884c6974aaa0fe3d3a86cd2aa2c37721497ddac032d409", checked := Try.checked }
namespace Rows
def none {H : Type} : Left H := { results := [], args := [] }

/-- 'lessorlaw07.ClockReckons': WHATEVER THE INPUT: true; the input reads as it did. -/
def clockReckonsSpec : ChangeSpec := { name := "clockReckons", fn := fun _ => fun
  | [d1, d2, d3] => { results := [.lit (.bool true)], args := [d1, d2, d3] }
  | _ => none }
def clockReckonsRow : OpenClaim := { program := "ytgkephjjdcppeaa", sum := "9f07fb6314bc340c35884c6974aaa0fe3d3a86cd2aa2c37721497ddac032d409", func := "lessor/lessorlaw07.ClockReckons", spec := "clockReckons", apart := false }
def ClockReckonsSaid : Prop := clockReckonsRow.holds Try.pinned (OpenSpec.ofChange clockReckonsSpec)

/-- ITS FALSE NEIGHBOUR: 'it returns false'. Refute it at one input. -/
def clockReckonsWrong : ChangeSpec := { name := "clockReckons", fn := fun _ => fun
  | [d1, d2, d3] => { results := [.lit (.bool false)], args := [d1, d2, d3] }
  | _ => none }
def ClockReckonsWrongFalsely : Prop := clockReckonsRow.holds Try.pinned (OpenSpec.ofChange clockReckonsWrong)

/-- 'lessorlaw07.ClockRises': WHATEVER THE INPUT: true; the input reads as it did. -/
def clockRisesSpec : ChangeSpec := { name := "clockRises", fn := fun _ => fun
  | [d1, d2] => { results := [.lit (.bool true)], args := [d1, d2] }
  | _ => none }
def clockRisesRow : OpenClaim := { program := "ytgkephjjdcppeaa", sum := "9f07fb6314bc340c35884c6974aaa0fe3d3a86cd2aa2c37721497ddac032d409", func := "lessor/lessorlaw07.ClockRises", spec := "clockRises", apart := false }
def ClockRisesSaid : Prop := clockRisesRow.holds Try.pinned (OpenSpec.ofChange clockRisesSpec)

/-- ITS FALSE NEIGHBOUR: 'it returns false'. Refute it at one input. -/
def clockRisesWrong : ChangeSpec := { name := "clockRises", fn := fun _ => fun
  | [d1, d2] => { results := [.lit (.bool false)], args := [d1, d2] }
  | _ => none }
def ClockRisesWrongFalsely : Prop := clockRisesRow.holds Try.pinned (OpenSpec.ofChange clockRisesWrong)

/-- 'lessorlaw07.ClockPast': WHATEVER THE INPUT: true; the input reads as it did. -/
def clockPastSpec : ChangeSpec := { name := "clockPast", fn := fun _ => fun
  | [d1, d2, d3] => { results := [.lit (.bool true)], args := [d1, d2, d3] }
  | _ => none }
def clockPastRow : OpenClaim := { program := "ytgkephjjdcppeaa", sum := "9f07fb6314bc340c35884c6974aaa0fe3d3a86cd2aa2c37721497ddac032d409", func := "lessor/lessorlaw07.ClockPast", spec := "clockPast", apart := false }
def ClockPastSaid : Prop := clockPastRow.holds Try.pinned (OpenSpec.ofChange clockPastSpec)

/-- ITS FALSE NEIGHBOUR: 'it returns false'. Refute it at one input. -/
def clockPastWrong : ChangeSpec := { name := "clockPast", fn := fun _ => fun
  | [d1, d2, d3] => { results := [.lit (.bool false)], args := [d1, d2, d3] }
  | _ => none }
def ClockPastWrongFalsely : Prop := clockPastRow.holds Try.pinned (OpenSpec.ofChange clockPastWrong)

/-- 'lessorlaw07.ClockOff': WHATEVER THE INPUT: true; the input reads as it did. -/
def clockOffSpec : ChangeSpec := { name := "clockOff", fn := fun _ => fun
  | [d1, d2, d3] => { results := [.lit (.bool true)], args := [d1, d2, d3] }
  | _ => none }
def clockOffRow : OpenClaim := { program := "ytgkephjjdcppeaa", sum := "9f07fb6314bc340c35884c6974aaa0fe3d3a86cd2aa2c37721497ddac032d409", func := "lessor/lessorlaw07.ClockOff", spec := "clockOff", apart := false }
def ClockOffSaid : Prop := clockOffRow.holds Try.pinned (OpenSpec.ofChange clockOffSpec)

/-- ITS FALSE NEIGHBOUR: 'it returns false'. Refute it at one input. -/
def clockOffWrong : ChangeSpec := { name := "clockOff", fn := fun _ => fun
  | [d1, d2, d3] => { results := [.lit (.bool false)], args := [d1, d2, d3] }
  | _ => none }
def ClockOffWrongFalsely : Prop := clockOffRow.holds Try.pinned (OpenSpec.ofChange clockOffWrong)

/-- 'lessorlaw07.ClockLeft': WHATEVER THE INPUT: true; the input reads as it did. -/
def clockLeftSpec : ChangeSpec := { name := "clockLeft", fn := fun _ => fun
  | [d1, d2] => { results := [.lit (.bool true)], args := [d1, d2] }
  | _ => none }
def clockLeftRow : OpenClaim := { program := "ytgkephjjdcppeaa", sum := "9f07fb6314bc340c35884c6974aaa0fe3d3a86cd2aa2c37721497ddac032d409", func := "lessor/lessorlaw07.ClockLeft", spec := "clockLeft", apart := false }
def ClockLeftSaid : Prop := clockLeftRow.holds Try.pinned (OpenSpec.ofChange clockLeftSpec)

/-- ITS FALSE NEIGHBOUR: 'it returns false'. Refute it at one input. -/
def clockLeftWrong : ChangeSpec := { name := "clockLeft", fn := fun _ => fun
  | [d1, d2] => { results := [.lit (.bool false)], args := [d1, d2] }
  | _ => none }
def ClockLeftWrongFalsely : Prop := clockLeftRow.holds Try.pinned (OpenSpec.ofChange clockLeftWrong)

/- THE SECOND FORM. 'bulk': how many values and letters a reading holds, each counted each time it is reached (what is shared counts as often as it is met; a slice's spare places count too). A statement '..UptoSaid' is the law's where the arguments, and the package variables that the reading takes, are together of bulk at most 1048576: NARROWER than '..Said'. Prove '..Said' where nothing that the law and all that it calls make is longer than what came in: it says more and counts as full. Else prove '..UptoSaid'. A law counts once. -/
mutual
def uptoBulk {H : Type} : DataW H → Nat
  | .lit (.string bytes) => bytes.length + 1
  | .lit _ => 1
  | .nil => 1
  | .ptr d => uptoBulk d + 1
  | .slice elems spare => uptoBulkAll elems + uptoBulkAll spare + 1
  | .agg parts => uptoBulkAll parts + 1
  | .iface _ d => uptoBulk d + 1
  | .map entries => uptoBulkEntries entries + 1
  | .held _ => 1
def uptoBulkAll {H : Type} : List (DataW H) → Nat
  | [] => 0
  | d :: r => uptoBulk d + uptoBulkAll r
def uptoBulkEntries {H : Type} : List (Lit × DataW H) → Nat
  | [] => 0
  | x :: r => uptoBulkEntry x + uptoBulkEntries r
def uptoBulkEntry {H : Type} : Lit × DataW H → Nat
  | (.string bytes, d) => bytes.length + uptoBulk d + 1
  | (_, d) => uptoBulk d + 1
 end
def uptoSmall : (H : Type) → List (DataW H) → Bool := fun _ ds => decide (uptoBulkAll ds ≤ 1048576)
def OpenSpec.upto (s : _root_.Go.ChangeSpec) : _root_.Go.OpenSpec := { _root_.Go.OpenSpec.ofChange s with cond := some uptoSmall }

/-- 'lessorlaw07.ClockReckons', WHERE WHAT IT READS IS OF BULK AT MOST 1048576: true; the input reads as it did. -/
def clockReckonsUptoRow : OpenClaim := { program := "ytgkephjjdcppeaa", sum := "9f07fb6314bc340c35884c6974aaa0fe3d3a86cd2aa2c37721497ddac032d409", func := "lessor/lessorlaw07.ClockReckons", spec := "clockReckons", apart := false, narrowed := true }
def ClockReckonsUptoSaid : Prop := clockReckonsUptoRow.holds Try.pinned (OpenSpec.upto clockReckonsSpec)

/-- 'lessorlaw07.ClockRises', WHERE WHAT IT READS IS OF BULK AT MOST 1048576: true; the input reads as it did. -/
def clockRisesUptoRow : OpenClaim := { program := "ytgkephjjdcppeaa", sum := "9f07fb6314bc340c35884c6974aaa0fe3d3a86cd2aa2c37721497ddac032d409", func := "lessor/lessorlaw07.ClockRises", spec := "clockRises", apart := false, narrowed := true }
def ClockRisesUptoSaid : Prop := clockRisesUptoRow.holds Try.pinned (OpenSpec.upto clockRisesSpec)

/-- 'lessorlaw07.ClockPast', WHERE WHAT IT READS IS OF BULK AT MOST 1048576: true; the input reads as it did. -/
def clockPastUptoRow : OpenClaim := { program := "ytgkephjjdcppeaa", sum := "9f07fb6314bc340c35884c6974aaa0fe3d3a86cd2aa2c37721497ddac032d409", func := "lessor/lessorlaw07.ClockPast", spec := "clockPast", apart := false, narrowed := true }
def ClockPastUptoSaid : Prop := clockPastUptoRow.holds Try.pinned (OpenSpec.upto clockPastSpec)

/-- 'lessorlaw07.ClockOff', WHERE WHAT IT READS IS OF BULK AT MOST 1048576: true; the input reads as it did. -/
def clockOffUptoRow : OpenClaim := { program := "ytgkephjjdcppeaa", sum := "9f07fb6314bc340c35884c6974aaa0fe3d3a86cd2aa2c37721497ddac032d409", func := "lessor/lessorlaw07.ClockOff", spec := "clockOff", apart := false, narrowed := true }
def ClockOffUptoSaid : Prop := clockOffUptoRow.holds Try.pinned (OpenSpec.upto clockOffSpec)

/-- 'lessorlaw07.ClockLeft', WHERE WHAT IT READS IS OF BULK AT MOST 1048576: true; the input reads as it did. -/
def clockLeftUptoRow : OpenClaim := { program := "ytgkephjjdcppeaa", sum := "9f07fb6314bc340c35884c6974aaa0fe3d3a86cd2aa2c37721497ddac032d409", func := "lessor/lessorlaw07.ClockLeft", spec := "clockLeft", apart := false, narrowed := true }
def ClockLeftUptoSaid : Prop := clockLeftUptoRow.holds Try.pinned (OpenSpec.upto clockLeftSpec)

end Rows
end Go.Proofs.Ytgkephjjdcppeaa
