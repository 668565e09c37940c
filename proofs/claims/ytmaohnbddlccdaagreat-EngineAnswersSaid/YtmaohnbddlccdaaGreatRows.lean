/-
  No cell of these rows narrows 'for every input' (looked for: loops, veiled, ifaces, maps, wideKeys, modest, calm, conditions, laid).
  DERIVED. THE GIVEN ROWS OF THIS SEAT. 5 by the template 'for every input the law returns true; each argument reads behind the call as it read before'; 0 by the template 'total and deterministic' (their statements: YtmaohnbddlccdaaGreatTotals.lean).
  GIVEN WITH THE SEED: the statements are not yours to turn. If you find one false, say at which input.
  Laid BY PROGRAM, IN A SANDBOX (cutbox-rows.mjs): the forced cells as the released guide's own fill.sh prints them over the translation 5c3f3732480e5604… (all of the seat's roots in one cut). By AI agents, Wed Nov 11 2026. No macro, syntax, notation, axiom, sorry.
-/
import Derived.Test.YtmaohnbddlccdaaGreatChecked
import GoSem.Claim
import GoSem.ClaimJoined
import GoSem.ClaimMapViews
import Derived.JoinedTies
import Derived.KernelRfl
namespace Go.Proofs.YtmaohnbddlccdaaGreat
/- THE CELL 'sum', in the pinned program and in every row, IS THE sha256 OF THE DUMP (.gsa) THAT YtmaohnbddlccdaaGreatProg.lean LOADS. Nothing in Lean hashes anything: it is a label: what it is worth is what the hold of that sum in a sandbox is worth. -/
noncomputable def Tryz.pinned : Pinned := { name := "ytmaohnbddlccdaagreat", sum := "5c3f3732480e56046d16095ee316a95cc2bae739c26997d5973587cfded38b76", checked := Tryz.checked }
namespace Rows
def none {H : Type} : Left H := { results := [], args := [] }

/-- 'lessorlaw20.EngineAnswers': WHATEVER THE INPUT: true; the input reads as it did. -/
def engineAnswersSpec : ChangeSpec := { name := "engineAnswers", fn := fun _ => fun
  | [d1, d2, d3] => { results := [.lit (.bool true)], args := [d1, d2, d3] }
  | _ => none }
def engineAnswersRow : OpenClaim := { program := "ytmaohnbddlccdaagreat", sum := "5c3f3732480e56046d16095ee316a95cc2bae739c26997d5973587cfded38b76", func := "lessor/lessorlaw20.EngineAnswers", spec := "engineAnswers", unfollowed := true, recurses := true, apart := false }
def EngineAnswersSaid : Prop := engineAnswersRow.holds Tryz.pinned (OpenSpec.ofChange engineAnswersSpec)

/-- ITS FALSE NEIGHBOUR: 'it returns false'. Refute it at one input. -/
def engineAnswersWrong : ChangeSpec := { name := "engineAnswers", fn := fun _ => fun
  | [d1, d2, d3] => { results := [.lit (.bool false)], args := [d1, d2, d3] }
  | _ => none }
def EngineAnswersWrongFalsely : Prop := engineAnswersRow.holds Tryz.pinned (OpenSpec.ofChange engineAnswersWrong)

/-- 'lessorlaw20.EngineNotes': WHATEVER THE INPUT: true; the input reads as it did. -/
def engineNotesSpec : ChangeSpec := { name := "engineNotes", fn := fun _ => fun
  | [d1, d2, d3] => { results := [.lit (.bool true)], args := [d1, d2, d3] }
  | _ => none }
def engineNotesRow : OpenClaim := { program := "ytmaohnbddlccdaagreat", sum := "5c3f3732480e56046d16095ee316a95cc2bae739c26997d5973587cfded38b76", func := "lessor/lessorlaw20.EngineNotes", spec := "engineNotes", unfollowed := true, recurses := true, apart := false }
def EngineNotesSaid : Prop := engineNotesRow.holds Tryz.pinned (OpenSpec.ofChange engineNotesSpec)

/-- ITS FALSE NEIGHBOUR: 'it returns false'. Refute it at one input. -/
def engineNotesWrong : ChangeSpec := { name := "engineNotes", fn := fun _ => fun
  | [d1, d2, d3] => { results := [.lit (.bool false)], args := [d1, d2, d3] }
  | _ => none }
def EngineNotesWrongFalsely : Prop := engineNotesRow.holds Tryz.pinned (OpenSpec.ofChange engineNotesWrong)

/-- 'lessorlaw20.EngineOwn': WHATEVER THE INPUT: true; the input reads as it did. -/
def engineOwnSpec : ChangeSpec := { name := "engineOwn", fn := fun _ => fun
  | [d1, d2, d3] => { results := [.lit (.bool true)], args := [d1, d2, d3] }
  | _ => none }
def engineOwnRow : OpenClaim := { program := "ytmaohnbddlccdaagreat", sum := "5c3f3732480e56046d16095ee316a95cc2bae739c26997d5973587cfded38b76", func := "lessor/lessorlaw20.EngineOwn", spec := "engineOwn", unfollowed := true, recurses := true, apart := false }
def EngineOwnSaid : Prop := engineOwnRow.holds Tryz.pinned (OpenSpec.ofChange engineOwnSpec)

/-- ITS FALSE NEIGHBOUR: 'it returns false'. Refute it at one input. -/
def engineOwnWrong : ChangeSpec := { name := "engineOwn", fn := fun _ => fun
  | [d1, d2, d3] => { results := [.lit (.bool false)], args := [d1, d2, d3] }
  | _ => none }
def EngineOwnWrongFalsely : Prop := engineOwnRow.holds Tryz.pinned (OpenSpec.ofChange engineOwnWrong)

/-- 'lessorlaw20.EngineBounds': WHATEVER THE INPUT: true; the input reads as it did. -/
def engineBoundsSpec : ChangeSpec := { name := "engineBounds", fn := fun _ => fun
  | [d1, d2, d3] => { results := [.lit (.bool true)], args := [d1, d2, d3] }
  | _ => none }
def engineBoundsRow : OpenClaim := { program := "ytmaohnbddlccdaagreat", sum := "5c3f3732480e56046d16095ee316a95cc2bae739c26997d5973587cfded38b76", func := "lessor/lessorlaw20.EngineBounds", spec := "engineBounds", unfollowed := true, recurses := true, apart := false }
def EngineBoundsSaid : Prop := engineBoundsRow.holds Tryz.pinned (OpenSpec.ofChange engineBoundsSpec)

/-- ITS FALSE NEIGHBOUR: 'it returns false'. Refute it at one input. -/
def engineBoundsWrong : ChangeSpec := { name := "engineBounds", fn := fun _ => fun
  | [d1, d2, d3] => { results := [.lit (.bool false)], args := [d1, d2, d3] }
  | _ => none }
def EngineBoundsWrongFalsely : Prop := engineBoundsRow.holds Tryz.pinned (OpenSpec.ofChange engineBoundsWrong)

/-- 'lessorlaw20.EngineSilent': WHATEVER THE INPUT: true; the input reads as it did. -/
def engineSilentSpec : ChangeSpec := { name := "engineSilent", fn := fun _ => fun
  | [d1, d2, d3] => { results := [.lit (.bool true)], args := [d1, d2, d3] }
  | _ => none }
def engineSilentRow : OpenClaim := { program := "ytmaohnbddlccdaagreat", sum := "5c3f3732480e56046d16095ee316a95cc2bae739c26997d5973587cfded38b76", func := "lessor/lessorlaw20.EngineSilent", spec := "engineSilent", unfollowed := true, recurses := true, apart := false }
def EngineSilentSaid : Prop := engineSilentRow.holds Tryz.pinned (OpenSpec.ofChange engineSilentSpec)

/-- ITS FALSE NEIGHBOUR: 'it returns false'. Refute it at one input. -/
def engineSilentWrong : ChangeSpec := { name := "engineSilent", fn := fun _ => fun
  | [d1, d2, d3] => { results := [.lit (.bool false)], args := [d1, d2, d3] }
  | _ => none }
def EngineSilentWrongFalsely : Prop := engineSilentRow.holds Tryz.pinned (OpenSpec.ofChange engineSilentWrong)

/- THE SECOND FORM. 'bulk': how many values and letters a reading holds, each counted each time it is reached (what is shared counts as often as it is met; a slice's spare places count too). A statement '..UptoSaid' is the law's where the arguments, and the package variables that the reading takes, are together of bulk at most 1048576: NARROWER than '..Said'. Prove '..Said' where nothing that the law and all that it calls make is longer than what came in: it says more and counts as full. Else prove '..UptoSaid'. A law counts once. -/
mutual
def uptoBulk {H : Type} : DataW H → Nat
  | .lit (.string bytes) => bytes.length + 1
  | .lit _ => 1
  | .nil => 1
  | .ptr d => uptoBulk d + 1
  | .slice elems spare => uptoBulkAll elems + uptoBulkAll spare + 1
  | .agg parts => uptoBulkAll parts + 1
  | .iface _ d => uptoBulk d + 1
  | .map entries => uptoBulkEntries entries + 1
  | .held _ => 1
def uptoBulkAll {H : Type} : List (DataW H) → Nat
  | [] => 0
  | d :: r => uptoBulk d + uptoBulkAll r
def uptoBulkEntries {H : Type} : List (Lit × DataW H) → Nat
  | [] => 0
  | x :: r => uptoBulkEntry x + uptoBulkEntries r
def uptoBulkEntry {H : Type} : Lit × DataW H → Nat
  | (.string bytes, d) => bytes.length + uptoBulk d + 1
  | (_, d) => uptoBulk d + 1
 end
def uptoSmall : (H : Type) → List (DataW H) → Bool := fun _ ds => decide (uptoBulkAll ds ≤ 1048576)
def OpenSpec.upto (s : _root_.Go.ChangeSpec) : _root_.Go.OpenSpec := { _root_.Go.OpenSpec.ofChange s with cond := some uptoSmall }

/-- 'lessorlaw20.EngineAnswers', WHERE WHAT IT READS IS OF BULK AT MOST 1048576: true; the input reads as it did. -/
def engineAnswersUptoRow : OpenClaim := { program := "ytmaohnbddlccdaagreat", sum := "5c3f3732480e56046d16095ee316a95cc2bae739c26997d5973587cfded38b76", func := "lessor/lessorlaw20.EngineAnswers", spec := "engineAnswers", unfollowed := true, recurses := true, apart := false, narrowed := true }
def EngineAnswersUptoSaid : Prop := engineAnswersUptoRow.holds Tryz.pinned (OpenSpec.upto engineAnswersSpec)

/-- 'lessorlaw20.EngineNotes', WHERE WHAT IT READS IS OF BULK AT MOST 1048576: true; the input reads as it did. -/
def engineNotesUptoRow : OpenClaim := { program := "ytmaohnbddlccdaagreat", sum := "5c3f3732480e56046d16095ee316a95cc2bae739c26997d5973587cfded38b76", func := "lessor/lessorlaw20.EngineNotes", spec := "engineNotes", unfollowed := true, recurses := true, apart := false, narrowed := true }
def EngineNotesUptoSaid : Prop := engineNotesUptoRow.holds Tryz.pinned (OpenSpec.upto engineNotesSpec)

/-- 'lessorlaw20.EngineOwn', WHERE WHAT IT READS IS OF BULK AT MOST 1048576: true; the input reads as it did. -/
def engineOwnUptoRow : OpenClaim := { program := "ytmaohnbddlccdaagreat", sum := "5c3f3732480e56046d16095ee316a95cc2bae739c26997d5973587cfded38b76", func := "lessor/lessorlaw20.EngineOwn", spec := "engineOwn", unfollowed := true, recurses := true, apart := false, narrowed := true }
def EngineOwnUptoSaid : Prop := engineOwnUptoRow.holds Tryz.pinned (OpenSpec.upto engineOwnSpec)

/-- 'lessorlaw20.EngineBounds', WHERE WHAT IT READS IS OF BULK AT MOST 1048576: true; the input reads as it did. -/
def engineBoundsUptoRow : OpenClaim := { program := "ytmaohnbddlccdaagreat", sum := "5c3f3732480e56046d16095ee316a95cc2bae739c26997d5973587cfded38b76", func := "lessor/lessorlaw20.EngineBounds", spec := "engineBounds", unfollowed := true, recurses := true, apart := false, narrowed := true }
def EngineBoundsUptoSaid : Prop := engineBoundsUptoRow.holds Tryz.pinned (OpenSpec.upto engineBoundsSpec)

/-- 'lessorlaw20.EngineSilent', WHERE WHAT IT READS IS OF BULK AT MOST 1048576: true; the input reads as it did. -/
def engineSilentUptoRow : OpenClaim := { program := "ytmaohnbddlccdaagreat", sum := "5c3f3732480e56046d16095ee316a95cc2bae739c26997d5973587cfded38b76", func := "lessor/lessorlaw20.EngineSilent", spec := "engineSilent", unfollowed := true, recurses := true, apart := false, narrowed := true }
def EngineSilentUptoSaid : Prop := engineSilentUptoRow.holds Tryz.pinned (OpenSpec.upto engineSilentSpec)

end Rows
end Go.Proofs.YtmaohnbddlccdaaGreat
