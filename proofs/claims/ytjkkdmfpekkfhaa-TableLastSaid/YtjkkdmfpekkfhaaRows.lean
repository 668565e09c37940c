/-
  No cell of these rows narrows 'for every input' (looked for: loops, veiled, ifaces, maps, wideKeys, modest, calm, conditions, laid).
  DERIVED. THE GIVEN ROWS OF THIS SEAT. 5 by the template 'for every input the law returns true; each argument reads behind the call as it read before'; 0 by the template 'total and deterministic' (their statements: YtjkkdmfpekkfhaaTotals.lean).
  GIVEN WITH THE SEED: the statements are not yours to turn. If you find one false, say at which input.
  Laid BY PROGRAM, IN A SANDBOX (cutbox-rows.mjs): the forced cells as the released guide's own fill.sh prints them over the translation 9f050ba1dcc17358… (all of the seat's roots in one cut). By AI agents, Wed Nov 11 2026. No macro, syntax, notation, axiom, sorry.
-/
import Derived.Test.YtjkkdmfpekkfhaaChecked
import GoSem.Claim
import GoSem.ClaimJoined
import GoSem.ClaimMapViews
import Derived.JoinedTies
import Derived.KernelRfl
namespace Go.Proofs.Ytjkkdmfpekkfhaa
/- THE CELL 'sum', in the pinned program and in every row, IS THE sha256 OF THE DUMP (.gsa) THAT YtjkkdmfpekkfhaaProg.lean LOADS. Nothing in Lean hashes anything: it is a label: what it is worth is what the hold of that sum in a sandbox is worth. -/
noncomputable def Try.pinned : Pinned := { name := "ytjkkdmfpekkfhaa", sum := "9f050ba1dcc17358231d8193849ac6f1896dbbacbbcb6177c15223773f0fa996", checked := Try.checked }
namespace Rows
def none {H : Type} : Left H := { results := [], args := [] }

/-- 'lessorlaw12.TableScripts': WHATEVER THE INPUT: true; the input reads as it did. -/
def tableScriptsSpec : ChangeSpec := { name := "tableScripts", fn := fun _ => fun
  | [d1, d2, d3] => { results := [.lit (.bool true)], args := [d1, d2, d3] }
  | _ => none }
def tableScriptsRow : OpenClaim := { program := "ytjkkdmfpekkfhaa", sum := "9f050ba1dcc17358231d8193849ac6f1896dbbacbbcb6177c15223773f0fa996", func := "lessor/lessorlaw12.TableScripts", spec := "tableScripts", unfollowed := true, recurses := true, apart := false }
def TableScriptsSaid : Prop := tableScriptsRow.holds Try.pinned (OpenSpec.ofChange tableScriptsSpec)

/-- ITS FALSE NEIGHBOUR: 'it returns false'. Refute it at one input. -/
def tableScriptsWrong : ChangeSpec := { name := "tableScripts", fn := fun _ => fun
  | [d1, d2, d3] => { results := [.lit (.bool false)], args := [d1, d2, d3] }
  | _ => none }
def TableScriptsWrongFalsely : Prop := tableScriptsRow.holds Try.pinned (OpenSpec.ofChange tableScriptsWrong)

/-- 'lessorlaw12.TableClients': WHATEVER THE INPUT: true; the input reads as it did. -/
def tableClientsSpec : ChangeSpec := { name := "tableClients", fn := fun _ => fun
  | [d1, d2, d3] => { results := [.lit (.bool true)], args := [d1, d2, d3] }
  | _ => none }
def tableClientsRow : OpenClaim := { program := "ytjkkdmfpekkfhaa", sum := "9f050ba1dcc17358231d8193849ac6f1896dbbacbbcb6177c15223773f0fa996", func := "lessor/lessorlaw12.TableClients", spec := "tableClients", unfollowed := true, recurses := true, apart := false }
def TableClientsSaid : Prop := tableClientsRow.holds Try.pinned (OpenSpec.ofChange tableClientsSpec)

/-- ITS FALSE NEIGHBOUR: 'it returns false'. Refute it at one input. -/
def tableClientsWrong : ChangeSpec := { name := "tableClients", fn := fun _ => fun
  | [d1, d2, d3] => { results := [.lit (.bool false)], args := [d1, d2, d3] }
  | _ => none }
def TableClientsWrongFalsely : Prop := tableClientsRow.holds Try.pinned (OpenSpec.ofChange tableClientsWrong)

/-- 'lessorlaw12.TableLast': WHATEVER THE INPUT: true; the input reads as it did. -/
def tableLastSpec : ChangeSpec := { name := "tableLast", fn := fun _ => fun
  | [d1, d2, d3] => { results := [.lit (.bool true)], args := [d1, d2, d3] }
  | _ => none }
def tableLastRow : OpenClaim := { program := "ytjkkdmfpekkfhaa", sum := "9f050ba1dcc17358231d8193849ac6f1896dbbacbbcb6177c15223773f0fa996", func := "lessor/lessorlaw12.TableLast", spec := "tableLast", unfollowed := true, recurses := true, apart := false }
def TableLastSaid : Prop := tableLastRow.holds Try.pinned (OpenSpec.ofChange tableLastSpec)

/-- ITS FALSE NEIGHBOUR: 'it returns false'. Refute it at one input. -/
def tableLastWrong : ChangeSpec := { name := "tableLast", fn := fun _ => fun
  | [d1, d2, d3] => { results := [.lit (.bool false)], args := [d1, d2, d3] }
  | _ => none }
def TableLastWrongFalsely : Prop := tableLastRow.holds Try.pinned (OpenSpec.ofChange tableLastWrong)

/-- 'lessorlaw12.TableOne': WHATEVER THE INPUT: true; the input reads as it did. -/
def tableOneSpec : ChangeSpec := { name := "tableOne", fn := fun _ => fun
  | [d1, d2] => { results := [.lit (.bool true)], args := [d1, d2] }
  | _ => none }
def tableOneRow : OpenClaim := { program := "ytjkkdmfpekkfhaa", sum := "9f050ba1dcc17358231d8193849ac6f1896dbbacbbcb6177c15223773f0fa996", func := "lessor/lessorlaw12.TableOne", spec := "tableOne", unfollowed := true, recurses := true, apart := false }
def TableOneSaid : Prop := tableOneRow.holds Try.pinned (OpenSpec.ofChange tableOneSpec)

/-- ITS FALSE NEIGHBOUR: 'it returns false'. Refute it at one input. -/
def tableOneWrong : ChangeSpec := { name := "tableOne", fn := fun _ => fun
  | [d1, d2] => { results := [.lit (.bool false)], args := [d1, d2] }
  | _ => none }
def TableOneWrongFalsely : Prop := tableOneRow.holds Try.pinned (OpenSpec.ofChange tableOneWrong)

/-- 'lessorlaw12.TableDue': WHATEVER THE INPUT: true; the input reads as it did. -/
def tableDueSpec : ChangeSpec := { name := "tableDue", fn := fun _ => fun
  | [d1, d2, d3] => { results := [.lit (.bool true)], args := [d1, d2, d3] }
  | _ => none }
def tableDueRow : OpenClaim := { program := "ytjkkdmfpekkfhaa", sum := "9f050ba1dcc17358231d8193849ac6f1896dbbacbbcb6177c15223773f0fa996", func := "lessor/lessorlaw12.TableDue", spec := "tableDue", unfollowed := true, recurses := true, apart := false }
def TableDueSaid : Prop := tableDueRow.holds Try.pinned (OpenSpec.ofChange tableDueSpec)

/-- ITS FALSE NEIGHBOUR: 'it returns false'. Refute it at one input. -/
def tableDueWrong : ChangeSpec := { name := "tableDue", fn := fun _ => fun
  | [d1, d2, d3] => { results := [.lit (.bool false)], args := [d1, d2, d3] }
  | _ => none }
def TableDueWrongFalsely : Prop := tableDueRow.holds Try.pinned (OpenSpec.ofChange tableDueWrong)

/- THE SECOND FORM. 'bulk': how many values and letters a reading holds, each counted each time it is reached (what is shared counts as often as it is met; a slice's spare places count too). A statement '..UptoSaid' is the law's where the arguments, and the package variables that the reading takes, are together of bulk at most 1048576: NARROWER than '..Said'. Prove '..Said' where nothing that the law and all that it calls make is longer than what came in: it says more and counts as full. Else prove '..UptoSaid'. A law counts once. -/
mutual
def uptoBulk {H : Type} : DataW H → Nat
  | .lit (.string bytes) => bytes.length + 1
  | .lit _ => 1
  | .nil => 1
  | .ptr d => uptoBulk d + 1
  | .slice elems spare => uptoBulkAll elems + uptoBulkAll spare + 1
  | .agg parts => uptoBulkAll parts + 1
  | .iface _ d => uptoBulk d + 1
  | .map entries => uptoBulkEntries entries + 1
  | .held _ => 1
def uptoBulkAll {H : Type} : List (DataW H) → Nat
  | [] => 0
  | d :: r => uptoBulk d + uptoBulkAll r
def uptoBulkEntries {H : Type} : List (Lit × DataW H) → Nat
  | [] => 0
  | x :: r => uptoBulkEntry x + uptoBulkEntries r
def uptoBulkEntry {H : Type} : Lit × DataW H → Nat
  | (.string bytes, d) => bytes.length + uptoBulk d + 1
  | (_, d) => uptoBulk d + 1
 end
def uptoSmall : (H : Type) → List (DataW H) → Bool := fun _ ds => decide (uptoBulkAll ds ≤ 1048576)
def OpenSpec.upto (s : _root_.Go.ChangeSpec) : _root_.Go.OpenSpec := { _root_.Go.OpenSpec.ofChange s with cond := some uptoSmall }

/-- 'lessorlaw12.TableScripts', WHERE WHAT IT READS IS OF BULK AT MOST 1048576: true; the input reads as it did. -/
def tableScriptsUptoRow : OpenClaim := { program := "ytjkkdmfpekkfhaa", sum := "9f050ba1dcc17358231d8193849ac6f1896dbbacbbcb6177c15223773f0fa996", func := "lessor/lessorlaw12.TableScripts", spec := "tableScripts", unfollowed := true, recurses := true, apart := false, narrowed := true }
def TableScriptsUptoSaid : Prop := tableScriptsUptoRow.holds Try.pinned (OpenSpec.upto tableScriptsSpec)

/-- 'lessorlaw12.TableClients', WHERE WHAT IT READS IS OF BULK AT MOST 1048576: true; the input reads as it did. -/
def tableClientsUptoRow : OpenClaim := { program := "ytjkkdmfpekkfhaa", sum := "9f050ba1dcc17358231d8193849ac6f1896dbbacbbcb6177c15223773f0fa996", func := "lessor/lessorlaw12.TableClients", spec := "tableClients", unfollowed := true, recurses := true, apart := false, narrowed := true }
def TableClientsUptoSaid : Prop := tableClientsUptoRow.holds Try.pinned (OpenSpec.upto tableClientsSpec)

/-- 'lessorlaw12.TableLast', WHERE WHAT IT READS IS OF BULK AT MOST 1048576: true; the input reads as it did. -/
def tableLastUptoRow : OpenClaim := { program := "ytjkkdmfpekkfhaa", sum := "9f050ba1dcc17358231d8193849ac6f1896dbbacbbcb6177c15223773f0fa996", func := "lessor/lessorlaw12.TableLast", spec := "tableLast", unfollowed := true, recurses := true, apart := false, narrowed := true }
def TableLastUptoSaid : Prop := tableLastUptoRow.holds Try.pinned (OpenSpec.upto tableLastSpec)

/-- 'lessorlaw12.TableOne', WHERE WHAT IT READS IS OF BULK AT MOST 1048576: true; the input reads as it did. -/
def tableOneUptoRow : OpenClaim := { program := "ytjkkdmfpekkfhaa", sum := "9f050ba1dcc17358231d8193849ac6f1896dbbacbbcb6177c15223773f0fa996", func := "lessor/lessorlaw12.TableOne", spec := "tableOne", unfollowed := true, recurses := true, apart := false, narrowed := true }
def TableOneUptoSaid : Prop := tableOneUptoRow.holds Try.pinned (OpenSpec.upto tableOneSpec)

/-- 'lessorlaw12.TableDue', WHERE WHAT IT READS IS OF BULK AT MOST 1048576: true; the input reads as it did. -/
def tableDueUptoRow : OpenClaim := { program := "ytjkkdmfpekkfhaa", sum := "9f050ba1dcc17358231d8193849ac6f1896dbbacbbcb6177c15223773f0fa996", func := "lessor/lessorlaw12.TableDue", spec := "tableDue", unfollowed := true, recurses := true, apart := false, narrowed := true }
def TableDueUptoSaid : Prop := tableDueUptoRow.holds Try.pinned (OpenSpec.upto tableDueSpec)

end Rows
end Go.Proofs.Ytjkkdmfpekkfhaa
