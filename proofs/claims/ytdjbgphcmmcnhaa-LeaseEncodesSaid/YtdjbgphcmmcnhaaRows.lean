/-
  No cell of these rows narrows 'for every input' (looked for: loops, veiled, ifaces, maps, wideKeys, modest, calm, conditions, laid).
  DERIVED. THE GIVEN ROWS OF THIS SEAT. 4 by the template 'for every input the law returns true; each argument reads behind the call as it read before'; 0 by the template 'total and deterministic' (their statements: YtdjbgphcmmcnhaaTotals.lean).
  GIVEN WITH THE SEED: the statements are not yours to turn. If you find one false, say at which input.
  Laid BY PROGRAM, IN A SANDBOX (cutbox-rows.mjs): the forced cells as the released guide's own fill.sh prints them over the translation 262a4d50268ba7d7… (all of the seat's roots in one cut). By AI agents, Wed Nov 11 2026. No macro, syntax, notation, axiom, sorry.
-/
import Derived.Test.YtdjbgphcmmcnhaaChecked
import GoSem.Claim
import GoSem.ClaimJoined
import GoSem.ClaimMapViews
import Derived.JoinedTies
import Derived.KernelRfl
namespace Go.Proofs.Ytdjbgphcmmcnhaa
/- THE CELL 'sum', in the pinned program and in every row, IS THE sha256 OF THE DUMP (.gsa) THAT YtdjbgphcmmcnhaaProg.lean LOADS. Nothing in Lean hashes anything: it is a label: what it is worth is what the hold of that sum in a sandbox is worth. -/
noncomputable def Try.pinned : Pinned := { name := "ytdjbgphcmmcnhaa", sum := "262a4d50268ba7d72c25953525709ccc61aaeba05c3e8fd98b2ce00784669f98", checked := Try.checked }
namespace Rows
def none {H : Type} : Left H := { results := [], args := [] }

/-- 'lessorlaw11.LeaseEncodes': WHATEVER THE INPUT: true; the input reads as it did. -/
def leaseEncodesSpec : ChangeSpec := { name := "leaseEncodes", fn := fun _ => fun
  | [d] => { results := [.lit (.bool true)], args := [d] }
  | _ => none }
def leaseEncodesRow : OpenClaim := { program := "ytdjbgphcmmcnhaa", sum := "262a4d50268ba7d72c25953525709ccc61aaeba05c3e8fd98b2ce00784669f98", func := "lessor/lessorlaw11.LeaseEncodes", spec := "leaseEncodes", apart := false }
def LeaseEncodesSaid : Prop := leaseEncodesRow.holds Try.pinned (OpenSpec.ofChange leaseEncodesSpec)

/-- ITS FALSE NEIGHBOUR: 'it returns false'. Refute it at one input. -/
def leaseEncodesWrong : ChangeSpec := { name := "leaseEncodes", fn := fun _ => fun
  | [d] => { results := [.lit (.bool false)], args := [d] }
  | _ => none }
def LeaseEncodesWrongFalsely : Prop := leaseEncodesRow.holds Try.pinned (OpenSpec.ofChange leaseEncodesWrong)

/-- 'lessorlaw11.LeaseDecodes': WHATEVER THE INPUT: true; the input reads as it did. -/
def leaseDecodesSpec : ChangeSpec := { name := "leaseDecodes", fn := fun _ => fun
  | [d] => { results := [.lit (.bool true)], args := [d] }
  | _ => none }
def leaseDecodesRow : OpenClaim := { program := "ytdjbgphcmmcnhaa", sum := "262a4d50268ba7d72c25953525709ccc61aaeba05c3e8fd98b2ce00784669f98", func := "lessor/lessorlaw11.LeaseDecodes", spec := "leaseDecodes", apart := false }
def LeaseDecodesSaid : Prop := leaseDecodesRow.holds Try.pinned (OpenSpec.ofChange leaseDecodesSpec)

/-- ITS FALSE NEIGHBOUR: 'it returns false'. Refute it at one input. -/
def leaseDecodesWrong : ChangeSpec := { name := "leaseDecodes", fn := fun _ => fun
  | [d] => { results := [.lit (.bool false)], args := [d] }
  | _ => none }
def LeaseDecodesWrongFalsely : Prop := leaseDecodesRow.holds Try.pinned (OpenSpec.ofChange leaseDecodesWrong)

/-- 'lessorlaw11.LeaseBack': WHATEVER THE INPUT: true; the input reads as it did. -/
def leaseBackSpec : ChangeSpec := { name := "leaseBack", fn := fun _ => fun
  | [d1, d2] => { results := [.lit (.bool true)], args := [d1, d2] }
  | _ => none }
def leaseBackRow : OpenClaim := { program := "ytdjbgphcmmcnhaa", sum := "262a4d50268ba7d72c25953525709ccc61aaeba05c3e8fd98b2ce00784669f98", func := "lessor/lessorlaw11.LeaseBack", spec := "leaseBack", apart := false }
def LeaseBackSaid : Prop := leaseBackRow.holds Try.pinned (OpenSpec.ofChange leaseBackSpec)

/-- ITS FALSE NEIGHBOUR: 'it returns false'. Refute it at one input. -/
def leaseBackWrong : ChangeSpec := { name := "leaseBack", fn := fun _ => fun
  | [d1, d2] => { results := [.lit (.bool false)], args := [d1, d2] }
  | _ => none }
def LeaseBackWrongFalsely : Prop := leaseBackRow.holds Try.pinned (OpenSpec.ofChange leaseBackWrong)

/-- 'lessorlaw11.LeaseBare': WHATEVER THE INPUT: true; the input reads as it did. -/
def leaseBareSpec : ChangeSpec := { name := "leaseBare", fn := fun _ => fun
  | [d1, d2, d3] => { results := [.lit (.bool true)], args := [d1, d2, d3] }
  | _ => none }
def leaseBareRow : OpenClaim := { program := "ytdjbgphcmmcnhaa", sum := "262a4d50268ba7d72c25953525709ccc61aaeba05c3e8fd98b2ce00784669f98", func := "lessor/lessorlaw11.LeaseBare", spec := "leaseBare", apart := false }
def LeaseBareSaid : Prop := leaseBareRow.holds Try.pinned (OpenSpec.ofChange leaseBareSpec)

/-- ITS FALSE NEIGHBOUR: 'it returns false'. Refute it at one input. -/
def leaseBareWrong : ChangeSpec := { name := "leaseBare", fn := fun _ => fun
  | [d1, d2, d3] => { results := [.lit (.bool false)], args := [d1, d2, d3] }
  | _ => none }
def LeaseBareWrongFalsely : Prop := leaseBareRow.holds Try.pinned (OpenSpec.ofChange leaseBareWrong)

/- THE SECOND FORM. 'bulk': how many values and letters a reading holds, each counted each time it is reached (what is shared counts as often as it is met; a slice's spare places count too). A statement '..UptoSaid' is the law's where the arguments, and the package variables that the reading takes, are together of bulk at most 1048576: NARROWER than '..Said'. Prove '..Said' where nothing that the law and all that it calls make is longer than what came in: it says more and counts as full. Else prove '..UptoSaid'. A law counts once. -/
mutual
def uptoBulk {H : Type} : DataW H → Nat
  | .lit (.string bytes) => bytes.length + 1
  | .lit _ => 1
  | .nil => 1
  | .ptr d => uptoBulk d + 1
  | .slice elems spare => uptoBulkAll elems + uptoBulkAll spare + 1
  | .agg parts => uptoBulkAll parts + 1
  | .iface _ d => uptoBulk d + 1
  | .map entries => uptoBulkEntries entries + 1
  | .held _ => 1
def uptoBulkAll {H : Type} : List (DataW H) → Nat
  | [] => 0
  | d :: r => uptoBulk d + uptoBulkAll r
def uptoBulkEntries {H : Type} : List (Lit × DataW H) → Nat
  | [] => 0
  | x :: r => uptoBulkEntry x + uptoBulkEntries r
def uptoBulkEntry {H : Type} : Lit × DataW H → Nat
  | (.string bytes, d) => bytes.length + uptoBulk d + 1
  | (_, d) => uptoBulk d + 1
 end
def uptoSmall : (H : Type) → List (DataW H) → Bool := fun _ ds => decide (uptoBulkAll ds ≤ 1048576)
def OpenSpec.upto (s : _root_.Go.ChangeSpec) : _root_.Go.OpenSpec := { _root_.Go.OpenSpec.ofChange s with cond := some uptoSmall }

/-- 'lessorlaw11.LeaseEncodes', WHERE WHAT IT READS IS OF BULK AT MOST 1048576: true; the input reads as it did. -/
def leaseEncodesUptoRow : OpenClaim := { program := "ytdjbgphcmmcnhaa", sum := "262a4d50268ba7d72c25953525709ccc61aaeba05c3e8fd98b2ce00784669f98", func := "lessor/lessorlaw11.LeaseEncodes", spec := "leaseEncodes", apart := false, narrowed := true }
def LeaseEncodesUptoSaid : Prop := leaseEncodesUptoRow.holds Try.pinned (OpenSpec.upto leaseEncodesSpec)

/-- 'lessorlaw11.LeaseDecodes', WHERE WHAT IT READS IS OF BULK AT MOST 1048576: true; the input reads as it did. -/
def leaseDecodesUptoRow : OpenClaim := { program := "ytdjbgphcmmcnhaa", sum := "262a4d50268ba7d72c25953525709ccc61aaeba05c3e8fd98b2ce00784669f98", func := "lessor/lessorlaw11.LeaseDecodes", spec := "leaseDecodes", apart := false, narrowed := true }
def LeaseDecodesUptoSaid : Prop := leaseDecodesUptoRow.holds Try.pinned (OpenSpec.upto leaseDecodesSpec)

/-- 'lessorlaw11.LeaseBack', WHERE WHAT IT READS IS OF BULK AT MOST 1048576: true; the input reads as it did. -/
def leaseBackUptoRow : OpenClaim := { program := "ytdjbgphcmmcnhaa", sum := "262a4d50268ba7d72c25953525709ccc61aaeba05c3e8fd98b2ce00784669f98", func := "lessor/lessorlaw11.LeaseBack", spec := "leaseBack", apart := false, narrowed := true }
def LeaseBackUptoSaid : Prop := leaseBackUptoRow.holds Try.pinned (OpenSpec.upto leaseBackSpec)

/-- 'lessorlaw11.LeaseBare', WHERE WHAT IT READS IS OF BULK AT MOST 1048576: true; the input reads as it did. -/
def leaseBareUptoRow : OpenClaim := { program := "ytdjbgphcmmcnhaa", sum := "262a4d50268ba7d72c25953525709ccc61aaeba05c3e8fd98b2ce00784669f98", func := "lessor/lessorlaw11.LeaseBare", spec := "leaseBare", apart := false, narrowed := true }
def LeaseBareUptoSaid : Prop := leaseBareUptoRow.holds Try.pinned (OpenSpec.upto leaseBareSpec)

end Rows
end Go.Proofs.Ytdjbgphcmmcnhaa
