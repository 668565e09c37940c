/-
  No cell of these rows narrows 'for every input' (looked for: loops, veiled, ifaces, maps, wideKeys, modest, calm, conditions, laid).
  DERIVED. THE GIVEN ROWS OF THIS SEAT. 6 by the template 'for every input the law returns true; each argument reads behind the call as it read before'; 0 by the template 'total and deterministic' (their statements: YtamdhljoamggeaaTotals.lean).
  GIVEN WITH THE SEED: the statements are not yours to turn. If you find one false, say at which input.
  Laid BY PROGRAM, IN A SANDBOX (cutbox-rows.mjs): the forced cells as the released guide's own fill.sh prints them over the translation 28ea26fef71e8e20… (all of the seat's roots in one cut). By AI agents, Wed Nov 11 2026. No macro, syntax, notation, axiom, sorry.
-/
import Derived.Test.YtamdhljoamggeaaChecked
import GoSem.Claim
import GoSem.ClaimJoined
import GoSem.ClaimMapViews
import Derived.JoinedTies
import Derived.KernelRfl
namespace Go.Proofs.Ytamdhljoamggeaa
/- THE CELL 'sum', in the pinned program and in every row, IS THE sha256 OF THE DUMP (.gsa) THAT YtamdhljoamggeaaProg.lean LOADS. Nothing in Lean hashes anything: it is a label: what it is worth is what the hold of that sum in a sandbox is worth. -/
noncomputable def Try.pinned : Pinned := { name := "ytamdhljoamggeaa", sum := "28ea26fef71e8e205f687023970190113c4884d43c82ce766a7b52bf73c99350", checked := Try.checked }
namespace Rows
def none {H : Type} : Left H := { results := [], args := [] }

/-- 'lessorlaw06.BalanceBuckets': WHATEVER THE INPUT: true; the input reads as it did. -/
def balanceBucketsSpec : ChangeSpec := { name := "balanceBuckets", fn := fun _ => fun
  | [d] => { results := [.lit (.bool true)], args := [d] }
  | _ => none }
def balanceBucketsRow : OpenClaim := { program := "ytamdhljoamggeaa", sum := "28ea26fef71e8e205f687023970190113c4884d43c82ce766a7b52bf73c99350", func := "lessor/lessorlaw06.BalanceBuckets", spec := "balanceBuckets", apart := false }
def BalanceBucketsSaid : Prop := balanceBucketsRow.holds Try.pinned (OpenSpec.ofChange balanceBucketsSpec)

/-- ITS FALSE NEIGHBOUR: 'it returns false'. Refute it at one input. -/
def balanceBucketsWrong : ChangeSpec := { name := "balanceBuckets", fn := fun _ => fun
  | [d] => { results := [.lit (.bool false)], args := [d] }
  | _ => none }
def BalanceBucketsWrongFalsely : Prop := balanceBucketsRow.holds Try.pinned (OpenSpec.ofChange balanceBucketsWrong)

/-- 'lessorlaw06.BalanceMasks': WHATEVER THE INPUT: true; the input reads as it did. -/
def balanceMasksSpec : ChangeSpec := { name := "balanceMasks", fn := fun _ => fun
  | [d1, d2] => { results := [.lit (.bool true)], args := [d1, d2] }
  | _ => none }
def balanceMasksRow : OpenClaim := { program := "ytamdhljoamggeaa", sum := "28ea26fef71e8e205f687023970190113c4884d43c82ce766a7b52bf73c99350", func := "lessor/lessorlaw06.BalanceMasks", spec := "balanceMasks", apart := false }
def BalanceMasksSaid : Prop := balanceMasksRow.holds Try.pinned (OpenSpec.ofChange balanceMasksSpec)

/-- ITS FALSE NEIGHBOUR: 'it returns false'. Refute it at one input. -/
def balanceMasksWrong : ChangeSpec := { name := "balanceMasks", fn := fun _ => fun
  | [d1, d2] => { results := [.lit (.bool false)], args := [d1, d2] }
  | _ => none }
def BalanceMasksWrongFalsely : Prop := balanceMasksRow.holds Try.pinned (OpenSpec.ofChange balanceMasksWrong)

/-- 'lessorlaw06.BalanceOne': WHATEVER THE INPUT: true; the input reads as it did. -/
def balanceOneSpec : ChangeSpec := { name := "balanceOne", fn := fun _ => fun
  | [d1, d2] => { results := [.lit (.bool true)], args := [d1, d2] }
  | _ => none }
def balanceOneRow : OpenClaim := { program := "ytamdhljoamggeaa", sum := "28ea26fef71e8e205f687023970190113c4884d43c82ce766a7b52bf73c99350", func := "lessor/lessorlaw06.BalanceOne", spec := "balanceOne", apart := false }
def BalanceOneSaid : Prop := balanceOneRow.holds Try.pinned (OpenSpec.ofChange balanceOneSpec)

/-- ITS FALSE NEIGHBOUR: 'it returns false'. Refute it at one input. -/
def balanceOneWrong : ChangeSpec := { name := "balanceOne", fn := fun _ => fun
  | [d1, d2] => { results := [.lit (.bool false)], args := [d1, d2] }
  | _ => none }
def BalanceOneWrongFalsely : Prop := balanceOneRow.holds Try.pinned (OpenSpec.ofChange balanceOneWrong)

/-- 'lessorlaw06.BalanceApart': WHATEVER THE INPUT: true; the input reads as it did. -/
def balanceApartSpec : ChangeSpec := { name := "balanceApart", fn := fun _ => fun
  | [d1, d2, d3] => { results := [.lit (.bool true)], args := [d1, d2, d3] }
  | _ => none }
def balanceApartRow : OpenClaim := { program := "ytamdhljoamggeaa", sum := "28ea26fef71e8e205f687023970190113c4884d43c82ce766a7b52bf73c99350", func := "lessor/lessorlaw06.BalanceApart", spec := "balanceApart", apart := false }
def BalanceApartSaid : Prop := balanceApartRow.holds Try.pinned (OpenSpec.ofChange balanceApartSpec)

/-- ITS FALSE NEIGHBOUR: 'it returns false'. Refute it at one input. -/
def balanceApartWrong : ChangeSpec := { name := "balanceApart", fn := fun _ => fun
  | [d1, d2, d3] => { results := [.lit (.bool false)], args := [d1, d2, d3] }
  | _ => none }
def BalanceApartWrongFalsely : Prop := balanceApartRow.holds Try.pinned (OpenSpec.ofChange balanceApartWrong)

/-- 'lessorlaw06.BalanceFirst': WHATEVER THE INPUT: true; the input reads as it did. -/
def balanceFirstSpec : ChangeSpec := { name := "balanceFirst", fn := fun _ => fun
  | [d1, d2] => { results := [.lit (.bool true)], args := [d1, d2] }
  | _ => none }
def balanceFirstRow : OpenClaim := { program := "ytamdhljoamggeaa", sum := "28ea26fef71e8e205f687023970190113c4884d43c82ce766a7b52bf73c99350", func := "lessor/lessorlaw06.BalanceFirst", spec := "balanceFirst", apart := false }
def BalanceFirstSaid : Prop := balanceFirstRow.holds Try.pinned (OpenSpec.ofChange balanceFirstSpec)

/-- ITS FALSE NEIGHBOUR: 'it returns false'. Refute it at one input. -/
def balanceFirstWrong : ChangeSpec := { name := "balanceFirst", fn := fun _ => fun
  | [d1, d2] => { results := [.lit (.bool false)], args := [d1, d2] }
  | _ => none }
def BalanceFirstWrongFalsely : Prop := balanceFirstRow.holds Try.pinned (OpenSpec.ofChange balanceFirstWrong)

/-- 'lessorlaw06.BalanceCovers': WHATEVER THE INPUT: true; the input reads as it did. -/
def balanceCoversSpec : ChangeSpec := { name := "balanceCovers", fn := fun _ => fun
  | [d1, d2, d3] => { results := [.lit (.bool true)], args := [d1, d2, d3] }
  | _ => none }
def balanceCoversRow : OpenClaim := { program := "ytamdhljoamggeaa", sum := "28ea26fef71e8e205f687023970190113c4884d43c82ce766a7b52bf73c99350", func := "lessor/lessorlaw06.BalanceCovers", spec := "balanceCovers", apart := false }
def BalanceCoversSaid : Prop := balanceCoversRow.holds Try.pinned (OpenSpec.ofChange balanceCoversSpec)

/-- ITS FALSE NEIGHBOUR: 'it returns false'. Refute it at one input. -/
def balanceCoversWrong : ChangeSpec := { name := "balanceCovers", fn := fun _ => fun
  | [d1, d2, d3] => { results := [.lit (.bool false)], args := [d1, d2, d3] }
  | _ => none }
def BalanceCoversWrongFalsely : Prop := balanceCoversRow.holds Try.pinned (OpenSpec.ofChange balanceCoversWrong)

/- THE SECOND FORM. 'bulk': how many values and letters a reading holds, each counted each time it is reached (what is shared counts as often as it is met; a slice's spare places count too). A statement '..UptoSaid' is the law's where the arguments, and the package variables that the reading takes, are together of bulk at most 1048576: NARROWER than '..Said'. Prove '..Said' where nothing that the law and all that it calls make is longer than what came in: it says more and counts as full. Else prove '..UptoSaid'. A law counts once. -/
mutual
def uptoBulk {H : Type} : DataW H → Nat
  | .lit (.string bytes) => bytes.length + 1
  | .lit _ => 1
  | .nil => 1
  | .ptr d => uptoBulk d + 1
  | .slice elems spare => uptoBulkAll elems + uptoBulkAll spare + 1
  | .agg parts => uptoBulkAll parts + 1
  | .iface _ d => uptoBulk d + 1
  | .map entries => uptoBulkEntries entries + 1
  | .held _ => 1
def uptoBulkAll {H : Type} : List (DataW H) → Nat
  | [] => 0
  | d :: r => uptoBulk d + uptoBulkAll r
def uptoBulkEntries {H : Type} : List (Lit × DataW H) → Nat
  | [] => 0
  | x :: r => uptoBulkEntry x + uptoBulkEntries r
def uptoBulkEntry {H : Type} : Lit × DataW H → Nat
  | (.string bytes, d) => bytes.length + uptoBulk d + 1
  | (_, d) => uptoBulk d + 1
 end
def uptoSmall : (H : Type) → List (DataW H) → Bool := fun _ ds => decide (uptoBulkAll ds ≤ 1048576)
def OpenSpec.upto (s : _root_.Go.ChangeSpec) : _root_.Go.OpenSpec := { _root_.Go.OpenSpec.ofChange s with cond := some uptoSmall }

/-- 'lessorlaw06.BalanceBuckets', WHERE WHAT IT READS IS OF BULK AT MOST 1048576: true; the input reads as it did. -/
def balanceBucketsUptoRow : OpenClaim := { program := "ytamdhljoamggeaa", sum := "28ea26fef71e8e205f687023970190113c4884d43c82ce766a7b52bf73c99350", func := "lessor/lessorlaw06.BalanceBuckets", spec := "balanceBuckets", apart := false, narrowed := true }
def BalanceBucketsUptoSaid : Prop := balanceBucketsUptoRow.holds Try.pinned (OpenSpec.upto balanceBucketsSpec)

/-- 'lessorlaw06.BalanceMasks', WHERE WHAT IT READS IS OF BULK AT MOST 1048576: true; the input reads as it did. -/
def balanceMasksUptoRow : OpenClaim := { program := "ytamdhljoamggeaa", sum := "28ea26fef71e8e205f687023970190113c4884d43c82ce766a7b52bf73c99350", func := "lessor/lessorlaw06.BalanceMasks", spec := "balanceMasks", apart := false, narrowed := true }
def BalanceMasksUptoSaid : Prop := balanceMasksUptoRow.holds Try.pinned (OpenSpec.upto balanceMasksSpec)

/-- 'lessorlaw06.BalanceOne', WHERE WHAT IT READS IS OF BULK AT MOST 1048576: true; the input reads as it did. -/
def balanceOneUptoRow : OpenClaim := { program := "ytamdhljoamggeaa", sum := "28ea26fef71e8e205f687023970190113c4884d43c82ce766a7b52bf73c99350", func := "lessor/lessorlaw06.BalanceOne", spec := "balanceOne", apart := false, narrowed := true }
def BalanceOneUptoSaid : Prop := balanceOneUptoRow.holds Try.pinned (OpenSpec.upto balanceOneSpec)

/-- 'lessorlaw06.BalanceApart', WHERE WHAT IT READS IS OF BULK AT MOST 1048576: true; the input reads as it did. -/
def balanceApartUptoRow : OpenClaim := { program := "ytamdhljoamggeaa", sum := "28ea26fef71e8e205f687023970190113c4884d43c82ce766a7b52bf73c99350", func := "lessor/lessorlaw06.BalanceApart", spec := "balanceApart", apart := false, narrowed := true }
def BalanceApartUptoSaid : Prop := balanceApartUptoRow.holds Try.pinned (OpenSpec.upto balanceApartSpec)

/-- 'lessorlaw06.BalanceFirst', WHERE WHAT IT READS IS OF BULK AT MOST 1048576: true; the input reads as it did. -/
def balanceFirstUptoRow : OpenClaim := { program := "ytamdhljoamggeaa", sum := "28ea26fef71e8e205f687023970190113c4884d43c82ce766a7b52bf73c99350", func := "lessor/lessorlaw06.BalanceFirst", spec := "balanceFirst", apart := false, narrowed := true }
def BalanceFirstUptoSaid : Prop := balanceFirstUptoRow.holds Try.pinned (OpenSpec.upto balanceFirstSpec)

/-- 'lessorlaw06.BalanceCovers', WHERE WHAT IT READS IS OF BULK AT MOST 1048576: true; the input reads as it did. -/
def balanceCoversUptoRow : OpenClaim := { program := "ytamdhljoamggeaa", sum := "28ea26fef71e8e205f687023970190113c4884d43c82ce766a7b52bf73c99350", func := "lessor/lessorlaw06.BalanceCovers", spec := "balanceCovers", apart := false, narrowed := true }
def BalanceCoversUptoSaid : Prop := balanceCoversUptoRow.holds Try.pinned (OpenSpec.upto balanceCoversSpec)

end Rows
end Go.Proofs.Ytamdhljoamggeaa
