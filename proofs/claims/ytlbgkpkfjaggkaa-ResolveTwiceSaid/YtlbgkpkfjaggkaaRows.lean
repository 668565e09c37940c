/-
  No cell of these rows narrows 'for every input' (looked for: loops, veiled, ifaces, maps, wideKeys, modest, calm, conditions, laid).
  DERIVED. THE GIVEN ROWS OF THIS SEAT. 5 by the template 'for every input the law returns true; each argument reads behind the call as it read before'; 0 by the template 'total and deterministic' (their statements: YtlbgkpkfjaggkaaTotals.lean).
  GIVEN WITH THE SEED: the statements are not yours to turn. If you find one false, say at which input.
  Laid BY PROGRAM, IN A SANDBOX (cutbox-rows.mjs): the forced cells as the released guide's own fill.sh prints them over the translation bb30fb35c64f844d… (all of the seat's roots in one cut). By AI agents, Wed Nov 11 2026. No macro, syntax, notation, axiom, sorry.
-/
import Derived.Test.YtlbgkpkfjaggkaaChecked
import GoSem.Claim
import GoSem.ClaimJoined
import GoSem.ClaimMapViews
import Derived.JoinedTies
import Derived.KernelRfl
namespace Go.Proofs.Ytlbgkpkfjaggkaa
/- THE CELL 'sum', in the pinned program and in every row, IS THE sha256 OF THE DUMP (.gsa) THAT YtlbgkpkfjaggkaaProg.lean LOADS. Nothing in Lean hashes anything: it is a label: what it is worth is what the hold of that sum in a sandbox is worth. -/
noncomputable def Try.pinned : Pinned := { name := "ytlbgkpkfjaggkaa", sum := "bb30fb35c64f844d505c6dfd107a4f0be0435ad2033901f99d5eab7e55136814", checked := Try.checked }
namespace Rows
def none {H : Type} : Left H := { results := [], args := [] }

/-- 'lessorlaw16.ResolveTakes': WHATEVER THE INPUT: true; the input reads as it did. -/
def resolveTakesSpec : ChangeSpec := { name := "resolveTakes", fn := fun _ => fun
  | [d1, d2, d3] => { results := [.lit (.bool true)], args := [d1, d2, d3] }
  | _ => none }
def resolveTakesRow : OpenClaim := { program := "ytlbgkpkfjaggkaa", sum := "bb30fb35c64f844d505c6dfd107a4f0be0435ad2033901f99d5eab7e55136814", func := "lessor/lessorlaw16.ResolveTakes", spec := "resolveTakes", apart := false }
def ResolveTakesSaid : Prop := resolveTakesRow.holds Try.pinned (OpenSpec.ofChange resolveTakesSpec)

/-- ITS FALSE NEIGHBOUR: 'it returns false'. Refute it at one input. -/
def resolveTakesWrong : ChangeSpec := { name := "resolveTakes", fn := fun _ => fun
  | [d1, d2, d3] => { results := [.lit (.bool false)], args := [d1, d2, d3] }
  | _ => none }
def ResolveTakesWrongFalsely : Prop := resolveTakesRow.holds Try.pinned (OpenSpec.ofChange resolveTakesWrong)

/-- 'lessorlaw16.ResolveKeeps': WHATEVER THE INPUT: true; the input reads as it did. -/
def resolveKeepsSpec : ChangeSpec := { name := "resolveKeeps", fn := fun _ => fun
  | [d1, d2, d3] => { results := [.lit (.bool true)], args := [d1, d2, d3] }
  | _ => none }
def resolveKeepsRow : OpenClaim := { program := "ytlbgkpkfjaggkaa", sum := "bb30fb35c64f844d505c6dfd107a4f0be0435ad2033901f99d5eab7e55136814", func := "lessor/lessorlaw16.ResolveKeeps", spec := "resolveKeeps", apart := false }
def ResolveKeepsSaid : Prop := resolveKeepsRow.holds Try.pinned (OpenSpec.ofChange resolveKeepsSpec)

/-- ITS FALSE NEIGHBOUR: 'it returns false'. Refute it at one input. -/
def resolveKeepsWrong : ChangeSpec := { name := "resolveKeeps", fn := fun _ => fun
  | [d1, d2, d3] => { results := [.lit (.bool false)], args := [d1, d2, d3] }
  | _ => none }
def ResolveKeepsWrongFalsely : Prop := resolveKeepsRow.holds Try.pinned (OpenSpec.ofChange resolveKeepsWrong)

/-- 'lessorlaw16.ResolveTwice': WHATEVER THE INPUT: true; the input reads as it did. -/
def resolveTwiceSpec : ChangeSpec := { name := "resolveTwice", fn := fun _ => fun
  | [d1, d2, d3] => { results := [.lit (.bool true)], args := [d1, d2, d3] }
  | _ => none }
def resolveTwiceRow : OpenClaim := { program := "ytlbgkpkfjaggkaa", sum := "bb30fb35c64f844d505c6dfd107a4f0be0435ad2033901f99d5eab7e55136814", func := "lessor/lessorlaw16.ResolveTwice", spec := "resolveTwice", apart := false }
def ResolveTwiceSaid : Prop := resolveTwiceRow.holds Try.pinned (OpenSpec.ofChange resolveTwiceSpec)

/-- ITS FALSE NEIGHBOUR: 'it returns false'. Refute it at one input. -/
def resolveTwiceWrong : ChangeSpec := { name := "resolveTwice", fn := fun _ => fun
  | [d1, d2, d3] => { results := [.lit (.bool false)], args := [d1, d2, d3] }
  | _ => none }
def ResolveTwiceWrongFalsely : Prop := resolveTwiceRow.holds Try.pinned (OpenSpec.ofChange resolveTwiceWrong)

/-- 'lessorlaw16.ResolveAgree': WHATEVER THE INPUT: true; the input reads as it did. -/
def resolveAgreeSpec : ChangeSpec := { name := "resolveAgree", fn := fun _ => fun
  | [d1, d2, d3] => { results := [.lit (.bool true)], args := [d1, d2, d3] }
  | _ => none }
def resolveAgreeRow : OpenClaim := { program := "ytlbgkpkfjaggkaa", sum := "bb30fb35c64f844d505c6dfd107a4f0be0435ad2033901f99d5eab7e55136814", func := "lessor/lessorlaw16.ResolveAgree", spec := "resolveAgree", apart := false }
def ResolveAgreeSaid : Prop := resolveAgreeRow.holds Try.pinned (OpenSpec.ofChange resolveAgreeSpec)

/-- ITS FALSE NEIGHBOUR: 'it returns false'. Refute it at one input. -/
def resolveAgreeWrong : ChangeSpec := { name := "resolveAgree", fn := fun _ => fun
  | [d1, d2, d3] => { results := [.lit (.bool false)], args := [d1, d2, d3] }
  | _ => none }
def ResolveAgreeWrongFalsely : Prop := resolveAgreeRow.holds Try.pinned (OpenSpec.ofChange resolveAgreeWrong)

/-- 'lessorlaw16.ResolveShares': WHATEVER THE INPUT: true; the input reads as it did. -/
def resolveSharesSpec : ChangeSpec := { name := "resolveShares", fn := fun _ => fun
  | [d1, d2, d3] => { results := [.lit (.bool true)], args := [d1, d2, d3] }
  | _ => none }
def resolveSharesRow : OpenClaim := { program := "ytlbgkpkfjaggkaa", sum := "bb30fb35c64f844d505c6dfd107a4f0be0435ad2033901f99d5eab7e55136814", func := "lessor/lessorlaw16.ResolveShares", spec := "resolveShares", apart := false }
def ResolveSharesSaid : Prop := resolveSharesRow.holds Try.pinned (OpenSpec.ofChange resolveSharesSpec)

/-- ITS FALSE NEIGHBOUR: 'it returns false'. Refute it at one input. -/
def resolveSharesWrong : ChangeSpec := { name := "resolveShares", fn := fun _ => fun
  | [d1, d2, d3] => { results := [.lit (.bool false)], args := [d1, d2, d3] }
  | _ => none }
def ResolveSharesWrongFalsely : Prop := resolveSharesRow.holds Try.pinned (OpenSpec.ofChange resolveSharesWrong)

/- THE SECOND FORM. 'bulk': how many values and letters a reading holds, each counted each time it is reached (what is shared counts as often as it is met; a slice's spare places count too). A statement '..UptoSaid' is the law's where the arguments, and the package variables that the reading takes, are together of bulk at most 1048576: NARROWER than '..Said'. Prove '..Said' where nothing that the law and all that it calls make is longer than what came in: it says more and counts as full. Else prove '..UptoSaid'. A law counts once. -/
mutual
def uptoBulk {H : Type} : DataW H → Nat
  | .lit (.string bytes) => bytes.length + 1
  | .lit _ => 1
  | .nil => 1
  | .ptr d => uptoBulk d + 1
  | .slice elems spare => uptoBulkAll elems + uptoBulkAll spare + 1
  | .agg parts => uptoBulkAll parts + 1
  | .iface _ d => uptoBulk d + 1
  | .map entries => uptoBulkEntries entries + 1
  | .held _ => 1
def uptoBulkAll {H : Type} : List (DataW H) → Nat
  | [] => 0
  | d :: r => uptoBulk d + uptoBulkAll r
def uptoBulkEntries {H : Type} : List (Lit × DataW H) → Nat
  | [] => 0
  | x :: r => uptoBulkEntry x + uptoBulkEntries r
def uptoBulkEntry {H : Type} : Lit × DataW H → Nat
  | (.string bytes, d) => bytes.length + uptoBulk d + 1
  | (_, d) => uptoBulk d + 1
 end
def uptoSmall : (H : Type) → List (DataW H) → Bool := fun _ ds => decide (uptoBulkAll ds ≤ 1048576)
def OpenSpec.upto (s : _root_.Go.ChangeSpec) : _root_.Go.OpenSpec := { _root_.Go.OpenSpec.ofChange s with cond := some uptoSmall }

/-- 'lessorlaw16.ResolveTakes', WHERE WHAT IT READS IS OF BULK AT MOST 1048576: true; the input reads as it did. -/
def resolveTakesUptoRow : OpenClaim := { program := "ytlbgkpkfjaggkaa", sum := "bb30fb35c64f844d505c6dfd107a4f0be0435ad2033901f99d5eab7e55136814", func := "lessor/lessorlaw16.ResolveTakes", spec := "resolveTakes", apart := false, narrowed := true }
def ResolveTakesUptoSaid : Prop := resolveTakesUptoRow.holds Try.pinned (OpenSpec.upto resolveTakesSpec)

/-- 'lessorlaw16.ResolveKeeps', WHERE WHAT IT READS IS OF BULK AT MOST 1048576: true; the input reads as it did. -/
def resolveKeepsUptoRow : OpenClaim := { program := "ytlbgkpkfjaggkaa", sum := "bb30fb35c64f844d505c6dfd107a4f0be0435ad2033901f99d5eab7e55136814", func := "lessor/lessorlaw16.ResolveKeeps", spec := "resolveKeeps", apart := false, narrowed := true }
def ResolveKeepsUptoSaid : Prop := resolveKeepsUptoRow.holds Try.pinned (OpenSpec.upto resolveKeepsSpec)

/-- 'lessorlaw16.ResolveTwice', WHERE WHAT IT READS IS OF BULK AT MOST 1048576: true; the input reads as it did. -/
def resolveTwiceUptoRow : OpenClaim := { program := "ytlbgkpkfjaggkaa", sum := "bb30fb35c64f844d505c6dfd107a4f0be0435ad2033901f99d5eab7e55136814", func := "lessor/lessorlaw16.ResolveTwice", spec := "resolveTwice", apart := false, narrowed := true }
def ResolveTwiceUptoSaid : Prop := resolveTwiceUptoRow.holds Try.pinned (OpenSpec.upto resolveTwiceSpec)

/-- 'lessorlaw16.ResolveAgree', WHERE WHAT IT READS IS OF BULK AT MOST 1048576: true; the input reads as it did. -/
def resolveAgreeUptoRow : OpenClaim := { program := "ytlbgkpkfjaggkaa", sum := "bb30fb35c64f844d505c6dfd107a4f0be0435ad2033901f99d5eab7e55136814", func := "lessor/lessorlaw16.ResolveAgree", spec := "resolveAgree", apart := false, narrowed := true }
def ResolveAgreeUptoSaid : Prop := resolveAgreeUptoRow.holds Try.pinned (OpenSpec.upto resolveAgreeSpec)

/-- 'lessorlaw16.ResolveShares', WHERE WHAT IT READS IS OF BULK AT MOST 1048576: true; the input reads as it did. -/
def resolveSharesUptoRow : OpenClaim := { program := "ytlbgkpkfjaggkaa", sum := "bb30fb35c64f844d505c6dfd107a4f0be0435ad2033901f99d5eab7e55136814", func := "lessor/lessorlaw16.ResolveShares", spec := "resolveShares", apart := false, narrowed := true }
def ResolveSharesUptoSaid : Prop := resolveSharesUptoRow.holds Try.pinned (OpenSpec.upto resolveSharesSpec)

end Rows
end Go.Proofs.Ytlbgkpkfjaggkaa
