/-
  No cell of these rows narrows 'for every input' (looked for: loops, veiled, ifaces, maps, wideKeys, modest, calm, conditions, laid).
  DERIVED. THE GIVEN ROWS OF THIS SEAT. 5 by the template 'for every input the law returns true; each argument reads behind the call as it read before'; 0 by the template 'total and deterministic' (their statements: YtcgfldfjadmpdaaTotals.lean).
  GIVEN WITH THE SEED: the statements are not yours to turn. If you find one false, say at which input.
  Laid BY PROGRAM, IN A SANDBOX (cutbox-rows.mjs): the forced cells as the released guide's own fill.sh prints them over the translation 6b42c729bff8d937… (all of the seat's roots in one cut). By AI agents, Wed Nov 11 2026. No macro, syntax, notation, axiom, sorry.
-/
import Derived.Test.YtcgfldfjadmpdaaChecked
import GoSem.Claim
import GoSem.ClaimJoined
import GoSem.ClaimMapViews
import Derived.JoinedTies
import Derived.KernelRfl
namespace Go.Proofs.Ytcgfldfjadmpdaa
/- THE CELL 'sum', in the pinned program and in every row, IS THE sha256 OF THE DUMP (.gsa) THAT YtcgfldfjadmpdaaProg.lean LOADS. Nothing in Lean hashes anything: it is a label: what it is worth is what the hold of that sum in a sandbox is worth. -/
noncomputable def Try.pinned : Pinned := { name := "ytcgfldfjadmpdaa", sum := "6b42c729bff8d937e5cd461ee9c291bfbdd4e5201b2185188962d73619a96608", checked := Try.checked }
namespace Rows
def none {H : Type} : Left H := { results := [], args := [] }

/-- 'lessorlaw15.GrantUntils': WHATEVER THE INPUT: true; the input reads as it did. -/
def grantUntilsSpec : ChangeSpec := { name := "grantUntils", fn := fun _ => fun
  | [d1, d2] => { results := [.lit (.bool true)], args := [d1, d2] }
  | _ => none }
def grantUntilsRow : OpenClaim := { program := "ytcgfldfjadmpdaa", sum := "6b42c729bff8d937e5cd461ee9c291bfbdd4e5201b2185188962d73619a96608", func := "lessor/lessorlaw15.GrantUntils", spec := "grantUntils", apart := false }
def GrantUntilsSaid : Prop := grantUntilsRow.holds Try.pinned (OpenSpec.ofChange grantUntilsSpec)

/-- ITS FALSE NEIGHBOUR: 'it returns false'. Refute it at one input. -/
def grantUntilsWrong : ChangeSpec := { name := "grantUntils", fn := fun _ => fun
  | [d1, d2] => { results := [.lit (.bool false)], args := [d1, d2] }
  | _ => none }
def GrantUntilsWrongFalsely : Prop := grantUntilsRow.holds Try.pinned (OpenSpec.ofChange grantUntilsWrong)

/-- 'lessorlaw15.GrantMays': WHATEVER THE INPUT: true; the input reads as it did. -/
def grantMaysSpec : ChangeSpec := { name := "grantMays", fn := fun _ => fun
  | [d1, d2, d3] => { results := [.lit (.bool true)], args := [d1, d2, d3] }
  | _ => none }
def grantMaysRow : OpenClaim := { program := "ytcgfldfjadmpdaa", sum := "6b42c729bff8d937e5cd461ee9c291bfbdd4e5201b2185188962d73619a96608", func := "lessor/lessorlaw15.GrantMays", spec := "grantMays", apart := false }
def GrantMaysSaid : Prop := grantMaysRow.holds Try.pinned (OpenSpec.ofChange grantMaysSpec)

/-- ITS FALSE NEIGHBOUR: 'it returns false'. Refute it at one input. -/
def grantMaysWrong : ChangeSpec := { name := "grantMays", fn := fun _ => fun
  | [d1, d2, d3] => { results := [.lit (.bool false)], args := [d1, d2, d3] }
  | _ => none }
def GrantMaysWrongFalsely : Prop := grantMaysRow.holds Try.pinned (OpenSpec.ofChange grantMaysWrong)

/-- 'lessorlaw15.GrantLeads': WHATEVER THE INPUT: true; the input reads as it did. -/
def grantLeadsSpec : ChangeSpec := { name := "grantLeads", fn := fun _ => fun
  | [d1, d2, d3] => { results := [.lit (.bool true)], args := [d1, d2, d3] }
  | _ => none }
def grantLeadsRow : OpenClaim := { program := "ytcgfldfjadmpdaa", sum := "6b42c729bff8d937e5cd461ee9c291bfbdd4e5201b2185188962d73619a96608", func := "lessor/lessorlaw15.GrantLeads", spec := "grantLeads", apart := false }
def GrantLeadsSaid : Prop := grantLeadsRow.holds Try.pinned (OpenSpec.ofChange grantLeadsSpec)

/-- ITS FALSE NEIGHBOUR: 'it returns false'. Refute it at one input. -/
def grantLeadsWrong : ChangeSpec := { name := "grantLeads", fn := fun _ => fun
  | [d1, d2, d3] => { results := [.lit (.bool false)], args := [d1, d2, d3] }
  | _ => none }
def GrantLeadsWrongFalsely : Prop := grantLeadsRow.holds Try.pinned (OpenSpec.ofChange grantLeadsWrong)

/-- 'lessorlaw15.GrantOwn': WHATEVER THE INPUT: true; the input reads as it did. -/
def grantOwnSpec : ChangeSpec := { name := "grantOwn", fn := fun _ => fun
  | [d1, d2, d3] => { results := [.lit (.bool true)], args := [d1, d2, d3] }
  | _ => none }
def grantOwnRow : OpenClaim := { program := "ytcgfldfjadmpdaa", sum := "6b42c729bff8d937e5cd461ee9c291bfbdd4e5201b2185188962d73619a96608", func := "lessor/lessorlaw15.GrantOwn", spec := "grantOwn", apart := false }
def GrantOwnSaid : Prop := grantOwnRow.holds Try.pinned (OpenSpec.ofChange grantOwnSpec)

/-- ITS FALSE NEIGHBOUR: 'it returns false'. Refute it at one input. -/
def grantOwnWrong : ChangeSpec := { name := "grantOwn", fn := fun _ => fun
  | [d1, d2, d3] => { results := [.lit (.bool false)], args := [d1, d2, d3] }
  | _ => none }
def GrantOwnWrongFalsely : Prop := grantOwnRow.holds Try.pinned (OpenSpec.ofChange grantOwnWrong)

/-- 'lessorlaw15.GrantWants': WHATEVER THE INPUT: true; the input reads as it did. -/
def grantWantsSpec : ChangeSpec := { name := "grantWants", fn := fun _ => fun
  | [d1, d2, d3] => { results := [.lit (.bool true)], args := [d1, d2, d3] }
  | _ => none }
def grantWantsRow : OpenClaim := { program := "ytcgfldfjadmpdaa", sum := "6b42c729bff8d937e5cd461ee9c291bfbdd4e5201b2185188962d73619a96608", func := "lessor/lessorlaw15.GrantWants", spec := "grantWants", apart := false }
def GrantWantsSaid : Prop := grantWantsRow.holds Try.pinned (OpenSpec.ofChange grantWantsSpec)

/-- ITS FALSE NEIGHBOUR: 'it returns false'. Refute it at one input. -/
def grantWantsWrong : ChangeSpec := { name := "grantWants", fn := fun _ => fun
  | [d1, d2, d3] => { results := [.lit (.bool false)], args := [d1, d2, d3] }
  | _ => none }
def GrantWantsWrongFalsely : Prop := grantWantsRow.holds Try.pinned (OpenSpec.ofChange grantWantsWrong)

/- THE SECOND FORM. 'bulk': how many values and letters a reading holds, each counted each time it is reached (what is shared counts as often as it is met; a slice's spare places count too). A statement '..UptoSaid' is the law's where the arguments, and the package variables that the reading takes, are together of bulk at most 1048576: NARROWER than '..Said'. Prove '..Said' where nothing that the law and all that it calls make is longer than what came in: it says more and counts as full. Else prove '..UptoSaid'. A law counts once. -/
mutual
def uptoBulk {H : Type} : DataW H → Nat
  | .lit (.string bytes) => bytes.length + 1
  | .lit _ => 1
  | .nil => 1
  | .ptr d => uptoBulk d + 1
  | .slice elems spare => uptoBulkAll elems + uptoBulkAll spare + 1
  | .agg parts => uptoBulkAll parts + 1
  | .iface _ d => uptoBulk d + 1
  | .map entries => uptoBulkEntries entries + 1
  | .held _ => 1
def uptoBulkAll {H : Type} : List (DataW H) → Nat
  | [] => 0
  | d :: r => uptoBulk d + uptoBulkAll r
def uptoBulkEntries {H : Type} : List (Lit × DataW H) → Nat
  | [] => 0
  | x :: r => uptoBulkEntry x + uptoBulkEntries r
def uptoBulkEntry {H : Type} : Lit × DataW H → Nat
  | (.string bytes, d) => bytes.length + uptoBulk d + 1
  | (_, d) => uptoBulk d + 1
 end
def uptoSmall : (H : Type) → List (DataW H) → Bool := fun _ ds => decide (uptoBulkAll ds ≤ 1048576)
def OpenSpec.upto (s : _root_.Go.ChangeSpec) : _root_.Go.OpenSpec := { _root_.Go.OpenSpec.ofChange s with cond := some uptoSmall }

/-- 'lessorlaw15.GrantUntils', WHERE WHAT IT READS IS OF BULK AT MOST 1048576: true; the input reads as it did. -/
def grantUntilsUptoRow : OpenClaim := { program := "ytcgfldfjadmpdaa", sum := "6b42c729bff8d937e5cd461ee9c291bfbdd4e5201b2185188962d73619a96608", func := "lessor/lessorlaw15.GrantUntils", spec := "grantUntils", apart := false, narrowed := true }
def GrantUntilsUptoSaid : Prop := grantUntilsUptoRow.holds Try.pinned (OpenSpec.upto grantUntilsSpec)

/-- 'lessorlaw15.GrantMays', WHERE WHAT IT READS IS OF BULK AT MOST 1048576: true; the input reads as it did. -/
def grantMaysUptoRow : OpenClaim := { program := "ytcgfldfjadmpdaa", sum := "6b42c729bff8d937e5cd461ee9c291bfbdd4e5201b2185188962d73619a96608", func := "lessor/lessorlaw15.GrantMays", spec := "grantMays", apart := false, narrowed := true }
def GrantMaysUptoSaid : Prop := grantMaysUptoRow.holds Try.pinned (OpenSpec.upto grantMaysSpec)

/-- 'lessorlaw15.GrantLeads', WHERE WHAT IT READS IS OF BULK AT MOST 1048576: true; the input reads as it did. -/
def grantLeadsUptoRow : OpenClaim := { program := "ytcgfldfjadmpdaa", sum := "6b42c729bff8d937e5cd461ee9c291bfbdd4e5201b2185188962d73619a96608", func := "lessor/lessorlaw15.GrantLeads", spec := "grantLeads", apart := false, narrowed := true }
def GrantLeadsUptoSaid : Prop := grantLeadsUptoRow.holds Try.pinned (OpenSpec.upto grantLeadsSpec)

/-- 'lessorlaw15.GrantOwn', WHERE WHAT IT READS IS OF BULK AT MOST 1048576: true; the input reads as it did. -/
def grantOwnUptoRow : OpenClaim := { program := "ytcgfldfjadmpdaa", sum := "6b42c729bff8d937e5cd461ee9c291bfbdd4e5201b2185188962d73619a96608", func := "lessor/lessorlaw15.GrantOwn", spec := "grantOwn", apart := false, narrowed := true }
def GrantOwnUptoSaid : Prop := grantOwnUptoRow.holds Try.pinned (OpenSpec.upto grantOwnSpec)

/-- 'lessorlaw15.GrantWants', WHERE WHAT IT READS IS OF BULK AT MOST 1048576: true; the input reads as it did. -/
def grantWantsUptoRow : OpenClaim := { program := "ytcgfldfjadmpdaa", sum := "6b42c729bff8d937e5cd461ee9c291bfbdd4e5201b2185188962d73619a96608", func := "lessor/lessorlaw15.GrantWants", spec := "grantWants", apart := false, narrowed := true }
def GrantWantsUptoSaid : Prop := grantWantsUptoRow.holds Try.pinned (OpenSpec.upto grantWantsSpec)

end Rows
end Go.Proofs.Ytcgfldfjadmpdaa
