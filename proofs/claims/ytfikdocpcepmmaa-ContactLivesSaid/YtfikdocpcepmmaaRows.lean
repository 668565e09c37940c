/-
  No cell of these rows narrows 'for every input' (looked for: loops, veiled, ifaces, maps, wideKeys, modest, calm, conditions, laid).
  DERIVED. THE GIVEN ROWS OF THIS SEAT. 4 by the template 'for every input the law returns true; each argument reads behind the call as it read before'; 0 by the template 'total and deterministic' (their statements: YtfikdocpcepmmaaTotals.lean).
  GIVEN WITH THE SEED: the statements are not yours to turn. If you find one false, say at which input.
  Laid BY PROGRAM, IN A SANDBOX (cutbox-rows.mjs): the forced cells as the released guide's own fill.sh prints them over the translation f33eada2d9869307… (all of the seat's roots in one cut). By AI agents, Wed Nov 11 2026. No macro, syntax, notation, axiom, sorry.
-/
import Derived.Test.YtfikdocpcepmmaaChecked
import GoSem.Claim
import GoSem.ClaimJoined
import GoSem.ClaimMapViews
import Derived.JoinedTies
import Derived.KernelRfl
namespace Go.Proofs.Ytfikdocpcepmmaa
/- THE CELL 'sum', in the pinned program and in every row, IS THE sha256 OF THE DUMP (.gsa) THAT YtfikdocpcepmmaaProg.lean LOADS. Nothing in Lean hashes anything: it is a label: what it is worth is what the hold of that sum in a sandbox is worth. -/
noncomputable def Try.pinned : Pinned := { name := "ytfikdocpcepmmaa", sum := "f33eada2d986930781ae26e1aed7c4ea093407b04a5d1707d138f362106b682c", checked := Try.checked }
namespace Rows
def none {H : Type} : Left H := { results := [], args := [] }

/-- 'lessorlaw19.ContactScripts': WHATEVER THE INPUT: true; the input reads as it did. -/
def contactScriptsSpec : ChangeSpec := { name := "contactScripts", fn := fun _ => fun
  | [d1, d2] => { results := [.lit (.bool true)], args := [d1, d2] }
  | _ => none }
def contactScriptsRow : OpenClaim := { program := "ytfikdocpcepmmaa", sum := "f33eada2d986930781ae26e1aed7c4ea093407b04a5d1707d138f362106b682c", func := "lessor/lessorlaw19.ContactScripts", spec := "contactScripts", unfollowed := true, recurses := true, apart := false }
def ContactScriptsSaid : Prop := contactScriptsRow.holds Try.pinned (OpenSpec.ofChange contactScriptsSpec)

/-- ITS FALSE NEIGHBOUR: 'it returns false'. Refute it at one input. -/
def contactScriptsWrong : ChangeSpec := { name := "contactScripts", fn := fun _ => fun
  | [d1, d2] => { results := [.lit (.bool false)], args := [d1, d2] }
  | _ => none }
def ContactScriptsWrongFalsely : Prop := contactScriptsRow.holds Try.pinned (OpenSpec.ofChange contactScriptsWrong)

/-- 'lessorlaw19.ContactLives': WHATEVER THE INPUT: true; the input reads as it did. -/
def contactLivesSpec : ChangeSpec := { name := "contactLives", fn := fun _ => fun
  | [d] => { results := [.lit (.bool true)], args := [d] }
  | _ => none }
def contactLivesRow : OpenClaim := { program := "ytfikdocpcepmmaa", sum := "f33eada2d986930781ae26e1aed7c4ea093407b04a5d1707d138f362106b682c", func := "lessor/lessorlaw19.ContactLives", spec := "contactLives", unfollowed := true, recurses := true, apart := false }
def ContactLivesSaid : Prop := contactLivesRow.holds Try.pinned (OpenSpec.ofChange contactLivesSpec)

/-- ITS FALSE NEIGHBOUR: 'it returns false'. Refute it at one input. -/
def contactLivesWrong : ChangeSpec := { name := "contactLives", fn := fun _ => fun
  | [d] => { results := [.lit (.bool false)], args := [d] }
  | _ => none }
def ContactLivesWrongFalsely : Prop := contactLivesRow.holds Try.pinned (OpenSpec.ofChange contactLivesWrong)

/-- 'lessorlaw19.ContactMeets': WHATEVER THE INPUT: true; the input reads as it did. -/
def contactMeetsSpec : ChangeSpec := { name := "contactMeets", fn := fun _ => fun
  | [d1, d2] => { results := [.lit (.bool true)], args := [d1, d2] }
  | _ => none }
def contactMeetsRow : OpenClaim := { program := "ytfikdocpcepmmaa", sum := "f33eada2d986930781ae26e1aed7c4ea093407b04a5d1707d138f362106b682c", func := "lessor/lessorlaw19.ContactMeets", spec := "contactMeets", unfollowed := true, recurses := true, apart := false }
def ContactMeetsSaid : Prop := contactMeetsRow.holds Try.pinned (OpenSpec.ofChange contactMeetsSpec)

/-- ITS FALSE NEIGHBOUR: 'it returns false'. Refute it at one input. -/
def contactMeetsWrong : ChangeSpec := { name := "contactMeets", fn := fun _ => fun
  | [d1, d2] => { results := [.lit (.bool false)], args := [d1, d2] }
  | _ => none }
def ContactMeetsWrongFalsely : Prop := contactMeetsRow.holds Try.pinned (OpenSpec.ofChange contactMeetsWrong)

/-- 'lessorlaw19.ContactMarks': WHATEVER THE INPUT: true; the input reads as it did. -/
def contactMarksSpec : ChangeSpec := { name := "contactMarks", fn := fun _ => fun
  | [d1, d2] => { results := [.lit (.bool true)], args := [d1, d2] }
  | _ => none }
def contactMarksRow : OpenClaim := { program := "ytfikdocpcepmmaa", sum := "f33eada2d986930781ae26e1aed7c4ea093407b04a5d1707d138f362106b682c", func := "lessor/lessorlaw19.ContactMarks", spec := "contactMarks", unfollowed := true, recurses := true, apart := false }
def ContactMarksSaid : Prop := contactMarksRow.holds Try.pinned (OpenSpec.ofChange contactMarksSpec)

/-- ITS FALSE NEIGHBOUR: 'it returns false'. Refute it at one input. -/
def contactMarksWrong : ChangeSpec := { name := "contactMarks", fn := fun _ => fun
  | [d1, d2] => { results := [.lit (.bool false)], args := [d1, d2] }
  | _ => none }
def ContactMarksWrongFalsely : Prop := contactMarksRow.holds Try.pinned (OpenSpec.ofChange contactMarksWrong)

/- THE SECOND FORM. 'bulk': how many values and letters a reading holds, each counted each time it is reached (what is shared counts as often as it is met; a slice's spare places count too). A statement '..UptoSaid' is the law's where the arguments, and the package variables that the reading takes, are together of bulk at most 1048576: NARROWER than '..Said'. Prove '..Said' where nothing that the law and all that it calls make is longer than what came in: it says more and counts as full. Else prove '..UptoSaid'. A law counts once. -/
mutual
def uptoBulk {H : Type} : DataW H → Nat
  | .lit (.string bytes) => bytes.length + 1
  | .lit _ => 1
  | .nil => 1
  | .ptr d => uptoBulk d + 1
  | .slice elems spare => uptoBulkAll elems + uptoBulkAll spare + 1
  | .agg parts => uptoBulkAll parts + 1
  | .iface _ d => uptoBulk d + 1
  | .map entries => uptoBulkEntries entries + 1
  | .held _ => 1
def uptoBulkAll {H : Type} : List (DataW H) → Nat
  | [] => 0
  | d :: r => uptoBulk d + uptoBulkAll r
def uptoBulkEntries {H : Type} : List (Lit × DataW H) → Nat
  | [] => 0
  | x :: r => uptoBulkEntry x + uptoBulkEntries r
def uptoBulkEntry {H : Type} : Lit × DataW H → Nat
  | (.string bytes, d) => bytes.length + uptoBulk d + 1
  | (_, d) => uptoBulk d + 1
 end
def uptoSmall : (H : Type) → List (DataW H) → Bool := fun _ ds => decide (uptoBulkAll ds ≤ 1048576)
def OpenSpec.upto (s : _root_.Go.ChangeSpec) : _root_.Go.OpenSpec := { _root_.Go.OpenSpec.ofChange s with cond := some uptoSmall }

/-- 'lessorlaw19.ContactScripts', WHERE WHAT IT READS IS OF BULK AT MOST 1048576: true; the input reads as it did. -/
def contactScriptsUptoRow : OpenClaim := { program := "ytfikdocpcepmmaa", sum := "f33eada2d986930781ae26e1aed7c4ea093407b04a5d1707d138f362106b682c", func := "lessor/lessorlaw19.ContactScripts", spec := "contactScripts", unfollowed := true, recurses := true, apart := false, narrowed := true }
def ContactScriptsUptoSaid : Prop := contactScriptsUptoRow.holds Try.pinned (OpenSpec.upto contactScriptsSpec)

/-- 'lessorlaw19.ContactLives', WHERE WHAT IT READS IS OF BULK AT MOST 1048576: true; the input reads as it did. -/
def contactLivesUptoRow : OpenClaim := { program := "ytfikdocpcepmmaa", sum := "f33eada2d986930781ae26e1aed7c4ea093407b04a5d1707d138f362106b682c", func := "lessor/lessorlaw19.ContactLives", spec := "contactLives", unfollowed := true, recurses := true, apart := false, narrowed := true }
def ContactLivesUptoSaid : Prop := contactLivesUptoRow.holds Try.pinned (OpenSpec.upto contactLivesSpec)

/-- 'lessorlaw19.ContactMeets', WHERE WHAT IT READS IS OF BULK AT MOST 1048576: true; the input reads as it did. -/
def contactMeetsUptoRow : OpenClaim := { program := "ytfikdocpcepmmaa", sum := "f33eada2d986930781ae26e1aed7c4ea093407b04a5d1707d138f362106b682c", func := "lessor/lessorlaw19.ContactMeets", spec := "contactMeets", unfollowed := true, recurses := true, apart := false, narrowed := true }
def ContactMeetsUptoSaid : Prop := contactMeetsUptoRow.holds Try.pinned (OpenSpec.upto contactMeetsSpec)

/-- 'lessorlaw19.ContactMarks', WHERE WHAT IT READS IS OF BULK AT MOST 1048576: true; the input reads as it did. -/
def contactMarksUptoRow : OpenClaim := { program := "ytfikdocpcepmmaa", sum := "f33eada2d986930781ae26e1aed7c4ea093407b04a5d1707d138f362106b682c", func := "lessor/lessorlaw19.ContactMarks", spec := "contactMarks", unfollowed := true, recurses := true, apart := false, narrowed := true }
def ContactMarksUptoSaid : Prop := contactMarksUptoRow.holds Try.pinned (OpenSpec.upto contactMarksSpec)

end Rows
end Go.Proofs.Ytfikdocpcepmmaa
