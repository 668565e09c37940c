/-
  No cell of these rows narrows 'for every input' (looked for: loops, veiled, ifaces, maps, wideKeys, modest, calm, conditions, laid).
  DERIVED. THE GIVEN ROWS OF THIS SEAT. 5 by the template 'for every input the law returns true; each argument reads behind the call as it read before'; 0 by the template 'total and deterministic' (their statements: YtnbokhbhdmkelaaTotals.lean).
  GIVEN WITH THE SEED: the statements are not yours to turn. If you find one false, say at which input.
  Laid BY PROGRAM, IN A SANDBOX (cutbox-rows.mjs): the forced cells as the released guide's own fill.sh prints them over the translation 9472aa27c8fcc96f… (all of the seat's roots in one cut). By AI agents, Wed Nov 11 2026. No macro, syntax, notation, axiom, sorry.
-/
import Derived.Test.YtnbokhbhdmkelaaChecked
import GoSem.Claim
import GoSem.ClaimJoined
import GoSem.ClaimMapViews
import Derived.JoinedTies
import Derived.KernelRfl
namespace Go.Proofs.Ytnbokhbhdmkelaa
/- THE CELL 'sum', in the pinned program and in every row, IS THE sha256 OF THE DUMP (.gsa) THAT YtnbokhbhdmkelaaProg.lean LOADS. Nothing in Lean hashes anything: it is a label: what it is worth is what the hold of that sum in a sandbox is worth. -/
noncomputable def Try.pinned : Pinned := { name := "ytnbokhbhdmkelaa", sum := "9472aa27c8fcc96fff29d82522947c8d365fb4fd23475e1198754c73c8bcdf0b", checked := Try.checked }
namespace Rows
def none {H : Type} : Left H := { results := [], args := [] }

/-- 'lessorlaw05.RatioParts': WHATEVER THE INPUT: true; the input reads as it did. -/
def ratioPartsSpec : ChangeSpec := { name := "ratioParts", fn := fun _ => fun
  | [d1, d2, d3] => { results := [.lit (.bool true)], args := [d1, d2, d3] }
  | _ => none }
def ratioPartsRow : OpenClaim := { program := "ytnbokhbhdmkelaa", sum := "9472aa27c8fcc96fff29d82522947c8d365fb4fd23475e1198754c73c8bcdf0b", func := "lessor/lessorlaw05.RatioParts", spec := "ratioParts", apart := false }
def RatioPartsSaid : Prop := ratioPartsRow.holds Try.pinned (OpenSpec.ofChange ratioPartsSpec)

/-- ITS FALSE NEIGHBOUR: 'it returns false'. Refute it at one input. -/
def ratioPartsWrong : ChangeSpec := { name := "ratioParts", fn := fun _ => fun
  | [d1, d2, d3] => { results := [.lit (.bool false)], args := [d1, d2, d3] }
  | _ => none }
def RatioPartsWrongFalsely : Prop := ratioPartsRow.holds Try.pinned (OpenSpec.ofChange ratioPartsWrong)

/-- 'lessorlaw05.RatioShares': WHATEVER THE INPUT: true; the input reads as it did. -/
def ratioSharesSpec : ChangeSpec := { name := "ratioShares", fn := fun _ => fun
  | [d1, d2, d3] => { results := [.lit (.bool true)], args := [d1, d2, d3] }
  | _ => none }
def ratioSharesRow : OpenClaim := { program := "ytnbokhbhdmkelaa", sum := "9472aa27c8fcc96fff29d82522947c8d365fb4fd23475e1198754c73c8bcdf0b", func := "lessor/lessorlaw05.RatioShares", spec := "ratioShares", inPlace := ["math.Float64bits", "math.Float64frombits"], apart := false }
def RatioSharesSaid : Prop := ratioSharesRow.holds Try.pinned (OpenSpec.ofChange ratioSharesSpec)

/-- ITS FALSE NEIGHBOUR: 'it returns false'. Refute it at one input. -/
def ratioSharesWrong : ChangeSpec := { name := "ratioShares", fn := fun _ => fun
  | [d1, d2, d3] => { results := [.lit (.bool false)], args := [d1, d2, d3] }
  | _ => none }
def RatioSharesWrongFalsely : Prop := ratioSharesRow.holds Try.pinned (OpenSpec.ofChange ratioSharesWrong)

/-- 'lessorlaw05.RatioRises': WHATEVER THE INPUT: true; the input reads as it did. -/
def ratioRisesSpec : ChangeSpec := { name := "ratioRises", fn := fun _ => fun
  | [d1, d2, d3] => { results := [.lit (.bool true)], args := [d1, d2, d3] }
  | _ => none }
def ratioRisesRow : OpenClaim := { program := "ytnbokhbhdmkelaa", sum := "9472aa27c8fcc96fff29d82522947c8d365fb4fd23475e1198754c73c8bcdf0b", func := "lessor/lessorlaw05.RatioRises", spec := "ratioRises", apart := false }
def RatioRisesSaid : Prop := ratioRisesRow.holds Try.pinned (OpenSpec.ofChange ratioRisesSpec)

/-- ITS FALSE NEIGHBOUR: 'it returns false'. Refute it at one input. -/
def ratioRisesWrong : ChangeSpec := { name := "ratioRises", fn := fun _ => fun
  | [d1, d2, d3] => { results := [.lit (.bool false)], args := [d1, d2, d3] }
  | _ => none }
def RatioRisesWrongFalsely : Prop := ratioRisesRow.holds Try.pinned (OpenSpec.ofChange ratioRisesWrong)

/-- 'lessorlaw05.RatioGives': WHATEVER THE INPUT: true; the input reads as it did. -/
def ratioGivesSpec : ChangeSpec := { name := "ratioGives", fn := fun _ => fun
  | [d1, d2, d3] => { results := [.lit (.bool true)], args := [d1, d2, d3] }
  | _ => none }
def ratioGivesRow : OpenClaim := { program := "ytnbokhbhdmkelaa", sum := "9472aa27c8fcc96fff29d82522947c8d365fb4fd23475e1198754c73c8bcdf0b", func := "lessor/lessorlaw05.RatioGives", spec := "ratioGives", apart := false }
def RatioGivesSaid : Prop := ratioGivesRow.holds Try.pinned (OpenSpec.ofChange ratioGivesSpec)

/-- ITS FALSE NEIGHBOUR: 'it returns false'. Refute it at one input. -/
def ratioGivesWrong : ChangeSpec := { name := "ratioGives", fn := fun _ => fun
  | [d1, d2, d3] => { results := [.lit (.bool false)], args := [d1, d2, d3] }
  | _ => none }
def RatioGivesWrongFalsely : Prop := ratioGivesRow.holds Try.pinned (OpenSpec.ofChange ratioGivesWrong)

/-- 'lessorlaw05.RatioTimes': WHATEVER THE INPUT: true; the input reads as it did. -/
def ratioTimesSpec : ChangeSpec := { name := "ratioTimes", fn := fun _ => fun
  | [d1, d2, d3] => { results := [.lit (.bool true)], args := [d1, d2, d3] }
  | _ => none }
def ratioTimesRow : OpenClaim := { program := "ytnbokhbhdmkelaa", sum := "9472aa27c8fcc96fff29d82522947c8d365fb4fd23475e1198754c73c8bcdf0b", func := "lessor/lessorlaw05.RatioTimes", spec := "ratioTimes", inPlace := ["math.Float64frombits", "math.Float64bits"], apart := false }
def RatioTimesSaid : Prop := ratioTimesRow.holds Try.pinned (OpenSpec.ofChange ratioTimesSpec)

/-- ITS FALSE NEIGHBOUR: 'it returns false'. Refute it at one input. -/
def ratioTimesWrong : ChangeSpec := { name := "ratioTimes", fn := fun _ => fun
  | [d1, d2, d3] => { results := [.lit (.bool false)], args := [d1, d2, d3] }
  | _ => none }
def RatioTimesWrongFalsely : Prop := ratioTimesRow.holds Try.pinned (OpenSpec.ofChange ratioTimesWrong)

/- THE SECOND FORM. 'bulk': how many values and letters a reading holds, each counted each time it is reached (what is shared counts as often as it is met; a slice's spare places count too). A statement '..UptoSaid' is the law's where the arguments, and the package variables that the reading takes, are together of bulk at most 1048576: NARROWER than '..Said'. Prove '..Said' where nothing that the law and all that it calls make is longer than what came in: it says more and counts as full. Else prove '..UptoSaid'. A law counts once. -/
mutual
def uptoBulk {H : Type} : DataW H → Nat
  | .lit (.string bytes) => bytes.length + 1
  | .lit _ => 1
  | .nil => 1
  | .ptr d => uptoBulk d + 1
  | .slice elems spare => uptoBulkAll elems + uptoBulkAll spare + 1
  | .agg parts => uptoBulkAll parts + 1
  | .iface _ d => uptoBulk d + 1
  | .map entries => uptoBulkEntries entries + 1
  | .held _ => 1
def uptoBulkAll {H : Type} : List (DataW H) → Nat
  | [] => 0
  | d :: r => uptoBulk d + uptoBulkAll r
def uptoBulkEntries {H : Type} : List (Lit × DataW H) → Nat
  | [] => 0
  | x :: r => uptoBulkEntry x + uptoBulkEntries r
def uptoBulkEntry {H : Type} : Lit × DataW H → Nat
  | (.string bytes, d) => bytes.length + uptoBulk d + 1
  | (_, d) => uptoBulk d + 1
 end
def uptoSmall : (H : Type) → List (DataW H) → Bool := fun _ ds => decide (uptoBulkAll ds ≤ 1048576)
def OpenSpec.upto (s : _root_.Go.ChangeSpec) : _root_.Go.OpenSpec := { _root_.Go.OpenSpec.ofChange s with cond := some uptoSmall }

/-- 'lessorlaw05.RatioParts', WHERE WHAT IT READS IS OF BULK AT MOST 1048576: true; the input reads as it did. -/
def ratioPartsUptoRow : OpenClaim := { program := "ytnbokhbhdmkelaa", sum := "9472aa27c8fcc96fff29d82522947c8d365fb4fd23475e1198754c73c8bcdf0b", func := "lessor/lessorlaw05.RatioParts", spec := "ratioParts", apart := false, narrowed := true }
def RatioPartsUptoSaid : Prop := ratioPartsUptoRow.holds Try.pinned (OpenSpec.upto ratioPartsSpec)

/-- 'lessorlaw05.RatioShares', WHERE WHAT IT READS IS OF BULK AT MOST 1048576: true; the input reads as it did. -/
def ratioSharesUptoRow : OpenClaim := { program := "ytnbokhbhdmkelaa", sum := "9472aa27c8fcc96fff29d82522947c8d365fb4fd23475e1198754c73c8bcdf0b", func := "lessor/lessorlaw05.RatioShares", spec := "ratioShares", inPlace := ["math.Float64bits", "math.Float64frombits"], apart := false, narrowed := true }
def RatioSharesUptoSaid : Prop := ratioSharesUptoRow.holds Try.pinned (OpenSpec.upto ratioSharesSpec)

/-- 'lessorlaw05.RatioRises', WHERE WHAT IT READS IS OF BULK AT MOST 1048576: true; the input reads as it did. -/
def ratioRisesUptoRow : OpenClaim := { program := "ytnbokhbhdmkelaa", sum := "9472aa27c8fcc96fff29d82522947c8d365fb4fd23475e1198754c73c8bcdf0b", func := "lessor/lessorlaw05.RatioRises", spec := "ratioRises", apart := false, narrowed := true }
def RatioRisesUptoSaid : Prop := ratioRisesUptoRow.holds Try.pinned (OpenSpec.upto ratioRisesSpec)

/-- 'lessorlaw05.RatioGives', WHERE WHAT IT READS IS OF BULK AT MOST 1048576: true; the input reads as it did. -/
def ratioGivesUptoRow : OpenClaim := { program := "ytnbokhbhdmkelaa", sum := "9472aa27c8fcc96fff29d82522947c8d365fb4fd23475e1198754c73c8bcdf0b", func := "lessor/lessorlaw05.RatioGives", spec := "ratioGives", apart := false, narrowed := true }
def RatioGivesUptoSaid : Prop := ratioGivesUptoRow.holds Try.pinned (OpenSpec.upto ratioGivesSpec)

/-- 'lessorlaw05.RatioTimes', WHERE WHAT IT READS IS OF BULK AT MOST 1048576: true; the input reads as it did. -/
def ratioTimesUptoRow : OpenClaim := { program := "ytnbokhbhdmkelaa", sum := "9472aa27c8fcc96fff29d82522947c8d365fb4fd23475e1198754c73c8bcdf0b", func := "lessor/lessorlaw05.RatioTimes", spec := "ratioTimes", inPlace := ["math.Float64frombits", "math.Float64bits"], apart := false, narrowed := true }
def RatioTimesUptoSaid : Prop := ratioTimesUptoRow.holds Try.pinned (OpenSpec.upto ratioTimesSpec)

end Rows
end Go.Proofs.Ytnbokhbhdmkelaa
