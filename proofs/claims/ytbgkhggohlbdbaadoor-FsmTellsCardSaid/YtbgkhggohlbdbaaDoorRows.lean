/-
  NARROWER THAN 'FOR EVERY INPUT', by the rows' own cells (each row's printed sentence says how): FsmNexts: laid · FsmTells: laid · FsmOrders: laid · FsmRestarts: laid · FsmMeets: laid.
  DERIVED. THE GIVEN ROWS OF THIS SEAT. 5 by the template 'for every input the law returns true; each argument reads behind the call as it read before'; 0 by the template 'total and deterministic' (their statements: YtbgkhggohlbdbaaDoorTotals.lean).
  GIVEN WITH THE SEED: the statements are not yours to turn. If you find one false, say at which input.
  Laid BY PROGRAM, IN A SANDBOX (cutbox-rows.mjs): the forced cells as the released guide's own fill.sh prints them over the translation c34bc8efdaae1832… (all of the seat's roots in one cut). By AI agents, Wed Nov 11 2026. No macro, syntax, notation, axiom, sorry.
-/
import Derived.Test.YtbgkhggohlbdbaaDoorChecked
import GoSem.Claim
import GoSem.ClaimJoined
import GoSem.ClaimMapViews
import Derived.JoinedTies
import Derived.KernelRfl
namespace Go.Proofs.YtbgkhggohlbdbaaDoor
/- THE CELL 'sum', in the pinned program and in every row, IS THE sha256 OF THE DUMP (.gsa) THAT YtbgkhggohlbdbaaDoorProg.lean LOADS. Nothing in Lean hashes anything: it is a label: what it is worth is what the hold of that sum in a sandbox is worth. -/
noncomputable def Tryd.pinned : Pinned := { name := "ytbgkhggohlbdbaadoor", sum := "c34bc8efdaae18327b435546707eaee38a9dad35ce715e7989e126f740cb2b8d", checked := Tryd.checked }
namespace Rows
def none {H : Type} : Left H := { results := [], args := [] }

/- WHAT THE LISTED PACKAGE-LEVEL VARIABLES READ AS WHEN THE CALL BEGINS. Each datum BY PROGRAM (the guide's laid-datum.mjs) off the statement by which the dump's own 'gosem.cut.vars' lays the variable. In a bare row this is a premise. The card (YtbgkhggohlbdbaaDoorCards.lean) ties it to the program's text. -/
def laid_lessor_fsm_rows {H : Type} : DataW H := .agg [.agg [.lit (.int .i64 0), .lit (.int .i64 0), .lit (.int .i64 8), .lit (.int .i64 6)], .agg [.lit (.int .i64 0), .lit (.int .i64 0), .lit (.int .i64 48), .lit (.int .i64 4)], .agg [.lit (.int .i64 0), .lit (.int .i64 0), .lit (.int .i64 263), .lit (.int .i64 1)], .agg [.lit (.int .i64 0), .lit (.int .i64 2), .lit (.int .i64 (-1)), .lit (.int .i64 3)], .agg [.lit (.int .i64 1), .lit (.int .i64 0), .lit (.int .i64 56), .lit (.int .i64 4)], .agg [.lit (.int .i64 1), .lit (.int .i64 1), .lit (.int .i64 (-1)), .lit (.int .i64 2)], .agg [.lit (.int .i64 2), .lit (.int .i64 0), .lit (.int .i64 56), .lit (.int .i64 4)], .agg [.lit (.int .i64 2), .lit (.int .i64 0), .lit (.int .i64 263), .lit (.int .i64 1)], .agg [.lit (.int .i64 2), .lit (.int .i64 2), .lit (.int .i64 (-1)), .lit (.int .i64 3)], .agg [.lit (.int .i64 3), .lit (.int .i64 0), .lit (.int .i64 62), .lit (.int .i64 4)], .agg [.lit (.int .i64 3), .lit (.int .i64 3), .lit (.int .i64 256), .lit (.int .i64 1)], .agg [.lit (.int .i64 4), .lit (.int .i64 3), .lit (.int .i64 18), .lit (.int .i64 1)], .agg [.lit (.int .i64 4), .lit (.int .i64 1), .lit (.int .i64 (-1)), .lit (.int .i64 5)], .agg [.lit (.int .i64 5), .lit (.int .i64 0), .lit (.int .i64 (-1)), .lit (.int .i64 4)], .agg [.lit (.int .i64 5), .lit (.int .i64 2), .lit (.int .i64 (-1)), .lit (.int .i64 3)], .agg [.lit (.int .i64 6), .lit (.int .i64 3), .lit (.int .i64 (-1)), .lit (.int .i64 7)], .agg [.lit (.int .i64 7), .lit (.int .i64 4), .lit (.int .i64 (-1)), .lit (.int .i64 8)], .agg [.lit (.int .i64 8), .lit (.int .i64 0), .lit (.int .i64 2), .lit (.int .i64 1)], .agg [.lit (.int .i64 8), .lit (.int .i64 0), .lit (.int .i64 48), .lit (.int .i64 4)]]
def laid_lessor_fsm_names {H : Type} : DataW H := .agg [.lit (.string [83, 116, 97, 114, 116, 117, 112]), .lit (.string [78, 111, 114, 109, 97, 108]), .lit (.string [73, 110, 116, 101, 114, 114, 117, 112, 116, 101, 100]), .lit (.string [80, 97, 114, 116, 110, 101, 114, 68, 111, 119, 110]), .lit (.string [67, 111, 110, 102, 108, 105, 99, 116]), .lit (.string [82, 101, 115, 73, 110, 116, 101, 114, 114, 117, 112, 116, 101, 100]), .lit (.string [82, 101, 99, 111, 118, 101, 114]), .lit (.string [82, 101, 99, 111, 118, 101, 114, 87, 97, 105, 116]), .lit (.string [82, 101, 99, 111, 118, 101, 114, 68, 111, 110, 101])]

/-- 'lessorlaw14.FsmNexts': WHATEVER THE INPUT: true; the input reads as it did. -/
def fsmNextsSpec : ChangeSpec := { name := "fsmNexts", fn := fun _ => fun
  | [d1, d2, d3] => { results := [.lit (.bool true)], args := [d1, d2, d3] }
  | _ => none }
def fsmNextsRow : OpenClaim := { program := "ytbgkhggohlbdbaadoor", sum := "c34bc8efdaae18327b435546707eaee38a9dad35ce715e7989e126f740cb2b8d", func := "lessor/lessorlaw14.FsmNexts", spec := "fsmNexts", named := ["lessor/fsm.rows", "lessor/fsm.names"], apart := false, laid := [("lessor/fsm.rows", laid_lessor_fsm_rows), ("lessor/fsm.names", laid_lessor_fsm_names)] }
def FsmNextsSaid : Prop := fsmNextsRow.holds Tryd.pinned (OpenSpec.ofChange fsmNextsSpec)

/-- ITS FALSE NEIGHBOUR: 'it returns false'. Refute it at one input. -/
def fsmNextsWrong : ChangeSpec := { name := "fsmNexts", fn := fun _ => fun
  | [d1, d2, d3] => { results := [.lit (.bool false)], args := [d1, d2, d3] }
  | _ => none }
def FsmNextsWrongFalsely : Prop := fsmNextsRow.holds Tryd.pinned (OpenSpec.ofChange fsmNextsWrong)

/-- 'lessorlaw14.FsmTells': WHATEVER THE INPUT: true; the input reads as it did. -/
def fsmTellsSpec : ChangeSpec := { name := "fsmTells", fn := fun _ => fun
  | [d] => { results := [.lit (.bool true)], args := [d] }
  | _ => none }
def fsmTellsRow : OpenClaim := { program := "ytbgkhggohlbdbaadoor", sum := "c34bc8efdaae18327b435546707eaee38a9dad35ce715e7989e126f740cb2b8d", func := "lessor/lessorlaw14.FsmTells", spec := "fsmTells", named := ["lessor/fsm.rows", "lessor/fsm.names"], apart := false, laid := [("lessor/fsm.rows", laid_lessor_fsm_rows), ("lessor/fsm.names", laid_lessor_fsm_names)] }
def FsmTellsSaid : Prop := fsmTellsRow.holds Tryd.pinned (OpenSpec.ofChange fsmTellsSpec)

/-- ITS FALSE NEIGHBOUR: 'it returns false'. Refute it at one input. -/
def fsmTellsWrong : ChangeSpec := { name := "fsmTells", fn := fun _ => fun
  | [d] => { results := [.lit (.bool false)], args := [d] }
  | _ => none }
def FsmTellsWrongFalsely : Prop := fsmTellsRow.holds Tryd.pinned (OpenSpec.ofChange fsmTellsWrong)

/-- 'lessorlaw14.FsmOrders': WHATEVER THE INPUT: true; the input reads as it did. -/
def fsmOrdersSpec : ChangeSpec := { name := "fsmOrders", fn := fun _ => fun
  | [d1, d2] => { results := [.lit (.bool true)], args := [d1, d2] }
  | _ => none }
def fsmOrdersRow : OpenClaim := { program := "ytbgkhggohlbdbaadoor", sum := "c34bc8efdaae18327b435546707eaee38a9dad35ce715e7989e126f740cb2b8d", func := "lessor/lessorlaw14.FsmOrders", spec := "fsmOrders", named := ["lessor/fsm.rows", "lessor/fsm.names"], apart := false, laid := [("lessor/fsm.rows", laid_lessor_fsm_rows), ("lessor/fsm.names", laid_lessor_fsm_names)] }
def FsmOrdersSaid : Prop := fsmOrdersRow.holds Tryd.pinned (OpenSpec.ofChange fsmOrdersSpec)

/-- ITS FALSE NEIGHBOUR: 'it returns false'. Refute it at one input. -/
def fsmOrdersWrong : ChangeSpec := { name := "fsmOrders", fn := fun _ => fun
  | [d1, d2] => { results := [.lit (.bool false)], args := [d1, d2] }
  | _ => none }
def FsmOrdersWrongFalsely : Prop := fsmOrdersRow.holds Tryd.pinned (OpenSpec.ofChange fsmOrdersWrong)

/-- 'lessorlaw14.FsmRestarts': WHATEVER THE INPUT: true; the input reads as it did. -/
def fsmRestartsSpec : ChangeSpec := { name := "fsmRestarts", fn := fun _ => fun
  | [d1, d2] => { results := [.lit (.bool true)], args := [d1, d2] }
  | _ => none }
def fsmRestartsRow : OpenClaim := { program := "ytbgkhggohlbdbaadoor", sum := "c34bc8efdaae18327b435546707eaee38a9dad35ce715e7989e126f740cb2b8d", func := "lessor/lessorlaw14.FsmRestarts", spec := "fsmRestarts", named := ["lessor/fsm.rows", "lessor/fsm.names"], apart := false, laid := [("lessor/fsm.rows", laid_lessor_fsm_rows), ("lessor/fsm.names", laid_lessor_fsm_names)] }
def FsmRestartsSaid : Prop := fsmRestartsRow.holds Tryd.pinned (OpenSpec.ofChange fsmRestartsSpec)

/-- ITS FALSE NEIGHBOUR: 'it returns false'. Refute it at one input. -/
def fsmRestartsWrong : ChangeSpec := { name := "fsmRestarts", fn := fun _ => fun
  | [d1, d2] => { results := [.lit (.bool false)], args := [d1, d2] }
  | _ => none }
def FsmRestartsWrongFalsely : Prop := fsmRestartsRow.holds Tryd.pinned (OpenSpec.ofChange fsmRestartsWrong)

/-- 'lessorlaw14.FsmMeets': WHATEVER THE INPUT: true; the input reads as it did. -/
def fsmMeetsSpec : ChangeSpec := { name := "fsmMeets", fn := fun _ => fun
  | [d1, d2, d3] => { results := [.lit (.bool true)], args := [d1, d2, d3] }
  | _ => none }
def fsmMeetsRow : OpenClaim := { program := "ytbgkhggohlbdbaadoor", sum := "c34bc8efdaae18327b435546707eaee38a9dad35ce715e7989e126f740cb2b8d", func := "lessor/lessorlaw14.FsmMeets", spec := "fsmMeets", named := ["lessor/fsm.rows", "lessor/fsm.names"], apart := false, laid := [("lessor/fsm.rows", laid_lessor_fsm_rows), ("lessor/fsm.names", laid_lessor_fsm_names)] }
def FsmMeetsSaid : Prop := fsmMeetsRow.holds Tryd.pinned (OpenSpec.ofChange fsmMeetsSpec)

/-- ITS FALSE NEIGHBOUR: 'it returns false'. Refute it at one input. -/
def fsmMeetsWrong : ChangeSpec := { name := "fsmMeets", fn := fun _ => fun
  | [d1, d2, d3] => { results := [.lit (.bool false)], args := [d1, d2, d3] }
  | _ => none }
def FsmMeetsWrongFalsely : Prop := fsmMeetsRow.holds Tryd.pinned (OpenSpec.ofChange fsmMeetsWrong)

/- THE SECOND FORM. 'bulk': how many values and letters a reading holds, each counted each time it is reached (what is shared counts as often as it is met; a slice's spare places count too). A statement '..UptoSaid' is the law's where the arguments, and the package variables that the reading takes, are together of bulk at most 1048576: NARROWER than '..Said'. Prove '..Said' where nothing that the law and all that it calls make is longer than what came in: it says more and counts as full. Else prove '..UptoSaid'. A law counts once. -/
mutual
def uptoBulk {H : Type} : DataW H → Nat
  | .lit (.string bytes) => bytes.length + 1
  | .lit _ => 1
  | .nil => 1
  | .ptr d => uptoBulk d + 1
  | .slice elems spare => uptoBulkAll elems + uptoBulkAll spare + 1
  | .agg parts => uptoBulkAll parts + 1
  | .iface _ d => uptoBulk d + 1
  | .map entries => uptoBulkEntries entries + 1
  | .held _ => 1
def uptoBulkAll {H : Type} : List (DataW H) → Nat
  | [] => 0
  | d :: r => uptoBulk d + uptoBulkAll r
def uptoBulkEntries {H : Type} : List (Lit × DataW H) → Nat
  | [] => 0
  | x :: r => uptoBulkEntry x + uptoBulkEntries r
def uptoBulkEntry {H : Type} : Lit × DataW H → Nat
  | (.string bytes, d) => bytes.length + uptoBulk d + 1
  | (_, d) => uptoBulk d + 1
 end
def uptoSmall : (H : Type) → List (DataW H) → Bool := fun _ ds => decide (uptoBulkAll ds ≤ 1048576)
def OpenSpec.upto (s : _root_.Go.ChangeSpec) : _root_.Go.OpenSpec := { _root_.Go.OpenSpec.ofChange s with cond := some uptoSmall }

/-- 'lessorlaw14.FsmNexts', WHERE WHAT IT READS IS OF BULK AT MOST 1048576: true; the input reads as it did. -/
def fsmNextsUptoRow : OpenClaim := { program := "ytbgkhggohlbdbaadoor", sum := "c34bc8efdaae18327b435546707eaee38a9dad35ce715e7989e126f740cb2b8d", func := "lessor/lessorlaw14.FsmNexts", spec := "fsmNexts", named := ["lessor/fsm.rows", "lessor/fsm.names"], apart := false, laid := [("lessor/fsm.rows", laid_lessor_fsm_rows), ("lessor/fsm.names", laid_lessor_fsm_names)], narrowed := true }
def FsmNextsUptoSaid : Prop := fsmNextsUptoRow.holds Tryd.pinned (OpenSpec.upto fsmNextsSpec)

/-- 'lessorlaw14.FsmTells', WHERE WHAT IT READS IS OF BULK AT MOST 1048576: true; the input reads as it did. -/
def fsmTellsUptoRow : OpenClaim := { program := "ytbgkhggohlbdbaadoor", sum := "c34bc8efdaae18327b435546707eaee38a9dad35ce715e7989e126f740cb2b8d", func := "lessor/lessorlaw14.FsmTells", spec := "fsmTells", named := ["lessor/fsm.rows", "lessor/fsm.names"], apart := false, laid := [("lessor/fsm.rows", laid_lessor_fsm_rows), ("lessor/fsm.names", laid_lessor_fsm_names)], narrowed := true }
def FsmTellsUptoSaid : Prop := fsmTellsUptoRow.holds Tryd.pinned (OpenSpec.upto fsmTellsSpec)

/-- 'lessorlaw14.FsmOrders', WHERE WHAT IT READS IS OF BULK AT MOST 1048576: true; the input reads as it did. -/
def fsmOrdersUptoRow : OpenClaim := { program := "ytbgkhggohlbdbaadoor", sum := "c34bc8efdaae18327b435546707eaee38a9dad35ce715e7989e126f740cb2b8d", func := "lessor/lessorlaw14.FsmOrders", spec := "fsmOrders", named := ["lessor/fsm.rows", "lessor/fsm.names"], apart := false, laid := [("lessor/fsm.rows", laid_lessor_fsm_rows), ("lessor/fsm.names", laid_lessor_fsm_names)], narrowed := true }
def FsmOrdersUptoSaid : Prop := fsmOrdersUptoRow.holds Tryd.pinned (OpenSpec.upto fsmOrdersSpec)

/-- 'lessorlaw14.FsmRestarts', WHERE WHAT IT READS IS OF BULK AT MOST 1048576: true; the input reads as it did. -/
def fsmRestartsUptoRow : OpenClaim := { program := "ytbgkhggohlbdbaadoor", sum := "c34bc8efdaae18327b435546707eaee38a9dad35ce715e7989e126f740cb2b8d", func := "lessor/lessorlaw14.FsmRestarts", spec := "fsmRestarts", named := ["lessor/fsm.rows", "lessor/fsm.names"], apart := false, laid := [("lessor/fsm.rows", laid_lessor_fsm_rows), ("lessor/fsm.names", laid_lessor_fsm_names)], narrowed := true }
def FsmRestartsUptoSaid : Prop := fsmRestartsUptoRow.holds Tryd.pinned (OpenSpec.upto fsmRestartsSpec)

/-- 'lessorlaw14.FsmMeets', WHERE WHAT IT READS IS OF BULK AT MOST 1048576: true; the input reads as it did. -/
def fsmMeetsUptoRow : OpenClaim := { program := "ytbgkhggohlbdbaadoor", sum := "c34bc8efdaae18327b435546707eaee38a9dad35ce715e7989e126f740cb2b8d", func := "lessor/lessorlaw14.FsmMeets", spec := "fsmMeets", named := ["lessor/fsm.rows", "lessor/fsm.names"], apart := false, laid := [("lessor/fsm.rows", laid_lessor_fsm_rows), ("lessor/fsm.names", laid_lessor_fsm_names)], narrowed := true }
def FsmMeetsUptoSaid : Prop := fsmMeetsUptoRow.holds Tryd.pinned (OpenSpec.upto fsmMeetsSpec)

end Rows
end Go.Proofs.YtbgkhggohlbdbaaDoor
