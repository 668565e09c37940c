/- What the rows of the laws on texts list: the library's variables; a world in which they are laid. -/
import Derived.Test.YtfddngpjaoffgaaDoorRowArgs
import Derived.Test.YtfddngpjaoffgaaDoorAddrU
import Derived.Deep.DeepWitnessRowRef
import Derived.Stop.LaidErr
namespace Go.Proofs.YtfddngpjaoffgaaDoor
open Go.ChangeShapes Go.WideShapes Go.ChangeAt Go.RowKit Go.Deep

theorem readS : Tryd.prog.readableRec 9 = true ∧ 9 < Tryd.prog.types.size := ⟨by kernel_rfl, of_decide_eq_true (by kernel_rfl)⟩
theorem cellsS : Tryd.prog.cellsOf 9 = 1 := by kernel_rfl
theorem cellsErrS : Tryd.prog.cellsOf 115 = 1 := by kernel_rfl
theorem star : "*" ++ "errors.errorString" = "*errors.errorString" := by decide
theorem rowErr (u : TypeId) (h : Tryd.prog.typeName? 3 u = some "*errors.errorString") : u = 113 :=
  typeName_ptr_named (nm := "errors.errorString") (by rw [star]; kernel_rfl) (by kernel_rfl) (by decide) u (by rw [star]; exact h)
theorem gRng : Tryd.prog.globalNamed "strconv.ErrRange" = some 1 := by kernel_rfl
theorem gRngType : (Tryd.prog.globals[1]?).map (·.type) = some 46 := by kernel_rfl
theorem gSyn : Tryd.prog.globalNamed "strconv.ErrSyntax" = some 0 := by kernel_rfl
theorem gSynType : (Tryd.prog.globals[0]?).map (·.type) = some 46 := by kernel_rfl

theorem env_of_rows {W : World} (hL : laidMet Tryd.prog Rows.addrBackRow.laid W) : Env W := by
  have hT : Tab W := by obtain ⟨_, hLv, _⟩ := hL; exact tab_of_rows hLv
  have h4 := hL.tail.tail.tail.tail
  obtain ⟨a0, s0, hv0, _, _, _⟩ := laid_sentinel h4 gRng gRngType Tryd.underlying46 rowErr Tryd.underlying113 Tryd.underlying115 rfl rfl Tryd.underlying9 cellsErrS cellsS
  obtain ⟨a1, s1, hv1, _, _, _⟩ := laid_sentinel h4.tail gSyn gSynType Tryd.underlying46 rowErr Tryd.underlying113 Tryd.underlying115 rfl rfl Tryd.underlying9 cellsErrS cellsS
  exact ⟨hT, ⟨.iface 113 (.pointer (some a1)), by simpa using World.var?_cell gSyn hv1 0, .inr ⟨_, _, rfl⟩⟩, ⟨.iface 113 (.pointer (some a0)), by simpa using World.var?_cell gRng hv0 0, .inr ⟨_, _, rfl⟩⟩⟩

/-- The numbers of a listed table of structs. -/
def flatNums : DataW Unit → List Int
  | .agg ds => ds.flatMap numsOf
  | _ => []
def textOf : DataW Unit → List UInt8
  | .iface _ (.ptr (.agg [.lit (.string l)])) => l
  | _ => []

/-- A world in which all seven are laid. -/
noncomputable def laidWorldT (os : Os) : World :=
  let N := (World.settled Tryd.prog os).heap.size
  let w0 := World.holding Tryd.prog os ⟨#[.cells #[.string ⟨(textOf Rows.laid_strconv_ErrRange).toArray⟩] 115, .cells #[.string ⟨(textOf Rows.laid_strconv_ErrSyntax).toArray⟩] 115], #[], []⟩
  let w1 := put w0 6 (tabCells .u8 (numsOf Rows.laid_math_bits_deBruijn32tab))
  let w2 := put w1 7 (tabCells .u8 (numsOf Rows.laid_math_bits_deBruijn64tab))
  let w3 := put w2 3 (tabCells .u64 (numsOf Rows.laid_internal_strconv_uint64pow10))
  let w4 := put w3 5 (tabCells .u8 (flatNums Rows.laid_unicode_utf8_acceptRanges))
  let w5 := put w4 4 (tabCells .u8 (numsOf Rows.laid_unicode_utf8_first))
  let w6 := put w5 1 #[.iface 113 (.pointer (some ⟨N, 0, none⟩))]
  put w6 0 #[.iface 113 (.pointer (some ⟨N + 1, 0, none⟩))]

def witT : Array Value := #[.int .u32 0, .string ⟨#[]⟩]
set_option maxRecDepth 1000000 in
theorem laid_metT (os : Os) : laidMet Tryd.prog Rows.addrBackRow.laid ((laidWorldT os).forCall (fun _ _ => 0) ⟨#[], witT, []⟩).memory :=
  laidMet_of_run' 8 (by kernel_rfl) (by kernel_rfl)
end Go.Proofs.YtfddngpjaoffgaaDoor
