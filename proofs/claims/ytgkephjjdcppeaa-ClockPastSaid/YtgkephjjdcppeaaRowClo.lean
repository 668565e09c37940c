/- Arguments that are pairs of numbers. -/
import Derived.Test.YtgkephjjdcppeaaRowNum
import Derived.WideKeyPair
import Derived.Laws.Cover2
namespace Go.Proofs.Ytgkephjjdcppeaa
open Go.ChangeShapes Go.WideShapes Go.ChangeAt Go.RowKit
theorem readT : Try.prog.readableRec 25 = true ∧ 25 < Try.prog.types.size := ⟨by kernel_rfl, of_decide_eq_true (by kernel_rfl)⟩
end Go.Proofs.Ytgkephjjdcppeaa
