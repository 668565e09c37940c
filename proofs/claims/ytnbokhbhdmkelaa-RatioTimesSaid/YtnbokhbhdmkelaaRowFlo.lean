/- Arguments that are floats, and pairs of numbers. -/
import Derived.Test.YtnbokhbhdmkelaaRowNum
import Derived.WideKeyPair
import Derived.Laws.Cover2
namespace Go.Proofs.Ytnbokhbhdmkelaa
open Go.ChangeShapes Go.WideShapes Go.ChangeAt Go.RowKit
theorem readF : Try.prog.readableRec 22 = true ∧ 22 < Try.prog.types.size := ⟨by kernel_rfl, of_decide_eq_true (by kernel_rfl)⟩
theorem readT : Try.prog.readableRec 33 = true ∧ 33 < Try.prog.types.size := ⟨by kernel_rfl, of_decide_eq_true (by kernel_rfl)⟩
end Go.Proofs.Ytnbokhbhdmkelaa
