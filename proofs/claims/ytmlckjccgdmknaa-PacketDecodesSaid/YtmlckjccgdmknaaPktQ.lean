/- What a law's region needs in every world of a quiet walk. -/
import Derived.Test.YtmlckjccgdmknaaPktW
import Derived.Test.YtmlckjccgdmknaaPktR
import Derived.Lib.QuietBelow
namespace Go.Proofs.Ytmlckjccgdmknaa
open Go.RowKit Go.Sort

theorem By.regrown {w : World} {A : Option Addr} {l : List UInt8} (h : By w w.heap.size A l) (d : Nat) (os : Array Obj) : By (grow (redrawn w d) os) (grow (redrawn w d) os).heap.size A l := h.later (below_regrown w d os)
theorem Op.regrown {w : World} {A : Option Addr} {l : List OptV} (h : Op w w.heap.size A l) (d : Nat) (os : Array Obj) : Op (grow (redrawn w d) os) (grow (redrawn w d) os).heap.size A l := h.later (below_regrown w d os)
theorem Pk.regrown {w : World} {p : PktV} (h : Pk w w.heap.size p) (d : Nat) (os : Array Obj) : Pk (grow (redrawn w d) os) (grow (redrawn w d) os).heap.size p := h.later (below_regrown w d os)
theorem str_regrown {w : World} {A : Option Addr} {l : List UInt8} (c : Nat) (h : By w w.heap.size A l) : ∀ (d : Nat) (os : Array Obj), (convert 24 9 (.slice A l.length c)).run Try.prog (grow (redrawn w d) os) = .ok (.string ⟨l.toArray⟩) (grow (redrawn w d) os) := fun d os => str_run c (h.regrown d os)
end Go.Proofs.Ytmlckjccgdmknaa
