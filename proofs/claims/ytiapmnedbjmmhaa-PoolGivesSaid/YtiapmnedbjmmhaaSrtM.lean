/- Addresses in a row of cells, as the library's plain sort speaks of them: what is read of the row, and what an exchange makes of it. (Names no function and no type of the program.) -/
import Derived.Shelf.GgSortFunc.SW
import Derived.Sort.WalkA
import Derived.CellFam
import Derived.BigQuiet
import Derived.BigRegion
import Derived.Lib.Hide
import Derived.Test.YtiapmnedbjmmhaaChecked
namespace Go.Proofs.Ytiapmnedbjmmhaa
open Go.Shelf Go.RowKit Go.Lib Go.Sort

/-- An address in its cell. -/
abbrev enU : Int → Value := Value.int .u32
/-- The row that is sorted, as it was at first. -/
structure RowU (w0 : World) (b o : Nat) (d0 : Array Int) : Prop where
  holds : Holds enU w0 b o d0
  low : b < w0.heap.size
variable {w0 W : World} {b o : Nat} {d0 d : Array Int}
/-- All cells of the row, under a name of their own. -/
theorem fam {N : Nat} (S : SW enU w0 b o d W) (R : RowU w0 b o d0) (h0 : d0.size = N) (hs : d.size = N) :
    ∃ G : Nat → Int, Hid (∀ t, G t = d[t]!) ∧ (∀ t, t < N → W.cell? ⟨b, o + t, none⟩ = some (.int .u32 (G t))) ∧ (∀ t, t < N → W.frozen? ⟨b, o + t, none⟩ = false) :=
  ⟨fun t => d[t]!, fun _ => rfl, fun t ht => (S.holds R.low R.holds (hs.trans h0.symm) t (by omega)).1, fun t ht => (S.holds R.low R.holds (hs.trans h0.symm) t (by omega)).2⟩
/-- An exchange. -/
theorem exch {G : Nat → Int} (S : SW enU w0 b o d W) (R : RowU w0 b o d0) (HG : Hid (∀ t, G t = d[t]!)) (i j : Nat) (hi : i < d.size) (hj : j < d.size) :
    SW enU w0 b o (swp d i j) ((W.setCell ⟨b, o + i, none⟩ (.int .u32 (G j))).setCell ⟨b, o + j, none⟩ (.int .u32 (G i))) := by
  rw [HG.out, HG.out]
  exact S.swap R.low i j hi hj
theorem SWdrew (S : SW enU w0 b o d W) : SW enU w0 b o d W.drew := S.drewN 1
end Go.Proofs.Ytiapmnedbjmmhaa
