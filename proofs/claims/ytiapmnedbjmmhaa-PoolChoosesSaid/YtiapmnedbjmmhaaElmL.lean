/- Leases as elements of slices (cut out of TabM, for seats without the document's table; where TabM fills, a text of this name that imports it alone takes this one's place). -/
import Derived.Test.YtiapmnedbjmmhaaLeaM
import Derived.Test.YtiapmnedbjmmhaaGenR
namespace Go.Proofs.Ytiapmnedbjmmhaa
open Go.RowKit Go.Sort

/-- Leases as elements of slices. -/
def ElemL : Elem Try.prog LV where
  e := 43
  ty := 33
  m := 8
  bytes := 72
  zero := .agg #[.int .u32 0, .int .i64 0, .string ⟨#[]⟩, .int .i64 0, .int .i64 0, .int .i64 0, .int .i64 0, .int .i64 0]
  cells := fun x => x.cells.toList
  hm := by decide
  hb0 := by decide
  hb := by decide
  len := fun _ => rfl
  one := fun v u hu => by
    simp at hu
    rcases hu with rfl | rfl | rfl | rfl | rfl | rfl | rfl | rfl <;> rfl
  und := Try.underlying33
  info := by kernel_rfl
  hz := rfl
section
variable {w w' : World} {B : Nat} {A : Option Addr} {l : List LV}
/-- An element's cells. -/
theorem El.at8 (h : El ElemL w B A l) (i : Nat) (x : LV) (hx : l[i]? = some x) : ∃ b o, A = some ⟨b, o, none⟩ ∧ b < B ∧ w.cell? ⟨b, o + i * 8, none⟩ = some (.int .u32 (x.addr : Int)) ∧ w.cell? ⟨b, o + i * 8 + 1, none⟩ = some (.int .i64 x.bind) ∧ w.cell? ⟨b, o + i * 8 + 2, none⟩ = some (.string x.cb) ∧ w.cell? ⟨b, o + i * 8 + 3, none⟩ = some (.int .i64 x.unt) ∧ w.cell? ⟨b, o + i * 8 + 4, none⟩ = some (.int .i64 x.acked) ∧ w.cell? ⟨b, o + i * 8 + 5, none⟩ = some (.int .i64 x.told) ∧ w.cell? ⟨b, o + i * 8 + 6, none⟩ = some (.int .i64 x.at_) ∧ w.cell? ⟨b, o + i * 8 + 7, none⟩ = some (.int .i64 x.ver) := by
  obtain ⟨b, o, h1, h2, h3⟩ := h.at_ i x hx
  exact ⟨b, o, h1, h2, h3 0 _ rfl, h3 1 _ rfl, h3 2 _ rfl, h3 3 _ rfl, h3 4 _ rfl, h3 5 _ rfl, h3 6 _ rfl, h3 7 _ rfl⟩
end
end Go.Proofs.Ytiapmnedbjmmhaa
