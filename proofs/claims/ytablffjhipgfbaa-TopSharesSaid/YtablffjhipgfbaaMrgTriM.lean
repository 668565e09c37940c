/- Three numbers, or two, in a block of their own, of any type. (GraM has the first part, too: where that fills, take that.) -/
import Derived.Test.YtablffjhipgfbaaMrgLeaP
namespace Go.Proofs.Ytablffjhipgfbaa
open Go.RowKit Go.Sort

/-- Block g holds three numbers. -/
def R3 (t : TypeId) (w : World) (g : Nat) (a b c : Int) : Prop := w.heap[g]? = some (.cells #[.int .i64 a, .int .i64 b, .int .i64 c] t (0, 0))
abbrev r3v (a b c : Int) : Value := .agg #[.int .i64 a, .int .i64 b, .int .i64 c]
abbrev r3box (t : TypeId) (a b c : Int) : Obj := .cells #[.int .i64 a, .int .i64 b, .int .i64 c] t
section
variable {w w' : World} {g : Nat} {a b c : Int} {t : TypeId}
theorem R3.new (w : World) (t : TypeId) (a b c : Int) : R3 t (w.alloc (r3box t a b c)) w.heap.size a b c := heap_alloc_new w _
theorem R3.lt (h : R3 t w g a b c) : g < w.heap.size := (Array.getElem?_eq_some_iff.1 h).1
theorem R3.later (h : R3 t w g a b c) (hb : Below w.heap.size w w') : R3 t w' g a b c := (hb.block g h.lt).trans h
theorem R3.alloc (h : R3 t w g a b c) (o : Obj) : R3 t (w.alloc o) g a b c := h.later ((Below.refl _ _).alloc (Nat.le_refl _) o)
theorem R3.other (h : R3 t w g a b c) {p : Addr} (hp : g ≠ p.block) (v : Value) : R3 t (w.setCell p v) g a b c := (Below.heap_setCell w p v g hp).trans h
theorem R3.drew (h : R3 t w g a b c) : R3 t w.drew g a b c := h
theorem R3.at_ (h : R3 t w g a b c) (i : Nat) : w.cell? ⟨g, i, none⟩ = (#[.int .i64 a, .int .i64 b, .int .i64 c] : Array Value)[i]? := cell_of_row w g i _ _ _ h
theorem R3.c0 (h : R3 t w g a b c) : w.cell? ⟨g, 0, none⟩ = some (.int .i64 a) := h.at_ 0
theorem R3.c1 (h : R3 t w g a b c) : w.cell? ⟨g, 1, none⟩ = some (.int .i64 b) := h.at_ 1
theorem R3.c2 (h : R3 t w g a b c) : w.cell? ⟨g, 2, none⟩ = some (.int .i64 c) := h.at_ 2
theorem R3.all (h : R3 t w g a b c) : w.cell? ⟨g, 0, none⟩ = some (.int .i64 a) ∧ w.cell? ⟨g, 1, none⟩ = some (.int .i64 b) ∧ w.cell? ⟨g, 2, none⟩ = some (.int .i64 c) := ⟨h.c0, h.c1, h.c2⟩
theorem R3.allR (h : R3 t w g a b c) : (∀ (d : Nat) (os : Array Obj), (grow (redrawn w d) os).cell? ⟨g, 0, none⟩ = some (.int .i64 a)) ∧ (∀ (d : Nat) (os : Array Obj), (grow (redrawn w d) os).cell? ⟨g, 1, none⟩ = some (.int .i64 b)) ∧ (∀ (d : Nat) (os : Array Obj), (grow (redrawn w d) os).cell? ⟨g, 2, none⟩ = some (.int .i64 c)) :=
  ⟨cell_regrown h.c0, cell_regrown h.c1, cell_regrown h.c2⟩
theorem R3.free (h : R3 t w g a b c) (i : Nat) : w.frozen? ⟨g, i, none⟩ = false := by
  simp [World.frozen?, (show w.heap[g]? = _ from h)]
theorem R3.allF (h : R3 t w g a b c) : w.frozen? ⟨g, 0, none⟩ = false ∧ w.frozen? ⟨g, 1, none⟩ = false ∧ w.frozen? ⟨g, 2, none⟩ = false := ⟨h.free 0, h.free 1, h.free 2⟩
theorem R3.store {a' b' c' : Int} (h : R3 t w g a b c) (i : Nat) (u : Value) (hu : (#[.int .i64 a, .int .i64 b, .int .i64 c] : Array Value).setIfInBounds i u = #[.int .i64 a', .int .i64 b', .int .i64 c']) : R3 t (w.setCell ⟨g, i, none⟩ u) g a' b' c' := by
  unfold R3 at h ⊢
  rw [← hu]
  show (w.heap.modify g _)[g]? = _
  rw [Array.getElem?_modify, if_pos rfl, h]
  rfl
end

/-- Block g holds two numbers. -/
def R2 (t : TypeId) (w : World) (g : Nat) (a b : Int) : Prop := w.heap[g]? = some (.cells #[.int .i64 a, .int .i64 b] t (0, 0))
abbrev r2v (a b : Int) : Value := .agg #[.int .i64 a, .int .i64 b]
abbrev r2box (t : TypeId) (a b : Int) : Obj := .cells #[.int .i64 a, .int .i64 b] t
section
variable {w w' : World} {g : Nat} {a b : Int} {t : TypeId}
theorem R2.new (w : World) (t : TypeId) (a b : Int) : R2 t (w.alloc (r2box t a b)) w.heap.size a b := heap_alloc_new w _
theorem R2.lt (h : R2 t w g a b) : g < w.heap.size := (Array.getElem?_eq_some_iff.1 h).1
theorem R2.later (h : R2 t w g a b) (hb : Below w.heap.size w w') : R2 t w' g a b := (hb.block g h.lt).trans h
theorem R2.alloc (h : R2 t w g a b) (o : Obj) : R2 t (w.alloc o) g a b := h.later ((Below.refl _ _).alloc (Nat.le_refl _) o)
theorem R2.at_ (h : R2 t w g a b) (i : Nat) : w.cell? ⟨g, i, none⟩ = (#[.int .i64 a, .int .i64 b] : Array Value)[i]? := cell_of_row w g i _ _ _ h
theorem R2.c0 (h : R2 t w g a b) : w.cell? ⟨g, 0, none⟩ = some (.int .i64 a) := h.at_ 0
theorem R2.c1 (h : R2 t w g a b) : w.cell? ⟨g, 1, none⟩ = some (.int .i64 b) := h.at_ 1
end
end Go.Proofs.Ytablffjhipgfbaa
