/- Messages in memory: how a message lies, and its box. (For seats without []uint8; where MsgM fills, take that.) -/
import Derived.Test.YtlbgkpkfjaggkaaLeaM
namespace Go.Proofs.Ytlbgkpkfjaggkaa
open Go.RowKit Go.Sort

/-- A message. -/
structure MsgV where
  kind : Int
  life : Int
  seen : Int
  xid : Int
  state : Int
  addr : Nat
  bind : Int
  client : ByteArray
  pot : Int
  at_ : Int
  ok : Bool
  deriving DecidableEq
abbrev MsgV.cells (m : MsgV) : Array Value := #[.int .i64 m.kind, .int .i64 m.life, .int .i64 m.seen, .int .i64 m.xid, .int .i64 m.state, .int .u32 (m.addr : Int), .int .i64 m.bind, .string m.client, .int .i64 m.pot, .int .i64 m.at_, .bool m.ok]
abbrev MsgV.v (m : MsgV) : Value := .agg m.cells
/-- A message's cells in a block of their own. -/
abbrev mbox (m : MsgV) : Obj := .cells m.cells 27

/-- Block g is the message's box. -/
def MBox (w : World) (g : Nat) (m : MsgV) : Prop := w.heap[g]? = some (.cells m.cells 27 (0, 0))

section
variable {w w' : World} {g : Nat} {m : MsgV}
theorem MBox.new (w : World) (m : MsgV) : MBox (w.alloc (mbox m)) w.heap.size m := heap_alloc_new w _
theorem MBox.lt (h : MBox w g m) : g < w.heap.size := (Array.getElem?_eq_some_iff.1 h).1
theorem MBox.below (h : MBox w g m) {B : Nat} (hb : Below B w w') (hg : g < B) : MBox w' g m := (hb.block g hg).trans h
theorem MBox.later (h : MBox w g m) (hb : Below w.heap.size w w') : MBox w' g m := h.below hb h.lt
theorem MBox.alloc (h : MBox w g m) (o : Obj) : MBox (w.alloc o) g m := h.later ((Below.refl _ _).alloc (Nat.le_refl _) o)
theorem MBox.other (h : MBox w g m) {a : Addr} (ha : g ≠ a.block) (v : Value) : MBox (w.setCell a v) g m := (Below.heap_setCell w a v g ha).trans h
theorem MBox.drew (h : MBox w g m) : MBox w.drew g m := h
theorem MBox.at_ (h : MBox w g m) (i : Nat) : w.cell? ⟨g, i, none⟩ = m.cells[i]? := cell_of_row w g i _ _ _ h
theorem MBox.c0 (h : MBox w g m) : w.cell? ⟨g, 0, none⟩ = some (.int .i64 m.kind) := h.at_ 0
theorem MBox.c1 (h : MBox w g m) : w.cell? ⟨g, 1, none⟩ = some (.int .i64 m.life) := h.at_ 1
theorem MBox.c2 (h : MBox w g m) : w.cell? ⟨g, 2, none⟩ = some (.int .i64 m.seen) := h.at_ 2
theorem MBox.c3 (h : MBox w g m) : w.cell? ⟨g, 3, none⟩ = some (.int .i64 m.xid) := h.at_ 3
theorem MBox.c4 (h : MBox w g m) : w.cell? ⟨g, 4, none⟩ = some (.int .i64 m.state) := h.at_ 4
theorem MBox.c5 (h : MBox w g m) : w.cell? ⟨g, 5, none⟩ = some (.int .u32 (m.addr : Int)) := h.at_ 5
theorem MBox.c6 (h : MBox w g m) : w.cell? ⟨g, 6, none⟩ = some (.int .i64 m.bind) := h.at_ 6
theorem MBox.c7 (h : MBox w g m) : w.cell? ⟨g, 7, none⟩ = some (.string m.client) := h.at_ 7
theorem MBox.c8 (h : MBox w g m) : w.cell? ⟨g, 8, none⟩ = some (.int .i64 m.pot) := h.at_ 8
theorem MBox.c9 (h : MBox w g m) : w.cell? ⟨g, 9, none⟩ = some (.int .i64 m.at_) := h.at_ 9
theorem MBox.c10 (h : MBox w g m) : w.cell? ⟨g, 10, none⟩ = some (.bool m.ok) := h.at_ 10
theorem MBox.all (h : MBox w g m) : w.cell? ⟨g, 0, none⟩ = some (.int .i64 m.kind) ∧ w.cell? ⟨g, 1, none⟩ = some (.int .i64 m.life) ∧ w.cell? ⟨g, 2, none⟩ = some (.int .i64 m.seen) ∧ w.cell? ⟨g, 3, none⟩ = some (.int .i64 m.xid) ∧ w.cell? ⟨g, 4, none⟩ = some (.int .i64 m.state) ∧ w.cell? ⟨g, 5, none⟩ = some (.int .u32 (m.addr : Int)) ∧ w.cell? ⟨g, 6, none⟩ = some (.int .i64 m.bind) ∧ w.cell? ⟨g, 7, none⟩ = some (.string m.client) ∧ w.cell? ⟨g, 8, none⟩ = some (.int .i64 m.pot) ∧ w.cell? ⟨g, 9, none⟩ = some (.int .i64 m.at_) ∧ w.cell? ⟨g, 10, none⟩ = some (.bool m.ok) :=
  ⟨h.c0, h.c1, h.c2, h.c3, h.c4, h.c5, h.c6, h.c7, h.c8, h.c9, h.c10⟩
theorem MBox.allR (h : MBox w g m) : (∀ (d : Nat) (os : Array Obj), (grow (redrawn w d) os).cell? ⟨g, 0, none⟩ = some (.int .i64 m.kind)) ∧ (∀ (d : Nat) (os : Array Obj), (grow (redrawn w d) os).cell? ⟨g, 1, none⟩ = some (.int .i64 m.life)) ∧ (∀ (d : Nat) (os : Array Obj), (grow (redrawn w d) os).cell? ⟨g, 2, none⟩ = some (.int .i64 m.seen)) ∧ (∀ (d : Nat) (os : Array Obj), (grow (redrawn w d) os).cell? ⟨g, 3, none⟩ = some (.int .i64 m.xid)) ∧ (∀ (d : Nat) (os : Array Obj), (grow (redrawn w d) os).cell? ⟨g, 4, none⟩ = some (.int .i64 m.state)) ∧ (∀ (d : Nat) (os : Array Obj), (grow (redrawn w d) os).cell? ⟨g, 5, none⟩ = some (.int .u32 (m.addr : Int))) ∧ (∀ (d : Nat) (os : Array Obj), (grow (redrawn w d) os).cell? ⟨g, 6, none⟩ = some (.int .i64 m.bind)) ∧ (∀ (d : Nat) (os : Array Obj), (grow (redrawn w d) os).cell? ⟨g, 7, none⟩ = some (.string m.client)) ∧ (∀ (d : Nat) (os : Array Obj), (grow (redrawn w d) os).cell? ⟨g, 8, none⟩ = some (.int .i64 m.pot)) ∧ (∀ (d : Nat) (os : Array Obj), (grow (redrawn w d) os).cell? ⟨g, 9, none⟩ = some (.int .i64 m.at_)) ∧ (∀ (d : Nat) (os : Array Obj), (grow (redrawn w d) os).cell? ⟨g, 10, none⟩ = some (.bool m.ok)) :=
  ⟨cell_regrown h.c0, cell_regrown h.c1, cell_regrown h.c2, cell_regrown h.c3, cell_regrown h.c4, cell_regrown h.c5, cell_regrown h.c6, cell_regrown h.c7, cell_regrown h.c8, cell_regrown h.c9, cell_regrown h.c10⟩
theorem MBox.free (h : MBox w g m) (i : Nat) : w.frozen? ⟨g, i, none⟩ = false := by
  simp [World.frozen?, (show w.heap[g]? = _ from h)]
theorem MBox.allF (h : MBox w g m) : w.frozen? ⟨g, 0, none⟩ = false ∧ w.frozen? ⟨g, 1, none⟩ = false ∧ w.frozen? ⟨g, 2, none⟩ = false ∧ w.frozen? ⟨g, 3, none⟩ = false ∧ w.frozen? ⟨g, 4, none⟩ = false ∧ w.frozen? ⟨g, 5, none⟩ = false ∧ w.frozen? ⟨g, 6, none⟩ = false ∧ w.frozen? ⟨g, 7, none⟩ = false ∧ w.frozen? ⟨g, 8, none⟩ = false ∧ w.frozen? ⟨g, 9, none⟩ = false ∧ w.frozen? ⟨g, 10, none⟩ = false := ⟨h.free 0, h.free 1, h.free 2, h.free 3, h.free 4, h.free 5, h.free 6, h.free 7, h.free 8, h.free 9, h.free 10⟩
/-- One cell is stored. -/
theorem MBox.store {m' : MsgV} (h : MBox w g m) (i : Nat) (u : Value) (hu : m.cells.setIfInBounds i u = m'.cells) : MBox (w.setCell ⟨g, i, none⟩ u) g m' := by
  unfold MBox at h ⊢
  rw [← hu]
  show (w.heap.modify g _)[g]? = _
  rw [Array.getElem?_modify, if_pos rfl, h]
  rfl
end
end Go.Proofs.Ytlbgkpkfjaggkaa
