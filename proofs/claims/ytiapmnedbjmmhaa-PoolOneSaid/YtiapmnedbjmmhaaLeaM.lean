/- Leases in memory: how a lease lies, its box, two of them compared. -/
import Derived.Test.YtiapmnedbjmmhaaLeaP
import Derived.Laws.StructEq
import Derived.Lib.QuietBelow
namespace Go.Proofs.Ytiapmnedbjmmhaa
open Go.RowKit Go.Sort

/-- Its client, as a text. -/
def LV.cb (m : LV) : ByteArray := ⟨m.client.toArray⟩
theorem LV.cb_size (m : LV) : m.cb.size = m.client.length := by simp [LV.cb, ByteArray.size]
theorem LV.cb_data (m : LV) : m.cb.data.toList = m.client := by simp [LV.cb]
theorem LV.cb_eq (a b : LV) : a.cb = b.cb ↔ a.client = b.client := by
  constructor
  · intro h; rw [← a.cb_data, h, b.cb_data]
  · intro h; unfold LV.cb; rw [h]
abbrev LV.cells (m : LV) : Array Value := #[.int .u32 (m.addr : Int), .int .i64 m.bind, .string m.cb, .int .i64 m.unt, .int .i64 m.acked, .int .i64 m.told, .int .i64 m.at_, .int .i64 m.ver]
abbrev LV.v (m : LV) : Value := .agg m.cells
/-- A lease's cells in a block of their own. -/
abbrev lbox (m : LV) : Obj := .cells m.cells 43

/-- Block g is the lease's box. -/
def LBox (w : World) (g : Nat) (m : LV) : Prop := w.heap[g]? = some (.cells m.cells 43 (0, 0))

section
variable {w w' : World} {g : Nat} {m : LV}
theorem LBox.new (w : World) (m : LV) : LBox (w.alloc (lbox m)) w.heap.size m := heap_alloc_new w _
theorem LBox.lt (h : LBox w g m) : g < w.heap.size := (Array.getElem?_eq_some_iff.1 h).1
theorem LBox.below (h : LBox w g m) {B : Nat} (hb : Below B w w') (hg : g < B) : LBox w' g m := (hb.block g hg).trans h
theorem LBox.later (h : LBox w g m) (hb : Below w.heap.size w w') : LBox w' g m := h.below hb h.lt
theorem LBox.alloc (h : LBox w g m) (o : Obj) : LBox (w.alloc o) g m := h.later ((Below.refl _ _).alloc (Nat.le_refl _) o)
theorem LBox.other (h : LBox w g m) {a : Addr} (ha : g ≠ a.block) (v : Value) : LBox (w.setCell a v) g m := (Below.heap_setCell w a v g ha).trans h
theorem LBox.drew (h : LBox w g m) : LBox w.drew g m := h
theorem LBox.grown (h : LBox w g m) {row : Option Nat} (hg : w.grownBy w' row) (hr : row ≠ some g) : LBox w' g m := (hg.block g h.lt (fun e => hr e.symm)).trans h
theorem LBox.at_ (h : LBox w g m) (i : Nat) : w.cell? ⟨g, i, none⟩ = m.cells[i]? := cell_of_row w g i _ _ _ h
theorem LBox.c0 (h : LBox w g m) : w.cell? ⟨g, 0, none⟩ = some (.int .u32 (m.addr : Int)) := h.at_ 0
theorem LBox.c1 (h : LBox w g m) : w.cell? ⟨g, 1, none⟩ = some (.int .i64 m.bind) := h.at_ 1
theorem LBox.c2 (h : LBox w g m) : w.cell? ⟨g, 2, none⟩ = some (.string m.cb) := h.at_ 2
theorem LBox.c3 (h : LBox w g m) : w.cell? ⟨g, 3, none⟩ = some (.int .i64 m.unt) := h.at_ 3
theorem LBox.c4 (h : LBox w g m) : w.cell? ⟨g, 4, none⟩ = some (.int .i64 m.acked) := h.at_ 4
theorem LBox.c5 (h : LBox w g m) : w.cell? ⟨g, 5, none⟩ = some (.int .i64 m.told) := h.at_ 5
theorem LBox.c6 (h : LBox w g m) : w.cell? ⟨g, 6, none⟩ = some (.int .i64 m.at_) := h.at_ 6
theorem LBox.c7 (h : LBox w g m) : w.cell? ⟨g, 7, none⟩ = some (.int .i64 m.ver) := h.at_ 7
theorem LBox.all (h : LBox w g m) : w.cell? ⟨g, 0, none⟩ = some (.int .u32 (m.addr : Int)) ∧ w.cell? ⟨g, 1, none⟩ = some (.int .i64 m.bind) ∧ w.cell? ⟨g, 2, none⟩ = some (.string m.cb) ∧ w.cell? ⟨g, 3, none⟩ = some (.int .i64 m.unt) ∧ w.cell? ⟨g, 4, none⟩ = some (.int .i64 m.acked) ∧ w.cell? ⟨g, 5, none⟩ = some (.int .i64 m.told) ∧ w.cell? ⟨g, 6, none⟩ = some (.int .i64 m.at_) ∧ w.cell? ⟨g, 7, none⟩ = some (.int .i64 m.ver) :=
  ⟨h.c0, h.c1, h.c2, h.c3, h.c4, h.c5, h.c6, h.c7⟩
theorem LBox.free (h : LBox w g m) (i : Nat) : w.frozen? ⟨g, i, none⟩ = false := by
  simp [World.frozen?, (show w.heap[g]? = _ from h)]
theorem LBox.allF (h : LBox w g m) : w.frozen? ⟨g, 0, none⟩ = false ∧ w.frozen? ⟨g, 1, none⟩ = false ∧ w.frozen? ⟨g, 2, none⟩ = false ∧ w.frozen? ⟨g, 3, none⟩ = false ∧ w.frozen? ⟨g, 4, none⟩ = false ∧ w.frozen? ⟨g, 5, none⟩ = false ∧ w.frozen? ⟨g, 6, none⟩ = false ∧ w.frozen? ⟨g, 7, none⟩ = false := ⟨h.free 0, h.free 1, h.free 2, h.free 3, h.free 4, h.free 5, h.free 6, h.free 7⟩
theorem LBox.allR (h : LBox w g m) : (∀ (d : Nat) (os : Array Obj), (grow (redrawn w d) os).cell? ⟨g, 0, none⟩ = some (.int .u32 (m.addr : Int))) ∧ (∀ (d : Nat) (os : Array Obj), (grow (redrawn w d) os).cell? ⟨g, 1, none⟩ = some (.int .i64 m.bind)) ∧ (∀ (d : Nat) (os : Array Obj), (grow (redrawn w d) os).cell? ⟨g, 2, none⟩ = some (.string m.cb)) ∧ (∀ (d : Nat) (os : Array Obj), (grow (redrawn w d) os).cell? ⟨g, 3, none⟩ = some (.int .i64 m.unt)) ∧ (∀ (d : Nat) (os : Array Obj), (grow (redrawn w d) os).cell? ⟨g, 4, none⟩ = some (.int .i64 m.acked)) ∧ (∀ (d : Nat) (os : Array Obj), (grow (redrawn w d) os).cell? ⟨g, 5, none⟩ = some (.int .i64 m.told)) ∧ (∀ (d : Nat) (os : Array Obj), (grow (redrawn w d) os).cell? ⟨g, 6, none⟩ = some (.int .i64 m.at_)) ∧ (∀ (d : Nat) (os : Array Obj), (grow (redrawn w d) os).cell? ⟨g, 7, none⟩ = some (.int .i64 m.ver)) :=
  ⟨cell_regrown h.c0, cell_regrown h.c1, cell_regrown h.c2, cell_regrown h.c3, cell_regrown h.c4, cell_regrown h.c5, cell_regrown h.c6, cell_regrown h.c7⟩
/-- One cell is stored. -/
theorem LBox.store {m' : LV} (h : LBox w g m) (i : Nat) (u : Value) (hu : m.cells.setIfInBounds i u = m'.cells) : LBox (w.setCell ⟨g, i, none⟩ u) g m' := by
  unfold LBox at h ⊢
  rw [← hu]
  show (w.heap.modify g _)[g]? = _
  rw [Array.getElem?_modify, if_pos rfl, h]
  rfl
end

/-- A lease is laid into a box, cell by cell. -/
def storeL (W : World) (g : Nat) (q : LV) : World :=
  ((((((((W.setCell ⟨g, 0, none⟩ (.int .u32 (q.addr : Int))).setCell ⟨g, 1, none⟩ (.int .i64 q.bind)).setCell ⟨g, 2, none⟩ (.string q.cb)).setCell ⟨g, 3, none⟩ (.int .i64 q.unt)).setCell ⟨g, 4, none⟩ (.int .i64 q.acked)).setCell ⟨g, 5, none⟩ (.int .i64 q.told)).setCell ⟨g, 6, none⟩ (.int .i64 q.at_)).setCell ⟨g, 7, none⟩ (.int .i64 q.ver))
theorem storeL_box {W : World} {g : Nat} {m : LV} (h : LBox W g m) (q : LV) : LBox (storeL W g q) g q := by
  unfold storeL
  exact ((((((((h.store (m' := { m with addr := q.addr }) 0 (.int .u32 (q.addr : Int)) rfl).store (m' := { m with addr := q.addr, bind := q.bind }) 1 (.int .i64 q.bind) rfl).store (m' := { m with addr := q.addr, bind := q.bind, client := q.client }) 2 (.string q.cb) rfl).store (m' := { m with addr := q.addr, bind := q.bind, client := q.client, unt := q.unt }) 3 (.int .i64 q.unt) rfl).store (m' := { m with addr := q.addr, bind := q.bind, client := q.client, unt := q.unt, acked := q.acked }) 4 (.int .i64 q.acked) rfl).store (m' := { m with addr := q.addr, bind := q.bind, client := q.client, unt := q.unt, acked := q.acked, told := q.told }) 5 (.int .i64 q.told) rfl).store (m' := { m with addr := q.addr, bind := q.bind, client := q.client, unt := q.unt, acked := q.acked, told := q.told, at_ := q.at_ }) 6 (.int .i64 q.at_) rfl).store (m' := { m with addr := q.addr, bind := q.bind, client := q.client, unt := q.unt, acked := q.acked, told := q.told, at_ := q.at_, ver := q.ver }) 7 (.int .i64 q.ver) rfl)
theorem storeL_low (W : World) (B g : Nat) (hg : B ≤ g) (q : LV) : Below B W (storeL W g q) := by
  unfold storeL
  exact (((((((((Below.refl B W).setCell (p := ⟨g, 0, none⟩) hg _).setCell (p := ⟨g, 1, none⟩) hg _).setCell (p := ⟨g, 2, none⟩) hg _).setCell (p := ⟨g, 3, none⟩) hg _).setCell (p := ⟨g, 4, none⟩) hg _).setCell (p := ⟨g, 5, none⟩) hg _).setCell (p := ⟨g, 6, none⟩) hg _).setCell (p := ⟨g, 7, none⟩) hg _)

theorem Try.guardL : Try.prog.eqGuardType Try.prog.depth 43 = false := by kernel_rfl
theorem Try.heldL : Try.prog.stoodInHeld 43 = false := by kernel_rfl

theorem run_partP {P : Program} (t : TypeId) (cs : Array Value) (off : Nat) (v : Value) (W : World) {d : TypeDesc} (hd : P.underlying t = some d) (hn : d = .bool ∨ d = .string ∨ ∃ k, d = .int k) (hv : cs[off]? = some v) : (Go.part t cs off).run P W = .ok v W := by
  rcases hn with rfl | rfl | ⟨k, rfl⟩ <;> simp [Go.part, isAgg, run_underlying hd, hv]
theorem eq_step {P : Program} (d : Nat) (xs ys : Array Value) (f : Field) (fs : List Field) (W : World) {x y : Value} {r : Bool} (hn : f.name ≠ "_") (hx : (Go.part f.type xs f.offset).run P W = .ok x W) (hy : (Go.part f.type ys f.offset).run P W = .ok y W) (he : (Op.equalIn d f.type x y).run P W = .ok r W) :
    (Op.eqFields d xs ys (f :: fs)).run P W = if r = true then (Op.eqFields d xs ys fs).run P W else .ok false W := by
  simp only [Op.eqFields, if_pos hn, Sem.run_bind, hx, hy, he, Result.andThen_ok]
  cases r <;> simp [Sem.run_pure]
theorem eq_int {P : Program} {d : Nat} {xs ys : Array Value} {n : String} {t : TypeId} {o : Nat} {e : Bool} {tg pk : String} {bo : Nat} {fs : List Field} {W : World} {k k' : IntKind} {x y : Int} {r : Bool} (hn : n ≠ "_") (ht : P.underlying t = some (.int k')) (hx : xs[o]? = some (.int k x)) (hy : ys[o]? = some (.int k y)) (hr : (Op.eqFields (d + 1) xs ys fs).run P W = .ok r W) :
    (Op.eqFields (d + 1) xs ys (⟨n, t, o, e, tg, pk, bo⟩ :: fs)).run P W = .ok (decide (x = y) && r) W := by
  rw [eq_step (d + 1) xs ys _ fs W hn (run_partP _ _ _ _ _ ht (.inr (.inr ⟨_, rfl⟩)) hx) (run_partP _ _ _ _ _ ht (.inr (.inr ⟨_, rfl⟩)) hy) (run_equalIn_int W d t k k' x y ht), hr]
  by_cases h : x = y
  · subst h; simp
  · simp [h]
theorem eq_str {P : Program} {d : Nat} {xs ys : Array Value} {n : String} {t : TypeId} {o : Nat} {e : Bool} {tg pk : String} {bo : Nat} {fs : List Field} {W : World} {x y : ByteArray} {r : Bool} (hn : n ≠ "_") (ht : P.underlying t = some .string) (hx : xs[o]? = some (.string x)) (hy : ys[o]? = some (.string y)) (hr : (Op.eqFields (d + 1) xs ys fs).run P W = .ok r W) :
    (Op.eqFields (d + 1) xs ys (⟨n, t, o, e, tg, pk, bo⟩ :: fs)).run P W = .ok (decide (x = y) && r) W := by
  rw [eq_step (d + 1) xs ys _ fs W hn (run_partP _ _ _ _ _ ht (.inr (.inl rfl)) hx) (run_partP _ _ _ _ _ ht (.inr (.inl rfl)) hy) (run_equalIn_string W d t x y ht), hr]
  by_cases h : x = y
  · subst h; simp
  · have h' : ¬ (x.toList = y.toList) := fun e => h (by
      rw [ByteArray.toList_eq, ByteArray.toList_eq] at e
      exact ByteArray.ext (Array.toList_inj.1 e))
    simp [h, h']

def eqL (a0 : Int) (a1 : Int) (a2 : ByteArray) (a3 : Int) (a4 : Int) (a5 : Int) (a6 : Int) (a7 : Int) (b0 : Int) (b1 : Int) (b2 : ByteArray) (b3 : Int) (b4 : Int) (b5 : Int) (b6 : Int) (b7 : Int) : Bool := (decide (a0 = b0) && (decide (a1 = b1) && (decide (a2 = b2) && (decide (a3 = b3) && (decide (a4 = b4) && (decide (a5 = b5) && (decide (a6 = b6) && (decide (a7 = b7) && true))))))))
theorem eqL_of (a b : LV) : eqL (a.addr : Int) a.bind a.cb a.unt a.acked a.told a.at_ a.ver (b.addr : Int) b.bind b.cb b.unt b.acked b.told b.at_ b.ver = decide (a = b) := by
  unfold eqL
  have hc := LV.cb_eq a b
  simp only [hc]
  clear hc
  obtain ⟨a0, a1, a2, a3, a4, a5, a6, a7⟩ := a
  obtain ⟨b0, b1, b2, b3, b4, b5, b6, b7⟩ := b
  rw [Bool.eq_iff_iff]
  simp only [LV.mk.injEq, Int.ofNat_inj, Bool.and_eq_true, decide_eq_true_eq, and_true]
/-- Two leases are compared, cell by cell. -/
theorem run_eqL (a0 : Int) (a1 : Int) (a2 : ByteArray) (a3 : Int) (a4 : Int) (a5 : Int) (a6 : Int) (a7 : Int) (b0 : Int) (b1 : Int) (b2 : ByteArray) (b3 : Int) (b4 : Int) (b5 : Int) (b6 : Int) (b7 : Int) (W : World) : (Op.equalIn 10000 43 (.agg #[.int .u32 a0, .int .i64 a1, .string a2, .int .i64 a3, .int .i64 a4, .int .i64 a5, .int .i64 a6, .int .i64 a7]) (.agg #[.int .u32 b0, .int .i64 b1, .string b2, .int .i64 b3, .int .i64 b4, .int .i64 b5, .int .i64 b6, .int .i64 b7])).run Try.prog W = .ok (eqL a0 a1 a2 a3 a4 a5 a6 a7 b0 b1 b2 b3 b4 b5 b6 b7) W := by
  have hf : Try.prog.underlying 43 = some (.struct (Try.prog.fieldsOf 43)) := by
    simp only [Program.fieldsOf, Try.underlying43]
  rw [run_equalIn_struct _ 9999 _ _ _ hf Try.heldL]
  simp only [Program.fieldsOf, Try.underlying43]
  have hI := Try.underlying3
  unfold eqL
  refine eq_int (d := 9998) (by decide) Try.underlying41 rfl rfl ?_
  refine eq_int (d := 9998) (by decide) hI rfl rfl ?_
  refine eq_str (d := 9998) (by decide) Try.underlying9 rfl rfl ?_
  refine eq_int (d := 9998) (by decide) hI rfl rfl ?_
  refine eq_int (d := 9998) (by decide) hI rfl rfl ?_
  refine eq_int (d := 9998) (by decide) hI rfl rfl ?_
  refine eq_int (d := 9998) (by decide) hI rfl rfl ?_
  refine eq_int (d := 9998) (by decide) hI rfl rfl ?_
  simp only [Op.eqFields, Sem.run_pure]
theorem run_eqlL (a0 : Int) (a1 : Int) (a2 : ByteArray) (a3 : Int) (a4 : Int) (a5 : Int) (a6 : Int) (a7 : Int) (b0 : Int) (b1 : Int) (b2 : ByteArray) (b3 : Int) (b4 : Int) (b5 : Int) (b6 : Int) (b7 : Int) (W : World) : (binOp .eql 43 (.agg #[.int .u32 a0, .int .i64 a1, .string a2, .int .i64 a3, .int .i64 a4, .int .i64 a5, .int .i64 a6, .int .i64 a7]) (.agg #[.int .u32 b0, .int .i64 b1, .string b2, .int .i64 b3, .int .i64 b4, .int .i64 b5, .int .i64 b6, .int .i64 b7])).run Try.prog W = .ok (.bool (eqL a0 a1 a2 a3 a4 a5 a6 a7 b0 b1 b2 b3 b4 b5 b6 b7)) W := by
  rw [run_eql_struct, run_eqL]
  rfl
theorem run_neqL (a0 : Int) (a1 : Int) (a2 : ByteArray) (a3 : Int) (a4 : Int) (a5 : Int) (a6 : Int) (a7 : Int) (b0 : Int) (b1 : Int) (b2 : ByteArray) (b3 : Int) (b4 : Int) (b5 : Int) (b6 : Int) (b7 : Int) (W : World) : (binOp .neq 43 (.agg #[.int .u32 a0, .int .i64 a1, .string a2, .int .i64 a3, .int .i64 a4, .int .i64 a5, .int .i64 a6, .int .i64 a7]) (.agg #[.int .u32 b0, .int .i64 b1, .string b2, .int .i64 b3, .int .i64 b4, .int .i64 b5, .int .i64 b6, .int .i64 b7])).run Try.prog W = .ok (.bool (!eqL a0 a1 a2 a3 a4 a5 a6 a7 b0 b1 b2 b3 b4 b5 b6 b7)) W := by
  rw [run_neq_struct, run_eqL]
  rfl
theorem run_guardL (op : BinOp) (x y : Operand) (xs ys : Array Value) (W : World) : (eqGuard op 43 x y (.agg xs) (.agg ys)).run Try.prog W = .ok () W := run_eqGuard_agg W op _ x y xs ys Try.guardL
end Go.Proofs.Ytiapmnedbjmmhaa
