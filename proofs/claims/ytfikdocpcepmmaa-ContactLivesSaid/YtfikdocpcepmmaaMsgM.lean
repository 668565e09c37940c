/- Messages in memory: how a message lies, its box, two of them compared; what is kept of a world; steps of a walk over fields. -/
import Derived.Test.YtfikdocpcepmmaaBytN
import Derived.Laws.StructEq
namespace Go.Proofs.Ytfikdocpcepmmaa
open Go.RowKit

/-- A message. -/
structure MsgV where
  kind : Int
  life : Int
  seen : Int
  xid : Int
  state : Int
  addr : Nat
  bind : Int
  client : ByteArray
  pot : Int
  at_ : Int
  ok : Bool
  deriving DecidableEq
abbrev MsgV.cells (m : MsgV) : Array Value := #[.int .i64 m.kind, .int .i64 m.life, .int .i64 m.seen, .int .i64 m.xid, .int .i64 m.state, .int .u32 (m.addr : Int), .int .i64 m.bind, .string m.client, .int .i64 m.pot, .int .i64 m.at_, .bool m.ok]
abbrev MsgV.v (m : MsgV) : Value := .agg m.cells
/-- A message's cells in a block of their own. -/
abbrev mbox (m : MsgV) : Obj := .cells m.cells 34
def zeroM : MsgV := ⟨0, 0, 0, 0, 0, 0, 0, ⟨#[]⟩, 0, 0, false⟩

/-- Block g is the message's box. -/
def MBox (w : World) (g : Nat) (m : MsgV) : Prop := w.heap[g]? = some (.cells m.cells 34 (0, 0))

/-- What is kept from one world to a later one: the blocks that P names. -/
structure Kp (P : Nat → Prop) (w w' : World) : Prop where
  os : w'.os = w.os
  tape : w'.tape = w.tape
  output : w'.output = w.output
  size : w.heap.size ≤ w'.heap.size
  block : ∀ k, P k → w'.heap[k]? = w.heap[k]?

section
variable {w w' w'' : World} {P P' : Nat → Prop}
theorem Kp.refl (P : Nat → Prop) (w : World) : Kp P w w := ⟨rfl, rfl, rfl, Nat.le_refl _, fun _ _ => rfl⟩
theorem Kp.trans (h : Kp P w w') (k : Kp P w' w'') : Kp P w w'' :=
  ⟨k.os.trans h.os, k.tape.trans h.tape, k.output.trans h.output, Nat.le_trans h.size k.size, fun i hi => (k.block i hi).trans (h.block i hi)⟩
theorem Kp.weak (h : Kp P w w') (hP : ∀ k, P' k → P k) : Kp P' w w' := ⟨h.os, h.tape, h.output, h.size, fun k hk => h.block k (hP k hk)⟩
theorem Kp.of_below (h : Below w.heap.size w w') (hP : ∀ k, P k → k < w.heap.size) : Kp P w w' := ⟨h.os, h.tape, h.output, h.size, fun k hk => h.block k (hP k hk)⟩
theorem Kp.below {B : Nat} (h : Kp P w w') (hP : ∀ k, k < B → P k) : Below B w w' := ⟨h.os, h.tape, h.output, h.size, fun k hk => h.block k (hP k hk)⟩
theorem Kp.alloc (h : Kp P w w') (hP : ∀ k, P k → k < w.heap.size) (o : Obj) : Kp P w (w'.alloc o) :=
  h.trans (Kp.of_below ((Below.refl _ _).alloc (Nat.le_refl _) o) fun k hk => Nat.lt_of_lt_of_le (hP k hk) h.size)
theorem Kp.set (h : Kp P w w') {a : Addr} (ha : ¬ P a.block) (v : Value) : Kp P w (w'.setCell a v) :=
  ⟨h.os, h.tape, h.output, by rw [World.size_setCell]; exact h.size, fun k hk => (Below.heap_setCell w' a v k (fun e => ha (e ▸ hk))).trans (h.block k hk)⟩
end

section
variable {w w' : World} {g : Nat} {m : MsgV} {P : Nat → Prop}
theorem MBox.new (w : World) (m : MsgV) : MBox (w.alloc (mbox m)) w.heap.size m := heap_alloc_new w _
theorem MBox.lt (h : MBox w g m) : g < w.heap.size := (Array.getElem?_eq_some_iff.1 h).1
theorem MBox.kp (h : MBox w g m) (hk : Kp P w w') (hg : P g) : MBox w' g m := (hk.block g hg).trans h
theorem MBox.below (h : MBox w g m) {B : Nat} (hb : Below B w w') (hg : g < B) : MBox w' g m := (hb.block g hg).trans h
theorem MBox.later (h : MBox w g m) (hb : Below w.heap.size w w') : MBox w' g m := h.below hb h.lt
theorem MBox.alloc (h : MBox w g m) (o : Obj) : MBox (w.alloc o) g m := h.later ((Below.refl _ _).alloc (Nat.le_refl _) o)
theorem MBox.other (h : MBox w g m) {a : Addr} (ha : g ≠ a.block) (v : Value) : MBox (w.setCell a v) g m := (Below.heap_setCell w a v g ha).trans h
theorem MBox.drew (h : MBox w g m) : MBox w.drew g m := h
theorem MBox.drewN (h : MBox w g m) (n : Nat) : MBox (w.drewN n) g m := h
theorem MBox.at_ (h : MBox w g m) (i : Nat) : w.cell? ⟨g, i, none⟩ = m.cells[i]? := cell_of_row w g i _ _ _ h
theorem MBox.c0 (h : MBox w g m) : w.cell? ⟨g, 0, none⟩ = some (.int .i64 m.kind) := h.at_ 0
theorem MBox.c1 (h : MBox w g m) : w.cell? ⟨g, 1, none⟩ = some (.int .i64 m.life) := h.at_ 1
theorem MBox.c2 (h : MBox w g m) : w.cell? ⟨g, 2, none⟩ = some (.int .i64 m.seen) := h.at_ 2
theorem MBox.c3 (h : MBox w g m) : w.cell? ⟨g, 3, none⟩ = some (.int .i64 m.xid) := h.at_ 3
theorem MBox.c4 (h : MBox w g m) : w.cell? ⟨g, 4, none⟩ = some (.int .i64 m.state) := h.at_ 4
theorem MBox.c5 (h : MBox w g m) : w.cell? ⟨g, 5, none⟩ = some (.int .u32 (m.addr : Int)) := h.at_ 5
theorem MBox.c6 (h : MBox w g m) : w.cell? ⟨g, 6, none⟩ = some (.int .i64 m.bind) := h.at_ 6
theorem MBox.c7 (h : MBox w g m) : w.cell? ⟨g, 7, none⟩ = some (.string m.client) := h.at_ 7
theorem MBox.c8 (h : MBox w g m) : w.cell? ⟨g, 8, none⟩ = some (.int .i64 m.pot) := h.at_ 8
theorem MBox.c9 (h : MBox w g m) : w.cell? ⟨g, 9, none⟩ = some (.int .i64 m.at_) := h.at_ 9
theorem MBox.c10 (h : MBox w g m) : w.cell? ⟨g, 10, none⟩ = some (.bool m.ok) := h.at_ 10
theorem MBox.all (h : MBox w g m) : w.cell? ⟨g, 0, none⟩ = some (.int .i64 m.kind) ∧ w.cell? ⟨g, 1, none⟩ = some (.int .i64 m.life) ∧ w.cell? ⟨g, 2, none⟩ = some (.int .i64 m.seen) ∧ w.cell? ⟨g, 3, none⟩ = some (.int .i64 m.xid)
    ∧ w.cell? ⟨g, 4, none⟩ = some (.int .i64 m.state) ∧ w.cell? ⟨g, 5, none⟩ = some (.int .u32 (m.addr : Int)) ∧ w.cell? ⟨g, 6, none⟩ = some (.int .i64 m.bind) ∧ w.cell? ⟨g, 7, none⟩ = some (.string m.client)
    ∧ w.cell? ⟨g, 8, none⟩ = some (.int .i64 m.pot) ∧ w.cell? ⟨g, 9, none⟩ = some (.int .i64 m.at_) ∧ w.cell? ⟨g, 10, none⟩ = some (.bool m.ok) :=
  ⟨h.c0, h.c1, h.c2, h.c3, h.c4, h.c5, h.c6, h.c7, h.c8, h.c9, h.c10⟩
theorem MBox.free (h : MBox w g m) (i : Nat) : w.frozen? ⟨g, i, none⟩ = false := by
  simp [World.frozen?, (show w.heap[g]? = _ from h)]
/-- One cell is stored. -/
theorem MBox.store {m' : MsgV} (h : MBox w g m) (i : Nat) (u : Value) (hu : m.cells.setIfInBounds i u = m'.cells) : MBox (w.setCell ⟨g, i, none⟩ u) g m' := by
  unfold MBox at h ⊢
  rw [← hu]
  show (w.heap.modify g _)[g]? = _
  rw [Array.getElem?_modify, if_pos rfl, h]
  rfl
end

/-- A message is laid into a box, cell by cell. -/
def storeM (W : World) (g : Nat) (q : MsgV) : World :=
  (((((((((((W.setCell ⟨g, 0, none⟩ (.int .i64 q.kind)).setCell ⟨g, 1, none⟩ (.int .i64 q.life)).setCell ⟨g, 2, none⟩ (.int .i64 q.seen)).setCell ⟨g, 3, none⟩ (.int .i64 q.xid)).setCell ⟨g, 4, none⟩ (.int .i64 q.state)).setCell ⟨g, 5, none⟩ (.int .u32 (q.addr : Int))).setCell ⟨g, 6, none⟩ (.int .i64 q.bind)).setCell ⟨g, 7, none⟩ (.string q.client)).setCell ⟨g, 8, none⟩ (.int .i64 q.pot)).setCell ⟨g, 9, none⟩ (.int .i64 q.at_)).setCell ⟨g, 10, none⟩ (.bool q.ok))
theorem storeM_box {W : World} {g : Nat} {m : MsgV} (h : MBox W g m) (q : MsgV) : MBox (storeM W g q) g q := by
  unfold storeM
  exact (((((((((((h.store (m' := { m with kind := q.kind }) 0 (.int .i64 q.kind) rfl).store (m' := { m with kind := q.kind, life := q.life }) 1 (.int .i64 q.life) rfl).store (m' := { m with kind := q.kind, life := q.life, seen := q.seen }) 2 (.int .i64 q.seen) rfl).store (m' := { m with kind := q.kind, life := q.life, seen := q.seen, xid := q.xid }) 3 (.int .i64 q.xid) rfl).store (m' := { m with kind := q.kind, life := q.life, seen := q.seen, xid := q.xid, state := q.state }) 4 (.int .i64 q.state) rfl).store (m' := { m with kind := q.kind, life := q.life, seen := q.seen, xid := q.xid, state := q.state, addr := q.addr }) 5 (.int .u32 (q.addr : Int)) rfl).store (m' := { m with kind := q.kind, life := q.life, seen := q.seen, xid := q.xid, state := q.state, addr := q.addr, bind := q.bind }) 6 (.int .i64 q.bind) rfl).store (m' := { m with kind := q.kind, life := q.life, seen := q.seen, xid := q.xid, state := q.state, addr := q.addr, bind := q.bind, client := q.client }) 7 (.string q.client) rfl).store (m' := { m with kind := q.kind, life := q.life, seen := q.seen, xid := q.xid, state := q.state, addr := q.addr, bind := q.bind, client := q.client, pot := q.pot }) 8 (.int .i64 q.pot) rfl).store (m' := { m with kind := q.kind, life := q.life, seen := q.seen, xid := q.xid, state := q.state, addr := q.addr, bind := q.bind, client := q.client, pot := q.pot, at_ := q.at_ }) 9 (.int .i64 q.at_) rfl).store (m' := { m with kind := q.kind, life := q.life, seen := q.seen, xid := q.xid, state := q.state, addr := q.addr, bind := q.bind, client := q.client, pot := q.pot, at_ := q.at_, ok := q.ok }) 10 (.bool q.ok) rfl)
theorem storeM_kp (W : World) (g : Nat) (q : MsgV) : Kp (· ≠ g) W (storeM W g q) := by
  unfold storeM
  exact ((((((((((((Kp.refl _ W).set (a := ⟨g, 0, none⟩) (fun e => e rfl) _).set (a := ⟨g, 1, none⟩) (fun e => e rfl) _).set (a := ⟨g, 2, none⟩) (fun e => e rfl) _).set (a := ⟨g, 3, none⟩) (fun e => e rfl) _).set (a := ⟨g, 4, none⟩) (fun e => e rfl) _).set (a := ⟨g, 5, none⟩) (fun e => e rfl) _).set (a := ⟨g, 6, none⟩) (fun e => e rfl) _).set (a := ⟨g, 7, none⟩) (fun e => e rfl) _).set (a := ⟨g, 8, none⟩) (fun e => e rfl) _).set (a := ⟨g, 9, none⟩) (fun e => e rfl) _).set (a := ⟨g, 10, none⟩) (fun e => e rfl) _)

theorem Try.guardM : Try.prog.eqGuardType Try.prog.depth 34 = false := by kernel_rfl
theorem Try.heldM : Try.prog.stoodInHeld 34 = false := by kernel_rfl

theorem run_partP {P : Program} (t : TypeId) (cs : Array Value) (off : Nat) (v : Value) (W : World) {d : TypeDesc} (hd : P.underlying t = some d) (hn : d = .bool ∨ d = .string ∨ ∃ k, d = .int k) (hv : cs[off]? = some v) : (Go.part t cs off).run P W = .ok v W := by
  rcases hn with rfl | rfl | ⟨k, rfl⟩ <;> simp [Go.part, isAgg, run_underlying hd, hv]
theorem eq_step {P : Program} (d : Nat) (xs ys : Array Value) (f : Field) (fs : List Field) (W : World) {x y : Value} {r : Bool} (hn : f.name ≠ "_") (hx : (Go.part f.type xs f.offset).run P W = .ok x W) (hy : (Go.part f.type ys f.offset).run P W = .ok y W) (he : (Op.equalIn d f.type x y).run P W = .ok r W) :
    (Op.eqFields d xs ys (f :: fs)).run P W = if r = true then (Op.eqFields d xs ys fs).run P W else .ok false W := by
  simp only [Op.eqFields, if_pos hn, Sem.run_bind, hx, hy, he, Result.andThen_ok]
  cases r <;> simp [Sem.run_pure]
theorem eq_int {P : Program} {d : Nat} {xs ys : Array Value} {n : String} {t : TypeId} {o : Nat} {e : Bool} {tg pk : String} {bo : Nat} {fs : List Field} {W : World} {k k' : IntKind} {x y : Int} {r : Bool} (hn : n ≠ "_") (ht : P.underlying t = some (.int k')) (hx : xs[o]? = some (.int k x)) (hy : ys[o]? = some (.int k y)) (hr : (Op.eqFields (d + 1) xs ys fs).run P W = .ok r W) :
    (Op.eqFields (d + 1) xs ys (⟨n, t, o, e, tg, pk, bo⟩ :: fs)).run P W = .ok (decide (x = y) && r) W := by
  rw [eq_step (d + 1) xs ys _ fs W hn (run_partP _ _ _ _ _ ht (.inr (.inr ⟨_, rfl⟩)) hx) (run_partP _ _ _ _ _ ht (.inr (.inr ⟨_, rfl⟩)) hy) (run_equalIn_int W d t k k' x y ht), hr]
  by_cases h : x = y
  · subst h; simp
  · simp [h]
theorem eq_str {P : Program} {d : Nat} {xs ys : Array Value} {n : String} {t : TypeId} {o : Nat} {e : Bool} {tg pk : String} {bo : Nat} {fs : List Field} {W : World} {x y : ByteArray} {r : Bool} (hn : n ≠ "_") (ht : P.underlying t = some .string) (hx : xs[o]? = some (.string x)) (hy : ys[o]? = some (.string y)) (hr : (Op.eqFields (d + 1) xs ys fs).run P W = .ok r W) :
    (Op.eqFields (d + 1) xs ys (⟨n, t, o, e, tg, pk, bo⟩ :: fs)).run P W = .ok (decide (x = y) && r) W := by
  rw [eq_step (d + 1) xs ys _ fs W hn (run_partP _ _ _ _ _ ht (.inr (.inl rfl)) hx) (run_partP _ _ _ _ _ ht (.inr (.inl rfl)) hy) (run_equalIn_string W d t x y ht), hr]
  by_cases h : x = y
  · subst h; simp
  · have h' : ¬ (x.toList = y.toList) := fun e => h (by
      rw [ByteArray.toList_eq, ByteArray.toList_eq] at e
      exact ByteArray.ext (Array.toList_inj.1 e))
    simp [h, h']
theorem eq_bool {P : Program} {d : Nat} {xs ys : Array Value} {n : String} {t : TypeId} {o : Nat} {e : Bool} {tg pk : String} {bo : Nat} {fs : List Field} {W : World} {x y : Bool} {r : Bool} (hn : n ≠ "_") (ht : P.underlying t = some .bool) (hx : xs[o]? = some (.bool x)) (hy : ys[o]? = some (.bool y)) (hr : (Op.eqFields (d + 1) xs ys fs).run P W = .ok r W) :
    (Op.eqFields (d + 1) xs ys (⟨n, t, o, e, tg, pk, bo⟩ :: fs)).run P W = .ok (decide (x = y) && r) W := by
  rw [eq_step (d + 1) xs ys _ fs W hn (run_partP _ _ _ _ _ ht (.inl rfl) hx) (run_partP _ _ _ _ _ ht (.inl rfl) hy) (run_equalIn_bool' W d t x y ht), hr]
  by_cases h : x = y
  · subst h; simp
  · simp [h]

theorem eqM_all (a b : MsgV) : (decide (a.kind = b.kind) && (decide (a.life = b.life) && (decide (a.seen = b.seen) && (decide (a.xid = b.xid) && (decide (a.state = b.state) && (decide ((a.addr : Int) = b.addr) && (decide (a.bind = b.bind) && (decide (a.client = b.client) && (decide (a.pot = b.pot) && (decide (a.at_ = b.at_) && (decide (a.ok = b.ok) && true))))))))))) = decide (a = b) := by
  obtain ⟨a0, a1, a2, a3, a4, a5, a6, a7, a8, a9, a10⟩ := a
  obtain ⟨b0, b1, b2, b3, b4, b5, b6, b7, b8, b9, b10⟩ := b
  rw [Bool.eq_iff_iff]
  simp only [MsgV.mk.injEq, Int.ofNat_inj, Bool.and_eq_true, decide_eq_true_eq, and_true]

def eqB (a0 a1 a2 a3 a4 a5 a6 : Int) (a7 : ByteArray) (a8 a9 : Int) (a10 : Bool) (b0 b1 b2 b3 b4 b5 b6 : Int) (b7 : ByteArray) (b8 b9 : Int) (b10 : Bool) : Bool := (decide (a0 = b0) && (decide (a1 = b1) && (decide (a2 = b2) && (decide (a3 = b3) && (decide (a4 = b4) && (decide (a5 = b5) && (decide (a6 = b6) && (decide (a7 = b7) && (decide (a8 = b8) && (decide (a9 = b9) && (decide (a10 = b10) && true)))))))))))
theorem eqB_of (a b : MsgV) : eqB a.kind a.life a.seen a.xid a.state (a.addr : Int) a.bind a.client a.pot a.at_ a.ok b.kind b.life b.seen b.xid b.state (b.addr : Int) b.bind b.client b.pot b.at_ b.ok = decide (a = b) := eqM_all a b
/-- Two messages are compared, cell by cell. -/
theorem run_eqC (a0 a1 a2 a3 a4 a5 a6 : Int) (a7 : ByteArray) (a8 a9 : Int) (a10 : Bool) (b0 b1 b2 b3 b4 b5 b6 : Int) (b7 : ByteArray) (b8 b9 : Int) (b10 : Bool) (W : World) : (Op.equalIn 10000 34 (.agg #[.int .i64 a0, .int .i64 a1, .int .i64 a2, .int .i64 a3, .int .i64 a4, .int .u32 a5, .int .i64 a6, .string a7, .int .i64 a8, .int .i64 a9, .bool a10]) (.agg #[.int .i64 b0, .int .i64 b1, .int .i64 b2, .int .i64 b3, .int .i64 b4, .int .u32 b5, .int .i64 b6, .string b7, .int .i64 b8, .int .i64 b9, .bool b10])).run Try.prog W = .ok (eqB a0 a1 a2 a3 a4 a5 a6 a7 a8 a9 a10 b0 b1 b2 b3 b4 b5 b6 b7 b8 b9 b10) W := by
  have hf : Try.prog.underlying 34 = some (.struct (Try.prog.fieldsOf 34)) := by
    simp only [Program.fieldsOf, Try.underlying34]
  rw [run_equalIn_struct _ 9999 _ _ _ hf Try.heldM]
  simp only [Program.fieldsOf, Try.underlying34]
  have hI := Try.underlying3
  unfold eqB
  refine eq_int (d := 9998) (by decide) hI rfl rfl ?_
  refine eq_int (d := 9998) (by decide) hI rfl rfl ?_
  refine eq_int (d := 9998) (by decide) hI rfl rfl ?_
  refine eq_int (d := 9998) (by decide) hI rfl rfl ?_
  refine eq_int (d := 9998) (by decide) hI rfl rfl ?_
  refine eq_int (d := 9998) (by decide) Try.underlying32 rfl rfl ?_
  refine eq_int (d := 9998) (by decide) hI rfl rfl ?_
  refine eq_str (d := 9998) (by decide) Try.underlying9 rfl rfl ?_
  refine eq_int (d := 9998) (by decide) hI rfl rfl ?_
  refine eq_int (d := 9998) (by decide) hI rfl rfl ?_
  refine eq_bool (d := 9998) (by decide) Try.underlying4 rfl rfl ?_
  simp only [Op.eqFields, Sem.run_pure]
theorem run_eqlC (a0 a1 a2 a3 a4 a5 a6 : Int) (a7 : ByteArray) (a8 a9 : Int) (a10 : Bool) (b0 b1 b2 b3 b4 b5 b6 : Int) (b7 : ByteArray) (b8 b9 : Int) (b10 : Bool) (W : World) : (binOp .eql 34 (.agg #[.int .i64 a0, .int .i64 a1, .int .i64 a2, .int .i64 a3, .int .i64 a4, .int .u32 a5, .int .i64 a6, .string a7, .int .i64 a8, .int .i64 a9, .bool a10]) (.agg #[.int .i64 b0, .int .i64 b1, .int .i64 b2, .int .i64 b3, .int .i64 b4, .int .u32 b5, .int .i64 b6, .string b7, .int .i64 b8, .int .i64 b9, .bool b10])).run Try.prog W = .ok (.bool (eqB a0 a1 a2 a3 a4 a5 a6 a7 a8 a9 a10 b0 b1 b2 b3 b4 b5 b6 b7 b8 b9 b10)) W := by
  rw [run_eql_struct, run_eqC]
  rfl
theorem run_neqC (a0 a1 a2 a3 a4 a5 a6 : Int) (a7 : ByteArray) (a8 a9 : Int) (a10 : Bool) (b0 b1 b2 b3 b4 b5 b6 : Int) (b7 : ByteArray) (b8 b9 : Int) (b10 : Bool) (W : World) : (binOp .neq 34 (.agg #[.int .i64 a0, .int .i64 a1, .int .i64 a2, .int .i64 a3, .int .i64 a4, .int .u32 a5, .int .i64 a6, .string a7, .int .i64 a8, .int .i64 a9, .bool a10]) (.agg #[.int .i64 b0, .int .i64 b1, .int .i64 b2, .int .i64 b3, .int .i64 b4, .int .u32 b5, .int .i64 b6, .string b7, .int .i64 b8, .int .i64 b9, .bool b10])).run Try.prog W = .ok (.bool (!eqB a0 a1 a2 a3 a4 a5 a6 a7 a8 a9 a10 b0 b1 b2 b3 b4 b5 b6 b7 b8 b9 b10)) W := by
  rw [run_neq_struct, run_eqC]
  rfl
theorem run_guardC (op : BinOp) (x y : Operand) (xs ys : Array Value) (W : World) : (eqGuard op 34 x y (.agg xs) (.agg ys)).run Try.prog W = .ok () W := run_eqGuard_agg W op _ x y xs ys Try.guardM
end Go.Proofs.Ytfikdocpcepmmaa
