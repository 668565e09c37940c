/- Disks in memory: what a disk holds, how it lies, what a call of its methods leaves alone; the pure deeds. -/
import Derived.Test.YtdeahiccgjldbaaBytN
namespace Go.Proofs.Ytdeahiccgjldbaa
open Go.RowKit

/-- What is kept from one world to a later one: the blocks that P names. -/
structure Kp (P : Nat → Prop) (w w' : World) : Prop where
  os : w'.os = w.os
  tape : w'.tape = w.tape
  output : w'.output = w.output
  size : w.heap.size ≤ w'.heap.size
  block : ∀ k, P k → w'.heap[k]? = w.heap[k]?

section
variable {w w' w'' : World} {P P' : Nat → Prop}
theorem Kp.refl (P : Nat → Prop) (w : World) : Kp P w w := ⟨rfl, rfl, rfl, Nat.le_refl _, fun _ _ => rfl⟩
theorem Kp.trans (h : Kp P w w') (k : Kp P w' w'') : Kp P w w'' :=
  ⟨k.os.trans h.os, k.tape.trans h.tape, k.output.trans h.output, Nat.le_trans h.size k.size, fun i hi => (k.block i hi).trans (h.block i hi)⟩
theorem Kp.weak (h : Kp P w w') (hP : ∀ k, P' k → P k) : Kp P' w w' := ⟨h.os, h.tape, h.output, h.size, fun k hk => h.block k (hP k hk)⟩
theorem Kp.of_below (h : Below w.heap.size w w') (hP : ∀ k, P k → k < w.heap.size) : Kp P w w' := ⟨h.os, h.tape, h.output, h.size, fun k hk => h.block k (hP k hk)⟩
theorem Kp.of_grown {row : Option Nat} (h : w.grownBy w' row) (hP : ∀ k, P k → k < w.heap.size ∧ some k ≠ row) : Kp P w w' := ⟨h.os, h.tape, h.output, h.size, fun k hk => h.block k (hP k hk).1 (hP k hk).2⟩
theorem Kp.below {B : Nat} (h : Kp P w w') (hP : ∀ k, k < B → P k) : Below B w w' := ⟨h.os, h.tape, h.output, h.size, fun k hk => h.block k (hP k hk)⟩
theorem Kp.alloc (h : Kp P w w') (hP : ∀ k, P k → k < w.heap.size) (o : Obj) : Kp P w (w'.alloc o) :=
  h.trans (Kp.of_below ((Below.refl _ _).alloc (Nat.le_refl _) o) fun k hk => Nat.lt_of_lt_of_le (hP k hk) h.size)
theorem Kp.set (h : Kp P w w') {a : Addr} (ha : ¬ P a.block) (v : Value) : Kp P w (w'.setCell a v) :=
  ⟨h.os, h.tape, h.output, by rw [World.size_setCell]; exact h.size, fun k hk => (Below.heap_setCell w' a v k (fun e => ha (e ▸ hk))).trans (h.block k hk)⟩
theorem Kp.drew (h : Kp P w w') : Kp P w w'.drew := ⟨h.os, h.tape, h.output, h.size, h.block⟩
end

theorem own_kp {P : Nat → Prop} {w w' : World} {base : Nat} {e : TypeId} {size n : Nat} {v : Value} {xs : List Value} (h : w.ownsRow base e size v n xs) (hk : Kp P w w') (hP : ∀ k, v.ownBlock = some k → P k) : w'.ownsRow base e size v n xs := by
  refine ⟨h.1, ?_⟩
  rcases h.2 with h2 | ⟨g, cap, cur, rfl, hb, hh, r⟩
  · exact .inl h2
  · exact .inr ⟨g, cap, cur, rfl, hb, by rw [hk.block g (hP g rfl)]; exact hh, r⟩

/-- What a disk holds: its room, its bytes, how many last, how many changes are made yet (-1: all). -/
structure DS where
  room : Nat
  bs : List UInt8
  last : Nat
  left : Int
structure DS.Ok (s : DS) : Prop where
  r0 : 1 ≤ s.room
  r1 : s.room ≤ 1048576
  len : s.bs.length ≤ s.room
  last : s.last ≤ s.bs.length
  left : -1 ≤ s.left
  top : s.left ≤ 9223372036854775807

abbrev DS.cells (s : DS) (v : Value) : Array Value := #[.int .i64 (s.room : Int), v, .int .i64 (s.last : Int), .int .i64 s.left]
abbrev ptr (D : Nat) : Value := .pointer (some ⟨D, 0, none⟩)

/-- Block D is a disk (of one of the two kinds) that holds s; its bytes lie in v, from block base on. -/
structure DAt (ty : TypeId) (base : Nat) (w : World) (D : Nat) (s : DS) (v : Value) : Prop where
  box : w.heap[D]? = some (.cells (s.cells v) ty (0, 0))
  own : w.ownsRow base 5 1 v s.bs.length (bcells s.bs)
  lt : D < base
  size : base ≤ w.heap.size

section
variable {ty : TypeId} {base : Nat} {w w' : World} {D : Nat} {s : DS} {v : Value} {P : Nat → Prop}
theorem DAt.dlt (h : DAt ty base w D s v) : D < w.heap.size := (Array.getElem?_eq_some_iff.1 h.box).1
theorem DAt.c0 (h : DAt ty base w D s v) : w.cell? ⟨D, 0, none⟩ = some (.int .i64 (s.room : Int)) := cell_of_row w D 0 _ _ _ h.box
theorem DAt.c1 (h : DAt ty base w D s v) : w.cell? ⟨D, 1, none⟩ = some v := cell_of_row w D 1 _ _ _ h.box
theorem DAt.c2 (h : DAt ty base w D s v) : w.cell? ⟨D, 2, none⟩ = some (.int .i64 (s.last : Int)) := cell_of_row w D 2 _ _ _ h.box
theorem DAt.c3 (h : DAt ty base w D s v) : w.cell? ⟨D, 3, none⟩ = some (.int .i64 s.left) := cell_of_row w D 3 _ _ _ h.box
theorem DAt.free (h : DAt ty base w D s v) (i : Nat) : w.frozen? ⟨D, i, none⟩ = false := by
  simp [World.frozen?, h.box]
theorem DAt.kp (h : DAt ty base w D s v) (hk : Kp P w w') (hD : P D) (hv : ∀ k, v.ownBlock = some k → P k) : DAt ty base w' D s v :=
  ⟨(hk.block D hD).trans h.box, own_kp h.own hk hv, h.lt, Nat.le_trans h.size hk.size⟩
theorem DAt.ob (h : DAt ty base w D s v) : ∀ k, v.ownBlock = some k → base ≤ k ∧ k < w.heap.size := fun k hk => h.own.lt k hk
theorem DAt.below (h : DAt ty base w D s v) (hb : Below w.heap.size w w') : DAt ty base w' D s v :=
  h.kp (Kp.of_below (P := (· < w.heap.size)) hb fun _ hk => hk) h.dlt (fun k hk => (h.ob k hk).2)
theorem DAt.alloc (h : DAt ty base w D s v) (o : Obj) : DAt ty base (w.alloc o) D s v := h.below ((Below.refl _ _).alloc (Nat.le_refl _) o)
theorem DAt.drew (h : DAt ty base w D s v) : DAt ty base w.drew D s v := h.below (Below.refl _ _).drew
theorem DAt.form (h : DAt ty base w D s v) : ∃ A c, v = .slice A s.bs.length c ∧ s.bs.length ≤ c ∧ By w w.heap.size A s.bs := by
  have ho := h.own
  obtain ⟨A, c, rfl, hc⟩ := own_form ho
  exact ⟨A, c, rfl, hc, By.of_own ho⟩
theorem DAt.set1 (h : DAt ty base w D s v) {v' : Value} (l : List UInt8) (ho : w.ownsRow base 5 1 v' l.length (bcells l)) : DAt ty base (w.setCell ⟨D, 1, none⟩ v') D { s with bs := l } v' :=
  ⟨heap_setCell_same w D 1 _ _ v' h.box, ownsRow_setCell_below ho h.lt _, h.lt, by rw [World.size_setCell]; exact h.size⟩
theorem DAt.set2 (h : DAt ty base w D s v) (n : Nat) : DAt ty base (w.setCell ⟨D, 2, none⟩ (.int .i64 (n : Int))) D { s with last := n } v :=
  ⟨heap_setCell_same w D 2 _ _ _ h.box, ownsRow_setCell_below h.own h.lt _, h.lt, by rw [World.size_setCell]; exact h.size⟩
theorem DAt.set3 (h : DAt ty base w D s v) (n : Int) : DAt ty base (w.setCell ⟨D, 3, none⟩ (.int .i64 n)) D { s with left := n } v :=
  ⟨heap_setCell_same w D 3 _ _ _ h.box, ownsRow_setCell_below h.own h.lt _, h.lt, by rw [World.size_setCell]; exact h.size⟩
end

/-- The blocks that a call upon the disk at D, with its bytes in v, leaves alone. -/
def Oth (w : World) (D : Nat) (v : Value) (k : Nat) : Prop := k < w.heap.size ∧ k ≠ D ∧ v.ownBlock ≠ some k

/-- The disk at D came to hold s': all else is as it was. -/
def Did (ty : TypeId) (base : Nat) (w : World) (D : Nat) (v : Value) (w' : World) (s' : DS) : Prop :=
  ∃ v', DAt ty base w' D s' v' ∧ Kp (Oth w D v) w w' ∧ ∀ k, v'.ownBlock = some k → v.ownBlock = some k ∨ w.heap.size ≤ k

section
variable {ty : TypeId} {base : Nat} {w w1 w' : World} {D : Nat} {s s' : DS} {v : Value}
theorem Did.refl (h : DAt ty base w D s v) : Did ty base w D v w s := ⟨v, h, Kp.refl _ _, fun _ hk => .inl hk⟩
theorem Did.after (hk : Kp (Oth w D v) w w1) (h : Did ty base w1 D v w' s') : Did ty base w D v w' s' := by
  obtain ⟨v', h1, h2, h3⟩ := h
  refine ⟨v', h1, hk.trans (h2.weak fun k hk' => ⟨Nat.lt_of_lt_of_le hk'.1 hk.size, hk'.2⟩), fun k e => ?_⟩
  rcases h3 k e with h | h
  · exact .inl h
  · exact .inr (Nat.le_trans hk.size h)
theorem Oth.set (w1 : World) (i : Nat) (u : Value) (hk : Kp (Oth w D v) w w1) : Kp (Oth w D v) w (w1.setCell ⟨D, i, none⟩ u) := hk.set (fun h => h.2.1 rfl) u
theorem Oth.alloc (hk : Kp (Oth w D v) w w1) (o : Obj) : Kp (Oth w D v) w (w1.alloc o) := hk.alloc (fun _ h => h.1) o
end

/-- The changes that are made yet, once one was made. -/
def DS.count (s : DS) : DS := { s with left := if s.left = -1 then s.left else s.left - 1 }
theorem DS.count_ok {s : DS} (h : s.Ok) : s.count.Ok := by
  refine ⟨h.r0, h.r1, h.len, h.last, ?_, ?_⟩ <;> (have := h.left; have := h.top; simp only [DS.count]; split <;> omega)
def appD (s : DS) (b : List UInt8) : Int × DS :=
  if s.left = 0 then (7, s) else if s.room < s.bs.length + b.length then (3, s.count) else (0, { s.count with bs := s.bs ++ b })
def syncD (s : DS) : Int × DS := if s.left = 0 then (7, s) else (0, { s.count with last := s.bs.length })
def swapD (s : DS) (b : List UInt8) : Int × DS :=
  if s.left = 0 then (7, s) else if s.room < b.length then (3, s.count) else (0, { s.count with bs := b, last := b.length })
def failD (s : DS) (n : Int) : DS := { s with left := if n < -1 then -1 else n }
def kept (s : DS) (n : Int) : Nat := if n ≤ 0 then 0 else if n ≤ ((s.bs.length - s.last : Nat) : Int) then n.toNat else s.bs.length - s.last
def crashD (s : DS) (n : Int) : DS := { s with bs := s.bs.take (s.last + kept s n), last := s.last + kept s n, left := -1 }
theorem kept_le (s : DS) (n : Int) : kept s n ≤ s.bs.length - s.last := by unfold kept; split <;> (try split) <;> omega
theorem crash_len {s : DS} (h : s.Ok) (n : Int) : (crashD s n).bs.length = s.last + kept s n := by
  have := kept_le s n
  have := h.last
  simp [crashD]
  omega
theorem app_ok {s : DS} (h : s.Ok) (b : List UInt8) : (appD s b).2.Ok := by
  unfold appD
  split
  · exact h
  · have c := DS.count_ok h
    split
    · exact c
    · exact ⟨c.r0, c.r1, by simp [DS.count]; omega, by have := h.last; simp [DS.count]; omega, c.left, c.top⟩
theorem sync_ok {s : DS} (h : s.Ok) : (syncD s).2.Ok := by
  unfold syncD
  split
  · exact h
  · have c := DS.count_ok h
    exact ⟨c.r0, c.r1, c.len, by simp [DS.count], c.left, c.top⟩
theorem swap_ok {s : DS} (h : s.Ok) (b : List UInt8) : (swapD s b).2.Ok := by
  unfold swapD
  split
  · exact h
  · have c := DS.count_ok h
    split
    · exact c
    · exact ⟨c.r0, c.r1, by simp [DS.count]; omega, by simp, c.left, c.top⟩
theorem fail_ok {s : DS} (h : s.Ok) (n : Int) (hn : n ≤ 9223372036854775807) : (failD s n).Ok :=
  ⟨h.r0, h.r1, h.len, h.last, by simp only [failD]; split <;> omega, by simp only [failD]; split <;> omega⟩
theorem crash_ok {s : DS} (h : s.Ok) (n : Int) : (crashD s n).Ok := by
  have hl := crash_len h n
  have := kept_le s n
  have := h.last
  have := h.len
  refine ⟨h.r0, h.r1, ?_, ?_, ?_, ?_⟩
  · rw [hl]; show _ ≤ s.room; omega
  · rw [hl]; exact Nat.le_refl _
  · simp [crashD]
  · simp [crashD]

end Go.Proofs.Ytdeahiccgjldbaa
