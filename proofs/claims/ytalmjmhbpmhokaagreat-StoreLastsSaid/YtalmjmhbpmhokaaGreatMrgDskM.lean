/- Joined texts: DskM, DskC, DskD, DskE, DskF, DskG, DskH. -/
import Derived.Test.YtalmjmhbpmhokaaGreatMrgBasM
import Derived.BigRegion
import Derived.Shelf.Abstract
import Derived.Deep.RegionHeld3
import Derived.Deep.RegionLaw

/- Disks in memory: what a disk holds, how it lies, what a call of its methods leaves alone; the pure deeds. -/
section
namespace Go.Proofs.YtalmjmhbpmhokaaGreat
open Go.RowKit

/-- What is kept from one world to a later one: the blocks that P names. -/
structure Kp (P : Nat → Prop) (w w' : World) : Prop where
  os : w'.os = w.os
  tape : w'.tape = w.tape
  output : w'.output = w.output
  size : w.heap.size ≤ w'.heap.size
  block : ∀ k, P k → w'.heap[k]? = w.heap[k]?

section
variable {w w' w'' : World} {P P' : Nat → Prop}
theorem Kp.refl (P : Nat → Prop) (w : World) : Kp P w w := ⟨rfl, rfl, rfl, Nat.le_refl _, fun _ _ => rfl⟩
theorem Kp.trans (h : Kp P w w') (k : Kp P w' w'') : Kp P w w'' :=
  ⟨k.os.trans h.os, k.tape.trans h.tape, k.output.trans h.output, Nat.le_trans h.size k.size, fun i hi => (k.block i hi).trans (h.block i hi)⟩
theorem Kp.weak (h : Kp P w w') (hP : ∀ k, P' k → P k) : Kp P' w w' := ⟨h.os, h.tape, h.output, h.size, fun k hk => h.block k (hP k hk)⟩
theorem Kp.of_below (h : Below w.heap.size w w') (hP : ∀ k, P k → k < w.heap.size) : Kp P w w' := ⟨h.os, h.tape, h.output, h.size, fun k hk => h.block k (hP k hk)⟩
theorem Kp.of_grown {row : Option Nat} (h : w.grownBy w' row) (hP : ∀ k, P k → k < w.heap.size ∧ some k ≠ row) : Kp P w w' := ⟨h.os, h.tape, h.output, h.size, fun k hk => h.block k (hP k hk).1 (hP k hk).2⟩
theorem Kp.below {B : Nat} (h : Kp P w w') (hP : ∀ k, k < B → P k) : Below B w w' := ⟨h.os, h.tape, h.output, h.size, fun k hk => h.block k (hP k hk)⟩
theorem Kp.alloc (h : Kp P w w') (hP : ∀ k, P k → k < w.heap.size) (o : Obj) : Kp P w (w'.alloc o) :=
  h.trans (Kp.of_below ((Below.refl _ _).alloc (Nat.le_refl _) o) fun k hk => Nat.lt_of_lt_of_le (hP k hk) h.size)
theorem Kp.set (h : Kp P w w') {a : Addr} (ha : ¬ P a.block) (v : Value) : Kp P w (w'.setCell a v) :=
  ⟨h.os, h.tape, h.output, by rw [World.size_setCell]; exact h.size, fun k hk => (Below.heap_setCell w' a v k (fun e => ha (e ▸ hk))).trans (h.block k hk)⟩
theorem Kp.drew (h : Kp P w w') : Kp P w w'.drew := ⟨h.os, h.tape, h.output, h.size, h.block⟩
end

theorem own_kp {P : Nat → Prop} {w w' : World} {base : Nat} {e : TypeId} {size n : Nat} {v : Value} {xs : List Value} (h : w.ownsRow base e size v n xs) (hk : Kp P w w') (hP : ∀ k, v.ownBlock = some k → P k) : w'.ownsRow base e size v n xs := by
  refine ⟨h.1, ?_⟩
  rcases h.2 with h2 | ⟨g, cap, cur, rfl, hb, hh, r⟩
  · exact .inl h2
  · exact .inr ⟨g, cap, cur, rfl, hb, by rw [hk.block g (hP g rfl)]; exact hh, r⟩

/-- What a disk holds: its room, its bytes, how many last, how many changes are made yet (-1: all). -/
structure DS where
  room : Nat
  bs : List UInt8
  last : Nat
  left : Int
structure DS.Ok (s : DS) : Prop where
  r0 : 1 ≤ s.room
  r1 : s.room ≤ 1048576
  len : s.bs.length ≤ s.room
  last : s.last ≤ s.bs.length
  left : -1 ≤ s.left
  top : s.left ≤ 9223372036854775807

abbrev DS.cells (s : DS) (v : Value) : Array Value := #[.int .i64 (s.room : Int), v, .int .i64 (s.last : Int), .int .i64 s.left]
abbrev ptr (D : Nat) : Value := .pointer (some ⟨D, 0, none⟩)

/-- Block D is a disk (of one of the two kinds) that holds s; its bytes lie in v, from block base on. -/
structure DAt (ty : TypeId) (base : Nat) (w : World) (D : Nat) (s : DS) (v : Value) : Prop where
  box : w.heap[D]? = some (.cells (s.cells v) ty (0, 0))
  own : w.ownsRow base 5 1 v s.bs.length (bcells s.bs)
  lt : D < base
  size : base ≤ w.heap.size

section
variable {ty : TypeId} {base : Nat} {w w' : World} {D : Nat} {s : DS} {v : Value} {P : Nat → Prop}
theorem DAt.dlt (h : DAt ty base w D s v) : D < w.heap.size := (Array.getElem?_eq_some_iff.1 h.box).1
theorem DAt.c0 (h : DAt ty base w D s v) : w.cell? ⟨D, 0, none⟩ = some (.int .i64 (s.room : Int)) := cell_of_row w D 0 _ _ _ h.box
theorem DAt.c1 (h : DAt ty base w D s v) : w.cell? ⟨D, 1, none⟩ = some v := cell_of_row w D 1 _ _ _ h.box
theorem DAt.c2 (h : DAt ty base w D s v) : w.cell? ⟨D, 2, none⟩ = some (.int .i64 (s.last : Int)) := cell_of_row w D 2 _ _ _ h.box
theorem DAt.c3 (h : DAt ty base w D s v) : w.cell? ⟨D, 3, none⟩ = some (.int .i64 s.left) := cell_of_row w D 3 _ _ _ h.box
theorem DAt.free (h : DAt ty base w D s v) (i : Nat) : w.frozen? ⟨D, i, none⟩ = false := by
  simp [World.frozen?, h.box]
theorem DAt.kp (h : DAt ty base w D s v) (hk : Kp P w w') (hD : P D) (hv : ∀ k, v.ownBlock = some k → P k) : DAt ty base w' D s v :=
  ⟨(hk.block D hD).trans h.box, own_kp h.own hk hv, h.lt, Nat.le_trans h.size hk.size⟩
theorem DAt.ob (h : DAt ty base w D s v) : ∀ k, v.ownBlock = some k → base ≤ k ∧ k < w.heap.size := fun k hk => h.own.lt k hk
theorem DAt.below (h : DAt ty base w D s v) (hb : Below w.heap.size w w') : DAt ty base w' D s v :=
  h.kp (Kp.of_below (P := (· < w.heap.size)) hb fun _ hk => hk) h.dlt (fun k hk => (h.ob k hk).2)
theorem DAt.alloc (h : DAt ty base w D s v) (o : Obj) : DAt ty base (w.alloc o) D s v := h.below ((Below.refl _ _).alloc (Nat.le_refl _) o)
theorem DAt.drew (h : DAt ty base w D s v) : DAt ty base w.drew D s v := h.below (Below.refl _ _).drew
theorem DAt.form (h : DAt ty base w D s v) : ∃ A c, v = .slice A s.bs.length c ∧ s.bs.length ≤ c ∧ By w w.heap.size A s.bs := by
  have ho := h.own
  obtain ⟨A, c, rfl, hc⟩ := own_form ho
  exact ⟨A, c, rfl, hc, By.of_own ho⟩
theorem DAt.set1 (h : DAt ty base w D s v) {v' : Value} (l : List UInt8) (ho : w.ownsRow base 5 1 v' l.length (bcells l)) : DAt ty base (w.setCell ⟨D, 1, none⟩ v') D { s with bs := l } v' :=
  ⟨heap_setCell_same w D 1 _ _ v' h.box, ownsRow_setCell_below ho h.lt _, h.lt, by rw [World.size_setCell]; exact h.size⟩
theorem DAt.set2 (h : DAt ty base w D s v) (n : Nat) : DAt ty base (w.setCell ⟨D, 2, none⟩ (.int .i64 (n : Int))) D { s with last := n } v :=
  ⟨heap_setCell_same w D 2 _ _ _ h.box, ownsRow_setCell_below h.own h.lt _, h.lt, by rw [World.size_setCell]; exact h.size⟩
theorem DAt.set3 (h : DAt ty base w D s v) (n : Int) : DAt ty base (w.setCell ⟨D, 3, none⟩ (.int .i64 n)) D { s with left := n } v :=
  ⟨heap_setCell_same w D 3 _ _ _ h.box, ownsRow_setCell_below h.own h.lt _, h.lt, by rw [World.size_setCell]; exact h.size⟩
end

/-- The blocks that a call upon the disk at D, with its bytes in v, leaves alone. -/
def Oth (w : World) (D : Nat) (v : Value) (k : Nat) : Prop := k < w.heap.size ∧ k ≠ D ∧ v.ownBlock ≠ some k

/-- The disk at D came to hold s': all else is as it was. -/
def Did (ty : TypeId) (base : Nat) (w : World) (D : Nat) (v : Value) (w' : World) (s' : DS) : Prop :=
  ∃ v', DAt ty base w' D s' v' ∧ Kp (Oth w D v) w w' ∧ ∀ k, v'.ownBlock = some k → v.ownBlock = some k ∨ w.heap.size ≤ k

section
variable {ty : TypeId} {base : Nat} {w w1 w' : World} {D : Nat} {s s' : DS} {v : Value}
theorem Did.refl (h : DAt ty base w D s v) : Did ty base w D v w s := ⟨v, h, Kp.refl _ _, fun _ hk => .inl hk⟩
theorem Did.after (hk : Kp (Oth w D v) w w1) (h : Did ty base w1 D v w' s') : Did ty base w D v w' s' := by
  obtain ⟨v', h1, h2, h3⟩ := h
  refine ⟨v', h1, hk.trans (h2.weak fun k hk' => ⟨Nat.lt_of_lt_of_le hk'.1 hk.size, hk'.2⟩), fun k e => ?_⟩
  rcases h3 k e with h | h
  · exact .inl h
  · exact .inr (Nat.le_trans hk.size h)
theorem Oth.set (w1 : World) (i : Nat) (u : Value) (hk : Kp (Oth w D v) w w1) : Kp (Oth w D v) w (w1.setCell ⟨D, i, none⟩ u) := hk.set (fun h => h.2.1 rfl) u
theorem Oth.alloc (hk : Kp (Oth w D v) w w1) (o : Obj) : Kp (Oth w D v) w (w1.alloc o) := hk.alloc (fun _ h => h.1) o
end

/-- The changes that are made yet, once one was made. -/
def DS.count (s : DS) : DS := { s with left := if s.left = -1 then s.left else s.left - 1 }
theorem DS.count_ok {s : DS} (h : s.Ok) : s.count.Ok := by
  refine ⟨h.r0, h.r1, h.len, h.last, ?_, ?_⟩ <;> (have := h.left; have := h.top; simp only [DS.count]; split <;> omega)
def appD (s : DS) (b : List UInt8) : Int × DS :=
  if s.left = 0 then (7, s) else if s.room < s.bs.length + b.length then (3, s.count) else (0, { s.count with bs := s.bs ++ b })
def syncD (s : DS) : Int × DS := if s.left = 0 then (7, s) else (0, { s.count with last := s.bs.length })
def swapD (s : DS) (b : List UInt8) : Int × DS :=
  if s.left = 0 then (7, s) else if s.room < b.length then (3, s.count) else (0, { s.count with bs := b, last := b.length })
def failD (s : DS) (n : Int) : DS := { s with left := if n < -1 then -1 else n }
def kept (s : DS) (n : Int) : Nat := if n ≤ 0 then 0 else if n ≤ ((s.bs.length - s.last : Nat) : Int) then n.toNat else s.bs.length - s.last
def crashD (s : DS) (n : Int) : DS := { s with bs := s.bs.take (s.last + kept s n), last := s.last + kept s n, left := -1 }
theorem kept_le (s : DS) (n : Int) : kept s n ≤ s.bs.length - s.last := by unfold kept; split <;> (try split) <;> omega
theorem crash_len {s : DS} (h : s.Ok) (n : Int) : (crashD s n).bs.length = s.last + kept s n := by
  have := kept_le s n
  have := h.last
  simp [crashD]
  omega
theorem app_ok {s : DS} (h : s.Ok) (b : List UInt8) : (appD s b).2.Ok := by
  unfold appD
  split
  · exact h
  · have c := DS.count_ok h
    split
    · exact c
    · exact ⟨c.r0, c.r1, by simp [DS.count]; omega, by have := h.last; simp [DS.count]; omega, c.left, c.top⟩
theorem sync_ok {s : DS} (h : s.Ok) : (syncD s).2.Ok := by
  unfold syncD
  split
  · exact h
  · have c := DS.count_ok h
    exact ⟨c.r0, c.r1, c.len, by simp [DS.count], c.left, c.top⟩
theorem swap_ok {s : DS} (h : s.Ok) (b : List UInt8) : (swapD s b).2.Ok := by
  unfold swapD
  split
  · exact h
  · have c := DS.count_ok h
    split
    · exact c
    · exact ⟨c.r0, c.r1, by simp [DS.count]; omega, by simp, c.left, c.top⟩
theorem fail_ok {s : DS} (h : s.Ok) (n : Int) (hn : n ≤ 9223372036854775807) : (failD s n).Ok :=
  ⟨h.r0, h.r1, h.len, h.last, by simp only [failD]; split <;> omega, by simp only [failD]; split <;> omega⟩
theorem crash_ok {s : DS} (h : s.Ok) (n : Int) : (crashD s n).Ok := by
  have hl := crash_len h n
  have := kept_le s n
  have := h.last
  have := h.len
  refine ⟨h.r0, h.r1, ?_, ?_, ?_, ?_⟩
  · rw [hl]; show _ ≤ s.room; omega
  · rw [hl]; exact Nat.le_refl _
  · simp [crashD]
  · simp [crashD]

end Go.Proofs.YtalmjmhbpmhokaaGreat
end

/- The disk of the code: separate, Read, Lasts, Fail, New. -/
section
namespace Go.Proofs.YtalmjmhbpmhokaaGreat
open Go.RowKit

abbrev DT : TypeId := 72
abbrev RT : TypeId := 52

set_option maxRecDepth 100000 in
/-- Bytes copied over noughts. -/
theorem run_copyB (w : World) (ty : TypeId) (g k c : Nat) (l : List UInt8) (hk : l.length = k) (hb : w.heap[g]? = some (.cells (madeCells #[.int .u8 0] k) 5 (0, 0))) {B : Nat} {A : Option Addr} (cA : Nat) (h : By w B A l) :
    ∃ w' x, (Builtin.copy_ #[49, 49] ty #[.slice (some ⟨g, 0, none⟩) k c, .slice A k cA]).run Tryz.prog w = .ok x w' ∧ w'.heap[g]? = some (.cells (bcells l).toArray 5 (0, 0)) ∧ Kp (· ≠ g) w w' ∧ w'.heap.size = w.heap.size := by
  obtain ⟨i, hi, hz0, hz1, hz2⟩ := info_parts Tryz.infoB
  have hsz : (Tryz.prog.info? 5).map (·.size) = some 1 := by rw [hi]; simp [hz1]
  subst hk
  cases A with
  | some ad =>
    have hr := run_copy_row Tryz.prog w 49 49 ty 5 g 0 l.length c ad l.length cA _ 5 (bcells l) Tryz.underlying49 hsz hb (by rw [bcells_length]; exact (Nat.min_self _).symm) (fun j v hv => h.cells j v hv) (by rw [bcells_length, size_madeCells]; omega) (bcells_one l)
    refine ⟨_, _, hr, ?_, ⟨rfl, rfl, rfl, by simp [World.setRow], fun j hj => setRow_other w g j _ (by omega)⟩, by simp [World.setRow]⟩
    rw [setRow_heap w g _ _ _ _ hb]
    congr 2
    rw [toList_madeCells_one]
    simp [bcells]
  | none =>
    obtain rfl := h.none_
    refine ⟨w, goInt 0, ?_, ?_, Kp.refl _ _, rfl⟩
    · simp [Builtin.copy_, run_underlying Tryz.underlying49, Builtin.lenOf, Builtin.firstCells, sizeOf, typeInfo, hi, storeCells]
    · rw [hb]
      have e : madeCells #[.int .u8 0] ([] : List UInt8).length = (bcells []).toArray := by
        apply Array.ext'
        rw [toList_madeCells_one]
        rfl
      rw [e]

/-- A row of the call's own, just made, as bytes. -/
theorem own_of_block {w : World} {B g k : Nat} {l : List UInt8} (hg : w.heap[g]? = some (.cells (bcells l).toArray 5 (0, 0))) (hB : B ≤ g) (hl : l.length = k) (hk : k ≤ 1048576) : w.ownsRow B 5 1 (.slice (some ⟨g, 0, none⟩) k k) k (bcells l) :=
  ⟨by rw [bcells_length]; omega, .inr ⟨g, k, _, rfl, hB, hg, Nat.le_refl _, by unfold maxLen; omega, by rw [List.size_toArray, bcells_length]; omega, by rw [Nat.mul_one]; exact List.take_of_length_le (by rw [bcells_length]; omega)⟩⟩

set_option maxRecDepth 100000 in
theorem separate_any (A : Option Addr) (c k : Nat) (l : List UInt8) (hk : l.length = k) (hk2 : k ≤ 1048576) (w : World) {B : Nat} (h : By w B A l) (hB : B ≤ w.heap.size) :
    Calls Tryz.prog 49 #[.slice A k c] w fun e w' => ∃ v, e = .returned v ∧ w'.ownsRow w.heap.size 5 1 v k (bcells l) ∧ v.ownBlock = some w.heap.size ∧ Below w.heap.size w w' := by
  have hmk := run_makeF k (by omega)
  have hA : Below w.heap.size w (w.alloc (.cells (madeCells #[.int .u8 0] k) 5)) := (Below.refl _ _).alloc (Nat.le_refl _) _
  obtain ⟨w2, x, hrun, hB2, hK2, hz2⟩ := run_copyB (w.alloc (.cells (madeCells #[.int .u8 0] k) 5)) 3 w.heap.size k k l hk (heap_alloc_new w _) c (h.below (hA.mono hB))
  have HB2 := Lib.hid hB2
  have HK2 := Lib.hid hK2
  have HZ2 := Lib.hid hz2
  clear hB2 hK2 hz2
  go_enter Tryz.func49, Tryz.ntmps49
  go_wp2
  go_ret
  refine ⟨_, rfl, own_of_block HB2.out (Nat.le_refl _) hk hk2, rfl, hA.trans (Kp.below (HK2.out.weak (fun j hj => ?_)) fun j hj => hj)⟩
  exact Nat.ne_of_lt hj

/-- Read: the bytes, in memory of their own. -/
def GiveB (w : World) (l : List UInt8) (e : Ending) (w' : World) : Prop :=
  ∃ v, e = .returned v ∧ w'.ownsRow w.heap.size 5 1 v l.length (bcells l) ∧ Below w.heap.size w w'

set_option maxRecDepth 100000 in
theorem read_any {base : Nat} {w : World} {D : Nat} {s : DS} {v : Value} (h : DAt DT base w D s v) (ho : s.Ok) :
    Calls Tryz.prog 17 #[ptr D] w (GiveB w s.bs) := by
  obtain ⟨A, c, rfl, hc, hby⟩ := h.form
  have h1 := h.c1
  have HC := Lib.hid (separate_any A c s.bs.length s.bs rfl (by have := ho.len; have := ho.r1; omega) w hby (Nat.le_refl _))
  have HD := Lib.hid h
  have HO := Lib.hid ho
  clear h ho hby
  go_enter Tryz.func17, Tryz.ntmps17
  go_wp2_with fail
  refine HC.out.mono ?_
  rintro e w' ⟨v, rfl, hv, _, hb⟩
  go_wp2
  go_ret
  exact ⟨v, rfl, hv, hb⟩

end Go.Proofs.YtalmjmhbpmhokaaGreat
end

/- The disk of the code: Fail, New, Crash. -/
section
namespace Go.Proofs.YtalmjmhbpmhokaaGreat
open Go.RowKit

theorem new_ds (w : World) (k base : Nat) (ty : TypeId) (hb : base = w.heap.size + 1) : DAt ty base (w.alloc (.cells #[.int .i64 (k : Int), .slice none 0 0, .int .i64 0, .int .i64 (-1)] ty)) w.heap.size ⟨k, [], 0, -1⟩ (.slice none 0 0) := by
  subst hb
  exact ⟨heap_alloc_new w _, World.ownsRow_nil _ _ _ _, Nat.lt_succ_self _, by show _ ≤ (w.heap.push _).size; rw [Array.size_push]; exact Nat.le_refl _⟩

set_option maxRecDepth 100000 in
theorem fail_any {base : Nat} {w : World} {D : Nat} {s : DS} {v : Value} (h : DAt DT base w D s v) (n : Int) :
    Calls Tryz.prog 46 #[ptr D, .int .i64 n] w fun e w' => e = .returned (.tuple #[]) ∧ Did DT base w D v w' (failD s n) := by
  have h3 := h.c3
  have hf := h.free 3
  have H := Lib.hid h
  clear h
  go_enter Tryz.func46, Tryz.ntmps46
  go_wp2
  · go_end0
    have e : failD s n = { s with left := -1 } := by rw [failD, if_pos (by omega)]
    rw [e]
    exact ⟨rfl, _, H.out.set3 (-1), Oth.set _ _ _ (Kp.refl _ _), fun _ hk => .inl hk⟩
  · go_end0
    have e : failD s n = { s with left := n } := by rw [failD, if_neg (by omega)]
    rw [e]
    exact ⟨rfl, _, H.out.set3 n, Oth.set _ _ _ (Kp.refl _ _), fun _ hk => .inl hk⟩

/-- What New answers. -/
def News (ty : TypeId) (w : World) (n : Int) (e : Ending) (w' : World) : Prop :=
  (∃ k : Nat, n = (k : Int) ∧ 1 ≤ k ∧ k ≤ 1048576 ∧ e = .returned (.tuple #[ptr w.heap.size, .int .i64 0]) ∧ DAt ty (w.heap.size + 1) w' w.heap.size ⟨k, [], 0, -1⟩ (.slice none 0 0) ∧ Below w.heap.size w w' ∧ w'.heap.size = w.heap.size + 1)
  ∨ (¬ (1 ≤ n ∧ n ≤ 1048576) ∧ e = .returned (.tuple #[.pointer none, .int .i64 1]) ∧ w' = w)

set_option maxRecDepth 100000 in
theorem new_any (w : World) (n : Int) : Calls Tryz.prog 10 #[.int .i64 n] w (News DT w n) := by
  by_cases hn : 1 ≤ n ∧ n ≤ 1048576
  · obtain ⟨k, rfl⟩ := Int.eq_ofNat_of_zero_le (show 0 ≤ n by omega)
    have d1 : decide ((k : Int) < 1) = false := decide_eq_false (by omega)
    have d2 : decide (1048576 < (k : Int)) = false := decide_eq_false (by omega)
    have HN := Lib.hid hn
    clear hn
    go_enter Tryz.func10, Tryz.ntmps10
    go_wp2
    go_ret2
    have hn := HN.out
    exact .inl ⟨k, rfl, by omega, by omega, rfl, new_ds w k _ _ rfl, (Below.refl _ _).alloc (Nat.le_refl _) _, Array.size_push _⟩
  · have h : (decide (n < 1) = true) ∨ (decide (n < 1) = false ∧ decide (1048576 < n) = true) := by
      simp only [decide_eq_true_eq, decide_eq_false_iff_not]; omega
    have HN := Lib.hid hn
    clear hn
    rcases h with d1 | ⟨d1, d2⟩
    all_goals
      go_enter Tryz.func10, Tryz.ntmps10
      go_wp2
      go_ret2
      exact .inr ⟨HN.out, rfl, rfl⟩

theorem own_head {w : World} {base : Nat} {e : TypeId} {A : Option Addr} {m n c k : Nat} {l : List UInt8} (h : w.ownsRow base e 1 (.slice A m c) n (bcells l)) (hm : m = n) (hk : k ≤ n) : w.ownsRow base e 1 (.slice A k c) k (bcells (l.take k)) := by
  subst hm
  have h1 := h.1
  rw [bcells_length] at h1
  refine ⟨by rw [bcells_length, List.length_take]; omega, ?_⟩
  rcases h.2 with ⟨hv, hn⟩ | ⟨g, cap, cur, hv, hb, hh, hnc, hcm, hcs, ht⟩
  · injection hv with hA _ hc
    subst hA hc
    exact .inl ⟨by rw [show k = 0 by omega], by omega⟩
  · injection hv with hA _ hc
    subst hA hc
    refine .inr ⟨g, c, cur, rfl, hb, hh, by omega, hcm, hcs, ?_⟩
    have e1 : bcells (l.take k) = (bcells l).take k := by simp [bcells, List.map_take]
    rw [e1, ← ht, List.take_take, Nat.mul_one, Nat.mul_one, Nat.min_eq_left hk]

set_option maxRecDepth 100000 in
set_option maxHeartbeats 1000000 in
theorem crash_any {base : Nat} {w : World} {D : Nat} {s : DS} {v : Value} (h : DAt DT base w D s v) (ho : s.Ok) (n : Int) :
    Calls Tryz.prog 20 #[ptr D, .int .i64 n] w fun e w' => e = .returned (.tuple #[]) ∧ Did DT base w D v w' (crashD s n) := by
  obtain ⟨A, c, rfl, hc, hby⟩ := h.form
  have h1 := h.c1
  have h2 := h.c2
  have hf2 := h.free 2
  have H := Lib.hid h
  clear h
  have b1 := ho.last
  have b2 := ho.len
  have b3 := ho.r1
  have HO := Lib.hid ho
  clear ho
  have HC := Lib.hid hc
  clear hc hby
  obtain ⟨l, hl⟩ : ∃ l, l = s.bs.length := ⟨_, rfl⟩
  rw [← hl] at h1 b1 b2
  rw [← hl] at H
  obtain ⟨m, hm⟩ : ∃ m, m = s.last := ⟨_, rfl⟩
  rw [← hm] at h2 b1
  have HL := Lib.hid hl
  have HM := Lib.hid hm
  clear hl hm
  have hl3 : l ≤ 1048576 := by omega
  have HR := Lib.hid b2
  have HR1 := Lib.hid b3
  clear b2 b3
  have w1 : IntKind.i64.wrap ((l : Int) - (m : Int)) = (l : Int) - (m : Int) := IntWalk.i64_in _ (by omega)
  have hk : ∃ k : Nat, k ≤ l ∧ Hid (k = s.last + kept s n) ∧ ((n < 0 ∧ ¬ ((l : Int) - (m : Int) < 0) ∧ k = m) ∨ (¬ n < 0 ∧ (l : Int) - (m : Int) < n ∧ IntKind.i64.wrap ((m : Int) + ((l : Int) - (m : Int))) = (k : Int)) ∨ (¬ n < 0 ∧ ¬ ((l : Int) - (m : Int) < n) ∧ IntKind.i64.wrap ((m : Int) + n) = (k : Int))) := by
    have hL := HL.out
    have hM := HM.out
    unfold kept
    rw [← hL, ← hM]
    by_cases hn : n < 0
    · exact ⟨m, b1, by rw [if_pos (by omega)]; rfl, .inl ⟨hn, by omega, rfl⟩⟩
    · by_cases h2 : (l : Int) - (m : Int) < n
      · refine ⟨l, Nat.le_refl _, ?_, .inr (.inl ⟨hn, h2, ?_⟩)⟩
        · rw [if_neg (by omega), if_neg (by omega)]
          show l = m + (l - m)
          omega
        · rw [IntWalk.i64_in _ (by omega)]; omega
      · obtain ⟨j, rfl⟩ := Int.eq_ofNat_of_zero_le (show 0 ≤ n by omega)
        refine ⟨m + j, by omega, ?_, .inr (.inr ⟨hn, h2, ?_⟩)⟩
        · split
          · show m + j = m + 0
            omega
          · show m + j = m + _
            rw [if_pos (by omega)]
            omega
        · rw [IntWalk.i64_in _ (by omega)]; omega
  obtain ⟨k, hkl, HK, hcase⟩ := hk
  have hd1 := (H.out.set2 k).drew
  have hk1 : Kp (Oth w D (.slice A l c)) w (w.setCell ⟨D, 2, none⟩ (.int .i64 (k : Int))).drew := (Oth.set _ _ _ (Kp.refl _ _)).drew
  have hcut := fun W => run_headB A l c (k : Int) (by omega) (by have := HC.out; have := HL.out; omega) W
  rw [Int.toNat_natCast] at hcut
  have HD1 := Lib.hid hd1
  have HK1 := Lib.hid hk1
  have HKL := Lib.hid hkl
  have B1 := Lib.hid b1
  clear hd1 hk1 hkl b1
  rcases hcase with ⟨t1, t2, rfl⟩ | ⟨t1, t2, t3⟩ | ⟨t1, t2, t3⟩
  all_goals
    go_enter Tryz.func20, Tryz.ntmps20
    go_wp2_with fail
    go_region
    generalize (w.setCell ⟨D, 2, none⟩ (.int .i64 (k : Int))).drew = W1 at HD1 HK1 ⊢
    have e1 := HD1.out.c1
    have e2 := HD1.out.c2
    have ef := HD1.out.free 1
    have hown : W1.ownsRow base 5 1 (.slice A k c) (s.bs.take k).length (bcells (s.bs.take k)) := by
      have h := own_head (k := k) HD1.out.own HL.out (by have := HL.out; have := HKL.out; show k ≤ s.bs.length; omega)
      have hlen : (s.bs.take k).length = k := by rw [List.length_take]; have := HL.out; have := HKL.out; omega
      rw [hlen]
      exact h
    have HD2 := Lib.hid ((HD1.out.set1 _ hown).drew)
    have HK2 : Hid (Kp (Oth w D (.slice A l c)) w (W1.setCell ⟨D, 1, none⟩ (.slice A k c)).drew) := Lib.hid (Oth.set _ _ _ HK1.out).drew
    clear hown
    go_wp2_with fail
    go_region
    generalize (W1.setCell ⟨D, 1, none⟩ (.slice A k c)).drew = W2 at HD2 HK2 ⊢
    have e3 := HD2.out.c3
    have ef3 := HD2.out.free 3
    go_wp2
    go_end0
    have hl := HL.out
    subst hl
    have hs : crashD s n = { { { s with last := k } with bs := s.bs.take k } with left := -1 } := by
      unfold crashD
      rw [← HK.out]
    rw [hs]
    exact ⟨rfl, .slice A k c, HD2.out.set3 (-1), Oth.set _ _ _ HK2.out, fun _ hk => .inl (by cases A <;> exact hk)⟩
end Go.Proofs.YtalmjmhbpmhokaaGreat
end

/- The disk of the code: what a change does with its closure; the three closures. -/
section
namespace Go.Proofs.YtalmjmhbpmhokaaGreat
open Go.RowKit

/-- A number is answered, of which Q says more. -/
def Num (Q : Int → World → Prop) (e : Ending) (w' : World) : Prop := ∃ n : Int, e = .returned (.int .i64 n) ∧ Q n w'

set_option maxRecDepth 100000 in
theorem change_any {base : Nat} {w : World} {D : Nat} {s : DS} {v : Value} (h : DAt DT base w D s v) (ho : s.Ok) (f : FuncId) (bs : Array Value)
    (hen : ∀ args w, (callFunc f args).run Tryz.prog w = .ok (.enter f args) w) (Q : Int → World → Prop) (h0 : s.left = 0 → Q 7 w)
    (h1 : s.left ≠ 0 → ∀ w1, DAt DT base w1 D s.count v → Kp (Oth w D v) w w1 → w1.heap.size = w.heap.size → Calls Tryz.prog f bs w1 (Num Q)) :
    Calls Tryz.prog 50 #[ptr D, .func (.func f) #[] bs] w (Num Q) := by
  have h3 := h.c3
  have hf := h.free 3
  have b1 := ho.left
  have b2 := ho.top
  obtain ⟨n, hn⟩ : ∃ n, n = s.left := ⟨_, rfl⟩
  rw [← hn] at h3 h0 h1 b1 b2
  have H0 := Lib.hid h0
  have H1 := Lib.hid h1
  have H := Lib.hid h
  have HN := Lib.hid hn
  clear h0 h1 h hn ho
  have B := Lib.hid (And.intro b1 b2)
  rcases (show (n = 0) ∨ (n ≠ 0 ∧ n = -1) ∨ (n ≠ 0 ∧ n ≠ -1) by omega) with rfl | ⟨e0, rfl⟩ | ⟨e0, e1⟩
  · go_enter Tryz.func50, Tryz.ntmps50
    go_wp2
    go_ret
    exact ⟨7, rfl, H0.out trivial⟩
  · have HC := Lib.hid (H1.out e0 w (by have : s.count = s := by unfold DS.count; rw [if_pos HN.out.symm]
                                        rw [this]; exact H.out) (Kp.refl _ _) rfl)
    clear b1 b2
    go_enter Tryz.func50, Tryz.ntmps50
    go_wp2_with fail
    refine HC.out.mono ?_
    rintro e w' ⟨k, rfl, hk⟩
    go_wp2
    go_ret
    exact ⟨k, rfl, hk⟩
  · have hw : IntKind.i64.wrap (n - 1) = n - 1 := IntWalk.i64_in _ (by omega)
    have d0 : (n == 0) = false := by simpa using e0
    have d1 : (n == -1) = false := by simpa using e1
    have HC := Lib.hid (H1.out e0 (w.setCell ⟨D, 3, none⟩ (.int .i64 (n - 1))) (by
      have : s.count = { s with left := n - 1 } := by unfold DS.count; rw [if_neg (by rw [← HN.out]; exact e1), ← HN.out]
      rw [this]; exact H.out.set3 (n - 1)) (Oth.set _ _ _ (Kp.refl _ _)) (World.size_setCell _ _ _))
    clear e0 e1
    go_enter Tryz.func50, Tryz.ntmps50
    go_wp2_with fail
    refine HC.out.mono ?_
    rintro e w' ⟨k, rfl, hk⟩
    go_wp2
    go_ret
    exact ⟨k, rfl, hk⟩

/-- A closure's box: block g holds the value u, and is none of the disk's. -/
structure Bx (w : World) (D : Nat) (v : Value) (g : Nat) (u : Value) (t : TypeId) : Prop where
  box : w.heap[g]? = some (.cells #[u] t (0, 0))
  ne : g ≠ D
  own : v.ownBlock ≠ some g
section
variable {w w' : World} {D g : Nat} {v u : Value} {t : TypeId}
theorem Bx.lt (h : Bx w D v g u t) : g < w.heap.size := (Array.getElem?_eq_some_iff.1 h.box).1
theorem Bx.oth (h : Bx w D v g u t) : Oth w D v g := ⟨h.lt, h.ne, h.own⟩
theorem Bx.cell (h : Bx w D v g u t) : w.cell? ⟨g, 0, none⟩ = some u := cell_of_row w g 0 _ _ _ h.box
theorem Bx.kp (h : Bx w D v g u t) (hk : Kp (Oth w D v) w w') : Bx w' D v g u t := ⟨(hk.block g h.oth).trans h.box, h.ne, h.own⟩
end

set_option maxRecDepth 100000 in
set_option maxHeartbeats 1000000 in
theorem sync1_any {base : Nat} {w : World} {D : Nat} {s : DS} {v : Value} (h : DAt DT base w D s v) {gd : Nat} (hd : Bx w D v gd (ptr D) 25) :
    Calls Tryz.prog 97 #[ptr gd] w (Num fun n w' => n = 0 ∧ Did DT base w D v w' { s with last := s.bs.length }) := by
  obtain ⟨A, c, rfl, hc, _⟩ := h.form
  have h1 := h.c1
  have h2 := h.c2
  have hf := h.free 2
  have c1 := hd.cell
  have H := Lib.hid h
  have HD := Lib.hid hd
  clear h hd
  obtain ⟨l, hl⟩ : ∃ l, l = s.bs.length := ⟨_, rfl⟩
  rw [← hl] at h1
  have HL := Lib.hid hl
  clear hl hc
  go_enter Tryz.func97, Tryz.ntmps97
  go_wp2_with fail
  go_region
  go_wp2
  go_ret
  have hl := HL.out
  subst hl
  exact ⟨0, rfl, rfl, _, (H.out.set2 _).drew, (Oth.set _ _ _ (Kp.refl _ _)).drew, fun _ hk => .inl hk⟩

end Go.Proofs.YtalmjmhbpmhokaaGreat
end

/- The disk of the code: the closure of Append. -/
section
namespace Go.Proofs.YtalmjmhbpmhokaaGreat
open Go.RowKit

theorem DAt.grow {ty : TypeId} {base : Nat} {w w1 : World} {D : Nat} {s : DS} {v v' : Value} (h : DAt ty base w D s v) (hg : w.grownBy w1 v.ownBlock) (l : List UInt8) (ho : w1.ownsRow base 5 1 v' l.length (bcells l)) : DAt ty base (w1.setCell ⟨D, 1, none⟩ v') D { s with bs := l } v' :=
  ⟨heap_setCell_same w1 D 1 _ _ v' ((hg.block D h.dlt (fun e => by have := (h.ob D e.symm).1; have := h.lt; omega)).trans h.box), ownsRow_setCell_below ho h.lt _, h.lt, by rw [World.size_setCell]; exact Nat.le_trans h.size hg.size⟩
theorem Oth.grown {w w1 : World} {D : Nat} {v : Value} (hg : w.grownBy w1 v.ownBlock) : Kp (Oth w D v) w w1 := Kp.of_grown hg fun _ hk => ⟨hk.1, fun e => hk.2.2 e.symm⟩

/-- Appending in a region that draws its order: what came of it, and in which block it lies. -/
theorem step_appO {w : World} {ops : Array Oper} {o : Oper} {a : Act} {K : Act → World → Prop} {Q : Exit → Act → World → Prop} {E : Prop} (hgd : o.guard = none) (s x : Operand)
    (ho : o.op = .call { callee := .builtin .append, args := #[s, x], argTypes := #[49, 49] }) (base : Nat) (v : Value) (n : Nat) (xs : List Value) (hs : a.eval s = v) (hown : w.ownsRow base 5 1 v n xs)
    (B : Nat) (A : Option Addr) (l : List UInt8) (m c : Nat) (hm : m = l.length) (hx : a.eval x = .slice A m c) (hr : By w B A l) (k : Nat) (hk : n + m = k) (hsz : n + m ≤ 140737488355328) (hbase : base ≤ w.heap.size)
    (h : ∀ A' c' w', w'.ownsRow base 5 1 (.slice A' k c') k (xs ++ bcells l) → w.grownBy w' v.ownBlock → ((Value.slice A' k c').ownBlock = v.ownBlock ∨ (Value.slice A' k c').ownBlock = some w.heap.size) → K (a.put o.dst (.slice A' k c')) w') :
    if Region.wanted o (yielded ops a.tmps) = true then Oper.wp Tryz.prog o a w K Q else E := by
  subst hm hk
  refine step_appB hgd s x ho base v n xs hs hown B A l c hx hr hsz hbase fun v' w' h1 h2 h3 => ?_
  obtain ⟨A', c', rfl, _⟩ := own_form h1
  exact h A' c' w' h1 h2 h3

set_option maxRecDepth 100000 in
set_option maxHeartbeats 1000000 in
theorem append1_any {base : Nat} {w : World} {D : Nat} {s : DS} {v : Value} (h : DAt DT base w D s v) (ho : s.Ok) {gb gd : Nat} {A : Option Addr} {c : Nat} {b : List UInt8} (hA : By w w.heap.size A b)
    (hb : Bx w D v gb (.slice A b.length c) 49) (hd : Bx w D v gd (ptr D) 25) :
    Calls Tryz.prog 51 #[ptr gb, ptr gd] w (Num fun n w' =>
      (s.room < s.bs.length + b.length ∧ n = 3 ∧ Did DT base w D v w' s) ∨ (¬ s.room < s.bs.length + b.length ∧ n = 0 ∧ Did DT base w D v w' { s with bs := s.bs ++ b })) := by
  obtain ⟨A0, c0, rfl, hc0, _⟩ := h.form
  have e0 := h.c0
  have e1 := h.c1
  have cb := hb.cell
  have cd := hd.cell
  have b1 := ho.len
  have b2 := ho.r1
  have H := Lib.hid h
  have HB := Lib.hid hb
  have HD := Lib.hid hd
  have HA := Lib.hid hA
  clear h hb hd hA ho hc0
  obtain ⟨l, hl⟩ : ∃ l, l = s.bs.length := ⟨_, rfl⟩
  obtain ⟨r, hr⟩ : ∃ r, r = s.room := ⟨_, rfl⟩
  obtain ⟨m, hm⟩ : ∃ m, m = b.length := ⟨_, rfl⟩
  rw [← hl] at e1 b1
  rw [← hr] at e0 b1 b2
  rw [← hm] at cb
  have HL := Lib.hid hl
  have HR := Lib.hid hr
  have HM := Lib.hid hm
  clear hl hr hm
  have w1 : IntKind.i64.wrap ((r : Int) - (l : Int)) = (r : Int) - (l : Int) := IntWalk.i64_in _ (by omega)
  by_cases hbig : r < l + m
  · have d : decide ((r : Int) - (l : Int) < (m : Int)) = true := decide_eq_true (by omega)
    have HBig := Lib.hid hbig
    clear hbig
    have B := Lib.hid (And.intro b1 b2)
    clear b1 b2
    go_enter Tryz.func51, Tryz.ntmps51
    go_wp2_with fail
    go_region
    go_wp2
    go_ret
    exact ⟨3, rfl, .inl ⟨by rw [← HR.out, ← HL.out, ← HM.out]; exact HBig.out, rfl, _, H.out.drew, (Kp.refl _ _).drew, fun _ hk => .inl hk⟩⟩
  · have d : decide ((r : Int) - (l : Int) < (m : Int)) = false := decide_eq_false (by omega)
    have HBig := Lib.hid hbig
    clear hbig
    have B := Lib.hid (And.intro b1 b2)
    clear b1 b2
    go_enter Tryz.func51, Tryz.ntmps51
    go_wp2_with fail
    go_region
    have hH := H.out.drew
    have hHB : Bx w.drew D (.slice A0 s.bs.length c0) gb (.slice A m c) 49 := by rw [HM.out]; exact HB.out.kp (Kp.refl _ _).drew
    have hHD := HD.out.kp (Kp.refl (Oth w D _) w).drew
    have hHA : By w.drew w.drew.heap.size A b := HA.out.drew
    have hK0 : Kp (Oth w D (.slice A0 s.bs.length c0)) w w.drew := (Kp.refl _ _).drew
    rw [← HL.out] at hHB hHD hK0
    clear e0 e1 cb cd w1 d
    generalize w.drew = W at hH hHB hHD hHA hK0 ⊢
    have e1 := hH.c1
    rw [← HL.out] at e1
    have cb := hHB.cell
    have cd := hHD.cell
    have hown := hH.own
    rw [← HL.out] at hown
    have hs := hH.size
    have hl3 : l + m ≤ 140737488355328 := by have := HBig.out; have := B.out; omega
    have HH := Lib.hid hH
    have HHB := Lib.hid hHB
    have HHD := Lib.hid hHD
    have HK0 := Lib.hid hK0
    have HHA := Lib.hid hHA
    have HOwn := Lib.hid hown
    have HS := Lib.hid hs
    have HL3 := Lib.hid hl3
    clear hH hHB hHD hHA hK0 hown hs hl3
    have HK1 : Hid (∀ w1, W.drew.grownBy w1 (Value.slice A0 l c0).ownBlock → w1.cell? ⟨gd, 0, none⟩ = some (ptr D) ∧ w1.cell? ⟨D, 1, none⟩ = some (.slice A0 l c0) ∧ w1.frozen? ⟨D, 1, none⟩ = false) := Lib.hid fun w1 hg1 => by
      have hne : (Value.slice A0 l c0).ownBlock ≠ some D := fun e => by have := (HOwn.out.lt D e).1; have := HH.out.lt; omega
      have hbx : w1.heap[D]? = W.heap[D]? := hg1.block D HH.out.dlt (fun e => hne e.symm)
      refine ⟨(cell_grown (p := ⟨gd, 0, none⟩) hg1 HHD.out.lt HHD.out.own).trans HHD.out.cell, (cell_grown (p := ⟨D, 1, none⟩) hg1 HH.out.dlt hne).trans ?_, ?_⟩
      · rw [HL.out]; exact HH.out.c1
      · simp [World.frozen?, hbx, HH.out.box]
    have HFin : Hid (∀ A1 c1 w1, w1.ownsRow base 5 1 (.slice A1 (l + m) c1) (l + m) (bcells s.bs ++ bcells b) → W.drew.grownBy w1 (Value.slice A0 l c0).ownBlock → ((Value.slice A1 (l + m) c1).ownBlock = (Value.slice A0 l c0).ownBlock ∨ (Value.slice A1 (l + m) c1).ownBlock = some W.drew.heap.size) →
        Did DT base w D (.slice A0 s.bs.length c0) (w1.setCell ⟨D, 1, none⟩ (.slice A1 (l + m) c1)) { s with bs := s.bs ++ b }) := Lib.hid fun A1 c1 w1 hown1 hg1 hob1 => by
      have hlen : (s.bs ++ b).length = l + m := by rw [List.length_append, HL.out, HM.out]
      rw [← bcells_append] at hown1
      have hD := HH.out.drew
      rw [← HL.out] at hD ⊢
      refine ⟨.slice A1 (l + m) c1, hD.grow hg1 (s.bs ++ b) (by rw [hlen]; exact hown1), (HK0.out.drew.trans ((Oth.grown hg1).weak fun k hk => ⟨Nat.lt_of_lt_of_le hk.1 HK0.out.size, hk.2⟩)).set (fun h => h.2.1 rfl) _, fun k hk => ?_⟩
      rcases hob1 with e | e
      · exact .inl (e ▸ hk)
      · rw [e] at hk
        injection hk with hk
        subst hk
        exact .inr HK0.out.size
    go_wp2_with fail
    go_region_law (first | (refine step_appO rfl (.tmp 20) (.tmp 21) rfl base _ _ _ rfl HOwn.out.drew _ _ b m c HM.out rfl HHA.out.drew (l + m) rfl HL3.out HS.out ?_; intro A1 c1 w1 hown1 hg1 hob1; obtain ⟨d1, d2, d3⟩ := HK1.out w1 hg1))
    all_goals
      have HX := Lib.hid (HFin.out A1 c1 w1 hown1 hg1 hob1)
      clear hown1 hg1 hob1 d1 d2 d3
      go_wp2
      go_ret
      exact ⟨0, rfl, .inr ⟨by rw [← HR.out, ← HL.out, ← HM.out]; exact HBig.out, rfl, HX.out⟩⟩

end Go.Proofs.YtalmjmhbpmhokaaGreat
end

/- The disk of the code: the closure of Swap. -/
section
namespace Go.Proofs.YtalmjmhbpmhokaaGreat
open Go.RowKit

theorem own_lower {w : World} {base lo : Nat} {e : TypeId} {size n : Nat} {v : Value} {xs : List Value} (h : w.ownsRow base e size v n xs) (hl : lo ≤ base) : w.ownsRow lo e size v n xs := by
  refine ⟨h.1, ?_⟩
  rcases h.2 with h | ⟨g, cap, cur, h1, h2, h3⟩
  · exact .inl h
  · exact .inr ⟨g, cap, cur, h1, Nat.le_trans hl h2, h3⟩
theorem cell_set (w : World) {D i : Nat} {u : Value} {p : Addr} (h : p.block ≠ D) : (w.setCell ⟨D, i, none⟩ u).cell? p = w.cell? p :=
  World.cell?_of_block (Below.heap_setCell w ⟨D, i, none⟩ u p.block h)

set_option maxRecDepth 100000 in
set_option maxHeartbeats 1000000 in
theorem swap1_any {base : Nat} {w : World} {D : Nat} {s : DS} {v : Value} (h : DAt DT base w D s v) (ho : s.Ok) {gb gd : Nat} {A : Option Addr} {c : Nat} {b : List UInt8} (hA : By w w.heap.size A b)
    (hb : Bx w D v gb (.slice A b.length c) 49) (hd : Bx w D v gd (ptr D) 25) :
    Calls Tryz.prog 103 #[ptr gb, ptr gd] w (Num fun n w' =>
      (s.room < b.length ∧ n = 3 ∧ Did DT base w D v w' s) ∨ (¬ s.room < b.length ∧ n = 0 ∧ Did DT base w D v w' { s with bs := b, last := b.length })) := by
  have e0 := h.c0
  have cb := hb.cell
  have cd := hd.cell
  have b2 := ho.r1
  have H := Lib.hid h
  have HB := Lib.hid hb
  have HD := Lib.hid hd
  have HA := Lib.hid hA
  clear h hb hd hA ho
  obtain ⟨r, hr⟩ : ∃ r, r = s.room := ⟨_, rfl⟩
  obtain ⟨m, hm⟩ : ∃ m, m = b.length := ⟨_, rfl⟩
  rw [← hr] at e0 b2
  rw [← hm] at cb
  have HR := Lib.hid hr
  have HM := Lib.hid hm
  clear hr hm
  by_cases hbig : r < m
  · have d : decide ((r : Int) < (m : Int)) = true := decide_eq_true (by omega)
    have HBig := Lib.hid hbig
    have B := Lib.hid b2
    clear hbig b2
    go_enter Tryz.func103, Tryz.ntmps103
    go_wp2_with fail
    go_region
    go_wp2
    go_ret
    exact ⟨3, rfl, .inl ⟨by rw [← HR.out, ← HM.out]; exact HBig.out, rfl, _, H.out.drew, (Kp.refl _ _).drew, fun _ hk => .inl hk⟩⟩
  · have d : decide ((r : Int) < (m : Int)) = false := decide_eq_false (by omega)
    have HBig := Lib.hid hbig
    have B := Lib.hid b2
    clear hbig b2
    go_enter Tryz.func103, Tryz.ntmps103
    go_wp2_with fail
    go_region
    go_wp2_with fail
    have hH := H.out.drew
    have hHB := HB.out.kp (Kp.refl (Oth w D v) w).drew
    have hHD := HD.out.kp (Kp.refl (Oth w D v) w).drew
    rw [← HM.out] at hHB
    have hHA : By w.drew w.drew.heap.size A b := HA.out.drew
    have hK0 : Kp (Oth w D v) w w.drew := (Kp.refl _ _).drew
    clear e0 cb cd d
    generalize w.drew = W at hH hHB hHD hHA hK0 ⊢
    have cb := hHB.cell
    have cd := hHD.cell
    have ne1 := hHB.ne
    have ne2 := hHD.ne
    have HH := Lib.hid hH
    have HHB := Lib.hid hHB
    have HHD := Lib.hid hHD
    have HK0 := Lib.hid hK0
    have HC := Lib.hid (separate_any A c m b HM.out.symm (by have := HBig.out; have := B.out; omega) W.drew hHA.drew (Nat.le_refl _))
    clear hH hHB hHD hHA hK0
    have HK1 : Hid (∀ w1, Below W.heap.size W.drew w1 → w1.cell? ⟨gd, 0, none⟩ = some (ptr D) ∧ w1.cell? ⟨gb, 0, none⟩ = some (.slice A m c) ∧ (∃ u1, w1.cell? ⟨D, 1, none⟩ = some u1) ∧ w1.frozen? ⟨D, 1, none⟩ = false ∧ (∃ u2, w1.cell? ⟨D, 2, none⟩ = some u2) ∧ w1.frozen? ⟨D, 2, none⟩ = false) := Lib.hid fun w1 hB1 => by
      have hD1 := HH.out.drew.below hB1
      exact ⟨(hB1.cell (p := ⟨gd, 0, none⟩) HHD.out.lt).trans HHD.out.cell, (hB1.cell (p := ⟨gb, 0, none⟩) HHB.out.lt).trans HHB.out.cell, ⟨_, hD1.c1⟩, hD1.free 1, ⟨_, hD1.c2⟩, hD1.free 2⟩
    go_wp2_with fail
    go_region_held3 (fun w' => w'.cell? ⟨gd, 0, none⟩ = some (ptr D) ∧ w'.cell? ⟨gb, 0, none⟩ = some (.slice A m c))
      (first
        | go_keep
        | exact ⟨d1, d2⟩
        | exact ⟨(cell_set _ (p := ⟨gd, 0, none⟩) ne2).trans d1, (cell_set _ (p := ⟨gb, 0, none⟩) ne1).trans d2⟩
        | exact ⟨(cell_set _ (p := ⟨gd, 0, none⟩) ne2).trans ((cell_set _ (p := ⟨gd, 0, none⟩) ne2).trans d1), (cell_set _ (p := ⟨gb, 0, none⟩) ne1).trans ((cell_set _ (p := ⟨gb, 0, none⟩) ne1).trans d2)⟩)
      ((go_at_call 49; refine HC.out.mono ?_; rintro e w1 ⟨v1, rfl, hown1, hob1, hB1⟩; obtain ⟨A1, c1, rfl, _⟩ := own_form hown1; obtain ⟨d1, d2, ⟨u1, d3⟩, d4, ⟨u2, d5⟩, d6⟩ := HK1.out w1 hB1))
    have hfin : Did DT base w D v ((w1.setCell ⟨D, 1, none⟩ (.slice A1 m c1)).setCell ⟨D, 2, none⟩ (.int .i64 (m : Int))) { s with bs := b, last := b.length } := by
      have hD1 := HH.out.drew.below hB1
      have hown2 : w1.ownsRow base 5 1 (.slice A1 m c1) b.length (bcells b) := by
        have := HM.out
        subst this
        refine own_lower hown1 HH.out.size
      have hD2 := (hD1.set1 b hown2).set2 m
      rw [HM.out] at hD2
      refine ⟨.slice A1 m c1, by rw [HM.out]; exact hD2, Oth.set _ _ _ (Oth.set _ _ _ (HK0.out.trans (Kp.of_below ((Below.refl W.heap.size W).drew.trans hB1) fun k hk => ?_))), fun k hk => ?_⟩
      · exact Nat.lt_of_lt_of_le hk.1 HK0.out.size
      · rw [hob1] at hk
        injection hk with hk
        subst hk
        exact .inr HK0.out.size
    have HX := Lib.hid hfin
    clear hown1 hob1 hB1 d1 d2 d3 d4 d5 d6 hfin
    go_wp2
    go_ret
    exact ⟨0, rfl, .inr ⟨by rw [← HR.out, ← HM.out]; exact HBig.out, rfl, HX.out⟩⟩

end Go.Proofs.YtalmjmhbpmhokaaGreat
end

/- The disk of the code: Append, Sync, Swap. -/
section
namespace Go.Proofs.YtalmjmhbpmhokaaGreat
open Go.RowKit Go.Shelf

/-- What a change answers, and what the disk came to hold. -/
def Ans (ty : TypeId) (base : Nat) (w : World) (D : Nat) (v : Value) (r : Int × DS) (e : Ending) (w' : World) : Prop :=
  e = .returned (.int .i64 r.1) ∧ Did ty base w D v w' r.2

/-- Bytes that lie in none of the disk's blocks. -/
def ByO (w : World) (D : Nat) (v : Value) (A : Option Addr) (l : List UInt8) : Prop :=
  ∀ i x, l[i]? = some x → ∃ b o, A = some ⟨b, o, none⟩ ∧ Oth w D v b ∧ w.cell? ⟨b, o + i, none⟩ = some (bV x)
theorem ByO.by_ {w : World} {D : Nat} {v : Value} {A : Option Addr} {l : List UInt8} (h : ByO w D v A l) : By w w.heap.size A l :=
  ⟨fun i x hx => by obtain ⟨b, o, h1, h2, h3⟩ := h i x hx; exact ⟨b, o, h1, h2.1, h3⟩⟩
theorem ByO.kp {w w1 : World} {D : Nat} {v : Value} {A : Option Addr} {l : List UInt8} (h : ByO w D v A l) (hk : Kp (Oth w D v) w w1) : ByO w1 D v A l :=
  fun i x hx => by
    obtain ⟨b, o, h1, h2, h3⟩ := h i x hx
    exact ⟨b, o, h1, ⟨Nat.lt_of_lt_of_le h2.1 hk.size, h2.2⟩, (World.cell?_of_block (hk.block b h2)).trans h3⟩
theorem ByO.of {w : World} {B D : Nat} {v : Value} {A : Option Addr} {l : List UInt8} (h : By w B A l) (hB : ∀ k, k < B → Oth w D v k) : ByO w D v A l :=
  fun i x hx => by obtain ⟨b, o, h1, h2, h3⟩ := h.at_ i x hx; exact ⟨b, o, h1, hB b h2, h3⟩

/-- A box that is laid now. -/
theorem Bx.new {ty : TypeId} {base : Nat} {w : World} {D : Nat} {s : DS} {v : Value} (h : DAt ty base w D s v) (u : Value) (t : TypeId) : Bx (w.alloc (.cells #[u] t)) D v w.heap.size u t :=
  ⟨heap_alloc_new w _, fun e => by have := h.dlt; omega, fun e => by have := (h.ob _ e).2; omega⟩

set_option maxRecDepth 100000 in
set_option maxHeartbeats 1000000 in
theorem sync_any {base : Nat} {w : World} {D : Nat} {s : DS} {v : Value} (h : DAt DT base w D s v) (ho : s.Ok) :
    Calls Tryz.prog 66 #[ptr D] w (Ans DT base w D v (syncD s)) := by
  have hen : ∀ args w, (callFunc 97 args).run Tryz.prog w = .ok (.enter 97 args) w := enters_of Tryz.func97 (by kernel_rfl) rfl
  have hW := h.alloc (.cells #[ptr D] 25)
  have hB := Bx.new h (ptr D) 25
  have hK : Kp (Oth w D v) w (w.alloc (.cells #[ptr D] 25)) := Oth.alloc (Kp.refl _ _) _
  have HC := Lib.hid (change_any hW ho 97 #[ptr w.heap.size] hen (fun n w' => n = (syncD s).1 ∧ Did DT base (w.alloc (.cells #[ptr D] 25)) D v w' (syncD s).2)
    (fun h0 => by unfold syncD; rw [if_pos h0]; exact ⟨rfl, Did.refl hW⟩)
    (fun h0 w1 h1 hk1 _ => (sync1_any h1 (hB.kp hk1)).mono fun e w' ⟨n, e1, e2, e3⟩ => ⟨n, e1, by unfold syncD; rw [if_neg h0]; exact e2, by unfold syncD; rw [if_neg h0]; exact Did.after hk1 e3⟩))
  have HK := Lib.hid hK
  clear hW hB hK hen h
  go_enter Tryz.func66, Tryz.ntmps66
  go_wp2_with fail
  refine HC.out.mono ?_
  rintro e w' ⟨n, rfl, rfl, hd⟩
  go_wp2
  go_ret
  exact ⟨rfl, Did.after HK.out hd⟩

set_option maxRecDepth 100000 in
set_option maxHeartbeats 1000000 in
theorem append_any {base : Nat} {w : World} {D : Nat} {s : DS} {v : Value} (h : DAt DT base w D s v) (ho : s.Ok) {A : Option Addr} {c : Nat} {b : List UInt8} (hA : ByO w D v A b) :
    Calls Tryz.prog 18 #[ptr D, .slice A b.length c] w (Ans DT base w D v (appD s b)) := by
  have hen : ∀ args w, (callFunc 51 args).run Tryz.prog w = .ok (.enter 51 args) w := enters_of Tryz.func51 (by kernel_rfl) rfl
  obtain ⟨W1, hW1⟩ : ∃ W1, W1 = w.alloc (.cells #[ptr D] 25) := ⟨_, rfl⟩
  have h1 : DAt DT base W1 D s v := by rw [hW1]; exact h.alloc _
  have hz1 : W1.heap.size = w.heap.size + 1 := by rw [hW1]; exact Array.size_push _
  have hB1 : Bx W1 D v w.heap.size (ptr D) 25 := by rw [hW1]; exact Bx.new h _ _
  have hk1 : Kp (Oth w D v) w W1 := by rw [hW1]; exact Oth.alloc (Kp.refl _ _) _
  obtain ⟨W2, hW2⟩ : ∃ W2, W2 = W1.alloc (.cells #[.slice A b.length c] 49) := ⟨_, rfl⟩
  have h2 : DAt DT base W2 D s v := by rw [hW2]; exact h1.alloc _
  have hk2' : Kp (Oth W1 D v) W1 W2 := by rw [hW2]; exact Oth.alloc (Kp.refl _ _) _
  have hB2 : Bx W2 D v w.heap.size (ptr D) 25 := hB1.kp hk2'
  have hC2 : Bx W2 D v (w.heap.size + 1) (.slice A b.length c) 49 := by rw [hW2, ← hz1]; exact Bx.new h1 _ _
  have hk2 : Kp (Oth w D v) w W2 := hk1.trans (hk2'.weak fun k hk => ⟨by have := hk.1; omega, hk.2⟩)
  have hA2 : ByO W2 D v A b := hA.kp hk2
  have HC := Lib.hid (change_any h2 ho 51 #[ptr (w.heap.size + 1), ptr w.heap.size] hen (fun n w' => n = (appD s b).1 ∧ Did DT base W2 D v w' (appD s b).2)
    (fun h0 => by unfold appD; rw [if_pos h0]; exact ⟨rfl, Did.refl h2⟩)
    (fun h0 w1 h1 hk _ => (append1_any h1 (DS.count_ok ho) (b := b) (c := c) (hA2.kp hk).by_ (hC2.kp hk) (hB2.kp hk)).mono fun e w' ⟨n, e1, e2⟩ => ⟨n, e1, by
      unfold appD
      rw [if_neg h0]
      rcases e2 with ⟨q1, q2, q3⟩ | ⟨q1, q2, q3⟩
      · rw [if_pos (show s.room < s.bs.length + b.length from q1)]
        exact ⟨q2, Did.after hk q3⟩
      · rw [if_neg (show ¬ s.room < s.bs.length + b.length from q1)]
        exact ⟨q2, Did.after hk q3⟩⟩))
  have HK := Lib.hid hk2
  have HW1 := Lib.hid hW1
  have HW2 := Lib.hid hW2
  clear hk2 hW1 hW2 h1 h2 hB1 hB2 hC2 hA2 hk1 hk2' hz1 hen h hA
  go_enter Tryz.func18, Tryz.ntmps18
  go_wp2_with fail
  rw [← HW1.out, ← HW2.out]
  refine HC.out.mono ?_
  rintro e w' ⟨n, rfl, rfl, hd⟩
  go_wp2
  go_ret
  exact ⟨rfl, Did.after HK.out hd⟩

set_option maxRecDepth 100000 in
set_option maxHeartbeats 1000000 in
theorem swap_any {base : Nat} {w : World} {D : Nat} {s : DS} {v : Value} (h : DAt DT base w D s v) (ho : s.Ok) {A : Option Addr} {c : Nat} {b : List UInt8} (hA : ByO w D v A b) :
    Calls Tryz.prog 72 #[ptr D, .slice A b.length c] w (Ans DT base w D v (swapD s b)) := by
  have hen : ∀ args w, (callFunc 103 args).run Tryz.prog w = .ok (.enter 103 args) w := enters_of Tryz.func103 (by kernel_rfl) rfl
  obtain ⟨W1, hW1⟩ : ∃ W1, W1 = w.alloc (.cells #[ptr D] 25) := ⟨_, rfl⟩
  have h1 : DAt DT base W1 D s v := by rw [hW1]; exact h.alloc _
  have hz1 : W1.heap.size = w.heap.size + 1 := by rw [hW1]; exact Array.size_push _
  have hB1 : Bx W1 D v w.heap.size (ptr D) 25 := by rw [hW1]; exact Bx.new h _ _
  have hk1 : Kp (Oth w D v) w W1 := by rw [hW1]; exact Oth.alloc (Kp.refl _ _) _
  obtain ⟨W2, hW2⟩ : ∃ W2, W2 = W1.alloc (.cells #[.slice A b.length c] 49) := ⟨_, rfl⟩
  have h2 : DAt DT base W2 D s v := by rw [hW2]; exact h1.alloc _
  have hk2' : Kp (Oth W1 D v) W1 W2 := by rw [hW2]; exact Oth.alloc (Kp.refl _ _) _
  have hB2 : Bx W2 D v w.heap.size (ptr D) 25 := hB1.kp hk2'
  have hC2 : Bx W2 D v (w.heap.size + 1) (.slice A b.length c) 49 := by rw [hW2, ← hz1]; exact Bx.new h1 _ _
  have hk2 : Kp (Oth w D v) w W2 := hk1.trans (hk2'.weak fun k hk => ⟨by have := hk.1; omega, hk.2⟩)
  have hA2 : ByO W2 D v A b := hA.kp hk2
  have HC := Lib.hid (change_any h2 ho 103 #[ptr (w.heap.size + 1), ptr w.heap.size] hen (fun n w' => n = (swapD s b).1 ∧ Did DT base W2 D v w' (swapD s b).2)
    (fun h0 => by unfold swapD; rw [if_pos h0]; exact ⟨rfl, Did.refl h2⟩)
    (fun h0 w1 h1 hk _ => (swap1_any h1 (DS.count_ok ho) (b := b) (c := c) (hA2.kp hk).by_ (hC2.kp hk) (hB2.kp hk)).mono fun e w' ⟨n, e1, e2⟩ => ⟨n, e1, by
      unfold swapD
      rw [if_neg h0]
      rcases e2 with ⟨q1, q2, q3⟩ | ⟨q1, q2, q3⟩
      · rw [if_pos (show s.room < b.length from q1)]
        exact ⟨q2, Did.after hk q3⟩
      · rw [if_neg (show ¬ s.room < b.length from q1)]
        exact ⟨q2, Did.after hk q3⟩⟩))
  have HK := Lib.hid hk2
  have HW1 := Lib.hid hW1
  have HW2 := Lib.hid hW2
  clear hk2 hW1 hW2 h1 h2 hB1 hB2 hC2 hA2 hk1 hk2' hz1 hen h hA
  go_enter Tryz.func72, Tryz.ntmps72
  go_wp2_with fail
  rw [← HW1.out, ← HW2.out]
  refine HC.out.mono ?_
  rintro e w' ⟨n, rfl, rfl, hd⟩
  go_wp2
  go_ret
  exact ⟨rfl, Did.after HK.out hd⟩

end Go.Proofs.YtalmjmhbpmhokaaGreat
end
