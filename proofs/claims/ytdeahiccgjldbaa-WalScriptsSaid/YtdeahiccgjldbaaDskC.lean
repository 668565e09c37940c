/- The disk of the code: separate, Read, Lasts, Fail, New. -/
import Derived.Test.YtdeahiccgjldbaaDskM
namespace Go.Proofs.Ytdeahiccgjldbaa
open Go.RowKit

abbrev DT : TypeId := 64
abbrev RT : TypeId := 46

/-- Bytes copied over noughts. -/
theorem run_copyB (w : World) (ty : TypeId) (g k c : Nat) (l : List UInt8) (hk : l.length = k) (hb : w.heap[g]? = some (.cells (madeCells #[.int .u8 0] k) 5 (0, 0))) {B : Nat} {A : Option Addr} (cA : Nat) (h : By w B A l) :
    ∃ w' x, (Builtin.copy_ #[40, 40] ty #[.slice (some ⟨g, 0, none⟩) k c, .slice A k cA]).run Try.prog w = .ok x w' ∧ w'.heap[g]? = some (.cells (bcells l).toArray 5 (0, 0)) ∧ Kp (· ≠ g) w w' ∧ w'.heap.size = w.heap.size := by
  obtain ⟨i, hi, hz0, hz1, hz2⟩ := info_parts Try.infoB
  have hsz : (Try.prog.info? 5).map (·.size) = some 1 := by rw [hi]; simp [hz1]
  subst hk
  cases A with
  | some ad =>
    have hr := run_copy_row Try.prog w 40 40 ty 5 g 0 l.length c ad l.length cA _ 5 (bcells l) Try.underlying40 hsz hb (by rw [bcells_length]; exact (Nat.min_self _).symm) (fun j v hv => h.cells j v hv) (by rw [bcells_length, size_madeCells]; omega) (bcells_one l)
    refine ⟨_, _, hr, ?_, ⟨rfl, rfl, rfl, by simp [World.setRow], fun j hj => setRow_other w g j _ (by omega)⟩, by simp [World.setRow]⟩
    rw [setRow_heap w g _ _ _ _ hb]
    congr 2
    rw [toList_madeCells_one]
    simp [bcells]
  | none =>
    obtain rfl := h.none_
    refine ⟨w, goInt 0, ?_, ?_, Kp.refl _ _, rfl⟩
    · simp [Builtin.copy_, run_underlying Try.underlying40, Builtin.lenOf, Builtin.firstCells, sizeOf, typeInfo, hi, storeCells]
    · rw [hb]
      have e : madeCells #[.int .u8 0] ([] : List UInt8).length = (bcells []).toArray := by
        apply Array.ext'
        rw [toList_madeCells_one]
        rfl
      rw [e]

/-- A row of the call's own, just made, as bytes. -/
theorem own_of_block {w : World} {B g k : Nat} {l : List UInt8} (hg : w.heap[g]? = some (.cells (bcells l).toArray 5 (0, 0))) (hB : B ≤ g) (hl : l.length = k) (hk : k ≤ 1048576) : w.ownsRow B 5 1 (.slice (some ⟨g, 0, none⟩) k k) k (bcells l) :=
  ⟨by rw [bcells_length]; omega, .inr ⟨g, k, _, rfl, hB, hg, Nat.le_refl _, by unfold maxLen; omega, by rw [List.size_toArray, bcells_length]; omega, by rw [Nat.mul_one]; exact List.take_of_length_le (by rw [bcells_length]; omega)⟩⟩

set_option maxRecDepth 100000 in
theorem separate_any (A : Option Addr) (c k : Nat) (l : List UInt8) (hk : l.length = k) (hk2 : k ≤ 1048576) (w : World) {B : Nat} (h : By w B A l) (hB : B ≤ w.heap.size) :
    Calls Try.prog 35 #[.slice A k c] w fun e w' => ∃ v, e = .returned v ∧ w'.ownsRow w.heap.size 5 1 v k (bcells l) ∧ v.ownBlock = some w.heap.size ∧ Below w.heap.size w w' := by
  have hmk := run_makeF k (by omega)
  have hA : Below w.heap.size w (w.alloc (.cells (madeCells #[.int .u8 0] k) 5)) := (Below.refl _ _).alloc (Nat.le_refl _) _
  obtain ⟨w2, x, hrun, hB2, hK2, hz2⟩ := run_copyB (w.alloc (.cells (madeCells #[.int .u8 0] k) 5)) 3 w.heap.size k k l hk (heap_alloc_new w _) c (h.below (hA.mono hB))
  have HB2 := Lib.hid hB2
  have HK2 := Lib.hid hK2
  have HZ2 := Lib.hid hz2
  clear hB2 hK2 hz2
  go_enter Try.func35, Try.ntmps35
  go_wp2
  go_ret
  refine ⟨_, rfl, own_of_block HB2.out (Nat.le_refl _) hk hk2, rfl, hA.trans (Kp.below (HK2.out.weak (fun j hj => ?_)) fun j hj => hj)⟩
  exact Nat.ne_of_lt hj

/-- Read: the bytes, in memory of their own. -/
def GiveB (w : World) (l : List UInt8) (e : Ending) (w' : World) : Prop :=
  ∃ v, e = .returned v ∧ w'.ownsRow w.heap.size 5 1 v l.length (bcells l) ∧ Below w.heap.size w w'

set_option maxRecDepth 100000 in
theorem read_any {base : Nat} {w : World} {D : Nat} {s : DS} {v : Value} (h : DAt DT base w D s v) (ho : s.Ok) :
    Calls Try.prog 15 #[ptr D] w (GiveB w s.bs) := by
  obtain ⟨A, c, rfl, hc, hby⟩ := h.form
  have h1 := h.c1
  have HC := Lib.hid (separate_any A c s.bs.length s.bs rfl (by have := ho.len; have := ho.r1; omega) w hby (Nat.le_refl _))
  have HD := Lib.hid h
  have HO := Lib.hid ho
  clear h ho hby
  go_enter Try.func15, Try.ntmps15
  go_wp2_with fail
  refine HC.out.mono ?_
  rintro e w' ⟨v, rfl, hv, _, hb⟩
  go_wp2
  go_ret
  exact ⟨v, rfl, hv, hb⟩

set_option maxRecDepth 100000 in
theorem lasts_any {base : Nat} {w : World} {D : Nat} {s : DS} {v : Value} (h : DAt DT base w D s v) :
    Calls Try.prog 20 #[ptr D] w fun e w' => e = .returned (.int .i64 (s.last : Int)) ∧ w = w' := by
  have h2 := h.c2
  clear h
  go_enter Try.func20, Try.ntmps20
  go_wp2
  go_ret
  exact ⟨rfl, rfl⟩

end Go.Proofs.Ytdeahiccgjldbaa
