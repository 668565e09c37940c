/- resolve: what both lay first (a lease, a message, the answer's cell); the small functions: moment, recovering, stays, held. -/
import Derived.Test.YtlbgkpkfjaggkaaResP
import Derived.Test.YtlbgkpkfjaggkaaLeaB
namespace Go.Proofs.Ytlbgkpkfjaggkaa
open Go.RowKit Go.Sort

/-- A lease and a truth are answered; nothing that lay has turned. -/
def GivesLB (w : World) (r : LV × Bool) (e : Ending) (w' : World) : Prop := e = .returned (.tuple #[r.1.v, .bool r.2]) ∧ Below w.heap.size w w'

theorem lay2_facts (w : World) (l : LV) (m : MsgV) : ∃ w0, w0 = (w.alloc (lbox l)).alloc (mbox m) ∧ LBox w0 w.heap.size l ∧ MBox w0 (w.heap.size + 1) m ∧ Below w.heap.size w w0 := by
  refine ⟨_, rfl, (LBox.new w l).alloc _, ?_, ?_⟩
  · have h := MBox.new (w.alloc (lbox l)) m
    rw [show (w.alloc (lbox l)).heap.size = w.heap.size + 1 by simp] at h
    exact h
  · exact ((Below.refl _ _).alloc (Nat.le_refl _) _).alloc (by simp) _
theorem lay3_facts (w : World) (l : LV) (m : MsgV) : ∃ w0, w0 = ((w.alloc (lbox l)).alloc (mbox m)).alloc (.cells #[.int .u32 0, .int .i64 0, .string ⟨#[]⟩, .int .i64 0, .int .i64 0, .int .i64 0, .int .i64 0, .int .i64 0] 25) ∧ LBox w0 w.heap.size l ∧ MBox w0 (w.heap.size + 1) m ∧ LBox w0 (w.heap.size + 1 + 1) zeroL ∧ Below w.heap.size w w0 := by
  refine ⟨_, rfl, ((LBox.new w l).alloc _).alloc _, ?_, ?_, ?_⟩
  · have h := MBox.new (w.alloc (lbox l)) m
    rw [show (w.alloc (lbox l)).heap.size = w.heap.size + 1 by simp] at h
    exact h.alloc _
  · have h := LBox.new ((w.alloc (lbox l)).alloc (mbox m)) zeroL
    rw [show ((w.alloc (lbox l)).alloc (mbox m)).heap.size = w.heap.size + 1 + 1 by simp] at h
    exact h
  · exact (((Below.refl _ _).alloc (Nat.le_refl _) _).alloc (by simp) _).alloc (by simp; omega) _

theorem cb_eq {a b : ByteArray} (h : a = b) : (a.toList == b.toList) = true := by subst h; simp
theorem cb_ne {a b : ByteArray} (h : a ≠ b) : (a.toList == b.toList) = false := by
  rw [beq_eq_false_iff_ne]
  intro e
  rw [ByteArray.toList_eq, ByteArray.toList_eq] at e
  exact h (ByteArray.ext (Array.toList_inj.1 e))

theorem rmoment_any (n : Int) (W : World) : Calls Try.prog 28 #[.int .i64 n] W fun e w' => e = .returned (.int .i64 (moV n)) ∧ W = w' := by
  have HA := Lib.hid (fun V => add_any n 0 V)
  rw [addV_zero] at HA
  generalize moV n = a at *
  go_enter Try.func28, Try.ntmps28
  go_wp2_with fail
  refine (HA.out _).mono ?_
  rintro e w' ⟨rfl, rfl⟩
  go_wp2
  go_ret
  exact ⟨rfl, rfl⟩

theorem rec_any (s : Int) (W : World) : Calls Try.prog 15 #[.int .i64 s] W fun e w' => e = .returned (.bool (recB s)) ∧ W = w' := by
  unfold recB
  go_enter Try.func15, Try.ntmps15
  cases h6 : s == 6
  · cases h7 : s == 7
    · go_wp2
      go_ret
      refine ⟨?_, rfl⟩
      have a : ¬ s = 6 := by simpa using h6
      have b : ¬ s = 7 := by simpa using h7
      simp [a, b]
      rfl
    · go_wp2
      go_ret
      refine ⟨?_, rfl⟩
      have b : s = 7 := by simpa using h7
      simp [b]
  · go_wp2
    go_ret
    refine ⟨?_, rfl⟩
    have a : s = 6 := by simpa using h6
    simp [a]

theorem held_any (s : Int) (W : World) : Calls Try.prog 30 #[.int .i64 s] W fun e w' => e = .returned (.bool (decide (HeldL s))) ∧ W = w' := by
  unfold HeldL
  go_enter Try.func30, Try.ntmps30
  cases h6 : s == 2
  · cases h7 : s == 3
    · go_wp2
      go_ret
      refine ⟨?_, rfl⟩
      have a : ¬ s = 2 := by simpa using h6
      have b : ¬ s = 3 := by simpa using h7
      simp [a, b]
      rfl
    · go_wp2
      go_ret
      refine ⟨?_, rfl⟩
      have b : s = 3 := by simpa using h7
      simp [b]
  · go_wp2
    go_ret
    refine ⟨?_, rfl⟩
    have a : s = 2 := by simpa using h6
    simp [a]

set_option maxRecDepth 100000 in
set_option maxHeartbeats 1000000 in
theorem stays_any (l : LV) (y : Bool) (w : World) : Calls Try.prog 29 #[l.v, .bool y] w fun e w' => e = .returned (.bool (stayB l y)) ∧ Below w.heap.size w w' := by
  obtain ⟨w0, hw0⟩ : ∃ w0, w0 = w.alloc (lbox l) := ⟨_, rfl⟩
  have HL : Hid (LBox w0 w.heap.size l) := Lib.hid (by rw [hw0]; exact LBox.new w l)
  have HB : Hid (Below w.heap.size w w0) := Lib.hid (by rw [hw0]; exact (Below.refl _ _).alloc (Nat.le_refl _) _)
  have HW0 := Lib.hid hw0
  clear hw0
  have c1 := HL.out.c1
  have HS : Hid (stayB l y = decide (l.bind = 5 ∨ (l.bind = 2 ∧ y = false))) := Lib.hid rfl
  generalize stayB l y = z at *
  go_enter Try.func29, Try.ntmps29
  go_upto_region 1 with fail
  rw [← HW0.out]
  cases h2 : l.bind == 2
  · cases h5 : l.bind == 5
    · go_wp2
      go_ret
      refine ⟨?_, HB.out⟩
      rw [HS.out]
      have a : ¬ l.bind = 2 := by simpa using h2
      have b : ¬ l.bind = 5 := by simpa using h5
      simp [a, b]
    · go_wp2
      go_ret
      refine ⟨?_, HB.out⟩
      rw [HS.out]
      have b : l.bind = 5 := by simpa using h5
      simp [b]
  · cases y
    · go_wp2
      go_ret
      refine ⟨?_, HB.out⟩
      rw [HS.out]
      have a : l.bind = 2 := by simpa using h2
      simp [a]
    · go_wp2
      go_ret
      refine ⟨?_, HB.out⟩
      rw [HS.out]
      have a : l.bind = 2 := by simpa using h2
      simp [a]
end Go.Proofs.Ytlbgkpkfjaggkaa
