/- Leases: the two Bares, the document's time. -/
import Derived.Test.YtlbgkpkfjaggkaaLeaM
import Derived.BigQuiet
import Derived.Deep.QuietTactic
import Derived.Deep.DeepCutAuto
namespace Go.Proofs.Ytlbgkpkfjaggkaa
open Go.RowKit Go.Sort

theorem time_any (n : Int) (W : World) : Calls Try.prog 24 #[.int .i64 n] W fun e w' => e = .returned (.bool (decide (TimeL n))) ∧ W = w' := by
  unfold TimeL
  by_cases h : 0 ≤ n
  · have hd : decide (0 ≤ n) = true := decide_eq_true h
    go_enter Try.func24, Try.ntmps24
    go_wp2
    go_ret
    exact ⟨by simp [h], rfl⟩
  · have hd : decide (0 ≤ n) = false := decide_eq_false h
    have h' := Lib.hid h
    clear h
    go_enter Try.func24, Try.ntmps24
    go_wp2
    go_ret
    have h2 := h'.out
    rw [decide_eq_false (fun h : 0 ≤ n ∧ n ≤ 1099511627776 => absurd h.1 (by omega))]
    exact ⟨rfl, rfl⟩

theorem bare_end {w W : World} {g : Nat} {q : LV} {t : Array Value} (hz : LBox W g zeroL) (hB : Below w.heap.size w W) (hg : w.heap.size ≤ g) (h2 : t[6]?.getD undef = .pointer (some ⟨g, 0, none⟩)) :
    bodyPost Try.prog Try.f19 (fun e w' => e = .returned q.v ∧ Below w.heap.size w w') .ret { tmps := t, defers := [] } (storeL W g q) := by
  refine bodyPost_ret (v := q.v) ?_ ?_ ?_
  · obtain ⟨r0, r1, r2, r3, r4, r5, r6, r7⟩ := (storeL_box hz q).all
    simp [results, Try.f19, go_sem, h2, r0, r1, r2, r3, r4, r5, r6, r7]
  · rfl
  · exact ⟨rfl, hB.trans (storeL_low W _ g hg q)⟩
theorem rbare_end {w W : World} {g : Nat} {q : LV} {t : Array Value} (hz : LBox W g zeroL) (hB : Below w.heap.size w W) (hg : w.heap.size ≤ g) (h2 : t[6]?.getD undef = .pointer (some ⟨g, 0, none⟩)) :
    bodyPost Try.prog Try.f22 (fun e w' => e = .returned q.v ∧ Below w.heap.size w w') .ret { tmps := t, defers := [] } (storeL W g q) := by
  refine bodyPost_ret (v := q.v) ?_ ?_ ?_
  · obtain ⟨r0, r1, r2, r3, r4, r5, r6, r7⟩ := (storeL_box hz q).all
    simp [results, Try.f22, go_sem, h2, r0, r1, r2, r3, r4, r5, r6, r7]
  · rfl
  · exact ⟨rfl, hB.trans (storeL_low W _ g hg q)⟩

set_option maxRecDepth 100000 in
set_option maxHeartbeats 1000000 in
theorem bare_any (a : Nat) (b v : Int) (w : World) : Calls Try.prog 19 #[.int .u32 (a : Int), .int .i64 b, .int .i64 v] w fun e w' => e = .returned (bareL a b v).v ∧ Below w.heap.size w w' := by
  obtain ⟨w0, hw0⟩ : ∃ w0, w0 = w.alloc (.cells #[.int .u32 0, .int .i64 0, .string ⟨#[]⟩, .int .i64 0, .int .i64 0, .int .i64 0, .int .i64 0, .int .i64 0] 25) := ⟨_, rfl⟩
  have HZ : Hid (LBox w0 w.heap.size zeroL) := Lib.hid (by rw [hw0]; exact LBox.new w zeroL)
  have HB0 : Hid (Below w.heap.size w w0) := Lib.hid (by rw [hw0]; exact (Below.refl _ _).alloc (Nat.le_refl _) _)
  have HW0 := Lib.hid hw0
  clear hw0
  obtain ⟨z0, z1, z2, z3, z4, z5, z6, z7⟩ := HZ.out.all
  obtain ⟨f0, f1, f2, f3, f4, f5, f6, f7⟩ := HZ.out.allF
  go_enter Try.func19, Try.ntmps19
  go_upto_region 1 with fail
  rw [← HW0.out]
  go_wp2
  exact bare_end (q := bareL a b v) (W := w0) HZ.out HB0.out (Nat.le_refl _) rfl
set_option maxRecDepth 100000 in
set_option maxHeartbeats 1000000 in
theorem rbare_any (a : Nat) (b v : Int) (w : World) : Calls Try.prog 22 #[.int .u32 (a : Int), .int .i64 b, .int .i64 v] w fun e w' => e = .returned (bareL a b v).v ∧ Below w.heap.size w w' := by
  obtain ⟨w0, hw0⟩ : ∃ w0, w0 = w.alloc (.cells #[.int .u32 0, .int .i64 0, .string ⟨#[]⟩, .int .i64 0, .int .i64 0, .int .i64 0, .int .i64 0, .int .i64 0] 25) := ⟨_, rfl⟩
  have HZ : Hid (LBox w0 w.heap.size zeroL) := Lib.hid (by rw [hw0]; exact LBox.new w zeroL)
  have HB0 : Hid (Below w.heap.size w w0) := Lib.hid (by rw [hw0]; exact (Below.refl _ _).alloc (Nat.le_refl _) _)
  have HW0 := Lib.hid hw0
  clear hw0
  obtain ⟨z0, z1, z2, z3, z4, z5, z6, z7⟩ := HZ.out.all
  obtain ⟨f0, f1, f2, f3, f4, f5, f6, f7⟩ := HZ.out.allF
  go_enter Try.func22, Try.ntmps22
  go_upto_region 1 with fail
  rw [← HW0.out]
  go_wp2
  exact rbare_end (q := bareL a b v) (W := w0) HZ.out HB0.out (Nat.le_refl _) rfl
end Go.Proofs.Ytlbgkpkfjaggkaa
