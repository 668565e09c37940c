/- The program's contact: New, moment, Mark, Hello, old, Up, Other, State. -/
import Derived.Test.YtfikdocpcepmmaaConM
namespace Go.Proofs.Ytfikdocpcepmmaa
open Go.RowKit Go.Sort

theorem moment_any (n : Int) (W : World) : Calls Try.prog 22 #[.int .i64 n] W fun e w' => e = .returned (.bool (inTime n)) ∧ W = w' := by
  have HI : Hid (inTime n = (decide (0 ≤ n) && decide (n ≤ 1099511627776))) := Lib.hid rfl
  go_enter Try.func22, Try.ntmps22
  cases h1 : decide (0 ≤ n)
  · rw [h1] at HI
    go_wp2
    go_ret
    rw [HI.out]
    exact ⟨rfl, rfl⟩
  · rw [h1] at HI
    go_wp2
    go_ret
    rw [HI.out]
    exact ⟨rfl, rfl⟩

theorem pnew_ok (n : Int) (h1 : 1 ≤ n) (h2 : n ≤ 536870912) (w : World) : Calls Try.prog 8 #[.int .i64 n] w fun e w' => ∃ g, e = .returned (.tuple #[ptrV g, .int .i64 0]) ∧ PAt w' g (newC n) ∧ Below w.heap.size w w' ∧ w.heap.size ≤ g := by
  go_enter Try.func8, Try.ntmps8
  go_wp2
  go_ret2
  exact ⟨_, rfl, CAt.new w _ _, (Below.refl _ _).alloc (Nat.le_refl _) _, Nat.le_refl _⟩
theorem pnew_no (n : Int) (h : ¬ (1 ≤ n ∧ n ≤ 536870912)) (w : World) : Calls Try.prog 8 #[.int .i64 n] w fun e w' => e = .returned (.tuple #[.pointer none, .int .i64 1]) ∧ Below w.heap.size w w' := by
  go_enter Try.func8, Try.ntmps8
  by_cases h1 : n < 1
  · go_wp2
    go_ret2
    exact ⟨rfl, Below.refl _ _⟩
  · have h2 : 536870912 < n := by omega
    go_wp2
    go_ret2
    exact ⟨rfl, Below.refl _ _⟩
section
variable {w : World} {g : Nat} {c : ConV}
theorem pup_any (h : PAt w g c) : Calls Try.prog 11 #[ptrV g] w fun e w' => e = .returned (.bool c.up) ∧ w = w' := by
  obtain ⟨c0, c1, c2, c3, c4, c5, c6⟩ := PAt.all h
  go_enter Try.func11, Try.ntmps11
  go_wp2
  go_ret
  exact ⟨rfl, rfl⟩
theorem pother_any (h : PAt w g c) : Calls Try.prog 12 #[ptrV g] w fun e w' => e = .returned (.int .i64 c.known) ∧ w = w' := by
  obtain ⟨c0, c1, c2, c3, c4, c5, c6⟩ := PAt.all h
  go_enter Try.func12, Try.ntmps12
  go_wp2
  go_ret
  exact ⟨rfl, rfl⟩
theorem pstate_any (h : PAt w g c) : Calls Try.prog 13 #[ptrV g] w fun e w' => e = .returned (.int .i64 c.s) ∧ w = w' := by
  obtain ⟨c0, c1, c2, c3, c4, c5, c6⟩ := PAt.all h
  go_enter Try.func13, Try.ntmps13
  go_wp2
  go_ret
  exact ⟨rfl, rfl⟩
end

/-- How Mark ends. -/
theorem pmark_end {W : World} {g : Nat} {m0 q : MsgV} {t : Array Value} {P : World → Prop} (hz : MBox W g m0) (hP : P (storeM W g q)) (h4 : t[4]?.getD undef = .pointer (some ⟨g, 0, none⟩)) :
    bodyPost Try.prog Try.f15 (fun e w' => e = .returned q.v ∧ P w') .ret { tmps := t, defers := [] } (storeM W g q) := by
  refine bodyPost_ret (v := q.v) ?_ ?_ ⟨rfl, hP⟩
  · obtain ⟨r0, r1, r2, r3, r4, r5, r6, r7, r8, r9, r10⟩ := (storeM_box hz q).all
    simp [results, Try.f15, go_sem, h4, r0, r1, r2, r3, r4, r5, r6, r7, r8, r9, r10]
  · rfl

set_option maxRecDepth 100000 in
set_option maxHeartbeats 2000000 in
theorem pmark_any {w : World} {g : Nat} {c : ConV} (m : MsgV) (h : PAt w g c) : Calls Try.prog 15 #[ptrV g, m.v] w fun e w' => e = .returned (c.mark m).v ∧ Below w.heap.size w w' := by
  obtain ⟨w1, hw1⟩ : ∃ w1, w1 = (w.alloc (mbox m)).alloc (mbox zeroM) := ⟨_, rfl⟩
  have s1 : (w.alloc (mbox m)).heap.size = w.heap.size + 1 := World.size_alloc _ _
  have hB0 : Below w.heap.size w (w.alloc (mbox m)) := (Below.refl _ _).alloc (Nat.le_refl _) _
  have hB1 : Below w.heap.size w w1 := by rw [hw1]; exact hB0.alloc (by omega) _
  have HM : Hid (MBox w1 w.heap.size m) := Lib.hid (by rw [hw1]; exact (MBox.new w m).later ((Below.refl _ _).alloc (Nat.le_refl _) _))
  have HZ : Hid (MBox w1 (w.heap.size + 1) zeroM) := Lib.hid (by rw [hw1, ← s1]; exact MBox.new _ zeroM)
  have HP := Lib.hid (CAt.later h hB1)
  have HB := Lib.hid hB1
  have HW1 := Lib.hid hw1
  obtain ⟨c0, c1, c2, c3, c4, c5, c6⟩ := PAt.all HP.out
  have m1 := HM.out.c1
  have m2 := HM.out.c2
  have f1 := HM.out.free 1
  have f2 := HM.out.free 2
  clear hw1 s1 hB0 hB1 h
  go_enter Try.func15, Try.ntmps15
  go_upto_region 1 with fail
  rw [show ∀ V : World, V.alloc (.cells #[.int .i64 0, .int .i64 0, .int .i64 0, .int .i64 0, .int .i64 0, .int .u32 0, .int .i64 0, .string ⟨#[]⟩, .int .i64 0, .int .i64 0, .bool false] 34) = V.alloc (mbox zeroM) from fun _ => rfl, ← HW1.out]
  go_cut [15] (fun _ wx => MBox wx w.heap.size (c.mark m) ∧ MBox wx (w.heap.size + 1) zeroM ∧ Below w.heap.size w wx)
  case first =>
    go_region
    all_goals
      go_wp2
      go_meet
      exact ⟨((HM.out.store (m' := { m with life := c.life }) 1 _ rfl).store (m' := c.mark m) 2 _ rfl).drew, ((HZ.out.other (by show w.heap.size + 1 ≠ w.heap.size; omega) _).other (by show w.heap.size + 1 ≠ w.heap.size; omega) _).drew, ((HB.out.setCell (p := ⟨w.heap.size, 1, none⟩) (Nat.le_refl _) _).setCell (p := ⟨w.heap.size, 2, none⟩) (Nat.le_refl _) _).drew⟩
  case rest =>
    obtain ⟨h1, h2, h3⟩ := hcut
    rename_i wc
    have HM2 := Lib.hid h1
    have HZ2 := Lib.hid h2
    have HEND := Lib.hid (h3.trans (((storeM_kp wc (w.heap.size + 1) (c.mark m)).below (B := w.heap.size) fun k hk => by show k ≠ w.heap.size + 1; omega)))
    clear h1 h2 h3 c0 c1 c2 c3 c4 c5 c6 m1 m2 f1 f2
    obtain ⟨y0, y1, y2, y3, y4, y5, y6, y7, y8, y9, y10⟩ := HM2.out.all
    obtain ⟨z0, z1, z2, z3, z4, z5, z6, z7, z8, z9, z10⟩ := HZ2.out.all
    have hf : ∀ i, wc.frozen? ⟨w.heap.size + 1, i, none⟩ = false := fun i => HZ2.out.free i
    have g0 := hf 0
    have g1 := hf 1
    have g2 := hf 2
    have g3 := hf 3
    have g4 := hf 4
    have g5 := hf 5
    have g6 := hf 6
    have g7 := hf 7
    have g8 := hf 8
    have g9 := hf 9
    have g10 := hf 10
    go_wp2
    exact pmark_end (W := wc) (q := c.mark m) HZ2.out HEND.out rfl
end Go.Proofs.Ytfikdocpcepmmaa
