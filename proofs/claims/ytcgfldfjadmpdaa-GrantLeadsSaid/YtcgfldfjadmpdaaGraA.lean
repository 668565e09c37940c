/- grant: Until, of the code and of the document. -/
import Derived.Test.YtcgfldfjadmpdaaGraM
import Derived.Deep.RegionLaw
namespace Go.Proofs.Ytcgfldfjadmpdaa
open Go.RowKit Go.Sort

set_option maxRecDepth 100000 in
set_option maxHeartbeats 1000000 in
theorem until_any (a b c now want acked : Int) (w : World) : Calls Try.prog 10 #[r3v a b c, .int .i64 now, .int .i64 want, .int .i64 acked] w fun e w' => e = .returned (.int .i64 (untV b now want acked)) ∧ Below w.heap.size w w' := by
  have H1 := Lib.hid (fun V => after_any now want V)
  have H2 := Lib.hid (fun (V : World) b (h : V.heap.size = b) => latest_two_d h now acked)
  have H3 := Lib.hid (fun V => after_any (max (moV now) (moV acked)) b V)
  unfold untV
  generalize aftV (max (moV now) (moV acked)) b = y at *
  generalize max (moV now) (moV acked) = m at *
  generalize aftV now want = x at *
  obtain ⟨w0, hw0⟩ : ∃ w0, w0 = w.alloc (r3box 25 a b c) := ⟨_, rfl⟩
  have HR : Hid (R3 25 w0 w.heap.size a b c) := Lib.hid (by rw [hw0]; exact R3.new w _ a b c)
  have HB : Hid (Below w.heap.size w w0) := Lib.hid (by rw [hw0]; exact (Below.refl _ _).alloc (Nat.le_refl _) _)
  have HW0 := Lib.hid hw0
  clear hw0
  have c1 := HR.out.c1
  go_enter Try.func10, Try.ntmps10
  go_upto_region 1 with fail
  rw [← HW0.out]
  go_region_held3 (fun w' => w'.cell? ⟨w.heap.size, 1, none⟩ = some (.int .i64 b))
    (first | go_keep)
    (first
      | (go_at_call 18; (with_reducible refine (H1.out _).mono ?_); rintro e w2 ⟨rfl, rfl⟩)
      | (go_at_call 18; (with_reducible refine (H3.out _).mono ?_); rintro e w2 ⟨rfl, rfl⟩)
      | (go_at_call 19; (with_reducible refine (H2.out _ _ rfl).mono ?_); rintro e w2 ⟨rfl, rfl⟩))
  all_goals
    go_wp2
    all_goals
      go_ret
      refine ⟨?_, (HB.out.trans ((Below.refl _ _).alloc HB.out.size _)).drew⟩
      show Ending.returned (.int .i64 _) = _
      congr 2
      omega

/-- A contract that leaves what lay as it was, met in a quiet region. -/
theorem qb {f : FuncId} {args : Array Value} {v : Value} (h : ∀ V, Calls Try.prog f args V fun e w' => e = .returned v ∧ Below V.heap.size V w') (w : World) (d : Nat) (os : Array Obj) : Calls Try.prog f args (grow (redrawn w d) os) fun e w'' => e = .returned v ∧ ∃ p : Regrown, w'' = grow (redrawn w p.d) p.os :=
  Calls.regrown_of (h _)
theorem max_if (x y : Int) : max x y = if x < y then y else x := by split <;> omega
set_option maxRecDepth 100000 in
set_option maxHeartbeats 1000000 in
theorem runtil_any (a b c now want acked : Int) (w : World) : Calls Try.prog 11 #[r3v a b c, .int .i64 now, .int .i64 want, .int .i64 acked] w fun e w' => e = .returned (.int .i64 (untV b now want acked)) ∧ Below w.heap.size w w' := by
  have H1 := Lib.hid (fun V => radd_any now (max want 0) V)
  have H2 := Lib.hid (fun V => rbounded_any now V)
  have H3 := Lib.hid (fun V => rbounded_any acked V)
  have H4 := Lib.hid (fun V => radd_any (max (moV now) (moV acked)) (max b 0) V)
  unfold untV aftV
  generalize addV (max (moV now) (moV acked)) (max b 0) = y at *
  generalize addV now (max want 0) = x at *
  generalize moV now = m at *
  generalize moV acked = n at *
  obtain ⟨q, hq⟩ : ∃ q, q = max want 0 := ⟨_, rfl⟩
  rw [← hq] at H1
  obtain ⟨w0, hw0⟩ : ∃ w0, w0 = w.alloc (r3box 26 a b c) := ⟨_, rfl⟩
  have HR : Hid (R3 26 w0 w.heap.size a b c) := Lib.hid (by rw [hw0]; exact R3.new w _ a b c)
  have HB : Hid (Below w.heap.size w w0) := Lib.hid (by rw [hw0]; exact (Below.refl _ _).alloc (Nat.le_refl _) _)
  have HW0 := Lib.hid hw0
  clear hw0
  rw [max_if m n, max_if b 0] at H4
  obtain ⟨d1, d2, d3⟩ := HR.out.allR
  have D2 := Lib.hid d2
  clear d1 d2 d3
  have C2 := Lib.hid (qb (fun V => same_below (H2.out V)) w0)
  have C3 := Lib.hid (qb (fun V => same_below (H3.out V)) w0)
  have C4 := Lib.hid (qb (fun V => same_below (H4.out V)) w0)
  obtain hw | hw : want < 0 ∨ 0 ≤ want := by omega
  · obtain rfl : q = 0 := by omega
    clear hq
    go_enter Try.func11, Try.ntmps11
    go_wp2_with fail
    rw [← HW0.out]
    refine (H1.out _).mono ?_
    rintro e w' ⟨rfl, rfl⟩
    have c1 := D2.out
    clear hw
    go_upto_region 2 with fail
    refine wp_region_quiet_below (by kernel_rfl) (by kernel_rfl) ?_
    repeat (go_big_quiet_step (first | with_reducible exact C2.out _ _ | with_reducible exact C3.out _ _ | with_reducible exact C4.out _ _))
    refine wpQuiet_nil ?_
    intro _ hw'
    obtain ⟨⟨dq, osq⟩, hw''⟩ := hw'
    subst hw''
    go_wp2
    all_goals
      go_ret
      refine ⟨?_, HB.out.trans ((below_regrown w0 dq osq).mono HB.out.size)⟩
      show Ending.returned (.int .i64 _) = _
      congr 2
      omega
  · obtain rfl : q = want := by omega
    clear hq
    go_enter Try.func11, Try.ntmps11
    go_wp2_with fail
    rw [← HW0.out]
    refine (H1.out _).mono ?_
    rintro e w' ⟨rfl, rfl⟩
    have c1 := D2.out
    clear hw
    go_upto_region 2 with fail
    refine wp_region_quiet_below (by kernel_rfl) (by kernel_rfl) ?_
    repeat (go_big_quiet_step (first | with_reducible exact C2.out _ _ | with_reducible exact C3.out _ _ | with_reducible exact C4.out _ _))
    refine wpQuiet_nil ?_
    intro _ hw'
    obtain ⟨⟨dq, osq⟩, hw''⟩ := hw'
    subst hw''
    go_wp2
    all_goals
      go_ret
      refine ⟨?_, HB.out.trans ((below_regrown w0 dq osq).mono HB.out.size)⟩
      show Ending.returned (.int .i64 _) = _
      congr 2
      omega
end Go.Proofs.Ytcgfldfjadmpdaa
