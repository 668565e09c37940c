/- The law MessageFields. -/
import Derived.Test.YtgdkioegadbnmaaMsgE
import Derived.Test.YtgdkioegadbnmaaMsgQ
import Derived.Deep.DeepCutAuto
namespace Go.Proofs.Ytgdkioegadbnmaa
open Go.RowKit Go.Sort
attribute [local go_sem ↓] run_eqlC run_neqC run_guardC

set_option maxRecDepth 100000 in
set_option maxHeartbeats 4000000 in
theorem law_mfields (m : MsgV) (kind : Int) (w : World) (ha : m.addr < 4294967296) :
    Calls Try.prog 7 #[m.v, .int .i64 kind] w fun e w' => e = .returned (.bool true) ∧ Below w.heap.size w w' := by
  obtain ⟨w0, hw0⟩ : ∃ w0, w0 = w.alloc (mbox m) := ⟨_, rfl⟩
  have HX : Hid (MBox w0 w.heap.size m) := Lib.hid (by rw [hw0]; exact MBox.new w m)
  have HB0 : Hid (Below w.heap.size w w0) := Lib.hid (by rw [hw0]; exact (Below.refl _ _).alloc (Nat.le_refl _) _)
  have HW0 := Lib.hid hw0
  have HR := Lib.hid (fun W => right_any m ha W)
  clear hw0
  by_cases g1 : 1000 < m.client.size
  · have hd : decide ((1000 : Int) < (m.client.size : Int)) = true := by simp; omega
    go_enter Try.func7, Try.ntmps7
    go_wp2_with fail
    rw [← HW0.out]
    refine (awake_any _).mono ?_
    rintro e w1 ⟨rfl, hB1⟩
    have HX1 := Lib.hid (HX.out.later hB1)
    have HB1 := Lib.hid (HB0.out.trans (hB1.mono HB0.out.size))
    obtain ⟨c0, c1, c2, c3, c4, c5, c6, c7, c8, c9, c10⟩ := HX1.out.all
    clear hB1
    go_wp2
    go_ret
    exact ⟨rfl, HB1.out⟩
  have hd : decide ((1000 : Int) < (m.client.size : Int)) = false := by simp; omega
  clear g1
  cases hrm : rightM m
  · rw [hrm] at HR
    clear hrm
    go_enter Try.func7, Try.ntmps7
    go_wp2_with fail
    rw [← HW0.out]
    refine (awake_any _).mono ?_
    rintro e w1 ⟨rfl, hB1⟩
    have HX1 := Lib.hid (HX.out.later hB1)
    have HB1 := Lib.hid (HB0.out.trans (hB1.mono HB0.out.size))
    obtain ⟨c0, c1, c2, c3, c4, c5, c6, c7, c8, c9, c10⟩ := HX1.out.all
    clear hB1
    go_wp2_with fail
    refine (HR.out _).mono ?_
    rintro e w2 ⟨rfl, hB2⟩
    clear c0 c1 c2 c3 c4 c5 c6 c7 c8 c9 c10
    have HX2 := Lib.hid (HX1.out.later hB2)
    have HB2 := Lib.hid (HB1.out.trans (hB2.mono HB1.out.size))
    clear hB2
    obtain ⟨c0, c1, c2, c3, c4, c5, c6, c7, c8, c9, c10⟩ := HX2.out.all
    go_wp2
    go_ret
    exact ⟨rfl, HB2.out⟩
  rw [hrm] at HR
  by_cases g2 : kind = m.kind
  · have hk : (kind == m.kind) = true := by simpa using g2
    clear g2 hrm
    go_enter Try.func7, Try.ntmps7
    go_wp2_with fail
    rw [← HW0.out]
    refine (awake_any _).mono ?_
    rintro e w1 ⟨rfl, hB1⟩
    have HX1 := Lib.hid (HX.out.later hB1)
    have HB1 := Lib.hid (HB0.out.trans (hB1.mono HB0.out.size))
    obtain ⟨c0, c1, c2, c3, c4, c5, c6, c7, c8, c9, c10⟩ := HX1.out.all
    clear hB1
    go_wp2_with fail
    refine (HR.out _).mono ?_
    rintro e w2 ⟨rfl, hB2⟩
    clear c0 c1 c2 c3 c4 c5 c6 c7 c8 c9 c10
    have HX2 := Lib.hid (HX1.out.later hB2)
    have HB2 := Lib.hid (HB1.out.trans (hB2.mono HB1.out.size))
    clear hB2
    obtain ⟨c0, c1, c2, c3, c4, c5, c6, c7, c8, c9, c10⟩ := HX2.out.all
    go_wp2
    go_ret
    exact ⟨rfl, HB2.out⟩
  have hk : (kind == m.kind) = false := by simpa using g2
  clear g2
  go_enter Try.func7, Try.ntmps7
  go_wp2_with fail
  rw [← HW0.out]
  refine (awake_any _).mono ?_
  rintro e w1 ⟨rfl, hB1⟩
  have HX1 := Lib.hid (HX.out.later hB1)
  have HB1 := Lib.hid (HB0.out.trans (hB1.mono HB0.out.size))
  obtain ⟨c0, c1, c2, c3, c4, c5, c6, c7, c8, c9, c10⟩ := HX1.out.all
  clear hB1
  go_wp2_with fail
  refine (HR.out _).mono ?_
  rintro e w2 ⟨rfl, hB2⟩
  clear c0 c1 c2 c3 c4 c5 c6 c7 c8 c9 c10
  have HX2 := Lib.hid (HX1.out.later hB2)
  have HB2 := Lib.hid (HB1.out.trans (hB2.mono HB1.out.size))
  clear hB2
  obtain ⟨c0, c1, c2, c3, c4, c5, c6, c7, c8, c9, c10⟩ := HX2.out.all
  obtain ⟨w3, hw3⟩ : ∃ w3, w3 = w2.alloc (mbox m) := ⟨_, rfl⟩
  have HB3 : Hid (Below w.heap.size w w3) := Lib.hid (by rw [hw3]; exact HB2.out.alloc HB2.out.size _)
  have HX3 : Hid (MBox w3 w.heap.size m) := Lib.hid (by rw [hw3]; exact HX2.out.alloc _)
  have HN3 : Hid (MBox w3 w2.heap.size m) := Lib.hid (by rw [hw3]; exact MBox.new w2 m)
  have HW3 := Lib.hid hw3
  have hle := HB2.out.size
  have hlt := HX2.out.lt
  obtain ⟨n, hn⟩ : ∃ n : MsgV, n = { m with kind := kind } := ⟨_, rfl⟩
  obtain ⟨w4, hw4⟩ : ∃ w4, w4 = w3.setCell ⟨w2.heap.size, 0, none⟩ (.int .i64 kind) := ⟨_, rfl⟩
  have HN4 : Hid (MBox w4 w2.heap.size n) := Lib.hid (by rw [hw4, hn]; exact HN3.out.store 0 _ rfl)
  have HX4 : Hid (MBox w4 w.heap.size m) := Lib.hid (by rw [hw4]; exact HX3.out.other (by show w.heap.size ≠ w2.heap.size; omega) _)
  have HB4 : Hid (Below w.heap.size w w4) := Lib.hid (by rw [hw4]; exact HB3.out.setCell (by show w.heap.size ≤ w2.heap.size; omega) _)
  have HW4 := Lib.hid hw4
  obtain ⟨w5, hw5⟩ : ∃ w5, w5 = w4.alloc (.cells #[.int .i64 kind, .int .i64 m.life, .int .i64 m.seen, .int .i64 0, .int .i64 0, .int .u32 0, .int .i64 0, .string ⟨#[]⟩, .int .i64 0, .int .i64 0, .bool false] 25) := ⟨_, rfl⟩
  have hbare : MBox w5 w4.heap.size (bareM n) := by rw [hw5, hn]; exact MBox.new w4 ⟨kind, m.life, m.seen, 0, 0, 0, 0, ⟨#[]⟩, 0, 0, false⟩
  have HE5 := Lib.hid hbare
  have HN5 : Hid (MBox w5 w2.heap.size n) := Lib.hid (by rw [hw5]; exact HN4.out.alloc _)
  have HB5 : Hid (Below w.heap.size w w5) := Lib.hid (by rw [hw5]; exact HB4.out.alloc HB4.out.size _)
  have HW5 := Lib.hid hw5
  have hna : n.addr < 4294967296 := by rw [hn]; exact ha
  have HK5 := Lib.hid (show n.kind = kind by rw [hn])
  have HR5 := Lib.hid (fun W => right_any n hna W)
  have HS5 := Lib.hid (fun W => rright_any n W)
  have HWL := Lib.hid (show wthn n.life 1 536870912 = true ∧ wthn n.seen 0 536870912 = true by rw [hn]; have := (right_iff m).1 hrm; exact ⟨(wthn_iff _ _ _).2 this.2.1, (wthn_iff _ _ _).2 this.2.2.1⟩)
  clear hw3 hle hlt hn hw4 hw5 hbare hrm
  go_upto_region 5 with fail
  rw [← HW3.out]
  clear c0 c1 c2 c3 c4 c5 c6 c7 c8 c9 c10
  have d0 := HN3.out.c0
  have f0 := HN3.out.free 0
  go_upto_region 6 with fail
  rw [← HW4.out]
  clear d0 f0
  have c1 := HX4.out.c1
  have c2 := HX4.out.c2
  go_upto_region 7 with fail
  rw [← HW5.out]
  clear c1 c2
  by_cases h45 : kind = 4 ∨ kind = 5
  · obtain ⟨t, ht⟩ : ∃ t, t = decide (n = bareM n) := ⟨_, rfl⟩
    have hk5 : wthn n.kind 1 5 = true := by rw [HK5.out]; exact (wthn_iff _ _ _).2 (by omega)
    have hrt : rightM n = t := by rw [ht]; exact right_4 hk5 HWL.out.1 HWL.out.2 (by rw [HK5.out]; omega) (by rw [HK5.out]; omega) (by rw [HK5.out]; omega)
    have hq := (eqB_of n (bareM n)).trans ht.symm
    rw [hrt] at HR5
    have CR := Lib.hid (fun d os => Calls.regrown_of (HR5.out (grow (redrawn w5 d) os)))
    obtain ⟨q0, q1, q2, q3, q4, q5, q6, q7, q8, q9, q10⟩ := HN5.out.allR
    obtain ⟨r0, r1, r2, r3, r4, r5, r6, r7, r8, r9, r10⟩ := HE5.out.allR
    have htt : (t == t) = true := by simp
    clear ht hk5 hrt HR5 HS5
    rcases h45 with rfl | rfl
    all_goals
      go_upto_region 8 with fail
      refine wp_region_quiet_below (by kernel_rfl) (by kernel_rfl) ?_
      repeat (quiet_step ((go_at_call 12; exact CR.out _ _)))
      refine wpQuiet_nil ?_
      intro _ hw'
      obtain ⟨⟨dq, osq⟩, hw''⟩ := hw'
      subst hw''
      go_wp2
      go_ret
      exact ⟨by simp; exact hq.symm, HB5.out.trans ((below_regrown w5 dq osq).mono HB5.out.size)⟩
  have t4 : (kind == 4) = false := by simp; omega
  have t5 : (kind == 5) = false := by simp; omega
  by_cases hlow : kind < 1
  · have hd1 : decide (kind < 1) = true := by simpa using hlow
    have hrf : rightM n = false := by
      unfold rightM
      rw [decide_eq_false_iff_not]
      intro h; have := h.1; rw [HK5.out] at this; omega
    rw [hrf] at HR5
    clear hrf h45 HS5
    obtain ⟨q0, q1, q2, q3, q4, q5, q6, q7, q8, q9, q10⟩ := HN5.out.all
    go_wp2_with fail
    refine (HR5.out _).mono ?_
    rintro e w6 ⟨rfl, hB6⟩
    go_wp2
    go_ret
    exact ⟨rfl, HB5.out.trans (hB6.mono HB5.out.size)⟩
  have hd1 : decide (kind < 1) = false := by simpa using hlow
  by_cases hhigh : 5 < kind
  · have hd5 : decide (5 < kind) = true := by simpa using hhigh
    have hrf : rightM n = false := by
      unfold rightM
      rw [decide_eq_false_iff_not]
      intro h; have := h.1; rw [HK5.out] at this; omega
    rw [hrf] at HR5
    clear hrf h45 HS5
    obtain ⟨q0, q1, q2, q3, q4, q5, q6, q7, q8, q9, q10⟩ := HN5.out.all
    go_wp2_with fail
    refine (HR5.out _).mono ?_
    rintro e w6 ⟨rfl, hB6⟩
    go_wp2
    go_ret
    exact ⟨rfl, HB5.out.trans (hB6.mono HB5.out.size)⟩
  have hd5 : decide (5 < kind) = false := by simpa using hhigh
  have CR := Lib.hid (fun d os => Calls.regrown_of (HR5.out (grow (redrawn w5 d) os)))
  have CS := Lib.hid (fun d os => Calls.regrown_of (HS5.out (grow (redrawn w5 d) os)))
  obtain ⟨q0, q1, q2, q3, q4, q5, q6, q7, q8, q9, q10⟩ := HN5.out.allR
  have htt : (rightM n == rightM n) = true := by simp
  clear h45 hlow hhigh HR5 HS5
  generalize rightM n = t at *
  go_upto_region 11 with fail
  refine wp_region_quiet_below (by kernel_rfl) (by kernel_rfl) ?_
  repeat (quiet_step (first | (go_at_call 12; exact CR.out _ _) | (go_at_call 13; exact CS.out _ _)))
  refine wpQuiet_nil ?_
  intro _ hw'
  obtain ⟨⟨dq, osq⟩, hw''⟩ := hw'
  subst hw''
  go_wp2
  go_ret
  exact ⟨by simp, HB5.out.trans ((below_regrown w5 dq osq).mono HB5.out.size)⟩
end Go.Proofs.Ytgdkioegadbnmaa
