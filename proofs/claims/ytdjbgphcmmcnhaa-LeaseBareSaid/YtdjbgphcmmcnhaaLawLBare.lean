/- The law LeaseBare. -/
import Derived.Test.YtdjbgphcmmcnhaaLeaW
import Derived.Deep.DeepCutAuto
namespace Go.Proofs.Ytdjbgphcmmcnhaa
open Go.RowKit Go.Sort
attribute [local go_sem ↓] run_eqlL run_neqL run_guardL

theorem x_right (a : Nat) (b v : Int) : RightL { bareL a b v with client := [120] } ↔ HeldL b ∧ TimeL v := by
  constructor
  · intro h
    refine ⟨?_, h.ver⟩
    by_cases hh : HeldL b
    · exact hh
    · exact absurd (h.bare hh).1 (by simp)
  · rintro ⟨hh, hv⟩
    have hb : b = 2 ∨ b = 3 ∨ b = 4 := hh
    exact ⟨by show 0 ≤ b; omega, by show b ≤ 5; omega, by show TimeL 0; decide, by show TimeL 0; decide, by show TimeL 0; decide, by show TimeL 0; decide, hv, fun _ => ⟨Nat.le_refl _, by show 1 ≤ 32; omega⟩, fun hn => absurd hh hn⟩
theorem told_right (a : Nat) (b v : Int) : ¬ RightL { bareL a b v with told := 1 } := by
  intro h
  by_cases hh : HeldL b
  · exact absurd (h.held hh).1 (by simp [bareL])
  · exact absurd (h.bare hh).2.2.2.1 (by simp)

set_option maxRecDepth 100000 in
set_option maxHeartbeats 4000000 in
theorem law_lbare (a : Nat) (b v : Int) (w : World) :
    Calls Try.prog 6 #[.int .u32 (a : Int), .int .i64 b, .int .i64 v] w fun e w' => e = .returned (.bool true) ∧ Below w.heap.size w w' := by
  obtain ⟨l, hl⟩ : ∃ l, l = bareL a b v := ⟨_, rfl⟩
  have HBA : Hid (∀ W, Calls Try.prog 16 #[.int .u32 (a : Int), .int .i64 b, .int .i64 v] W fun e w' => e = .returned l.v ∧ Below W.heap.size W w') := Lib.hid (fun W => by rw [hl]; exact bare_any a b v W)
  have HL := Lib.hid hl
  clear hl
  go_enter Try.func6, Try.ntmps6
  go_wp2_with fail
  refine (awake_any _).mono ?_
  rintro e w1 ⟨rfl, hB1⟩
  go_wp2_with fail
  refine (HBA.out _).mono ?_
  rintro e w2 ⟨rfl, hB2⟩
  obtain ⟨w3, hw3⟩ : ∃ w3, w3 = w2.alloc (lbox l) := ⟨_, rfl⟩
  have HX3 : Hid (LBox w3 w2.heap.size l) := Lib.hid (by rw [hw3]; exact LBox.new w2 l)
  have hB3 : Below w2.heap.size w2 w3 := by rw [hw3]; exact (Below.refl _ _).alloc (Nat.le_refl _) _
  have HB2 := Lib.hid (hB1.trans (hB2.mono hB1.size))
  have HB3 := Lib.hid (HB2.out.trans (hB3.mono HB2.out.size))
  have HW3 := Lib.hid hw3
  clear hB1 hB2 hB3 hw3
  go_upto_region 3 with fail
  rw [← HW3.out]
  obtain ⟨may, hmay⟩ : ∃ may, may = (decide (b = 0 ∨ b = 1 ∨ b = 5) && decide (TimeL v)) := ⟨_, rfl⟩
  have HM := Lib.hid hmay
  clear hmay
  go_cut [9] (fun s9 wx => s9 = .bool may ∧ wx = w3)
  case first =>
    have HF : Hid (may = (decide (b = 0 ∨ b = 1 ∨ b = 5) && decide (TimeL v))) := HM
    by_cases hb : b = 0 ∨ b = 1 ∨ b = 5
    rotate_left
    · have t0 : (b == 0) = false := by simp; omega
      have t1 : (b == 1) = false := by simp; omega
      have t5 : (b == 5) = false := by simp; omega
      rw [show decide (b = 0 ∨ b = 1 ∨ b = 5) = false from decide_eq_false hb, Bool.false_and] at HF
      clear hb
      go_wp2_with fail
      go_meet
      rw [HF.out]
      exact ⟨rfl, rfl⟩
    rw [show decide (b = 0 ∨ b = 1 ∨ b = 5) = true from decide_eq_true hb, Bool.true_and] at HF
    by_cases hv : 0 ≤ v
    rotate_left
    · have hd : decide (0 ≤ v) = false := decide_eq_false hv
      rw [show decide (TimeL v) = false from decide_eq_false fun h => hv h.1] at HF
      clear hv
      rcases hb with hb | hb | hb
      · have t0 : (b == 0) = true := by rw [hb]; rfl
        clear hb
        go_wp2_with fail
        go_meet
        rw [HF.out]
        exact ⟨rfl, rfl⟩
      · have t0 : (b == 0) = false := by rw [hb]; rfl
        have t1 : (b == 1) = true := by rw [hb]; rfl
        clear hb
        go_wp2_with fail
        go_meet
        rw [HF.out]
        exact ⟨rfl, rfl⟩
      · have t0 : (b == 0) = false := by rw [hb]; rfl
        have t1 : (b == 1) = false := by rw [hb]; rfl
        have t5 : (b == 5) = true := by rw [hb]; rfl
        clear hb
        go_wp2_with fail
        go_meet
        rw [HF.out]
        exact ⟨rfl, rfl⟩
    have hd : decide (0 ≤ v) = true := decide_eq_true hv
    rw [show decide (TimeL v) = decide (v ≤ 1099511627776) from by rw [decide_eq_decide]; exact ⟨fun h => h.2, fun h => ⟨hv, h⟩⟩] at HF
    clear hv
    rcases hb with hb | hb | hb
    · have t0 : (b == 0) = true := by rw [hb]; rfl
      clear hb
      go_wp2_with fail
      go_meet
      rw [HF.out]
      exact ⟨rfl, rfl⟩
    · have t0 : (b == 0) = false := by rw [hb]; rfl
      have t1 : (b == 1) = true := by rw [hb]; rfl
      clear hb
      go_wp2_with fail
      go_meet
      rw [HF.out]
      exact ⟨rfl, rfl⟩
    · have t0 : (b == 0) = false := by rw [hb]; rfl
      have t1 : (b == 1) = false := by rw [hb]; rfl
      have t5 : (b == 5) = true := by rw [hb]; rfl
      clear hb
      go_wp2_with fail
      go_meet
      rw [HF.out]
      exact ⟨rfl, rfl⟩
  case rest =>
    obtain ⟨rfl, hw⟩ := hcut
    rw [hw]
    clear hw
    obtain ⟨g10, hg10⟩ : ∃ g, g = w3.heap.size := ⟨_, rfl⟩
    obtain ⟨w4, hw4⟩ : ∃ w4, w4 = w3.alloc (lbox l) := ⟨_, rfl⟩
    have HA4 : Hid (LBox w4 g10 l) := Lib.hid (by rw [hw4, hg10]; exact LBox.new w3 l)
    have hB4 : Below w3.heap.size w3 w4 := by rw [hw4]; exact (Below.refl _ _).alloc (Nat.le_refl _) _
    have hne : w2.heap.size ≠ g10 := by rw [hg10]; exact Nat.ne_of_lt HX3.out.lt
    have HX4 := Lib.hid (HX3.out.later hB4)
    have HB4 := Lib.hid (HB3.out.trans (hB4.mono HB3.out.size))
    have HG10 : Hid (w.heap.size ≤ g10) := Lib.hid (by rw [hg10]; exact HB3.out.size)
    have HE10 := Lib.hid hg10
    have HW4 := Lib.hid hw4
    have HNE := Lib.hid hne
    clear hB4 hw4 hg10 hne
    obtain ⟨c0, c1, c2, c3, c4, c5, c6, c7⟩ := HX3.out.all
    go_upto_region 5 with fail
    rw [← HW4.out, ← HE10.out]
    clear c0 c1 c2 c3 c4 c5 c6 c7
    obtain ⟨m, hm⟩ : ∃ m : LV, m = { l with client := [120] } := ⟨_, rfl⟩
    obtain ⟨w5, hw5⟩ : ∃ w5, w5 = w4.setCell ⟨g10, 2, none⟩ (.string ⟨#[120]⟩) := ⟨_, rfl⟩
    have a2 := HA4.out.c2
    have af := HA4.out.free 2
    have HA5 : Hid (LBox w5 g10 m) := Lib.hid (by rw [hw5, hm]; exact HA4.out.store 2 _ rfl)
    have HX5 : Hid (LBox w5 w2.heap.size l) := Lib.hid (by rw [hw5]; exact HX4.out.other HNE.out _)
    have HB5 : Hid (Below w.heap.size w w5) := Lib.hid (by rw [hw5]; exact HB4.out.setCell (p := ⟨g10, 2, none⟩) HG10.out _)
    have HW5 := Lib.hid hw5
    have HMM := Lib.hid hm
    clear hw5 hm
    go_upto_region 6 with fail
    rw [← HW5.out]
    clear a2 af
    obtain ⟨g11, hg11⟩ : ∃ g, g = w5.heap.size := ⟨_, rfl⟩
    obtain ⟨w6, hw6⟩ : ∃ w6, w6 = w5.alloc (lbox l) := ⟨_, rfl⟩
    have HN6 : Hid (LBox w6 g11 l) := Lib.hid (by rw [hw6, hg11]; exact LBox.new w5 l)
    have hB6 : Below w5.heap.size w5 w6 := by rw [hw6]; exact (Below.refl _ _).alloc (Nat.le_refl _) _
    have HNE1 : Hid (w2.heap.size ≠ g11) := Lib.hid (by rw [hg11]; exact Nat.ne_of_lt HX5.out.lt)
    have HNE2 : Hid (g10 ≠ g11) := Lib.hid (by rw [hg11]; exact Nat.ne_of_lt HA5.out.lt)
    have HX6 := Lib.hid (HX5.out.later hB6)
    have HA6 := Lib.hid (HA5.out.later hB6)
    have HB6 := Lib.hid (HB5.out.trans (hB6.mono HB5.out.size))
    have HG11 : Hid (w.heap.size ≤ g11) := Lib.hid (by rw [hg11]; exact HB5.out.size)
    have HE11 := Lib.hid hg11
    have HW6 := Lib.hid hw6
    clear hB6 hw6 hg11
    obtain ⟨c0, c1, c2, c3, c4, c5, c6, c7⟩ := HX5.out.all
    go_upto_region 7 with fail
    rw [← HW6.out, ← HE11.out]
    clear c0 c1 c2 c3 c4 c5 c6 c7
    obtain ⟨n, hn⟩ : ∃ n : LV, n = { l with told := 1 } := ⟨_, rfl⟩
    obtain ⟨w7, hw7⟩ : ∃ w7, w7 = w6.setCell ⟨g11, 5, none⟩ (.int .i64 1) := ⟨_, rfl⟩
    have a5 := HN6.out.c5
    have af := HN6.out.free 5
    have HN7 : Hid (LBox w7 g11 n) := Lib.hid (by rw [hw7, hn]; exact HN6.out.store 5 _ rfl)
    have HX7 : Hid (LBox w7 w2.heap.size l) := Lib.hid (by rw [hw7]; exact HX6.out.other HNE1.out _)
    have HA7 : Hid (LBox w7 g10 m) := Lib.hid (by rw [hw7]; exact HA6.out.other HNE2.out _)
    have HB7 : Hid (Below w.heap.size w w7) := Lib.hid (by rw [hw7]; exact HB6.out.setCell (p := ⟨g11, 5, none⟩) HG11.out _)
    have HW7 := Lib.hid hw7
    have HNN := Lib.hid hn
    clear hw7 hn
    go_upto_region 8 with fail
    rw [← HW7.out]
    clear a5 af
    obtain ⟨held, hheld⟩ : ∃ held, held = decide (HeldL b) := ⟨_, rfl⟩
    have HH := Lib.hid hheld
    clear hheld
    go_cut [12] (fun s12 wx => s12 = .bool held ∧ wx = w7)
    case first =>
      have HF : Hid (held = decide (b = 2 ∨ b = 3 ∨ b = 4)) := HH
      by_cases hb : b = 2 ∨ b = 3 ∨ b = 4
      rotate_left
      · have t2 : (b == 2) = false := by simp; omega
        have t3 : (b == 3) = false := by simp; omega
        have t4 : (b == 4) = false := by simp; omega
        rw [show decide (b = 2 ∨ b = 3 ∨ b = 4) = false from decide_eq_false hb] at HF
        clear hb
        go_wp2_with fail
        go_meet
        rw [HF.out]
        exact ⟨rfl, rfl⟩
      rw [show decide (b = 2 ∨ b = 3 ∨ b = 4) = true from decide_eq_true hb] at HF
      rcases hb with hb | hb | hb
      · have t2 : (b == 2) = true := by rw [hb]; rfl
        clear hb
        go_wp2_with fail
        go_meet
        rw [HF.out]
        exact ⟨rfl, rfl⟩
      · have t2 : (b == 2) = false := by rw [hb]; rfl
        have t3 : (b == 3) = true := by rw [hb]; rfl
        clear hb
        go_wp2_with fail
        go_meet
        rw [HF.out]
        exact ⟨rfl, rfl⟩
      · have t2 : (b == 2) = false := by rw [hb]; rfl
        have t3 : (b == 3) = false := by rw [hb]; rfl
        have t4 : (b == 4) = true := by rw [hb]; rfl
        clear hb
        go_wp2_with fail
        go_meet
        rw [HF.out]
        exact ⟨rfl, rfl⟩
    case rest =>
      obtain ⟨rfl, hw⟩ := hcut
      rw [hw]
      clear hw
      have HRL : Hid (decide (RightL l) = may) := Lib.hid (by
        rw [HM.out, HL.out, ← Bool.decide_and, decide_eq_decide]
        exact bare_right a b v)
      have HRM : Hid (decide (RightL m) = (held && decide (TimeL v))) := Lib.hid (by
        rw [HH.out, HMM.out, HL.out, ← Bool.decide_and, decide_eq_decide]
        exact x_right a b v)
      have HRN : Hid (decide (RightL n) = false) := Lib.hid (by
        rw [HNN.out, HL.out]
        exact decide_eq_false (told_right a b v))
      have hol : overL l = 0 := by rw [HL.out]; rfl
      have CB := Lib.hid (fun d os => Calls.regrown_of (show Calls Try.prog 17 #[.int .u32 (a : Int), .int .i64 b, .int .i64 v] (grow (redrawn w7 d) os) fun e w' => e = .returned l.v ∧ Below (grow (redrawn w7 d) os).heap.size (grow (redrawn w7 d) os) w' by rw [HL.out]; exact rbare_any a b v _))
      have CL := Lib.hid (fun d os => Calls.regrown_of (right_any l (grow (redrawn w7 d) os)))
      have CM := Lib.hid (fun d os => Calls.regrown_of (right_any m (grow (redrawn w7 d) os)))
      have CN := Lib.hid (fun d os => Calls.regrown_of (right_any n (grow (redrawn w7 d) os)))
      have CO := Lib.hid (fun d os => Calls.regrown_of (over_any l (grow (redrawn w7 d) os)))
      simp only [HRL.out] at CL
      simp only [HRN.out] at CN
      simp only [hol] at CO
      have hself : eqL (l.addr : Int) l.bind l.cb l.unt l.acked l.told l.at_ l.ver (l.addr : Int) l.bind l.cb l.unt l.acked l.told l.at_ l.ver = true := by rw [eqL_of]; simp
      have hself2 : (may == may) = true := by simp
      obtain ⟨q0, q1, q2, q3, q4, q5, q6, q7⟩ := HX7.out.allR
      obtain ⟨p0, p1, p2, p3, p4, p5, p6, p7⟩ := HA7.out.allR
      obtain ⟨n0, n1, n2, n3, n4, n5, n6, n7⟩ := HN7.out.allR
      clear hol
      cases held
      · rw [Bool.false_and] at HRM
        simp only [HRM.out] at CM
        go_wp2_with fail
        refine wp_region_quiet_below (by kernel_rfl) (by kernel_rfl) ?_
        repeat (quiet_step (first | (go_at_call 17; with_reducible exact CB.out _ _) | (go_at_call 10; with_reducible exact CL.out _ _) | (go_at_call 10; with_reducible exact CM.out _ _) | (go_at_call 10; with_reducible exact CN.out _ _) | (go_at_call 12; with_reducible exact CO.out _ _)))
        refine wpQuiet_nil ?_
        intro _ hw'
        obtain ⟨⟨dq, osq⟩, hw''⟩ := hw'
        subst hw''
        go_wp2
        go_ret
        exact ⟨by simp, HB7.out.trans ((below_regrown w7 dq osq).mono HB7.out.size)⟩
      by_cases hv : 0 ≤ v
      rotate_left
      · have hd : decide (0 ≤ v) = false := decide_eq_false hv
        rw [show decide (TimeL v) = false from decide_eq_false fun h => hv h.1, Bool.true_and] at HRM
        simp only [HRM.out] at CM
        clear hv
        go_wp2_with fail
        refine wp_region_quiet_below (by kernel_rfl) (by kernel_rfl) ?_
        repeat (quiet_step (first | (go_at_call 17; with_reducible exact CB.out _ _) | (go_at_call 10; with_reducible exact CL.out _ _) | (go_at_call 10; with_reducible exact CM.out _ _) | (go_at_call 10; with_reducible exact CN.out _ _) | (go_at_call 12; with_reducible exact CO.out _ _)))
        refine wpQuiet_nil ?_
        intro _ hw'
        obtain ⟨⟨dq, osq⟩, hw''⟩ := hw'
        subst hw''
        go_wp2
        go_ret
        exact ⟨by simp, HB7.out.trans ((below_regrown w7 dq osq).mono HB7.out.size)⟩
      · have hd : decide (0 ≤ v) = true := decide_eq_true hv
        rw [show decide (TimeL v) = decide (v ≤ 1099511627776) from by rw [decide_eq_decide]; exact ⟨fun h => h.2, fun h => ⟨hv, h⟩⟩, Bool.true_and] at HRM
        simp only [HRM.out] at CM
        have hself3 : (decide (v ≤ 1099511627776) == decide (v ≤ 1099511627776)) = true := by simp
        clear hv
        go_wp2_with fail
        refine wp_region_quiet_below (by kernel_rfl) (by kernel_rfl) ?_
        repeat (quiet_step (first | (go_at_call 17; with_reducible exact CB.out _ _) | (go_at_call 10; with_reducible exact CL.out _ _) | (go_at_call 10; with_reducible exact CM.out _ _) | (go_at_call 10; with_reducible exact CN.out _ _) | (go_at_call 12; with_reducible exact CO.out _ _)))
        refine wpQuiet_nil ?_
        intro _ hw'
        obtain ⟨⟨dq, osq⟩, hw''⟩ := hw'
        subst hw''
        go_wp2
        go_ret
        exact ⟨by simp, HB7.out.trans ((below_regrown w7 dq osq).mono HB7.out.size)⟩
end Go.Proofs.Ytdjbgphcmmcnhaa
