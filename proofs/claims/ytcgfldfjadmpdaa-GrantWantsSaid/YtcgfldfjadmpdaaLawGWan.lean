/- The law GrantWants, walked. -/
import Derived.Test.YtcgfldfjadmpdaaGraE
namespace Go.Proofs.Ytcgfldfjadmpdaa
open Go.RowKit Go.Sort

theorem aftV_in {t s : Int} (h0 : 0 ≤ t) (h1 : 0 ≤ s) (h2 : t + s ≤ 1099511627776) : aftV t s = t + s := by
  unfold aftV addV moV limV
  omega
/-- Who wants more is promised no less. -/
theorem wants_more {x1 y0 y1 y2 e0 e1 e2 : Int} (hx : 0 ≤ x1 ∧ x1 ≤ 1073741824) (h0 : 0 ≤ y0 ∧ y0 ≤ 1073741824) (h1 : 0 ≤ y1 ∧ y1 ≤ 1073741824) (h2 : 0 ≤ y2 ∧ y2 ≤ 1073741824) (g0 : 0 ≤ e0 ∧ e0 ≤ 1073741824) (g1 : 0 ≤ e1 ∧ e1 ≤ 1073741824) (g2 : 0 ≤ e2 ∧ e2 ≤ 1073741824) :
    untV x1 y0 y1 y2 ≤ untV (x1 + e0) y0 (y1 + e1) (y2 + e2) ∧ untV x1 y0 y1 y2 ≤ y0 + y1 ∧ y0 ≤ untV x1 y0 y1 y2 := by
  unfold untV
  rw [moV_id (a := y0) (by omega) (by omega), moV_id (a := y2) (by omega) (by omega), moV_id (a := y2 + e2) (by omega) (by omega), aftV_in h0.1 h1.1 (by omega), aftV_in h0.1 (show 0 ≤ y1 + e1 by omega) (by omega), aftV_in (show 0 ≤ max y0 y2 by omega) hx.1 (by omega), aftV_in (show 0 ≤ max y0 (y2 + e2) by omega) (show 0 ≤ x1 + e0 by omega) (by omega)]
  omega

set_option maxRecDepth 100000 in
set_option maxHeartbeats 4000000 in
theorem law_gwants (x0 x1 x2 y0 y1 y2 e0 e1 e2 : Int) (w : World) : Calls Try.prog 7 #[r3v x0 x1 x2, r3v y0 y1 y2, r3v e0 e1 e2] w fun e w' => e = .returned (.bool true) ∧ Below w.heap.size w w' := by
  have HA := Lib.hid (fun V => gawake_any V)
  have HR := Lib.hid (fun V => rules_any x0 x1 x2 V)
  have HS := Lib.hid (fun V => rules_any x0 (x1 + e0) x2 V)
  obtain ⟨w0, hw0⟩ : ∃ w0, w0 = ((w.alloc (r3box 22 x0 x1 x2)).alloc (r3box 22 y0 y1 y2)).alloc (r3box 22 e0 e1 e2) := ⟨_, rfl⟩
  have HX : Hid (R3 22 w0 w.heap.size x0 x1 x2) := Lib.hid (by rw [hw0]; exact ((R3.new w _ x0 x1 x2).alloc _).alloc _)
  have HY : Hid (R3 22 w0 (w.heap.size + 1) y0 y1 y2) := Lib.hid (by rw [hw0]; have h := R3.new (w.alloc (r3box 22 x0 x1 x2)) 22 y0 y1 y2; rw [show (w.alloc (r3box 22 x0 x1 x2)).heap.size = w.heap.size + 1 by simp] at h; exact h.alloc _)
  have HE : Hid (R3 22 w0 (w.heap.size + 1 + 1) e0 e1 e2) := Lib.hid (by rw [hw0]; have h := R3.new ((w.alloc (r3box 22 x0 x1 x2)).alloc (r3box 22 y0 y1 y2)) 22 e0 e1 e2; rw [show ((w.alloc (r3box 22 x0 x1 x2)).alloc (r3box 22 y0 y1 y2)).heap.size = w.heap.size + 1 + 1 by simp] at h; exact h)
  have HB : Hid (Below w.heap.size w w0) := Lib.hid (by rw [hw0]; exact (((Below.refl _ _).alloc (Nat.le_refl _) _).alloc (by simp) _).alloc (by simp; omega) _)
  have HW0 := Lib.hid hw0
  clear hw0
  go_enter Try.func7, Try.ntmps7
  go_upto_region 1 with fail
  rw [← HW0.out]
  go_wp2_with fail
  refine (HA.out _).mono ?_
  rintro e w1 ⟨rfl, hb1⟩
  have HX1 := Lib.hid (HX.out.later hb1)
  have HY1 := Lib.hid (HY.out.later hb1)
  have HE1 := Lib.hid (HE.out.later hb1)
  have HB1 := Lib.hid (HB.out.trans (hb1.mono HB.out.size))
  clear hb1 HX HY HE HB HW0 HA
  obtain ⟨c0, c1, c2⟩ := HX1.out.all
  obtain ⟨d0, d1, d2⟩ := HY1.out.all
  obtain ⟨b0, b1, b2⟩ := HE1.out.all
  go_wp2
  go_loop [8] (fun i => i = .int .i64 0 ∨ (i = .int .i64 1 ∧ Hid (0 ≤ e0 ∧ e0 ≤ 1073741824 ∧ 0 ≤ y0 ∧ y0 ≤ 1073741824 ∧ 0 ≤ x0 ∧ x0 ≤ 1073741824)) ∨ (i = .int .i64 2 ∧ Hid (0 ≤ e0 ∧ e0 ≤ 1073741824 ∧ 0 ≤ y0 ∧ y0 ≤ 1073741824 ∧ 0 ≤ x0 ∧ x0 ≤ 1073741824) ∧ Hid (0 ≤ e1 ∧ e1 ≤ 1073741824 ∧ 0 ≤ y1 ∧ y1 ≤ 1073741824 ∧ 0 ≤ x1 ∧ x1 ≤ 1073741824)) ∨ (i = .int .i64 3 ∧ Hid (0 ≤ e0 ∧ e0 ≤ 1073741824 ∧ 0 ≤ y0 ∧ y0 ≤ 1073741824 ∧ 0 ≤ x0 ∧ x0 ≤ 1073741824) ∧ Hid (0 ≤ e1 ∧ e1 ≤ 1073741824 ∧ 0 ≤ y1 ∧ y1 ≤ 1073741824 ∧ 0 ≤ x1 ∧ x1 ≤ 1073741824) ∧ Hid (0 ≤ e2 ∧ e2 ≤ 1073741824 ∧ 0 ≤ y2 ∧ y2 ≤ 1073741824 ∧ 0 ≤ x2 ∧ x2 ≤ 1073741824))) (fun i => 3 - (intOf i).toNat)
  case atStart => exact .inl rfl
  case round =>
    rcases hrel with rfl | ⟨rfl, ok0⟩ | ⟨rfl, ok0, ok1⟩ | ⟨rfl, ok0, ok1, ok2⟩
    · cases t0 : decide (e0 < 0)
      rotate_left
      · go_wp2
        go_ret
        exact ⟨rfl, HB1.out⟩
      cases t1 : decide (1073741824 < e0)
      rotate_left
      · go_wp2
        go_ret
        exact ⟨rfl, HB1.out⟩
      cases t2 : decide (y0 < 0)
      rotate_left
      · go_wp2
        go_ret
        exact ⟨rfl, HB1.out⟩
      cases t3 : decide (1073741824 < y0)
      rotate_left
      · go_wp2
        go_ret
        exact ⟨rfl, HB1.out⟩
      cases t4 : decide (x0 < 0)
      rotate_left
      · go_wp2
        go_ret
        exact ⟨rfl, HB1.out⟩
      cases t5 : decide (1073741824 < x0)
      rotate_left
      · go_wp2
        go_ret
        exact ⟨rfl, HB1.out⟩
      have okn : 0 ≤ e0 ∧ e0 ≤ 1073741824 ∧ 0 ≤ y0 ∧ y0 ≤ 1073741824 ∧ 0 ≤ x0 ∧ x0 ≤ 1073741824 := by
        simp only [decide_eq_false_iff_not] at t0 t1 t2 t3 t4 t5
        omega
      go_wp2
      go_round
      case rel => exact .inr (.inl ⟨rfl, Lib.hid okn⟩)
      case measure => simp [intOf]
    · cases t0 : decide (e1 < 0)
      rotate_left
      · go_wp2
        go_ret
        exact ⟨rfl, HB1.out⟩
      cases t1 : decide (1073741824 < e1)
      rotate_left
      · go_wp2
        go_ret
        exact ⟨rfl, HB1.out⟩
      cases t2 : decide (y1 < 0)
      rotate_left
      · go_wp2
        go_ret
        exact ⟨rfl, HB1.out⟩
      cases t3 : decide (1073741824 < y1)
      rotate_left
      · go_wp2
        go_ret
        exact ⟨rfl, HB1.out⟩
      cases t4 : decide (x1 < 0)
      rotate_left
      · go_wp2
        go_ret
        exact ⟨rfl, HB1.out⟩
      cases t5 : decide (1073741824 < x1)
      rotate_left
      · go_wp2
        go_ret
        exact ⟨rfl, HB1.out⟩
      have okn : 0 ≤ e1 ∧ e1 ≤ 1073741824 ∧ 0 ≤ y1 ∧ y1 ≤ 1073741824 ∧ 0 ≤ x1 ∧ x1 ≤ 1073741824 := by
        simp only [decide_eq_false_iff_not] at t0 t1 t2 t3 t4 t5
        omega
      go_wp2
      go_round
      case rel => exact .inr (.inr (.inl ⟨rfl, ok0, Lib.hid okn⟩))
      case measure => simp [intOf]
    · cases t0 : decide (e2 < 0)
      rotate_left
      · go_wp2
        go_ret
        exact ⟨rfl, HB1.out⟩
      cases t1 : decide (1073741824 < e2)
      rotate_left
      · go_wp2
        go_ret
        exact ⟨rfl, HB1.out⟩
      cases t2 : decide (y2 < 0)
      rotate_left
      · go_wp2
        go_ret
        exact ⟨rfl, HB1.out⟩
      cases t3 : decide (1073741824 < y2)
      rotate_left
      · go_wp2
        go_ret
        exact ⟨rfl, HB1.out⟩
      cases t4 : decide (x2 < 0)
      rotate_left
      · go_wp2
        go_ret
        exact ⟨rfl, HB1.out⟩
      cases t5 : decide (1073741824 < x2)
      rotate_left
      · go_wp2
        go_ret
        exact ⟨rfl, HB1.out⟩
      have okn : 0 ≤ e2 ∧ e2 ≤ 1073741824 ∧ 0 ≤ y2 ∧ y2 ≤ 1073741824 ∧ 0 ≤ x2 ∧ x2 ≤ 1073741824 := by
        simp only [decide_eq_false_iff_not] at t0 t1 t2 t3 t4 t5
        omega
      go_wp2
      go_round
      case rel => exact .inr (.inr (.inr ⟨rfl, ok0, ok1, Lib.hid okn⟩))
      case measure => simp [intOf]
    · obtain ⟨p1, p2, p3, p4, p5, p6⟩ := ok0.out
      obtain ⟨q1, q2, q3, q4, q5, q6⟩ := ok1.out
      obtain ⟨r1, r2, r3, r4, r5, r6⟩ := ok2.out
      have hW := wants_more ⟨q5, q6⟩ ⟨p3, p4⟩ ⟨q3, q4⟩ ⟨r3, r4⟩ ⟨p1, p2⟩ ⟨q1, q2⟩ ⟨r1, r2⟩
      go_wp2_with fail
      refine (HR.out _).mono ?_
      rintro e w2 ⟨rfl, hb2⟩
      have HX2 := Lib.hid (HX1.out.later hb2)
      have HY2 := Lib.hid (HY1.out.later hb2)
      have HE2 := Lib.hid (HE1.out.later hb2)
      have HB2 := Lib.hid (HB1.out.trans (hb2.mono HB1.out.size))
      clear hb2 c0 c1 c2 d0 d1 d2 b0 b1 b2
      go_upto_region 10 with fail
      rw [← layR_eq]
      have HG := Lib.hid (layR_G w2 x0 x1 x2)
      have HX3 := Lib.hid (HX2.out.later (layR_low w2 x0 x1 x2))
      have HY3 := Lib.hid (HY2.out.later (layR_low w2 x0 x1 x2))
      have HE3 := Lib.hid (HE2.out.later (layR_low w2 x0 x1 x2))
      have HB3 := Lib.hid (HB2.out.trans ((layR_low w2 x0 x1 x2).mono HB2.out.size))
      obtain ⟨g, hg⟩ : ∃ g, g = w2.heap.size := ⟨_, rfl⟩
      rw [← hg] at HG ⊢
      generalize layR w2 x0 x1 x2 = w3 at HG HX3 HY3 HE3 HB3 ⊢
      clear hg HX1 HY1 HE1 HB1 HX2 HY2 HE2 HB2
      obtain ⟨c0, c1, c2⟩ := HX3.out.all
      obtain ⟨b0, b1, b2⟩ := HE3.out.all
      go_wp2_with fail
      refine (HS.out _).mono ?_
      rintro e w4 ⟨rfl, hb4⟩
      have HG4 := Lib.hid (HG.out.later hb4)
      have HX4 := Lib.hid (HX3.out.later hb4)
      have HY4 := Lib.hid (HY3.out.later hb4)
      have HE4 := Lib.hid (HE3.out.later hb4)
      have HB4 := Lib.hid (HB3.out.trans (hb4.mono HB3.out.size))
      clear hb4 c0 c1 c2 b0 b1 b2
      go_upto_region 11 with fail
      rw [← layR_eq]
      have HH := Lib.hid (layR_G w4 x0 (x1 + e0) x2)
      have HG5 := Lib.hid (HG4.out.later (layR_low w4 x0 (x1 + e0) x2))
      have HY5 := Lib.hid (HY4.out.later (layR_low w4 x0 (x1 + e0) x2))
      have HE5 := Lib.hid (HE4.out.later (layR_low w4 x0 (x1 + e0) x2))
      have HB5 := Lib.hid (HB4.out.trans ((layR_low w4 x0 (x1 + e0) x2).mono HB4.out.size))
      obtain ⟨h, hh⟩ : ∃ h, h = w4.heap.size := ⟨_, rfl⟩
      rw [← hh] at HH ⊢
      generalize layR w4 x0 (x1 + e0) x2 = w5 at HH HG5 HY5 HE5 HB5 ⊢
      clear hh HX3 HY3 HE3 HB3 HX4 HY4 HE4 HB4 HG HG4
      have HU := Lib.hid (fun V => until_any x0 x1 x2 y0 y1 y2 V)
      have HV := Lib.hid (fun V => until_any x0 (x1 + e0) x2 y0 (y1 + e1) (y2 + e2) V)
      generalize untV (x1 + e0) y0 (y1 + e1) (y2 + e2) = v at *
      generalize untV x1 y0 y1 y2 = u at *
      obtain ⟨hW1, hW2, hW3⟩ := hW
      obtain ⟨g0, g1, g2⟩ := HG5.out.all
      obtain ⟨d0, d1, d2⟩ := HY5.out.all
      go_wp2_with fail
      refine (HU.out _).mono ?_
      rintro e w6 ⟨rfl, hb6⟩
      have HG6 := Lib.hid (HG5.out.later hb6)
      have HH6 := Lib.hid (HH.out.later hb6)
      have HY6 := Lib.hid (HY5.out.later hb6)
      have HE6 := Lib.hid (HE5.out.later hb6)
      have HB6 := Lib.hid (HB5.out.trans (hb6.mono HB5.out.size))
      clear hb6 g0 g1 g2 d0 d1 d2 HG5 HH HY5 HE5 HB5
      have C1 := Lib.hid (qb (fun V => HV.out V) w6)
      have C2 := Lib.hid (qb (fun V => own_any x0 x1 x2 V) w6)
      have C3 := Lib.hid (qb (fun V => own_any x0 (x1 + e0) x2 V) w6)
      generalize ownV x0 = k at *
      have s1 : (k == k) = true := by simp
      have s2 : decide (u ≤ v) = true := decide_eq_true hW1
      have s3 : decide (u ≤ y0 + y1) = true := decide_eq_true hW2
      have s4 : decide (y0 ≤ u) = true := decide_eq_true hW3
      obtain ⟨g0, g1, g2⟩ := HG6.out.allR
      obtain ⟨h0, h1, h2⟩ := HH6.out.allR
      obtain ⟨d0, d1, d2⟩ := HY6.out.allR
      obtain ⟨b0, b1, b2⟩ := HE6.out.allR
      go_upto_region 12 with fail
      refine wp_region_quiet_below (by kernel_rfl) (by kernel_rfl) ?_
      repeat (go_big_quiet_step (first | with_reducible exact C1.out _ _ | with_reducible exact C2.out _ _ | with_reducible exact C3.out _ _))
      refine wpQuiet_nil ?_
      intro _ hw'
      obtain ⟨⟨dq, osq⟩, hw''⟩ := hw'
      subst hw''
      go_wp2
      go_ret
      exact ⟨rfl, HB6.out.trans ((below_regrown w6 dq osq).mono HB6.out.size)⟩
end Go.Proofs.Ytcgfldfjadmpdaa
