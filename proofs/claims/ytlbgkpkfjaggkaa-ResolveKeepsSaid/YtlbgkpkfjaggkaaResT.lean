/- resolve: Take, but for what is told Released. -/
import Derived.Test.YtlbgkpkfjaggkaaResA
import Derived.Test.YtlbgkpkfjaggkaaResB
import Derived.Test.YtlbgkpkfjaggkaaResC
namespace Go.Proofs.Ytlbgkpkfjaggkaa
open Go.RowKit Go.Sort

set_option maxRecDepth 100000 in
set_option maxHeartbeats 2000000 in
theorem take_unfit (l : LV) (m : MsgV) (s now g : Int) (w : World) (hf : ¬ Fits l m) : Calls Try.prog 9 #[l.v, m.v, .int .i64 s, .int .i64 now, .int .i64 g] w (GivesLB w (l, false)) := by
  have HF := Lib.hid (fun V => fits_any l m V)
  rw [decide_eq_false hf] at HF
  clear hf
  obtain ⟨w0, hw0, hl, hm, hz, hb⟩ := lay3_facts w l m
  have HL := Lib.hid hl
  have HM := Lib.hid hm
  have HZ := Lib.hid hz
  have HB := Lib.hid hb
  have HW0 := Lib.hid hw0
  clear hl hm hz hb hw0
  obtain ⟨c0, c1, c2, c3, c4, c5, c6, c7⟩ := HL.out.all
  obtain ⟨m0, m1, m2, m3, m4, m5, m6, m7, m8, m9, m10⟩ := HM.out.all
  go_enter Try.func9, Try.ntmps9
  go_upto_region 1 with fail
  rw [← HW0.out]
  go_wp2_with fail
  refine (HF.out _).mono ?_
  rintro e w1 ⟨rfl, hb1⟩
  have HL1 := Lib.hid (HL.out.later hb1)
  have HM1 := Lib.hid (HM.out.later hb1)
  have HZ1 := Lib.hid (HZ.out.later hb1)
  have HB1 := Lib.hid (HB.out.trans (hb1.mono HB.out.size))
  clear hb1 HL HM HZ HB HW0
  clear c0 c1 c2 c3 c4 c5 c6 c7
  clear m0 m1 m2 m3 m4 m5 m6 m7 m8 m9 m10
  obtain ⟨c0, c1, c2, c3, c4, c5, c6, c7⟩ := HL1.out.all
  obtain ⟨m0, m1, m2, m3, m4, m5, m6, m7, m8, m9, m10⟩ := HM1.out.all
  obtain ⟨z0, z1, z2, z3, z4, z5, z6, z7⟩ := HZ1.out.all
  obtain ⟨f0, f1, f2, f3, f4, f5, f6, f7⟩ := HZ1.out.allF
  go_wp2
  exact take_end (W := w1) (q := l) HZ1.out HB1.out (Nat.le_add_right _ 2) rfl rfl rfl

set_option maxRecDepth 100000 in
set_option maxHeartbeats 2000000 in
theorem take_act (l : LV) (m : MsgV) (s now g : Int) (w : World) (hf : Fits l m) (hb : m.bind = 2) : Calls Try.prog 9 #[l.v, m.v, .int .i64 s, .int .i64 now, .int .i64 g] w (GivesLB w (actV l m (pastV now l.unt 0 && recB s))) := by
  have HF := Lib.hid (fun V => fits_any l m V)
  have HP := Lib.hid (fun V => past_any now l.unt 0 V)
  have HC := Lib.hid (fun V => rec_any s V)
  rw [decide_eq_true hf] at HF
  clear hf
  have HX := Lib.hid (fun V => prom_any l m (pastV now l.unt 0 && recB s) V)
  generalize hr : actV l m (pastV now l.unt 0 && recB s) = r at *
  clear hr
  generalize pastV now l.unt 0 = ov at *
  generalize recB s = rc at *
  have b2 : (m.bind == 2) = true := by rw [hb]; rfl
  clear hb
  obtain ⟨w0, hw0, hl, hm, hz, hb⟩ := lay3_facts w l m
  have HL := Lib.hid hl
  have HM := Lib.hid hm
  have HZ := Lib.hid hz
  have HB := Lib.hid hb
  have HW0 := Lib.hid hw0
  clear hl hm hz hb hw0
  obtain ⟨c0, c1, c2, c3, c4, c5, c6, c7⟩ := HL.out.all
  obtain ⟨m0, m1, m2, m3, m4, m5, m6, m7, m8, m9, m10⟩ := HM.out.all
  cases ov
  · try simp only [Bool.false_and] at *
    go_enter Try.func9, Try.ntmps9
    go_upto_region 1 with fail
    rw [← HW0.out]
    go_wp2_with fail
    refine (HF.out _).mono ?_
    rintro e w1 ⟨rfl, hb1⟩
    have HL1 := Lib.hid (HL.out.later hb1)
    have HM1 := Lib.hid (HM.out.later hb1)
    have HZ1 := Lib.hid (HZ.out.later hb1)
    have HB1 := Lib.hid (HB.out.trans (hb1.mono HB.out.size))
    clear hb1 HL HM HZ HB HW0
    clear c0 c1 c2 c3 c4 c5 c6 c7
    clear m0 m1 m2 m3 m4 m5 m6 m7 m8 m9 m10
    obtain ⟨c0, c1, c2, c3, c4, c5, c6, c7⟩ := HL1.out.all
    obtain ⟨m0, m1, m2, m3, m4, m5, m6, m7, m8, m9, m10⟩ := HM1.out.all
    obtain ⟨z0, z1, z2, z3, z4, z5, z6, z7⟩ := HZ1.out.all
    obtain ⟨f0, f1, f2, f3, f4, f5, f6, f7⟩ := HZ1.out.allF
    go_wp2_with fail
    refine (HP.out _).mono ?_
    rintro e w' ⟨rfl, rfl⟩
    go_wp2_with fail
    refine (HX.out _).mono ?_
    rintro e w2 ⟨rfl, hb2⟩
    have HZ2 := Lib.hid (HZ1.out.later hb2)
    have HB2 := Lib.hid (HB1.out.trans (hb2.mono HB1.out.size))
    clear hb2
    clear c0 c1 c2 c3 c4 c5 c6 c7
    clear m0 m1 m2 m3 m4 m5 m6 m7 m8 m9 m10
    clear z0 z1 z2 z3 z4 z5 z6 z7 f0 f1 f2 f3 f4 f5 f6 f7
    obtain ⟨z0, z1, z2, z3, z4, z5, z6, z7⟩ := HZ2.out.all
    obtain ⟨f0, f1, f2, f3, f4, f5, f6, f7⟩ := HZ2.out.allF
    go_wp2
    exact take_end (W := w2) (q := r.1) (b := r.2) HZ2.out HB2.out (Nat.le_add_right _ 2) rfl rfl rfl
  · try simp only [Bool.true_and] at *
    go_enter Try.func9, Try.ntmps9
    go_upto_region 1 with fail
    rw [← HW0.out]
    go_wp2_with fail
    refine (HF.out _).mono ?_
    rintro e w1 ⟨rfl, hb1⟩
    have HL1 := Lib.hid (HL.out.later hb1)
    have HM1 := Lib.hid (HM.out.later hb1)
    have HZ1 := Lib.hid (HZ.out.later hb1)
    have HB1 := Lib.hid (HB.out.trans (hb1.mono HB.out.size))
    clear hb1 HL HM HZ HB HW0
    clear c0 c1 c2 c3 c4 c5 c6 c7
    clear m0 m1 m2 m3 m4 m5 m6 m7 m8 m9 m10
    obtain ⟨c0, c1, c2, c3, c4, c5, c6, c7⟩ := HL1.out.all
    obtain ⟨m0, m1, m2, m3, m4, m5, m6, m7, m8, m9, m10⟩ := HM1.out.all
    obtain ⟨z0, z1, z2, z3, z4, z5, z6, z7⟩ := HZ1.out.all
    obtain ⟨f0, f1, f2, f3, f4, f5, f6, f7⟩ := HZ1.out.allF
    go_wp2_with fail
    refine (HP.out _).mono ?_
    rintro e w' ⟨rfl, rfl⟩
    go_wp2_with fail
    refine (HC.out _).mono ?_
    rintro e w' ⟨rfl, rfl⟩
    go_wp2_with fail
    refine (HX.out _).mono ?_
    rintro e w2 ⟨rfl, hb2⟩
    have HZ2 := Lib.hid (HZ1.out.later hb2)
    have HB2 := Lib.hid (HB1.out.trans (hb2.mono HB1.out.size))
    clear hb2
    clear c0 c1 c2 c3 c4 c5 c6 c7
    clear m0 m1 m2 m3 m4 m5 m6 m7 m8 m9 m10
    clear z0 z1 z2 z3 z4 z5 z6 z7 f0 f1 f2 f3 f4 f5 f6 f7
    obtain ⟨z0, z1, z2, z3, z4, z5, z6, z7⟩ := HZ2.out.all
    obtain ⟨f0, f1, f2, f3, f4, f5, f6, f7⟩ := HZ2.out.allF
    go_wp2
    exact take_end (W := w2) (q := r.1) (b := r.2) HZ2.out HB2.out (Nat.le_add_right _ 2) rfl rfl rfl

set_option maxRecDepth 100000 in
set_option maxHeartbeats 2000000 in
theorem take_exp (l : LV) (m : MsgV) (s now g : Int) (w : World) (hf : Fits l m) (hb : m.bind = 3) : Calls Try.prog 9 #[l.v, m.v, .int .i64 s, .int .i64 now, .int .i64 g] w (GivesLB w (endV l m (pastV now l.unt 0))) := by
  have HF := Lib.hid (fun V => fits_any l m V)
  have HP := Lib.hid (fun V => past_any now l.unt 0 V)
  have HC := Lib.hid (fun V => rec_any s V)
  rw [decide_eq_true hf] at HF
  clear hf
  have HX := Lib.hid (fun V => ended_any l m (pastV now l.unt 0) V)
  generalize hr : endV l m (pastV now l.unt 0) = r at *
  clear hr
  generalize pastV now l.unt 0 = ov at *
  generalize recB s = rc at *
  have b2 : (m.bind == 2) = false := by rw [hb]; rfl
  have b3 : (m.bind == 3) = true := by rw [hb]; rfl
  clear hb
  obtain ⟨w0, hw0, hl, hm, hz, hb⟩ := lay3_facts w l m
  have HL := Lib.hid hl
  have HM := Lib.hid hm
  have HZ := Lib.hid hz
  have HB := Lib.hid hb
  have HW0 := Lib.hid hw0
  clear hl hm hz hb hw0
  obtain ⟨c0, c1, c2, c3, c4, c5, c6, c7⟩ := HL.out.all
  obtain ⟨m0, m1, m2, m3, m4, m5, m6, m7, m8, m9, m10⟩ := HM.out.all
  cases ov
  · try simp only [Bool.false_and] at *
    go_enter Try.func9, Try.ntmps9
    go_upto_region 1 with fail
    rw [← HW0.out]
    go_wp2_with fail
    refine (HF.out _).mono ?_
    rintro e w1 ⟨rfl, hb1⟩
    have HL1 := Lib.hid (HL.out.later hb1)
    have HM1 := Lib.hid (HM.out.later hb1)
    have HZ1 := Lib.hid (HZ.out.later hb1)
    have HB1 := Lib.hid (HB.out.trans (hb1.mono HB.out.size))
    clear hb1 HL HM HZ HB HW0
    clear c0 c1 c2 c3 c4 c5 c6 c7
    clear m0 m1 m2 m3 m4 m5 m6 m7 m8 m9 m10
    obtain ⟨c0, c1, c2, c3, c4, c5, c6, c7⟩ := HL1.out.all
    obtain ⟨m0, m1, m2, m3, m4, m5, m6, m7, m8, m9, m10⟩ := HM1.out.all
    obtain ⟨z0, z1, z2, z3, z4, z5, z6, z7⟩ := HZ1.out.all
    obtain ⟨f0, f1, f2, f3, f4, f5, f6, f7⟩ := HZ1.out.allF
    go_wp2_with fail
    refine (HP.out _).mono ?_
    rintro e w' ⟨rfl, rfl⟩
    go_wp2_with fail
    refine (HX.out _).mono ?_
    rintro e w2 ⟨rfl, hb2⟩
    have HZ2 := Lib.hid (HZ1.out.later hb2)
    have HB2 := Lib.hid (HB1.out.trans (hb2.mono HB1.out.size))
    clear hb2
    clear c0 c1 c2 c3 c4 c5 c6 c7
    clear m0 m1 m2 m3 m4 m5 m6 m7 m8 m9 m10
    clear z0 z1 z2 z3 z4 z5 z6 z7 f0 f1 f2 f3 f4 f5 f6 f7
    obtain ⟨z0, z1, z2, z3, z4, z5, z6, z7⟩ := HZ2.out.all
    obtain ⟨f0, f1, f2, f3, f4, f5, f6, f7⟩ := HZ2.out.allF
    go_wp2
    exact take_end (W := w2) (q := r.1) (b := r.2) HZ2.out HB2.out (Nat.le_add_right _ 2) rfl rfl rfl
  · try simp only [Bool.true_and] at *
    go_enter Try.func9, Try.ntmps9
    go_upto_region 1 with fail
    rw [← HW0.out]
    go_wp2_with fail
    refine (HF.out _).mono ?_
    rintro e w1 ⟨rfl, hb1⟩
    have HL1 := Lib.hid (HL.out.later hb1)
    have HM1 := Lib.hid (HM.out.later hb1)
    have HZ1 := Lib.hid (HZ.out.later hb1)
    have HB1 := Lib.hid (HB.out.trans (hb1.mono HB.out.size))
    clear hb1 HL HM HZ HB HW0
    clear c0 c1 c2 c3 c4 c5 c6 c7
    clear m0 m1 m2 m3 m4 m5 m6 m7 m8 m9 m10
    obtain ⟨c0, c1, c2, c3, c4, c5, c6, c7⟩ := HL1.out.all
    obtain ⟨m0, m1, m2, m3, m4, m5, m6, m7, m8, m9, m10⟩ := HM1.out.all
    obtain ⟨z0, z1, z2, z3, z4, z5, z6, z7⟩ := HZ1.out.all
    obtain ⟨f0, f1, f2, f3, f4, f5, f6, f7⟩ := HZ1.out.allF
    go_wp2_with fail
    refine (HP.out _).mono ?_
    rintro e w' ⟨rfl, rfl⟩
    go_wp2_with fail
    refine (HC.out _).mono ?_
    rintro e w' ⟨rfl, rfl⟩
    go_wp2_with fail
    refine (HX.out _).mono ?_
    rintro e w2 ⟨rfl, hb2⟩
    have HZ2 := Lib.hid (HZ1.out.later hb2)
    have HB2 := Lib.hid (HB1.out.trans (hb2.mono HB1.out.size))
    clear hb2
    clear c0 c1 c2 c3 c4 c5 c6 c7
    clear m0 m1 m2 m3 m4 m5 m6 m7 m8 m9 m10
    clear z0 z1 z2 z3 z4 z5 z6 z7 f0 f1 f2 f3 f4 f5 f6 f7
    obtain ⟨z0, z1, z2, z3, z4, z5, z6, z7⟩ := HZ2.out.all
    obtain ⟨f0, f1, f2, f3, f4, f5, f6, f7⟩ := HZ2.out.allF
    go_wp2
    exact take_end (W := w2) (q := r.1) (b := r.2) HZ2.out HB2.out (Nat.le_add_right _ 2) rfl rfl rfl

set_option maxRecDepth 100000 in
set_option maxHeartbeats 2000000 in
theorem take_aba (l : LV) (m : MsgV) (s now g : Int) (w : World) (hf : Fits l m) (hb : m.bind = 5) : Calls Try.prog 9 #[l.v, m.v, .int .i64 s, .int .i64 now, .int .i64 g] w (GivesLB w (bareL l.addr 5 l.ver, true)) := by
  have HF := Lib.hid (fun V => fits_any l m V)
  have HP := Lib.hid (fun V => past_any now l.unt 0 V)
  have HC := Lib.hid (fun V => rec_any s V)
  rw [decide_eq_true hf] at HF
  clear hf
  have HX := Lib.hid (fun V => bare_any l.addr 5 l.ver V)
  generalize hr : bareL l.addr 5 l.ver = r at *
  clear hr
  generalize pastV now l.unt 0 = ov at *
  generalize recB s = rc at *
  have b2 : (m.bind == 2) = false := by rw [hb]; rfl
  have b3 : (m.bind == 3) = false := by rw [hb]; rfl
  have b4 : (m.bind == 4) = false := by rw [hb]; rfl
  have b0 : (m.bind == 0) = false := by rw [hb]; rfl
  have b1 : (m.bind == 1) = false := by rw [hb]; rfl
  clear hb
  obtain ⟨w0, hw0, hl, hm, hz, hb⟩ := lay3_facts w l m
  have HL := Lib.hid hl
  have HM := Lib.hid hm
  have HZ := Lib.hid hz
  have HB := Lib.hid hb
  have HW0 := Lib.hid hw0
  clear hl hm hz hb hw0
  obtain ⟨c0, c1, c2, c3, c4, c5, c6, c7⟩ := HL.out.all
  obtain ⟨m0, m1, m2, m3, m4, m5, m6, m7, m8, m9, m10⟩ := HM.out.all
  cases ov
  · try simp only [Bool.false_and] at *
    go_enter Try.func9, Try.ntmps9
    go_upto_region 1 with fail
    rw [← HW0.out]
    go_wp2_with fail
    refine (HF.out _).mono ?_
    rintro e w1 ⟨rfl, hb1⟩
    have HL1 := Lib.hid (HL.out.later hb1)
    have HM1 := Lib.hid (HM.out.later hb1)
    have HZ1 := Lib.hid (HZ.out.later hb1)
    have HB1 := Lib.hid (HB.out.trans (hb1.mono HB.out.size))
    clear hb1 HL HM HZ HB HW0
    clear c0 c1 c2 c3 c4 c5 c6 c7
    clear m0 m1 m2 m3 m4 m5 m6 m7 m8 m9 m10
    obtain ⟨c0, c1, c2, c3, c4, c5, c6, c7⟩ := HL1.out.all
    obtain ⟨m0, m1, m2, m3, m4, m5, m6, m7, m8, m9, m10⟩ := HM1.out.all
    obtain ⟨z0, z1, z2, z3, z4, z5, z6, z7⟩ := HZ1.out.all
    obtain ⟨f0, f1, f2, f3, f4, f5, f6, f7⟩ := HZ1.out.allF
    go_wp2_with fail
    refine (HP.out _).mono ?_
    rintro e w' ⟨rfl, rfl⟩
    go_wp2_with fail
    refine (HX.out _).mono ?_
    rintro e w2 ⟨rfl, hb2⟩
    have HZ2 := Lib.hid (HZ1.out.later hb2)
    have HB2 := Lib.hid (HB1.out.trans (hb2.mono HB1.out.size))
    clear hb2
    clear c0 c1 c2 c3 c4 c5 c6 c7
    clear m0 m1 m2 m3 m4 m5 m6 m7 m8 m9 m10
    clear z0 z1 z2 z3 z4 z5 z6 z7 f0 f1 f2 f3 f4 f5 f6 f7
    obtain ⟨z0, z1, z2, z3, z4, z5, z6, z7⟩ := HZ2.out.all
    obtain ⟨f0, f1, f2, f3, f4, f5, f6, f7⟩ := HZ2.out.allF
    go_wp2
    exact take_end (W := w2) (q := r) (b := true) HZ2.out HB2.out (Nat.le_add_right _ 2) rfl rfl rfl
  · try simp only [Bool.true_and] at *
    go_enter Try.func9, Try.ntmps9
    go_upto_region 1 with fail
    rw [← HW0.out]
    go_wp2_with fail
    refine (HF.out _).mono ?_
    rintro e w1 ⟨rfl, hb1⟩
    have HL1 := Lib.hid (HL.out.later hb1)
    have HM1 := Lib.hid (HM.out.later hb1)
    have HZ1 := Lib.hid (HZ.out.later hb1)
    have HB1 := Lib.hid (HB.out.trans (hb1.mono HB.out.size))
    clear hb1 HL HM HZ HB HW0
    clear c0 c1 c2 c3 c4 c5 c6 c7
    clear m0 m1 m2 m3 m4 m5 m6 m7 m8 m9 m10
    obtain ⟨c0, c1, c2, c3, c4, c5, c6, c7⟩ := HL1.out.all
    obtain ⟨m0, m1, m2, m3, m4, m5, m6, m7, m8, m9, m10⟩ := HM1.out.all
    obtain ⟨z0, z1, z2, z3, z4, z5, z6, z7⟩ := HZ1.out.all
    obtain ⟨f0, f1, f2, f3, f4, f5, f6, f7⟩ := HZ1.out.allF
    go_wp2_with fail
    refine (HP.out _).mono ?_
    rintro e w' ⟨rfl, rfl⟩
    go_wp2_with fail
    refine (HC.out _).mono ?_
    rintro e w' ⟨rfl, rfl⟩
    go_wp2_with fail
    refine (HX.out _).mono ?_
    rintro e w2 ⟨rfl, hb2⟩
    have HZ2 := Lib.hid (HZ1.out.later hb2)
    have HB2 := Lib.hid (HB1.out.trans (hb2.mono HB1.out.size))
    clear hb2
    clear c0 c1 c2 c3 c4 c5 c6 c7
    clear m0 m1 m2 m3 m4 m5 m6 m7 m8 m9 m10
    clear z0 z1 z2 z3 z4 z5 z6 z7 f0 f1 f2 f3 f4 f5 f6 f7
    obtain ⟨z0, z1, z2, z3, z4, z5, z6, z7⟩ := HZ2.out.all
    obtain ⟨f0, f1, f2, f3, f4, f5, f6, f7⟩ := HZ2.out.allF
    go_wp2
    exact take_end (W := w2) (q := r) (b := true) HZ2.out HB2.out (Nat.le_add_right _ 2) rfl rfl rfl

set_option maxRecDepth 100000 in
set_option maxHeartbeats 2000000 in
theorem take_fre (l : LV) (m : MsgV) (s now g : Int) (w : World) (hf : Fits l m) (hb : m.bind = 0) : Calls Try.prog 9 #[l.v, m.v, .int .i64 s, .int .i64 now, .int .i64 g] w (GivesLB w (shaV l m (pastV now l.unt 0 && recB s))) := by
  have HF := Lib.hid (fun V => fits_any l m V)
  have HP := Lib.hid (fun V => past_any now l.unt 0 V)
  have HC := Lib.hid (fun V => rec_any s V)
  rw [decide_eq_true hf] at HF
  clear hf
  have HX := Lib.hid (fun V => shar_any l m (pastV now l.unt 0 && recB s) V)
  generalize hr : shaV l m (pastV now l.unt 0 && recB s) = r at *
  clear hr
  generalize pastV now l.unt 0 = ov at *
  generalize recB s = rc at *
  have b2 : (m.bind == 2) = false := by rw [hb]; rfl
  have b3 : (m.bind == 3) = false := by rw [hb]; rfl
  have b4 : (m.bind == 4) = false := by rw [hb]; rfl
  have b0 : (m.bind == 0) = true := by rw [hb]; rfl
  clear hb
  obtain ⟨w0, hw0, hl, hm, hz, hb⟩ := lay3_facts w l m
  have HL := Lib.hid hl
  have HM := Lib.hid hm
  have HZ := Lib.hid hz
  have HB := Lib.hid hb
  have HW0 := Lib.hid hw0
  clear hl hm hz hb hw0
  obtain ⟨c0, c1, c2, c3, c4, c5, c6, c7⟩ := HL.out.all
  obtain ⟨m0, m1, m2, m3, m4, m5, m6, m7, m8, m9, m10⟩ := HM.out.all
  cases ov
  · try simp only [Bool.false_and] at *
    go_enter Try.func9, Try.ntmps9
    go_upto_region 1 with fail
    rw [← HW0.out]
    go_wp2_with fail
    refine (HF.out _).mono ?_
    rintro e w1 ⟨rfl, hb1⟩
    have HL1 := Lib.hid (HL.out.later hb1)
    have HM1 := Lib.hid (HM.out.later hb1)
    have HZ1 := Lib.hid (HZ.out.later hb1)
    have HB1 := Lib.hid (HB.out.trans (hb1.mono HB.out.size))
    clear hb1 HL HM HZ HB HW0
    clear c0 c1 c2 c3 c4 c5 c6 c7
    clear m0 m1 m2 m3 m4 m5 m6 m7 m8 m9 m10
    obtain ⟨c0, c1, c2, c3, c4, c5, c6, c7⟩ := HL1.out.all
    obtain ⟨m0, m1, m2, m3, m4, m5, m6, m7, m8, m9, m10⟩ := HM1.out.all
    obtain ⟨z0, z1, z2, z3, z4, z5, z6, z7⟩ := HZ1.out.all
    obtain ⟨f0, f1, f2, f3, f4, f5, f6, f7⟩ := HZ1.out.allF
    go_wp2_with fail
    refine (HP.out _).mono ?_
    rintro e w' ⟨rfl, rfl⟩
    go_wp2_with fail
    refine (HX.out _).mono ?_
    rintro e w2 ⟨rfl, hb2⟩
    have HZ2 := Lib.hid (HZ1.out.later hb2)
    have HB2 := Lib.hid (HB1.out.trans (hb2.mono HB1.out.size))
    clear hb2
    clear c0 c1 c2 c3 c4 c5 c6 c7
    clear m0 m1 m2 m3 m4 m5 m6 m7 m8 m9 m10
    clear z0 z1 z2 z3 z4 z5 z6 z7 f0 f1 f2 f3 f4 f5 f6 f7
    obtain ⟨z0, z1, z2, z3, z4, z5, z6, z7⟩ := HZ2.out.all
    obtain ⟨f0, f1, f2, f3, f4, f5, f6, f7⟩ := HZ2.out.allF
    go_wp2
    exact take_end (W := w2) (q := r.1) (b := r.2) HZ2.out HB2.out (Nat.le_add_right _ 2) rfl rfl rfl
  · try simp only [Bool.true_and] at *
    go_enter Try.func9, Try.ntmps9
    go_upto_region 1 with fail
    rw [← HW0.out]
    go_wp2_with fail
    refine (HF.out _).mono ?_
    rintro e w1 ⟨rfl, hb1⟩
    have HL1 := Lib.hid (HL.out.later hb1)
    have HM1 := Lib.hid (HM.out.later hb1)
    have HZ1 := Lib.hid (HZ.out.later hb1)
    have HB1 := Lib.hid (HB.out.trans (hb1.mono HB.out.size))
    clear hb1 HL HM HZ HB HW0
    clear c0 c1 c2 c3 c4 c5 c6 c7
    clear m0 m1 m2 m3 m4 m5 m6 m7 m8 m9 m10
    obtain ⟨c0, c1, c2, c3, c4, c5, c6, c7⟩ := HL1.out.all
    obtain ⟨m0, m1, m2, m3, m4, m5, m6, m7, m8, m9, m10⟩ := HM1.out.all
    obtain ⟨z0, z1, z2, z3, z4, z5, z6, z7⟩ := HZ1.out.all
    obtain ⟨f0, f1, f2, f3, f4, f5, f6, f7⟩ := HZ1.out.allF
    go_wp2_with fail
    refine (HP.out _).mono ?_
    rintro e w' ⟨rfl, rfl⟩
    go_wp2_with fail
    refine (HC.out _).mono ?_
    rintro e w' ⟨rfl, rfl⟩
    go_wp2_with fail
    refine (HX.out _).mono ?_
    rintro e w2 ⟨rfl, hb2⟩
    have HZ2 := Lib.hid (HZ1.out.later hb2)
    have HB2 := Lib.hid (HB1.out.trans (hb2.mono HB1.out.size))
    clear hb2
    clear c0 c1 c2 c3 c4 c5 c6 c7
    clear m0 m1 m2 m3 m4 m5 m6 m7 m8 m9 m10
    clear z0 z1 z2 z3 z4 z5 z6 z7 f0 f1 f2 f3 f4 f5 f6 f7
    obtain ⟨z0, z1, z2, z3, z4, z5, z6, z7⟩ := HZ2.out.all
    obtain ⟨f0, f1, f2, f3, f4, f5, f6, f7⟩ := HZ2.out.allF
    go_wp2
    exact take_end (W := w2) (q := r.1) (b := r.2) HZ2.out HB2.out (Nat.le_add_right _ 2) rfl rfl rfl

set_option maxRecDepth 100000 in
set_option maxHeartbeats 2000000 in
theorem take_bak (l : LV) (m : MsgV) (s now g : Int) (w : World) (hf : Fits l m) (hb : m.bind = 1) : Calls Try.prog 9 #[l.v, m.v, .int .i64 s, .int .i64 now, .int .i64 g] w (GivesLB w (shaV l m (pastV now l.unt 0 && recB s))) := by
  have HF := Lib.hid (fun V => fits_any l m V)
  have HP := Lib.hid (fun V => past_any now l.unt 0 V)
  have HC := Lib.hid (fun V => rec_any s V)
  rw [decide_eq_true hf] at HF
  clear hf
  have HX := Lib.hid (fun V => shar_any l m (pastV now l.unt 0 && recB s) V)
  generalize hr : shaV l m (pastV now l.unt 0 && recB s) = r at *
  clear hr
  generalize pastV now l.unt 0 = ov at *
  generalize recB s = rc at *
  have b2 : (m.bind == 2) = false := by rw [hb]; rfl
  have b3 : (m.bind == 3) = false := by rw [hb]; rfl
  have b4 : (m.bind == 4) = false := by rw [hb]; rfl
  have b0 : (m.bind == 0) = false := by rw [hb]; rfl
  have b1 : (m.bind == 1) = true := by rw [hb]; rfl
  clear hb
  obtain ⟨w0, hw0, hl, hm, hz, hb⟩ := lay3_facts w l m
  have HL := Lib.hid hl
  have HM := Lib.hid hm
  have HZ := Lib.hid hz
  have HB := Lib.hid hb
  have HW0 := Lib.hid hw0
  clear hl hm hz hb hw0
  obtain ⟨c0, c1, c2, c3, c4, c5, c6, c7⟩ := HL.out.all
  obtain ⟨m0, m1, m2, m3, m4, m5, m6, m7, m8, m9, m10⟩ := HM.out.all
  cases ov
  · try simp only [Bool.false_and] at *
    go_enter Try.func9, Try.ntmps9
    go_upto_region 1 with fail
    rw [← HW0.out]
    go_wp2_with fail
    refine (HF.out _).mono ?_
    rintro e w1 ⟨rfl, hb1⟩
    have HL1 := Lib.hid (HL.out.later hb1)
    have HM1 := Lib.hid (HM.out.later hb1)
    have HZ1 := Lib.hid (HZ.out.later hb1)
    have HB1 := Lib.hid (HB.out.trans (hb1.mono HB.out.size))
    clear hb1 HL HM HZ HB HW0
    clear c0 c1 c2 c3 c4 c5 c6 c7
    clear m0 m1 m2 m3 m4 m5 m6 m7 m8 m9 m10
    obtain ⟨c0, c1, c2, c3, c4, c5, c6, c7⟩ := HL1.out.all
    obtain ⟨m0, m1, m2, m3, m4, m5, m6, m7, m8, m9, m10⟩ := HM1.out.all
    obtain ⟨z0, z1, z2, z3, z4, z5, z6, z7⟩ := HZ1.out.all
    obtain ⟨f0, f1, f2, f3, f4, f5, f6, f7⟩ := HZ1.out.allF
    go_wp2_with fail
    refine (HP.out _).mono ?_
    rintro e w' ⟨rfl, rfl⟩
    go_wp2_with fail
    refine (HX.out _).mono ?_
    rintro e w2 ⟨rfl, hb2⟩
    have HZ2 := Lib.hid (HZ1.out.later hb2)
    have HB2 := Lib.hid (HB1.out.trans (hb2.mono HB1.out.size))
    clear hb2
    clear c0 c1 c2 c3 c4 c5 c6 c7
    clear m0 m1 m2 m3 m4 m5 m6 m7 m8 m9 m10
    clear z0 z1 z2 z3 z4 z5 z6 z7 f0 f1 f2 f3 f4 f5 f6 f7
    obtain ⟨z0, z1, z2, z3, z4, z5, z6, z7⟩ := HZ2.out.all
    obtain ⟨f0, f1, f2, f3, f4, f5, f6, f7⟩ := HZ2.out.allF
    go_wp2
    exact take_end (W := w2) (q := r.1) (b := r.2) HZ2.out HB2.out (Nat.le_add_right _ 2) rfl rfl rfl
  · try simp only [Bool.true_and] at *
    go_enter Try.func9, Try.ntmps9
    go_upto_region 1 with fail
    rw [← HW0.out]
    go_wp2_with fail
    refine (HF.out _).mono ?_
    rintro e w1 ⟨rfl, hb1⟩
    have HL1 := Lib.hid (HL.out.later hb1)
    have HM1 := Lib.hid (HM.out.later hb1)
    have HZ1 := Lib.hid (HZ.out.later hb1)
    have HB1 := Lib.hid (HB.out.trans (hb1.mono HB.out.size))
    clear hb1 HL HM HZ HB HW0
    clear c0 c1 c2 c3 c4 c5 c6 c7
    clear m0 m1 m2 m3 m4 m5 m6 m7 m8 m9 m10
    obtain ⟨c0, c1, c2, c3, c4, c5, c6, c7⟩ := HL1.out.all
    obtain ⟨m0, m1, m2, m3, m4, m5, m6, m7, m8, m9, m10⟩ := HM1.out.all
    obtain ⟨z0, z1, z2, z3, z4, z5, z6, z7⟩ := HZ1.out.all
    obtain ⟨f0, f1, f2, f3, f4, f5, f6, f7⟩ := HZ1.out.allF
    go_wp2_with fail
    refine (HP.out _).mono ?_
    rintro e w' ⟨rfl, rfl⟩
    go_wp2_with fail
    refine (HC.out _).mono ?_
    rintro e w' ⟨rfl, rfl⟩
    go_wp2_with fail
    refine (HX.out _).mono ?_
    rintro e w2 ⟨rfl, hb2⟩
    have HZ2 := Lib.hid (HZ1.out.later hb2)
    have HB2 := Lib.hid (HB1.out.trans (hb2.mono HB1.out.size))
    clear hb2
    clear c0 c1 c2 c3 c4 c5 c6 c7
    clear m0 m1 m2 m3 m4 m5 m6 m7 m8 m9 m10
    clear z0 z1 z2 z3 z4 z5 z6 z7 f0 f1 f2 f3 f4 f5 f6 f7
    obtain ⟨z0, z1, z2, z3, z4, z5, z6, z7⟩ := HZ2.out.all
    obtain ⟨f0, f1, f2, f3, f4, f5, f6, f7⟩ := HZ2.out.allF
    go_wp2
    exact take_end (W := w2) (q := r.1) (b := r.2) HZ2.out HB2.out (Nat.le_add_right _ 2) rfl rfl rfl
end Go.Proofs.Ytlbgkpkfjaggkaa
