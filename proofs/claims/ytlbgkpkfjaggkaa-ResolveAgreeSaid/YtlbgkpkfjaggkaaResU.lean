/- resolve: the document's Take. -/
import Derived.Test.YtlbgkpkfjaggkaaResA
import Derived.Test.YtlbgkpkfjaggkaaResC
namespace Go.Proofs.Ytlbgkpkfjaggkaa
open Go.RowKit Go.Sort

theorem rec_way (s : Int) : ((s == 6) = true ∧ recB s = true) ∨ ((s == 6) = false ∧ (s == 7) = true ∧ recB s = true) ∨ ((s == 6) = false ∧ (s == 7) = false ∧ (s == 8) = recB s) := by
  unfold recB
  by_cases h6 : s = 6
  · exact .inl ⟨by rw [h6]; rfl, decide_eq_true (.inl h6)⟩
  by_cases h7 : s = 7
  · exact .inr (.inl ⟨by simpa using h6, by rw [h7]; rfl, decide_eq_true (.inr (.inl h7))⟩)
  · refine .inr (.inr ⟨by simpa using h6, by simpa using h7, ?_⟩)
    rw [Bool.eq_iff_iff]
    simp [h6, h7]

set_option maxRecDepth 100000 in
set_option maxHeartbeats 2000000 in
theorem rtake_unfit (l : LV) (m : MsgV) (s now g : Int) (w : World) (hf : ¬ Fits l m) : Calls Try.prog 10 #[l.v, m.v, .int .i64 s, .int .i64 now, .int .i64 g] w (GivesLB w (l, false)) := by
  have HF := Lib.hid (fun V => fair_any l m V)
  rw [decide_eq_false hf] at HF
  clear hf
  obtain ⟨w0, hw0, hl, hm, hz, hb⟩ := lay3_facts w l m
  have HL := Lib.hid hl
  have HM := Lib.hid hm
  have HZ := Lib.hid hz
  have HB := Lib.hid hb
  have HW0 := Lib.hid hw0
  clear hl hm hz hb hw0
  obtain ⟨c0, c1, c2, c3, c4, c5, c6, c7⟩ := HL.out.all
  obtain ⟨m0, m1, m2, m3, m4, m5, m6, m7, m8, m9, m10⟩ := HM.out.all
  go_enter Try.func10, Try.ntmps10
  go_upto_region 1 with fail
  rw [← HW0.out]
  go_wp2_with fail
  refine (HF.out _).mono ?_
  rintro e w1 ⟨rfl, hb1⟩
  have HL1 := Lib.hid (HL.out.later hb1)
  have HM1 := Lib.hid (HM.out.later hb1)
  have HZ1 := Lib.hid (HZ.out.later hb1)
  have HB1 := Lib.hid (HB.out.trans (hb1.mono HB.out.size))
  clear hb1 HL HM HZ HB HW0
  clear c0 c1 c2 c3 c4 c5 c6 c7
  clear m0 m1 m2 m3 m4 m5 m6 m7 m8 m9 m10
  obtain ⟨c0, c1, c2, c3, c4, c5, c6, c7⟩ := HL1.out.all
  obtain ⟨m0, m1, m2, m3, m4, m5, m6, m7, m8, m9, m10⟩ := HM1.out.all
  obtain ⟨z0, z1, z2, z3, z4, z5, z6, z7⟩ := HZ1.out.all
  obtain ⟨f0, f1, f2, f3, f4, f5, f6, f7⟩ := HZ1.out.allF
  go_wp2
  exact rtake_end (W := w1) (q := l) HZ1.out HB1.out (Nat.le_add_right _ 2) rfl rfl rfl

set_option maxRecDepth 100000 in
set_option maxHeartbeats 2000000 in
theorem rtake_act (l : LV) (m : MsgV) (s now g : Int) (w : World) (hf : Fits l m) (hb : m.bind = 2) : Calls Try.prog 10 #[l.v, m.v, .int .i64 s, .int .i64 now, .int .i64 g] w (GivesLB w (actV l m (pastV now l.unt 0 && recB s))) := by
  have HF := Lib.hid (fun V => fair_any l m V)
  have HP := Lib.hid (fun V => rpast_any now l.unt 0 V)
  rw [decide_eq_true hf] at HF
  clear hf
  have hrec := rec_way s
  obtain ⟨y, hy⟩ : ∃ y, y = (pastV now l.unt 0 && recB s) := ⟨_, rfl⟩
  have HY := Lib.hid hy
  rw [← hy]
  have HX := Lib.hid (fun V => acti_any l m y V)
  generalize hr : actV l m y = r at *
  clear hr
  clear hy
  generalize pastV now l.unt 0 = ov at *
  generalize recB s = rc at *
  have b2 : (m.bind == 2) = true := by rw [hb]; rfl
  clear hb
  obtain ⟨w0, hw0, hl, hm, hz, hb⟩ := lay3_facts w l m
  have HL := Lib.hid hl
  have HM := Lib.hid hm
  have HZ := Lib.hid hz
  have HB := Lib.hid hb
  have HW0 := Lib.hid hw0
  clear hl hm hz hb hw0
  obtain ⟨c0, c1, c2, c3, c4, c5, c6, c7⟩ := HL.out.all
  obtain ⟨m0, m1, m2, m3, m4, m5, m6, m7, m8, m9, m10⟩ := HM.out.all
  go_enter Try.func10, Try.ntmps10
  go_upto_region 1 with fail
  rw [← HW0.out]
  go_wp2_with fail
  refine (HF.out _).mono ?_
  rintro e w1 ⟨rfl, hb1⟩
  have HL1 := Lib.hid (HL.out.later hb1)
  have HM1 := Lib.hid (HM.out.later hb1)
  have HZ1 := Lib.hid (HZ.out.later hb1)
  have HB1 := Lib.hid (HB.out.trans (hb1.mono HB.out.size))
  clear hb1 HL HM HZ HB HW0
  clear c0 c1 c2 c3 c4 c5 c6 c7
  clear m0 m1 m2 m3 m4 m5 m6 m7 m8 m9 m10
  obtain ⟨c0, c1, c2, c3, c4, c5, c6, c7⟩ := HL1.out.all
  obtain ⟨m0, m1, m2, m3, m4, m5, m6, m7, m8, m9, m10⟩ := HM1.out.all
  obtain ⟨z0, z1, z2, z3, z4, z5, z6, z7⟩ := HZ1.out.all
  obtain ⟨f0, f1, f2, f3, f4, f5, f6, f7⟩ := HZ1.out.allF
  go_wp2_with fail
  refine (HP.out _).mono ?_
  rintro e w' ⟨rfl, rfl⟩
  go_upto_region 5 with fail
  go_cut [14] (fun s14 wx => s14 = .bool y ∧ wx = w1)
  case first =>
    cases ov
    · go_wp2_with fail
      go_meet
      rw [HY.out]
      exact ⟨rfl, rfl⟩
    · rcases hrec with ⟨s6, HRC⟩ | ⟨s6, s7, HRC⟩ | ⟨s6, s7, s8⟩
      · go_wp2_with fail
        go_meet
        rw [HY.out, HRC]
        exact ⟨rfl, rfl⟩
      · go_wp2_with fail
        go_meet
        rw [HY.out, HRC]
        exact ⟨rfl, rfl⟩
      · go_wp2_with fail
        go_meet
        rw [HY.out]
        exact ⟨rfl, rfl⟩
  case rest =>
    obtain ⟨rfl, hw⟩ := hcut
    rw [hw]
    clear hw hrec
    go_wp2_with fail
    refine (HX.out _).mono ?_
    rintro e w2 ⟨rfl, hb2⟩
    have HZ2 := Lib.hid (HZ1.out.later hb2)
    have HB2 := Lib.hid (HB1.out.trans (hb2.mono HB1.out.size))
    clear hb2
    clear c0 c1 c2 c3 c4 c5 c6 c7
    clear m0 m1 m2 m3 m4 m5 m6 m7 m8 m9 m10
    clear z0 z1 z2 z3 z4 z5 z6 z7 f0 f1 f2 f3 f4 f5 f6 f7
    obtain ⟨z0, z1, z2, z3, z4, z5, z6, z7⟩ := HZ2.out.all
    obtain ⟨f0, f1, f2, f3, f4, f5, f6, f7⟩ := HZ2.out.allF
    go_wp2
    exact rtake_end (W := w2) (q := r.1) (b := r.2) HZ2.out HB2.out (Nat.le_add_right _ 2) rfl rfl rfl

set_option maxRecDepth 100000 in
set_option maxHeartbeats 2000000 in
theorem rtake_aba (l : LV) (m : MsgV) (s now g : Int) (w : World) (hf : Fits l m) (hb : m.bind = 5) : Calls Try.prog 10 #[l.v, m.v, .int .i64 s, .int .i64 now, .int .i64 g] w (GivesLB w (bareL l.addr 5 l.ver, true)) := by
  have HF := Lib.hid (fun V => fair_any l m V)
  have HP := Lib.hid (fun V => rpast_any now l.unt 0 V)
  rw [decide_eq_true hf] at HF
  clear hf
  have hrec := rec_way s
  obtain ⟨y, hy⟩ : ∃ y, y = (pastV now l.unt 0 && recB s) := ⟨_, rfl⟩
  have HY := Lib.hid hy
  have HX := Lib.hid (fun V => rbare_any l.addr 5 l.ver V)
  generalize hr : bareL l.addr 5 l.ver = r at *
  clear hr
  clear hy
  generalize pastV now l.unt 0 = ov at *
  generalize recB s = rc at *
  have b2 : (m.bind == 2) = false := by rw [hb]; rfl
  have b3 : (m.bind == 3) = false := by rw [hb]; rfl
  have b4 : (m.bind == 4) = false := by rw [hb]; rfl
  have b5 : (m.bind == 5) = true := by rw [hb]; rfl
  clear hb
  obtain ⟨w0, hw0, hl, hm, hz, hb⟩ := lay3_facts w l m
  have HL := Lib.hid hl
  have HM := Lib.hid hm
  have HZ := Lib.hid hz
  have HB := Lib.hid hb
  have HW0 := Lib.hid hw0
  clear hl hm hz hb hw0
  obtain ⟨c0, c1, c2, c3, c4, c5, c6, c7⟩ := HL.out.all
  obtain ⟨m0, m1, m2, m3, m4, m5, m6, m7, m8, m9, m10⟩ := HM.out.all
  go_enter Try.func10, Try.ntmps10
  go_upto_region 1 with fail
  rw [← HW0.out]
  go_wp2_with fail
  refine (HF.out _).mono ?_
  rintro e w1 ⟨rfl, hb1⟩
  have HL1 := Lib.hid (HL.out.later hb1)
  have HM1 := Lib.hid (HM.out.later hb1)
  have HZ1 := Lib.hid (HZ.out.later hb1)
  have HB1 := Lib.hid (HB.out.trans (hb1.mono HB.out.size))
  clear hb1 HL HM HZ HB HW0
  clear c0 c1 c2 c3 c4 c5 c6 c7
  clear m0 m1 m2 m3 m4 m5 m6 m7 m8 m9 m10
  obtain ⟨c0, c1, c2, c3, c4, c5, c6, c7⟩ := HL1.out.all
  obtain ⟨m0, m1, m2, m3, m4, m5, m6, m7, m8, m9, m10⟩ := HM1.out.all
  obtain ⟨z0, z1, z2, z3, z4, z5, z6, z7⟩ := HZ1.out.all
  obtain ⟨f0, f1, f2, f3, f4, f5, f6, f7⟩ := HZ1.out.allF
  go_wp2_with fail
  refine (HP.out _).mono ?_
  rintro e w' ⟨rfl, rfl⟩
  go_upto_region 5 with fail
  go_cut [14] (fun s14 wx => s14 = .bool y ∧ wx = w1)
  case first =>
    cases ov
    · go_wp2_with fail
      go_meet
      rw [HY.out]
      exact ⟨rfl, rfl⟩
    · rcases hrec with ⟨s6, HRC⟩ | ⟨s6, s7, HRC⟩ | ⟨s6, s7, s8⟩
      · go_wp2_with fail
        go_meet
        rw [HY.out, HRC]
        exact ⟨rfl, rfl⟩
      · go_wp2_with fail
        go_meet
        rw [HY.out, HRC]
        exact ⟨rfl, rfl⟩
      · go_wp2_with fail
        go_meet
        rw [HY.out]
        exact ⟨rfl, rfl⟩
  case rest =>
    obtain ⟨rfl, hw⟩ := hcut
    rw [hw]
    clear hw hrec
    go_wp2_with fail
    refine (HX.out _).mono ?_
    rintro e w2 ⟨rfl, hb2⟩
    have HZ2 := Lib.hid (HZ1.out.later hb2)
    have HB2 := Lib.hid (HB1.out.trans (hb2.mono HB1.out.size))
    clear hb2
    clear c0 c1 c2 c3 c4 c5 c6 c7
    clear m0 m1 m2 m3 m4 m5 m6 m7 m8 m9 m10
    clear z0 z1 z2 z3 z4 z5 z6 z7 f0 f1 f2 f3 f4 f5 f6 f7
    obtain ⟨z0, z1, z2, z3, z4, z5, z6, z7⟩ := HZ2.out.all
    obtain ⟨f0, f1, f2, f3, f4, f5, f6, f7⟩ := HZ2.out.allF
    go_wp2
    exact rtake_end (W := w2) (q := r) (b := true) HZ2.out HB2.out (Nat.le_add_right _ 2) rfl rfl rfl

set_option maxRecDepth 100000 in
set_option maxHeartbeats 2000000 in
theorem rtake_sha (l : LV) (m : MsgV) (s now g : Int) (w : World) (hf : Fits l m) (hb : m.bind = 0 ∨ m.bind = 1) : Calls Try.prog 10 #[l.v, m.v, .int .i64 s, .int .i64 now, .int .i64 g] w (GivesLB w (shaV l m (pastV now l.unt 0 && recB s))) := by
  have HF := Lib.hid (fun V => fair_any l m V)
  have HP := Lib.hid (fun V => rpast_any now l.unt 0 V)
  rw [decide_eq_true hf] at HF
  clear hf
  have hrec := rec_way s
  obtain ⟨y, hy⟩ : ∃ y, y = (pastV now l.unt 0 && recB s) := ⟨_, rfl⟩
  have HY := Lib.hid hy
  rw [← hy]
  clear hy
  generalize pastV now l.unt 0 = ov at *
  generalize recB s = rc at *
  have b2 : (m.bind == 2) = false := by simp; omega
  have b3 : (m.bind == 3) = false := by simp; omega
  have b4 : (m.bind == 4) = false := by simp; omega
  have b5 : (m.bind == 5) = false := by simp; omega
  clear hb
  obtain ⟨w0, hw0, hl, hm, hz, hb⟩ := lay3_facts w l m
  have HL := Lib.hid hl
  have HM := Lib.hid hm
  have HZ := Lib.hid hz
  have HB := Lib.hid hb
  have HW0 := Lib.hid hw0
  clear hl hm hz hb hw0
  obtain ⟨c0, c1, c2, c3, c4, c5, c6, c7⟩ := HL.out.all
  obtain ⟨m0, m1, m2, m3, m4, m5, m6, m7, m8, m9, m10⟩ := HM.out.all
  go_enter Try.func10, Try.ntmps10
  go_upto_region 1 with fail
  rw [← HW0.out]
  go_wp2_with fail
  refine (HF.out _).mono ?_
  rintro e w1 ⟨rfl, hb1⟩
  have HL1 := Lib.hid (HL.out.later hb1)
  have HM1 := Lib.hid (HM.out.later hb1)
  have HZ1 := Lib.hid (HZ.out.later hb1)
  have HB1 := Lib.hid (HB.out.trans (hb1.mono HB.out.size))
  clear hb1 HL HM HZ HB HW0
  clear c0 c1 c2 c3 c4 c5 c6 c7
  clear m0 m1 m2 m3 m4 m5 m6 m7 m8 m9 m10
  obtain ⟨c0, c1, c2, c3, c4, c5, c6, c7⟩ := HL1.out.all
  obtain ⟨m0, m1, m2, m3, m4, m5, m6, m7, m8, m9, m10⟩ := HM1.out.all
  obtain ⟨z0, z1, z2, z3, z4, z5, z6, z7⟩ := HZ1.out.all
  obtain ⟨f0, f1, f2, f3, f4, f5, f6, f7⟩ := HZ1.out.allF
  go_wp2_with fail
  refine (HP.out _).mono ?_
  rintro e w' ⟨rfl, rfl⟩
  go_upto_region 5 with fail
  go_cut [14] (fun s14 wx => s14 = .bool y ∧ wx = w1)
  case first =>
    cases ov
    · go_wp2_with fail
      go_meet
      rw [HY.out]
      exact ⟨rfl, rfl⟩
    · rcases hrec with ⟨s6, HRC⟩ | ⟨s6, s7, HRC⟩ | ⟨s6, s7, s8⟩
      · go_wp2_with fail
        go_meet
        rw [HY.out, HRC]
        exact ⟨rfl, rfl⟩
      · go_wp2_with fail
        go_meet
        rw [HY.out, HRC]
        exact ⟨rfl, rfl⟩
      · go_wp2_with fail
        go_meet
        rw [HY.out]
        exact ⟨rfl, rfl⟩
  case rest =>
    obtain ⟨rfl, hw⟩ := hcut
    rw [hw]
    clear hw hrec
    rcases sha_cases l m y with ⟨h1, e⟩ | ⟨h1, h2, h3, e⟩ | ⟨h1, h2, e⟩
    · have HE := Lib.hid e
      clear e
      have hway : ((l.bind == 5) = true) ∨ ((l.bind == 5) = false ∧ (l.bind == 2) = true ∧ y = false) := by
        unfold stayB at h1
        rcases of_decide_eq_true h1 with h2 | ⟨h2, h3⟩
        · exact .inl (by rw [h2]; rfl)
        · exact .inr ⟨by rw [h2]; rfl, by rw [h2]; rfl, h3⟩
      clear h1
      rcases hway with t1 | ⟨t1, t2, rfl⟩
      · go_wp2
        exact rtake_end (W := w1) (q := l) HZ1.out HB1.out (Nat.le_add_right _ 2) HE.out rfl rfl
      · go_wp2
        exact rtake_end (W := w1) (q := l) HZ1.out HB1.out (Nat.le_add_right _ 2) HE.out rfl rfl
    · have HE := Lib.hid e
      clear e
      have hway : ((l.bind == 5) = false ∧ (l.bind == 2) = false) ∨ ((l.bind == 5) = false ∧ (l.bind == 2) = true ∧ y = true) := by
        have h4 := stay_no h1
        by_cases hb : l.bind = 2
        · exact .inr ⟨by rw [hb]; rfl, by rw [hb]; rfl, h4.2 hb⟩
        · exact .inl ⟨by simpa using h4.1, by simpa using hb⟩
      clear h1
      have HBA := Lib.hid (fun V => rbare_any l.addr m.bind m.at_ V)
      generalize bareL l.addr m.bind m.at_ = q at *
      have d1 : decide (l.ver < m.at_) = true := decide_eq_true h2
      have d2 : decide (m.at_ ≤ 1099511627776) = true := decide_eq_true h3
      clear h2 h3
      rcases hway with ⟨t1, t2⟩ | ⟨t1, t2, rfl⟩
      · go_wp2_with fail
        refine (HBA.out _).mono ?_
        rintro e w2 ⟨rfl, hb2⟩
        have HZ2 := Lib.hid (HZ1.out.later hb2)
        have HB2 := Lib.hid (HB1.out.trans (hb2.mono HB1.out.size))
        clear hb2
        clear c0 c1 c2 c3 c4 c5 c6 c7
        clear m0 m1 m2 m3 m4 m5 m6 m7 m8 m9 m10
        clear z0 z1 z2 z3 z4 z5 z6 z7 f0 f1 f2 f3 f4 f5 f6 f7
        obtain ⟨z0, z1, z2, z3, z4, z5, z6, z7⟩ := HZ2.out.all
        obtain ⟨f0, f1, f2, f3, f4, f5, f6, f7⟩ := HZ2.out.allF
        go_wp2
        exact rtake_end (W := w2) (q := q) (b := true) HZ2.out HB2.out (Nat.le_add_right _ 2) HE.out rfl rfl
      · go_wp2_with fail
        refine (HBA.out _).mono ?_
        rintro e w2 ⟨rfl, hb2⟩
        have HZ2 := Lib.hid (HZ1.out.later hb2)
        have HB2 := Lib.hid (HB1.out.trans (hb2.mono HB1.out.size))
        clear hb2
        clear c0 c1 c2 c3 c4 c5 c6 c7
        clear m0 m1 m2 m3 m4 m5 m6 m7 m8 m9 m10
        clear z0 z1 z2 z3 z4 z5 z6 z7 f0 f1 f2 f3 f4 f5 f6 f7
        obtain ⟨z0, z1, z2, z3, z4, z5, z6, z7⟩ := HZ2.out.all
        obtain ⟨f0, f1, f2, f3, f4, f5, f6, f7⟩ := HZ2.out.allF
        go_wp2
        exact rtake_end (W := w2) (q := q) (b := true) HZ2.out HB2.out (Nat.le_add_right _ 2) HE.out rfl rfl
    · have HE := Lib.hid e
      clear e
      have hway : ((l.bind == 5) = false ∧ (l.bind == 2) = false) ∨ ((l.bind == 5) = false ∧ (l.bind == 2) = true ∧ y = true) := by
        have h4 := stay_no h1
        by_cases hb : l.bind = 2
        · exact .inr ⟨by rw [hb]; rfl, by rw [hb]; rfl, h4.2 hb⟩
        · exact .inl ⟨by simpa using h4.1, by simpa using hb⟩
      clear h1
      obtain ⟨b, hb⟩ : ∃ b, b = decide (l.bind ≠ 2) := ⟨_, rfl⟩
      rw [← hb] at HE
      have hway2 : (decide (l.ver < m.at_) = false) ∨ (decide (l.ver < m.at_) = true ∧ decide (m.at_ ≤ 1099511627776) = false) := by
        by_cases h : l.ver < m.at_
        · exact .inr ⟨decide_eq_true h, decide_eq_false fun h' => h2 ⟨h, h'⟩⟩
        · exact .inl (decide_eq_false h)
      clear h2
      have t3 : (l.bind != 2) = b := by rw [hb]; rw [Bool.eq_iff_iff]; simp
      clear hb
      rcases hway with ⟨t1, t2⟩ | ⟨t1, t2, rfl⟩
      · rcases hway2 with d1 | ⟨d1, d2⟩
        · go_upto_region 12 with fail
          go_region
          go_wp2
          exact rtake_endD (W := w1) (q := l) HZ1.out HB1.out (Nat.le_add_right _ 2) HE.out rfl rfl
        · go_upto_region 12 with fail
          go_region
          go_wp2
          exact rtake_endD (W := w1) (q := l) HZ1.out HB1.out (Nat.le_add_right _ 2) HE.out rfl rfl
      · rcases hway2 with d1 | ⟨d1, d2⟩
        · go_upto_region 12 with fail
          go_region
          go_wp2
          exact rtake_endD (W := w1) (q := l) HZ1.out HB1.out (Nat.le_add_right _ 2) HE.out rfl rfl
        · go_upto_region 12 with fail
          go_region
          go_wp2
          exact rtake_endD (W := w1) (q := l) HZ1.out HB1.out (Nat.le_add_right _ 2) HE.out rfl rfl

set_option maxRecDepth 100000 in
set_option maxHeartbeats 2000000 in
theorem rtake_exp (l : LV) (m : MsgV) (s now g : Int) (w : World) (hf : Fits l m) (hb : m.bind = 3) : Calls Try.prog 10 #[l.v, m.v, .int .i64 s, .int .i64 now, .int .i64 g] w (GivesLB w (endV l m (pastV now l.unt 0))) := by
  have HF := Lib.hid (fun V => fair_any l m V)
  have HP := Lib.hid (fun V => rpast_any now l.unt 0 V)
  rw [decide_eq_true hf] at HF
  clear hf
  have hrec := rec_way s
  obtain ⟨y, hy⟩ : ∃ y, y = (pastV now l.unt 0 && recB s) := ⟨_, rfl⟩
  have HY := Lib.hid hy
  generalize hx : pastV now l.unt 0 = x at *
  clear hx
  clear hy
  generalize recB s = rc at *
  have HBK := Lib.hid hb
  have b2 : (m.bind == 2) = false := by rw [hb]; rfl
  have b3 : (m.bind == 3) = true := by rw [hb]; rfl
  clear hb
  obtain ⟨w0, hw0, hl, hm, hz, hb⟩ := lay3_facts w l m
  have HL := Lib.hid hl
  have HM := Lib.hid hm
  have HZ := Lib.hid hz
  have HB := Lib.hid hb
  have HW0 := Lib.hid hw0
  clear hl hm hz hb hw0
  obtain ⟨c0, c1, c2, c3, c4, c5, c6, c7⟩ := HL.out.all
  obtain ⟨m0, m1, m2, m3, m4, m5, m6, m7, m8, m9, m10⟩ := HM.out.all
  go_enter Try.func10, Try.ntmps10
  go_upto_region 1 with fail
  rw [← HW0.out]
  go_wp2_with fail
  refine (HF.out _).mono ?_
  rintro e w1 ⟨rfl, hb1⟩
  have HL1 := Lib.hid (HL.out.later hb1)
  have HM1 := Lib.hid (HM.out.later hb1)
  have HZ1 := Lib.hid (HZ.out.later hb1)
  have HB1 := Lib.hid (HB.out.trans (hb1.mono HB.out.size))
  clear hb1 HL HM HZ HB HW0
  clear c0 c1 c2 c3 c4 c5 c6 c7
  clear m0 m1 m2 m3 m4 m5 m6 m7 m8 m9 m10
  obtain ⟨c0, c1, c2, c3, c4, c5, c6, c7⟩ := HL1.out.all
  obtain ⟨m0, m1, m2, m3, m4, m5, m6, m7, m8, m9, m10⟩ := HM1.out.all
  obtain ⟨z0, z1, z2, z3, z4, z5, z6, z7⟩ := HZ1.out.all
  obtain ⟨f0, f1, f2, f3, f4, f5, f6, f7⟩ := HZ1.out.allF
  go_wp2_with fail
  refine (HP.out _).mono ?_
  rintro e w' ⟨rfl, rfl⟩
  go_upto_region 5 with fail
  go_cut [14] (fun s14 wx => s14 = .bool y ∧ wx = w1)
  case first =>
    cases x
    · go_wp2_with fail
      go_meet
      rw [HY.out]
      exact ⟨rfl, rfl⟩
    · rcases hrec with ⟨s6, HRC⟩ | ⟨s6, s7, HRC⟩ | ⟨s6, s7, s8⟩
      · go_wp2_with fail
        go_meet
        rw [HY.out, HRC]
        exact ⟨rfl, rfl⟩
      · go_wp2_with fail
        go_meet
        rw [HY.out, HRC]
        exact ⟨rfl, rfl⟩
      · go_wp2_with fail
        go_meet
        rw [HY.out]
        exact ⟨rfl, rfl⟩
  case rest =>
    obtain ⟨rfl, hw⟩ := hcut
    rw [hw]
    clear hw hrec
    rcases end_cases l m x with ⟨h, e⟩ | ⟨h1, h, e⟩ | ⟨h1, h2, h3, e⟩
    · have t1 : (l.bind != 2) = true := by simpa using h
      have HE := Lib.hid e
      clear h e
      go_wp2
      exact rtake_end (W := w1) (q := l) HZ1.out HB1.out (Nat.le_add_right _ 2) HE.out rfl rfl
    · have t1 : (l.bind != 2) = false := by simpa using h1
      have HE := Lib.hid e
      clear h1 e
      by_cases hc : l.cb = m.client
      · have hx : x = false := by
          rcases h with h | h
          · exact absurd hc h
          · exact h
        subst hx
        have t2 := cb_eq hc
        clear h hc
        go_wp2
        exact rtake_end (W := w1) (q := l) HZ1.out HB1.out (Nat.le_add_right _ 2) HE.out rfl rfl
      · have t2 := cb_ne hc
        clear h hc
        go_wp2
        exact rtake_end (W := w1) (q := l) HZ1.out HB1.out (Nat.le_add_right _ 2) HE.out rfl rfl
    · have t1 : (l.bind != 2) = false := by simpa using h1
      obtain ⟨q, hq⟩ : ∃ q : LV, q = { l with bind := 3 } := ⟨_, rfl⟩
      rw [HBK.out, ← hq] at e
      have HE := Lib.hid e
      clear h1 e
      subst h3
      have t2 := cb_eq h2
      clear h2
      have lf1 := HL1.out.free 1
      obtain ⟨w2, hw2⟩ : ∃ w2, w2 = w1.setCell ⟨w.heap.size, 1, none⟩ (.int .i64 3) := ⟨_, rfl⟩
      have HL2 : Hid (LBox w2 w.heap.size q) := Lib.hid (by rw [hw2, hq]; exact HL1.out.store 1 _ rfl)
      have HZ2 : Hid (LBox w2 (w.heap.size + 1 + 1) zeroL) := Lib.hid (by rw [hw2]; exact HZ1.out.other (a := ⟨w.heap.size, 1, none⟩) (by show w.heap.size + 1 + 1 ≠ w.heap.size; omega) _)
      have HB2 : Hid (Below w.heap.size w w2) := Lib.hid (by rw [hw2]; exact HB1.out.setCell (p := ⟨w.heap.size, 1, none⟩) (Nat.le_refl _) _)
      have HW2 := Lib.hid hw2
      clear hw2 hq
      go_upto_region 29 with fail
      rw [← HW2.out]
      clear c0 c1 c2 c3 c4 c5 c6 c7
      clear m0 m1 m2 m3 m4 m5 m6 m7 m8 m9 m10
      clear z0 z1 z2 z3 z4 z5 z6 z7 f0 f1 f2 f3 f4 f5 f6 f7 lf1
      obtain ⟨c0, c1, c2, c3, c4, c5, c6, c7⟩ := HL2.out.all
      obtain ⟨z0, z1, z2, z3, z4, z5, z6, z7⟩ := HZ2.out.all
      obtain ⟨f0, f1, f2, f3, f4, f5, f6, f7⟩ := HZ2.out.allF
      go_wp2
      exact rtake_end (W := w2) (q := q) HZ2.out HB2.out (Nat.le_add_right _ 2) HE.out rfl rfl

set_option maxRecDepth 100000 in
set_option maxHeartbeats 2000000 in
theorem rtake_rel (l : LV) (m : MsgV) (s now g : Int) (w : World) (hf : Fits l m) (hb : m.bind = 4) : Calls Try.prog 10 #[l.v, m.v, .int .i64 s, .int .i64 now, .int .i64 g] w (GivesLB w (endV l m (relB l m g))) := by
  have HF := Lib.hid (fun V => fair_any l m V)
  have HP := Lib.hid (fun V => rpast_any now l.unt 0 V)
  rw [decide_eq_true hf] at HF
  clear hf
  have hrec := rec_way s
  obtain ⟨y, hy⟩ : ∃ y, y = (pastV now l.unt 0 && recB s) := ⟨_, rfl⟩
  have HY := Lib.hid hy
  have HQ := Lib.hid (fun V => rpast_any m.at_ l.at_ g V)
  have HRL : ((l.at_ != 0) = false ∧ relB l m g = true) ∨ ((l.at_ != 0) = true ∧ relB l m g = pastV m.at_ l.at_ g) := by
    unfold relB
    by_cases h : l.at_ = 0
    · exact .inl ⟨by rw [h]; rfl, by rw [decide_eq_true h]; rfl⟩
    · exact .inr ⟨by simpa using h, by rw [decide_eq_false h]; rfl⟩
  generalize relB l m g = x at *
  generalize pastV m.at_ l.at_ g = pg at *
  clear hy
  generalize pastV now l.unt 0 = ov at *
  generalize recB s = rc at *
  have HBK := Lib.hid hb
  have b2 : (m.bind == 2) = false := by rw [hb]; rfl
  have b3 : (m.bind == 3) = false := by rw [hb]; rfl
  have b4 : (m.bind == 4) = true := by rw [hb]; rfl
  clear hb
  obtain ⟨w0, hw0, hl, hm, hz, hb⟩ := lay3_facts w l m
  have HL := Lib.hid hl
  have HM := Lib.hid hm
  have HZ := Lib.hid hz
  have HB := Lib.hid hb
  have HW0 := Lib.hid hw0
  clear hl hm hz hb hw0
  obtain ⟨c0, c1, c2, c3, c4, c5, c6, c7⟩ := HL.out.all
  obtain ⟨m0, m1, m2, m3, m4, m5, m6, m7, m8, m9, m10⟩ := HM.out.all
  go_enter Try.func10, Try.ntmps10
  go_upto_region 1 with fail
  rw [← HW0.out]
  go_wp2_with fail
  refine (HF.out _).mono ?_
  rintro e w1 ⟨rfl, hb1⟩
  have HL1 := Lib.hid (HL.out.later hb1)
  have HM1 := Lib.hid (HM.out.later hb1)
  have HZ1 := Lib.hid (HZ.out.later hb1)
  have HB1 := Lib.hid (HB.out.trans (hb1.mono HB.out.size))
  clear hb1 HL HM HZ HB HW0
  clear c0 c1 c2 c3 c4 c5 c6 c7
  clear m0 m1 m2 m3 m4 m5 m6 m7 m8 m9 m10
  obtain ⟨c0, c1, c2, c3, c4, c5, c6, c7⟩ := HL1.out.all
  obtain ⟨m0, m1, m2, m3, m4, m5, m6, m7, m8, m9, m10⟩ := HM1.out.all
  obtain ⟨z0, z1, z2, z3, z4, z5, z6, z7⟩ := HZ1.out.all
  obtain ⟨f0, f1, f2, f3, f4, f5, f6, f7⟩ := HZ1.out.allF
  go_wp2_with fail
  refine (HP.out _).mono ?_
  rintro e w' ⟨rfl, rfl⟩
  go_upto_region 5 with fail
  go_cut [14] (fun s14 wx => s14 = .bool y ∧ wx = w1)
  case first =>
    cases ov
    · go_wp2_with fail
      go_meet
      rw [HY.out]
      exact ⟨rfl, rfl⟩
    · rcases hrec with ⟨s6, HRC⟩ | ⟨s6, s7, HRC⟩ | ⟨s6, s7, s8⟩
      · go_wp2_with fail
        go_meet
        rw [HY.out, HRC]
        exact ⟨rfl, rfl⟩
      · go_wp2_with fail
        go_meet
        rw [HY.out, HRC]
        exact ⟨rfl, rfl⟩
      · go_wp2_with fail
        go_meet
        rw [HY.out]
        exact ⟨rfl, rfl⟩
  case rest =>
    obtain ⟨rfl, hw⟩ := hcut
    rw [hw]
    clear hw hrec
    rcases end_cases l m x with ⟨h, e⟩ | ⟨h1, h, e⟩ | ⟨h1, h2, h3, e⟩
    · have t1 : (l.bind != 2) = true := by simpa using h
      have HE := Lib.hid e
      clear h e
      go_wp2
      exact rtake_end (W := w1) (q := l) HZ1.out HB1.out (Nat.le_add_right _ 2) HE.out rfl rfl
    · have t1 : (l.bind != 2) = false := by simpa using h1
      have HE := Lib.hid e
      clear h1 e
      by_cases hc : l.cb = m.client
      · have hx : x = false := by
          rcases h with h | h
          · exact absurd hc h
          · exact h
        subst hx
        have t2 := cb_eq hc
        clear h hc
        obtain ⟨ta, hpg⟩ : (l.at_ != 0) = true ∧ pg = false := by
          rcases HRL with ⟨a, b⟩ | ⟨a, b⟩
          · cases b
          · exact ⟨a, b.symm⟩
        subst hpg
        clear HRL
        go_wp2_with fail
        refine (HQ.out _).mono ?_
        rintro e w' ⟨rfl, rfl⟩
        go_wp2
        exact rtake_end (W := w1) (q := l) HZ1.out HB1.out (Nat.le_add_right _ 2) HE.out rfl rfl
      · have t2 := cb_ne hc
        clear h hc
        go_wp2
        exact rtake_end (W := w1) (q := l) HZ1.out HB1.out (Nat.le_add_right _ 2) HE.out rfl rfl
    · have t1 : (l.bind != 2) = false := by simpa using h1
      obtain ⟨q, hq⟩ : ∃ q : LV, q = { l with bind := 4 } := ⟨_, rfl⟩
      rw [HBK.out, ← hq] at e
      have HE := Lib.hid e
      clear h1 e
      subst h3
      have t2 := cb_eq h2
      clear h2
      rcases HRL with ⟨ta, _⟩ | ⟨ta, hpg⟩
      · have lf1 := HL1.out.free 1
        obtain ⟨w2, hw2⟩ : ∃ w2, w2 = w1.setCell ⟨w.heap.size, 1, none⟩ (.int .i64 4) := ⟨_, rfl⟩
        have HL2 : Hid (LBox w2 w.heap.size q) := Lib.hid (by rw [hw2, hq]; exact HL1.out.store 1 _ rfl)
        have HZ2 : Hid (LBox w2 (w.heap.size + 1 + 1) zeroL) := Lib.hid (by rw [hw2]; exact HZ1.out.other (a := ⟨w.heap.size, 1, none⟩) (by show w.heap.size + 1 + 1 ≠ w.heap.size; omega) _)
        have HB2 : Hid (Below w.heap.size w w2) := Lib.hid (by rw [hw2]; exact HB1.out.setCell (p := ⟨w.heap.size, 1, none⟩) (Nat.le_refl _) _)
        have HW2 := Lib.hid hw2
        clear hw2 hq
        go_upto_region 29 with fail
        rw [← HW2.out]
        clear c0 c1 c2 c3 c4 c5 c6 c7
        clear m0 m1 m2 m3 m4 m5 m6 m7 m8 m9 m10
        clear z0 z1 z2 z3 z4 z5 z6 z7 f0 f1 f2 f3 f4 f5 f6 f7 lf1
        obtain ⟨c0, c1, c2, c3, c4, c5, c6, c7⟩ := HL2.out.all
        obtain ⟨z0, z1, z2, z3, z4, z5, z6, z7⟩ := HZ2.out.all
        obtain ⟨f0, f1, f2, f3, f4, f5, f6, f7⟩ := HZ2.out.allF
        go_wp2
        exact rtake_end (W := w2) (q := q) HZ2.out HB2.out (Nat.le_add_right _ 2) HE.out rfl rfl
      · subst hpg
        have lf1 := HL1.out.free 1
        obtain ⟨w2, hw2⟩ : ∃ w2, w2 = w1.setCell ⟨w.heap.size, 1, none⟩ (.int .i64 4) := ⟨_, rfl⟩
        have HL2 : Hid (LBox w2 w.heap.size q) := Lib.hid (by rw [hw2, hq]; exact HL1.out.store 1 _ rfl)
        have HZ2 : Hid (LBox w2 (w.heap.size + 1 + 1) zeroL) := Lib.hid (by rw [hw2]; exact HZ1.out.other (a := ⟨w.heap.size, 1, none⟩) (by show w.heap.size + 1 + 1 ≠ w.heap.size; omega) _)
        have HB2 : Hid (Below w.heap.size w w2) := Lib.hid (by rw [hw2]; exact HB1.out.setCell (p := ⟨w.heap.size, 1, none⟩) (Nat.le_refl _) _)
        have HW2 := Lib.hid hw2
        clear hw2 hq
        go_wp2_with fail
        refine (HQ.out _).mono ?_
        rintro e w' ⟨rfl, rfl⟩
        go_upto_region 29 with fail
        rw [← HW2.out]
        clear c0 c1 c2 c3 c4 c5 c6 c7
        clear m0 m1 m2 m3 m4 m5 m6 m7 m8 m9 m10
        clear z0 z1 z2 z3 z4 z5 z6 z7 f0 f1 f2 f3 f4 f5 f6 f7 lf1
        obtain ⟨c0, c1, c2, c3, c4, c5, c6, c7⟩ := HL2.out.all
        obtain ⟨z0, z1, z2, z3, z4, z5, z6, z7⟩ := HZ2.out.all
        obtain ⟨f0, f1, f2, f3, f4, f5, f6, f7⟩ := HZ2.out.allF
        go_wp2
        exact rtake_end (W := w2) (q := q) HZ2.out HB2.out (Nat.le_add_right _ 2) HE.out rfl rfl
end Go.Proofs.Ytlbgkpkfjaggkaa
