/- resolve: shared; the document's active. -/
import Derived.Test.YtlbgkpkfjaggkaaResE
namespace Go.Proofs.Ytlbgkpkfjaggkaa
open Go.RowKit Go.Sort

set_option maxRecDepth 100000 in
set_option maxHeartbeats 2000000 in
theorem shar_any (l : LV) (m : MsgV) (y : Bool) (w : World) : Calls Try.prog 18 #[l.v, m.v, .bool y] w (GivesLB w (shaV l m y)) := by
  have HS := Lib.hid (fun V => stays_any l y V)
  obtain ⟨w0, hw0, hl, hm, hz, hb⟩ := lay3_facts w l m
  have HL := Lib.hid hl
  have HM := Lib.hid hm
  have HZ := Lib.hid hz
  have HB := Lib.hid hb
  have HW0 := Lib.hid hw0
  clear hl hm hz hb hw0
  obtain ⟨c0, c1, c2, c3, c4, c5, c6, c7⟩ := HL.out.all
  rcases sha_cases l m y with ⟨h1, e⟩ | ⟨h1, h2, h3, e⟩ | ⟨h1, h2, e⟩
  · have HE := Lib.hid e
    clear e
    rw [h1] at HS
    clear h1
    go_enter Try.func18, Try.ntmps18
    go_upto_region 1 with fail
    rw [← HW0.out]
    go_wp2_with fail
    refine (HS.out _).mono ?_
    rintro e w1 ⟨rfl, hb1⟩
    have HL1 := Lib.hid (HL.out.later hb1)
    have HM1 := Lib.hid (HM.out.later hb1)
    have HZ1 := Lib.hid (HZ.out.later hb1)
    have HB1 := Lib.hid (HB.out.trans (hb1.mono HB.out.size))
    clear hb1
    clear c0 c1 c2 c3 c4 c5 c6 c7
    obtain ⟨c0, c1, c2, c3, c4, c5, c6, c7⟩ := HL1.out.all
    obtain ⟨m0, m1, m2, m3, m4, m5, m6, m7, m8, m9, m10⟩ := HM1.out.all
    obtain ⟨z0, z1, z2, z3, z4, z5, z6, z7⟩ := HZ1.out.all
    obtain ⟨f0, f1, f2, f3, f4, f5, f6, f7⟩ := HZ1.out.allF
    go_wp2
    exact shar_end (W := w1) (q := l) HZ1.out HB1.out (Nat.le_add_right _ 2) HE.out rfl rfl
  · have HBA := Lib.hid (fun V => bare_any l.addr m.bind m.at_ V)
    generalize bareL l.addr m.bind m.at_ = q at *
    have d1 : decide (l.ver < m.at_) = true := decide_eq_true h2
    have d2 : decide (m.at_ ≤ 1099511627776) = true := decide_eq_true h3
    clear h2 h3
    have HE := Lib.hid e
    clear e
    rw [h1] at HS
    clear h1
    go_enter Try.func18, Try.ntmps18
    go_upto_region 1 with fail
    rw [← HW0.out]
    go_wp2_with fail
    refine (HS.out _).mono ?_
    rintro e w1 ⟨rfl, hb1⟩
    have HL1 := Lib.hid (HL.out.later hb1)
    have HM1 := Lib.hid (HM.out.later hb1)
    have HZ1 := Lib.hid (HZ.out.later hb1)
    have HB1 := Lib.hid (HB.out.trans (hb1.mono HB.out.size))
    clear hb1
    clear c0 c1 c2 c3 c4 c5 c6 c7
    obtain ⟨c0, c1, c2, c3, c4, c5, c6, c7⟩ := HL1.out.all
    obtain ⟨m0, m1, m2, m3, m4, m5, m6, m7, m8, m9, m10⟩ := HM1.out.all
    obtain ⟨z0, z1, z2, z3, z4, z5, z6, z7⟩ := HZ1.out.all
    obtain ⟨f0, f1, f2, f3, f4, f5, f6, f7⟩ := HZ1.out.allF
    go_wp2_with fail
    refine (HBA.out _).mono ?_
    rintro e w2 ⟨rfl, hb2⟩
    have HZ2 := Lib.hid (HZ1.out.later hb2)
    have HB2 := Lib.hid (HB1.out.trans (hb2.mono HB1.out.size))
    clear hb2
    clear c0 c1 c2 c3 c4 c5 c6 c7
    clear m0 m1 m2 m3 m4 m5 m6 m7 m8 m9 m10
    clear z0 z1 z2 z3 z4 z5 z6 z7 f0 f1 f2 f3 f4 f5 f6 f7
    obtain ⟨z0, z1, z2, z3, z4, z5, z6, z7⟩ := HZ2.out.all
    obtain ⟨f0, f1, f2, f3, f4, f5, f6, f7⟩ := HZ2.out.allF
    go_wp2
    exact shar_end (W := w2) (q := q) HZ2.out HB2.out (Nat.le_add_right _ 2) HE.out rfl rfl
  · have HE := Lib.hid e
    clear e
    rw [h1] at HS
    clear h1
    obtain ⟨b, hb⟩ : ∃ b, b = decide (l.bind ≠ 2) := ⟨_, rfl⟩
    rw [← hb] at HE
    have t1 : (l.bind != 2) = b := by rw [hb]; rw [Bool.eq_iff_iff]; simp
    clear hb
    have hway : (decide (l.ver < m.at_) = false) ∨ (decide (l.ver < m.at_) = true ∧ decide (m.at_ ≤ 1099511627776) = false) := by
      by_cases h : l.ver < m.at_
      · exact .inr ⟨decide_eq_true h, decide_eq_false fun h' => h2 ⟨h, h'⟩⟩
      · exact .inl (decide_eq_false h)
    clear h2
    rcases hway with d1 | ⟨d1, d2⟩
    · go_enter Try.func18, Try.ntmps18
      go_upto_region 1 with fail
      rw [← HW0.out]
      go_wp2_with fail
      refine (HS.out _).mono ?_
      rintro e w1 ⟨rfl, hb1⟩
      have HL1 := Lib.hid (HL.out.later hb1)
      have HM1 := Lib.hid (HM.out.later hb1)
      have HZ1 := Lib.hid (HZ.out.later hb1)
      have HB1 := Lib.hid (HB.out.trans (hb1.mono HB.out.size))
      clear hb1
      clear c0 c1 c2 c3 c4 c5 c6 c7
      obtain ⟨c0, c1, c2, c3, c4, c5, c6, c7⟩ := HL1.out.all
      obtain ⟨m0, m1, m2, m3, m4, m5, m6, m7, m8, m9, m10⟩ := HM1.out.all
      obtain ⟨z0, z1, z2, z3, z4, z5, z6, z7⟩ := HZ1.out.all
      obtain ⟨f0, f1, f2, f3, f4, f5, f6, f7⟩ := HZ1.out.allF
      go_upto_region 5 with fail
      go_region
      go_wp2
      exact shar_endD (W := w1) (q := l) HZ1.out HB1.out (Nat.le_add_right _ 2) HE.out rfl rfl
    · go_enter Try.func18, Try.ntmps18
      go_upto_region 1 with fail
      rw [← HW0.out]
      go_wp2_with fail
      refine (HS.out _).mono ?_
      rintro e w1 ⟨rfl, hb1⟩
      have HL1 := Lib.hid (HL.out.later hb1)
      have HM1 := Lib.hid (HM.out.later hb1)
      have HZ1 := Lib.hid (HZ.out.later hb1)
      have HB1 := Lib.hid (HB.out.trans (hb1.mono HB.out.size))
      clear hb1
      clear c0 c1 c2 c3 c4 c5 c6 c7
      obtain ⟨c0, c1, c2, c3, c4, c5, c6, c7⟩ := HL1.out.all
      obtain ⟨m0, m1, m2, m3, m4, m5, m6, m7, m8, m9, m10⟩ := HM1.out.all
      obtain ⟨z0, z1, z2, z3, z4, z5, z6, z7⟩ := HZ1.out.all
      obtain ⟨f0, f1, f2, f3, f4, f5, f6, f7⟩ := HZ1.out.allF
      go_upto_region 5 with fail
      go_region
      go_wp2
      exact shar_endD (W := w1) (q := l) HZ1.out HB1.out (Nat.le_add_right _ 2) HE.out rfl rfl

set_option maxRecDepth 100000 in
set_option maxHeartbeats 2000000 in
theorem acti_any (l : LV) (m : MsgV) (y : Bool) (w : World) : Calls Try.prog 21 #[l.v, m.v, .bool y] w (GivesLB w (actV l m y)) := by
  have HP := Lib.hid (fun V => radd_any m.pot 0 V)
  rw [addV_zero] at HP
  obtain ⟨w0, hw0, hl, hm, hz, hb⟩ := lay3_facts w l m
  have HL := Lib.hid hl
  have HM := Lib.hid hm
  have HZ := Lib.hid hz
  have HB := Lib.hid hb
  have HW0 := Lib.hid hw0
  clear hl hm hz hb hw0
  obtain ⟨c0, c1, c2, c3, c4, c5, c6, c7⟩ := HL.out.all
  obtain ⟨m0, m1, m2, m3, m4, m5, m6, m7, m8, m9, m10⟩ := HM.out.all
  obtain ⟨z0, z1, z2, z3, z4, z5, z6, z7⟩ := HZ.out.all
  obtain ⟨f0, f1, f2, f3, f4, f5, f6, f7⟩ := HZ.out.allF
  rcases act_cases l m y with ⟨h1, h2, e⟩ | ⟨h1, h2, e⟩ | ⟨h1, h2, e⟩
  · have HE := Lib.hid e
    clear e
    obtain ⟨k, hk⟩ : ∃ k, k = max l.told (moV m.pot) := ⟨_, rfl⟩
    rw [← hk] at HE
    have hmx : (if l.told < moV m.pot then moV m.pot else l.told) = k := by split <;> omega
    clear hk
    have t1 : (l.bind == 2) = true := by rw [h1]; rfl
    have t5 : (l.bind == 5) = false := by rw [h1]; rfl
    have t2 := cb_eq h2
    clear h1 h2
    generalize moV m.pot = p at *
    have lf5 := HL.out.free 5
    obtain ⟨w1, hw1⟩ : ∃ w1, w1 = w0.setCell ⟨w.heap.size, 5, none⟩ (.int .i64 k) := ⟨_, rfl⟩
    obtain ⟨q, hq⟩ : ∃ q : LV, q = { l with told := k } := ⟨_, rfl⟩
    have HL1 : Hid (LBox w1 w.heap.size q) := Lib.hid (by rw [hw1, hq]; exact HL.out.store 5 _ rfl)
    have HE1 : Hid (actV l m y = (q, true)) := Lib.hid (by rw [hq]; exact HE.out)
    have HZ1 : Hid (LBox w1 (w.heap.size + 1 + 1) zeroL) := Lib.hid (by rw [hw1]; exact HZ.out.other (a := ⟨w.heap.size, 5, none⟩) (by show w.heap.size + 1 + 1 ≠ w.heap.size; omega) _)
    have HB1 : Hid (Below w.heap.size w w1) := Lib.hid (by rw [hw1]; exact HB.out.setCell (p := ⟨w.heap.size, 5, none⟩) (Nat.le_refl _) _)
    have HW1 := Lib.hid hw1
    clear hw1 hq
    go_enter Try.func21, Try.ntmps21
    go_upto_region 1 with fail
    rw [← HW0.out]
    go_wp2_with fail
    refine (HP.out _).mono ?_
    rintro e w' ⟨rfl, rfl⟩
    go_upto_region 6 with fail
    rw [← HW1.out]
    clear c0 c1 c2 c3 c4 c5 c6 c7
    clear m0 m1 m2 m3 m4 m5 m6 m7 m8 m9 m10
    clear z0 z1 z2 z3 z4 z5 z6 z7 f0 f1 f2 f3 f4 f5 f6 f7 lf5
    obtain ⟨c0, c1, c2, c3, c4, c5, c6, c7⟩ := HL1.out.all
    obtain ⟨z0, z1, z2, z3, z4, z5, z6, z7⟩ := HZ1.out.all
    obtain ⟨f0, f1, f2, f3, f4, f5, f6, f7⟩ := HZ1.out.allF
    go_wp2
    exact acti_end (W := w1) (q := q) HZ1.out HB1.out (Nat.le_add_right _ 2) HE1.out rfl rfl
  · have HE := Lib.hid e
    clear e
    have hway : ((l.bind == 5) = true) ∨ ((l.bind == 5) = false ∧ (l.bind == 2) = true ∧ (l.cb.toList == m.client.toList) = false ∧ y = false) := by
      unfold stayB at h2
      have h2 := of_decide_eq_true h2
      rcases h2 with h2 | ⟨h2, h3⟩
      · exact .inl (by rw [h2]; rfl)
      · exact .inr ⟨by rw [h2]; rfl, by rw [h2]; rfl, cb_ne fun hc => h1 ⟨h2, hc⟩, h3⟩
    clear h1 h2
    rcases hway with t1 | ⟨t1, t2, t3, rfl⟩
    · go_enter Try.func21, Try.ntmps21
      go_upto_region 1 with fail
      rw [← HW0.out]
      go_wp2_with fail
      refine (HP.out _).mono ?_
      rintro e w' ⟨rfl, rfl⟩
      go_wp2
      exact acti_end (W := w0) (q := l) HZ.out HB.out (Nat.le_add_right _ 2) HE.out rfl rfl
    · go_enter Try.func21, Try.ntmps21
      go_upto_region 1 with fail
      rw [← HW0.out]
      go_wp2_with fail
      refine (HP.out _).mono ?_
      rintro e w' ⟨rfl, rfl⟩
      go_wp2
      exact acti_end (W := w0) (q := l) HZ.out HB.out (Nat.le_add_right _ 2) HE.out rfl rfl
  · have HE := Lib.hid e
    clear e
    have hway : ((l.bind == 5) = false ∧ (l.bind == 2) = false) ∨ ((l.bind == 5) = false ∧ (l.bind == 2) = true ∧ (l.cb.toList == m.client.toList) = false ∧ y = true) := by
      have h3 := stay_no h2
      by_cases hb : l.bind = 2
      · exact .inr ⟨by rw [hb]; rfl, by rw [hb]; rfl, cb_ne fun hc => h1 ⟨hb, hc⟩, h3.2 hb⟩
      · exact .inl ⟨by simpa using h3.1, by simpa using hb⟩
    clear h1 h2
    have HN : Hid (newL l m = ⟨l.addr, 2, m.client.data.toList, 0, 0, moV m.pot, 0, l.ver⟩) := Lib.hid rfl
    have HNC := Lib.hid (newL_cb l m)
    obtain ⟨q, hq⟩ : ∃ q, q = newL l m := ⟨_, rfl⟩
    rw [← hq] at HE HN HNC
    clear hq
    generalize moV m.pot = p at *
    rcases hway with ⟨t1, t2⟩ | ⟨t1, t2, t3, rfl⟩
    · go_enter Try.func21, Try.ntmps21
      go_upto_region 1 with fail
      rw [← HW0.out]
      go_wp2_with fail
      refine (HP.out _).mono ?_
      rintro e w' ⟨rfl, rfl⟩
      go_wp2
      have hst : storeL w0 (w.heap.size + 1 + 1) q = ((((((((w0.setCell ⟨w.heap.size + 1 + 1, 0, none⟩ (.int .u32 (l.addr : Int))).setCell ⟨w.heap.size + 1 + 1, 1, none⟩ (.int .i64 2)).setCell ⟨w.heap.size + 1 + 1, 2, none⟩ (.string m.client)).setCell ⟨w.heap.size + 1 + 1, 3, none⟩ (.int .i64 0)).setCell ⟨w.heap.size + 1 + 1, 4, none⟩ (.int .i64 0)).setCell ⟨w.heap.size + 1 + 1, 5, none⟩ (.int .i64 p)).setCell ⟨w.heap.size + 1 + 1, 6, none⟩ (.int .i64 0)).setCell ⟨w.heap.size + 1 + 1, 7, none⟩ (.int .i64 l.ver)) := by
        unfold storeL
        rw [HNC.out]
        simp only [HN.out]
      rw [← hst]
      exact acti_end (W := w0) (q := q) HZ.out HB.out (Nat.le_add_right _ 2) HE.out rfl rfl
    · go_enter Try.func21, Try.ntmps21
      go_upto_region 1 with fail
      rw [← HW0.out]
      go_wp2_with fail
      refine (HP.out _).mono ?_
      rintro e w' ⟨rfl, rfl⟩
      go_wp2
      have hst : storeL w0 (w.heap.size + 1 + 1) q = ((((((((w0.setCell ⟨w.heap.size + 1 + 1, 0, none⟩ (.int .u32 (l.addr : Int))).setCell ⟨w.heap.size + 1 + 1, 1, none⟩ (.int .i64 2)).setCell ⟨w.heap.size + 1 + 1, 2, none⟩ (.string m.client)).setCell ⟨w.heap.size + 1 + 1, 3, none⟩ (.int .i64 0)).setCell ⟨w.heap.size + 1 + 1, 4, none⟩ (.int .i64 0)).setCell ⟨w.heap.size + 1 + 1, 5, none⟩ (.int .i64 p)).setCell ⟨w.heap.size + 1 + 1, 6, none⟩ (.int .i64 0)).setCell ⟨w.heap.size + 1 + 1, 7, none⟩ (.int .i64 l.ver)) := by
        unfold storeL
        rw [HNC.out]
        simp only [HN.out]
      rw [← hst]
      exact acti_end (W := w0) (q := q) HZ.out HB.out (Nat.le_add_right _ 2) HE.out rfl rfl
end Go.Proofs.Ytlbgkpkfjaggkaa
