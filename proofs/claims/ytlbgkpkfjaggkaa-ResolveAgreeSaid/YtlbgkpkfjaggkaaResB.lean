/- resolve: ended, promised, shared; the document's active. -/
import Derived.Test.YtlbgkpkfjaggkaaResE
namespace Go.Proofs.Ytlbgkpkfjaggkaa
open Go.RowKit Go.Sort

set_option maxRecDepth 100000 in
set_option maxHeartbeats 2000000 in
theorem ended_any (l : LV) (m : MsgV) (y : Bool) (w : World) : Calls Try.prog 17 #[l.v, m.v, .bool y] w (GivesLB w (endV l m y)) := by
  obtain ⟨w0, hw0, hl, hm, hz, hb⟩ := lay3_facts w l m
  have HL := Lib.hid hl
  have HM := Lib.hid hm
  have HZ := Lib.hid hz
  have HB := Lib.hid hb
  have HW0 := Lib.hid hw0
  clear hl hm hz hb hw0
  obtain ⟨c0, c1, c2, c3, c4, c5, c6, c7⟩ := HL.out.all
  obtain ⟨m0, m1, m2, m3, m4, m5, m6, m7, m8, m9, m10⟩ := HM.out.all
  obtain ⟨z0, z1, z2, z3, z4, z5, z6, z7⟩ := HZ.out.all
  obtain ⟨f0, f1, f2, f3, f4, f5, f6, f7⟩ := HZ.out.allF
  rcases end_cases l m y with ⟨h, e⟩ | ⟨h1, h, e⟩ | ⟨h1, h2, h3, e⟩
  · have t1 : (l.bind != 2) = true := by simpa using h
    have HE := Lib.hid e
    clear h e
    go_enter Try.func17, Try.ntmps17
    go_upto_region 1 with fail
    rw [← HW0.out]
    go_wp2
    exact ended_end (W := w0) (q := l) HZ.out HB.out (Nat.le_add_right _ 2) HE.out rfl rfl
  · have t1 : (l.bind != 2) = false := by simpa using h1
    have HE := Lib.hid e
    clear h1 e
    by_cases hc : l.cb = m.client
    · have hy : y = false := by
        rcases h with h | h
        · exact absurd hc h
        · exact h
      subst hy
      have t2 := cb_eq hc
      have t3 : (l.cb.toList != m.client.toList) = false := by simp [bne, t2]
      clear h hc
      go_enter Try.func17, Try.ntmps17
      go_upto_region 1 with fail
      rw [← HW0.out]
      go_wp2
      exact ended_end (W := w0) (q := l) HZ.out HB.out (Nat.le_add_right _ 2) HE.out rfl rfl
    · have t2 := cb_ne hc
      have t3 : (l.cb.toList != m.client.toList) = true := by simp [bne, t2]
      clear h hc
      go_enter Try.func17, Try.ntmps17
      go_upto_region 1 with fail
      rw [← HW0.out]
      go_wp2
      exact ended_end (W := w0) (q := l) HZ.out HB.out (Nat.le_add_right _ 2) HE.out rfl rfl
  · have t1 : (l.bind != 2) = false := by simpa using h1
    have HE := Lib.hid e
    clear h1 e
    subst h3
    have t2 := cb_eq h2
    have t3 : (l.cb.toList != m.client.toList) = false := by simp [bne, t2]
    clear h2
    have lf1 := HL.out.free 1
    obtain ⟨w1, hw1⟩ : ∃ w1, w1 = w0.setCell ⟨w.heap.size, 1, none⟩ (.int .i64 m.bind) := ⟨_, rfl⟩
    obtain ⟨q, hq⟩ : ∃ q : LV, q = { l with bind := m.bind } := ⟨_, rfl⟩
    have HL1 : Hid (LBox w1 w.heap.size q) := Lib.hid (by rw [hw1, hq]; exact HL.out.store 1 _ rfl)
    have HE1 : Hid (endV l m true = (q, true)) := Lib.hid (by rw [hq]; exact HE.out)
    have HZ1 : Hid (LBox w1 (w.heap.size + 1 + 1) zeroL) := Lib.hid (by rw [hw1]; exact HZ.out.other (a := ⟨w.heap.size, 1, none⟩) (by show w.heap.size + 1 + 1 ≠ w.heap.size; omega) _)
    have HB1 : Hid (Below w.heap.size w w1) := Lib.hid (by rw [hw1]; exact HB.out.setCell (p := ⟨w.heap.size, 1, none⟩) (Nat.le_refl _) _)
    have HW1 := Lib.hid hw1
    clear hw1 hq
    go_enter Try.func17, Try.ntmps17
    go_upto_region 1 with fail
    rw [← HW0.out]
    go_upto_region 6 with fail
    rw [← HW1.out]
    clear c0 c1 c2 c3 c4 c5 c6 c7
    clear m0 m1 m2 m3 m4 m5 m6 m7 m8 m9 m10
    clear z0 z1 z2 z3 z4 z5 z6 z7 f0 f1 f2 f3 f4 f5 f6 f7 lf1
    obtain ⟨c0, c1, c2, c3, c4, c5, c6, c7⟩ := HL1.out.all
    obtain ⟨z0, z1, z2, z3, z4, z5, z6, z7⟩ := HZ1.out.all
    obtain ⟨f0, f1, f2, f3, f4, f5, f6, f7⟩ := HZ1.out.allF
    go_wp2
    exact ended_end (W := w1) (q := q) HZ1.out HB1.out (Nat.le_add_right _ 2) HE1.out rfl rfl

set_option maxRecDepth 100000 in
set_option maxHeartbeats 2000000 in
theorem prom_any (l : LV) (m : MsgV) (y : Bool) (w : World) : Calls Try.prog 16 #[l.v, m.v, .bool y] w (GivesLB w (actV l m y)) := by
  have HP := Lib.hid (fun V => rmoment_any m.pot V)
  have HS := Lib.hid (fun V => stays_any l y V)
  obtain ⟨w0, hw0, hl, hm, hz, hb⟩ := lay3_facts w l m
  have HL := Lib.hid hl
  have HM := Lib.hid hm
  have HZ := Lib.hid hz
  have HB := Lib.hid hb
  have HW0 := Lib.hid hw0
  clear hl hm hz hb hw0
  obtain ⟨c0, c1, c2, c3, c4, c5, c6, c7⟩ := HL.out.all
  obtain ⟨m0, m1, m2, m3, m4, m5, m6, m7, m8, m9, m10⟩ := HM.out.all
  obtain ⟨z0, z1, z2, z3, z4, z5, z6, z7⟩ := HZ.out.all
  obtain ⟨f0, f1, f2, f3, f4, f5, f6, f7⟩ := HZ.out.allF
  rcases act_cases l m y with ⟨h1, h2, e⟩ | ⟨h1, h2, e⟩ | ⟨h1, h2, e⟩
  · have HE := Lib.hid e
    clear e
    obtain ⟨k, hk⟩ : ∃ k, k = max l.told (moV m.pot) := ⟨_, rfl⟩
    rw [← hk] at HE
    have hmx : (if l.told < moV m.pot then moV m.pot else l.told) = k := by split <;> omega
    clear hk
    have t1 : (l.bind == 2) = true := by rw [h1]; rfl
    have t2 := cb_eq h2
    clear h1 h2
    generalize moV m.pot = p at *
    have lf5 := HL.out.free 5
    obtain ⟨w1, hw1⟩ : ∃ w1, w1 = w0.setCell ⟨w.heap.size, 5, none⟩ (.int .i64 k) := ⟨_, rfl⟩
    obtain ⟨q, hq⟩ : ∃ q : LV, q = { l with told := k } := ⟨_, rfl⟩
    have HL1 : Hid (LBox w1 w.heap.size q) := Lib.hid (by rw [hw1, hq]; exact HL.out.store 5 _ rfl)
    have HE1 : Hid (actV l m y = (q, true)) := Lib.hid (by rw [hq]; exact HE.out)
    have HZ1 : Hid (LBox w1 (w.heap.size + 1 + 1) zeroL) := Lib.hid (by rw [hw1]; exact HZ.out.other (a := ⟨w.heap.size, 5, none⟩) (by show w.heap.size + 1 + 1 ≠ w.heap.size; omega) _)
    have HB1 : Hid (Below w.heap.size w w1) := Lib.hid (by rw [hw1]; exact HB.out.setCell (p := ⟨w.heap.size, 5, none⟩) (Nat.le_refl _) _)
    have HW1 := Lib.hid hw1
    clear hw1 hq
    go_enter Try.func16, Try.ntmps16
    go_upto_region 1 with fail
    rw [← HW0.out]
    go_wp2_with fail
    refine (HP.out _).mono ?_
    rintro e w' ⟨rfl, rfl⟩
    go_upto_region 4 with fail
    rw [← HW1.out]
    clear c0 c1 c2 c3 c4 c5 c6 c7
    clear m0 m1 m2 m3 m4 m5 m6 m7 m8 m9 m10
    clear z0 z1 z2 z3 z4 z5 z6 z7 f0 f1 f2 f3 f4 f5 f6 f7 lf5
    obtain ⟨c0, c1, c2, c3, c4, c5, c6, c7⟩ := HL1.out.all
    obtain ⟨z0, z1, z2, z3, z4, z5, z6, z7⟩ := HZ1.out.all
    obtain ⟨f0, f1, f2, f3, f4, f5, f6, f7⟩ := HZ1.out.allF
    go_wp2
    exact prom_end (W := w1) (q := q) HZ1.out HB1.out (Nat.le_add_right _ 2) HE1.out rfl rfl
  · have HE := Lib.hid e
    clear e
    rw [h2] at HS
    clear h2
    have hway : ((l.bind == 2) = false) ∨ ((l.bind == 2) = true ∧ (l.cb.toList == m.client.toList) = false) := by
      by_cases hb : l.bind = 2
      · refine .inr ⟨by rw [hb]; rfl, cb_ne fun hc => h1 ⟨hb, hc⟩⟩
      · exact .inl (by simpa using hb)
    clear h1
    rcases hway with t1 | ⟨t1, t2⟩
    · go_enter Try.func16, Try.ntmps16
      go_upto_region 1 with fail
      rw [← HW0.out]
      go_wp2_with fail
      refine (HP.out _).mono ?_
      rintro e w' ⟨rfl, rfl⟩
      go_wp2_with fail
      refine (HS.out _).mono ?_
      rintro e w1 ⟨rfl, hb1⟩
      have HL1 := Lib.hid (HL.out.later hb1)
      have HM1 := Lib.hid (HM.out.later hb1)
      have HZ1 := Lib.hid (HZ.out.later hb1)
      have HB1 := Lib.hid (HB.out.trans (hb1.mono HB.out.size))
      clear hb1
      clear c0 c1 c2 c3 c4 c5 c6 c7
      clear m0 m1 m2 m3 m4 m5 m6 m7 m8 m9 m10
      clear z0 z1 z2 z3 z4 z5 z6 z7 f0 f1 f2 f3 f4 f5 f6 f7
      obtain ⟨c0, c1, c2, c3, c4, c5, c6, c7⟩ := HL1.out.all
      obtain ⟨m0, m1, m2, m3, m4, m5, m6, m7, m8, m9, m10⟩ := HM1.out.all
      obtain ⟨z0, z1, z2, z3, z4, z5, z6, z7⟩ := HZ1.out.all
      obtain ⟨f0, f1, f2, f3, f4, f5, f6, f7⟩ := HZ1.out.allF
      go_wp2
      exact prom_end (W := w1) (q := l) HZ1.out HB1.out (Nat.le_add_right _ 2) HE.out rfl rfl
    · go_enter Try.func16, Try.ntmps16
      go_upto_region 1 with fail
      rw [← HW0.out]
      go_wp2_with fail
      refine (HP.out _).mono ?_
      rintro e w' ⟨rfl, rfl⟩
      go_wp2_with fail
      refine (HS.out _).mono ?_
      rintro e w1 ⟨rfl, hb1⟩
      have HL1 := Lib.hid (HL.out.later hb1)
      have HM1 := Lib.hid (HM.out.later hb1)
      have HZ1 := Lib.hid (HZ.out.later hb1)
      have HB1 := Lib.hid (HB.out.trans (hb1.mono HB.out.size))
      clear hb1
      clear c0 c1 c2 c3 c4 c5 c6 c7
      clear m0 m1 m2 m3 m4 m5 m6 m7 m8 m9 m10
      clear z0 z1 z2 z3 z4 z5 z6 z7 f0 f1 f2 f3 f4 f5 f6 f7
      obtain ⟨c0, c1, c2, c3, c4, c5, c6, c7⟩ := HL1.out.all
      obtain ⟨m0, m1, m2, m3, m4, m5, m6, m7, m8, m9, m10⟩ := HM1.out.all
      obtain ⟨z0, z1, z2, z3, z4, z5, z6, z7⟩ := HZ1.out.all
      obtain ⟨f0, f1, f2, f3, f4, f5, f6, f7⟩ := HZ1.out.allF
      go_wp2
      exact prom_end (W := w1) (q := l) HZ1.out HB1.out (Nat.le_add_right _ 2) HE.out rfl rfl
  · have HE := Lib.hid e
    clear e
    rw [h2] at HS
    clear h2
    have hway : ((l.bind == 2) = false) ∨ ((l.bind == 2) = true ∧ (l.cb.toList == m.client.toList) = false) := by
      by_cases hb : l.bind = 2
      · refine .inr ⟨by rw [hb]; rfl, cb_ne fun hc => h1 ⟨hb, hc⟩⟩
      · exact .inl (by simpa using hb)
    clear h1
    have HN : Hid (newL l m = ⟨l.addr, 2, m.client.data.toList, 0, 0, moV m.pot, 0, l.ver⟩) := Lib.hid rfl
    have HNC := Lib.hid (newL_cb l m)
    obtain ⟨q, hq⟩ : ∃ q, q = newL l m := ⟨_, rfl⟩
    rw [← hq] at HE HN HNC
    clear hq
    generalize moV m.pot = p at *
    rcases hway with t1 | ⟨t1, t2⟩
    · go_enter Try.func16, Try.ntmps16
      go_upto_region 1 with fail
      rw [← HW0.out]
      go_wp2_with fail
      refine (HP.out _).mono ?_
      rintro e w' ⟨rfl, rfl⟩
      go_wp2_with fail
      refine (HS.out _).mono ?_
      rintro e w1 ⟨rfl, hb1⟩
      have HL1 := Lib.hid (HL.out.later hb1)
      have HM1 := Lib.hid (HM.out.later hb1)
      have HZ1 := Lib.hid (HZ.out.later hb1)
      have HB1 := Lib.hid (HB.out.trans (hb1.mono HB.out.size))
      clear hb1
      clear c0 c1 c2 c3 c4 c5 c6 c7
      clear m0 m1 m2 m3 m4 m5 m6 m7 m8 m9 m10
      clear z0 z1 z2 z3 z4 z5 z6 z7 f0 f1 f2 f3 f4 f5 f6 f7
      obtain ⟨c0, c1, c2, c3, c4, c5, c6, c7⟩ := HL1.out.all
      obtain ⟨m0, m1, m2, m3, m4, m5, m6, m7, m8, m9, m10⟩ := HM1.out.all
      obtain ⟨z0, z1, z2, z3, z4, z5, z6, z7⟩ := HZ1.out.all
      obtain ⟨f0, f1, f2, f3, f4, f5, f6, f7⟩ := HZ1.out.allF
      go_wp2
      have hst : storeL w1 (w.heap.size + 1 + 1) q = ((((((((w1.setCell ⟨w.heap.size + 1 + 1, 0, none⟩ (.int .u32 (l.addr : Int))).setCell ⟨w.heap.size + 1 + 1, 1, none⟩ (.int .i64 2)).setCell ⟨w.heap.size + 1 + 1, 2, none⟩ (.string m.client)).setCell ⟨w.heap.size + 1 + 1, 3, none⟩ (.int .i64 0)).setCell ⟨w.heap.size + 1 + 1, 4, none⟩ (.int .i64 0)).setCell ⟨w.heap.size + 1 + 1, 5, none⟩ (.int .i64 p)).setCell ⟨w.heap.size + 1 + 1, 6, none⟩ (.int .i64 0)).setCell ⟨w.heap.size + 1 + 1, 7, none⟩ (.int .i64 l.ver)) := by
        unfold storeL
        rw [HNC.out]
        simp only [HN.out]
      rw [← hst]
      exact prom_end (W := w1) (q := q) HZ1.out HB1.out (Nat.le_add_right _ 2) HE.out rfl rfl
    · go_enter Try.func16, Try.ntmps16
      go_upto_region 1 with fail
      rw [← HW0.out]
      go_wp2_with fail
      refine (HP.out _).mono ?_
      rintro e w' ⟨rfl, rfl⟩
      go_wp2_with fail
      refine (HS.out _).mono ?_
      rintro e w1 ⟨rfl, hb1⟩
      have HL1 := Lib.hid (HL.out.later hb1)
      have HM1 := Lib.hid (HM.out.later hb1)
      have HZ1 := Lib.hid (HZ.out.later hb1)
      have HB1 := Lib.hid (HB.out.trans (hb1.mono HB.out.size))
      clear hb1
      clear c0 c1 c2 c3 c4 c5 c6 c7
      clear m0 m1 m2 m3 m4 m5 m6 m7 m8 m9 m10
      clear z0 z1 z2 z3 z4 z5 z6 z7 f0 f1 f2 f3 f4 f5 f6 f7
      obtain ⟨c0, c1, c2, c3, c4, c5, c6, c7⟩ := HL1.out.all
      obtain ⟨m0, m1, m2, m3, m4, m5, m6, m7, m8, m9, m10⟩ := HM1.out.all
      obtain ⟨z0, z1, z2, z3, z4, z5, z6, z7⟩ := HZ1.out.all
      obtain ⟨f0, f1, f2, f3, f4, f5, f6, f7⟩ := HZ1.out.allF
      go_wp2
      have hst : storeL w1 (w.heap.size + 1 + 1) q = ((((((((w1.setCell ⟨w.heap.size + 1 + 1, 0, none⟩ (.int .u32 (l.addr : Int))).setCell ⟨w.heap.size + 1 + 1, 1, none⟩ (.int .i64 2)).setCell ⟨w.heap.size + 1 + 1, 2, none⟩ (.string m.client)).setCell ⟨w.heap.size + 1 + 1, 3, none⟩ (.int .i64 0)).setCell ⟨w.heap.size + 1 + 1, 4, none⟩ (.int .i64 0)).setCell ⟨w.heap.size + 1 + 1, 5, none⟩ (.int .i64 p)).setCell ⟨w.heap.size + 1 + 1, 6, none⟩ (.int .i64 0)).setCell ⟨w.heap.size + 1 + 1, 7, none⟩ (.int .i64 l.ver)) := by
        unfold storeL
        rw [HNC.out]
        simp only [HN.out]
      rw [← hst]
      exact prom_end (W := w1) (q := q) HZ1.out HB1.out (Nat.le_add_right _ 2) HE.out rfl rfl
end Go.Proofs.Ytlbgkpkfjaggkaa
