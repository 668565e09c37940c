/- The law GrantOwn, walked. -/
import Derived.Test.YtcgfldfjadmpdaaGraE
import Derived.Test.YtcgfldfjadmpdaaGraC
namespace Go.Proofs.Ytcgfldfjadmpdaa
open Go.RowKit Go.Sort

/-- In no state but PartnerDown may anything be given but what is one's own. -/
theorem may_calm {a b c s now entry : Int} {m : LV} (hs : s ≠ 3) (h : mayV a b c m s now entry = true) : m.bind = ownV a := by
  unfold mayV at h
  have h3 : (s == 3) = false := by simpa using hs
  rw [h3] at h
  simp at h
  exact h.2
/-- There not ahead of the end of all that may have been promised. -/
theorem may_down {b c now entry : Int} {m : LV} (hb : 0 ≤ b ∧ b ≤ 274877906944) (hc : 0 ≤ c ∧ c ≤ 274877906944) (hn : 0 ≤ now ∧ now ≤ 549755813888) (he : 0 ≤ entry ∧ entry ≤ 549755813888) (hu : 0 ≤ m.unt ∧ m.unt ≤ 549755813888) (ht : 0 ≤ m.told ∧ m.told ≤ 549755813888)
    (h0 : m.bind ≠ 0) (h : mayV 0 b c m 3 now entry = true) : m.bind ≠ 5 ∧ max (max entry m.unt) m.told + b + c < now := by
  unfold mayV ovrB at h
  have e0 : (m.bind == ownV 0) = false := by simpa [ownV] using h0
  rw [e0] at h
  simp at h
  obtain ⟨_, h5, hp⟩ := h
  refine ⟨h5, ?_⟩
  unfold pastV aftV addV at hp
  have ho : overL m = max m.unt m.told := by unfold overL; split <;> omega
  rw [ho] at hp
  unfold moV limV at hp
  simp only [decide_eq_true_eq] at hp
  omega

set_option maxRecDepth 100000 in
set_option maxHeartbeats 4000000 in
theorem law_gown (x0 x1 x2 y0 y1 y2 : Int) (m : LV) (w : World) : Calls Try.prog 6 #[r3v x0 x1 x2, m.v, r3v y0 y1 y2] w fun e w' => e = .returned (.bool true) ∧ Below w.heap.size w w' := by
  have HA := Lib.hid (fun V => gawake_any V)
  have HR := Lib.hid (fun V => rules_any 0 x1 x2 V)
  have HS := Lib.hid (fun V => rules_any 1 x1 x2 V)
  obtain ⟨w0, hw0⟩ : ∃ w0, w0 = ((w.alloc (r3box 22 x0 x1 x2)).alloc (lbox m)).alloc (r3box 22 y0 y1 y2) := ⟨_, rfl⟩
  have HX : Hid (R3 22 w0 w.heap.size x0 x1 x2) := Lib.hid (by rw [hw0]; exact ((R3.new w _ x0 x1 x2).alloc _).alloc _)
  have HL : Hid (LBox w0 (w.heap.size + 1) m) := Lib.hid (by rw [hw0]; have h := LBox.new (w.alloc (r3box 22 x0 x1 x2)) m; rw [show (w.alloc (r3box 22 x0 x1 x2)).heap.size = w.heap.size + 1 by simp] at h; exact h.alloc _)
  have HY : Hid (R3 22 w0 (w.heap.size + 1 + 1) y0 y1 y2) := Lib.hid (by rw [hw0]; have h := R3.new ((w.alloc (r3box 22 x0 x1 x2)).alloc (lbox m)) 22 y0 y1 y2; rw [show ((w.alloc (r3box 22 x0 x1 x2)).alloc (lbox m)).heap.size = w.heap.size + 1 + 1 by simp] at h; exact h)
  have HB : Hid (Below w.heap.size w w0) := Lib.hid (by rw [hw0]; exact (((Below.refl _ _).alloc (Nat.le_refl _) _).alloc (by simp) _).alloc (by simp; omega) _)
  have HW0 := Lib.hid hw0
  clear hw0
  go_enter Try.func6, Try.ntmps6
  go_upto_region 1 with fail
  rw [← HW0.out]
  go_wp2_with fail
  refine (HA.out _).mono ?_
  rintro e w1 ⟨rfl, hb1⟩
  have HX1 := Lib.hid (HX.out.later hb1)
  have HY1 := Lib.hid (HY.out.later hb1)
  have HL1 := Lib.hid (HL.out.later hb1)
  have HB1 := Lib.hid (HB.out.trans (hb1.mono HB.out.size))
  clear hb1
  obtain ⟨c0, c1, c2⟩ := HX1.out.all
  go_wp2_with fail
  refine (HR.out _).mono ?_
  rintro e w2 ⟨rfl, hb2⟩
  have HX2 := Lib.hid (HX1.out.later hb2)
  have HY2 := Lib.hid (HY1.out.later hb2)
  have HL2 := Lib.hid (HL1.out.later hb2)
  have HB2 := Lib.hid (HB1.out.trans (hb2.mono HB1.out.size))
  clear hb2 c0 c1 c2
  go_upto_region 3 with fail
  rw [← layR_eq]
  have HG := Lib.hid (layR_G w2 0 x1 x2)
  have HX3 := Lib.hid (HX2.out.later (layR_low w2 0 x1 x2))
  have HY3 := Lib.hid (HY2.out.later (layR_low w2 0 x1 x2))
  have HL3 := Lib.hid (HL2.out.later (layR_low w2 0 x1 x2))
  have HB3 := Lib.hid (HB2.out.trans ((layR_low w2 0 x1 x2).mono HB2.out.size))
  obtain ⟨g, hg⟩ : ∃ g, g = w2.heap.size := ⟨_, rfl⟩
  rw [← hg] at HG ⊢
  generalize layR w2 0 x1 x2 = w3 at HG HX3 HY3 HL3 HB3 ⊢
  clear hg HB1 HB2 HX HY HX1 HY1 HX2 HY2 HL HL1 HL2 HW0 HB
  obtain ⟨c0, c1, c2⟩ := HX3.out.all
  go_wp2_with fail
  refine (HS.out _).mono ?_
  rintro e w4 ⟨rfl, hb4⟩
  have HG4 := Lib.hid (HG.out.later hb4)
  have HX4 := Lib.hid (HX3.out.later hb4)
  have HY4 := Lib.hid (HY3.out.later hb4)
  have HL4 := Lib.hid (HL3.out.later hb4)
  have HB4 := Lib.hid (HB3.out.trans (hb4.mono HB3.out.size))
  clear hb4 c0 c1 c2
  go_upto_region 4 with fail
  rw [← layR_eq]
  have HH := Lib.hid (layR_G w4 1 x1 x2)
  have HG5 := Lib.hid (HG4.out.later (layR_low w4 1 x1 x2))
  have HX5 := Lib.hid (HX4.out.later (layR_low w4 1 x1 x2))
  have HY5 := Lib.hid (HY4.out.later (layR_low w4 1 x1 x2))
  have HL5 := Lib.hid (HL4.out.later (layR_low w4 1 x1 x2))
  have HB5 := Lib.hid (HB4.out.trans ((layR_low w4 1 x1 x2).mono HB4.out.size))
  obtain ⟨h, hh⟩ : ∃ h, h = w4.heap.size := ⟨_, rfl⟩
  rw [← hh] at HH ⊢
  generalize layR w4 1 x1 x2 = w5 at HH HG5 HX5 HY5 HL5 HB5 ⊢
  clear hh HB3 HB4 HX3 HY3 HX4 HY4 HL3 HL4 HG HG4 HA HR HS
  obtain ⟨c0, c1, c2⟩ := HX5.out.all
  obtain ⟨d0, d1, d2⟩ := HY5.out.all
  obtain ⟨l0, l1, l2, l3, l4, l5, l6, l7⟩ := HL5.out.all
  by_cases hok : 0 ≤ x1 ∧ x1 ≤ 274877906944 ∧ 0 ≤ x2 ∧ x2 ≤ 274877906944 ∧ 0 ≤ y1 ∧ y1 ≤ 549755813888 ∧ 0 ≤ y2 ∧ y2 ≤ 549755813888 ∧ 0 ≤ m.unt ∧ m.unt ≤ 549755813888 ∧ 0 ≤ m.told ∧ m.told ≤ 549755813888
  · have HOK := Lib.hid hok
    have HBD : Hid (m.bind ≠ 0 → y0 = 3 → mayV 0 x1 x2 m y0 y1 y2 = true → m.bind ≠ 5 ∧ max (max y2 m.unt) m.told + x1 + x2 < y1) := Lib.hid (fun h0 h3 h => by subst h3; exact may_down ⟨hok.1, hok.2.1⟩ ⟨hok.2.2.1, hok.2.2.2.1⟩ ⟨hok.2.2.2.2.1, hok.2.2.2.2.2.1⟩ ⟨hok.2.2.2.2.2.2.1, hok.2.2.2.2.2.2.2.1⟩ ⟨hok.2.2.2.2.2.2.2.2.1, hok.2.2.2.2.2.2.2.2.2.1⟩ ⟨hok.2.2.2.2.2.2.2.2.2.2.1, hok.2.2.2.2.2.2.2.2.2.2.2⟩ h0 h)
    have HC0 : Hid (y0 ≠ 3 → mayV 0 x1 x2 m y0 y1 y2 = true → m.bind = 0) := Lib.hid (fun h3 h => may_calm h3 h)
    have HC1 : Hid (y0 ≠ 3 → mayV 1 x1 x2 m y0 y1 y2 = true → m.bind = 1) := Lib.hid (fun h3 h => may_calm h3 h)
    have HM0 := Lib.hid (fun V => may_any 0 x1 x2 y0 y1 y2 m V)
    have HM1 := Lib.hid (fun V => may_any 1 x1 x2 y0 y1 y2 m V)
    generalize mayV 0 x1 x2 m y0 y1 y2 = one at *
    generalize mayV 1 x1 x2 m y0 y1 y2 = two at *
    have t0 : decide (x1 < 0) = false := by simp; omega
    have t1 : decide (274877906944 < x1) = false := by simp; omega
    have t2 : decide (x2 < 0) = false := by simp; omega
    have t3 : decide (274877906944 < x2) = false := by simp; omega
    have t4 : decide (y1 < 0) = false := by simp; omega
    have t5 : decide (549755813888 < y1) = false := by simp; omega
    have t6 : decide (y2 < 0) = false := by simp; omega
    have t7 : decide (549755813888 < y2) = false := by simp; omega
    have t8 : decide (m.unt < 0) = false := by simp; omega
    have t9 : decide (549755813888 < m.unt) = false := by simp; omega
    have t10 : decide (m.told < 0) = false := by simp; omega
    have t11 : decide (549755813888 < m.told) = false := by simp; omega
    clear hok
    obtain ⟨g0, g1, g2⟩ := HG5.out.all
    go_wp2_with fail
    refine (HM0.out _).mono ?_
    rintro e w6 ⟨rfl, hb6⟩
    have HX6 := Lib.hid (HX5.out.later hb6)
    have HY6 := Lib.hid (HY5.out.later hb6)
    have HL6 := Lib.hid (HL5.out.later hb6)
    have HH6 := Lib.hid (HH.out.later hb6)
    have HB6 := Lib.hid (HB5.out.trans (hb6.mono HB5.out.size))
    clear hb6 c0 c1 c2 d0 d1 d2 l0 l1 l2 l3 l4 l5 l6 l7 g0 g1 g2 HX5 HY5 HL5 HB5 HG5 HH
    obtain ⟨d0, d1, d2⟩ := HY6.out.all
    obtain ⟨l0, l1, l2, l3, l4, l5, l6, l7⟩ := HL6.out.all
    obtain ⟨g0, g1, g2⟩ := HH6.out.all
    go_wp2_with fail
    refine (HM1.out _).mono ?_
    rintro e w7 ⟨rfl, hb7⟩
    have HX7 := Lib.hid (HX6.out.later hb7)
    have HY7 := Lib.hid (HY6.out.later hb7)
    have HL7 := Lib.hid (HL6.out.later hb7)
    have HB7 := Lib.hid (HB6.out.trans (hb7.mono HB6.out.size))
    clear hb7 d0 d1 d2 l0 l1 l2 l3 l4 l5 l6 l7 g0 g1 g2 HX6 HY6 HL6 HB6 HH6
    obtain ⟨c0, c1, c2⟩ := HX7.out.all
    obtain ⟨d0, d1, d2⟩ := HY7.out.all
    obtain ⟨l0, l1, l2, l3, l4, l5, l6, l7⟩ := HL7.out.all
    go_upto_region 8 with fail
    obtain ⟨p1, p2, p3, p4, p5, p6, p7, p8, p9, p10, p11, p12⟩ := HOK.out
    obtain ⟨M, hM⟩ : ∃ M, M = max (max y2 m.unt) m.told := ⟨_, rfl⟩
    rw [← hM] at HBD
    have hM' : (if (if y2 < m.unt then m.unt else y2) < m.told then m.told else (if y2 < m.unt then m.unt else y2)) = M := by
      rw [hM, max_if (max y2 m.unt), max_if y2]
    have q0 : 0 ≤ M := by omega
    have q1 : M ≤ 549755813888 := by omega
    clear hM p5 p6 p7 p8 p9 p10 p11 p12 t0 t1 t2 t3 t4 t5 t6 t7 t8 t9 t10 t11
    by_cases h3 : y0 = 3
    · subst h3
      cases one
      · go_wp2
        all_goals
          go_ret
          exact ⟨rfl, HB7.out⟩
      · by_cases h0 : m.bind = 0
        · go_wp2
          all_goals
            go_ret
            exact ⟨rfl, HB7.out⟩
        · obtain ⟨h5, hl⟩ := HBD.out h0 rfl rfl
          have hd : decide (M + x1 + x2 < y1) = true := decide_eq_true hl
          have s5 : (m.bind != 5) = true := by simpa using h5
          go_wp2
          all_goals
            go_ret
            exact ⟨rfl, HB7.out⟩
    · cases one
      · cases two
        · go_wp2
          all_goals
            go_ret
            exact ⟨rfl, HB7.out⟩
        · have h1 := HC1.out h3 rfl
          go_wp2
          all_goals
            go_ret
            exact ⟨rfl, HB7.out⟩
      · have h0 := HC0.out h3 rfl
        cases two
        · go_wp2
          all_goals
            go_ret
            exact ⟨rfl, HB7.out⟩
        · have h1 := HC1.out h3 rfl
          rw [h0] at h1
          exact absurd h1 (by decide)
  · have HNO := Lib.hid hok
    clear hok
    cases t0 : decide (x1 < 0)
    rotate_left
    · go_wp2
      go_ret
      exact ⟨rfl, HB5.out⟩
    cases t1 : decide (274877906944 < x1)
    rotate_left
    · go_wp2
      go_ret
      exact ⟨rfl, HB5.out⟩
    cases t2 : decide (x2 < 0)
    rotate_left
    · go_wp2
      go_ret
      exact ⟨rfl, HB5.out⟩
    cases t3 : decide (274877906944 < x2)
    rotate_left
    · go_wp2
      go_ret
      exact ⟨rfl, HB5.out⟩
    cases t4 : decide (y1 < 0)
    rotate_left
    · go_wp2
      go_ret
      exact ⟨rfl, HB5.out⟩
    cases t5 : decide (549755813888 < y1)
    rotate_left
    · go_wp2
      go_ret
      exact ⟨rfl, HB5.out⟩
    cases t6 : decide (y2 < 0)
    rotate_left
    · go_wp2
      go_ret
      exact ⟨rfl, HB5.out⟩
    cases t7 : decide (549755813888 < y2)
    rotate_left
    · go_wp2
      go_ret
      exact ⟨rfl, HB5.out⟩
    cases t8 : decide (m.unt < 0)
    rotate_left
    · go_wp2
      go_ret
      exact ⟨rfl, HB5.out⟩
    cases t9 : decide (549755813888 < m.unt)
    rotate_left
    · go_wp2
      go_ret
      exact ⟨rfl, HB5.out⟩
    cases t10 : decide (m.told < 0)
    rotate_left
    · go_wp2
      go_ret
      exact ⟨rfl, HB5.out⟩
    cases t11 : decide (549755813888 < m.told)
    rotate_left
    · go_wp2
      go_ret
      exact ⟨rfl, HB5.out⟩
    exact absurd (by simp only [decide_eq_false_iff_not] at t0 t1 t2 t3 t4 t5 t6 t7 t8 t9 t10 t11; omega) HNO.out
end Go.Proofs.Ytcgfldfjadmpdaa
